import PyProof.Rows.All
import Wide.All
import OpenK.AllK
import Wide.FinOn
import HandS.ForMost
import HandS.Wide
import HandS.IsInst
import HandS.TupAny
import HandS.TupLe
import HandS.Star
import HandS.Evl
import HandS.SortRule
import HandS.NoneIn
import HandS.Defaults
import HandS.TupSets
import HandS.Keys
import HandS.Small
import KE.KOpsOwn
import HandS.SlotsOwn
import KE.RegKIsAll
import PyProof.Draws
import HandS.ForExc
import HandS.ExcInit
import HandS.ExcField
import HandS.ExcIs
import HandS.ExcOwn
import KE.KExcIs
import HandS.SetFor
import HandS.Strs
import PySem.Challenge.RW_openranges_k03_members_of_places
set_option Elab.async false
set_option linter.all false
set_option maxRecDepth 100000
namespace OR
open PySem PySem.Spec PyProof.Rows L2
def top (i : Nat) : Stmt := PySem.Challenge.pw_openranges_k03_members_of_places.main.body.getD i (.Pass ⟨0, 0, 0, 0⟩)
abbrev sNpInit : Stmt := inClass (top 5) 0
abbrev sIsInt : Stmt := top 10
abbrev sIsPlace : Stmt := top 11
abbrev sPlInit : Stmt := inClass (top 17) 0
abbrev sPlEq : Stmt := inClass (top 17) 1
abbrev sPlBool : Stmt := inClass (top 17) 2
abbrev sPlCon : Stmt := inClass (top 17) 3
abbrev sPlGet : Stmt := inClass (top 17) 4
abbrev sPlSize : Stmt := inClass (top 17) 10
abbrev sPlRank : Stmt := inClass (top 17) 11
abbrev sPlLeast : Stmt := inClass (top 17) 12
abbrev sPlGreat : Stmt := inClass (top 17) 13
abbrev sIsStretch : Stmt := top 19
abbrev sJoined : Stmt := top 20
abbrev sCounts : Stmt := top 21
abbrev sHow : Stmt := top 22
abbrev sPen : Stmt := top 28
abbrev sDraw : Stmt := top 29
abbrev sPick : Stmt := top 30
abbrev sSpot : Stmt := top 31
abbrev sDrawn : Stmt := top 32
abbrev sMerged : Stmt := top 33
abbrev sHas : Stmt := top 34
abbrev sNear : Stmt := top 35
abbrev sWhole : Stmt := top 36
abbrev sOdd : Stmt := top 37
abbrev sLRank : Stmt := top 38
abbrev sMember : Stmt := top 39
abbrev sTold : Stmt := top 40
abbrev sLaw : Stmt := top 41
end OR

namespace OR
open PySem PySem.Spec PyProof.Rows L2
/-! ### the pen: a dict of the cells, how many have begun, what is left of the last one -/
theorem kBC : ¬ ((Sum.inr ("begun" : Str) : Key) = Sum.inr ("cells" : Str)) := by decide +kernel
theorem kLC : ¬ ((Sum.inr ("left" : Str) : Key) = Sum.inr ("cells" : Str)) := by decide +kernel
theorem kLB : ¬ ((Sum.inr ("left" : Str) : Key) = Sum.inr ("begun" : Str)) := by decide +kernel
def penK (c : Addr) (k l : Int) : List (Key × V) := [(.inr ("cells" : Str), .ref c), (.inr ("begun" : Str), .int k), (.inr ("left" : Str), .int l)]
theorem pen_cells (c : Addr) (k l : Int) : valV (penK c k l) (.inr ("cells" : Str)) = some (.ref c) := valV_pos rfl
theorem pen_begun (c : Addr) (k l : Int) : valV (penK c k l) (.inr ("begun" : Str)) = some (.int k) :=
  (valV_neg (fun e => kBC e.symm)).trans (valV_pos rfl)
theorem pen_left (c : Addr) (k l : Int) : valV (penK c k l) (.inr ("left" : Str)) = some (.int l) :=
  (valV_neg (fun e => kLC e.symm)).trans ((valV_neg (fun e => kLB e.symm)).trans (valV_pos rfl))
theorem pen_put_left (c : Addr) (k l y : Int) : putK (penK c k l) (.inr ("left" : Str)) (.int y) = penK c k y := by
  have h1 : ¬ ((Sum.inr ("cells" : Str) : Key) = Sum.inr ("left" : Str)) := fun e => kLC e.symm
  have h2 : ¬ ((Sum.inr ("begun" : Str) : Key) = Sum.inr ("left" : Str)) := fun e => kLB e.symm
  unfold putK penK
  simp only [List.any_cons, List.any_nil, List.map_cons, List.map_nil, h1, h2, decide_true, decide_false, Bool.or_false, Bool.false_or, if_true, if_false]
theorem pen_put_begun (c : Addr) (k l y : Int) : putK (penK c k l) (.inr ("begun" : Str)) (.int y) = penK c y l := by
  have h1 : ¬ ((Sum.inr ("cells" : Str) : Key) = Sum.inr ("begun" : Str)) := fun e => kBC e.symm
  have h2 : ¬ ((Sum.inr ("left" : Str) : Key) = Sum.inr ("begun" : Str)) := kLB
  unfold putK penK
  simp only [List.any_cons, List.any_nil, List.map_cons, List.map_nil, h1, h2, decide_true, decide_false, Bool.or_false, Bool.false_or, Bool.or_true, if_true, if_false]
/-- a pen at p after at most n draws -/
def Pen (H : Hp) (p : Addr) (n : Nat) : Prop := ∃ (c : Addr) (ns : List Int) (k l : Int), H p = some (.dK (penK c k l)) ∧ H c = some (.lst (ns.map V.int)) ∧ ns.length ≤ 63 ∧ 0 ≤ k ∧ k ≤ n ∧ 0 ≤ l
/-- where the pen at p keeps its cells -/
def cellsAt (H : Hp) (p c : Addr) : Prop := ∃ k l, H p = some (.dK (penK c k l))
theorem penK_inj {c c' : Addr} {k l k' l' : Int} (h : penK c k l = penK c' k' l') : c = c' := by
  unfold penK at h
  injection h with h1 _
  injection h1 with _ h2
  injection h2
theorem cellsAt.inj {H : Hp} {p c : Addr} {k l : Int} {c' : Addr} (h : cellsAt H p c) (e : H p = some (.dK (penK c' k l))) : c = c' := by
  obtain ⟨k', l', e'⟩ := h
  rw [e] at e'
  injection e' with e'
  injection e' with e'
  exact (penK_inj e').symm
/-- all but what stands at p is as it was, and the pen there has the same cells -/
structure Frm (p : Addr) (H H' : Hp) : Prop where
  at_ : ∀ b o, H b = some o → b ≠ p → H' b = some o
  ce : ∀ c, cellsAt H p c → cellsAt H' p c
instance {p : Addr} {H H' : Hp} : CoeFun (Frm p H H') (fun _ => ∀ b o, H b = some o → b ≠ p → H' b = some o) := ⟨Frm.at_⟩
theorem Frm.refl (p : Addr) (H : Hp) : Frm p H H := ⟨fun _ _ h _ => h, fun _ h => h⟩
theorem Frm.trans {p : Addr} {H H1 H2 : Hp} (a : Frm p H H1) (b : Frm p H1 H2) : Frm p H H2 := ⟨fun c o h n => b c o (a c o h n) n, fun c h => b.ce c (a.ce c h)⟩
theorem Frm.pen {p c : Addr} {H : Hp} {k l k' l' : Int} (h : H p = some (.dK (penK c k l))) : Frm p H (upd H p (.dK (penK c k' l'))) :=
  ⟨fun b x e n => by rw [upd_ne n]; exact e, fun c' h' => by rw [h'.inj h]; exact ⟨k', l', upd_same⟩⟩
theorem Frm.new {p q : Addr} {H : Hp} {o : HO} (h : H q = none) : Frm p H (upd H q o) :=
  ⟨fun b x e _ => by rw [upd_ne (ne_of_none e h)]; exact e, fun c ⟨k, l, e⟩ => ⟨k, l, by rw [upd_ne (ne_of_none e h)]; exact e⟩⟩
/-- a list that is not the pen's cells is changed -/
theorem Pen.put {H : Hp} {p c a : Addr} {n : Nat} {xs : List V} {o : HO} (P : Pen H p n) (hc : cellsAt H p c) (h : H a = some (.lst xs)) (n1 : c ≠ a) : Pen (upd H a o) p n := by
  obtain ⟨c', ns, k, l, h1, h2, h3⟩ := P
  obtain rfl := hc.inj h1
  exact ⟨c, ns, k, l, by rw [upd_ne (ne_of h1 h (by intro z; cases z))]; exact h1, by rw [upd_ne n1]; exact h2, h3⟩
theorem Pen.cells {H : Hp} {p : Addr} {n : Nat} (P : Pen H p n) : ∃ c, cellsAt H p c ∧ H c ≠ none := by
  obtain ⟨c, ns, k, l, h1, h2, _⟩ := P
  exact ⟨c, ⟨k, l, h1⟩, by rw [h2]; exact fun z => nomatch z⟩
theorem Pen.dict {H : Hp} {p : Addr} {n : Nat} (P : Pen H p n) : ∃ kvs, H p = some (.dK kvs) := by
  obtain ⟨c, ns, k, l, h1, _⟩ := P
  exact ⟨_, h1⟩
/-- what stands at a list, a tuple or an object is not the pen -/
theorem Frm.lst {H H' : Hp} {p a : Addr} {n : Nat} {xs : List V} (f : Frm p H H') (P : Pen H p n) (h : H a = some (.lst xs)) : H' a = some (.lst xs) := by
  obtain ⟨kvs, hp⟩ := P.dict
  exact f _ _ h (ne_of h hp (by intro z; cases z))
theorem Pen.mono {H : Hp} {p : Addr} {n m : Nat} (P : Pen H p n) (h : n ≤ m) : Pen H p m := by
  obtain ⟨c, ns, k, l, h1, h2, h3, h4, h5, h6⟩ := P
  exact ⟨c, ns, k, l, h1, h2, h3, h4, by omega, h6⟩
theorem Pen.new {H : Hp} {p q : Addr} {n : Nat} {o : HO} (P : Pen H p n) (h : H q = none) : Pen (upd H q o) p n := by
  obtain ⟨c, ns, k, l, h1, h2, h3, h4, h5, h6⟩ := P
  exact ⟨c, ns, k, l, by rw [upd_ne (ne_of_none h1 h)]; exact h1, by rw [upd_ne (ne_of_none h2 h)]; exact h2, h3, h4, h5, h6⟩
/-! ### the promises -/
/-- a draw: some number below m -/
def spDraw : Sp := fun vs H Q _ => ∃ (p : Addr) (m : Int) (n : Nat), vs = [.ref p, .int m] ∧ 0 < m ∧ m.natAbs < 2 ^ 200 ∧ Pen H p n ∧ n ≤ 1000000 ∧
  ∀ (r : Int) (H' : Hp), 0 ≤ r → r < m → Pen H' p (n + 1) → Frm p H H' → Q (.int r) H'
/-- a def that lets nothing out, as it is called by its name -/
structure Cl (P : Program) (w : World) (K : PySem.W.Frag) (mg : Str → Option Value) (base : Heap) (k : Nat) (x : Str) (ps : List Str) (sp : Sp) : Prop where
  ex : ∃ (f : Addr) (fd : FuncData), FnOk P w K mg base CX0 k f fd ps sp ∧ mg x = some (.ref f) ∧ PySem.W.keepIn K (.ref f) = true ∧ Binds K fd ps []
theorem pe_cl {X : Cx} {k j : Nat} {x : Str} {ps : List Str} {sp : Sp} {e : Expr} {es : List Expr} {t : TA} {p pos : Pos} (c : Cl X.prog X.w X.K X.mg X.base k x ps sp) (hr : Room j X.A) (hk : k ≤ j) (hg : Gl X x) (ha : PA X (e :: es) t)
    (hdb : (x == ("__debug__" : Str)) = false := by decide) (he : starEach (e :: es) X.env = (false, eval e X.env) :: starEach es X.env := by rfl) (hpl : (backTo pos (starEach es X.env)).any (·.1) = false := by rfl) :
    PE X (.Call (.Name x p) (e :: es) [] pos) (tCall sp [] E0 t) := by
  obtain ⟨f, fd, F, hm, hkp, hb⟩ := c.ex
  exact pe_call F (hr.mono hk) hg hm hkp hb .nil pass0 ha hdb he hpl
theorem Frm.seq {K : PySem.W.Frag} {H H' : Hp} {p a : Addr} {n : Nat} {xs : List V} (f : Frm p H H') (P : Pen H p n) (h : SqL K H a xs) : SqL K H' a xs := by
  obtain ⟨c, ns, k, l, hp, _⟩ := P
  rcases h with (h | ⟨o, h⟩) | h
  · exact .inl (.inl (f _ _ h (ne_of h hp (by intro z; cases z))))
  · exact .inl (.inr ⟨o, f _ _ h (ne_of h hp (by intro z; cases z))⟩)
  · exact .inr h
theorem Frm.tup {K : PySem.W.Frag} {H H' : Hp} {p a : Addr} {n : Nat} {xs : List V} (f : Frm p H H') (P : Pen H p n) (h : SqT K H a xs) : SqT K H' a xs := by
  obtain ⟨c, ns, k, l, hp, _⟩ := P
  rcases h with (h | ⟨o, h⟩) | h
  · exact .inl (.inl (f _ _ h (ne_of h hp (by intro z; cases z))))
  · exact .inl (.inr ⟨o, f _ _ h (ne_of h hp (by intro z; cases z))⟩)
  · exact .inr h
/-- an item of a list that is not empty -/
def spPick (K : PySem.W.Frag) : Sp := fun vs H Q _ => ∃ (p a : Addr) (xs : List V) (n : Nat), vs = [.ref p, .ref a] ∧ SqL K H a xs ∧ 0 < xs.length ∧ xs.length ≤ 1000 ∧ Pen H p n ∧ n ≤ 1000000 ∧
  ∀ (v : V) (H' : Hp), v ∈ xs → Pen H' p (n + 1) → Frm p H H' → Q v H'
/-- some number, not too great -/
def spWhole : Sp := fun vs H Q _ => ∃ (p : Addr) (n : Nat), vs = [.ref p] ∧ Pen H p n ∧ n ≤ 900000 ∧
  ∀ (r : Int) (H' : Hp), -(10 ^ 30) < r → r < 10 ^ 30 → Pen H' p (n + 3) → Frm p H H' → Q (.int r) H'
/-- the pen, made of the script -/
def spPen (K : PySem.W.Frag) : Sp := fun vs H Q _ => ∃ (a : Addr) (ns : List Int), vs = [.ref a] ∧ SqL K H a (ns.map V.int) ∧ ns.length ≤ 63 ∧
  ∀ (p : Addr) (H' : Hp), H p = none → Pen H' p 0 → Same H H' → Q (.ref p) H'
structure Bl (mg : Str → Option Value) : Prop where
  int : mg "int" = none
  len : mg "len" = none
  abs : mg "abs" = none
  list : mg "list" = none
theorem dg {H : Hp} {p : Addr} {kvs : List (Key × V)} {x : Str} {v : V} (h : H p = some (.dK kvs)) (e : valV kvs (.inr x) = some v) : DGet H p (.str x) (some v) := e ▸ DGet.k (k := .inr x) h
theorem dp {H : Hp} {p : Addr} {kvs kvs' : List (Key × V)} {x : Str} {v : V} (h : H p = some (.dK kvs)) (e : putK kvs (.inr x) v = kvs') (hl : kvs.length < sizeLine) : DPut H p (.str x) v (upd H p (.dK kvs')) := e ▸ DPut.k (k := .inr x) h hl
theorem pen_small (c : Addr) (k l : Int) : (penK c k l).length < sizeLine := by show 3 < sizeLine; decide
theorem mod_bd (a b : Int) (h : 0 < b) : 0 ≤ a % b ∧ a % b < b := ⟨Int.emod_nonneg a (by omega), Int.emod_lt_of_pos a h⟩
theorem boot_absO : bootBuiltins ("abs" : Str) = some (.builtin "abs") := by decide +kernel
section
variable {P : Program} {w : World} {K : PySem.W.Frag} {mg : Str → Option Value} {base : Heap}
theorem scDraw : FnScope ["_law_pen_here", "_law_many", "_law_digit", "_law_k", "_law_size", "_law_cell", "_law_mix"] ["_law_pen_here", "_law_many"] (defScope sDraw) := ⟨rfl, rfl, rfl, by decide +kernel, rfl, by decide +kernel, by decide +kernel⟩
theorem div200 {m : Int} (h : 0 < m) (h2 : m.natAbs < 2 ^ 200) (i : Int) : CDivW i m := wide_div h h2 (by decide) (by decide)
theorem ok_draw {f : Addr} {fd : FuncData} (F : Fun K "_law_draw" "_law_draw" sDraw f fd) (B : Bl mg) : FnOk P w K mg base CX0 1 f fd ["_law_pen_here", "_law_many"] spDraw := by
  refine F.ok scDraw (fun vs H Q E h => ?_) (fun cdv A outer s H vs Q E hr h => ?_)
  · obtain ⟨p, m, n, rfl, _⟩ := h
    rfl
  · obtain ⟨p, m, n, rfl, hm, hmb, ⟨c, ns, k, l, hp, hc, hns, hk0, hkn, hl⟩, hn, q⟩ := h
    have hu := hu_of hr
    have ncp : c ≠ p := ne_of hc hp (by intro z; cases z)
    have nd := scDraw.nd
    refine ⟨_, pss_cons (ps_if (pt_cmpR op_gt (pe_dget hu (pv 0) pe_str (fun _ _ => rfl)) pe_int (nomark _))
        (pss_cons (ps_set (i := 2) nd rfl (.inl rfl) (pe_op op_mod (pe_callTy call_int1 (by rfl) B.int boot_int (pa_cons (pe_dget hu (pv 0) pe_str (fun _ _ => rfl)) pa_nil)) (pv 1)))
        (pss_cons (ps_dput hu (pv 0) pe_str (pe_op op_fdivW (pe_dget hu (pv 0) pe_str (fun _ _ => rfl)) (pv 1)) rfl)
        (pss_one (ps_ret (pv 2))))) pss_nil)
      (pss_cons (ps_par (i := 3) (j := 4) rfl nd rfl rfl (by decide) rfl rfl (pa_cons (pe_dget hu (pv 0) pe_str (fun _ _ => rfl)) (pa_cons (pe_callB call_len_seq (by rfl) B.len PySem.boot_len (pa_cons (pe_dget hu (pv 0) pe_str (fun _ _ => rfl)) pa_nil)) pa_nil)) rfl)
      (pss_cons (ps_dput hu (pv 0) pe_str (pe_op op_add (pv 3) pe_int) rfl)
      (Evl.pss_cut (ps_set (i := 5) nd rfl (.inl rfl) (pe_ifExp (pt_cmpR op_gt (pv 4) pe_int (nomark _))
          (pe_ix ix_list (pe_dget hu (pv 0) pe_str (fun _ _ => rfl)) (pe_op op_mod (pe_callTy call_int1 (by rfl) B.int boot_int (pa_cons (pv 3) pa_nil)) (pv 4)) (fun _ _ => rfl))
          (pe_op op_add (pe_op op_mul pe_int (pv 3)) pe_int)))
      (Evl.pss_cut (ps_if (PW.pt (pw_and (pt_cmpR op_lt (pv 3) (pv 4) (nomark _)) (pw_and1 (pt_cmpR op_ge (pe_callB call_abs (by rfl) B.abs boot_absO (pa_cons (pv 5) pa_nil)) (pe_op op_pow pe_int pe_int) (nomark _)))))
        (pss_cons (ps_dput hu (pv 0) pe_str (pe_op op_fdivW (pe_op op_sub (pe_callB call_abs (by rfl) B.abs boot_absO (pa_cons (pv 5) pa_nil)) (pe_op op_pow pe_int pe_int)) (pv 1)) rfl)
        (pss_one (ps_ret (pe_op op_mod (pe_callTy call_int1 (by rfl) B.int boot_int (pa_cons (pe_op op_sub (pe_callB call_abs (by rfl) B.abs boot_absO (pa_cons (pv 5) pa_nil)) (pe_op op_pow pe_int pe_int)) pa_nil)) (pv 1))))) pss_nil)
      (pss_cons (ps_set (i := 6) nd rfl (.inl rfl) (pe_op op_mod (pe_callTy call_int1 (by rfl) B.int boot_int (pa_cons
          (pe_op op_add (pe_op op_add (pe_op op_add (pe_op op_mul (pe_op op_mod (pe_callTy call_int1 (by rfl) B.int boot_int (pa_cons (pv 5) pa_nil)) pe_int) pe_int) (pe_op op_mul (pe_op op_mul pe_int (pv 3)) (pv 3))) (pe_op op_mul pe_int (pv 3))) pe_int) pa_nil)) pe_int))
      (pss_cons (ps_set (i := 6) nd rfl (.inl rfl) (pe_op op_mod (pe_callTy call_int1 (by rfl) B.int boot_int (pa_cons
          (pe_op op_add (pe_op op_add (pe_op op_mul (pv 6) (pv 6)) (pe_op op_mul pe_int (pv 6))) (pe_op op_mul pe_int (pv 3))) pa_nil)) pe_int))
      (pss_one (ps_ret (pe_op op_mod (pe_callTy call_int1 (by rfl) B.int boot_int (pa_cons (pe_op op_fdiv (pe_op op_mod (pe_callTy call_int1 (by rfl) B.int boot_int (pa_cons (pe_op op_mul (pv 6) (pe_op op_add (pv 6) pe_int)) pa_nil)) pe_int) pe_int) pa_nil)) (pv 1)))))))))), ?_⟩
    -- if pen['left'] > 0
    have dL : DGet H p (.str "left") (some (.int l)) := dg hp (pen_left c k l)
    have dB : DGet H p (.str "begun") (some (.int k)) := dg hp (pen_begun c k l)
    have dC : DGet H p (.str "cells") (some (.ref c)) := dg hp (pen_cells c k l)
    refine ⟨_, rfl, p, .int l, rfl, dL, _, _, rfl, rfl, _, rfl, ite2 (fun e => ?_) (fun e => ?_)⟩
    · have hl1 : 0 < l := of_decide_eq_true e
      refine ⟨_, rfl, p, .int l, rfl, dL, .inl ⟨l, rfl, _, rfl, l, m, rfl, rfl, hm, ?_⟩⟩
      refine ⟨_, rfl, p, .int l, rfl, dL, _, rfl, l, m, rfl, rfl, div200 hm hmb l, _, rfl, p, _, rfl, dp hp (pen_put_left c k l _) (pen_small c k l), _, rfl, ?_⟩
      refine q (l % m) _ (mod_bd l m hm).1 (mod_bd l m hm).2 ⟨c, ns, k, l / m, upd_same, by rw [upd_ne ncp]; exact hc, hns, hk0, by omega, Int.ediv_nonneg hl (by omega)⟩ (Frm.pen hp)
    · -- k, size = pen['begun'], len(pen['cells'])
      have hcL : SqL K H c (ns.map V.int) := .inl (.inl hc)
      refine ⟨_, rfl, p, .int k, rfl, dB, _, rfl, p, .ref c, rfl, dC, c, _, rfl, .inl hcL, _, _, rfl, ?_⟩
      refine ⟨_, rfl, _, _, rfl, rfl, _, rfl, p, _, rfl, dp hp (pen_put_begun c k l _) (pen_small c k l), ?_⟩
      -- cell = ..
      have hl0 : l = 0 := by
        have : ¬ (0 < l) := fun z => e (decide_eq_true z)
        omega
      have hp1 : (upd H p (.dK (penK c (k + 1) l))) p = some (.dK (penK c (k + 1) l)) := upd_same
      have hc1 : (upd H p (.dK (penK c (k + 1) l))) c = some (.lst (ns.map V.int)) := by rw [upd_ne ncp]; exact hc
      have dC1 := dg (x := "cells") hp1 (pen_cells c (k + 1) l)
      have hcL1 : SqL K (upd H p (.dK (penK c (k + 1) l))) c (ns.map V.int) := .inl (.inl hc1)
      have fin : ∀ (r y : Int), 0 ≤ r → r < m → 0 ≤ y → ∀ H', H' = upd H p (.dK (penK c (k + 1) y)) → Q (.int r) H' := fun r y h0 h1 hy H' e => by
        subst e
        exact q r _ h0 h1 ⟨c, ns, k + 1, y, upd_same, by rw [upd_ne ncp]; exact hc, hns, by omega, by omega, hy⟩ (Frm.pen hp)
      refine ⟨fun σ' H' => ∃ cell : Int, σ' = [some (.ref p), some (.int m), none, some (.int k), some (.int ((ns.map V.int).length : Int)), some (.int cell), none] ∧ H' = upd H p (.dK (penK c (k + 1) l)), ?_, ?_⟩
      · refine ⟨_, rfl, _, _, rfl, rfl, _, rfl, ite2 (fun e2 => ?_) (fun e2 => ?_)⟩
        · have hsz : (0 : Int) < ((ns.map V.int).length : Int) := of_decide_eq_true e2
          have hb := mod_bd k _ hsz
          have hj : (k % ((ns.map V.int).length : Int)).toNat < ns.length := by
            rw [List.length_map] at hb ⊢
            omega
          refine ⟨_, rfl, p, _, rfl, dC1, _, rfl, .inl ⟨k, rfl, _, rfl, k, _, rfl, rfl, hsz, c, ns.map V.int, _, .int ns[(k % ((ns.map V.int).length : Int)).toNat], rfl, rfl, hcL1, ?_, ?_⟩⟩
          · have := atI_nat (xs := ns.map V.int) (j := (k % ((ns.map V.int).length : Int)).toNat) (v := .int ns[(k % ((ns.map V.int).length : Int)).toNat]) (by rw [List.getElem?_map, List.getElem?_eq_getElem hj]; rfl)
            rw [Int.toNat_of_nonneg hb.1] at this
            exact this
          · exact ⟨_, rfl, rfl⟩
        · refine ⟨_, rfl, _, _, rfl, rfl, .inl ⟨by decide, by decide⟩, _, _, rfl, rfl, ?_⟩
          exact ⟨_, rfl, rfl⟩
      · rintro σ' H' ⟨cell, rfl, rfl⟩
        refine ⟨fun σ' H' => σ' = [some (.ref p), some (.int m), none, some (.int k), some (.int ((ns.map V.int).length : Int)), some (.int cell), none] ∧ H' = upd H p (.dK (penK c (k + 1) l)), ?_, ?_⟩
        · have hpow : CPow 10 18 := ⟨by decide, by decide, by decide⟩
          refine ⟨_, rfl, _, rfl, _, _, rfl, rfl, _, rfl, ite2 (fun e2 => ?_) (fun e2 => ?_)⟩
          · refine ⟨_, rfl, cell, rfl, _, _, rfl, rfl, hpow, _, _, rfl, rfl, _, rfl, ite2 (fun e3 => ?_) (fun e3 => ?_)⟩
            · have hge := of_decide_eq_true e3
              refine ⟨_, rfl, cell, rfl, _, _, rfl, rfl, hpow, _, _, rfl, rfl, _, rfl, _, _, rfl, rfl, div200 hm hmb _, _, rfl, p, _, rfl, dp hp1 (pen_put_left c (k + 1) l _) (pen_small c _ l), ?_⟩
              refine ⟨_, rfl, cell, rfl, _, _, rfl, rfl, hpow, _, _, rfl, rfl, .inl ⟨_, rfl, _, rfl, _, _, rfl, rfl, hm, ?_⟩⟩
              refine fin _ (((if cell < 0 then -cell else cell) - 10 ^ (18 : Int).toNat) / m) (mod_bd _ m hm).1 (mod_bd _ m hm).2 (Int.ediv_nonneg ?_ (by omega)) _ ?_
              · show (0 : Int) ≤ (if cell < 0 then -cell else cell) - 10 ^ (18 : Int).toNat
                have : (10 : Int) ^ (18 : Int).toNat ≤ (if cell < 0 then -cell else cell) := hge
                omega
              · rw [upd_upd]
            · exact ⟨rfl, rfl⟩
          · exact iteF ⟨rfl, rfl⟩
        · rintro σ' H' ⟨rfl, rfl⟩
          -- mix
          refine ⟨_, rfl, .inl ⟨_, rfl, _, _, rfl, rfl, (by show (0 : Int) < 4294966769; decide), _, _, rfl, rfl, .inr ⟨by decide, by decide⟩, _, rfl, _, _, rfl, rfl, .inl ⟨by decide, by decide⟩, _, rfl, _, _, rfl, rfl, .inl ?_, _, _, rfl, rfl, _, rfl, _, _, rfl, rfl, .inl ⟨by decide, by decide⟩, _, _, rfl, rfl, _, _, rfl, rfl, .inl ⟨_, rfl, _, _, rfl, rfl, (by show (0 : Int) < 4294966813; decide), ?_⟩⟩⟩
          · constructor <;> omega
          -- mix again
          generalize hM : (cell % 4294966769 * 43313 + 31699 * k * k + 613 * k + 41) % 4294966813 = M
          have hMb : 0 ≤ M ∧ M < 4294966813 := hM ▸ mod_bd _ _ (by decide)
          refine ⟨_, rfl, _, rfl, _, _, rfl, rfl, .inl (by constructor <;> omega), _, rfl, _, _, rfl, rfl, .inl ⟨by decide, by decide⟩, _, _, rfl, rfl, _, rfl, _, _, rfl, rfl, .inl ⟨by decide, by decide⟩, _, _, rfl, rfl, .inl ⟨_, rfl, _, _, rfl, rfl, (by show (0 : Int) < 4294966787; decide), ?_⟩⟩
          generalize hM2 : (M * M + 40961 * M + 17 * k) % 4294966787 = M2
          have hMb2 : 0 ≤ M2 ∧ M2 < 4294966787 := hM2 ▸ mod_bd _ _ (by decide)
          refine ⟨_, rfl, _, rfl, _, _, rfl, rfl, _, _, rfl, rfl, .inl (by constructor <;> omega), .inl ⟨_, rfl, _, _, rfl, rfl, (by show (0 : Int) < 4294966661; decide), _, _, rfl, rfl, ⟨by decide, by decide⟩, .inl ⟨_, rfl, _, rfl, _, _, rfl, rfl, hm, ?_⟩⟩⟩
          exact fin _ l (mod_bd _ m hm).1 (mod_bd _ m hm).2 hl _ rfl
theorem scPick : FnScope ["_law_pen_here", "_law_items"] ["_law_pen_here", "_law_items"] (defScope sPick) := ⟨rfl, rfl, rfl, by decide +kernel, rfl, by decide +kernel, by decide +kernel⟩
theorem ok_pick {f : Addr} {fd : FuncData} (F : Fun K "_law_pick" "_law_pick" sPick f fd) (B : Bl mg) (D : Cl P w K mg base 1 "_law_draw" ["_law_pen_here", "_law_many"] spDraw) : FnOk P w K mg base CX0 2 f fd ["_law_pen_here", "_law_items"] (spPick K) := by
  refine F.ok scPick (fun vs H Q E h => ?_) (fun cdv A outer s H vs Q E hr h => ?_)
  · obtain ⟨p, a, xs, n, rfl, _⟩ := h
    rfl
  · obtain ⟨p, a, xs, n, rfl, hS, h0, h1, hP, hn, q⟩ := h
    refine ⟨_, pss_one (ps_ret (pe_ix ix_list (pv 1) (pe_cl D hr (by decide) (by rfl) (pa_cons (pv 0) (pa_cons (pe_callB call_len_seq (by rfl) B.len PySem.boot_len (pa_cons (pv 1) pa_nil)) pa_nil))) (fun _ _ => rfl))), ?_⟩
    refine ⟨_, rfl, _, rfl, _, rfl, a, xs, rfl, .inl hS, p, xs.length, n, rfl, by omega, ?_, hP, hn, fun r H' hr0 hr1 hP' hF => ?_⟩
    · have : xs.length < 2 ^ 200 := Nat.lt_of_le_of_lt h1 (by decide)
      simpa using this
    · have hj : r.toNat < xs.length := by omega
      refine ⟨a, xs, r, xs[r.toNat], rfl, rfl, hF.seq hP hS, ?_, q _ _ (List.getElem_mem hj) hP' hF⟩
      have := atI_nat (xs := xs) (j := r.toNat) (v := xs[r.toNat]) (List.getElem?_eq_getElem hj)
      rw [Int.toNat_of_nonneg hr0] at this
      exact this
theorem scPen : FnScope ["_law_script"] ["_law_script"] (defScope sPen) := ⟨rfl, rfl, rfl, by decide +kernel, rfl, by decide +kernel, by decide +kernel⟩
theorem cut63 (ns : List Int) : cutV (ns.map V.int) none (some 63) = (ns.take 63).map V.int := by
  unfold cutV
  rw [HT.sIx_none, show HT.sIx (ns.map V.int).length (ns.map V.int).length (some 63) = min 63 (ns.map V.int).length from HT.sIx_nat _ _ 63, List.drop_zero, Nat.sub_zero, List.map_take]
  rcases Nat.le_total 63 (ns.map V.int).length with h | h
  · rw [Nat.min_eq_left h]
  · rw [Nat.min_eq_right h, List.take_of_length_le (Nat.le_refl _), List.take_of_length_le h]
theorem ok_pen {f : Addr} {fd : FuncData} (F : Fun K "_law_pen" "_law_pen" sPen f fd) (B : Bl mg) : FnOk P w K mg base CX0 1 f fd ["_law_script"] (spPen K) := by
  refine F.ok scPen (fun vs H Q E h => ?_) (fun cdv A outer s H vs Q E hr h => ?_)
  · obtain ⟨a, ns, rfl, _⟩ := h
    rfl
  · obtain ⟨a, ns, rfl, hS, hlen, q⟩ := h
    refine ⟨_, pss_one (ps_ret (pe_disp (pps_cons pe_str (pe_callTy call_list_of (by rfl) B.list (by decide +kernel) (pa_cons (pe_slice sl_list (pv 0) po_none (po_some pe_int)) pa_nil)) (pps_cons pe_str pe_int (pps_cons pe_str pe_int pps_nil))) rfl rfl (by simp) (by decide))), ?_⟩
    intro p hp
    have s1 : Same H (upd H p (.dK [])) := fun b o e => by rw [upd_ne (ne_of_none e hp)]; exact e
    refine ⟨_, rfl, _, rfl, a, _, rfl, s1.seq hS, fun x hx => ?_⟩
    refine ⟨x, _, rfl, .inl (.inl (.inl upd_same)), fun c hc => ?_⟩
    have npx : p ≠ x := ne_of_none upd_same hx
    have npc : p ≠ c := by
      intro e
      subst e
      rw [upd_ne npx, upd_same] at hc
      cases hc
    have a1 : putK ([] : List (Key × V)) (.inr ("cells" : Str)) (.ref c) = [(.inr ("cells" : Str), .ref c)] := putK_new _ valV_nil
    have a2 : putK ([(.inr ("cells" : Str), .ref c)] : List (Key × V)) (.inr ("begun" : Str)) (.int 0) = [(.inr ("cells" : Str), .ref c), (.inr ("begun" : Str), .int 0)] := putK_new _ ((valV_neg (fun e => kBC e.symm)).trans valV_nil)
    have a3 : putK ([(.inr ("cells" : Str), .ref c), (.inr ("begun" : Str), .int 0)] : List (Key × V)) (.inr ("left" : Str)) (.int 0) = penK c 0 0 := putK_new _ ((valV_neg (fun e => kLC e.symm)).trans ((valV_neg (fun e => kLB e.symm)).trans valV_nil))
    have e3 : mergeK [] (penK c 0 0) = penK c 0 0 := by
      show putK (putK (putK ([] : List (Key × V)) (.inr ("cells" : Str)) (.ref c)) (.inr ("begun" : Str)) (.int 0)) (.inr ("left" : Str)) (.int 0) = penK c 0 0
      rw [a1, a2, a3]
    refine ⟨by rw [upd_ne npc, upd_ne npx, upd_same], penK c 0 0, rfl, by show 3 ≤ 15; decide, ?_⟩
    rw [e3]
    refine q p _ hp ⟨c, ns.take 63, 0, 0, upd_same, ?_, by rw [List.length_take]; omega, by omega, by omega, by omega⟩ fun b o e => ?_
    · rw [upd_ne npc.symm, upd_same, cut63]
    · have h1 := s1 b o e
      have nbx : b ≠ x := ne_of_none h1 hx
      have h2 : (upd (upd H p (.dK [])) x (.lst (cutV (ns.map V.int) none (some 63)))) b = some o := by rw [upd_ne nbx]; exact h1
      rw [upd_ne (ne_of_none e hp), upd_ne (ne_of_none h2 hc)]
      exact h2
end
end OR

namespace OR
open PySem PySem.Spec PyProof.Rows L2
/-! ### own classes: double-underscore methods behind the signs -/
/-- a method of the class at C, called with its object and arguments by position -/
structure Md (P : Program) (w : World) (K : PySem.W.Frag) (mg : Str → Option Value) (base : Heap) (k : Nat) (C : Addr) (m : Str) (sp : Sp) : Prop where
  ex : ∃ f, FnR P w K mg base CX0 k f sp ∧ PySem.W.findIn K (.ref C) m = some (some (.ref f)) ∧ PySem.W.isFn K (.ref f) = true ∧ PySem.W.fnIn K f = true
theorem fnR_of {P : Program} {w : World} {K : PySem.W.Frag} {mg : Str → Option Value} {base : Heap} {k : Nat} {f : Addr} {fd : FuncData} {ps : List Str} {sp : Sp} (F : FnOk P w K mg base CX0 k f fd ps sp) (hb : Binds K fd ps []) : FnR P w K mg base CX0 k f sp :=
  (F.raw hb .nil).imp fun vs H Q E h => by rw [List.append_nil]; exact h
section
variable {X : Cx} {n : Nat} {C : Addr} {sp : Sp}
def rBinS (C : Addr) (sp : Sp) : R2 := fun x y H Q => ∃ a b dx dy fs gs, x = .ref a ∧ y = .ref b ∧ H a = some (.ins C dx fs) ∧ H b = some (.ins C dy gs) ∧ sp [x, y] H Q E0
theorem op_binS {op : Operator} (m : Md X.prog X.w X.K X.mg X.base n C (PySem.dunder op.info.2) sp) (sf : PySem.W.selfFirst X.K C = true) (hr : Room n X.A) : OpR X (binaryOp op) (rBinS C sp) := by
  intro pins s σ H x y v u Q I rx ry h
  obtain ⟨f, F, hs, hf, _⟩ := m.ex
  obtain ⟨a, b, dx, dy, fs, gs, rfl, rfl, ha, hb, q⟩ := h
  cases (show v = Value.ref a from rx)
  cases (show u = Value.ref b from ry)
  obtain ⟨mA, J, _⟩ := ins_get I.hok ha
  obtain ⟨mB, J', _⟩ := ins_get I.hok hb
  obtain ⟨od, J, _⟩ := J.look
  obtain ⟨od', J', _⟩ := J'.look
  obtain ⟨m, hF⟩ := I.fr
  refine PySem.W.binop_K hF I.ok.mod.kin J J'.type sf hs hf ?_
  refine wpAny_mono (wpAny_call (run_fnR (us := [.ref a, .ref b]) (vs := [.ref a, .ref b]) F hr pass0 I (.cons rfl (.cons rfl .nil)) q)) (fun w s' z => ?_) fun _ _ x => x
  obtain ⟨z', H', I', rz, qz⟩ := z
  exact SlX.cmpback rz ⟨z', H', I', rz, qz⟩
/-- what + and the like ask of the class for an int on the right -/
structure BinI (K : PySem.W.Frag) (C : Addr) (op : Operator) : Prop where
  rc : ∃ rc, PySem.W.findIn K (.ref C) (PySem.dunderR op.info.2) = some rc ∧ (rc = none ∨ ∃ g : Addr, rc = some (.ref g))
  fo : ∃ fo, PySem.W.findIn K (.type "int") (PySem.dunder op.info.2) = some fo
  ro : ∃ ro, PySem.W.findIn K (.type "int") (PySem.dunderR op.info.2) = some ro
  sub : PySem.W.subIn K (.type "int") (.ref C) = some false
def rBinI (C : Addr) (sp : Sp) : R2 := fun x y H Q => ∃ a dx fs i, x = .ref a ∧ y = .int i ∧ H a = some (.ins C dx fs) ∧ sp [x, y] H Q E0
theorem op_binI {op : Operator} (m : Md X.prog X.w X.K X.mg X.base n C (PySem.dunder op.info.2) sp) (b : BinI X.K C op) (sf : PySem.W.selfFirst X.K C = true) (hr : Room n X.A) : OpR X (binaryOp op) (rBinI C sp) := by
  intro pins s σ H x y v u Q I rx ry h
  obtain ⟨f, F, hs, hf, _⟩ := m.ex
  obtain ⟨a, dx, fs, i, rfl, rfl, ha, q⟩ := h
  cases (show v = Value.ref a from rx)
  obtain ⟨t, rfl⟩ := (show ∃ t, u = Value.int i t from ry)
  obtain ⟨mA, J, _⟩ := ins_get I.hok ha
  obtain ⟨od, J, _⟩ := J.look
  obtain ⟨m, hF⟩ := I.fr
  obtain ⟨rc, hrc, hp⟩ := b.rc
  obtain ⟨fo, h1⟩ := b.fo
  obtain ⟨ro, h2⟩ := b.ro
  refine PySem.W.ksp_binT (T := "int") hF I.ok.mod.kin J rfl sf hs hf hrc hp h1 h2 b.sub ?_
  refine wpAny_mono (wpAny_call (run_fnR (us := [.ref a, .int i t]) (vs := [.ref a, .int i]) F hr pass0 I (.cons rfl (.cons ⟨t, rfl⟩ .nil)) q)) (fun w s' z => ?_) fun _ _ x => x
  obtain ⟨z', H', I', rz, qz⟩ := z
  exact SlX.cmpback rz ⟨z', H', I', rz, qz⟩
def rNegO (C : Addr) (sp : Sp) : V → Hp → VK → Prop := fun x H Q => ∃ a dx fs, x = .ref a ∧ H a = some (.ins C dx fs) ∧ sp [x] H Q E0
theorem un_negO (m : Md X.prog X.w X.K X.mg X.base n C "__neg__" sp) (hr : Room n X.A) : UnR X (unaryOp .USub) (rNegO C sp) := by
  intro pins s σ H x v Q I rx h
  obtain ⟨f, F, hs, hf, _⟩ := m.ex
  obtain ⟨a, dx, fs, rfl, ha, q⟩ := h
  cases (show v = Value.ref a from rx)
  obtain ⟨mA, J, _⟩ := ins_get I.hok ha
  obtain ⟨od, J, _⟩ := J.look
  obtain ⟨m, hF⟩ := I.fr
  refine PySem.W.ksp_neg hF I.ok.mod.kin J hs hf ?_
  refine wpAny_mono (wpAny_call (run_fnR (us := [.ref a]) (vs := [.ref a]) F hr pass0 I (.cons rfl .nil) q)) (fun w s' z => ?_) fun _ _ x => x
  exact z
end
/-- a reading may ask for more -/
theorem pe_imp {X : Cx} {e : Expr} {t t' : TE} (h : PE X e t) (i : ∀ σ H Q, t' σ H Q → t σ H Q) : PE X e t' := ⟨fun pins s σ H Q I q => h.run pins s σ H Q I (i σ H Q q)⟩
structure FnAt (K : PySem.W.Frag) (x : Str) (st : Stmt) : Prop where
  ex : ∃ f fd, Fun K x x st f fd ∧ PySem.W.nsIn K mainGlobals x = some (some (.ref f))
theorem fnAt {K : PySem.W.Frag} {h : Heap} {x : Str} {st : Stmt} {f : Addr} {oc : Value} {od an : Option Addr} {osl : Array (Option Value)} {kV doc pm cdv ct : Value} (_X : K.In h)
    (a : PySem.W.nsIn K mainGlobals x = some (some (.ref f))) (l : K.lookup f = some ⟨oc, od, .func (PySem.W.fnOf x x (defArgs st) (defBody st) (defScope st) .none kV doc pm an cdv ct), osl⟩)
    (c : PySem.W.codeIn K cdv x = true) (k : PySem.W.keepIn K (.ref f) = true) : FnAt K x st := ⟨f, _, fun_mk l c k, a⟩
structure MtAt (K : PySem.W.Frag) (C : Addr) (m m' qual : Str) (st : Stmt) : Prop where
  ex : ∃ f fd, Fun K m qual st f fd ∧ PySem.W.findIn K (.ref C) m' = some (some (.ref f)) ∧ PySem.W.isFn K (.ref f) = true ∧ PySem.W.fnIn K f = true
theorem mtAt {K : PySem.W.Frag} {h : Heap} {C : Addr} {m m' qual : Str} {st : Stmt} {f : Addr} {oc : Value} {od an : Option Addr} {osl : Array (Option Value)} {kV doc pm cdv ct : Value} (_X : K.In h)
    (a : PySem.W.findIn K (.ref C) m' = some (some (.ref f))) (l : K.lookup f = some ⟨oc, od, .func (PySem.W.fnOf m qual (defArgs st) (defBody st) (defScope st) .none kV doc pm an cdv ct), osl⟩)
    (c : PySem.W.codeIn K cdv qual = true) (k : PySem.W.keepIn K (.ref f) = true) (i : PySem.W.isFn K (.ref f) = true) (n : PySem.W.fnIn K f = true) : MtAt K C m m' qual st := ⟨f, _, fun_mk l c k, a, i, n⟩
section
variable {P : Program} {w : World} {K : PySem.W.Frag} {mg : Str → Option Value} {base h : Heap}
theorem cl_of {x : Str} {st : Stmt} {k : Nat} {ps : List Str} {sp : Sp} (a : FnAt K x st) (X : K.In h) (G : h.Ns mainGlobals mg)
    (hb : ∀ (kV doc pm : Value) (an : Option Addr) (cdv ct : Value) (us : List Value), us.length = ps.length → bindArgs (PySem.W.fnOf x x (defArgs st) (defBody st) (defScope st) .none kV doc pm an cdv ct) ⟨us, []⟩ = pure (ps.zip us))
    (ok : ∀ f fd, Fun K x x st f fd → FnOk P w K mg base CX0 k f fd ps sp) : Cl P w K mg base k x ps sp := by
  obtain ⟨f, fd, F, e⟩ := a.ex
  exact ⟨f, fd, ok f fd F, PySem.W.mg_of X G e, F.kp, F.binds hb⟩
theorem md_of {C : Addr} {m m' qual : Str} {st : Stmt} {k : Nat} {ps : List Str} {sp : Sp} (a : MtAt K C m m' qual st)
    (hb : ∀ (kV doc pm : Value) (an : Option Addr) (cdv ct : Value) (us : List Value), us.length = ps.length → bindArgs (PySem.W.fnOf m qual (defArgs st) (defBody st) (defScope st) .none kV doc pm an cdv ct) ⟨us, []⟩ = pure (ps.zip us))
    (ok : ∀ f fd, Fun K m qual st f fd → FnOk P w K mg base CX0 k f fd ps sp) : Md P w K mg base k C m' sp := by
  obtain ⟨f, fd, F, e, i, n⟩ := a.ex
  exact ⟨f, fnR_of (ok f fd F) (F.binds hb), e, i, n⟩
end
end OR

namespace OR
open PySem PySem.Spec PyProof.Rows L2
open AutoSeq1 (wpAny_loadPart')
/-! ### enumerate of a tuple -/
section
variable {prog : Program} {w : World} {A : Around} {E : Value → Shared → Prop} {s : Shared}
theorem nextOf_tup_item {it t : Addr} {i : Nat} {items : Array Value} {x : Value} {Q : Value → Shared → Prop} (hit : s.heap.IsTupleIter it t i) (ht : s.heap.IsTuple t items) (hx : items[i]? = some x)
    (hQ : ∀ h', h'.IsTupleIter it t (i + 1) → Heap.SameBut it s.heap h' → Q x { s with heap := h' }) : wpAny (model prog w) A (Builtin.SmallTypes.nextOf (.ref it)) Q E s := by
  obtain ⟨o, ho, hc, hd⟩ := id hit
  obtain ⟨ol, hol, _, nl, hdl⟩ := ht
  unfold Builtin.SmallTypes.nextOf
  refine wpAny_bind (wpAny_callSpecial?_slot (name := Str.ofString "__next__") hit.typeIs F.slot_tuple_iterator_next (wpAny_call_entry F.slot_tuple_iterator_next hit.typeIs F.entry_tuple_iterator_next ?_ (F.args_tuple_iterator_next_1 _)))
  show wpAny _ _ (field (.ref it) 0 >>= _) _ _ s
  refine wpAny_bind (wpAny_field ho hd (x := .ref t) rfl ?_)
  show wpAny _ _ (if (Value.ref t == Value.none) = true then _ else _) _ _ s
  rw [if_neg (show ¬ ((Value.ref t == Value.none) = true) by exact Bool.false_ne_true)]
  show wpAny _ _ (field (.ref it) 1 >>= _) _ _ s
  refine wpAny_bind (wpAny_field ho hd (x := .int i 0) rfl ?_)
  show wpAny _ _ (seqItems? (.ref t) >>= _) _ _ s
  refine wpAny_bind (wpAny_seqItems hol hdl ?_)
  simp only [Int.toNat_natCast, hx]
  refine wpAny_bind (wpAny_setField ho hd (by simp) (wpAny_pure ⟨x, rfl, wpAny_pure (hQ _ ⟨_, Heap.get?_update_self _ ho (Obj.isFreed_of_fields (Obj.data_mapFields hd _)), (Obj.cls_mapFields ..).trans hc, by
    rw [Obj.data_mapFields hd]; simp [rawInt]⟩ (Heap.SameBut.update ..))⟩))
theorem nextOf_tup_end {it t : Addr} {i : Nat} {items : Array Value} {Q : Value → Shared → Prop} (hh : A.handled = none) (hit : s.heap.IsTupleIter it t i) (ht : s.heap.IsTuple t items) (hx : items[i]? = none)
    (hE : ∀ h' e, Heap.ExtBut it s.heap h' → (∃ o, h'.get? e = some o ∧ o.cls = .type "StopIteration") → E (.ref e) { s with heap := h' }) : wpAny (model prog w) A (Builtin.SmallTypes.nextOf (.ref it)) Q E s := by
  obtain ⟨o, ho, hc, hd⟩ := id hit
  obtain ⟨ol, hol, _, nl, hdl⟩ := ht
  unfold Builtin.SmallTypes.nextOf
  refine wpAny_bind (wpAny_callSpecial?_slot (name := Str.ofString "__next__") hit.typeIs F.slot_tuple_iterator_next (wpAny_call_entry F.slot_tuple_iterator_next hit.typeIs F.entry_tuple_iterator_next ?_ (F.args_tuple_iterator_next_1 _)))
  show wpAny _ _ (field (.ref it) 0 >>= _) _ _ s
  refine wpAny_bind (wpAny_field ho hd (x := .ref t) rfl ?_)
  show wpAny _ _ (if (Value.ref t == Value.none) = true then _ else _) _ _ s
  rw [if_neg (show ¬ ((Value.ref t == Value.none) = true) by exact Bool.false_ne_true)]
  show wpAny _ _ (field (.ref it) 1 >>= _) _ _ s
  refine wpAny_bind (wpAny_field ho hd (x := .int i 0) rfl ?_)
  show wpAny _ _ (seqItems? (.ref t) >>= _) _ _ s
  refine wpAny_bind (wpAny_seqItems hol hdl ?_)
  simp only [Int.toNat_natCast, hx]
  refine wpAny_bind (wpAny_rule (wpAny_bind (wpAny_setField ho hd (by simp) ?_)))
  show wpAny _ _ (newExc (.type "StopIteration") [] >>= _) _ _ _
  refine wpAny_bind ?_
  simp only [newExc, newTuple]
  refine wpAny_bind (wpAny_newObj_type ?_ (by size_fits))
  refine wpAny_bind (m := firstArgMember _ _) (wpAny_of_eq (a := Value.none) (by first | rfl | (simp only [firstArgMember]; rfl)) ?_)
  refine wpAny_newObj_type ?_ (by size_fits)
  simp only [raiseNew]
  refine wpAny_bind (wpAny_handled ?_)
  first | rw [show A.in1.handled = none from hh] | rw [hh]
  refine wpAny_bind (wpAny_pure (wpAny_throw ?_))
  exact hE _ _ (((Heap.SameBut.update ..).extBut.push _).push _) ⟨_, Heap.get?_push_size _ rfl, rfl⟩
theorem draws_tup (hh : A.handled = none) (it t : Addr) (hne : t ≠ it) (items : Array Value) :
    Draws prog w A it [it, t] items.size (fun i v => items[i]? = some v) (fun i h => h.IsTupleIter it t i ∧ h.IsTuple t items) where
  live := fun _ _ st => let ⟨o, ho, _⟩ := st.1; ⟨o, ho⟩
  frame := fun _ _ _ st hk => ⟨let ⟨o, ho, r⟩ := st.1; ⟨o, hk it (by simp) o ho, r⟩, let ⟨o, ho, r⟩ := st.2; ⟨o, hk t (by simp) o ho, r⟩⟩
  item := fun i s Q E hi st hQ => by
    refine nextOf_tup_item st.1 st.2 (x := items[i]) (by simp [hi]) fun h' hit' hs' => ?_
    exact hQ _ h' s.toks (by simp [hi]) ⟨hit', st.2.extBut hs'.extBut hne⟩ hs'
  done := fun s Q E st hE => nextOf_tup_end hh st.1 st.2 (by simp) hE
theorem meets_enum_tup (l : Addr) (items : Array Value) (n : Nat) (dct : Option Addr) (sl : Array (Option Value)) :
    Meets (Builtin.«enumerate.__new__» ⟨[.type "enumerate", .ref l], []⟩) (fun _ R s => s.heap.get? l = some { cls := .type "tuple", dict := dct, data := .seq items n, slots := sl } ∧
      R (.ok (.ret (.ref (s.heap.push { cls := .type "tuple_iterator", data := .fields #[.ref l, .int 0 0] }).objs.size)))
        { s with heap := (s.heap.push { cls := .type "tuple_iterator", data := .fields #[.ref l, .int 0 0] }).push { cls := .type "enumerate", data := .fields #[.none, .bool false, .ref s.heap.objs.size, rawInt 0, .none, .none] } }) :=
  .of_wp fun prog w A R s h => by
    obtain ⟨hp, g, d, tk, os⟩ := s
    obtain ⟨hl, h⟩ := h
    have hsub := sub_enumerate
    have hL : Heap.IsTuple (Shared.heap ⟨hp, g, d, tk, os⟩) l items := ⟨_, hl, rfl, n, rfl⟩
    wp_walk using wpAny_loadPart' hl
    refine wpAny_stack_any fun st => wpAny_pure ?_
    split
    · rename_i c _ _ _ _ _
      cases (c == Value.type "enumerate")
      · wp_walk using wpAny_loadPart' hl, wpAny_pyIter_tuple hL
        exact ⟨_, rfl, h⟩
      · wp_walk using wpAny_loadPart' hl, wpAny_pyIter_tuple hL
        exact ⟨_, rfl, h⟩
    · wp_walk using wpAny_loadPart' hl, wpAny_pyIter_tuple hL
      exact ⟨_, rfl, h⟩
theorem call_enum_tup {l : Addr} {items : Array Value} {Q : Value → Shared → Prop} (hL : s.heap.IsTuple l items)
    (h : ∀ h', IsEnum h' (s.heap.objs.size + 1) s.heap.objs.size 0 .none → h'.IsTupleIter s.heap.objs.size l 0 → h'.objs.size = s.heap.objs.size + 2 →
      (∀ b o, s.heap.get? b = some o → h'.get? b = some o) → Q (.ref (s.heap.objs.size + 1)) { s with heap := h' }) :
    wpAny (model prog w) A (call (.type "enumerate") [.ref l]) Q E s := by
  obtain ⟨⟨c, dct, dt, sl⟩, hl, hc, n, hd⟩ := hL
  replace hc : c = .type "tuple" := hc
  replace hd : dt = .seq items n := hd
  subst hc hd
  refine callType_new F.called_enumerate (by decide) (F.typeCall_enumerate_1 _) (F.newCall_enumerate_1 _) (fun obj => F.args_object_init_2 obj _) F.entry_enumerate_new (meets_enum_tup l items n dct sl) ⟨hl, ?_⟩
  have hz : (s.heap.push { cls := .type "tuple_iterator", data := .fields #[.ref l, .int 0 0] }).objs.size = s.heap.objs.size + 1 := Heap.size_push ..
  show _ ∧ _
  rw [hz]
  have he : IsEnum ((s.heap.push { cls := .type "tuple_iterator", data := .fields #[.ref l, .int 0 0] }).push
      { cls := .type "enumerate", data := .fields #[.none, .bool false, .ref s.heap.objs.size, rawInt 0, .none, .none] }) (s.heap.objs.size + 1) s.heap.objs.size 0 .none := by
    have := Heap.get?_push_size (s.heap.push { cls := .type "tuple_iterator", data := .fields #[.ref l, .int 0 0] })
      (o := { cls := .type "enumerate", data := .fields #[.none, .bool false, .ref s.heap.objs.size, rawInt 0, .none, .none] }) rfl
    rw [hz] at this; exact this
  refine ⟨⟨_, he, rfl⟩, h _ he ⟨_, Heap.get?_push_of_some _ (Heap.get?_push_size _ rfl), rfl, rfl⟩ (by rw [Heap.size_push, hz]) fun b o x => Heap.get?_push_of_some _ (Heap.get?_push_of_some _ x)⟩
end
/-- the tuple at a as it stands at each turn, each item in a new pair -/
def IteT (K : PySem.W.Frag) (a : Addr) : It :=
  ⟨fun i H => ∃ (xs : List V) (x : V), SqT K H a xs ∧ xs[i]? = some x, fun i H v H' => ∃ T x, v = .ref T ∧ H T = none ∧ H' = upd H T (.tup [.int (i : Nat), x]) ∧ ∀ xs, SqT K H a xs → xs[i]? = some x, fun i H => ∃ xs : List V, SqT K H a xs ∧ xs.length ≤ i⟩
theorem turn_enumT {P : Program} {w : World} {K : PySem.W.Frag} {elts : List Expr} {kk : Nat} {tpos : Pos} (a e it : Addr) (hai : a ≠ it) (hea : e ≠ a) :
    Turn P w K (.Tuple elts kk tpos) (IteT K a) [e, it] e (fun i h => (∃ old, IsEnum h e it ((i : Nat) : Int) old) ∧ h.IsTupleIter it a i ∧ e ≠ it) where
  mem := by simp
  obj := fun i h st b hb => by
    obtain ⟨⟨old, he⟩, ⟨o, ho, hc, hd⟩, _⟩ := st
    have e' : b = e ∨ b = it := by simpa using hb
    rcases e' with z | z
    · rw [z]; exact ⟨_, he, fun v q => nomatch q⟩
    · rw [z]; exact ⟨o, ho, fun v q => by rw [hd] at q; cases q⟩
  keep := fun i h h' st k => by
    obtain ⟨⟨old, he⟩, ⟨o, ho, r⟩, hne⟩ := st
    exact ⟨⟨old, k e (by simp) _ he⟩, ⟨o, k it (by simp) o ho, r⟩, hne⟩
  item := by
    intro X hP hw hK hc i pins s σ H E I hf st hg
    subst hP hw hK
    obtain ⟨⟨old, he⟩, hit, hne⟩ := st
    obtain ⟨xs, x, hq, hx⟩ := hg
    obtain ⟨its, rv, p, hz⟩ := I.tuple hq
    obtain ⟨u, hu, ru⟩ := rv.get hx
    have hel : e < s.heap.objs.size := Heap.lt_size he
    have hil : it < s.heap.objs.size := by obtain ⟨_, q, _⟩ := hit; exact Heap.lt_size q
    have hD := draws_tup (prog := X.prog) (w := X.w) (A := X.A.in1) (I.ok.hd hc) it a hai its.toArray
    have hlt : i < its.toArray.size := by
      have := (List.getElem?_eq_some_iff.mp hu).1
      simpa using this
    refine wpAny_pyNext_enum_itemD hD he ⟨hit, show s.heap.IsTuple a its.toArray from p⟩ hlt hne (by simp [hne, hea]) fun y h' tk hy ho hst' hT hsz hk => ?_
    obtain rfl : y = u := by
      have h1 : its[i]? = some y := by simpa using hy
      rw [hu] at h1
      exact (Option.some.inj h1).symm
    refine ⟨_, rfl, wpAny_letOwnedTupleGo_enum (s := { s with heap := h', toks := tk + 1 }) ho fun h'' he' sb => ?_⟩
    have hT2 : h''.get? s.heap.objs.size = some { cls := .type "tuple", data := .seq #[.int i tk, y] } := (sb.2 _ (Nat.ne_of_gt hel)).trans hT
    have new : ObjOk X.prog X.w (upd H s.heap.objs.size (.tup [.int (i : Nat), x])) h'' s.heap.objs.size (.tup [.int (i : Nat), x]) :=
      ⟨by show 2 ≤ sizeLine; decide, [.int i tk, y], .cons ⟨_, rfl⟩ (.cons ru .nil), ⟨_, hT2, rfl, _, rfl⟩⟩
    have I1 : Inv X pins σ (upd H s.heap.objs.size (.tup [.int (i : Nat), x])) { s with heap := h'', toks := tk + 1 } :=
      I.turnedNew (ch := [e, it]) (fun b ob hb q => (sb.2 b (fun z => hb (by simp [z]))).trans (hk b ob (fun z => hb (by simp [z])) (fun z => hb (by simp [z])) q)) hf (Nat.le_refl _) new
    refine ⟨.ref s.heap.objs.size, _, I1, rfl, ⟨_, x, rfl, I.hok.fresh (Nat.le_refl _), rfl, fun ys hy => by rw [I.tuple_inj hy hq]; exact hx⟩, ⟨⟨y, ?_⟩, ?_, hne⟩, fun b hb => ?_⟩
    · have e1 : ((i + 1 : Nat) : Int) = (i : Int) + 1 := by omega
      rw [e1]; exact he'
    · obtain ⟨o, ho', r⟩ := hst'.1
      exact ⟨o, (sb.2 it (Ne.symm hne)).trans ho', r⟩
    · have hb' : b < s.heap.objs.size := by
        have e' : b = e ∨ b = it := by simpa using hb
        rcases e' with z | z
        · rw [z]; exact hel
        · rw [z]; exact hil
      rw [upd_ne (Nat.ne_of_lt hb')]
      exact (hf b hb).1
  done := by
    intro X hP hw hK hc i pins s σ H E I hf st hg
    subst hP hw hK
    obtain ⟨⟨old, he⟩, hit, hne⟩ := st
    obtain ⟨xs, hq, hx⟩ := hg
    obtain ⟨its, rv, p, hz⟩ := I.tuple hq
    obtain ⟨f0, f1, f2, f3, f4, f5⟩ := hf it (by simp)
    have hl := rv.length
    have hT : s.TypeIs (.ref e) "enumerate" := ⟨_, he, rfl⟩
    unfold pyNext
    refine wpAny_bind (wpAny_attempt (wpAny_callSpecial?_slot (name := Str.ofString "__next__") hT F.slot_enumerate_next (wpAny_call_entry F.slot_enumerate_next hT F.entry_enumerate_next ?_ (F.args_enumerate_next_1 _))))
    show wpAny _ _ (field (.ref e) 2 >>= _) _ _ _
    refine wpAny_bind (wpAny_field he rfl (x := .ref it) rfl ?_)
    refine wpAny_bind (nextOf_tup_end (I.ok.hd hc) hit (show s.heap.IsTuple a its.toArray from p) (by simp; omega) fun h' x he' hx' => ?_)
    obtain ⟨o, ho, hc'⟩ := hx'
    refine wpAny_bind (wpAny_isInstance (T := "StopIteration") (b := true) ⟨o, ho, hc'⟩ isSubtype_stop ?_)
    exact wpAny_pure ⟨rfl, I.turned (t' := s.toks) (fun b o hb q => he' b o hb q) f0 f1 f3 f4 f5⟩
  self := fun A i s Q E st h => let ⟨⟨_, he⟩, _⟩ := st; wpAny_pyIter_enum he h
def iEnumT (K : PySem.W.Frag) (ta : TA) : TI := fun σ H R => ta σ H fun vs H1 => ∃ a xs, vs = [.ref a] ∧ SqT K H1 a xs ∧ R (IteT K a) H1
theorem pi_enumT {X : Cx} {e : Expr} {ta : TA} {p pos tpos : Pos} {elts : List Expr} {kk : Nat} (hg : Gl X "enumerate") (hm : X.mg "enumerate" = none) (ha : PA X [e] ta) (hs : starEach [e] X.env = [(false, eval e X.env)] := by rfl) :
    PI X (.Tuple elts kk tpos) (.Call (.Name "enumerate" p) [e] [] pos) (iEnumT X.K ta) := by
  refine ⟨fun pins s σ H R I h => ?_⟩
  refine Call_ (ld_blt I hg hm boot_enumerate (PyProof.Rows.callWith_type1 (thn (ha.run pos pins s σ H _ I h) fun us s1 ⟨vs, H1, I1, r1, q1⟩ => ?_) hs rfl))
  obtain ⟨a, xs, ex, hq, q⟩ := q1
  subst ex
  cases r1 with
  | cons r rr =>
    cases rr
    cases r
    obtain ⟨its, rv, p', hz⟩ := I1.tuple hq
    have pt : s1.heap.IsTuple a its.toArray := p'
    have hal : a < s1.heap.objs.size := by obtain ⟨o, ho, _⟩ := pt; exact Heap.lt_size ho
    refine call_enum_tup pt fun h' he hit hsz hk => wpAny_pyIter_enum he ?_
    have I2 : Inv X pins σ H1 { s1 with heap := h' } := I1.kept (t' := s1.toks) hk
    refine ⟨s1.heap.objs.size + 1, [s1.heap.objs.size + 1, s1.heap.objs.size], _, _, H1, rfl, I2, turn_enumT a (s1.heap.objs.size + 1) s1.heap.objs.size (Nat.ne_of_lt hal) (Nat.ne_of_gt (Nat.lt_succ_of_lt hal)), ⟨⟨.none, he⟩, hit, Nat.succ_ne_self _⟩, fun b hb => ?_, q⟩
    have e' : b = s1.heap.objs.size + 1 ∨ b = s1.heap.objs.size := by simpa using hb
    have hle : s1.heap.objs.size ≤ b := by
      rcases e' with z | z
      · rw [z]; exact Nat.le_add_right _ _
      · rw [z]; exact Nat.le_refl _
    exact I1.fpOk hle (I1.hok.fresh hle)
/-- either reading of what is walked -/
theorem pi_or {X : Cx} {tg iter : Expr} {w1 w2 : TI} (h1 : PI X tg iter w1) (h2 : PI X tg iter w2) : PI X tg iter (fun σ H R => w1 σ H R ∨ w2 σ H R) :=
  ⟨fun pins s σ H R I q => q.elim (h1.run pins s σ H R I) (h2.run pins s σ H R I)⟩
theorem pg_or {X : Cx} {tg : Expr} {g1 g2 : TG} (h1 : PG X tg g1) (h2 : PG X tg g2) : PG X tg (fun v σ H Q => g1 v σ H Q ∨ g2 v σ H Q) :=
  ⟨fun pins s σ H x v Q I r q => q.elim (h1.run pins s σ H x v Q I r) (h2.run pins s σ H x v Q I r)⟩
end OR

namespace OR
abbrev Row := Int × Int
def mem (l : List Row) (x : Int) : Prop := ∃ r ∈ l, r.1 ≤ x ∧ x ≤ r.2
theorem mem_nil (x : Int) : ¬ mem [] x := fun ⟨_, h, _⟩ => nomatch h
theorem mem_cons {r : Row} {l : List Row} {x : Int} : mem (r :: l) x ↔ (r.1 ≤ x ∧ x ≤ r.2) ∨ mem l x := by
  constructor
  · rintro ⟨q, hq, h⟩
    rcases List.mem_cons.mp hq with e | e
    · subst e
      exact .inl h
    · exact .inr ⟨q, e, h⟩
  · rintro (h | ⟨q, hq, h⟩)
    · exact ⟨r, List.mem_cons_self, h⟩
    · exact ⟨q, List.mem_cons_of_mem _ hq, h⟩
theorem mem_append {l m : List Row} {x : Int} : mem (l ++ m) x ↔ mem l x ∨ mem m x := by
  constructor
  · rintro ⟨q, hq, h⟩
    rcases List.mem_append.mp hq with e | e
    · exact .inl ⟨q, e, h⟩
    · exact .inr ⟨q, e, h⟩
  · rintro (⟨q, hq, h⟩ | ⟨q, hq, h⟩)
    · exact ⟨q, List.mem_append_left _ hq, h⟩
    · exact ⟨q, List.mem_append_right _ hq, h⟩
theorem mem_same {l m : List Row} (h : ∀ r, r ∈ l ↔ r ∈ m) (x : Int) : mem l x ↔ mem m x :=
  ⟨fun ⟨q, hq, k⟩ => ⟨q, (h q).mp hq, k⟩, fun ⟨q, hq, k⟩ => ⟨q, (h q).mpr hq, k⟩⟩
theorem mem_reverse {l : List Row} {x : Int} : mem l.reverse x ↔ mem l x := mem_same (fun _ => List.mem_reverse) x
/-- the one form: in order, with a gap between any two -/
structure Nf (l : List Row) : Prop where
  ok : ∀ r ∈ l, r.1 ≤ r.2
  gap : l.Pairwise fun r s => r.2 + 1 < s.1
theorem Nf.nil : Nf [] := ⟨fun _ h => (nomatch h), .nil⟩
theorem Nf.tail {r : Row} {l : List Row} (h : Nf (r :: l)) : Nf l := ⟨fun q hq => h.ok q (List.mem_cons_of_mem _ hq), (List.pairwise_cons.mp h.gap).2⟩
theorem Nf.head {r : Row} {l : List Row} (h : Nf (r :: l)) : r.1 ≤ r.2 := h.ok r List.mem_cons_self
theorem Nf.behind {r : Row} {l : List Row} (h : Nf (r :: l)) {x : Int} (m : mem l x) : r.2 + 1 < x := by
  obtain ⟨q, hq, h1, _⟩ := m
  have := (List.pairwise_cons.mp h.gap).1 q hq
  omega
/-- the one form is told by its places -/
theorem Nf.unique : ∀ {l m : List Row}, Nf l → Nf m → (∀ x, mem l x ↔ mem m x) → l = m
  | [], [], _, _, _ => rfl
  | [], s :: m, _, hm, h => absurd ((h s.1).mpr (mem_cons.mpr (.inl ⟨Int.le_refl _, hm.head⟩))) (mem_nil _)
  | r :: l, [], hl, _, h => absurd ((h r.1).mp (mem_cons.mpr (.inl ⟨Int.le_refl _, hl.head⟩))) (mem_nil _)
  | r :: l, s :: m, hl, hm, h => by
    have lr := hl.head
    have ls := hm.head
    have least : ∀ {x}, mem (r :: l) x → r.1 ≤ x := fun {x} hx => by
      rcases mem_cons.mp hx with k | k
      · exact k.1
      · have := hl.behind k; omega
    have least' : ∀ {x}, mem (s :: m) x → s.1 ≤ x := fun {x} hx => by
      rcases mem_cons.mp hx with k | k
      · exact k.1
      · have := hm.behind k; omega
    have e1 : r.1 = s.1 := by
      have a := least ((h s.1).mpr (mem_cons.mpr (.inl ⟨Int.le_refl _, ls⟩)))
      have b := least' ((h r.1).mp (mem_cons.mpr (.inl ⟨Int.le_refl _, lr⟩)))
      omega
    have nr : ¬ mem (r :: l) (r.2 + 1) := fun k => by
      rcases mem_cons.mp k with k | k
      · omega
      · have := hl.behind k; omega
    have ns : ¬ mem (s :: m) (s.2 + 1) := fun k => by
      rcases mem_cons.mp k with k | k
      · omega
      · have := hm.behind k; omega
    have e2 : r.2 = s.2 := by
      rcases Int.lt_trichotomy r.2 s.2 with k | k | k
      · exact absurd ((h _).mpr (mem_cons.mpr (.inl ⟨by omega, by omega⟩))) nr
      · exact k
      · exact absurd ((h _).mp (mem_cons.mpr (.inl ⟨by omega, by omega⟩))) ns
    have e : r = s := Prod.ext e1 e2
    subst e
    congr 1
    refine Nf.unique hl.tail hm.tail fun x => ⟨fun k => ?_, fun k => ?_⟩
    · have b := hl.behind k
      rcases mem_cons.mp ((h x).mp (mem_cons.mpr (.inr k))) with z | z
      · omega
      · exact z
    · have b := hm.behind k
      rcases mem_cons.mp ((h x).mpr (mem_cons.mpr (.inr k))) with z | z
      · omega
      · exact z
/-- a row more behind rows in one form, which are written backwards -/
def jstep : List Row → Row → List Row
  | [], r => [r]
  | q :: t, r => if r.1 ≤ q.2 + 1 then (q.1, if r.2 > q.2 then r.2 else q.2) :: t else r :: q :: t
def jfold (l : List Row) : List Row := l.foldl jstep []
/-- what the fold keeps: acc stands backwards -/
structure Jn (acc : List Row) (done : List Row) (b : Int) : Prop where
  nf : Nf acc.reverse
  up : ∀ q ∈ acc, q.1 ≤ b
  me : ∀ x, mem acc x ↔ mem done x
theorem nf_snoc {l : List Row} {r : Row} (h : Nf l) (hr : r.1 ≤ r.2) (hg : ∀ q ∈ l, q.2 + 1 < r.1) : Nf (l ++ [r]) := by
  refine ⟨fun q hq => ?_, List.pairwise_append.mpr ⟨h.gap, List.pairwise_singleton _ _, fun a ha b hb => ?_⟩⟩
  · rcases List.mem_append.mp hq with k | k
    · exact h.ok q k
    · rw [List.mem_singleton.mp k]; exact hr
  · rw [List.mem_singleton.mp hb]; exact hg a ha
theorem nf_unsnoc {l : List Row} {r : Row} (h : Nf (l ++ [r])) : Nf l ∧ r.1 ≤ r.2 ∧ ∀ q ∈ l, q.2 + 1 < r.1 := by
  have g := List.pairwise_append.mp h.gap
  exact ⟨⟨fun q hq => h.ok q (List.mem_append_left _ hq), g.1⟩, h.ok r (List.mem_append_right _ (List.mem_singleton.mpr rfl)), fun q hq => g.2.2 q hq r (List.mem_singleton.mpr rfl)⟩
theorem Jn.step {acc done : List Row} {b : Int} {r : Row} (h : Jn acc done b) (hb : b ≤ r.1) (hr : r.1 ≤ r.2) : Jn (jstep acc r) (done ++ [r]) r.1 := by
  have tailm : ∀ x, mem [r] x ↔ (r.1 ≤ x ∧ x ≤ r.2) := fun x => by
    rw [mem_cons]
    exact ⟨fun k => k.elim id fun z => absurd z (mem_nil _), .inl⟩
  cases acc with
  | nil =>
    refine ⟨nf_snoc Nf.nil hr (fun _ z => nomatch z), fun q hq => ?_, fun x => ?_⟩
    · rw [List.mem_singleton.mp hq]; exact Int.le_refl _
    · rw [mem_append, ← h.me x]
      exact ⟨.inr, fun k => k.elim (fun z => absurd z (mem_nil _)) id⟩
  | cons q t =>
    have n := h.nf
    rw [List.reverse_cons] at n
    obtain ⟨nt, hq, gq⟩ := nf_unsnoc n
    have hqr : q.1 ≤ r.1 := Int.le_trans (h.up q List.mem_cons_self) hb
    show Jn (if r.1 ≤ q.2 + 1 then (q.1, if r.2 > q.2 then r.2 else q.2) :: t else r :: q :: t) (done ++ [r]) r.1
    by_cases c : r.1 ≤ q.2 + 1
    · rw [if_pos c]
      refine ⟨?_, fun z hz => ?_, fun x => ?_⟩
      · rw [List.reverse_cons]
        refine nf_snoc nt ?_ fun z hz => gq z hz
        show q.1 ≤ (if r.2 > q.2 then r.2 else q.2)
        split <;> omega
      · rcases List.mem_cons.mp hz with e | e
        · subst e; exact hqr
        · exact Int.le_trans (h.up z (List.mem_cons_of_mem _ e)) hb
      · rw [mem_append, ← h.me x, mem_cons, mem_cons, tailm]
        show ((q.1 ≤ x ∧ x ≤ (if r.2 > q.2 then r.2 else q.2)) ∨ mem t x) ↔ _
        constructor
        · rintro (⟨k1, k2⟩ | k)
          · by_cases hx : x ≤ q.2
            · exact .inl (.inl ⟨k1, hx⟩)
            · split at k2
              · exact .inr ⟨by omega, k2⟩
              · omega
          · exact .inl (.inr k)
        · rintro ((⟨k1, k2⟩ | k) | ⟨k1, k2⟩)
          · refine .inl ⟨k1, ?_⟩
            split <;> omega
          · exact .inr k
          · refine .inl ⟨by omega, ?_⟩
            split <;> omega
    · rw [if_neg c]
      refine ⟨?_, fun z hz => ?_, fun x => ?_⟩
      · rw [List.reverse_cons, List.reverse_cons]
        refine nf_snoc n hr fun z hz => ?_
        rcases List.mem_append.mp hz with k | k
        · have := gq z k; omega
        · rw [List.mem_singleton.mp k]; omega
      · rcases List.mem_cons.mp hz with e | e
        · subst e; exact Int.le_refl _
        · exact Int.le_trans (h.up z e) hb
      · rw [mem_append, ← h.me x, mem_cons, tailm]
        exact ⟨fun k => k.elim .inr .inl, fun k => k.elim .inr .inl⟩
theorem Jn.nil (b : Int) : Jn [] [] b := ⟨Nf.nil, fun _ h => (nomatch h), fun _ => Iff.rfl⟩
/-- the fold over rows that ascend -/
theorem jfold_go : ∀ (l acc done : List Row) (b : Int), Jn acc done b → (∀ r ∈ l, r.1 ≤ r.2) → (∀ r ∈ l, b ≤ r.1) → l.Pairwise (fun r s => r.1 ≤ s.1) → ∃ b', Jn (l.foldl jstep acc) (done ++ l) b'
  | [], acc, done, b, h, _, _, _ => ⟨b, by rw [List.append_nil]; exact h⟩
  | r :: l, acc, done, b, h, ho, hb, hs => by
    have p := List.pairwise_cons.mp hs
    obtain ⟨b', h'⟩ := jfold_go l (jstep acc r) (done ++ [r]) r.1 (h.step (hb r List.mem_cons_self) (ho r List.mem_cons_self)) (fun q hq => ho q (List.mem_cons_of_mem _ hq)) (fun q hq => p.1 q hq) p.2
    exact ⟨b', by rw [List.append_assoc] at h'; exact h'⟩
theorem jfold_ok {l : List Row} (ho : ∀ r ∈ l, r.1 ≤ r.2) (hs : l.Pairwise (fun r s => r.1 ≤ s.1)) : Nf (jfold l).reverse ∧ ∀ x, mem (jfold l).reverse x ↔ mem l x := by
  cases l with
  | nil => exact ⟨Nf.nil, fun _ => Iff.rfl⟩
  | cons r l =>
    have p := List.pairwise_cons.mp hs
    obtain ⟨b', h⟩ := jfold_go (r :: l) [] [] r.1 (Jn.nil _) ho (fun q hq => by
      rcases List.mem_cons.mp hq with e | e
      · subst e; exact Int.le_refl _
      · exact p.1 q e) hs
    exact ⟨h.nf, fun x => by rw [mem_reverse]; exact h.me x⟩
end OR

namespace OR
open PySem PySem.Spec PyProof.Rows L2
/-! ### the code of Places -/
def lastP : Int := 10 ^ 30
def placeB (n : Int) : Bool := decide (0 ≤ n) && decide (n ≤ lastP)
def okRow (r : Row) : Bool := placeB r.1 && (placeB r.2 && decide (r.1 ≤ r.2))
structure PTxt (K : PySem.W.Frag) (mg : Str → Option Value) (C : Addr) : Prop where
  cl : Cls K C
  nS : NoAttr K C "stretches"
  nF : NoAttr K C "_firsts"
  nB : NoAttr K C "_before"
  mgC : mg "Places" = some (.ref C)
  isi : SlX.SIsi K C
  kPP : PySem.W.kitOne K (.ref C) (.ref C) = some true
  zIsi : mg "isinstance" = none
  zInt : mg "int" = none
  zBool : mg "bool" = none
  zTup : mg "tuple" = none
  zList : mg "list" = none
  zLen : mg "len" = none
  zMax : mg "max" = none
  zSort : mg "sorted" = none
  zEnum : mg "enumerate" = none
  last : ∃ t, mg "LAST_PLACE" = some (.int lastP t)
theorem bt_isi : bootBuiltins ("isinstance" : Str) = some (.builtin "isinstance") := by decide +kernel
theorem bt_int : bootBuiltins ("int" : Str) = some (.type "int") := by decide +kernel
theorem bt_bool : bootBuiltins ("bool" : Str) = some (.type "bool") := by decide +kernel
theorem bt_tup : bootBuiltins ("tuple" : Str) = some (.type "tuple") := by decide +kernel
theorem bt_list : bootBuiltins ("list" : Str) = some (.type "list") := by decide +kernel
theorem bt_max : bootBuiltins ("max" : Str) = some (.builtin "max") := by decide +kernel
theorem bt_min : bootBuiltins ("min" : Str) = some (.builtin "min") := by decide +kernel
theorem bt_sorted : bootBuiltins ("sorted" : Str) = some (.builtin "sorted") := by decide +kernel
/-- any value whose type is known -/
def spIsIntG (K : PySem.W.Frag) : Sp := fun vs H Q _ => ∃ (x : V) (T : String) (b1 b2 : Bool), vs = [x] ∧ TyX K H x (.type T) ∧ kitB T "int" = some b1 ∧ kitB T "bool" = some b2 ∧ Q (.bl (b1 && !b2)) H
def spIsPlace (K : PySem.W.Frag) : Sp := fun vs H Q _ => ∃ x, vs = [x] ∧ ((∃ n, x = .int n ∧ Q (.bl (placeB n)) H) ∨ ∃ (T : String) (b1 b2 : Bool), TyX K H x (.type T) ∧ kitB T "int" = some b1 ∧ kitB T "bool" = some b2 ∧ (b1 && !b2) = false ∧ Q (.bl false) H)
/-- a pair of integers, a tuple or a list -/
def PairAt (H : Hp) (a : Addr) (r : Row) : Prop := H a = some (.tup [.int r.1, .int r.2]) ∨ H a = some (.lst [.int r.1, .int r.2])
def spIsStretchP : Sp := fun vs H Q _ => ∃ a r, vs = [.ref a] ∧ PairAt H a r ∧ ∀ H', Same H H' → Q (.bl (okRow r)) H'
section
variable {P : Program} {w : World} {K : PySem.W.Frag} {mg : Str → Option Value} {base : Heap}
theorem scIsI : FnScope ["value"] ["value"] (defScope sIsInt) := ⟨rfl, rfl, rfl, by decide +kernel, rfl, by decide +kernel, by decide +kernel⟩
theorem ok_isintG {f C : Addr} {fd : FuncData} (F : Fun K "is_integer" "is_integer" sIsInt f fd) (T : PTxt K mg C) : FnOk P w K mg base CX0 1 f fd ["value"] (spIsIntG K) := by
  refine F.ok scIsI (fun vs H Q E h => ?_) (fun cdv A outer s H vs Q E hr h => ?_)
  · obtain ⟨x, _, _, _, rfl, _⟩ := h
    rfl
  · obtain ⟨x, ty, b1, b2, rfl, hT, h1, h2, q⟩ := h
    refine ⟨_, pss_one (ps_ret (pe_and (pe_callB call_isi (by rfl) T.zIsi bt_isi (pa_cons (pv 0) (pa_cons (pe_bltn (v := .ty "int") (by rfl) T.zInt bt_int rfl) pa_nil)))
      (pe_one (pe_not (pe_callB call_isi (by rfl) T.zIsi bt_isi (pa_cons (pv 0) (pa_cons (pe_bltn (v := .ty "bool") (by rfl) T.zBool bt_bool rfl) pa_nil))))))), ?_⟩
    refine ⟨_, rfl, x, .ty "int", _, _, b1, rfl, .ty "int", hT, kit_ty h1, b1, rfl, ?_⟩
    cases b1 with
    | true => exact iteT ⟨_, rfl, x, .ty "bool", _, _, b2, rfl, .ty "bool", hT, kit_ty h2, b2, rfl, q⟩
    | false => exact iteF q
theorem scIsP : FnScope ["value"] ["value"] (defScope sIsPlace) := ⟨rfl, rfl, rfl, by decide +kernel, rfl, by decide +kernel, by decide +kernel⟩
theorem ok_isplace {f C : Addr} {fd : FuncData} (F : Fun K "is_place" "is_place" sIsPlace f fd) (T : PTxt K mg C) (I : Cl P w K mg base 1 "is_integer" ["value"] (spIsIntG K)) : FnOk P w K mg base CX0 2 f fd ["value"] (spIsPlace K) := by
  refine F.ok scIsP (fun vs H Q E h => ?_) (fun cdv A outer s H vs Q E hr h => ?_)
  · obtain ⟨x, rfl, _⟩ := h
    rfl
  · obtain ⟨x, rfl, h⟩ := h
    obtain ⟨tl, hl⟩ := T.last
    refine ⟨_, pss_one (ps_ret (pe_and (pe_cl I hr (by decide) (by rfl) (pa_cons (pv 0) pa_nil)) (pe_one (pe_chain op_le op_le pe_int (pv 0) (pe_glob (v := .int lastP) (by rfl) hl ⟨tl, rfl⟩))))), ?_⟩
    rcases h with ⟨n, rfl, q⟩ | ⟨ty, b1, b2, hT, h1, h2, hb, q⟩
    · refine ⟨_, rfl, .int n, "int", true, false, rfl, .base (.int n), by decide +kernel, by decide +kernel, true, rfl, iteT ?_⟩
      refine ⟨_, rfl, _, _, rfl, rfl, _, rfl, ?_⟩
      unfold placeB at q
      cases e : decide ((0 : Int) ≤ n) with
      | true =>
        rw [e] at q
        exact iteT ⟨_, _, rfl, rfl, q⟩
      | false =>
        rw [e] at q
        exact iteF q
    · exact ⟨_, rfl, x, ty, b1, b2, rfl, hT, h1, h2, _, rfl, by rw [hb]; exact iteF q⟩
theorem scIsS : FnScope ["value", "first", "last"] ["value"] (defScope sIsStretch) := ⟨rfl, rfl, rfl, by decide +kernel, rfl, by decide +kernel, by decide +kernel⟩
theorem ok_isstretch {f C : Addr} {fd : FuncData} (F : Fun K "_is_stretch" "_is_stretch" sIsStretch f fd) (T : PTxt K mg C) (I : Cl P w K mg base 2 "is_place" ["value"] (spIsPlace K)) : FnOk P w K mg base CX0 3 f fd ["value"] spIsStretchP := by
  refine F.ok scIsS (fun vs H Q E h => ?_) (fun cdv A outer s H vs Q E hr h => ?_)
  · obtain ⟨a, r, rfl, _⟩ := h
    rfl
  · obtain ⟨a, r, rfl, hp, q⟩ := h
    have nd := scIsS.nd
    refine ⟨_, pss_cons (ps_if (PW.pt (pw_or (pt_not (pt_val (pe_callB call_isiT (by rfl) T.zIsi bt_isi (pa_cons (pv 0) (pa_cons (pe_tup (pa_cons (pe_bltn (v := .ty "tuple") (by rfl) T.zTup bt_tup rfl) (pa_cons (pe_bltn (v := .ty "list") (by rfl) T.zList bt_list rfl) pa_nil))) pa_nil)))))
        (pw_or1 (pt_cmpR op_ne (pe_callB call_len_seq (by rfl) T.zLen PySem.boot_len (pa_cons (pv 0) pa_nil)) pe_int (nomark _))))) (pss_one (ps_ret pe_bl)) pss_nil)
      (pss_cons (ps_asg (pv 0) (pg_or (pg_tup rfl (pgs_cons (pg_name (i := 1) nd rfl (.inl rfl)) (pgs_cons (pg_name (i := 2) nd rfl (.inl rfl)) pgs_nil))) (pg_unl rfl (pgs_cons (pg_name (i := 1) nd rfl (.inl rfl)) (pgs_cons (pg_name (i := 2) nd rfl (.inl rfl)) pgs_nil)))))
      (pss_one (ps_ret (pe_and (pe_cl I hr (by decide) (by rfl) (pa_cons (pv 1) pa_nil)) (pe_and (pe_cl I hr (by decide) (by rfl) (pa_cons (pv 2) pa_nil)) (pe_one (pe_cmpR op_le (pv 1) (pv 2) (nomark _)))))))), ?_⟩
    refine ⟨_, rfl, by show 2 ≤ sizeLine; decide, fun t ht => ?_⟩
    have S1 : Same H (upd H t (.tup [.ty "tuple", .ty "list"])) := fun b o e => by rw [upd_ne (ne_of_none e ht)]; exact e
    have hp1 : PairAt (upd H t (.tup [.ty "tuple", .ty "list"])) a r := hp.elim (fun e => .inl (S1 _ _ e)) fun e => .inr (S1 _ _ e)
    have hseq : SqL K (upd H t (.tup [.ty "tuple", .ty "list"])) a [.int r.1, .int r.2] ∨ SqT K (upd H t (.tup [.ty "tuple", .ty "list"])) a [.int r.1, .int r.2] := hp1.elim (fun e => .inr (.inl (.inl e))) fun e => .inl (.inl (.inl e))
    have hty : ∃ T, TyX K (upd H t (.tup [.ty "tuple", .ty "list"])) (.ref a) (.type T) ∧ PySem.W.kitAny K (.type T) [.type "tuple", .type "list"] = some true := by
      rcases hp1 with e | e
      · exact ⟨"tuple", .base (.tup e), kitAny_cons (kit_ty (b := "tuple") (r := true) (by decide +kernel)) (fun z => nomatch z) fun _ => rfl⟩
      · exact ⟨"list", .base (.lst e), kitAny_cons (kit_ty (b := "tuple") (r := false) (by decide +kernel)) (fun _ => kitAny_cons (kit_ty (b := "list") (r := true) (by decide +kernel)) (fun z => nomatch z) fun _ => rfl) fun z => nomatch z⟩
    obtain ⟨ty, hT, hk⟩ := hty
    refine ⟨.ref a, t, _, .type ty, [.type "tuple", .type "list"], true, rfl, upd_same, .cons (.ty "tuple") (.cons (.ty "list") .nil), hT, hk, true, rfl, iteF ?_⟩
    refine ⟨_, rfl, a, _, rfl, hseq, rfl, _, rfl, iteNS rfl ?_⟩
    have fin : ∀ (Q' : Prop), (Q (.bl (okRow r)) (upd H t (.tup [.ty "tuple", .ty "list"])) → Q') → Q' := fun Q' k => k (q _ S1)
    have tail : ∀ σ : L2.St, σ = [some (.ref a), some (.int r.1), some (.int r.2)] → (tRet (tAndV (tCall (spIsPlace K) [] E0 (tCons (tVar 1) tNil)) (tAndV (tCall (spIsPlace K) [] E0 (tCons (tVar 2) tNil)) (tOp (rI0 fun i j => .bl (decide (i ≤ j))) (tVar 1) (tVar 2))))) { nx := fun _ H' => Q .non H', rt := Q } σ (upd H t (.tup [.ty "tuple", .ty "list"])) := by
      intro σ e
      subst e
      refine ⟨_, rfl, _, rfl, .inl ⟨r.1, rfl, _, rfl, ?_⟩⟩
      have q1 := q _ S1
      unfold okRow at q1
      cases e1 : placeB r.1 with
      | false => rw [e1] at q1; exact iteF q1
      | true =>
        rw [e1] at q1
        refine iteT ⟨_, rfl, _, rfl, .inl ⟨r.2, rfl, _, rfl, ?_⟩⟩
        cases e2 : placeB r.2 with
        | false => rw [e2] at q1; exact iteF q1
        | true =>
          rw [e2] at q1
          exact iteT ⟨_, rfl, _, rfl, _, _, rfl, rfl, q1⟩
    rcases hp1 with e | e
    · exact ⟨_, rfl, .inl ⟨a, _, rfl, .inl (.inl e), rfl, _, _, rfl, _, _, rfl, rfl, tail _ rfl⟩⟩
    · exact ⟨_, rfl, .inr ⟨a, _, rfl, .inl (.inl e), rfl, _, _, rfl, _, _, rfl, rfl, tail _ rfl⟩⟩
end
end OR

namespace OR
open PySem PySem.Spec PyProof.Rows L2
/-- all but what stands at p is as it was -/
def Fre (p : Addr) (H H' : Hp) : Prop := ∀ b o, H b = some o → b ≠ p → H' b = some o
theorem Fre.refl (p : Addr) (H : Hp) : Fre p H H := fun _ _ h _ => h
theorem Fre.trans {p : Addr} {H H1 H2 : Hp} (a : Fre p H H1) (b : Fre p H1 H2) : Fre p H H2 := fun c o h n => b c o (a c o h n) n
theorem Fre.put {p : Addr} {H : Hp} {o : HO} : Fre p H (upd H p o) := fun b x e n => by rw [upd_ne n]; exact e
/-! ### rows of pairs in the heap -/
abbrev ARow := Addr × Row
def refs (L : List ARow) : List V := L.map fun p => V.ref p.1
def rws (L : List ARow) : List Row := L.map (·.2)
def AtR (H : Hp) (L : List ARow) : Prop := ∀ p ∈ L, H p.1 = some (.tup [.int p.2.1, .int p.2.2])
def PairsAt (H : Hp) (L : List ARow) : Prop := ∀ p ∈ L, PairAt H p.1 p.2
theorem AtR.same {H H' : Hp} {L : List ARow} (h : AtR H L) (s : Same H H') : AtR H' L := fun p hp => s _ _ (h p hp)
theorem PairsAt.same {H H' : Hp} {L : List ARow} (h : PairsAt H L) (s : Same H H') : PairsAt H' L := fun p hp => (h p hp).elim (fun e => .inl (s _ _ e)) fun e => .inr (s _ _ e)
theorem AtR.pairs {H : Hp} {L : List ARow} (h : AtR H L) : PairsAt H L := fun p hp => .inl (h p hp)
theorem refs_len (L : List ARow) : (refs L).length = L.length := List.length_map ..
theorem rws_len (L : List ARow) : (rws L).length = L.length := List.length_map ..
theorem refs_snoc (L : List ARow) (p : ARow) : refs (L ++ [p]) = refs L ++ [.ref p.1] := by unfold refs; rw [List.map_append]; rfl
theorem rws_snoc (L : List ARow) (p : ARow) : rws (L ++ [p]) = rws L ++ [p.2] := by unfold rws; rw [List.map_append]; rfl
theorem refs_get {L : List ARow} {i : Nat} {v : V} (h : (refs L)[i]? = some v) : ∃ p, L[i]? = some p ∧ p ∈ L ∧ v = .ref p.1 := by
  unfold refs at h
  rw [List.getElem?_map] at h
  cases e : L[i]? with
  | none => rw [e] at h; cases h
  | some p => rw [e] at h; exact ⟨p, rfl, List.mem_of_getElem? e, (Option.some.inj h).symm⟩
theorem rws_get {L : List ARow} {i : Nat} {p : ARow} (h : L[i]? = some p) : (rws L)[i]? = some p.2 := by
  unfold rws
  rw [List.getElem?_map, h]
  rfl
theorem mem_rws {L : List ARow} {r : Row} : r ∈ rws L ↔ ∃ a, (a, r) ∈ L := by
  unfold rws
  rw [List.mem_map]
  exact ⟨fun ⟨p, hp, e⟩ => ⟨p.1, by rw [← e]; exact hp⟩, fun ⟨a, h⟩ => ⟨(a, r), h, rfl⟩⟩
/-- what a reference to a pair is worth -/
def kOf (H : Hp) : V → Int × Int
  | .ref a => match H a with
    | some (.tup [.int x, .int y]) => (x, y)
    | _ => (0, 0)
  | _ => (0, 0)
theorem kOf_at {H : Hp} {a : Addr} {x y : Int} (h : H a = some (.tup [.int x, .int y])) : kOf H (.ref a) = (x, y) := by
  show (match H a with
    | some (.tup [.int x, .int y]) => (x, y)
    | _ => (0, 0)) = (x, y)
  rw [h]
def adr : V → Addr
  | .ref a => a
  | _ => 0
/-- an arrangement of references is one of rows -/
theorem refs_perm {H : Hp} {M : List ARow} {ys : List V} (hM : AtR H M) (hp : ys.Perm (refs M)) : ∃ S : List ARow, ys = refs S ∧ AtR H S ∧ (∀ r, r ∈ rws S ↔ r ∈ rws M) ∧ S.length = M.length ∧ rws S = ys.map (kOf H) := by
  have each : ∀ y ∈ ys, ∃ p ∈ M, y = .ref p.1 ∧ kOf H y = p.2 := fun y hy => by
    have := hp.mem_iff.mp hy
    unfold refs at this
    obtain ⟨p, hpM, e⟩ := List.mem_map.mp this
    subst e
    exact ⟨p, hpM, rfl, kOf_at (hM p hpM)⟩
  have back : ∀ p ∈ M, V.ref p.1 ∈ ys := fun p hpM => hp.mem_iff.mpr (List.mem_map.mpr ⟨p, hpM, rfl⟩)
  refine ⟨ys.map fun y => (adr y, kOf H y), ?_, ?_, fun r => ?_, ?_, ?_⟩
  · unfold refs
    rw [List.map_map]
    refine Eq.trans (List.map_id ys).symm (List.map_congr_left fun y hy => ?_)
    obtain ⟨p, _, rfl, _⟩ := each y hy
    rfl
  · intro q hq
    obtain ⟨y, hy, e⟩ := List.mem_map.mp hq
    obtain ⟨p, hpM, rfl, k⟩ := each y hy
    subst e
    show H p.1 = some (.tup [.int (kOf H (.ref p.1)).1, .int (kOf H (.ref p.1)).2])
    rw [k]
    exact hM p hpM
  · unfold rws
    rw [List.map_map, List.mem_map, List.mem_map]
    constructor
    · rintro ⟨y, hy, e⟩
      obtain ⟨p, hpM, rfl, k⟩ := each y hy
      exact ⟨p, hpM, by rw [← e]; exact k.symm⟩
    · rintro ⟨p, hpM, e⟩
      exact ⟨.ref p.1, back p hpM, by rw [← e]; exact kOf_at (hM p hpM)⟩
  · rw [List.length_map, hp.length_eq, refs_len]
  · unfold rws
    rw [List.map_map]
    rfl
theorem jstep_len : ∀ (acc : List Row) (r : Row), (jstep acc r).length ≤ acc.length + 1
  | [], r => Nat.le_refl _
  | q :: t, r => by
    show (if r.1 ≤ q.2 + 1 then (q.1, if r.2 > q.2 then r.2 else q.2) :: t else r :: q :: t).length ≤ _
    split
    · exact Nat.le_succ _
    · exact Nat.le_refl _
theorem jfold_len : ∀ (l acc : List Row), (l.foldl jstep acc).length ≤ acc.length + l.length
  | [], acc => Nat.le_refl _
  | r :: l, acc => by
    have h1 := jfold_len l (jstep acc r)
    have h2 := jstep_len acc r
    show (l.foldl jstep (jstep acc r)).length ≤ _
    rw [List.length_cons]
    omega
theorem ixN_last (n : Nat) : ixN (n + 1) (-1) = some n := by
  unfold ixN
  rw [if_neg (by omega), if_pos (by omega)]
  congr 1
  omega
theorem set_last (xs : List V) (v u : V) : (xs ++ [v]).set xs.length u = xs ++ [u] := by
  rw [List.set_append_right _ _ (Nat.le_refl _), Nat.sub_self]
  rfl
def rTupOf (K : PySem.W.Frag) : List V → Hp → VK → Prop := fun xs H Q => ∃ p ys, xs = [.ref p] ∧ ((SqL K H p ys ∧ ∀ l, H l = none → Q (.ref l) (upd H l (.tup ys))) ∨ (SqT K H p ys ∧ Q (.ref p) H))
theorem call_tupOf {X : Cx} (K : PySem.W.Frag) (h : X.K = K) : CallR X (.type "tuple") (rTupOf K) := by
  subst h
  exact call_tuple_of
theorem yesT {σ : L2.St} {H : Hp} {A B : Hp → Prop} (h : A H) : tYes σ H (fun b H3 => if b = true then A H3 else B H3) := by
  show if true = true then A H else B H
  rw [if_pos rfl]
  exact h
theorem same_upd {H H' : Hp} {b : Addr} {u : HO} (s : Same H H') (h : H b = none) : Same H (upd H' b u) := fun c v e => by rw [upd_ne (ne_of_none e h)]; exact s c v e
theorem same_lay {H : Hp} {q : Addr} {o : HO} (h : H q = none) : Same H (upd H q o) := fun b x e => by rw [upd_ne (ne_of_none e h)]; exact e
theorem sameT {K : PySem.W.Frag} {H H' : Hp} {a : Addr} {xs : List V} (e : Same H H') (h : SqT K H a xs) : SqT K H' a xs := by
  rcases h with (h | ⟨o, h⟩) | h
  · exact .inl (.inl (e _ _ h))
  · exact .inl (.inr ⟨o, e _ _ h⟩)
  · exact .inr h
def spJoined (K : PySem.W.Frag) : Sp := fun vs H Q _ => ∃ (a : Addr) (L : List ARow), vs = [.ref a] ∧ (SqL K H a (refs L) ∨ SqT K H a (refs L)) ∧ L.length ≤ 1000 ∧ PairsAt H L ∧ (∀ r ∈ rws L, r.1 ≤ r.2) ∧
  ∀ (t : Addr) (M : List ARow) (H' : Hp), Same H H' → H t = none → H' t = some (.tup (refs M)) → AtR H' M → Nf (rws M) → (∀ x, mem (rws M) x ↔ mem (rws L) x) → M.length ≤ L.length → Q (.ref t) H'
section
variable {P : Program} {w : World} {K : PySem.W.Frag} {mg : Str → Option Value} {base : Heap}
theorem scJ : FnScope ["stretches", "rows", "first", "last", "stretch"] ["stretches"] (defScope sJoined) := ⟨rfl, rfl, rfl, by decide +kernel, rfl, by decide +kernel, by decide +kernel⟩
theorem small_l {n : Nat} (h : n ≤ 1000) : n ≤ sizeLine := Nat.le_of_lt (small1000 h)
theorem ok_joined {f C : Addr} {fd : FuncData} (F : Fun K "_joined" "_joined" sJoined f fd) (T : PTxt K mg C) : FnOk P w K mg base CX0 1 f fd ["stretches"] (spJoined K) := by
  refine F.ok scJ (fun vs H Q E h => ?_) (fun cdv A outer s H vs Q E hr h => ?_)
  · obtain ⟨a, L, rfl, _⟩ := h
    rfl
  · obtain ⟨a, L, rfl, hS, hlen, hP, hok, q⟩ := h
    have nd := scJ.nd
    refine ⟨_, pss_cons (ps_set (i := 1) nd rfl (.inl rfl) (pe_lst pa_nil))
      (pss_cons (ps_for PassesOwn.never rfl (pi_list (pe_callB cr_sortedPO (by rfl) T.zSort bt_sorted (pa_cons
            (pe_lc (own := [("stretch", 4)]) (g := gName 4) (tt := tYes) rfl nd (pi_or (pi_list (pv 0)) (pi_tup (pv 0))) (blkOk_by (N := ["stretches", "rows", "first", "last", "stretch"]) (sc := defScope sJoined) (by decide +kernel))
              (fun _ _ _ _ _ => pg_name (i := 4) nd rfl (.inl rfl)) (fun _ _ _ _ _ => pts_nil) (fun _ _ _ _ _ => pe_callTy (call_tupOf K rfl) (by rfl) T.zTup bt_tup (pa_cons (pv 4) pa_nil))) pa_nil)))
          (pg_tup rfl (pgs_cons (pg_name (i := 2) nd rfl (.inl rfl)) (pgs_cons (pg_name (i := 3) nd rfl (.inl rfl)) pgs_nil)))
        (pss_one (ps_if (PW.pt (pw_and (pt_truth (pv 1) (by intro _; rfl)) (pw_and1 (pt_cmpR op_le (pv 2) (pe_op op_add (pe_ix ix_tup (pe_ix ix_list (pv 1) (pe_un un_neg pe_int) (fun _ _ => rfl)) pe_int (fun _ _ => rfl)) pe_int) (nomark _)))))
          (pss_one (ps_asg (pe_tup (pa_cons (pe_ix ix_tup (pe_ix ix_list (pv 1) (pe_un un_neg pe_int) (fun _ _ => rfl)) pe_int (fun _ _ => rfl))
              (pa_cons (pe_callB (call_max2 rfl) (by rfl) T.zMax bt_max (pa_cons (pe_ix ix_tup (pe_ix ix_list (pv 1) (pe_un un_neg pe_int) (fun _ _ => rfl)) pe_int (fun _ _ => rfl)) (pa_cons (pv 3) pa_nil))) pa_nil)))
            (pg_sub (pv 1) (pe_un un_neg pe_int) set_list)))
          (pss_one (ps_expr (pe_bm PySem.F.plainAttrs_list PySem.F.slot_list_append PySem.F.type_list_append mt_append (pv 1) (pa_cons (pe_tup (pa_cons (pv 2) (pa_cons (pv 3) pa_nil))) pa_nil)))))))
      (pss_one (ps_ret (pe_callTy call_tuple_of (by rfl) T.zTup bt_tup (pa_cons (pv 1) pa_nil))))), ?_⟩
    refine ⟨Nat.zero_le _, fun o no => ?_⟩
    have S1 : Same H (upd H o (.lst [])) := fun b u e => by rw [upd_ne (ne_of_none e no)]; exact e
    rcases hS with hS | hS
    · refine .inl ⟨_, rfl, a, rfl, ⟨_, S1.seq hS⟩, fun D hD => lc_list (K := K) (a := a) (xs := refs L) (fun i H2 => ∃ M : List ARow, H2 D = some (.lst (refs M)) ∧ AtR H2 M ∧ rws M = (rws L).take i ∧ Same (upd H o (.lst [])) H2)
        ⟨[], upd_same, (fun _ z => nomatch z), rfl, same_lay hD⟩ (fun i H2 _ ⟨_, _, _, _, s⟩ => s.seq (S1.seq hS)) ?_ ?_⟩
      · intro i x H2 hx hI
        obtain ⟨M, hD2, hM, eM, s2⟩ := hI
        obtain ⟨p, hp, hpL, rfl⟩ := refs_get hx
        have hil : i < L.length := (List.getElem?_eq_some_iff.mp hp).1
        have hlM : M.length = i := by
          rw [← rws_len M, eM, List.length_take, rws_len]
          omega
        have e1 : (rws L).take (i + 1) = (rws L).take i ++ [p.2] := by rw [List.take_add_one, rws_get hp]; rfl
        have nDp : ∀ q ∈ M, q.1 ≠ D := fun q hq => ne_of (hM q hq) hD2 (by intro z; cases z)
        refine ⟨rfl, yesT ?_⟩
        refine ⟨_, rfl, p.1, [.int p.2.1, .int p.2.2], rfl, ?_⟩
        rcases hP p hpL with e | e
        · have e3 := s2 _ _ (S1 _ _ e)
          refine .inr ⟨.inl (.inl e3), refs M, hD2, small1000 (by rw [refs_len, hlM]; omega), M ++ [p], ?_, ?_, ?_, same_upd s2 hD⟩
          · rw [upd_same, refs_snoc]
          · intro q hq
            rcases List.mem_append.mp hq with k | k
            · rw [upd_ne (nDp q k)]; exact hM q k
            · rw [List.mem_singleton.mp k, upd_ne (ne_of e3 hD2 (by intro z; cases z))]; exact e3
          · rw [rws_snoc, eM, e1]
        · have e3 := s2 _ _ (S1 _ _ e)
          refine .inl ⟨.inl (.inl e3), fun l hl => ?_⟩
          have nDl : D ≠ l := ne_of_none hD2 hl
          have s3 := same_lay (o := .tup [.int p.2.1, .int p.2.2]) hl
          refine ⟨refs M, s3 _ _ hD2, small1000 (by rw [refs_len, hlM]; omega), M ++ [(l, p.2)], ?_, ?_, ?_, same_upd (s2.trans s3) hD⟩
          · rw [upd_same, refs_snoc]
          · intro q hq
            rcases List.mem_append.mp hq with k | k
            · rw [upd_ne (nDp q k)]; exact s3 _ _ (hM q k)
            · rw [List.mem_singleton.mp k, upd_ne nDl.symm, upd_same]
          · rw [rws_snoc, eM, e1]
      · intro H2 hI
        obtain ⟨M, hD2, hM, eM, s2⟩ := hI
        rw [refs_len, List.take_of_length_le (by rw [rws_len]; exact Nat.le_refl _)] at eM
        have no2 : H2 o = some (.lst []) := s2 _ _ upd_same
        have lM : M.length = L.length := by rw [← rws_len M, eM, rws_len]
        -- sorted
        refine ⟨D, refs M, kOf H2, rfl, .inl (.inl hD2), fun y hy => ?_, fun ys p hs hb np => ?_⟩
        · unfold refs at hy
          obtain ⟨z, hz, rfl⟩ := List.mem_map.mp hy
          exact ⟨z.1, rfl, by rw [kOf_at (hM z hz)]; exact hM z hz⟩
        obtain ⟨S, rfl, hSA, hSm, hSl, hSk⟩ := refs_perm hM hb.perm
        have hso : (rws S).Pairwise fun r s => r.1 ≤ s.1 := by
          rw [hSk]
          refine List.pairwise_map.mpr (hs.imp fun {x y} hxy => ?_)
          have := SrtO.lexB_no.mp hxy
          omega
        have hSok : ∀ r ∈ rws S, r.1 ≤ r.2 := fun r hr => hok r (by rw [← eM]; exact (hSm r).mp hr)
        obtain ⟨hnf, hme⟩ := jfold_ok hSok hso
        have s3 := same_lay (o := .lst (refs S)) np
        have nop : o ≠ p := ne_of_none no2 np
        refine ⟨p, rfl, ⟨_, .inl (.inl upd_same)⟩, for_list (K := K) (a := p) (xs := refs S) (fun i σ H' => ∃ f l, ∃ A : List ARow, σ = [some (.ref a), some (.ref o), f, l, none] ∧ H' o = some (.lst (refs A)) ∧ AtR H' A ∧ rws A = (((rws S).take i).foldl jstep []).reverse ∧ Fre o (upd H2 p (.lst (refs S))) H' ∧ A.length ≤ i)
          ⟨none, none, [], rfl, by rw [upd_ne nop]; exact no2, (fun _ z => nomatch z), rfl, Fre.refl _ _, Nat.le_refl _⟩ (fun i σ H' _ ⟨_, _, _, _, _, _, _, fr, _⟩ => .inl (.inl (fr _ _ upd_same nop.symm))) ?_ ?_⟩
        · rintro i y σ H' hy ⟨f, l, A, rfl, hoA, hA, eA, fr, hAl⟩
          obtain ⟨z, hz, hzS, rfl⟩ := refs_get hy
          have hil : i < S.length := (List.getElem?_eq_some_iff.mp hz).1
          have ez : H' z.1 = some (.tup [.int z.2.1, .int z.2.2]) := fr _ _ (s3 _ _ (hSA z hzS)) (ne_of (hSA z hzS) no2 (by intro q; cases q))
          have e1 : ((rws S).take (i + 1)).foldl jstep [] = jstep (((rws S).take i).foldl jstep []) z.2 := by
            rw [List.take_add_one, rws_get hz, List.foldl_append]
            rfl
          have nAo : ∀ q ∈ A, q.1 ≠ o := fun q hq => ne_of (hA q hq) hoA (by intro w; cases w)
          refine ⟨z.1, _, rfl, .inl (.inl ez), rfl, _, _, rfl, _, _, rfl, rfl, ?_⟩
          refine ⟨_, rfl, !(refs A).isEmpty, .inl ⟨refs A, .inl (.inl hoA), rfl⟩, ?_⟩
          -- the row goes to the end
          have app : ∀ (hj : jstep (((rws S).take i).foldl jstep []) z.2 = z.2 :: ((rws S).take i).foldl jstep []) (T : Addr), H' T = none →
              ∃ f' l', ∃ A' : List ARow, [some (V.ref a), some (.ref o), some (.int z.2.1), some (.int z.2.2), none] = [some (.ref a), some (.ref o), f', l', none] ∧ (upd (upd H' T (.tup [.int z.2.1, .int z.2.2])) o (.lst (refs A ++ [.ref T]))) o = some (.lst (refs A')) ∧ AtR (upd (upd H' T (.tup [.int z.2.1, .int z.2.2])) o (.lst (refs A ++ [.ref T]))) A' ∧
                rws A' = (((rws S).take (i + 1)).foldl jstep []).reverse ∧ Fre o (upd H2 p (.lst (refs S))) (upd (upd H' T (.tup [.int z.2.1, .int z.2.2])) o (.lst (refs A ++ [.ref T]))) ∧ A'.length ≤ i + 1 := by
            intro hj Tn hT
            have s4 := same_lay (o := .tup [.int z.2.1, .int z.2.2]) hT
            have noT : Tn ≠ o := by
              intro e
              rw [e] at hT
              rw [hT] at hoA
              cases hoA
            refine ⟨_, _, A ++ [(Tn, z.2)], rfl, by rw [upd_same, refs_snoc], ?_, ?_, (fr.trans (fun b u e _ => s4 b u e)).trans Fre.put, by rw [List.length_append]; exact Nat.succ_le_succ hAl⟩
            · intro q hq
              rcases List.mem_append.mp hq with k | k
              · rw [upd_ne (nAo q k)]; exact s4 _ _ (hA q k)
              · rw [List.mem_singleton.mp k, upd_ne noT, upd_same]
            · rw [rws_snoc, eA, e1, hj, List.reverse_cons]
          have alen : (refs A).length < sizeLine := small1000 (by rw [refs_len]; omega)
          have two : 2 ≤ sizeLine := by decide
          cases hacc : ((rws S).take i).foldl jstep [] with
          | nil =>
            have eA0 : A = [] := by
              rw [hacc] at eA
              exact List.map_eq_nil_iff.mp eA
            refine ite2 (fun k => ?_) (fun _ => iteF ?_)
            · rw [eA0] at k
              exact absurd k (by decide)
            · refine ⟨_, rfl, .inl ⟨rfl, _, .inl (.inl hoA)⟩, _, rfl, _, rfl, two, fun Tn hT => ?_⟩
              refine ⟨o, refs A, _, rfl, rfl, same_lay hT _ _ hoA, alen, ?_⟩
              exact app (by rw [hacc]; rfl) Tn hT
          | cons q0 t0 =>
            have eA1 : rws A = t0.reverse ++ [q0] := by rw [eA, hacc, List.reverse_cons]
            obtain ⟨B, A2, rfl, eB, eA2⟩ := List.map_eq_append_iff.mp eA1
            obtain ⟨⟨aq, q1⟩, A3, rfl, eq1, eA3⟩ := List.map_eq_cons_iff.mp eA2
            obtain rfl := List.map_eq_nil_iff.mp eA3
            obtain rfl : q1 = q0 := eq1
            have haq : H' aq = some (.tup [.int q1.1, .int q1.2]) := hA (aq, q1) (List.mem_append_right _ (List.mem_singleton.mpr rfl))
            rw [refs_snoc] at hoA
            have hSo : SqL K H' o (refs B ++ [.ref aq]) := .inl (.inl hoA)
            have hSq : SqT K H' aq [.int q1.1, .int q1.2] := .inl (.inl haq)
            have g0 : atI [V.int q1.1, .int q1.2] 0 = some (.int q1.1) := atI_nat (j := 0) rfl
            have g1 : atI [V.int q1.1, .int q1.2] 1 = some (.int q1.2) := atI_nat (j := 1) rfl
            have gl : atI (refs B ++ [V.ref aq]) (-1) = some (.ref aq) := atI_last _ _
            refine ite2 (fun _ => ?_) (fun k => ?_)
            · refine ⟨_, rfl, _, rfl, 1, rfl, o, _, -1, _, rfl, rfl, hSo, gl, aq, _, 1, _, rfl, rfl, hSq, g1, _, _, rfl, rfl, _, _, rfl, rfl, _, rfl, ite2 (fun c => ?_) (fun c => ?_)⟩
              · have hc : z.2.1 ≤ q1.2 + 1 := of_decide_eq_true c
                refine ⟨_, rfl, 1, rfl, o, _, -1, _, rfl, rfl, hSo, gl, aq, _, 0, _, rfl, rfl, hSq, g0, _, rfl, 1, rfl, o, _, -1, _, rfl, rfl, hSo, gl, aq, _, 1, _, rfl, rfl, hSq, g1, _, rfl, _, _, rfl, two, fun Tn hT => ?_⟩
                have s4 := same_lay (o := .tup [.int q1.1, .int (if z.2.2 > q1.2 then z.2.2 else q1.2)]) hT
                have noT : Tn ≠ o := by
                  intro e
                  rw [e] at hT
                  rw [hT] at hoA
                  cases hoA
                have ixe : ixN (refs B ++ [V.ref aq]).length (-1) = some (refs B).length := by
                  rw [List.length_append]
                  exact ixN_last _
                refine ⟨_, rfl, 1, rfl, o, _, -1, _, rfl, rfl, s4 _ _ hoA, ixe, ?_⟩
                refine ⟨_, _, B ++ [(Tn, (q1.1, if z.2.2 > q1.2 then z.2.2 else q1.2))], rfl, by rw [upd_same, set_last, refs_snoc], ?_, ?_, (fr.trans (fun b u e _ => s4 b u e)).trans Fre.put, ?_⟩
                · intro q hq
                  rcases List.mem_append.mp hq with k | k
                  · rw [upd_ne (nAo q (List.mem_append_left _ k))]; exact s4 _ _ (hA q (List.mem_append_left _ k))
                  · rw [List.mem_singleton.mp k, upd_ne noT, upd_same]
                · rw [rws_snoc, e1, hacc]
                  show rws B ++ [(q1.1, if z.2.2 > q1.2 then z.2.2 else q1.2)] = (if z.2.1 ≤ q1.2 + 1 then (q1.1, if z.2.2 > q1.2 then z.2.2 else q1.2) :: t0 else z.2 :: q1 :: t0).reverse
                  rw [if_pos hc, List.reverse_cons]
                  exact congrArg (· ++ [(q1.1, if z.2.2 > q1.2 then z.2.2 else q1.2)]) eB
                · rw [List.length_append] at hAl ⊢
                  exact Nat.le_succ_of_le hAl
              · have hc : ¬ z.2.1 ≤ q1.2 + 1 := fun w => c (decide_eq_true w)
                refine ⟨_, rfl, .inl ⟨rfl, _, .inl (.inl hoA)⟩, _, rfl, _, rfl, two, fun Tn hT => ?_⟩
                refine ⟨o, _, _, rfl, rfl, same_lay hT _ _ hoA, by rw [← refs_snoc]; exact alen, ?_⟩
                rw [← refs_snoc]
                refine app ?_ Tn hT
                rw [hacc]
                show (if z.2.1 ≤ q1.2 + 1 then (q1.1, if z.2.2 > q1.2 then z.2.2 else q1.2) :: t0 else z.2 :: q1 :: t0) = z.2 :: q1 :: t0
                rw [if_neg hc]
            · exfalso
              apply k
              rw [refs_snoc]
              simp
        · rintro σ H' ⟨f, l, A, rfl, hoA, hA, eA, fr, hAl⟩
          rw [refs_len, List.take_of_length_le (by rw [rws_len]; exact Nat.le_refl _)] at eA
          have eN : rws A = (jfold (rws S)).reverse := eA
          refine ⟨_, rfl, o, refs A, rfl, .inl ⟨.inl (.inl hoA), fun t ht => ?_⟩⟩
          have s5 := same_lay (o := .tup (refs A)) ht
          have s6 : Same H H' := fun b u e => fr b u (s3 b u (s2 b u (S1 b u e))) (ne_of_none e no)
          refine q t A _ (s6.trans s5) (s6.free ht) upd_same (hA.same s5) (by rw [eN]; exact hnf) (fun x => ?_) ?_
          · rw [eN, hme x, ← eM]
            exact mem_same hSm x
          · rw [refs_len] at hAl
            omega
    · refine .inr ⟨_, rfl, a, rfl, ⟨_, sameT S1 hS⟩, fun D hD => lc_tup (K := K) (a := a) (xs := refs L) (fun i H2 => ∃ M : List ARow, H2 D = some (.lst (refs M)) ∧ AtR H2 M ∧ rws M = (rws L).take i ∧ Same (upd H o (.lst [])) H2)
        ⟨[], upd_same, (fun _ z => nomatch z), rfl, same_lay hD⟩ (fun i H2 _ ⟨_, _, _, _, s⟩ => sameT s (sameT S1 hS)) ?_ ?_⟩
      · intro i x H2 hx hI
        obtain ⟨M, hD2, hM, eM, s2⟩ := hI
        obtain ⟨p, hp, hpL, rfl⟩ := refs_get hx
        have hil : i < L.length := (List.getElem?_eq_some_iff.mp hp).1
        have hlM : M.length = i := by
          rw [← rws_len M, eM, List.length_take, rws_len]
          omega
        have e1 : (rws L).take (i + 1) = (rws L).take i ++ [p.2] := by rw [List.take_add_one, rws_get hp]; rfl
        have nDp : ∀ q ∈ M, q.1 ≠ D := fun q hq => ne_of (hM q hq) hD2 (by intro z; cases z)
        refine ⟨rfl, yesT ?_⟩
        refine ⟨_, rfl, p.1, [.int p.2.1, .int p.2.2], rfl, ?_⟩
        rcases hP p hpL with e | e
        · have e3 := s2 _ _ (S1 _ _ e)
          refine .inr ⟨.inl (.inl e3), refs M, hD2, small1000 (by rw [refs_len, hlM]; omega), M ++ [p], ?_, ?_, ?_, same_upd s2 hD⟩
          · rw [upd_same, refs_snoc]
          · intro q hq
            rcases List.mem_append.mp hq with k | k
            · rw [upd_ne (nDp q k)]; exact hM q k
            · rw [List.mem_singleton.mp k, upd_ne (ne_of e3 hD2 (by intro z; cases z))]; exact e3
          · rw [rws_snoc, eM, e1]
        · have e3 := s2 _ _ (S1 _ _ e)
          refine .inl ⟨.inl (.inl e3), fun l hl => ?_⟩
          have nDl : D ≠ l := ne_of_none hD2 hl
          have s3 := same_lay (o := .tup [.int p.2.1, .int p.2.2]) hl
          refine ⟨refs M, s3 _ _ hD2, small1000 (by rw [refs_len, hlM]; omega), M ++ [(l, p.2)], ?_, ?_, ?_, same_upd (s2.trans s3) hD⟩
          · rw [upd_same, refs_snoc]
          · intro q hq
            rcases List.mem_append.mp hq with k | k
            · rw [upd_ne (nDp q k)]; exact s3 _ _ (hM q k)
            · rw [List.mem_singleton.mp k, upd_ne nDl.symm, upd_same]
          · rw [rws_snoc, eM, e1]
      · intro H2 hI
        obtain ⟨M, hD2, hM, eM, s2⟩ := hI
        rw [refs_len, List.take_of_length_le (by rw [rws_len]; exact Nat.le_refl _)] at eM
        have no2 : H2 o = some (.lst []) := s2 _ _ upd_same
        have lM : M.length = L.length := by rw [← rws_len M, eM, rws_len]
        -- sorted
        refine ⟨D, refs M, kOf H2, rfl, .inl (.inl hD2), fun y hy => ?_, fun ys p hs hb np => ?_⟩
        · unfold refs at hy
          obtain ⟨z, hz, rfl⟩ := List.mem_map.mp hy
          exact ⟨z.1, rfl, by rw [kOf_at (hM z hz)]; exact hM z hz⟩
        obtain ⟨S, rfl, hSA, hSm, hSl, hSk⟩ := refs_perm hM hb.perm
        have hso : (rws S).Pairwise fun r s => r.1 ≤ s.1 := by
          rw [hSk]
          refine List.pairwise_map.mpr (hs.imp fun {x y} hxy => ?_)
          have := SrtO.lexB_no.mp hxy
          omega
        have hSok : ∀ r ∈ rws S, r.1 ≤ r.2 := fun r hr => hok r (by rw [← eM]; exact (hSm r).mp hr)
        obtain ⟨hnf, hme⟩ := jfold_ok hSok hso
        have s3 := same_lay (o := .lst (refs S)) np
        have nop : o ≠ p := ne_of_none no2 np
        refine ⟨p, rfl, ⟨_, .inl (.inl upd_same)⟩, for_list (K := K) (a := p) (xs := refs S) (fun i σ H' => ∃ f l, ∃ A : List ARow, σ = [some (.ref a), some (.ref o), f, l, none] ∧ H' o = some (.lst (refs A)) ∧ AtR H' A ∧ rws A = (((rws S).take i).foldl jstep []).reverse ∧ Fre o (upd H2 p (.lst (refs S))) H' ∧ A.length ≤ i)
          ⟨none, none, [], rfl, by rw [upd_ne nop]; exact no2, (fun _ z => nomatch z), rfl, Fre.refl _ _, Nat.le_refl _⟩ (fun i σ H' _ ⟨_, _, _, _, _, _, _, fr, _⟩ => .inl (.inl (fr _ _ upd_same nop.symm))) ?_ ?_⟩
        · rintro i y σ H' hy ⟨f, l, A, rfl, hoA, hA, eA, fr, hAl⟩
          obtain ⟨z, hz, hzS, rfl⟩ := refs_get hy
          have hil : i < S.length := (List.getElem?_eq_some_iff.mp hz).1
          have ez : H' z.1 = some (.tup [.int z.2.1, .int z.2.2]) := fr _ _ (s3 _ _ (hSA z hzS)) (ne_of (hSA z hzS) no2 (by intro q; cases q))
          have e1 : ((rws S).take (i + 1)).foldl jstep [] = jstep (((rws S).take i).foldl jstep []) z.2 := by
            rw [List.take_add_one, rws_get hz, List.foldl_append]
            rfl
          have nAo : ∀ q ∈ A, q.1 ≠ o := fun q hq => ne_of (hA q hq) hoA (by intro w; cases w)
          refine ⟨z.1, _, rfl, .inl (.inl ez), rfl, _, _, rfl, _, _, rfl, rfl, ?_⟩
          refine ⟨_, rfl, !(refs A).isEmpty, .inl ⟨refs A, .inl (.inl hoA), rfl⟩, ?_⟩
          -- the row goes to the end
          have app : ∀ (hj : jstep (((rws S).take i).foldl jstep []) z.2 = z.2 :: ((rws S).take i).foldl jstep []) (T : Addr), H' T = none →
              ∃ f' l', ∃ A' : List ARow, [some (V.ref a), some (.ref o), some (.int z.2.1), some (.int z.2.2), none] = [some (.ref a), some (.ref o), f', l', none] ∧ (upd (upd H' T (.tup [.int z.2.1, .int z.2.2])) o (.lst (refs A ++ [.ref T]))) o = some (.lst (refs A')) ∧ AtR (upd (upd H' T (.tup [.int z.2.1, .int z.2.2])) o (.lst (refs A ++ [.ref T]))) A' ∧
                rws A' = (((rws S).take (i + 1)).foldl jstep []).reverse ∧ Fre o (upd H2 p (.lst (refs S))) (upd (upd H' T (.tup [.int z.2.1, .int z.2.2])) o (.lst (refs A ++ [.ref T]))) ∧ A'.length ≤ i + 1 := by
            intro hj Tn hT
            have s4 := same_lay (o := .tup [.int z.2.1, .int z.2.2]) hT
            have noT : Tn ≠ o := by
              intro e
              rw [e] at hT
              rw [hT] at hoA
              cases hoA
            refine ⟨_, _, A ++ [(Tn, z.2)], rfl, by rw [upd_same, refs_snoc], ?_, ?_, (fr.trans (fun b u e _ => s4 b u e)).trans Fre.put, by rw [List.length_append]; exact Nat.succ_le_succ hAl⟩
            · intro q hq
              rcases List.mem_append.mp hq with k | k
              · rw [upd_ne (nAo q k)]; exact s4 _ _ (hA q k)
              · rw [List.mem_singleton.mp k, upd_ne noT, upd_same]
            · rw [rws_snoc, eA, e1, hj, List.reverse_cons]
          have alen : (refs A).length < sizeLine := small1000 (by rw [refs_len]; omega)
          have two : 2 ≤ sizeLine := by decide
          cases hacc : ((rws S).take i).foldl jstep [] with
          | nil =>
            have eA0 : A = [] := by
              rw [hacc] at eA
              exact List.map_eq_nil_iff.mp eA
            refine ite2 (fun k => ?_) (fun _ => iteF ?_)
            · rw [eA0] at k
              exact absurd k (by decide)
            · refine ⟨_, rfl, .inl ⟨rfl, _, .inl (.inl hoA)⟩, _, rfl, _, rfl, two, fun Tn hT => ?_⟩
              refine ⟨o, refs A, _, rfl, rfl, same_lay hT _ _ hoA, alen, ?_⟩
              exact app (by rw [hacc]; rfl) Tn hT
          | cons q0 t0 =>
            have eA1 : rws A = t0.reverse ++ [q0] := by rw [eA, hacc, List.reverse_cons]
            obtain ⟨B, A2, rfl, eB, eA2⟩ := List.map_eq_append_iff.mp eA1
            obtain ⟨⟨aq, q1⟩, A3, rfl, eq1, eA3⟩ := List.map_eq_cons_iff.mp eA2
            obtain rfl := List.map_eq_nil_iff.mp eA3
            obtain rfl : q1 = q0 := eq1
            have haq : H' aq = some (.tup [.int q1.1, .int q1.2]) := hA (aq, q1) (List.mem_append_right _ (List.mem_singleton.mpr rfl))
            rw [refs_snoc] at hoA
            have hSo : SqL K H' o (refs B ++ [.ref aq]) := .inl (.inl hoA)
            have hSq : SqT K H' aq [.int q1.1, .int q1.2] := .inl (.inl haq)
            have g0 : atI [V.int q1.1, .int q1.2] 0 = some (.int q1.1) := atI_nat (j := 0) rfl
            have g1 : atI [V.int q1.1, .int q1.2] 1 = some (.int q1.2) := atI_nat (j := 1) rfl
            have gl : atI (refs B ++ [V.ref aq]) (-1) = some (.ref aq) := atI_last _ _
            refine ite2 (fun _ => ?_) (fun k => ?_)
            · refine ⟨_, rfl, _, rfl, 1, rfl, o, _, -1, _, rfl, rfl, hSo, gl, aq, _, 1, _, rfl, rfl, hSq, g1, _, _, rfl, rfl, _, _, rfl, rfl, _, rfl, ite2 (fun c => ?_) (fun c => ?_)⟩
              · have hc : z.2.1 ≤ q1.2 + 1 := of_decide_eq_true c
                refine ⟨_, rfl, 1, rfl, o, _, -1, _, rfl, rfl, hSo, gl, aq, _, 0, _, rfl, rfl, hSq, g0, _, rfl, 1, rfl, o, _, -1, _, rfl, rfl, hSo, gl, aq, _, 1, _, rfl, rfl, hSq, g1, _, rfl, _, _, rfl, two, fun Tn hT => ?_⟩
                have s4 := same_lay (o := .tup [.int q1.1, .int (if z.2.2 > q1.2 then z.2.2 else q1.2)]) hT
                have noT : Tn ≠ o := by
                  intro e
                  rw [e] at hT
                  rw [hT] at hoA
                  cases hoA
                have ixe : ixN (refs B ++ [V.ref aq]).length (-1) = some (refs B).length := by
                  rw [List.length_append]
                  exact ixN_last _
                refine ⟨_, rfl, 1, rfl, o, _, -1, _, rfl, rfl, s4 _ _ hoA, ixe, ?_⟩
                refine ⟨_, _, B ++ [(Tn, (q1.1, if z.2.2 > q1.2 then z.2.2 else q1.2))], rfl, by rw [upd_same, set_last, refs_snoc], ?_, ?_, (fr.trans (fun b u e _ => s4 b u e)).trans Fre.put, ?_⟩
                · intro q hq
                  rcases List.mem_append.mp hq with k | k
                  · rw [upd_ne (nAo q (List.mem_append_left _ k))]; exact s4 _ _ (hA q (List.mem_append_left _ k))
                  · rw [List.mem_singleton.mp k, upd_ne noT, upd_same]
                · rw [rws_snoc, e1, hacc]
                  show rws B ++ [(q1.1, if z.2.2 > q1.2 then z.2.2 else q1.2)] = (if z.2.1 ≤ q1.2 + 1 then (q1.1, if z.2.2 > q1.2 then z.2.2 else q1.2) :: t0 else z.2 :: q1 :: t0).reverse
                  rw [if_pos hc, List.reverse_cons]
                  exact congrArg (· ++ [(q1.1, if z.2.2 > q1.2 then z.2.2 else q1.2)]) eB
                · rw [List.length_append] at hAl ⊢
                  exact Nat.le_succ_of_le hAl
              · have hc : ¬ z.2.1 ≤ q1.2 + 1 := fun w => c (decide_eq_true w)
                refine ⟨_, rfl, .inl ⟨rfl, _, .inl (.inl hoA)⟩, _, rfl, _, rfl, two, fun Tn hT => ?_⟩
                refine ⟨o, _, _, rfl, rfl, same_lay hT _ _ hoA, by rw [← refs_snoc]; exact alen, ?_⟩
                rw [← refs_snoc]
                refine app ?_ Tn hT
                rw [hacc]
                show (if z.2.1 ≤ q1.2 + 1 then (q1.1, if z.2.2 > q1.2 then z.2.2 else q1.2) :: t0 else z.2 :: q1 :: t0) = z.2 :: q1 :: t0
                rw [if_neg hc]
            · exfalso
              apply k
              rw [refs_snoc]
              simp
        · rintro σ H' ⟨f, l, A, rfl, hoA, hA, eA, fr, hAl⟩
          rw [refs_len, List.take_of_length_le (by rw [rws_len]; exact Nat.le_refl _)] at eA
          have eN : rws A = (jfold (rws S)).reverse := eA
          refine ⟨_, rfl, o, refs A, rfl, .inl ⟨.inl (.inl hoA), fun t ht => ?_⟩⟩
          have s5 := same_lay (o := .tup (refs A)) ht
          have s6 : Same H H' := fun b u e => fr b u (s3 b u (s2 b u (S1 b u e))) (ne_of_none e no)
          refine q t A _ (s6.trans s5) (s6.free ht) upd_same (hA.same s5) (by rw [eN]; exact hnf) (fun x => ?_) ?_
          · rw [eN, hme x, ← eM]
            exact mem_same hSm x
          · rw [refs_len] at hAl
            omega
end
end OR

namespace OR
open PySem PySem.Spec PyProof.Rows L2
/-! ### counts before, and __init__ -/
def tot (l : List Row) : Int := l.foldl (fun t r => t + r.2 - r.1 + 1) 0
def befs (l : List Row) : List Int := (List.range l.length).map fun j => tot (l.take j)
theorem tot_snoc (l : List Row) (r : Row) : tot (l ++ [r]) = tot l + r.2 - r.1 + 1 := by
  unfold tot
  rw [List.foldl_append]
  rfl
def spCounts (K : PySem.W.Frag) : Sp := fun vs H Q _ => ∃ (t : Addr) (M : List ARow), vs = [.ref t] ∧ H t = some (.tup (refs M)) ∧ AtR H M ∧ M.length ≤ 1000 ∧
  ∀ (b : Addr) (H' : Hp), Same H H' → H b = none → H' b = some (.tup ((befs (rws M)).map V.int)) → Q (.ref b) H'
/-- an instance of Places with these rows -/
theorem kFS : ¬ (("_firsts" : Str) = "stretches") := by decide +kernel
theorem kBS : ¬ (("_before" : Str) = "stretches") := by decide +kernel
theorem kBF : ¬ (("_before" : Str) = "_firsts") := by decide +kernel
def pFl (t f b : Addr) : List (Str × V) := putF "_before" (.ref b) (putF "_firsts" (.ref f) (putF "stretches" (.ref t) []))
theorem pFl_s (t f b : Addr) : (pFl t f b).lookup ("stretches" : Str) = some (.ref t) := by
  unfold pFl
  rw [lookup_putF, if_neg (fun e => kBS e.symm), lookup_putF, if_neg (fun e => kFS e.symm), lookup_putF, if_pos rfl]
theorem pFl_f (t f b : Addr) : (pFl t f b).lookup ("_firsts" : Str) = some (.ref f) := by
  unfold pFl
  rw [lookup_putF, if_neg (fun e => kBF e.symm), lookup_putF, if_pos rfl]
theorem pFl_b (t f b : Addr) : (pFl t f b).lookup ("_before" : Str) = some (.ref b) := by
  unfold pFl
  rw [lookup_putF, if_pos rfl]
theorem pFl_no (t f b : Addr) {m : Str} (h1 : ¬ m = "_before") (h2 : ¬ m = "_firsts") (h3 : ¬ m = "stretches") : (pFl t f b).lookup m = none := by
  unfold pFl
  rw [lookup_putF, if_neg h1, lookup_putF, if_neg h2, lookup_putF, if_neg h3]
  rfl
structure IsP (C : Addr) (H : Hp) (x : Addr) (l : List Row) : Prop where
  nf : Nf l
  ex : ∃ (dx t f b : Addr) (M : List ARow), H x = some (.ins C dx (pFl t f b)) ∧ H t = some (.tup (refs M)) ∧ AtR H M ∧ rws M = l ∧ H f = some (.tup (l.map fun r => V.int r.1)) ∧ H b = some (.tup ((befs l).map V.int)) ∧ M.length ≤ 1000
theorem IsP.same {C : Addr} {H H' : Hp} {x : Addr} {l : List Row} (h : IsP C H x l) (s : Same H H') : IsP C H' x l := by
  obtain ⟨nf, dx, t, f, b, M, h1, h2, h3, h4, h5, h6, h7⟩ := h
  exact ⟨nf, dx, t, f, b, M, s _ _ h1, s _ _ h2, h3.same s, h4, s _ _ h5, s _ _ h6, h7⟩
/-- enumerate, turn by turn -/
theorem for_enum {K : PySem.W.Frag} {a : Addr} {xs : List V} {g : TG} {tb : TS} {D : Ends} {σ : L2.St} {H : Hp} (Pv : Nat → L2.St → Hp → Prop) (h0 : Pv 0 σ H) (hl : ∀ i σ H, i ≤ xs.length → Pv i σ H → SqL K H a xs)
    (hs : ∀ i x σ H T, xs[i]? = some x → Pv i σ H → H T = none → g (.ref T) σ (upd H T (.tup [.int (i : Nat), x])) fun σ2 H2 => tb { D with nx := Pv (i + 1), ct := Pv (i + 1), bk := D.nx } σ2 H2) (hd : ∀ σ H, Pv xs.length σ H → D.nx σ H) :
    ∃ W : Nat → Nat → L2.St → Hp → Prop, (∃ m, W 0 m σ H) ∧ ∀ i m σ H, W i m σ H →
      ((Ite K a).stop i H ∧ D.nx σ H) ∨ ((Ite K a).go i H ∧ ∃ N : L2.St → Hp → Prop, (∀ σ' H', N σ' H' → ∃ m', m' < m ∧ W (i + 1) m' σ' H') ∧ ∀ x H', (Ite K a).yld i H x H' → g x σ H' fun σ2 H2 => tb { D with nx := N, ct := N, bk := D.nx } σ2 H2) := by
  refine ⟨fun i m σ H => m = xs.length - i ∧ i ≤ xs.length ∧ Pv i σ H, ⟨xs.length, by simp, Nat.zero_le _, h0⟩, ?_⟩
  rintro i m σ H ⟨rfl, hi, p⟩
  have q := hl i σ H hi p
  by_cases hlt : i < xs.length
  · refine .inr ⟨⟨xs, xs[i], q, by simp [hlt]⟩, Pv (i + 1), fun σ' H' p' => ⟨xs.length - (i + 1), by omega, rfl, hlt, p'⟩, fun v H' y => ?_⟩
    obtain ⟨T, x, rfl, hT, rfl, hx⟩ := y
    exact hs i x σ H T (hx xs q) p hT
  · obtain rfl : i = xs.length := by omega
    exact .inl ⟨⟨xs, q, Nat.le_refl _⟩, hd σ H p⟩
theorem for_enumT {K : PySem.W.Frag} {a : Addr} {xs : List V} {g : TG} {tb : TS} {D : Ends} {σ : L2.St} {H : Hp} (Pv : Nat → L2.St → Hp → Prop) (h0 : Pv 0 σ H) (hl : ∀ i σ H, i ≤ xs.length → Pv i σ H → SqT K H a xs)
    (hs : ∀ i x σ H T, xs[i]? = some x → Pv i σ H → H T = none → g (.ref T) σ (upd H T (.tup [.int (i : Nat), x])) fun σ2 H2 => tb { D with nx := Pv (i + 1), ct := Pv (i + 1), bk := D.nx } σ2 H2) (hd : ∀ σ H, Pv xs.length σ H → D.nx σ H) :
    ∃ W : Nat → Nat → L2.St → Hp → Prop, (∃ m, W 0 m σ H) ∧ ∀ i m σ H, W i m σ H →
      ((IteT K a).stop i H ∧ D.nx σ H) ∨ ((IteT K a).go i H ∧ ∃ N : L2.St → Hp → Prop, (∀ σ' H', N σ' H' → ∃ m', m' < m ∧ W (i + 1) m' σ' H') ∧ ∀ x H', (IteT K a).yld i H x H' → g x σ H' fun σ2 H2 => tb { D with nx := N, ct := N, bk := D.nx } σ2 H2) := by
  refine ⟨fun i m σ H => m = xs.length - i ∧ i ≤ xs.length ∧ Pv i σ H, ⟨xs.length, by simp, Nat.zero_le _, h0⟩, ?_⟩
  rintro i m σ H ⟨rfl, hi, p⟩
  have q := hl i σ H hi p
  by_cases hlt : i < xs.length
  · refine .inr ⟨⟨xs, xs[i], q, by simp [hlt]⟩, Pv (i + 1), fun σ' H' p' => ⟨xs.length - (i + 1), by omega, rfl, hlt, p'⟩, fun v H' y => ?_⟩
    obtain ⟨T, x, rfl, hT, rfl, hx⟩ := y
    exact hs i x σ H T (hx xs q) p hT
  · obtain rfl : i = xs.length := by omega
    exact .inl ⟨⟨xs, q, Nat.le_refl _⟩, hd σ H p⟩
def spPlInit (K : PySem.W.Frag) (C : Addr) : Sp := fun vs H Q _ => ∃ (x dx a : Addr) (L : List ARow), vs = [.ref x, .ref a] ∧ H x = some (.ins C dx []) ∧ (SqL K H a (refs L) ∨ SqT K H a (refs L)) ∧ L.length ≤ 1000 ∧ PairsAt H L ∧ (∀ r ∈ rws L, okRow r = true) ∧
  ∀ (l : List Row) (H' : Hp), (∀ c o, H c = some o → c ≠ x → H' c = some o) → IsP C H' x l → (∀ z, mem l z ↔ mem (rws L) z) → l.length ≤ L.length → Q .non H'
theorem okRow_le {r : Row} (h : okRow r = true) : r.1 ≤ r.2 := by
  unfold okRow at h
  simp only [Bool.and_eq_true, decide_eq_true_eq] at h
  exact h.2.2
section
variable {P : Program} {w : World} {K : PySem.W.Frag} {mg : Str → Option Value} {base : Heap}
theorem scC : FnScope ["stretches", "counts", "total", "first", "last"] ["stretches"] (defScope sCounts) := ⟨rfl, rfl, rfl, by decide +kernel, rfl, by decide +kernel, by decide +kernel⟩
theorem ok_counts {f C : Addr} {fd : FuncData} (F : Fun K "_counts_before" "_counts_before" sCounts f fd) (T : PTxt K mg C) : FnOk P w K mg base CX0 1 f fd ["stretches"] (spCounts K) := by
  refine F.ok scC (fun vs H Q E h => ?_) (fun cdv A outer s H vs Q E hr h => ?_)
  · obtain ⟨t, M, rfl, _⟩ := h
    rfl
  · obtain ⟨t, M, rfl, ht, hM, hlen, q⟩ := h
    have nd := scC.nd
    refine ⟨_, pss_cons (ps_set (i := 1) nd rfl (.inl rfl) (pe_lst pa_nil))
      (pss_cons (ps_set (i := 2) nd rfl (.inl rfl) pe_int)
      (pss_cons (ps_for PassesOwn.never rfl (pi_tup (pv 0)) (pg_tup rfl (pgs_cons (pg_name (i := 3) nd rfl (.inl rfl)) (pgs_cons (pg_name (i := 4) nd rfl (.inl rfl)) pgs_nil)))
        (pss_cons (ps_expr (pe_bm PySem.F.plainAttrs_list PySem.F.slot_list_append PySem.F.type_list_append mt_append (pv 1) (pa_cons (pv 2) pa_nil)))
        (pss_one (ps_set (i := 2) nd rfl (.inl rfl) (pe_op op_add (pe_op op_sub (pe_op op_add (pv 2) (pv 4)) (pv 3)) pe_int)))))
      (pss_one (ps_ret (pe_callTy call_tuple_of (by rfl) T.zTup bt_tup (pa_cons (pv 1) pa_nil)))))), ?_⟩
    refine ⟨Nat.zero_le _, fun o no => ?_⟩
    have s1 := same_lay (o := .lst []) no
    refine ⟨_, rfl, t, rfl, ⟨_, .inl (.inl (s1 _ _ ht))⟩, for_tup (K := K) (a := t) (xs := refs M) (fun i σ H' => ∃ f l, σ = [some (.ref t), some (.ref o), some (.int (tot ((rws M).take i))), f, l] ∧ H' o = some (.lst (((List.range i).map fun j => tot ((rws M).take j)).map V.int)) ∧ Fre o (upd H o (.lst [])) H')
      ⟨none, none, rfl, upd_same, Fre.refl _ _⟩ (fun i σ H' _ ⟨_, _, _, _, fr⟩ => .inl (.inl (fr _ _ (s1 _ _ ht) (ne_of_none ht no)))) ?_ ?_⟩
    · rintro i y σ H' hy ⟨f, l, rfl, ho, fr⟩
      obtain ⟨z, hz, hzM, rfl⟩ := refs_get hy
      have hil : i < M.length := (List.getElem?_eq_some_iff.mp hz).1
      have ez : H' z.1 = some (.tup [.int z.2.1, .int z.2.2]) := fr _ _ (s1 _ _ (hM z hzM)) (ne_of_none (hM z hzM) no)
      refine ⟨z.1, _, rfl, .inl (.inl ez), rfl, _, _, rfl, _, _, rfl, rfl, ?_⟩
      refine ⟨_, rfl, .inl ⟨rfl, _, .inl (.inl ho)⟩, _, rfl, o, _, _, rfl, rfl, ho, small1000 (by rw [List.length_map, List.length_map, List.length_range]; omega), ?_⟩
      refine ⟨_, rfl, _, rfl, _, _, rfl, rfl, _, rfl, _, _, rfl, rfl, _, _, rfl, rfl, ?_⟩
      have e1 : (rws M).take (i + 1) = (rws M).take i ++ [z.2] := by rw [List.take_add_one, rws_get hz]; rfl
      refine ⟨some (.int z.2.1), some (.int z.2.2), ?_, ?_, fr.trans Fre.put⟩
      · rw [e1, tot_snoc]
        rfl
      · rw [upd_same, List.range_succ, List.map_append, List.map_append]
        rfl
    · rintro σ H' ⟨f, l, rfl, ho, fr⟩
      refine ⟨_, rfl, o, _, rfl, .inl ⟨.inl (.inl ho), fun b hb => ?_⟩⟩
      have s2 := same_lay (o := .tup (((List.range (refs M).length).map fun j => tot ((rws M).take j)).map V.int)) hb
      have s3 : Same H H' := fun c u e => fr c u (s1 c u e) (ne_of_none e no)
      refine q b _ (s3.trans s2) (s3.free hb) ?_
      rw [upd_same]
      unfold befs
      rw [rws_len, refs_len]
theorem scPI : FnScope ["self", "stretches", "index", "stretch", "first", "_"] ["self", "stretches"] (defScope sPlInit) := ⟨rfl, rfl, rfl, by decide +kernel, rfl, by decide +kernel, by decide +kernel⟩
theorem ok_plinit {f C : Addr} {fd : FuncData} {dvs : List V} (F : FunD K "__init__" "Places.__init__" (defArgs sPlInit) (defBody sPlInit) (defScope sPlInit) dvs [] f fd) (T : PTxt K mg C) (S : Cl P w K mg base 3 "_is_stretch" ["value"] spIsStretchP)
    (J : Cl P w K mg base 1 "_joined" ["stretches"] (spJoined K)) (B : Cl P w K mg base 1 "_counts_before" ["stretches"] (spCounts K)) : FnOk P w K mg base CX0 4 f fd ["self", "stretches"] (spPlInit K C) := by
  refine F.ok scPI (fun vs H Q E h => ?_) (fun cdv A outer s H vs Q E hr h => ?_)
  · obtain ⟨x, dx, a, L, rfl, _⟩ := h
    rfl
  · obtain ⟨x, dx, a, L, rfl, hx, hS, hlen, hP, hok, q⟩ := h
    have nd := scPI.nd
    have hb := PSs.nox (X := cxOf CX0 P w K mg base ["self", "stretches", "index", "stretch", "first", "_"] "Places.__init__" (defScope sPlInit) f cdv A outer s H E) (st := defBody sPlInit) (pss_cons (ps_for PassesOwn.never rfl (pi_or (pi_enum (by rfl) T.zEnum (pa_cons (pv 1) pa_nil)) (pi_enumT (by rfl) T.zEnum (pa_cons (pv 1) pa_nil)))
          (pg_tup rfl (pgs_cons (pg_name (i := 2) nd rfl (.inl rfl)) (pgs_cons (pg_name (i := 3) nd rfl (.inl rfl)) pgs_nil)))
        (pss_one (ps_if (pt_not (pt_val (pe_cl S hr (by decide) (by rfl) (pa_cons (pv 3) pa_nil)))) (pss_one ps_never) pss_nil)))
      (pss_cons (ps_fld (pv 0) (pe_cl J hr (by decide) (by rfl) (pa_cons (pv 1) pa_nil)) rfl)
      (pss_cons (ps_fld (pv 0) (pe_callTy call_tuple_of (by rfl) T.zTup bt_tup (pa_cons
          (pe_lc (own := [("first", 4), ("_", 5)]) (g := gTup K 2 (gCons (gName 4) (gCons (gName 5) gNil))) (tt := tYes) rfl nd (pi_tup (pe_fld (pv 0) rfl)) (blkOk_by (N := ["self", "stretches", "index", "stretch", "first", "_"]) (sc := defScope sPlInit) (by decide +kernel))
            (fun _ _ _ _ _ => pg_tup rfl (pgs_cons (pg_name (i := 4) nd rfl (.inl rfl)) (pgs_cons (pg_name (i := 5) nd rfl (.inl rfl)) pgs_nil))) (fun _ _ _ _ _ => pts_nil) (fun _ _ _ _ _ => pv 4)) pa_nil)) rfl)
      (pss_one (ps_fld (pv 0) (pe_cl B hr (by decide) (by rfl) (pa_cons (pe_fld (pv 0) rfl) pa_nil)) rfl)))))
    refine ⟨_, hb, ?_⟩
    clear hb
    -- what follows the loop
    have after : ∀ (σ : L2.St) (H1 : Hp) (i1 s1 : Option V), σ = [some (.ref x), some (.ref a), i1, s1, none, none] → Same H H1 → (tSeq (sFld K (tVar 0) (tCall (spJoined K) [] E0 (tCons (tVar 1) tNil)) "stretches")
        (tSeq (sFld K (tVar 0) (tCB (fun xs H Q => ∃ p ys, xs = [V.ref p] ∧ ((SqL K H p ys ∧ ∀ l, H l = none → Q (.ref l) (upd H l (.tup ys))) ∨ (SqT K H p ys ∧ Q (.ref p) H))) (tCons (tLc (iTup K (tFld K (tVar 0) "stretches")) (gTup K 2 (gCons (gName 4) (gCons (gName 5) gNil))) tYes (tVar 4) [4, 5]) tNil)) "_firsts")
        (sFld K (tVar 0) (tCall (spCounts K) [] E0 (tCons (tFld K (tVar 0) "stretches") tNil)) "_before"))) { nx := fun _ H' => Q .non H', rt := Q } σ H1 := by
      rintro σ H1 i1 s1 rfl S1
      have hS1 : SqL K H1 a (refs L) ∨ SqT K H1 a (refs L) := hS.elim (fun e => .inl (S1.seq e)) fun e => .inr (sameT S1 e)
      refine ⟨_, rfl, a, L, rfl, hS1, hlen, hP.same S1, fun r hr => okRow_le (hok r hr), fun t M H2 S2 nt ht hM hnf hme hlM => ?_⟩
      have hx2 := S2 _ _ (S1 _ _ hx)
      refine ⟨_, rfl, x, C, dx, [], rfl, hx2, T.cl, T.nS, (by show 0 < 1000; decide), ?_⟩
      have ntx : t ≠ x := ne_of ht hx2 (by intro z; cases z)
      have nMx : ∀ p ∈ M, p.1 ≠ x := fun p hp => ne_of (hM p hp) hx2 (by intro z; cases z)
      -- firsts
      generalize hH3 : upd H2 x (.ins C dx (putF "stretches" (.ref t) [])) = H3
      have hx3 : H3 x = some (.ins C dx (putF "stretches" (.ref t) [])) := by rw [← hH3, upd_same]
      have ht3 : H3 t = some (.tup (refs M)) := by rw [← hH3, upd_ne ntx]; exact ht
      have hM3 : AtR H3 M := fun p hp => by rw [← hH3, upd_ne (nMx p hp)]; exact hM p hp
      have f3 : ∀ c o, H c = some o → c ≠ x → H3 c = some o := fun c o e n => by rw [← hH3, upd_ne n]; exact S2 _ _ (S1 _ _ e)
      have lk : (putF "stretches" (V.ref t) []).lookup ("stretches" : Str) = some (V.ref t) := by rw [lookup_putF, if_pos rfl]
      refine ⟨_, rfl, x, C, dx, _, _, rfl, hx3, T.cl, T.nS, lk, t, rfl, ⟨_, .inl (.inl ht3)⟩, fun D hD => lc_tup (K := K) (a := t) (xs := refs M) (fun i H4 => H4 D = some (.lst ((rws M).take i |>.map fun r => V.int r.1)) ∧ Same H3 H4)
        ⟨upd_same, same_lay hD⟩ (fun i H4 _ ⟨_, s⟩ => .inl (.inl (s _ _ ht3))) ?_ ?_⟩
      · rintro i y H4 hy ⟨hD4, s4⟩
        obtain ⟨z, hz, hzM, rfl⟩ := refs_get hy
        have hil : i < M.length := (List.getElem?_eq_some_iff.mp hz).1
        have ez := s4 _ _ (hM3 z hzM)
        refine ⟨z.1, _, rfl, .inl (.inl ez), rfl, _, _, rfl, _, _, rfl, rfl, rfl, yesT ?_⟩
        refine ⟨_, rfl, _, hD4, small1000 (by rw [List.length_map, List.length_take]; omega), ?_, same_upd s4 hD⟩
        have e1 : (rws M).take (i + 1) = (rws M).take i ++ [z.2] := by rw [List.take_add_one, rws_get hz]; rfl
        rw [upd_same, e1, List.map_append]
        rfl
      · rintro H4 ⟨hD4, s4⟩
        rw [refs_len, List.take_of_length_le (by rw [rws_len]; exact Nat.le_refl _)] at hD4
        refine ⟨D, _, rfl, .inl ⟨.inl (.inl hD4), fun f nf => ?_⟩⟩
        have s5 := same_lay (o := .tup ((rws M).map fun r => V.int r.1)) nf
        have s35 := s4.trans s5
        have hx5 := s35 _ _ hx3
        refine ⟨_, rfl, x, C, dx, _, rfl, hx5, T.cl, T.nF, (by show 1 < 1000; decide), ?_⟩
        have nfx : f ≠ x := by
          intro e
          rw [e] at nf
          rw [s4 _ _ hx3] at nf
          cases nf
        generalize hH6 : upd (upd H4 f (.tup ((rws M).map fun r => V.int r.1))) x (.ins C dx (putF "_firsts" (.ref f) (putF "stretches" (.ref t) []))) = H6
        have hx6 : H6 x = some (.ins C dx (putF "_firsts" (.ref f) (putF "stretches" (.ref t) []))) := by rw [← hH6, upd_same]
        have ht6 : H6 t = some (.tup (refs M)) := by rw [← hH6, upd_ne ntx]; exact s35 _ _ ht3
        have hM6 : AtR H6 M := fun p hp => by rw [← hH6, upd_ne (nMx p hp)]; exact s35 _ _ (hM3 p hp)
        have hf6 : H6 f = some (.tup ((rws M).map fun r => V.int r.1)) := by rw [← hH6, upd_ne nfx, upd_same]
        have f6 : ∀ c o, H c = some o → c ≠ x → H6 c = some o := fun c o e n => by rw [← hH6, upd_ne n]; exact s35 _ _ (f3 c o e n)
        have lk6 : (putF "_firsts" (V.ref f) (putF "stretches" (V.ref t) [])).lookup ("stretches" : Str) = some (V.ref t) := by
          rw [lookup_putF, if_neg (fun e => kFS e.symm), lookup_putF, if_pos rfl]
        refine ⟨_, rfl, x, C, dx, _, _, rfl, hx6, T.cl, T.nS, lk6, t, M, rfl, ht6, hM6, Nat.le_trans hlM hlen, fun b H7 s7 nb hb => ?_⟩
        have hx7 := s7 _ _ hx6
        refine ⟨_, rfl, x, C, dx, _, rfl, hx7, T.cl, T.nB, (by show 2 < 1000; decide), ?_⟩
        have nbx : b ≠ x := ne_of hb hx7 (by intro z; cases z)
        refine q (rws M) _ (fun c o e n => by rw [upd_ne n]; exact s7 _ _ (f6 c o e n)) ⟨hnf, dx, t, f, b, M, upd_same, ?_, fun p hp => ?_, rfl, ?_, ?_, Nat.le_trans hlM hlen⟩ hme (by rw [rws_len]; exact hlM)
        · rw [upd_ne ntx]; exact s7 _ _ ht6
        · rw [upd_ne (nMx p hp)]; exact s7 _ _ (hM6 p hp)
        · rw [upd_ne nfx]; exact s7 _ _ hf6
        · rw [upd_ne nbx]; exact hb
    rcases hS with hS' | hS'
    · refine .inl ⟨_, rfl, a, refs L, rfl, hS', for_enum (K := K) (a := a) (xs := refs L) (fun i σ H' => ∃ i1 s1, σ = [some (.ref x), some (.ref a), i1, s1, none, none] ∧ Same H H')
        ⟨none, none, rfl, Same.refl _⟩ (fun i σ H' _ ⟨_, _, _, s⟩ => s.seq hS') ?_ ?_⟩
      · rintro i y σ H' Tn hy ⟨i1, s1, rfl, S1⟩ hT
        obtain ⟨z, hz, hzL, rfl⟩ := refs_get hy
        have s2 := same_lay (o := .tup [.int (i : Nat), .ref z.1]) hT
        have pz := (hP.same (S1.trans s2)) z hzL
        have okz : okRow z.2 = true := hok z.2 (mem_rws.mpr ⟨z.1, hzL⟩)
        refine ⟨Tn, _, rfl, .inl (.inl upd_same), rfl, _, _, rfl, _, _, rfl, rfl, ?_⟩
        refine ⟨_, rfl, z.1, z.2, rfl, pz, fun H'' S3 => ⟨_, rfl, ?_⟩⟩
        rw [okz]
        exact iteF ⟨_, _, rfl, (S1.trans s2).trans S3⟩
      · rintro σ H' ⟨i1, s1, rfl, S1⟩
        exact after _ _ i1 s1 rfl S1
    · refine .inr ⟨_, rfl, a, refs L, rfl, hS', for_enumT (K := K) (a := a) (xs := refs L) (fun i σ H' => ∃ i1 s1, σ = [some (.ref x), some (.ref a), i1, s1, none, none] ∧ Same H H')
        ⟨none, none, rfl, Same.refl _⟩ (fun i σ H' _ ⟨_, _, _, s⟩ => sameT s hS') ?_ ?_⟩
      · rintro i y σ H' Tn hy ⟨i1, s1, rfl, S1⟩ hT
        obtain ⟨z, hz, hzL, rfl⟩ := refs_get hy
        have s2 := same_lay (o := .tup [.int (i : Nat), .ref z.1]) hT
        have pz := (hP.same (S1.trans s2)) z hzL
        have okz : okRow z.2 = true := hok z.2 (mem_rws.mpr ⟨z.1, hzL⟩)
        refine ⟨Tn, _, rfl, .inl (.inl upd_same), rfl, _, _, rfl, _, _, rfl, rfl, ?_⟩
        refine ⟨_, rfl, z.1, z.2, rfl, pz, fun H'' S3 => ⟨_, rfl, ?_⟩⟩
        rw [okz]
        exact iteF ⟨_, _, rfl, (S1.trans s2).trans S3⟩
      · rintro σ H' ⟨i1, s1, rfl, S1⟩
        exact after _ _ i1 s1 rfl S1
end
end OR

namespace OR
open PySem PySem.Spec PyProof.Rows L2
/-! ### deep data made of rows -/
def rowD (r : Row) : PyData := .tuple [.int r.1, .int r.2]
theorem dp_row {K : PySem.W.Frag} {H : Hp} {a : Addr} {r : Row} (h : H a = some (.tup [.int r.1, .int r.2])) : Dp K H (.ref a) (rowD r) := .tup (.inl (.inl h)) (.cons (.int _) (.cons (.int _) .nil))
theorem dp_rows {K : PySem.W.Frag} {H : Hp} : ∀ {L : List ARow}, AtR H L → DpAll K H (refs L) ((rws L).map rowD)
  | [], _ => .nil
  | p :: L, h => .cons (dp_row (h p List.mem_cons_self)) (dp_rows fun q hq => h q (List.mem_cons_of_mem _ hq))
theorem lay_rows : ∀ l : List Row, PyData.canLayAll0 (l.map rowD) = true
  | [] => rfl
  | r :: l => by
    show (PyData.canLay0 (rowD r) && PyData.canLayAll0 (l.map rowD)) = true
    rw [lay_rows l]
    rfl
theorem dep_rows : ∀ l : List Row, PyData.depthAll (l.map rowD) ≤ 1
  | [] => Nat.zero_le _
  | r :: l => by
    show max (PyData.depth (rowD r)) (PyData.depthAll (l.map rowD)) ≤ 1
    have := dep_rows l
    have e : PyData.depth (rowD r) = 1 := rfl
    omega
theorem shp_tup (l : List Row) : SeqAt.shaped (.tuple (l.map rowD)) = true := by
  unfold SeqAt.shaped
  rw [show PyData.canLay0 (.tuple (l.map rowD)) = true from lay_rows l, Bool.true_and]
  refine decide_eq_true ?_
  show PyData.depthAll (l.map rowD) + 1 ≤ 64
  have := dep_rows l
  omega
theorem shp_lst (l : List Row) : SeqAt.shaped (.list (l.map rowD)) = true := by
  unfold SeqAt.shaped
  rw [show PyData.canLay0 (.list (l.map rowD)) = true from lay_rows l, Bool.true_and]
  refine decide_eq_true ?_
  show PyData.depthAll (l.map rowD) + 1 ≤ 64
  have := dep_rows l
  omega
theorem eqv_row (r s : Row) : PyData.eqv (rowD r) (rowD s) = decide (r = s) := by
  show ((r.1 == s.1) && ((r.2 == s.2) && true)) = decide (r = s)
  rw [Bool.and_true]
  by_cases h : r = s
  · subst h
    simp
  · rw [decide_eq_false h]
    by_cases h1 : r.1 = s.1
    · have h2 : r.2 ≠ s.2 := fun e => h (Prod.ext h1 e)
      simp [h2]
    · simp [h1]
theorem eqv_rows : ∀ l m : List Row, PyData.eqvAll (l.map rowD) (m.map rowD) = decide (l = m)
  | [], [] => by simp [PyData.eqvAll]
  | [], _ :: _ => by simp [PyData.eqvAll]
  | _ :: _, [] => by simp [PyData.eqvAll]
  | r :: l, s :: m => by
    show (PyData.eqv (rowD r) (rowD s) && PyData.eqvAll (l.map rowD) (m.map rowD)) = decide (r :: l = s :: m)
    rw [eqv_row, eqv_rows l m]
    by_cases h1 : r = s
    · by_cases h2 : l = m
      · simp [h1, h2]
      · simp [h1, h2]
    · simp [h1]
theorem AtR.frm {H H' : Hp} {L : List ARow} {p : Addr} {n : Nat} (h : AtR H L) (f : Frm p H H') (P : Pen H p n) : AtR H' L := fun q hq => by
  obtain ⟨c, ns, k, l, hp, _⟩ := P
  exact f _ _ (h q hq) (ne_of (h q hq) hp (by intro z; cases z))
theorem Frm.free {p q : Addr} {H H' : Hp} {n : Nat} (f : Frm p H H') (P : Pen H' p n) (h : H' q = none) : H q = none := by
  obtain ⟨c, ns, k, l, hp, _⟩ := P
  cases e : H q with
  | none => rfl
  | some o =>
    by_cases ep : q = p
    · rw [ep, hp] at h
      cases h
    · rw [f q o e ep] at h
      cases h
theorem frmS {p : Addr} {H H' : Hp} (s : Same H H') : Frm p H H' := ⟨fun b o e _ => s b o e, fun c ⟨k, l, e⟩ => ⟨k, l, s _ _ e⟩⟩
theorem Pen.same' {H H' : Hp} {p : Addr} {n : Nat} (P : Pen H p n) (s : Same H H') : Pen H' p n := by
  obtain ⟨c, ns, k, l, h1, h2, h⟩ := P
  exact ⟨c, ns, k, l, s _ _ h1, s _ _ h2, h⟩
/-! ### the law's drawing of rows -/
def spSpot : Sp := fun vs H Q _ => ∃ (p : Addr) (n : Nat), vs = [.ref p] ∧ Pen H p n ∧ n ≤ 900000 ∧ ∀ (r : Int) (H' : Hp), placeB r = true → Pen H' p (n + 2) → Frm p H H' → Q (.int r) H'
def spDrawn : Sp := fun vs H Q _ => ∃ (p : Addr) (m n : Nat), vs = [.ref p, .int m] ∧ m ≤ 20 ∧ Pen H p n ∧ n ≤ 700000 ∧
  ∀ (a : Addr) (L : List ARow) (H' : Hp), H a = none → H' a = some (.lst (refs L)) → AtR H' L → (∀ r ∈ rws L, okRow r = true) → L.length ≤ m → Pen H' p (n + 1000) → Frm p H H' → Q (.ref a) H'
theorem place_of {r : Int} (h0 : 0 ≤ r) (h1 : r ≤ lastP) : placeB r = true := by
  unfold placeB
  rw [decide_eq_true h0, decide_eq_true h1]
  rfl
theorem place_iff {r : Int} (h : placeB r = true) : 0 ≤ r ∧ r ≤ lastP := by
  unfold placeB at h
  simp only [Bool.and_eq_true, decide_eq_true_eq] at h
  exact h
theorem okRow_of {a b : Int} (h0 : 0 ≤ a) (h1 : a ≤ b) (h2 : b ≤ lastP) : okRow (a, b) = true := by
  unfold okRow
  rw [place_of (r := a) h0 (Int.le_trans h1 h2), place_of (r := b) (Int.le_trans h0 h1) h2, Bool.true_and, Bool.true_and]
  exact decide_eq_true h1
theorem okRow_iff {r : Row} (h : okRow r = true) : 0 ≤ r.1 ∧ r.1 ≤ r.2 ∧ r.2 ≤ lastP := by
  unfold okRow at h
  rw [Bool.and_eq_true, Bool.and_eq_true, decide_eq_true_eq] at h
  exact ⟨(place_iff h.1).1, h.2.2, (place_iff h.2.1).2⟩
structure Bd (mg : Str → Option Value) : Prop where
  range : mg "range" = none
  min : mg "min" = none
  max : mg "max" = none
  int : mg "int" = none
  len : mg "len" = none
  list : mg "list" = none
  set : mg "set" = none
  sorted : mg "sorted" = none
section
variable {P : Program} {w : World} {K : PySem.W.Frag} {mg : Str → Option Value} {base : Heap}
theorem scSpot : FnScope ["_law_pen_here", "_law_way"] ["_law_pen_here"] (defScope sSpot) := ⟨rfl, rfl, rfl, by decide +kernel, rfl, by decide +kernel, by decide +kernel⟩
theorem ok_spot {f : Addr} {fd : FuncData} (F : Fun K "_law_spot" "_law_spot" sSpot f fd) (D : Cl P w K mg base 1 "_law_draw" ["_law_pen_here", "_law_many"] spDraw) : FnOk P w K mg base CX0 2 f fd ["_law_pen_here"] spSpot := by
  refine F.ok scSpot (fun vs H Q E h => ?_) (fun cdv A outer s H vs Q E hr h => ?_)
  · obtain ⟨p, n, rfl, _⟩ := h
    rfl
  · obtain ⟨p, n, rfl, hP, hn, q⟩ := h
    have nd := scSpot.nd
    refine ⟨_, pss_cons (ps_set (i := 1) nd rfl (.inl rfl) (pe_cl D hr (by decide) (by rfl) (pa_cons (pv 0) (pa_cons pe_int pa_nil))))
      (pss_cons (ps_if (pt_cmpR op_lt (pv 1) pe_int (nomark _)) (pss_one (ps_ret (pe_cl D hr (by decide) (by rfl) (pa_cons (pv 0) (pa_cons (pe_ix ix_list (pe_lst (pa_cons pe_int (pa_cons pe_int pa_nil))) (pv 1) (fun _ _ => rfl)) pa_nil))))) pss_nil)
      (pss_cons (ps_if (pt_cmpR op_eq (pv 1) pe_int (nomark _)) (pss_one (ps_ret (pe_cl D hr (by decide) (by rfl) (pa_cons (pv 0) (pa_cons (pe_op op_add (pe_op op_pow pe_int pe_int) pe_int) pa_nil))))) pss_nil)
      (pss_one (ps_ret (pe_ifExp (pt_cmpR op_eq (pv 1) pe_int (nomark _)) (pe_op op_sub (pe_op op_pow pe_int pe_int) (pe_cl D hr (by decide) (by rfl) (pa_cons (pv 0) (pa_cons pe_int pa_nil))))
        (pe_op op_add (pe_op op_pow pe_int pe_int) (pe_cl D hr (by decide) (by rfl) (pa_cons (pv 0) (pa_cons pe_int pa_nil))))))))), ?_⟩
    have hpow : CPow 10 30 := ⟨by decide, by decide, by decide⟩
    have hpow15 : CPow 10 15 := ⟨by decide, by decide, by decide⟩
    have eL : lastP = 10 ^ 30 := rfl
    refine ⟨_, rfl, p, 5, n, rfl, by decide, by decide, hP, by omega, fun way H1 w0 w5 P1 F1 => ?_⟩
    refine ⟨_, rfl, _, _, rfl, rfl, _, rfl, ite2 (fun c => ?_) (fun _ => ?_)⟩
    · have hw : way < 2 := of_decide_eq_true c
      refine ⟨_, rfl, by show 2 ≤ sizeLine; decide, fun l hl => ?_⟩
      obtain ⟨m, hm, hm0, hm1⟩ : ∃ m : Int, atI [V.int 9, V.int 60] way = some (.int m) ∧ 0 < m ∧ m ≤ 60 := by
        have : way = 0 ∨ way = 1 := by omega
        rcases this with e | e <;> subst e
        · exact ⟨9, atI_nat (j := 0) rfl, by decide, by decide⟩
        · exact ⟨60, atI_nat (j := 1) rfl, by decide, by decide⟩
      have hmb : m.natAbs < 2 ^ 200 := Nat.lt_of_le_of_lt (show m.natAbs ≤ 60 by omega) (by decide)
      refine ⟨_, rfl, l, _, way, _, rfl, rfl, .inl (.inl upd_same), hm, p, m, n + 1, rfl, hm0, hmb, P1.new hl, by omega, fun r H2 r0 r1 P2 F2 => ?_⟩
      exact q r H2 (place_of r0 (by rw [eL]; omega)) P2 (F1.trans ((Frm.new hl).trans F2))
    refine ⟨_, rfl, rfl, _, rfl, ite2 (fun _ => ?_) (fun _ => ?_)⟩
    · refine ⟨_, rfl, _, _, rfl, rfl, hpow, _, _, rfl, rfl, p, _, n + 1, rfl, by decide, by decide, P1, by omega, fun r H2 r0 r1 P2 F2 => ?_⟩
      have r1' : r < 10 ^ 30 + 1 := r1
      exact q r H2 (place_of r0 (by rw [eL]; omega)) P2 (F1.trans F2)
    refine ⟨_, rfl, rfl, _, rfl, ite2 (fun _ => ?_) (fun _ => ?_)⟩
    · refine ⟨_, _, rfl, rfl, hpow, _, rfl, p, 9, n + 1, rfl, by decide, by decide, P1, by omega, fun r H2 r0 r1 P2 F2 => ⟨_, _, rfl, rfl, ?_⟩⟩
      refine q _ H2 (place_of ?_ ?_) P2 (F1.trans F2)
      · show (0 : Int) ≤ 10 ^ 30 - r
        omega
      · show (10 : Int) ^ 30 - r ≤ 10 ^ 30
        omega
    · refine ⟨_, _, rfl, rfl, hpow15, _, rfl, p, 99, n + 1, rfl, by decide, by decide, P1, by omega, fun r H2 r0 r1 P2 F2 => ⟨_, _, rfl, rfl, ?_⟩⟩
      refine q _ H2 (place_of ?_ ?_) P2 (F1.trans F2)
      · show (0 : Int) ≤ 10 ^ 15 + r
        omega
      · show (10 : Int) ^ 15 + r ≤ 10 ^ 30
        omega
theorem scDn : FnScope ["_law_pen_here", "_law_most", "_law_found", "_law_k", "_law_first", "_law_size"] ["_law_pen_here", "_law_most"] (defScope sDrawn) := ⟨rfl, rfl, rfl, by decide +kernel, rfl, by decide +kernel, by decide +kernel⟩
theorem ok_drawn {f : Addr} {fd : FuncData} (F : Fun K "_law_drawn" "_law_drawn" sDrawn f fd) (B : Bd mg) (D : Cl P w K mg base 1 "_law_draw" ["_law_pen_here", "_law_many"] spDraw) (C : Cl P w K mg base 2 "_law_pick" ["_law_pen_here", "_law_items"] (spPick K))
    (S : Cl P w K mg base 2 "_law_spot" ["_law_pen_here"] spSpot) : FnOk P w K mg base CX0 3 f fd ["_law_pen_here", "_law_most"] spDrawn := by
  refine F.ok scDn (fun vs H Q E h => ?_) (fun cdv A outer s H vs Q E hr h => ?_)
  · obtain ⟨p, m, n, rfl, _⟩ := h
    rfl
  · obtain ⟨p, m, n, rfl, hm, hP, hn, q⟩ := h
    have nd := scDn.nd
    have hu64 : (A.deeper (envOfC "_law_drawn" (defScope sDrawn) s.heap.objs.size f cdv)).units + 64 < cLine := hr.units
    refine ⟨_, pss_cons (ps_set (i := 2) nd rfl (.inl rfl) (pe_lst pa_nil))
      (pss_cons (ps_for PassesOwn.never rfl (pi_range1 (by rfl) B.range (pa_cons (pe_cl D hr (by decide) (by rfl) (pa_cons (pv 0) (pa_cons (pe_op op_add (pv 1) pe_int) pa_nil))) pa_nil)) (pg_name (i := 3) nd rfl (.inl rfl))
        (pss_cons (ps_set (i := 4) nd rfl (.inl rfl) (pe_cl S hr (by decide) (by rfl) (pa_cons (pv 0) pa_nil)))
        (Evl.pss_cut (ps_if (PW.pt (pw_and (pt_cmpR (op_neD hu64) (pv 2) (pe_lst pa_nil) (nomark _)) (pw_and1 (pt_cmpR op_eq (pe_cl D hr (by decide) (by rfl) (pa_cons (pv 0) (pa_cons pe_int pa_nil))) pe_int (nomark _)))))
          (pss_one (ps_set (i := 4) nd rfl (.inl rfl) (pe_callB (call_min2 rfl) (by rfl) B.min bt_min (pa_cons (pe_op op_pow pe_int pe_int) (pa_cons (pe_callTy call_int1 (by rfl) B.int bt_int (pa_cons
            (pe_op op_add (pe_ix ix_tup (pe_cl C hr (by decide) (by rfl) (pa_cons (pv 0) (pa_cons (pv 2) pa_nil))) pe_int (fun _ _ => rfl)) (pe_cl C hr (by decide) (by rfl) (pa_cons (pv 0) (pa_cons (pe_lst (pa_cons pe_int (pa_cons pe_int (pa_cons pe_int (pa_cons pe_int (pa_cons pe_int pa_nil)))))) pa_nil)))) pa_nil)) pa_nil))))) pss_nil)
        (pss_cons (ps_set (i := 5) nd rfl (.inl rfl) (pe_cl C hr (by decide) (by rfl) (pa_cons (pv 0) (pa_cons (pe_lst (pa_cons pe_int (pa_cons pe_int (pa_cons pe_int (pa_cons pe_int (pa_cons (pe_cl D hr (by decide) (by rfl) (pa_cons (pv 0) (pa_cons pe_int pa_nil)))
            (pa_cons (pe_cl D hr (by decide) (by rfl) (pa_cons (pv 0) (pa_cons (pe_op op_pow pe_int pe_int) pa_nil))) pa_nil))))))) pa_nil))))
        (pss_one (ps_expr (pe_bm PySem.F.plainAttrs_list PySem.F.slot_list_append PySem.F.type_list_append mt_append (pv 2) (pa_cons (pe_tup (pa_cons (pv 4) (pa_cons (pe_callB (call_min2 rfl) (by rfl) B.min bt_min (pa_cons (pe_op op_pow pe_int pe_int)
            (pa_cons (pe_callTy call_int1 (by rfl) B.int bt_int (pa_cons (pe_op op_add (pv 4) (pv 5)) pa_nil)) pa_nil))) pa_nil))) pa_nil))))))))
      (pss_one (ps_ret (pv 2)))), ?_⟩
    have hpow : CPow 10 30 := ⟨by decide, by decide, by decide⟩
    have eL : lastP = 10 ^ 30 := rfl
    obtain ⟨c0, hc0, hcn⟩ := hP.cells
    refine ⟨Nat.zero_le _, fun a0 na => ?_⟩
    have nca0 : c0 ≠ a0 := fun e => hcn (by rw [e]; exact na)
    have P0 := hP.new (o := .lst []) na
    refine ⟨_, rfl, _, rfl, _, _, rfl, rfl, p, _, n, rfl, by omega, Nat.lt_of_le_of_lt (show ((m : Int) + 1).natAbs ≤ 21 by omega) (by decide), P0, by omega, fun r H1 r0 r1 P1 F1 => ?_⟩
    have a1 : H1 a0 = some (.lst []) := F1.lst P0 upd_same
    refine ⟨r, rfl, by omega, by omega, for_range (n := r.toNat) (fun i σ H' => ∃ s3 s4 s5, ∃ L : List ARow, σ = [some (.ref p), some (.int m), some (.ref a0), s3, s4, s5] ∧ H' a0 = some (.lst (refs L)) ∧ AtR H' L ∧ (∀ r ∈ rws L, okRow r = true) ∧ L.length = i ∧ Pen H' p (n + 1 + 20 * i) ∧ Frm p H H')
      ⟨none, none, none, [], rfl, a1, (fun _ z => nomatch z), (fun _ z => nomatch z), rfl, P1, (Frm.new na).trans F1⟩ ?_ ?_⟩
    · rintro i σ H' hi ⟨s3, s4, s5, L, rfl, ha, hA, hok, hlen, hPn, hF⟩
      have hi20 : i < 20 := by omega
      -- first
      refine ⟨_, rfl, p, _, rfl, hPn, by omega, fun fst H2 hf P2 F2 => ?_⟩
      have ha2 : H2 a0 = some (.lst (refs L)) := F2.lst hPn ha
      have hA2 := hA.frm F2 hPn
      have hF2 := hF.trans F2
      refine ⟨fun σ'' H'' => ∃ fst : Int, σ'' = [some (.ref p), some (.int m), some (.ref a0), some (.int (0 + i)), some (.int fst), s5] ∧ placeB fst = true ∧ H'' a0 = some (.lst (refs L)) ∧ AtR H'' L ∧ Pen H'' p (n + 1 + 20 * i + 5) ∧ Frm p H H'', ?_, ?_⟩
      · refine ⟨_, rfl, Nat.zero_le _, fun e he => ?_⟩
        have se := same_lay (o := .lst []) he
        have ha3 := se _ _ ha2
        have hA3 := hA2.same se
        have P3 := P2.same' se
        have hF3 := hF2.trans (frmS se)
        refine ⟨.list ((rws L).map rowD), .list [], .lst (.inl (.inl ha3)) (dp_rows hA3), .lst (.inl (.inl upd_same)) .nil, shp_lst _, rfl, _, rfl, ?_⟩
        refine ite2 (fun hne => ?_) (fun _ => iteF ⟨fst, rfl, hf, ha3, hA3, P3.mono (by omega), hF3⟩)
        have hL0 : 0 < L.length := by
          cases L with
          | nil => exact absurd hne (by decide)
          | cons _ _ => exact Nat.succ_pos _
        refine ⟨_, rfl, p, 2, _, rfl, by decide, by decide, P3, by omega, fun c H4 _ _ P4 F4 => ?_⟩
        have ha4 : H4 a0 = some (.lst (refs L)) := F4.lst P3 ha3
        have hA4 := hA3.frm F4 P3
        have hF4 := hF3.trans F4
        refine ⟨rfl, _, rfl, ite2 (fun _ => ?_) (fun _ => ⟨fst, rfl, hf, ha4, hA4, P4.mono (by omega), hF4⟩)⟩
        refine ⟨_, _, rfl, rfl, hpow, _, rfl, _, rfl, p, a0, refs L, _, rfl, .inl (.inl ha4), by rw [refs_len]; exact hL0, by rw [refs_len]; omega, P4, by omega, fun v H5 hv P5 F5 => ?_⟩
        obtain ⟨z, hz, rfl⟩ := List.mem_map.mp hv
        have ha5 : H5 a0 = some (.lst (refs L)) := F5.lst P4 ha4
        have hA5 := hA4.frm F5 P4
        have okz := okRow_iff (hok z.2 (mem_rws.mpr ⟨z.1, hz⟩))
        refine ⟨z.1, _, 1, .int z.2.2, rfl, rfl, .inl (.inl (hA5 z hz)), atI_nat (j := 1) rfl, _, rfl, by show 5 ≤ sizeLine; decide, fun l2 hl2 => ?_⟩
        refine ⟨p, l2, _, _, rfl, .inl (.inl upd_same), by show 0 < 5; decide, by show 5 ≤ 1000; decide, P5.new hl2, by omega, fun v2 H6 hv2 P6 F6 => ?_⟩
        obtain ⟨j, rfl, hj0, hj1⟩ : ∃ j : Int, v2 = .int j ∧ 0 ≤ j ∧ j ≤ 3 := by
          simp only [List.mem_cons, List.not_mem_nil, or_false] at hv2
          rcases hv2 with e | e | e | e | e <;> subst e <;> exact ⟨_, rfl, by decide, by decide⟩
        have s2 := same_lay (o := .lst [.int 0, .int 1, .int 1, .int 2, .int 3]) hl2
        have ha6 : H6 a0 = some (.lst (refs L)) := F6.lst (P5.new hl2) (s2 _ _ ha5)
        refine ⟨_, _, rfl, rfl, .inl ⟨_, rfl, _, _, rfl, ?_⟩⟩
        refine ⟨_, rfl, place_of ?_ ?_, ha6, (hA5.same s2).frm F6 (P5.new hl2), P6.mono (by omega), ((hF4.trans F5).trans (frmS s2)).trans F6⟩
        · show (0 : Int) ≤ (if z.2.2 + j < 10 ^ 30 then z.2.2 + j else 10 ^ 30)
          split <;> omega
        · show (if z.2.2 + j < 10 ^ 30 then z.2.2 + j else 10 ^ 30) ≤ (10 : Int) ^ 30
          split <;> omega
      clear hf ha2 hA2 hF2 F2 P2
      rintro σ'' H3 ⟨fst, rfl, hf, ha3, hA3, P3, hF3⟩
      -- size
      refine ⟨_, rfl, _, rfl, p, 9, _, rfl, by decide, by decide, P3, by omega, fun r1 H4 h10 _ P4 F4 => ?_⟩
      refine ⟨_, rfl, _, _, rfl, rfl, hpow, p, _, _, rfl, by decide, by decide, P4, by omega, fun r2 H5 h20 _ P5 F5 => ?_⟩
      refine ⟨by show 6 ≤ sizeLine; decide, fun l hl => ?_⟩
      refine ⟨p, l, _, _, rfl, .inl (.inl upd_same), by show 0 < 6; decide, by show 6 ≤ 1000; decide, P5.new hl, by omega, fun v H6 hv P6 F6 => ?_⟩
      obtain ⟨sz, rfl, hsz⟩ : ∃ sz : Int, v = .int sz ∧ 0 ≤ sz := by
        simp only [List.mem_cons, List.not_mem_nil, or_false] at hv
        rcases hv with e | e | e | e | e | e <;> subst e <;> exact ⟨_, rfl, by omega⟩
      have sl := same_lay (o := .lst [.int 0, .int 0, .int 1, .int 2, .int r1, .int r2]) hl
      have FF : Frm p H3 H6 := ((F4.trans F5).trans (frmS sl)).trans F6
      have ha6 : H6 a0 = some (.lst (refs L)) := FF.lst P3 ha3
      have hA6 := hA3.frm FF P3
      have hf2 := place_iff hf
      have hfe : fst ≤ 10 ^ 30 := hf2.2
      refine ⟨_, rfl, .inl ⟨rfl, _, .inl (.inl ha6)⟩, _, rfl, _, _, rfl, rfl, hpow, _, rfl, _, rfl, _, _, rfl, rfl, .inl ⟨_, rfl, _, _, rfl, by show 2 ≤ sizeLine; decide, fun T hT => ?_⟩⟩
      have sT := same_lay (o := .tup [.int fst, .int (if fst + sz < 10 ^ (30 : Int).toNat then fst + sz else 10 ^ (30 : Int).toNat)]) hT
      have nTa : T ≠ a0 := by
        intro e
        rw [e, ha6] at hT
        cases hT
      refine ⟨a0, _, _, rfl, rfl, sT _ _ ha6, small1000 (by rw [refs_len]; omega), ?_⟩
      have nLa : ∀ q ∈ L, q.1 ≠ a0 := fun q hq => ne_of (hA6 q hq) ha6 (by intro z; cases z)
      refine ⟨_, _, _, L ++ [(T, (fst, if fst + sz < 10 ^ (30 : Int).toNat then fst + sz else 10 ^ (30 : Int).toNat))], rfl, by rw [upd_same, refs_snoc], ?_, ?_, by rw [List.length_append, hlen]; rfl, ?_, ?_⟩
      · intro q hq
        rcases List.mem_append.mp hq with k | k
        · rw [upd_ne (nLa q k)]; exact sT _ _ (hA6 q k)
        · rw [List.mem_singleton.mp k, upd_ne nTa, upd_same]
      · intro x hx
        rw [rws_snoc] at hx
        rcases List.mem_append.mp hx with k | k
        · exact hok x k
        · rw [List.mem_singleton.mp k]
          refine okRow_of hf2.1 ?_ ?_
          · show fst ≤ (if fst + sz < 10 ^ 30 then fst + sz else 10 ^ 30)
            split <;> omega
          · show (if fst + sz < 10 ^ 30 then fst + sz else 10 ^ 30) ≤ (10 : Int) ^ 30
            split <;> omega
      · exact ((P6.same' sT).put (((hF3.trans FF).trans (frmS sT)).ce c0 hc0) (sT _ _ ha6) nca0).mono (by omega)
      · refine ⟨fun b o e nb => ?_, fun c hc => ?_⟩
        · rw [upd_ne (ne_of_none e na)]
          exact sT _ _ (FF _ _ (hF3 _ _ e nb) nb)
        · obtain ⟨k, l', e⟩ := ((hF3.trans FF).trans (frmS sT)).ce c hc
          exact ⟨k, l', by rw [upd_ne (ne_of e (sT _ _ ha6) (by intro z; cases z))]; exact e⟩
    · rintro σ H' ⟨s3, s4, s5, L, rfl, ha, hA, hok, hl, hPn, hF⟩
      exact ⟨_, rfl, q a0 L H' na ha hA hok (by omega) (hPn.mono (by omega)) hF⟩
end
end OR

namespace OR
open PySem PySem.Spec PyProof.Rows L2
/-! ### the law's own merging -/
theorem bt_set : bootBuiltins ("set" : Str) = some (.type "set") := by decide +kernel
theorem ok_of_mem {l m : List Row} (hn : Nf m) (h : ∀ x, mem m x ↔ mem l x) (hl : ∀ r ∈ l, okRow r = true) : ∀ r ∈ m, okRow r = true := fun r hr => by
  have hle := hn.ok r hr
  obtain ⟨q1, hq1, a1, b1⟩ := (h r.1).mp ⟨r, hr, Int.le_refl _, hle⟩
  obtain ⟨q2, hq2, a2, b2⟩ := (h r.2).mp ⟨r, hr, hle, Int.le_refl _⟩
  have o1 := okRow_iff (hl q1 hq1)
  have o2 := okRow_iff (hl q2 hq2)
  exact okRow_of (a := r.1) (b := r.2) (by omega) hle (by omega)
theorem call_setO {X : Cx} (K : PySem.W.Frag) (P : Program) (w : World) (hK : X.K = K) (hP : X.prog = P) (hw : X.w = w) (hc : X.calm = true) (hu : X.A.units + 64 < cLine) : CallR X (.type "set") (rSetOfT K P w) := by
  subst hK hP hw
  exact cr_setOfT hc hu
def spMerged (K : PySem.W.Frag) : Sp := fun vs H Q _ => ∃ (a : Addr) (L : List ARow), vs = [.ref a] ∧ SqL K H a (refs L) ∧ AtR H L ∧ (∀ r ∈ rws L, okRow r = true) ∧ L.length < 64 ∧
  ∀ (o : Addr) (M : List ARow) (H' : Hp), Same H H' → H o = none → H' o = some (.lst (refs M)) → AtR H' M → Nf (rws M) → (∀ x, mem (rws M) x ↔ mem (rws L) x) → M.length < 64 → M.length ≤ L.length → Q (.ref o) H'
theorem nodup_le {α : Type} : ∀ {l m : List α}, l.Nodup → (∀ x ∈ l, x ∈ m) → l.length ≤ m.length
  | [], _, _, _ => Nat.zero_le _
  | x :: l, m, h, s => by
    obtain ⟨h1, h2⟩ := List.nodup_cons.mp h
    obtain ⟨a, b, rfl⟩ := List.append_of_mem (s x List.mem_cons_self)
    have k : l.length ≤ (a ++ b).length := nodup_le h2 fun y hy => by
      have hy2 := s y (List.mem_cons_of_mem _ hy)
      rcases List.mem_append.mp hy2 with c | c
      · exact List.mem_append_left _ c
      · rcases List.mem_cons.mp c with e | c
        · exact absurd (e ▸ hy) h1
        · exact List.mem_append_right _ c
    rw [List.length_append] at k
    rw [List.length_append, List.length_cons, List.length_cons]
    omega
/-- an arrangement of some of the rows, as lists of integers -/
def ilist (L : List ARow) : List (Addr × List Int) := L.map fun p => (p.1, [p.2.1, p.2.2])
theorem refs_ilist (L : List ARow) : (ilist L).map (fun p => V.ref p.1) = refs L := by
  unfold ilist refs
  rw [List.map_map]
  rfl
theorem of_ilist : ∀ {L' : List (Addr × List Int)} {L : List ARow}, (∀ q ∈ L', q ∈ ilist L) → ∃ S : List ARow, L' = ilist S ∧ ∀ p ∈ S, p ∈ L
  | [], _, _ => ⟨[], rfl, fun _ z => nomatch z⟩
  | q :: L', L, h => by
    obtain ⟨S, e, hS⟩ := of_ilist (L' := L') (L := L) fun z hz => h z (List.mem_cons_of_mem _ hz)
    have hq := h q List.mem_cons_self
    unfold ilist at hq
    obtain ⟨p, hp, rfl⟩ := List.mem_map.mp hq
    refine ⟨p :: S, by rw [e]; rfl, fun z hz => ?_⟩
    rcases List.mem_cons.mp hz with k | k
    · rw [k]; exact hp
    · exact hS z k
theorem bd_row {r : Row} (h : okRow r = true) : TS.Bd (lastP + 1) [r.1, r.2] := fun m hm => by
  have o := okRow_iff h
  simp only [List.mem_cons, List.not_mem_nil, or_false] at hm
  rcases hm with rfl | rfl <;> constructor <;> omega
section
variable {P : Program} {w : World} {K : PySem.W.Frag} {mg : Str → Option Value} {base : Heap}
theorem scMg : FnScope ["_law_rows", "_law_found", "_law_first", "_law_last", "_law_before"] ["_law_rows"] (defScope sMerged) := ⟨rfl, rfl, rfl, by decide +kernel, rfl, by decide +kernel, by decide +kernel⟩
theorem ok_merged {f : Addr} {fd : FuncData} (F : Fun K "_law_merged" "_law_merged" sMerged f fd) (B : Bd mg) : FnOk P w K mg base CX0 1 f fd ["_law_rows"] (spMerged K) := by
  refine F.ok scMg (fun vs H Q E h => ?_) (fun cdv A outer s H vs Q E hr h => ?_)
  · obtain ⟨a, L, rfl, _⟩ := h
    rfl
  · obtain ⟨a, L, rfl, hS, hA0, hok, hlen, q⟩ := h
    have nd := scMg.nd
    have hu64 : (A.deeper (envOfC "_law_merged" (defScope sMerged) s.heap.objs.size f cdv)).units + 64 < cLine := hr.units
    refine ⟨_, pss_cons (ps_set (i := 1) nd rfl (.inl rfl) (pe_lst pa_nil))
      (pss_cons (ps_for PassesOwn.never rfl (pi_list (pe_callB (cr_sortedT rfl) (by rfl) B.sorted bt_sorted (pa_cons (pe_callTy (call_setO K P w rfl rfl rfl rfl hu64) (by rfl) B.set bt_set (pa_cons (pv 0) pa_nil)) pa_nil)))
          (pg_tup rfl (pgs_cons (pg_name (i := 2) nd rfl (.inl rfl)) (pgs_cons (pg_name (i := 3) nd rfl (.inl rfl)) pgs_nil)))
        (pss_one (ps_if (PW.pt (pw_and (pt_cmpR (op_neD hu64) (pv 1) (pe_lst pa_nil) (nomark _)) (pw_and1 (pt_cmpR op_le (pv 2) (pe_op op_add (pe_ix ix_tup (pe_ix ix_list (pv 1) (pe_un un_neg pe_int) (fun _ _ => rfl)) pe_int (fun _ _ => rfl)) pe_int) (nomark _)))))
          (pss_cons (ps_set (i := 4) nd rfl (.inl rfl) (pe_bm0 PySem.F.plainAttrs_list PySem.F.slot_list_pop PySem.F.type_list_pop mt_pop (pv 1)))
          (pss_one (ps_expr (pe_bm PySem.F.plainAttrs_list PySem.F.slot_list_append PySem.F.type_list_append mt_append (pv 1) (pa_cons (pe_tup (pa_cons (pe_ix ix_tup (pv 4) pe_int (fun _ _ => rfl))
              (pa_cons (pe_callB (call_max2 rfl) (by rfl) B.max bt_max (pa_cons (pe_callTy call_int1 (by rfl) B.int bt_int (pa_cons (pe_ix ix_tup (pv 4) pe_int (fun _ _ => rfl)) pa_nil)) (pa_cons (pe_callTy call_int1 (by rfl) B.int bt_int (pa_cons (pv 3) pa_nil)) pa_nil))) pa_nil))) pa_nil)))))
          (pss_one (ps_expr (pe_bm PySem.F.plainAttrs_list PySem.F.slot_list_append PySem.F.type_list_append mt_append (pv 1) (pa_cons (pe_tup (pa_cons (pv 2) (pa_cons (pv 3) pa_nil))) pa_nil)))))))
      (pss_one (ps_ret (pv 1)))), ?_⟩
    refine ⟨Nat.zero_le _, fun o no => ?_⟩
    have S1 := same_lay (o := .lst []) no
    have hA1 := hA0.same S1
    refine ⟨_, rfl, a, ilist L, rfl, by rw [refs_ilist]; exact S1.seq hS, fun p hp => ?_, by unfold ilist; rw [List.length_map]; exact hlen, fun u L1 nu h1 h2 => ?_⟩
    · unfold ilist at hp
      obtain ⟨z, hz, rfl⟩ := List.mem_map.mp hp
      exact .inl (.inl (hA1 z hz))
    have S2 := S1.trans (same_lay (o := SetTO P w u L1) nu)
    have hA2 := hA0.same S2
    obtain ⟨Z, rfl, hZ⟩ := of_ilist h1
    refine ⟨u, ilist Z, 2, lastP + 1, rfl, upd_same, fun p hp => ?_, by decide, fun p hp => ?_, fun L' d hperm hnd hlt hsort nd2 => ?_⟩
    · unfold ilist at hp
      obtain ⟨z, hz, rfl⟩ := List.mem_map.mp hp
      exact .inl (.inl (hA2 z (hZ z hz)))
    · unfold ilist at hp
      obtain ⟨z, hz, rfl⟩ := List.mem_map.mp hp
      exact ⟨rfl, bd_row (hok z.2 (mem_rws.mpr ⟨z.1, hZ z hz⟩))⟩
    obtain ⟨S, rfl, hSL⟩ := of_ilist (L := L) fun y hy => h1 y (hperm.mem_iff.mp hy)
    have S3 := S2.trans (same_lay (o := .lst ((ilist S).map fun q => V.ref q.1)) nd2)
    have hSA : AtR (upd (upd (upd H o (.lst [])) u (SetTO P w u (ilist Z))) d (.lst ((ilist S).map fun q => V.ref q.1))) S := fun p hp => S3 _ _ (hA0 p (hSL p hp))
    have hSlen : S.length < 64 := by
      unfold ilist at hlt
      rw [List.length_map] at hlt
      exact hlt
    have hSL2 : S.length ≤ L.length := by
      have k := nodup_le (l := (ilist S).map (·.2)) (m := (ilist L).map (·.2)) hnd fun y hy => by
        obtain ⟨p, hp, rfl⟩ := List.mem_map.mp hy
        unfold ilist at hp
        obtain ⟨z, hz, rfl⟩ := List.mem_map.mp hp
        exact List.mem_map.mpr ⟨_, by unfold ilist; exact List.mem_map.mpr ⟨z, hSL z hz, rfl⟩, rfl⟩
      unfold ilist at k
      rw [List.length_map, List.length_map, List.length_map, List.length_map] at k
      exact k
    have hSm : ∀ r, r ∈ rws S ↔ r ∈ rws L := fun r => by
      constructor
      · intro hr
        obtain ⟨a', ha'⟩ := mem_rws.mp hr
        exact mem_rws.mpr ⟨a', hSL _ ha'⟩
      · intro hr
        obtain ⟨a', ha'⟩ := mem_rws.mp hr
        have k1 := h2 (a', [r.1, r.2]) (by unfold ilist; exact List.mem_map.mpr ⟨(a', r), ha', rfl⟩)
        obtain ⟨y, hy, e⟩ := List.mem_map.mp k1
        have hy2 := hperm.mem_iff.mpr hy
        unfold ilist at hy2
        obtain ⟨z, hz, rfl⟩ := List.mem_map.mp hy2
        injection e with e1 e2
        injection e2 with e2 _
        exact mem_rws.mpr ⟨z.1, by rw [← Prod.ext e1 e2]; exact hz⟩
    have hso : (rws S).Pairwise fun r s => r.1 ≤ s.1 := by
      unfold ilist at hsort
      have := List.pairwise_map.mp hsort
      unfold rws
      refine List.pairwise_map.mpr (List.Pairwise.imp_of_mem (fun {x y} hx hy hxy => ?_) this)
      exact code_first (bd_row (hok x.2 ((hSm x.2).mp (mem_rws.mpr ⟨x.1, hx⟩)))) (bd_row (hok y.2 ((hSm y.2).mp (mem_rws.mpr ⟨y.1, hy⟩)))) hxy
    have hSok : ∀ r ∈ rws S, r.1 ≤ r.2 := fun r hr => okRow_le (hok r ((hSm r).mp hr))
    obtain ⟨hnf, hme⟩ := jfold_ok hSok hso
    rw [refs_ilist] at S3 hSA ⊢
    generalize hH5 : upd (upd (upd H o (.lst [])) u (SetTO P w u (ilist Z))) d (.lst (refs S)) = H5
    rw [hH5] at S3 hSA
    have nuo : o ≠ u := ne_of_none upd_same nu
    have nod : o ≠ d := by
      intro e
      rw [← e, upd_ne nuo, upd_same] at nd2
      cases nd2
    have ho5 : H5 o = some (.lst []) := by rw [← hH5, upd_ne nod, upd_ne nuo, upd_same]
    have hd5 : H5 d = some (.lst (refs S)) := by rw [← hH5, upd_same]
    have two : 2 ≤ sizeLine := by decide
    refine ⟨d, rfl, ⟨_, .inl (.inl hd5)⟩, for_list (K := K) (a := d) (xs := refs S) (fun i σ H' => ∃ f l b, ∃ A : List ARow, σ = [some (.ref a), some (.ref o), f, l, b] ∧ H' o = some (.lst (refs A)) ∧ AtR H' A ∧ rws A = (((rws S).take i).foldl jstep []).reverse ∧ Fre o H5 H' ∧ A.length ≤ i)
      ⟨none, none, none, [], rfl, ho5, (fun _ z => nomatch z), rfl, Fre.refl _ _, Nat.le_refl _⟩ (fun i σ H' _ ⟨_, _, _, _, _, _, _, _, fr, _⟩ => .inl (.inl (fr _ _ hd5 nod.symm))) ?_ ?_⟩
    · rintro i y σ H' hy ⟨f, l, b, A, rfl, hoA, hA, eA, fr, hAl⟩
      obtain ⟨z, hz, hzS, rfl⟩ := refs_get hy
      have hil : i < S.length := (List.getElem?_eq_some_iff.mp hz).1
      have ez : H' z.1 = some (.tup [.int z.2.1, .int z.2.2]) := fr _ _ (hSA z hzS) (ne_of (hSA z hzS) ho5 (by intro q; cases q))
      have e1 : ((rws S).take (i + 1)).foldl jstep [] = jstep (((rws S).take i).foldl jstep []) z.2 := by
        rw [List.take_add_one, rws_get hz, List.foldl_append]
        rfl
      have nAo : ∀ q ∈ A, q.1 ≠ o := fun q hq => ne_of (hA q hq) hoA (by intro w; cases w)
      refine ⟨z.1, _, rfl, .inl (.inl ez), rfl, _, _, rfl, _, _, rfl, rfl, ?_⟩
      -- found != []
      refine ⟨_, rfl, Nat.zero_le _, fun v hv => ?_⟩
      have sv := same_lay (o := .lst []) hv
      have hoV := sv _ _ hoA
      have hAV := hA.same sv
      have frV : Fre o H5 (upd H' v (.lst [])) := fr.trans fun b u e _ => sv b u e
      refine ⟨.list ((rws A).map rowD), .list [], .lst (.inl (.inl hoV)) (dp_rows hAV), .lst (.inl (.inl upd_same)) .nil, shp_lst _, rfl, _, rfl, ?_⟩
      generalize hHv : upd H' v (.lst []) = Hv
      rw [hHv] at hoV hAV frV
      have nAv : ∀ q ∈ A, q.1 ≠ o := nAo
      have alen : (refs A).length < sizeLine := small1000 (by rw [refs_len]; omega)
      have app : ∀ (b' : Option V) (_ : jstep (((rws S).take i).foldl jstep []) z.2 = z.2 :: ((rws S).take i).foldl jstep []) (T : Addr), Hv T = none →
          ∃ f' l' b'', ∃ A' : List ARow, [some (V.ref a), some (.ref o), some (.int z.2.1), some (.int z.2.2), b'] = [some (.ref a), some (.ref o), f', l', b''] ∧ (upd (upd Hv T (.tup [.int z.2.1, .int z.2.2])) o (.lst (refs A ++ [.ref T]))) o = some (.lst (refs A')) ∧ AtR (upd (upd Hv T (.tup [.int z.2.1, .int z.2.2])) o (.lst (refs A ++ [.ref T]))) A' ∧
            rws A' = (((rws S).take (i + 1)).foldl jstep []).reverse ∧ Fre o H5 (upd (upd Hv T (.tup [.int z.2.1, .int z.2.2])) o (.lst (refs A ++ [.ref T]))) ∧ A'.length ≤ i + 1 := by
        intro b' hj Tn hT
        have s4 := same_lay (o := .tup [.int z.2.1, .int z.2.2]) hT
        have noT : Tn ≠ o := by
          intro e
          rw [e, hoV] at hT
          cases hT
        refine ⟨_, _, _, A ++ [(Tn, z.2)], rfl, by rw [upd_same, refs_snoc], ?_, ?_, (frV.trans (fun b u e _ => s4 b u e)).trans Fre.put, by rw [List.length_append]; exact Nat.succ_le_succ hAl⟩
        · intro q hq
          rcases List.mem_append.mp hq with k | k
          · rw [upd_ne (nAo q k)]; exact s4 _ _ (hAV q k)
          · rw [List.mem_singleton.mp k, upd_ne noT, upd_same]
        · rw [rws_snoc, eA, e1, hj, List.reverse_cons]
      cases hacc : ((rws S).take i).foldl jstep [] with
      | nil =>
        have eA0 : A = [] := by
          rw [hacc] at eA
          exact List.map_eq_nil_iff.mp eA
        refine ite2 (fun k => ?_) (fun _ => iteF ?_)
        · rw [eA0] at k
          exact absurd k (by decide)
        · refine ⟨_, rfl, .inl ⟨rfl, _, .inl (.inl hoV)⟩, _, rfl, _, rfl, two, fun Tn hT => ?_⟩
          refine ⟨o, refs A, _, rfl, rfl, same_lay hT _ _ hoV, alen, ?_⟩
          exact app b (by rw [hacc]; rfl) Tn hT
      | cons q0 t0 =>
        have eA1 : rws A = t0.reverse ++ [q0] := by rw [eA, hacc, List.reverse_cons]
        obtain ⟨B', A2, rfl, eB, eA2⟩ := List.map_eq_append_iff.mp eA1
        obtain ⟨⟨aq, q1⟩, A3, rfl, eq1, eA3⟩ := List.map_eq_cons_iff.mp eA2
        obtain rfl := List.map_eq_nil_iff.mp eA3
        obtain rfl : q1 = q0 := eq1
        have haq : Hv aq = some (.tup [.int q1.1, .int q1.2]) := hAV (aq, q1) (List.mem_append_right _ (List.mem_singleton.mpr rfl))
        have hoW := hoV
        rw [refs_snoc] at hoV
        have hSo : SqL K Hv o (refs B' ++ [.ref aq]) := .inl (.inl hoV)
        have hSq : SqT K Hv aq [.int q1.1, .int q1.2] := .inl (.inl haq)
        have g0 : atI [V.int q1.1, .int q1.2] 0 = some (.int q1.1) := atI_nat (j := 0) rfl
        have g1 : atI [V.int q1.1, .int q1.2] 1 = some (.int q1.2) := atI_nat (j := 1) rfl
        have gl : atI (refs B' ++ [V.ref aq]) (-1) = some (.ref aq) := atI_last _ _
        refine ite2 (fun _ => ?_) (fun k => ?_)
        · refine ⟨_, rfl, _, rfl, 1, rfl, o, _, -1, _, rfl, rfl, hSo, gl, aq, _, 1, _, rfl, rfl, hSq, g1, _, _, rfl, rfl, _, _, rfl, rfl, _, rfl, ite2 (fun c => ?_) (fun c => ?_)⟩
          · have hc : z.2.1 ≤ q1.2 + 1 := of_decide_eq_true c
            -- before = found.pop()
            refine ⟨_, rfl, .inl ⟨rfl, _, .inl (.inl hoV)⟩, o, _, .ref aq, rfl, rfl, hoV, ?_, ?_⟩
            · rw [List.length_append, List.getElem?_append_right (by simp)]
              simp
            rw [List.dropLast_concat]
            have nqo : aq ≠ o := ne_of haq hoV (by intro w; cases w)
            have haq2 : (upd Hv o (.lst (refs B'))) aq = some (.tup [.int q1.1, .int q1.2]) := by rw [upd_ne nqo]; exact haq
            have hSq2 : SqT K (upd Hv o (.lst (refs B'))) aq [.int q1.1, .int q1.2] := .inl (.inl haq2)
            refine ⟨_, rfl, .inl ⟨rfl, _, .inl (.inl upd_same)⟩, _, rfl, aq, _, 0, _, rfl, rfl, hSq2, g0, _, rfl, aq, _, 1, _, rfl, rfl, hSq2, g1, .inl ⟨_, rfl, _, rfl, .inl ⟨_, rfl, _, _, rfl, two, fun Tn hT => ?_⟩⟩⟩
            have s4 := same_lay (o := .tup [.int q1.1, .int (if z.2.2 > q1.2 then z.2.2 else q1.2)]) hT
            have noT : Tn ≠ o := by
              intro e
              rw [e, upd_same] at hT
              cases hT
            refine ⟨o, _, _, rfl, rfl, s4 _ _ upd_same, small1000 (by rw [refs_len]; rw [List.length_append] at hAl; omega), ?_⟩
            refine ⟨_, _, _, B' ++ [(Tn, (q1.1, if z.2.2 > q1.2 then z.2.2 else q1.2))], rfl, by rw [upd_same, refs_snoc], ?_, ?_, ((frV.trans Fre.put).trans (fun b u e _ => s4 b u e)).trans Fre.put, ?_⟩
            · intro q hq
              rcases List.mem_append.mp hq with k | k
              · have nq := nAo q (List.mem_append_left _ k)
                rw [upd_ne nq]
                refine s4 _ _ ?_
                rw [upd_ne nq]
                exact hAV q (List.mem_append_left _ k)
              · rw [List.mem_singleton.mp k, upd_ne noT, upd_same]
            · rw [rws_snoc, e1, hacc]
              show rws B' ++ [(q1.1, if z.2.2 > q1.2 then z.2.2 else q1.2)] = (if z.2.1 ≤ q1.2 + 1 then (q1.1, if z.2.2 > q1.2 then z.2.2 else q1.2) :: t0 else z.2 :: q1 :: t0).reverse
              rw [if_pos hc, List.reverse_cons]
              exact congrArg (· ++ [(q1.1, if z.2.2 > q1.2 then z.2.2 else q1.2)]) eB
            · rw [List.length_append] at hAl ⊢
              exact Nat.le_succ_of_le hAl
          · have hc : ¬ z.2.1 ≤ q1.2 + 1 := fun w => c (decide_eq_true w)
            refine ⟨_, rfl, .inl ⟨rfl, _, .inl (.inl hoV)⟩, _, rfl, _, rfl, two, fun Tn hT => ?_⟩
            refine ⟨o, _, _, rfl, rfl, same_lay hT _ _ hoV, by rw [← refs_snoc]; exact alen, ?_⟩
            rw [← refs_snoc]
            refine app b ?_ Tn hT
            rw [hacc]
            show (if z.2.1 ≤ q1.2 + 1 then (q1.1, if z.2.2 > q1.2 then z.2.2 else q1.2) :: t0 else z.2 :: q1 :: t0) = z.2 :: q1 :: t0
            rw [if_neg hc]
        · exfalso
          apply k
          show (!PyData.eqvAll ((rws (B' ++ [(aq, q1)])).map rowD) []) = true
          rw [rws_snoc, List.map_append]
          cases (rws B').map rowD <;> rfl
    · rintro σ H' ⟨f, l, b, A, rfl, hoA, hA, eA, fr, hAl⟩
      rw [refs_len, List.take_of_length_le (by rw [rws_len]; exact Nat.le_refl _)] at eA
      have eN : rws A = (jfold (rws S)).reverse := eA
      have s6 : Same H H' := fun b u e => fr b u (S3 b u e) (ne_of_none e no)
      refine ⟨_, rfl, q o A H' s6 no hoA hA (by rw [eN]; exact hnf) (fun x => ?_) ?_ ?_⟩
      · rw [eN, hme x]
        exact mem_same hSm x
      · rw [refs_len] at hAl
        omega
      · rw [refs_len] at hAl
        omega
end
end OR

namespace OR
open PySem PySem.Spec PyProof.Rows L2
/-! ### own ==, !=, bool -/
section
variable {prog : Program} {w : World} {A : Around} {E : Value → Shared → Prop} {s : Shared} {K : PySem.W.Frag} {x C L f : Addr} {h₀ : Heap} {m : Str → Option Value} {ox : Obj} {od : Option Obj} {b tb : Value}
theorem ifBound_ne {M : Model} {args : List Value} {Q : Option Value → Shared → Prop} (X : K.In s.heap) (I : PySem.W.InstAt s.heap x ox C od) (hs : PySem.W.findIn K (.ref C) "__ne__" = some (some (.builtin "object.__ne__")))
    (h : wpAny M A (call (.builtin "object.__ne__") (.ref x :: args)) (fun v => Q (some v)) E s) : wpAny M A (callSpecialIfBound? (.ref x) "__ne__" args) Q E s := by
  simp only [callSpecialIfBound?, bindSpecialIfBound?]
  refine wpAny_holding (wpAny_bind (wpAny_bind (wpAny_bind (I.type.here ((PySem.W.looks_findIn X hs).here ?_)))))
  simp only [PySem.F.cmp_object.ne.bind]
  refine wpAny_bind (wpAny_askSetting (wpAny_ite ?_))
  have fin : wpAny M A (call (.builtin "object.__ne__") ([.ref x] ++ args) >>= fun v => pure (some v)) Q E s := wpAny_bind (wpAny_mono h (fun v s' h' => wpAny_pure h') fun _ _ h' => h')
  split
  · exact wpAny_bind (wpAny_pure (wpAny_pure fin))
  · exact wpAny_tryCatch (wpAny_bind (wpAny_pure (wpAny_pure fin)))
theorem check_ne {M : Model} {Q : Unit → Shared → Prop} (X : K.In s.heap) (I : PySem.W.InstAt s.heap x ox C od) (hm : PySem.W.mroIn K C (.type "object") = some true) (hq : Q () s) :
    wpAny M A (PySem.checkBuiltinCall "object.__ne__" ⟨[.ref x, b], []⟩) Q E s := by
  have hsig : ∃ sig, Manifest.signature? "object.__ne__" = sig := ⟨_, rfl⟩
  obtain ⟨sig, hsig⟩ := hsig
  have ha := PySem.F.cmpArgs_ne (.ref x) b
  unfold argsOk at ha
  simp only [PySem.checkBuiltinCall, PySem.F.cmpKind_ne, PySem.F.cmpSplit_ne]
  refine wpAny_bind (m := PySem.isInstance _ _) ?_
  unfold PySem.isInstance
  refine wpAny_bind (I.type.here ((PySem.W.looks_mroIn X hm).here ?_))
  rw [hsig] at ha ⊢
  cases sig with
  | none => exact wpAny_pure hq
  | some sg =>
    have h2 : Bind.checkArgs "object.__ne__" sg ⟨[.ref x, b], []⟩ = pure () := ha
    show wpAny M A (Bind.checkArgs "object.__ne__" sg ⟨[.ref x, b], []⟩) Q E _
    rw [h2]; exact wpAny_pure hq
/-- x != b by the own == of x -/
theorem ne_K {Q : Value → Shared → Prop} (hu : A.units + 1 < cLine) (F : PyProof.Rows.Fr h₀ L s.heap m) (X₀ : K.In h₀) (I : PySem.W.InstAt s.heap x ox C od) (hb : PySem.W.Looks (model prog w) s.heap (typeOf b) tb) (hn : PySem.W.notFirst K C tb = true)
    (h1 : PySem.W.findIn K (.ref C) "__ne__" = some (some (.builtin "object.__ne__"))) (hm : PySem.W.mroIn K C (.type "object") = some true) (hs : PySem.W.findIn K (.ref C) "__eq__" = some (some (.ref f))) (hf : PySem.W.isFn K (.ref f) = true)
    (h : wpAny (model prog w) A.in1 (call (.ref f) [.ref x, b]) (fun v s' => ∃ k, v = .bool k ∧ Q (.bool (!k)) s') E s) : wpAny (model prog w) A (richCompare .NotEq (.ref x) b) Q E s := by
  have X := X₀.keeps F.keep
  have entry : wpAny (model prog w) A.in1 (Builtin.«object.__ne__» ⟨[.ref x, b], []⟩) (fun r s' => ∃ k, r = .done (.ret (.bool (!k))) ∧ Q (.bool (!k)) s') E s := by
    unfold Builtin.«object.__ne__»
    refine wpAny_bind (m := PySem.slotArgs "__ne__" 1 _) (wpAny_pure ?_)
    refine wpAny_bind (wpAny_cRoomFor hu ?_)
    refine wpAny_bind (m := callSpecialIfBound? (.ref x) (Str.ofString "__eq__") [b]) (PySem.W.ifBound_K X I hs hf (wpAny_mono h (fun r s' hr => ?_) fun _ _ e => e))
    obtain ⟨k, rfl, hq⟩ := hr
    refine wpAny_bind (m := truthy (.bool k)) (wpAny_truthy_bool ?_)
    exact wpAny_pure ⟨k, rfl, hq⟩
  have one : wpAny (model prog w) A (tryCompare (.ref x) "__ne__" b) (fun r s' => ∃ v, r = some v ∧ Q v s') E s := by
    unfold tryCompare
    refine wpAny_bind (ifBound_ne X I h1 (wpAny_call (codeAny_call_builtin PySem.F.cmp_object.ne.plain PySem.F.cmpEntry_ne (check_ne X I hm (wpAny_mono entry (fun r s' z => ?_) fun _ _ e => e)))))
    obtain ⟨k, rfl, hq⟩ := z
    exact wpAny_pure ⟨_, rfl, hq⟩
  unfold richCompare
  simp only [oneThing_ref]
  refine wpAny_holding (wpAny_bind (wpAny_cRoomFor (by omega) ?_))
  refine wpAny_bind (I.type.here (wpAny_bind (hb.here ?_)))
  split
  · rename_i q
    have e : PySem.W.subIn K tb (.ref C) = some false := by
      rcases Bool.or_eq_true_iff.mp hn with e | e
      · rw [beq_iff_eq.mp e] at q; simp at q
      · exact beq_iff_eq.mp e
    refine wpAny_bind ((PySem.W.looks_subIn X e).here ?_)
    simp only [Bool.false_eq_true, if_false]
    refine wpAny_bind (wpAny_mono one (fun r s' z => ?_) fun _ _ e => e)
    obtain ⟨v, rfl, hq⟩ := z
    exact wpAny_pure hq
  · refine wpAny_bind (wpAny_pure ?_)
    simp only [Bool.false_eq_true, if_false]
    refine wpAny_bind (wpAny_mono one (fun r s' z => ?_) fun _ _ e => e)
    obtain ⟨v, rfl, hq⟩ := z
    exact wpAny_pure hq
theorem bool_truth {v : Value} {Q : Value → Shared → Prop} (h : wpAny (model prog w) A.in1.in1 (truthy v) (fun b s' => Q (.bool b) s') E s) : wpAny (model prog w) A (call (.type "bool") [v]) Q E s := by
  refine PySem.callType_codes (T := "bool") (Bi := Builtin.«object.__init__») (Q₁ := fun r s₁ => ∃ b, r = Value.bool b ∧ Q r s₁) PySem.F.called_bool (PySem.F.typeCall_bool_1 _) PySem.F.entry_object_init ?_ ?_
  · refine codeAny_of_tree ?_
    show wpAny _ A.in1.in1 (do checkBuiltinCall "bool.__new__" ⟨[.type "bool", v], []⟩; again (.builtin "bool.__new__" ⟨[.type "bool", v], []⟩)) _ _ s
    refine wpAny_bind (wpAny_of_eq (PySem.F.newCall_bool_1 _) (wpAny_pure ⟨plainId_quiet (by decide +kernel) _, codeAny_builtin PySem.F.entry_bool_new ?_⟩))
    rw [Around.under_plainId (by decide +kernel) _]
    unfold Builtin.«bool.__new__»
    refine wpAny_bind (wpAny_of_eq (a := true) (by first | rfl | kernel_rfl | (unfold isType; rw [isSubtype_type]; kernel_rfl)) ?_)
    refine PySem.W.KFB.if_not rfl ?_
    refine wpAny_bind (wpAny_of_eq (a := true) PySem.F.conv_sub_bool ?_)
    refine PySem.W.KFB.if_not rfl ?_
    refine wpAny_bind (wpAny_of_eq (a := [v]) rfl ?_)
    refine wpAny_bind (wpAny_mono h (fun b s' hq => ?_) fun _ _ e => e)
    exact wpAny_pure ⟨b, rfl, hq⟩
  · rintro obj s₁ ⟨b, rfl, hq⟩
    exact ⟨rfl, PySem.F.args_object_init_2 _ _, object_init_meets PySem.F.called_bool.init.lookup PySem.F.called_bool.made (by decide) prog w A.in1 _ s₁ ⟨rfl, rfl, hq⟩⟩
end
section
variable {X : Cx} {n : Nat} {C : Addr} {sp : Sp}
/-- what stands on the right: an instance of the class, or a value of a type that is no class below -/
def RightOf (K : PySem.W.Frag) (C : Addr) (H : Hp) (y : V) : Prop := ∃ tb, TyX K H y tb ∧ PySem.W.notFirst K C tb = true
/-- x == y by the own == of x -/
def rEqO (K : PySem.W.Frag) (C : Addr) (sp : Sp) : R2 := fun x y H Q => ∃ a dx fs, x = .ref a ∧ H a = some (.ins C dx fs) ∧ RightOf K C H y ∧ sp [x, y] H Q E0
theorem op_eqO (K : PySem.W.Frag) (hK : X.K = K) (m : Md X.prog X.w X.K X.mg X.base n C "__eq__" sp) (hr : Room n X.A) : OpR X (compareOp .Eq) (rEqO K C sp) := by
  subst hK
  intro pins s σ H x y v u Q I rx ry h
  obtain ⟨f, F, hs, hf, _⟩ := m.ex
  obtain ⟨a, dx, fs, rfl, ha, ⟨tb, hy, hn⟩, q⟩ := h
  cases (show v = Value.ref a from rx)
  obtain ⟨mA, J, _⟩ := ins_get I.hok ha
  obtain ⟨od, J, _⟩ := J.look
  obtain ⟨Pk, hk, hp, _⟩ := kit_of I ry hy
  obtain ⟨m, hF⟩ := I.fr
  refine PySem.W.cmp_K (op := .Eq) (tb := tb) hr.units0 hF I.ok.mod.kin J (hk.ty _ _ I.kIn hp) hn hs hf ?_
  refine wpAny_mono (wpAny_call (run_fnR (us := [.ref a, u]) (vs := [.ref a, y]) F hr pass0 I (.cons rfl (.cons ry .nil)) q)) (fun w s' z => ?_) fun _ _ x => x
  obtain ⟨z', H', I', rz, qz⟩ := z
  exact SlX.cmpback rz ⟨z', H', I', rz, qz⟩
/-- x != y by the own == of x -/
def rNeO (K : PySem.W.Frag) (C : Addr) (sp : Sp) : R2 := fun x y H Q => ∃ a dx fs, x = .ref a ∧ H a = some (.ins C dx fs) ∧ RightOf K C H y ∧ sp [x, y] H (fun z H' => ∃ k, z = .bl k ∧ Q (.bl (!k)) H') E0
theorem op_neO (K : PySem.W.Frag) (hK : X.K = K) (m : Md X.prog X.w X.K X.mg X.base n C "__eq__" sp) (h1 : PySem.W.findIn X.K (.ref C) "__ne__" = some (some (.builtin "object.__ne__"))) (hm : PySem.W.mroIn X.K C (.type "object") = some true) (hr : Room (n + 1) X.A) : OpR X (compareOp .NotEq) (rNeO K C sp) := by
  subst hK
  intro pins s σ H x y v u Q I rx ry h
  obtain ⟨f, F, hs, hf, _⟩ := m.ex
  obtain ⟨a, dx, fs, rfl, ha, ⟨tb, hy, hn⟩, q⟩ := h
  cases (show v = Value.ref a from rx)
  obtain ⟨mA, J, _⟩ := ins_get I.hok ha
  obtain ⟨od, J, _⟩ := J.look
  obtain ⟨Pk, hk, hp, _⟩ := kit_of I ry hy
  obtain ⟨m, hF⟩ := I.fr
  refine ne_K (tb := tb) (by have := hr.units; omega) hF I.ok.mod.kin J (hk.ty _ _ I.kIn hp) hn h1 hm hs hf ?_
  refine wpAny_mono (wpAny_call (SlX.run_at (us := [.ref a, u]) (ws := [.ref a, y]) F hr.in1 I.env0.in1 pass0 I (.cons rfl (.cons ry .nil)) q)) (fun w s' z => ?_) fun _ _ x => x
  obtain ⟨z', H', I', rz, k, ek, qz⟩ := z
  subst ek
  cases (show w = Value.bool k from rz)
  exact ⟨k, rfl, .bl (!k), H', I', rfl, qz⟩
/-- the truth of x by its own bool -/
def rTruO (C : Addr) (sp : Sp) : V → Hp → (Bool → Hp → Prop) → Prop := fun x H Q => ∃ a dx fs, x = .ref a ∧ H a = some (.ins C dx fs) ∧ sp [x] H (fun z H' => ∃ k, z = .bl k ∧ Q k H') E0
theorem tru_own (m : Md X.prog X.w X.K X.mg X.base n C "__bool__" sp) (hr : Room n X.A) : TruR X (rTruO C sp) := by
  intro pins s σ H x v Q I rx h
  obtain ⟨f, F, hs, hf, _⟩ := m.ex
  obtain ⟨a, dx, fs, rfl, ha, q⟩ := h
  cases (show v = Value.ref a from rx)
  obtain ⟨mA, J, _⟩ := ins_get I.hok ha
  obtain ⟨od, J, _⟩ := J.look
  obtain ⟨m, hF⟩ := I.fr
  refine PySem.W.truthy_K hF I.ok.mod.kin J hs hf ?_
  refine wpAny_mono (wpAny_call (run_fnR (us := [.ref a]) (vs := [.ref a]) F hr pass0 I (.cons rfl .nil) q)) (fun w s' z => ?_) fun _ _ x => x
  obtain ⟨z', H', I', rz, k, ek, qz⟩ := z
  subst ek
  cases (show w = Value.bool k from rz)
  exact ⟨H', I', qz⟩
/-- bool(x) by its own bool -/
def rBoolO (C : Addr) (sp : Sp) : List V → Hp → VK → Prop := fun xs H Q => ∃ a dx fs, xs = [.ref a] ∧ H a = some (.ins C dx fs) ∧ sp xs H (fun z H' => ∃ k, z = .bl k ∧ Q z H') E0
theorem call_boolO (m : Md X.prog X.w X.K X.mg X.base n C "__bool__" sp) (hr : Room (n + 2) X.A) : CallR X (.type "bool") (rBoolO C sp) := by
  intro pins s σ H xs us Q I r h
  obtain ⟨f, F, hs, hf, _⟩ := m.ex
  obtain ⟨a, dx, fs, rfl, ha, q⟩ := h
  obtain ⟨u, rfl, ru⟩ := r.one
  cases (show u = Value.ref a from ru)
  obtain ⟨mA, J, _⟩ := ins_get I.hok ha
  obtain ⟨od, J, _⟩ := J.look
  obtain ⟨m, hF⟩ := I.fr
  have hr2 : Room n X.A.in1.in1 := (show Room (n + 1) X.A.in1 from Room.in1 hr).in1
  refine bool_truth (PySem.W.truthy_K hF I.ok.mod.kin J hs hf ?_)
  refine wpAny_mono (wpAny_call (SlX.run_at (us := [.ref a]) (ws := [.ref a]) F hr2 I.env0.in1.in1 pass0 I (.cons rfl .nil) q)) (fun w s' z => ?_) fun _ _ x => x
  obtain ⟨z', H', I', rz, k, ek, qz⟩ := z
  subst ek
  cases (show w = Value.bool k from rz)
  exact ⟨.bl k, H', I', rfl, qz⟩
/-- bool(a tuple) -/
theorem call_boolT (K : PySem.W.Frag) (hK : X.K = K) : CallR X (.type "bool") (fun xs H Q => ∃ (a : Addr) (zs : List V), xs = [.ref a] ∧ SqT K H a zs ∧ Q (.bl (!zs.isEmpty)) H) := by
  subst hK
  intro pins s σ H xs us Q I r h
  obtain ⟨a, zs, rfl, hq, q⟩ := h
  obtain rfl := Vals.ref1 r
  obtain ⟨its, rv, pl, hz⟩ := I.tuple hq
  have hl := line63
  have hlen := rv.length
  exact bool_truth (truthy_tuple pl (by simp only [List.size_toArray]; omega) ⟨.bl (!zs.isEmpty), H, I.tok _, by rw [isEmpty_of rv]; rfl, q⟩)
end
end OR

namespace OR
open PySem PySem.Spec PyProof.Rows L2
/-! ### Places: made, compared, its truth -/
structure PMk' (P : Program) (w : World) (K : PySem.W.Frag) (mg : Str → Option Value) (base : Heap) (C : Addr) : Prop where
  T : PTxt K mg C
  made : ∃ f fd t0, Mk K C f ∧ FnOk P w K mg base CX0 4 f fd ["self", "stretches"] (spPlInit K C) ∧ Binds K fd ["self", "stretches"] [] ∧ Binds K fd ["self", "stretches"] [.ref t0] ∧ ∀ H : Hp, SqT K H t0 []
def tMkP (K : PySem.W.Frag) (C : Addr) (t : TA) : TE := fun σ H Q => t σ H fun vs H1 => ∃ (a : Addr) (L : List ARow), vs = [.ref a] ∧ (SqL K H1 a (refs L) ∨ SqT K H1 a (refs L)) ∧ L.length ≤ 1000 ∧ PairsAt H1 L ∧ (∀ r ∈ rws L, okRow r = true) ∧
  ∀ (x : Addr) (l : List Row) (H' : Hp), H1 x = none → IsP C H' x l → (∀ z, mem l z ↔ mem (rws L) z) → l.length ≤ L.length → Same H1 H' → Q (.ref x) H'
def tMkP0 (C : Addr) : TE := fun σ H Q => ∀ (x : Addr) (H' : Hp), H x = none → IsP C H' x [] → Same H H' → Q (.ref x) H'
theorem made_same {C x dx : Addr} {H H' : Hp} (nx : H x = none) (ndx : H dx = none) (hs : ∀ c o, (upd (upd H dx (.own x)) x (.ins C dx [])) c = some o → c ≠ x → H' c = some o) : Same H H' := fun c o e => by
  have ncx : c ≠ x := ne_of_none e nx
  refine hs c o ?_ ncx
  rw [upd_ne ncx, upd_ne (ne_of_none e ndx)]
  exact e
theorem pe_mkP {X : Cx} (K : PySem.W.Frag) (hK : X.K = K) {C : Addr} {j : Nat} {e : Expr} {es : List Expr} {t : TA} {p pos : Pos} (M : PMk' X.prog X.w X.K X.mg X.base C) (hr : Room j X.A) (hj : 5 ≤ j) (hg : Gl X "Places") (ha : PA X (e :: es) t)
    (he : starEach (e :: es) X.env = (false, eval e X.env) :: starEach es X.env := by rfl) (hpl : (backTo pos (starEach es X.env)).any (·.1) = false := by rfl) : PE X (.Call (.Name "Places" p) (e :: es) [] pos) (tMkP K C t) := by
  subst hK
  obtain ⟨f, fd, t0, mk, F, hb, _⟩ := M.made
  refine ⟨fun pins s σ H Q I h => ?_⟩
  refine wpAny_Call_Name_kw (ld_glob I hg M.T.mgC ?_ (by decide))
  refine PySem.W.callWith_K (h₀ := X.base) I.ok.mod.kin mk.kp (thn (ha.run pos pins s σ H _ I h) fun us s1 ⟨vs, H1, I1, r, q⟩ => ⟨I1.kIn, ?_⟩) he hpl
  obtain ⟨a, L, rfl, hS, hlen, hP, hok, q⟩ := q
  refine run_make mk F (hr.mono hj) hb .nil pass0 I1 r fun x dx nx ndx nex => ?_
  have S1 : Same H1 (upd (upd H1 dx (.own x)) x (.ins C dx [])) := fun c o e => by rw [upd_ne (ne_of_none e nx), upd_ne (ne_of_none e ndx)]; exact e
  exact ⟨x, dx, a, L, rfl, upd_same, hS.elim (fun e => .inl (S1.seq e)) (fun e => .inr (sameT S1 e)), hlen, hP.same S1, hok, fun l H' hs hp hme hle => ⟨rfl, q x l H' nx hp hme hle (made_same nx ndx hs)⟩⟩
theorem pe_mkP0 {X : Cx} {C : Addr} {j : Nat} {p pos : Pos} (M : PMk' X.prog X.w X.K X.mg X.base C) (hr : Room j X.A) (hj : 5 ≤ j) (hg : Gl X "Places") : PE X (.Call (.Name "Places" p) [] [] pos) (tMkP0 C) := by
  obtain ⟨f, fd, t0, mk, F, _, hb, ht⟩ := M.made
  refine ⟨fun pins s σ H Q I q => ?_⟩
  refine wpAny_Call_Name_kw (ld_glob I hg M.T.mgC ?_ (by decide))
  refine PySem.W.callWith_K0 I.kIn mk.kp (run_make (us := []) (vs := []) (dvs := [.ref t0]) mk F (hr.mono hj) hb (.cons rfl .nil) pass0 I .nil fun x dx nx ndx nex => ?_)
  refine ⟨x, dx, t0, [], rfl, upd_same, .inr (ht _), Nat.zero_le _, (fun _ z => nomatch z), (fun _ z => nomatch z), fun l H' hs hp hme _ => ⟨rfl, ?_⟩⟩
  have el : l = [] := Nf.unique hp.nf Nf.nil hme
  subst el
  exact q x H' nx hp (made_same nx ndx hs)
def spPlEq (K : PySem.W.Frag) (C : Addr) : Sp := fun vs H Q _ => ∃ x l y, vs = [.ref x, y] ∧ IsP C H x l ∧ ((∃ b m, y = .ref b ∧ IsP C H b m ∧ Q (.bl (decide (l = m))) H) ∨ (∃ T : String, TyX K H y (.type T) ∧ PySem.W.kitOne K (.type T) (.ref C) = some false ∧ Q (.bl false) H))
def spPlBool (C : Addr) : Sp := fun vs H Q _ => ∃ x l, vs = [.ref x] ∧ IsP C H x l ∧ Q (.bl (!l.isEmpty)) H
section
variable {P : Program} {w : World} {K : PySem.W.Frag} {mg : Str → Option Value} {base : Heap}
theorem tyP {C : Addr} (T : PTxt K mg C) {H : Hp} {x dx : Addr} {fs : List (Str × V)} (hx : H x = some (.ins C dx fs)) : TyX K H (.ref x) (.ref C) := .base (.ins hx T.cl T.isi.ca T.isi.cn T.isi.ct T.isi.cm)
theorem scEq : FnScope ["self", "other"] ["self", "other"] (defScope sPlEq) := ⟨rfl, rfl, rfl, by decide +kernel, rfl, by decide +kernel, by decide +kernel⟩
theorem ok_pleq {f C : Addr} {fd : FuncData} (F : Fun K "__eq__" "Places.__eq__" sPlEq f fd) (T : PTxt K mg C) : FnOk P w K mg base CX0 1 f fd ["self", "other"] (spPlEq K C) := by
  refine F.ok scEq (fun vs H Q E h => ?_) (fun cdv A outer s H vs Q E hr h => ?_)
  · obtain ⟨x, l, y, rfl, _⟩ := h
    rfl
  · obtain ⟨x, l, y, rfl, ⟨_, dx, t, fi, b, M, hx, ht, hM, rfl, _⟩, h⟩ := h
    have hu64 : (A.deeper (envOfC "Places.__eq__" (defScope sPlEq) s.heap.objs.size f cdv)).units + 64 < cLine := hr.units
    refine ⟨_, pss_one (ps_ret (pe_and (pe_callB call_isi (by rfl) T.zIsi bt_isi (pa_cons (pv 1) (pa_cons (pe_glob (v := .ref C) (by rfl) T.mgC rfl) pa_nil)))
      (pe_one (pe_cmpR (op_eqD hu64) (pe_fld (pv 0) rfl) (pe_fld (pv 1) rfl) (nomark _))))), ?_⟩
    rcases h with ⟨y, m, rfl, ⟨_, dy, t2, f2, b2, M2, hy, ht2, hM2, rfl, _⟩, q⟩ | ⟨ty, hT, hk, q⟩
    · refine ⟨_, rfl, .ref y, .ref C, _, _, true, rfl, .own C, tyP T hy, T.kPP, true, rfl, iteT ?_⟩
      refine ⟨_, rfl, x, C, dx, _, _, rfl, hx, T.cl, T.nS, pFl_s _ _ _, _, rfl, y, C, dy, _, _, rfl, hy, T.cl, T.nS, pFl_s _ _ _, .tuple ((rws M).map rowD), .tuple ((rws M2).map rowD), .tup (.inl (.inl ht)) (dp_rows hM), .tup (.inl (.inl ht2)) (dp_rows hM2), shp_tup _, shp_tup _, ?_⟩
      have e : PyData.eqv (.tuple ((rws M).map rowD)) (.tuple ((rws M2).map rowD)) = decide (rws M = rws M2) := eqv_rows _ _
      rw [e]
      exact q
    · exact ⟨_, rfl, y, .ref C, _, _, false, rfl, .own C, hT, hk, false, rfl, iteF q⟩
theorem scBo : FnScope ["self"] ["self"] (defScope sPlBool) := ⟨rfl, rfl, rfl, by decide +kernel, rfl, by decide +kernel, by decide +kernel⟩
theorem ok_plbool {f C : Addr} {fd : FuncData} (F : Fun K "__bool__" "Places.__bool__" sPlBool f fd) (T : PTxt K mg C) : FnOk P w K mg base CX0 1 f fd ["self"] (spPlBool C) := by
  refine F.ok scBo (fun vs H Q E h => ?_) (fun cdv A outer s H vs Q E hr h => ?_)
  · obtain ⟨x, l, rfl, _⟩ := h
    rfl
  · obtain ⟨x, l, rfl, ⟨_, dx, t, fi, b, M, hx, ht, hM, rfl, _⟩, q⟩ := h
    refine ⟨_, pss_one (ps_ret (pe_callTy (call_boolT K rfl) (by rfl) T.zBool bt_bool (pa_cons (pe_fld (pv 0) rfl) pa_nil))), ?_⟩
    refine ⟨_, rfl, x, C, dx, _, _, rfl, hx, T.cl, T.nS, pFl_s _ _ _, t, refs M, rfl, .inl (.inl ht), ?_⟩
    have e : (refs M).isEmpty = (rws M).isEmpty := by cases M <;> rfl
    rw [e]
    exact q
end
end OR

namespace OR
open PySem PySem.Spec PyProof.Rows L2
/-! ### maths of what rows have in common, and of their gaps -/
def mx (x y : Int) : Int := if y > x then y else x
def mn (x y : Int) : Int := if y < x then y else x
theorem mx_ok (x y : Int) : x ≤ mx x y ∧ y ≤ mx x y ∧ (mx x y = x ∨ mx x y = y) := by
  unfold mx
  split <;> omega
theorem mn_ok (x y : Int) : mn x y ≤ x ∧ mn x y ≤ y ∧ (mn x y = x ∨ mn x y = y) := by
  unfold mn
  split <;> omega
def com1 (r s : Row) : List Row := if mx r.1 s.1 ≤ mn r.2 s.2 then [(mx r.1 s.1, mn r.2 s.2)] else []
def com : List Row → List Row → List Row
  | [], _ => []
  | _ :: _, [] => []
  | r :: a, s :: b => com1 r s ++ (if r.2 < s.2 then com a (s :: b) else com (r :: a) b)
termination_by a b => a.length + b.length
theorem com_nil (b : List Row) : com [] b = [] := by rw [com]
theorem com_nil2 : ∀ a : List Row, com a [] = []
  | [] => by rw [com]
  | _ :: _ => by rw [com]
theorem com_cons (r s : Row) (a b : List Row) : com (r :: a) (s :: b) = com1 r s ++ (if r.2 < s.2 then com a (s :: b) else com (r :: a) b) := by rw [com]
theorem mem_one (r : Row) (z : Int) : mem [r] z ↔ (r.1 ≤ z ∧ z ≤ r.2) := by
  rw [mem_cons]
  exact ⟨fun k => k.elim id fun h => absurd h (mem_nil _), .inl⟩
theorem com1_mem (r s : Row) (z : Int) : mem (com1 r s) z ↔ ((r.1 ≤ z ∧ z ≤ r.2) ∧ (s.1 ≤ z ∧ z ≤ s.2)) := by
  have h1 := mx_ok r.1 s.1
  have h2 := mn_ok r.2 s.2
  unfold com1
  split
  · rw [mem_one]
    dsimp only
    omega
  · constructor
    · exact fun h => absurd h (mem_nil _)
    · omega
theorem com_mem (a b : List Row) (ha : Nf a) (hb : Nf b) (z : Int) : mem (com a b) z ↔ mem a z ∧ mem b z := by
  match a, b, ha, hb with
  | [], b, _, _ =>
    rw [com_nil]
    exact ⟨fun h => absurd h (mem_nil _), fun h => absurd h.1 (mem_nil _)⟩
  | r :: a, [], _, _ =>
    rw [com_nil2]
    exact ⟨fun h => absurd h (mem_nil _), fun h => absurd h.2 (mem_nil _)⟩
  | r :: a, s :: b, ha, hb =>
    rw [com_cons, mem_append, com1_mem]
    have ra : mem a z → r.2 + 1 < z := fun h => ha.behind h
    have sb : mem b z → s.2 + 1 < z := fun h => hb.behind h
    split
    · rename_i hlt
      rw [com_mem a (s :: b) ha.tail hb z, mem_cons, mem_cons]
      constructor
      · rintro (⟨h1, h2⟩ | ⟨h1, h2⟩)
        · exact ⟨.inl h1, .inl h2⟩
        · exact ⟨.inr h1, h2⟩
      · rintro ⟨h1 | h1, h2 | h2⟩
        · exact .inl ⟨h1, h2⟩
        · have := sb h2
          omega
        · exact .inr ⟨h1, .inl h2⟩
        · exact .inr ⟨h1, .inr h2⟩
    · rename_i hlt
      rw [com_mem (r :: a) b ha hb.tail z, mem_cons, mem_cons]
      constructor
      · rintro (⟨h1, h2⟩ | ⟨h1, h2⟩)
        · exact ⟨.inl h1, .inl h2⟩
        · exact ⟨h1, .inr h2⟩
      · rintro ⟨h1 | h1, h2 | h2⟩
        · exact .inl ⟨h1, h2⟩
        · exact .inr ⟨.inl h1, h2⟩
        · have := ra h1
          omega
        · exact .inr ⟨.inr h1, h2⟩
termination_by a.length + b.length
theorem com1_ok {r s : Row} (hr : okRow r = true) (hs : okRow s = true) : ∀ q ∈ com1 r s, okRow q = true := fun q hq => by
  have o1 := okRow_iff hr
  have o2 := okRow_iff hs
  have h1 := mx_ok r.1 s.1
  have h2 := mn_ok r.2 s.2
  unfold com1 at hq
  split at hq
  · rw [List.mem_singleton.mp hq]
    exact okRow_of (by omega) (by omega) (by omega)
  · cases hq
theorem com_ok (a b : List Row) (ha : ∀ r ∈ a, okRow r = true) (hb : ∀ r ∈ b, okRow r = true) : ∀ q ∈ com a b, okRow q = true := by
  match a, b, ha, hb with
  | [], b, _, _ =>
    rw [com_nil]
    exact fun _ h => nomatch h
  | r :: a, [], _, _ =>
    rw [com_nil2]
    exact fun _ h => nomatch h
  | r :: a, s :: b, ha, hb =>
    intro q hq
    rw [com_cons] at hq
    rcases List.mem_append.mp hq with k | k
    · exact com1_ok (ha r List.mem_cons_self) (hb s List.mem_cons_self) q k
    · split at k
      · exact com_ok a (s :: b) (fun q hq => ha q (List.mem_cons_of_mem _ hq)) hb q k
      · exact com_ok (r :: a) b ha (fun q hq => hb q (List.mem_cons_of_mem _ hq)) q k
termination_by a.length + b.length
theorem com1_len (r s : Row) : (com1 r s).length ≤ 1 := by
  unfold com1
  split
  · exact Nat.le_refl _
  · exact Nat.zero_le _
theorem com_len (a b : List Row) : (com a b).length ≤ a.length + b.length := by
  match a, b with
  | [], b =>
    rw [com_nil]
    exact Nat.zero_le _
  | r :: a, [] =>
    rw [com_nil2]
    exact Nat.zero_le _
  | r :: a, s :: b =>
    rw [com_cons, List.length_append]
    have h0 := com1_len r s
    split
    · have h1 := com_len a (s :: b)
      simp only [List.length_cons] at h1 ⊢
      omega
    · have h1 := com_len (r :: a) b
      simp only [List.length_cons] at h1 ⊢
      omega
termination_by a.length + b.length
def gp : Int → List Row → List Row
  | s, [] => if s ≤ lastP then [(s, lastP)] else []
  | s, r :: a => (if s < r.1 then [(s, r.1 - 1)] else []) ++ gp (r.2 + 1) a
theorem gp_mem : ∀ (a : List Row) (s : Int), Nf a → (∀ r ∈ a, s ≤ r.1) → (∀ r ∈ a, r.2 ≤ lastP) → ∀ z, mem (gp s a) z ↔ (s ≤ z ∧ z ≤ lastP ∧ ¬ mem a z)
  | [], s, _, _, _, z => by
    unfold gp
    split
    · rw [mem_one]
      exact ⟨fun h => ⟨h.1, h.2, mem_nil _⟩, fun h => ⟨h.1, h.2.1⟩⟩
    · exact ⟨fun h => absurd h (mem_nil _), fun h => by omega⟩
  | r :: a, s, n, h1, h2, z => by
    have ih := gp_mem a (r.2 + 1) n.tail (fun q hq => by have := (List.pairwise_cons.mp n.gap).1 q hq; omega) (fun q hq => h2 q (List.mem_cons_of_mem _ hq)) z
    have hr := n.head
    have hs := h1 r List.mem_cons_self
    have hl := h2 r List.mem_cons_self
    have hb : mem a z → r.2 + 1 < z := fun h => n.behind h
    unfold gp
    rw [mem_append, ih, mem_cons]
    have e : mem (if s < r.1 then [(s, r.1 - 1)] else []) z ↔ (s ≤ z ∧ z ≤ r.1 - 1) := by
      split
      · rw [mem_one]
      · exact ⟨fun h => absurd h (mem_nil _), fun h => by omega⟩
    rw [e]
    by_cases hm : mem a z
    · have := hb hm
      constructor
      · rintro (h | h)
        · omega
        · exact absurd hm h.2.2
      · rintro ⟨_, _, h⟩
        exact absurd (Or.inr hm) h
    · constructor
      · rintro (h | h)
        · exact ⟨by omega, by omega, fun k => k.elim (fun k => by omega) hm⟩
        · exact ⟨by omega, h.2.1, fun k => k.elim (fun k => by omega) hm⟩
      · rintro ⟨k1, k2, k3⟩
        by_cases hz : z ≤ r.1 - 1
        · exact .inl ⟨k1, hz⟩
        · refine .inr ⟨?_, k2, hm⟩
          have : ¬ (r.1 ≤ z ∧ z ≤ r.2) := fun k => k3 (.inl k)
          omega
theorem gp_lo : ∀ (a : List Row) (s : Int), Nf a → (∀ r ∈ a, s ≤ r.1) → ∀ q ∈ gp s a, s ≤ q.1
  | [], s, _, _, q, hq => by
    unfold gp at hq
    split at hq
    · rw [List.mem_singleton.mp hq]
      exact Int.le_refl _
    · cases hq
  | r :: a, s, n, h1, q, hq => by
    have hr := n.head
    have hs := h1 r List.mem_cons_self
    unfold gp at hq
    rcases List.mem_append.mp hq with k | k
    · split at k
      · rw [List.mem_singleton.mp k]
        exact Int.le_refl _
      · cases k
    · have := gp_lo a (r.2 + 1) n.tail (fun q hq => by have := (List.pairwise_cons.mp n.gap).1 q hq; omega) q k
      omega
theorem gp_nf : ∀ (a : List Row) (s : Int), Nf a → (∀ r ∈ a, s ≤ r.1) → Nf (gp s a)
  | [], s, _, _ => by
    unfold gp
    split
    · exact ⟨fun q hq => by rw [List.mem_singleton.mp hq]; assumption, List.pairwise_singleton _ _⟩
    · exact Nf.nil
  | r :: a, s, n, h1 => by
    have hr := n.head
    have hg : ∀ q ∈ a, r.2 + 1 ≤ q.1 := fun q hq => by have := (List.pairwise_cons.mp n.gap).1 q hq; omega
    have ih := gp_nf a (r.2 + 1) n.tail hg
    have lo := gp_lo a (r.2 + 1) n.tail hg
    unfold gp
    split
    · refine ⟨fun q hq => ?_, List.pairwise_cons.mpr ⟨fun q hq => ?_, ih.gap⟩⟩
      · rcases List.mem_cons.mp hq with k | k
        · rw [k]
          dsimp only
          omega
        · exact ih.ok q k
      · have := lo q hq
        dsimp only
        omega
    · exact ih
theorem gp_ok : ∀ (a : List Row) (s : Int), 0 ≤ s → (∀ r ∈ a, okRow r = true) → ∀ q ∈ gp s a, okRow q = true
  | [], s, h0, _, q, hq => by
    unfold gp at hq
    split at hq
    · rw [List.mem_singleton.mp hq]
      exact okRow_of h0 (by assumption) (Int.le_refl _)
    · cases hq
  | r :: a, s, h0, h1, q, hq => by
    have o := okRow_iff (h1 r List.mem_cons_self)
    unfold gp at hq
    rcases List.mem_append.mp hq with k | k
    · split at k
      · rw [List.mem_singleton.mp k]
        exact okRow_of h0 (by omega) (by omega)
      · cases k
    · exact gp_ok a (r.2 + 1) (by omega) (fun q hq => h1 q (List.mem_cons_of_mem _ hq)) q k
theorem gp_len : ∀ (a : List Row) (s : Int), (gp s a).length ≤ a.length + 1
  | [], s => by
    unfold gp
    split
    · exact Nat.le_refl _
    · exact Nat.zero_le _
  | r :: a, s => by
    have ih := gp_len a (r.2 + 1)
    unfold gp
    rw [List.length_append]
    split
    · simp only [List.length_cons, List.length_nil]
      omega
    · simp only [List.length_cons, List.length_nil]
      omega
end OR

namespace OR
open PySem PySem.Spec PyProof.Rows L2
/-- an item of a list or a tuple -/
def rIxA (K : PySem.W.Frag) : R2 := fun x y H Q => ∃ p xs i v, x = .ref p ∧ y = .int i ∧ (SqL K H p xs ∨ SqT K H p xs) ∧ atI xs i = some v ∧ Q v H
theorem ix_any {X : Cx} (K : PySem.W.Frag) (hK : X.K = K) : IxR X (rIxA K) := by
  subst hK
  intro value slice pins s σ H x y v u Q I rx ry h hs
  obtain ⟨p, xs, i, z, hx, hy, hq | hq, he, q⟩ := h
  · exact ix_list value slice pins s σ H x y v u Q I rx ry ⟨p, xs, i, z, hx, hy, hq, he, q⟩ hs
  · exact ix_tup value slice pins s σ H x y v u Q I rx ry ⟨p, xs, i, z, hx, hy, hq, he, q⟩ hs
def SqA (K : PySem.W.Frag) (H : Hp) (a : Addr) (xs : List V) : Prop := SqL K H a xs ∨ SqT K H a xs
theorem SqA.same {K : PySem.W.Frag} {H H' : Hp} {a : Addr} {xs : List V} (h : SqA K H a xs) (s : Same H H') : SqA K H' a xs := h.elim (fun e => .inl (s.seq e)) fun e => .inr (sameT s e)
structure IsQ (C : Addr) (H : Hp) (x : Addr) (l : List Row) : Prop where
  is : IsP C H x l
  ok : ∀ r ∈ l, okRow r = true
theorem IsQ.same {C : Addr} {H H' : Hp} {x : Addr} {l : List Row} (h : IsQ C H x l) (s : Same H H') : IsQ C H' x l := ⟨h.is.same s, h.ok⟩
theorem okq {l n : List Row} {C : Addr} {H : Hp} {x : Addr} (h : IsP C H x n) (me : ∀ z, mem n z ↔ mem l z) (ok : ∀ r ∈ l, okRow r = true) : IsQ C H x n := ⟨h, ok_of_mem h.nf me ok⟩
theorem mem_bd {l : List Row} (ok : ∀ r ∈ l, okRow r = true) {z : Int} (h : mem l z) : 0 ≤ z ∧ z ≤ lastP := by
  obtain ⟨r, hr, h1, h2⟩ := h
  have := okRow_iff (ok r hr)
  omega
theorem Frm.tp {H H' : Hp} {p a : Addr} {n : Nat} {xs : List V} (f : Frm p H H') (P : Pen H p n) (h : H a = some (.tup xs)) : H' a = some (.tup xs) := by
  obtain ⟨kvs, hp⟩ := P.dict
  exact f _ _ h (ne_of h hp (by intro z; cases z))
theorem IsP.frm {C : Addr} {H H' : Hp} {x p : Addr} {n : Nat} {l : List Row} (h : IsP C H x l) (fr : Frm p H H') (P : Pen H p n) : IsP C H' x l := by
  obtain ⟨nf, dx, t, f, b, M, h1, h2, h3, h4, h5, h6, h7⟩ := h
  have h3' := h3.frm fr P
  obtain ⟨kvs, hp⟩ := P.dict
  have go : ∀ (a : Addr) (o : HO), H a = some o → o ≠ .dK kvs → H' a = some o := fun a o e no => fr a o e (ne_of e hp no)
  exact ⟨nf, dx, t, f, b, M, go _ _ h1 (by intro z; cases z), go _ _ h2 (by intro z; cases z), h3', h4, go _ _ h5 (by intro z; cases z), go _ _ h6 (by intro z; cases z), h7⟩
theorem IsQ.frm {C : Addr} {H H' : Hp} {x p : Addr} {n : Nat} {l : List Row} (h : IsQ C H x l) (fr : Frm p H H') (P : Pen H p n) : IsQ C H' x l := ⟨h.is.frm fr P, h.ok⟩
theorem nf_self {K : PySem.W.Frag} {C : Addr} : PySem.W.notFirst K C (.ref C) = true := by simp [PySem.W.notFirst]
theorem nobl (b : Bool) : (!decide (V.bl b = V.bl b)) = false := by simp
theorem eqT (l : List Row) : PyData.eqv (.tuple (l.map rowD)) (.tuple (l.map rowD)) = true := (eqv_rows l l).trans (decide_eq_true rfl)
theorem isEmpty_mem {n : List Row} (nf : Nf n) : n.isEmpty = true ↔ ∀ t, ¬ mem n t := by
  cases n with
  | nil => exact ⟨fun _ t => mem_nil t, fun _ => rfl⟩
  | cons r n =>
    constructor
    · intro h
      cases h
    · intro h
      exact absurd (mem_cons.mpr (.inl ⟨Int.le_refl _, nf.head⟩)) (h r.1)
theorem IsQ.ins {C : Addr} {H : Hp} {x : Addr} {l : List Row} (h : IsQ C H x l) : ∃ dx t f b, H x = some (.ins C dx (pFl t f b)) := by
  obtain ⟨_, dx, t, f, b, M, h1, _⟩ := h.is
  exact ⟨dx, t, f, b, h1⟩
theorem befs_snoc (l : List Row) (r : Row) : befs (l ++ [r]) = befs l ++ [tot l] := by
  unfold befs
  rw [List.length_append, List.length_singleton, List.range_succ, List.map_append]
  congr 1
  · refine List.map_congr_left fun j hj => ?_
    have := List.mem_range.mp hj
    rw [List.take_append_of_le_length (by omega)]
  · show [tot ((l ++ [r]).take l.length)] = [tot l]
    rw [List.take_append_of_le_length (Nat.le_refl _), List.take_length]
/-- a method, called by its name -/
structure Mt (P : Program) (w : World) (K : PySem.W.Frag) (mg : Str → Option Value) (base : Heap) (k : Nat) (C : Addr) (m : Str) (ps : List Str) (sp : Sp) : Prop where
  ex : ∃ (f : Addr) (fd : FuncData), Meth K C m f ∧ FnOk P w K mg base CX0 k f fd ps sp ∧ Binds K fd ps []
theorem pe_mt {X : Cx} {k j : Nat} {C : Addr} {m : Str} {ps : List Str} {sp : Sp} {o e : Expr} {es : List Expr} {ta : TE} {t : TA} {apos pos : Pos} {pl : Sem Bool} (M : Mt X.prog X.w X.K X.mg X.base k C m ps sp) (c : Cls X.K C) (hr : Room j X.A) (hk : k ≤ j) (he : PE X o ta) (ha : PA X (e :: es) t)
    (hst : starEach (e :: es) X.env = (false, eval e X.env) :: starEach es X.env := by rfl) (hpl : (backTo pos (starEach es X.env)).any (·.1) = false := by rfl)
    (ht : eval (.Call (.Attribute o m apos) (e :: es) [] pos) X.env = (do
      let ov ← eval o X.env
      standAt apos.atName
      let (f, first) ← holding [ov] (getMethod ov m pl)
      callWith pos f first (backTo pos (starEach (e :: es) X.env)) (backToKw pos (keywordEach [] X.env))) := by rfl) : PE X (.Call (.Attribute o m apos) (e :: es) [] pos) (tMeth C m sp [] E0 ta t) := by
  obtain ⟨f, fd, hm, F, hb⟩ := M.ex
  exact pe_meth he c hm F (hr.mono hk) hb .nil pass0 ha hst hpl ht
theorem mt_of {P : Program} {w : World} {K : PySem.W.Frag} {mg : Str → Option Value} {base : Heap} {C : Addr} {m m' qual : Str} {st : Stmt} {k : Nat} {ps : List Str} {sp : Sp} (a : MtAt K C m m' qual st)
    (hb : ∀ (kV doc pm : Value) (an : Option Addr) (cdv ct : Value) (us : List Value), us.length = ps.length → bindArgs (PySem.W.fnOf m qual (defArgs st) (defBody st) (defScope st) .none kV doc pm an cdv ct) ⟨us, []⟩ = pure (ps.zip us))
    (ok : ∀ f fd, Fun K m qual st f fd → FnOk P w K mg base CX0 k f fd ps sp) : Mt P w K mg base k C m' ps sp := by
  obtain ⟨f, fd, F, e, i, n⟩ := a.ex
  exact ⟨f, fd, ⟨e, i, F.kp⟩, ok f fd F, F.binds hb⟩
theorem pe_mt0 {X : Cx} {k j : Nat} {C : Addr} {m : Str} {ps : List Str} {sp : Sp} {o : Expr} {ta : TE} {apos pos : Pos} {pl : Sem Bool} (M : Mt X.prog X.w X.K X.mg X.base k C m ps sp) (c : Cls X.K C) (hr : Room j X.A) (hk : k ≤ j) (he : PE X o ta)
    (ht : eval (.Call (.Attribute o m apos) [] [] pos) X.env = (do
      let ov ← eval o X.env
      standAt apos.atName
      let (f, first) ← holding [ov] (getMethod ov m pl)
      callWith pos f first (backTo pos (starEach [] X.env)) (backToKw pos (keywordEach [] X.env))) := by rfl) : PE X (.Call (.Attribute o m apos) [] [] pos) (tMeth C m sp [] E0 ta tNil) := by
  obtain ⟨f, fd, hm, F, hb⟩ := M.ex
  exact pe_meth0 he c hm F (hr.mono hk) hb .nil pass0 ht
def spSize (C : Addr) : Sp := fun vs H Q _ => ∃ x l, vs = [.ref x] ∧ IsP C H x l ∧ Q (.int (tot l)) H
section
variable {P : Program} {w : World} {K : PySem.W.Frag} {mg : Str → Option Value} {base : Heap}
theorem scSz : FnScope ["self", "first", "last"] ["self"] (defScope sPlSize) := ⟨rfl, rfl, rfl, by decide +kernel, rfl, by decide +kernel, by decide +kernel⟩
theorem ok_size {f C : Addr} {fd : FuncData} (F : Fun K "size" "Places.size" sPlSize f fd) (T : PTxt K mg C) : FnOk P w K mg base CX0 1 f fd ["self"] (spSize C) := by
  refine F.ok scSz (fun vs H Q E h => ?_) (fun cdv A outer s H vs Q E hr h => ?_)
  · obtain ⟨x, l, rfl, _⟩ := h
    rfl
  · obtain ⟨x, l, rfl, ⟨nf, dx, t, fi, b, M, hx, ht, hM, eM, hf, hb, _⟩, q⟩ := h
    have nd := scSz.nd
    refine ⟨_, pss_cons (ps_if (pt_not (pt_truth (pe_fld (pv 0) rfl) (by intro _; rfl))) (pss_one (ps_ret pe_int)) pss_nil)
      (pss_cons (ps_asg (pe_ix ix_tup (pe_fld (pv 0) rfl) (pe_un un_neg pe_int) (fun _ _ => rfl)) (pg_tup rfl (pgs_cons (pg_name (i := 1) nd rfl (.inl rfl)) (pgs_cons (pg_name (i := 2) nd rfl (.inl rfl)) pgs_nil))))
      (pss_one (ps_ret (pe_op op_add (pe_op op_sub (pe_op op_add (pe_ix ix_tup (pe_fld (pv 0) rfl) (pe_un un_neg pe_int) (fun _ _ => rfl)) (pv 2)) (pv 1)) pe_int)))), ?_⟩
    refine ⟨_, rfl, x, C, dx, _, _, rfl, hx, T.cl, T.nS, pFl_s _ _ _, !(refs M).isEmpty, .inr (.inl ⟨refs M, .inl (.inl ht), rfl⟩), ?_⟩
    by_cases e0 : M = []
    · subst e0
      subst eM
      exact iteT q
    · obtain ⟨M', p, rfl⟩ : ∃ M' p, M = M' ++ [p] := ⟨_, _, (List.dropLast_concat_getLast e0).symm⟩
      rw [refs_snoc] at ht ⊢
      have en : (!(!(refs M' ++ [V.ref p.1]).isEmpty)) = false := by simp
      rw [en]
      refine iteF ?_
      have hp := hM p (List.mem_append_right _ (List.mem_singleton.mpr rfl))
      rw [rws_snoc] at eM
      subst eM
      rw [befs_snoc, List.map_append] at hb
      refine ⟨_, rfl, x, C, dx, _, _, rfl, hx, T.cl, T.nS, pFl_s _ _ _, 1, rfl, t, _, -1, _, rfl, rfl, .inl (.inl ht), atI_last _ _, p.1, _, rfl, .inl (.inl hp), rfl, _, _, rfl, _, _, rfl, rfl, ?_⟩
      refine ⟨_, rfl, x, C, dx, _, _, rfl, hx, T.cl, T.nB, pFl_b _ _ _, 1, rfl, b, _, -1, _, rfl, rfl, .inl (.inl hb), atI_last _ _, _, rfl, _, _, rfl, rfl, _, rfl, _, _, rfl, rfl, _, _, rfl, rfl, ?_⟩
      rw [tot_snoc] at q
      exact q
end
end OR

namespace OR
open PySem PySem.Spec PyProof.Rows L2
/-! ### pieces between ends -/
def hasB (l : List Row) (z : Int) : Bool := l.any fun r => decide (r.1 ≤ z) && decide (z ≤ r.2)
theorem hasB_iff (l : List Row) (z : Int) : hasB l z = true ↔ mem l z := by
  unfold hasB
  rw [List.any_eq_true]
  constructor
  · rintro ⟨r, hr, h⟩
    rw [Bool.and_eq_true, decide_eq_true_eq, decide_eq_true_eq] at h
    exact ⟨r, hr, h.1, h.2⟩
  · rintro ⟨r, hr, h1, h2⟩
    exact ⟨r, hr, by rw [Bool.and_eq_true, decide_eq_true_eq, decide_eq_true_eq]; exact ⟨h1, h2⟩⟩
theorem hasB_snoc (l : List Row) (r : Row) (z : Int) : hasB (l ++ [r]) z = (hasB l z || (decide (r.1 ≤ z) && decide (z ≤ r.2))) := by
  unfold hasB
  rw [List.any_append, List.any_cons, List.any_nil, Bool.or_false]
def gd (ns : List Int) (i : Nat) : Int := ns.getD i 0
theorem gd_at {ns : List Int} {i : Nat} (h : i < ns.length) : ns[i]? = some (gd ns i) := by
  unfold gd
  rw [List.getD_eq_getElem?_getD, List.getElem?_eq_getElem h]
  rfl
def pk (f : Int → Bool) (ns : List Int) : Nat → List Row
  | 0 => []
  | k + 1 => pk f ns k ++ (if f (gd ns k) = true then [(gd ns k, gd ns (k + 1) - 1)] else [])
theorem pk_of {f : Int → Bool} {ns : List Int} {q : Row} : ∀ {k : Nat}, q ∈ pk f ns k → ∃ j, j < k ∧ f (gd ns j) = true ∧ q = (gd ns j, gd ns (j + 1) - 1)
  | 0, h => nomatch h
  | k + 1, h => by
    unfold pk at h
    rcases List.mem_append.mp h with h | h
    · obtain ⟨j, a, b, c⟩ := pk_of h
      exact ⟨j, Nat.lt_succ_of_lt a, b, c⟩
    · by_cases c : f (gd ns k) = true
      · rw [if_pos c, List.mem_singleton] at h
        exact ⟨k, Nat.lt_succ_self k, c, h⟩
      · rw [if_neg c] at h
        exact nomatch h
theorem pk_in {f : Int → Bool} {ns : List Int} {j : Nat} (hf : f (gd ns j) = true) : ∀ {k : Nat}, j < k → (gd ns j, gd ns (j + 1) - 1) ∈ pk f ns k
  | 0, h => absurd h (Nat.not_lt_zero _)
  | k + 1, h => by
    unfold pk
    rcases Nat.lt_succ_iff_lt_or_eq.mp h with h | h
    · exact List.mem_append_left _ (pk_in hf h)
    · subst h
      rw [if_pos hf]
      exact List.mem_append_right _ (List.mem_singleton.mpr rfl)
theorem pk_len (f : Int → Bool) (ns : List Int) : ∀ k, (pk f ns k).length ≤ k
  | 0 => Nat.le_refl _
  | k + 1 => by
    unfold pk
    have := pk_len f ns k
    rw [List.length_append]
    split
    · rw [List.length_singleton]
      omega
    · rw [List.length_nil]
      omega
theorem asc {ns : List Int} (h : ns.Pairwise (· < ·)) {i j : Nat} (hij : i < j) (hj : j < ns.length) : gd ns i < gd ns j := by
  have hi : i < ns.length := by omega
  have a := List.pairwise_iff_getElem.mp h i j hi hj hij
  have e1 := gd_at hi
  have e2 := gd_at hj
  rw [List.getElem?_eq_getElem hi] at e1
  rw [List.getElem?_eq_getElem hj] at e2
  rw [← Option.some.inj e1, ← Option.some.inj e2]
  exact a
theorem ascL {ns : List Int} (h : ns.Pairwise (· < ·)) {i j : Nat} (hij : i ≤ j) (hj : j < ns.length) : gd ns i ≤ gd ns j := by
  rcases Nat.lt_or_eq_of_le hij with k | k
  · exact Int.le_of_lt (asc h k hj)
  · rw [k]
    exact Int.le_refl _
theorem find_piece {ns : List Int} {z : Int} (lo : gd ns 0 ≤ z) : ∀ k, z < gd ns k → ∃ j, j + 1 ≤ k ∧ gd ns j ≤ z ∧ z < gd ns (j + 1)
  | 0, h => by omega
  | k + 1, h => by
    by_cases c : z < gd ns k
    · obtain ⟨j, a, b⟩ := find_piece lo k c
      exact ⟨j, by omega, b⟩
    · exact ⟨k, Nat.le_refl _, by omega, h⟩
theorem no_between {ns : List Int} (h : ns.Pairwise (· < ·)) {e z : Int} (he : e ∈ ns) {j : Nat} (hj : j + 1 < ns.length) (h1 : gd ns j ≤ z) (h2 : z < gd ns (j + 1)) : e ≤ z ↔ e ≤ gd ns j := by
  obtain ⟨i, hi, rfl⟩ := List.getElem_of_mem he
  have ei : ns[i] = gd ns i := Option.some.inj (by rw [← List.getElem?_eq_getElem hi, gd_at hi])
  rw [ei]
  constructor
  · intro k
    by_cases c : i ≤ j
    · exact ascL h c (by omega)
    · have := ascL h (show j + 1 ≤ i by omega) hi
      omega
  · intro k
    omega
theorem hasB_const {ns : List Int} (h : ns.Pairwise (· < ·)) {l : List Row} (hl : ∀ r ∈ l, r.1 ∈ ns ∧ r.2 + 1 ∈ ns) {z : Int} {j : Nat} (hj : j + 1 < ns.length) (h1 : gd ns j ≤ z) (h2 : z < gd ns (j + 1)) : hasB l z = hasB l (gd ns j) := by
  rw [Bool.eq_iff_iff, hasB_iff, hasB_iff]
  have go : ∀ r ∈ l, (r.1 ≤ z ∧ z ≤ r.2) ↔ (r.1 ≤ gd ns j ∧ gd ns j ≤ r.2) := fun r hr => by
    have a := no_between h (hl r hr).1 hj h1 h2
    have b := no_between h (hl r hr).2 hj h1 h2
    omega
  exact ⟨fun ⟨r, hr, k⟩ => ⟨r, hr, (go r hr).mp k⟩, fun ⟨r, hr, k⟩ => ⟨r, hr, (go r hr).mpr k⟩⟩
/-- the pieces at which f is true, of all places from 0 to the last one -/
theorem pk_all {f : Int → Bool} {ns : List Int} (h : ns.Pairwise (· < ·)) (h0 : (0 : Int) ∈ ns) (hL : lastP + 1 ∈ ns) (hb : ∀ e ∈ ns, 0 ≤ e ∧ e ≤ lastP + 1) (hf : ∀ (z : Int) (j : Nat), j + 1 < ns.length → gd ns j ≤ z → z < gd ns (j + 1) → f z = f (gd ns j)) :
    (∀ z, mem (pk f ns (ns.length - 1)) z ↔ (0 ≤ z ∧ z ≤ lastP ∧ f z = true)) ∧ ∀ q ∈ pk f ns (ns.length - 1), okRow q = true := by
  have hpos : 0 < ns.length := List.length_pos_of_mem h0
  have at_in : ∀ i, i < ns.length → gd ns i ∈ ns := fun i hi => List.mem_of_getElem? (gd_at hi)
  refine ⟨fun z => ⟨?_, ?_⟩, ?_⟩
  · rintro ⟨q, hq, k1, k2⟩
    obtain ⟨j, hj, hfj, rfl⟩ := pk_of hq
    have b1 := hb _ (at_in j (by omega))
    have b2 := hb _ (at_in (j + 1) (by omega))
    dsimp only at k1 k2
    exact ⟨by omega, by omega, by rw [hf z j (by omega) k1 (by omega)]; exact hfj⟩
  · rintro ⟨k1, k2, k3⟩
    have lo : gd ns 0 ≤ z := by
      obtain ⟨i, hi, e⟩ := List.getElem_of_mem h0
      have ei : gd ns i = 0 := by rw [← e]; exact (Option.some.inj (by rw [← List.getElem?_eq_getElem hi, gd_at hi])).symm
      have := ascL h (Nat.zero_le i) hi
      omega
    have hi2 : z < gd ns (ns.length - 1) := by
      obtain ⟨i, hi, e⟩ := List.getElem_of_mem hL
      have ei : gd ns i = lastP + 1 := by rw [← e]; exact (Option.some.inj (by rw [← List.getElem?_eq_getElem hi, gd_at hi])).symm
      have := ascL h (show i ≤ ns.length - 1 by omega) (by omega)
      omega
    obtain ⟨j, hj, a, b⟩ := find_piece lo _ hi2
    have hfj : f (gd ns j) = true := by rw [← hf z j (by omega) a b]; exact k3
    exact ⟨_, pk_in hfj (show j < ns.length - 1 by omega), a, by dsimp only; omega⟩
  · intro q hq
    obtain ⟨j, hj, hfj, rfl⟩ := pk_of hq
    have b1 := hb _ (at_in j (by omega))
    have b2 := hb _ (at_in (j + 1) (by omega))
    have a : gd ns j < gd ns (j + 1) := asc h (Nat.lt_succ_self j) (show j + 1 < ns.length by omega)
    exact okRow_of (by omega) (by omega) (by omega)
end OR

namespace OR
open PySem PySem.Spec PyProof PyProof.Rows L2
/-! ### a set of the integers of a list -/
abbrev eob (w : World) : Obj := { cls := .type "set", dict := none, data := .set #[] 0 (.fresh 0 0 (!w.params.followText "set-order")) }
section
variable {P : Program} {w : World} {A : Around} {E : Value → Shared → Prop} {s : Shared}
/-- what the filling leaves -/
def Filled (w : World) (s : Shared) (ns : List Int) (s2 : Shared) : Prop := ∃ (h' : Heap) (tk c : Nat), s2 = { s with heap := h', toks := tk } ∧ SetR w h' s.heap.objs.size (fun j => decide (j ∈ ns)) c ∧ c ≤ ns.length ∧ ∀ b o, s.heap.get? b = some o → h'.get? b = some o
theorem int_at {items : Array Value} {ns : List Int} (hit : IntsAre items.toList ns) (i : Nat) (v : Value) (hv : items[i]? = some v) : ∃ k t, ns[i]? = some k ∧ v = .int k t := by
  obtain ⟨t, e⟩ := IntsAre.int_at hit i v (by rw [Array.getElem?_toList]; exact hv)
  have hl := IntsAre.length hit
  have hi : i < ns.length := by
    rw [← hl, Array.length_toList]
    exact (Array.getElem?_eq_some_iff.mp hv).1
  refine ⟨ns[i], t, List.getElem?_eq_getElem hi, ?_⟩
  rw [e, List.getD_eq_getElem?_getD, List.getElem?_eq_getElem hi]
  rfl
set_option maxHeartbeats 3200000 in
theorem set_ints {l : Addr} {items : Array Value} (ns : List Int) {Q : Value → Shared → Prop} (hd : A.handled = none) (hl : s.heap.IsList l items) (hit : IntsAre items.toList ns) (few : ns.length + 1 < scanBound)
    (q : ∀ s2, Filled w s ns s2 → Q (.ref s.heap.objs.size) s2) : wpAny (model P w) A (call (.type "set") [.ref l]) Q E s := by
  have lens : items.size = ns.length := (Array.length_toList).symm.trans (IntsAre.length hit)
  obtain ⟨c0, tl0, mro0⟩ := F.called_set.mro
  have made0 := F.called_set.made
  have sub0 := F.called_set.sub
  have nt0 := F.called_set.notType
  have cc0 := F.called_set.canCreate
  have tc0 := F.typeCall_set_1 (.ref l)
  refine wpAny_call (codeAny_of_tree ?_)
  show wpAny _ _ (callAny (.type "set") _) _ _ _
  refine wpAny_pure ⟨Code.quiet_builtin _ (by decide +kernel), codeAny_builtin F.entry_type_call ?_⟩
  rw [Around.under_plain (weight_type_call_type "set" [.ref l] []) rfl]
  repeat (any_goals (first | assumption | wp_step))
  refine codeAny_mono (code_set_led1 (.ref l) (E := E) (Q₁ := fun ob z => ob = .ref s.heap.objs.size ∧ z = { s with heap := s.heap.push (eob w) }) ⟨rfl, rfl⟩) fun r z hz => ?_
  rcases r with e | fl
  · exact hz
  cases fl with
  | ret ob =>
    obtain ⟨rfl, rfl⟩ := hz
    have top0 : (s.heap.push (eob w)).get? s.heap.objs.size = some (eob w) := Heap.get?_push_size _ rfl
    have ty0 : Shared.TypeIs { s with heap := s.heap.push (eob w) } (.ref s.heap.objs.size) "set" := ⟨_, top0, rfl⟩
    have look0 := F.called_set.init.lookup
    have bind0 := F.called_set.init.bind (.ref s.heap.objs.size)
    repeat (any_goals (first | assumption | wp_step))
    refine codeAny_mono (codeAny_call_builtin (R := wants (fun r z => r = .none ∧ Filled w s ns z) E) F.called_set.init.plain F.entry_set_init (check_set_init_1 ty0 ?_)) fun r2 z2 hz2 => ?_
    · obtain ⟨⟨oc, od, odt, osl⟩, hol, hcl, nl, hdl⟩ := hl
      simp only at hcl hdl
      subst hcl hdl
      have hol1 : (s.heap.push (eob w)).get? l = some { cls := .type "list", dict := od, data := .seq items nl, slots := osl } := Heap.get?_push_of_some _ hol
      have lst1 : (s.heap.push (eob w)).IsList l items := ⟨_, hol1, rfl, nl, rfl⟩
      have ns1 := F.sub_list_set
      have nf1 := F.sub_list_frozenset
      have nd1 : (Value.type "list" == Value.type "dict") = false := by decide
      unfold Builtin.«set.__init__» noKeywords Builtin.Frozenset.updateFrom
      generalize hPI : pyIter = PI
      wp_walk
      subst hPI
      refine wpAny_pyIter_list lst1 (wpAny_bind (wpAny_runValue ?_))
      have size1 : (s.heap.push (eob w)).objs.size = s.heap.objs.size + 1 := Heap.size_push ..
      have below : l < s.heap.objs.size := Heap.lt_size hol
      have lI : l ≠ (s.heap.push (eob w)).objs.size := fun e => absurd below (by rw [e, size1]; exact Nat.not_lt.mpr (Nat.le_succ _))
      have away : s.heap.objs.size ∉ [(s.heap.push (eob w)).objs.size, l] := by
        rw [size1]
        intro m
        rcases List.mem_cons.mp m with e | m
        · exact Nat.succ_ne_self _ e.symm
        · exact absurd below (by rw [← List.mem_singleton.mp m]; exact Nat.lt_irrefl _)
      have hd3 : A.in1.in1.in1.handled = none := by simp [hd]
      have start : ((s.heap.push (eob w)).push { cls := .type "list_iterator", data := .fields #[.ref l, .int 0 0] }).get? s.heap.objs.size = some (eob w) := Heap.get?_push_of_some _ top0
      refine set_update_ints ((Walks.list hd3 _ l lI items).toS) s.heap.objs.size away ns lens few (int_at hit) (items.size - 0) 0 _ (by omega) (Nat.zero_le _) ⟨⟨_, Heap.get?_push_size _ rfl, rfl, rfl⟩, lst1.push _⟩
        ⟨0, Nat.le_refl 0, setR_new_at start⟩ ?_
      intro z c mvd lec setz
      obtain ⟨hz, gz, dz, tz, oz⟩ := z
      have g1 : gz = s.gens := mvd.gens
      have g2 : dz = s.drawn := mvd.drawn
      have g3 : oz = s.os := mvd.os
      subst g1 g2 g3
      show wpAny _ _ _ _ _ _
      refine wpAny_pure ?_
      show wpAny _ _ (ret Value.none) _ _ _
      rw [lens] at lec
      refine wpAny_pure ⟨rfl, hz, tz, c, rfl, setz, lec, fun b o e => mvd.heap b o ?_ (Heap.get?_push_of_some _ (Heap.get?_push_of_some _ e))⟩
      have lb : b < s.heap.objs.size := Heap.lt_size e
      rw [size1]
      intro m
      rcases List.mem_cons.mp m with e | m
      · exact absurd lb (by rw [e]; exact Nat.lt_irrefl _)
      · exact absurd lb (by rw [List.mem_singleton.mp m]; exact Nat.not_lt.mpr (Nat.le_succ _))
    · rcases r2 with e | fl2
      · exact hz2
      cases fl2 with
      | ret r =>
        obtain ⟨rfl, fz⟩ := hz2
        obtain ⟨h', tk, c, rfl, R, lc, kp⟩ := id fz
        repeat (any_goals (first | assumption | wp_step))
        exact q _ fz
      | _ => exact hz2.elim
  | _ => exact hz.elim
end
/-- set(xs), xs a list of integers -/
def rSetI (K : PySem.W.Frag) (w : World) : List V → Hp → VK → Prop := fun xs H Q => ∃ (l : Addr) (ns : List Int), xs = [V.ref l] ∧ SqL K H l (ns.map V.int) ∧ ns.length < 1000 ∧
  ∀ a c, H a = none → c ≤ ns.length → Q (.ref a) (upd H a (SetO w a (fun j => decide (j ∈ ns)) c))
theorem call_setI {X : Cx} (K : PySem.W.Frag) (w : World) (hK : X.K = K) (hw : X.w = w) (hc : X.calm = true) : CallR X (.type "set") (rSetI K w) := by
  subst hK hw
  intro pins s σ H xs us Q I r h
  obtain ⟨l, ns, rfl, hl, hf, q⟩ := h
  rw [Vals.ref1 r]
  obtain ⟨its, rv, pl, hz⟩ := I.list hl
  have hn : H s.heap.objs.size = none := I.hok.fresh (Nat.le_refl _)
  refine set_ints (P := X.prog) (w := X.w) ns (I.ok.hd hc) pl.isList (by simpa using intsAre_of rv) (by show ns.length + 1 < scanBound; unfold scanBound; omega) fun s2 ⟨h', tk, c, e, R, lc, k⟩ => ?_
  subst e
  exact ⟨.ref s.heap.objs.size, upd H s.heap.objs.size (SetO X.w s.heap.objs.size (fun j => decide (j ∈ ns)) c), I.laid (t' := tk) k (Nat.le_refl _) (setO_new R), rfl, q _ c hn lc⟩
end OR

namespace OR
open PySem PySem.Spec PyProof.Rows L2
/-! ### _law_has, _law_mixed -/
theorem eqL0 (l : List Row) : PyData.eqv (.list (l.map rowD)) (.list []) = l.isEmpty := by cases l <;> rfl
def spHas (K : PySem.W.Frag) : Sp := fun vs H Q _ => ∃ (a : Addr) (x : Int) (L : List ARow), vs = [.ref a, .int x] ∧ SqL K H a (refs L) ∧ AtR H L ∧ L.length ≤ 100 ∧ ∀ H', Same H H' → Q (.bl (hasB (rws L) x)) H'
section
variable {P : Program} {w : World} {K : PySem.W.Frag} {mg : Str → Option Value} {base : Heap}
theorem scHa : FnScope ["_law_rows", "_law_x", "_law_row"] ["_law_rows", "_law_x"] (defScope sHas) := ⟨rfl, rfl, rfl, by decide +kernel, rfl, by decide +kernel, by decide +kernel⟩
theorem ok_has {f : Addr} {fd : FuncData} (F : Fun K "_law_has" "_law_has" sHas f fd) : FnOk P w K mg base CX0 1 f fd ["_law_rows", "_law_x"] (spHas K) := by
  refine F.ok scHa (fun vs H Q E h => ?_) (fun cdv A outer s H vs Q E hr h => ?_)
  · obtain ⟨a, x, L, rfl, _⟩ := h
    rfl
  · obtain ⟨a, x, L, rfl, hS, hL, hlen, q⟩ := h
    have nd := scHa.nd
    have hu64 : (A.deeper (envOfC "_law_has" (defScope sHas) s.heap.objs.size f cdv)).units + 64 < cLine := hr.units
    refine ⟨_, pss_one (ps_ret (pe_cmpR (op_neD hu64) (pe_lc (own := [("_law_row", 2)]) (g := gName 2) rfl nd (pi_list (pv 0)) (blkOk_by (N := ["_law_rows", "_law_x", "_law_row"]) (sc := defScope sHas) (by decide +kernel))
        (fun _ _ _ _ _ => pg_name (i := 2) nd rfl (.inl rfl)) (fun _ _ _ _ _ => pts_one (pt_chain op_le op_le (pe_ix (ix_any K rfl) (pv 2) pe_int (fun _ _ => rfl)) (pv 1) (pe_ix (ix_any K rfl) (pv 2) pe_int (fun _ _ => rfl)))) (fun _ _ _ _ _ => pv 2)) (pe_lst pa_nil) (nomark _))), ?_⟩
    refine ⟨_, rfl, a, rfl, ⟨_, hS⟩, fun D hD => lc_list (K := K) (a := a) (xs := refs L) (fun i H2 => ∃ N : List ARow, H2 D = some (.lst (refs N)) ∧ AtR H2 N ∧ (rws N).isEmpty = !(hasB ((rws L).take i) x) ∧ Same H H2 ∧ N.length ≤ i)
        ⟨[], upd_same, (fun _ z => nomatch z), rfl, same_lay hD, Nat.le_refl _⟩ (fun i H2 _ ⟨_, _, _, _, s, _⟩ => s.seq hS) ?_ ?_⟩
    · rintro i y H2 hy ⟨N, hD2, hN, eN, s2, lN⟩
      obtain ⟨z, hz, hzL, rfl⟩ := refs_get hy
      have hil : i < L.length := (List.getElem?_eq_some_iff.mp hz).1
      have ez := s2 _ _ (hL z hzL)
      have e1 : (rws L).take (i + 1) = (rws L).take i ++ [z.2] := by rw [List.take_add_one, rws_get hz]; rfl
      have nND : ∀ q ∈ N, q.1 ≠ D := fun q hq => ne_of (hN q hq) hD2 (by intro w; cases w)
      have g0 : ∀ (u v : Int), atI [V.int u, .int v] 0 = some (.int u) := fun _ _ => atI_nat (j := 0) rfl
      have g1 : ∀ (u v : Int), atI [V.int u, .int v] 1 = some (.int v) := fun _ _ => atI_nat (j := 1) rfl
      have tz : ∀ {H'' : Hp}, H'' z.1 = some (.tup [.int z.2.1, .int z.2.2]) → SqL K H'' z.1 [.int z.2.1, .int z.2.2] ∨ SqT K H'' z.1 [.int z.2.1, .int z.2.2] := fun h => .inr (.inl (.inl h))
      have no : (decide (z.2.1 ≤ x) && decide (x ≤ z.2.2)) = false → ∃ N' : List ARow, H2 D = some (.lst (refs N')) ∧ AtR H2 N' ∧ (rws N').isEmpty = !(hasB ((rws L).take (i + 1)) x) ∧ Same H H2 ∧ N'.length ≤ i + 1 := fun c => ⟨N, hD2, hN, by rw [e1, hasB_snoc, c, Bool.or_false]; exact eN, s2, Nat.le_succ_of_le lN⟩
      refine ⟨rfl, _, rfl, z.1, _, 0, _, rfl, rfl, tz ez, g0 _ _, _, rfl, _, _, rfl, rfl, _, rfl, ite2 (fun c1 => ?_) (fun c1 => ?_)⟩
      · refine ⟨_, rfl, z.1, _, 1, _, rfl, rfl, tz ez, g1 _ _, _, _, rfl, rfl, _, rfl, ?_⟩
        cases c2 : decide (x ≤ z.2.2) with
        | false => exact iteF (no (by rw [c2, Bool.and_false]))
        | true =>
          refine iteT ⟨_, rfl, refs N, hD2, small1000 (by rw [refs_len]; omega), N ++ [z], ?_, fun q hq => ?_, ?_, same_upd s2 hD, by rw [List.length_append]; exact Nat.succ_le_succ lN⟩
          · rw [upd_same, refs_snoc]
          · have nzD : z.1 ≠ D := ne_of ez hD2 (by intro w; cases w)
            rcases List.mem_append.mp hq with j | j
            · rw [upd_ne (nND q j)]
              exact hN q j
            · rw [List.mem_singleton.mp j, upd_ne nzD]
              exact ez
          · rw [rws_snoc, e1, hasB_snoc, c2, Bool.and_true, show decide (z.2.1 ≤ x) = true from c1, Bool.or_true]
            cases rws N <;> rfl
      · refine ⟨_, rfl, iteF (no ?_)⟩
        have c1' : decide (z.2.1 ≤ x) = false := Bool.eq_false_iff.mpr c1
        rw [c1']
        rfl
    · rintro H2 ⟨N, hD2, hN, eN, s2, lN⟩
      rw [refs_len, List.take_of_length_le (by rw [rws_len]; exact Nat.le_refl _)] at eN
      refine ⟨Nat.zero_le _, fun e ne => ?_⟩
      have Se := same_lay (o := .lst []) ne
      refine ⟨.list ((rws N).map rowD), .list [], .lst (.inl (.inl (Se _ _ hD2))) (dp_rows (hN.same Se)), .lst (.inl (.inl upd_same)) .nil, shp_lst _, rfl, ?_⟩
      rw [eqL0, eN, Bool.not_not]
      exact q _ (s2.trans Se)
end
end OR

namespace OR
open PySem PySem.Spec PyProof.Rows L2
/-! ### what was caught; own in, own items -/
/-- isinstance(e, c), e what the suite holds, with a dict of its own -/
def rIsX (K : PySem.W.Frag) (D a : Addr) (cls : Value) (d : Option Addr) : List V → Hp → VK → Prop := fun xs H Q => cls = .ref D ∧ ∃ (dd : Addr) (fs : List (Str × V)), d = some dd ∧ H dd = some (.xd fs) ∧ ∃ (c : V) (cv : Value) (b : Bool), xs = [.ref a, c] ∧ (∀ u, RelV c u → u = cv) ∧ PySem.W.kitOne K (.ref D) cv = some b ∧ Q (.bl b) H
theorem call_isX {X : Cx} {a D : Addr} {oe : Obj} {cls : Value} {d : Option Addr} {pn : List (Addr × Obj)} (G : ExcC X.K D) (hz : Zc cls d oe) (hf : ∃ vs, oe.data = .fields vs) : CallR (X.suite a ((a, oe) :: pn)) (.builtin "isinstance") (rIsX X.K D a cls d) := by
  intro pins s σ H xs us Q I r h
  obtain ⟨ec, dd, fs, ed, hdd, c, cv, b, rfl, hcv, hk, q⟩ := h
  subst ec ed
  obtain ⟨u1, u2, rfl, r1, r2⟩ := r.two
  cases r1
  have e2 := hcv _ r2
  subst e2
  have pinned := (I.pin (a, oe) (List.mem_append.mpr (.inl List.mem_cons_self))).1
  obtain ⟨vs, hdat⟩ := hf
  obtain ⟨mA, hns, _⟩ := I.hok dd _ hdd
  obtain ⟨od, ho, _⟩ := lookIn_ns hns
  have J : PySem.W.InstAt s.heap a oe D (some od) := ⟨pinned, hz.1, by unfold PySem.W.notCls; rw [hdat] <;> rfl, by rw [hz.2]; exact ho⟩
  have hcl : (PySem.W.clsIn X.K D).isSome = true := by
    obtain ⟨cd, hc, _⟩ := PySem.W.any_some G.hd
    rw [hc]
    rfl
  exact PySem.W.kia_one (PySem.W.kitx_exc hcl G.hg G.hk G.hs G.ha G.hn G.ht G.hm) I.kIn J hk (fun z => nomatch z) fun tk => ⟨.bl b, H, I.kept (t' := tk) fun _ _ z => z, rfl, q⟩

theorem run_atS {X : Cx} {CX : CXT} {n : Nat} {f : Addr} {sp : Sp} {E : XK} {A' : Around} {pins : List (Addr × Obj)} {σ : L2.St} {H : Hp} {s : Shared} {Q : VK} {us : List Value} {vs : List V} (F : FnR X.prog X.w X.K X.mg X.base CX n f sp) (room : Room n A') (e0 : Env0 X.prog X.w X.K X.mg X.base A' X.stack s H) (hx : PassesAt CX X σ E)
    (I : Inv X pins σ H s) (r : Vals vs us) (h : sp vs H Q E) : codeAny (model X.prog X.w) A' (.call (.ref f) ⟨us, []⟩) (fun r s' => match r with | .ok (.ret v) => EP X pins σ Q v s' | .ok _ => False | .error e => X.xe e s') s := by
  refine codeAny_mono (F A' X.stack s H us vs Q E room e0 r h) fun r s' g => ?_
  rcases r with e | fl
  · exact hx pins H s e s' I g
  cases fl with
  | ret u => exact I.after g
  | _ => exact False.elim g
/-- x in o, o's own __contains__ -/
def rInO (C : Addr) (sp : Sp) : R2 := fun x y H Q => ∃ a dx fs, y = .ref a ∧ H a = some (.ins C dx fs) ∧ sp [y, x] H (fun z H' => ∃ k, z = .bl k ∧ Q z H') E0
theorem op_inO {X : Cx} {n : Nat} {C : Addr} {sp : Sp} (m : Md X.prog X.w X.K X.mg X.base n C "__contains__" sp) (hr : Room n X.A) : OpR X (compareOp .In) (rInO C sp) := by
  intro pins s σ H x y v u Q I rx ry h
  obtain ⟨f, F, hs, hf, _⟩ := m.ex
  obtain ⟨a, dx, fs, rfl, ha, q⟩ := h
  cases (show u = Value.ref a from ry)
  obtain ⟨mA, J, _⟩ := ins_get I.hok ha
  obtain ⟨od, J, _⟩ := J.look
  obtain ⟨m, hF⟩ := I.fr
  refine PySem.W.in_K hF I.ok.mod.kin J hs hf (wpAny_mono (wpAny_call (run_fnR (us := [.ref a, v]) (vs := [.ref a, x]) F hr pass0 I (.cons rfl (.cons rx .nil)) q)) (fun w s' z => ?_) fun _ _ x => x)
  obtain ⟨z', H', I', rz, k, ek, qz⟩ := z
  subst ek
  cases (show w = Value.bool k from rz)
  exact wpAny_truthy_bool ⟨.bl k, H', I', rfl, qz⟩
/-- o[i], o's own __getitem__, which may raise -/
def tSubO (C : Addr) (sp : Sp) (E : L2.St → XK) (ta tb : TE) : TE := fun σ H Q => ta σ H fun x H1 => tb σ H1 fun y H2 => ∃ a dx fs, x = .ref a ∧ H2 a = some (.ins C dx fs) ∧ sp [x, y] H2 Q (E σ)
theorem pe_subO {X : Cx} {CX : CXT} {n : Nat} {C f : Addr} {sp : Sp} {E : L2.St → XK} {a b : Expr} {ta tb : TE} {pos : Pos} (F : FnR X.prog X.w X.K X.mg X.base CX n f sp) (hs : PySem.W.findIn X.K (.ref C) "__getitem__" = some (some (.ref f))) (hf : PySem.W.isFn X.K (.ref f) = true) (hn : PySem.W.fnIn X.K f = true)
    (hr : Room (n + 1) X.A) (hx : ∀ σ, PassesAt CX X σ (E σ)) (ha : PE X a ta) (hb : PE X b tb) (hsl : ∀ v u : Value, subscripted b true v u = runValue (.builtin "lifetime.subscript" ⟨[v, u], []⟩) := by with_unfolding_all (intro _ _; rfl)) : PE X (.Subscript a b pos) (tSubO C sp E ta tb) := by
  refine ⟨fun pins s σ H Q I h => Subscript_ (binT ha hb I (R := fun x y H2 => ∃ a dx fs, x = .ref a ∧ H2 a = some (.ins C dx fs) ∧ sp [x, y] H2 Q (E σ)) h fun v u s2 x y H2 I2 rx ry q => ?_)⟩
  obtain ⟨p, dx, fs, rfl, hp, q⟩ := q
  cases (show v = Value.ref p from rx)
  obtain ⟨mA, J, _⟩ := ins_get I2.hok hp
  obtain ⟨od, J, _⟩ := J.look
  obtain ⟨m, hF⟩ := I2.fr
  exact PySem.W.sub_K hF I2.ok.mod.kin J hs hn hf (wpAny_call (run_atS (us := [.ref p, u]) (vs := [.ref p, y]) F (Room.in1 hr) I2.env0.in1 (hx σ) I2 (.cons rfl (.cons ry .nil)) q)) (hsl _ _)
end OR

namespace OR
open PySem PySem.Spec PyProof.Rows L2
/-! ### maths: how many places -/
theorem tot_from (l : List Row) (t : Int) : l.foldl (fun t r => t + r.2 - r.1 + 1) t = t + tot l := by
  induction l generalizing t with
  | nil =>
    show t = t + 0
    omega
  | cons r l ih =>
    show l.foldl (fun t r => t + r.2 - r.1 + 1) (t + r.2 - r.1 + 1) = t + l.foldl (fun t r => t + r.2 - r.1 + 1) (0 + r.2 - r.1 + 1)
    rw [ih, ih]
    omega
theorem tot_cons (r : Row) (l : List Row) : tot (r :: l) = (r.2 - r.1 + 1) + tot l := by
  show l.foldl (fun t r => t + r.2 - r.1 + 1) (0 + r.2 - r.1 + 1) = _
  rw [tot_from]
  omega
theorem tot_nil : tot [] = 0 := rfl
theorem tot_nonneg : ∀ {l : List Row}, Nf l → 0 ≤ tot l
  | [], _ => Int.le_refl _
  | r :: l, n => by
    have := tot_nonneg n.tail
    have := n.head
    rw [tot_cons]
    omega
theorem nf_filter {l : List Row} (n : Nf l) (p : Row → Bool) : Nf (l.filter p) := ⟨fun r hr => n.ok r (List.mem_filter.mp hr).1, n.gap.sublist List.filter_sublist⟩
theorem tot_parts (p : Row → Bool) : ∀ l : List Row, tot l = tot (l.filter p) + tot (l.filter fun r => !p r)
  | [] => rfl
  | r :: l => by
    rw [tot_cons, tot_parts p l]
    cases h : p r with
    | true =>
      rw [List.filter_cons_of_pos h, List.filter_cons_of_neg (by simp [h]), tot_cons]
      omega
    | false =>
      rw [List.filter_cons_of_neg (by simp [h]), List.filter_cons_of_pos (by simp [h]), tot_cons]
      omega
/-- rows that stand within a stretch -/
theorem tot_in : ∀ {m : List Row} {a b : Int}, Nf m → (∀ q ∈ m, a ≤ q.1 ∧ q.2 ≤ b) → a ≤ b + 1 → tot m ≤ b - a + 1 ∧ (tot m = b - a + 1 → a ≤ b → m = [(a, b)])
  | [], a, b, _, _, h => ⟨by rw [tot_nil]; omega, fun e _ => by rw [tot_nil] at e; omega⟩
  | q :: m, a, b, n, hin, h => by
    have hq := hin q List.mem_cons_self
    have hh := n.head
    rw [tot_cons]
    cases m with
    | nil =>
      rw [tot_nil]
      refine ⟨by omega, fun e _ => ?_⟩
      have e1 : q.1 = a := by omega
      have e2 : q.2 = b := by omega
      rw [← e1, ← e2]
    | cons s m =>
      have hs := hin s (List.mem_cons_of_mem _ List.mem_cons_self)
      have hg := (List.pairwise_cons.mp n.gap).1
      have hss := n.tail.head
      have h1 := hg s List.mem_cons_self
      have ih := tot_in (m := s :: m) (a := q.2 + 2) (b := b) n.tail (fun t ht => ⟨by have := hg t ht; omega, (hin t (List.mem_cons_of_mem _ ht)).2⟩) (by omega)
      exact ⟨by omega, fun e _ => by omega⟩
/-- fewer places: fewer in number -/
theorem tot_sub : ∀ {l m : List Row}, Nf l → Nf m → (∀ z, mem m z → mem l z) → tot m ≤ tot l ∧ (tot m = tot l → ∀ z, mem l z → mem m z)
  | [], m, _, nm, h => by
    cases m with
    | nil => exact ⟨Int.le_refl _, fun _ z hz => hz⟩
    | cons q m => exact absurd (h q.1 (mem_cons.mpr (.inl ⟨Int.le_refl _, nm.head⟩))) (mem_nil _)
  | r :: l, m, nl, nm, h => by
    have hr := nl.head
    have hb : ∀ {z : Int}, mem l z → r.2 + 1 < z := fun hz => nl.behind hz
    have inL : ∀ q ∈ m, ∀ z, q.1 ≤ z → z ≤ q.2 → mem (r :: l) z := fun q hq z h1 h2 => h z ⟨q, hq, h1, h2⟩
    have p1 := tot_parts (fun q => decide (q.1 ≤ r.2)) m
    have n1 := nf_filter nm (fun q => decide (q.1 ≤ r.2))
    have n2 := nf_filter nm (fun q => !decide (q.1 ≤ r.2))
    generalize h1 : m.filter (fun q => decide (q.1 ≤ r.2)) = m1 at p1 n1
    generalize h2 : m.filter (fun q => !decide (q.1 ≤ r.2)) = m2 at p1 n2
    have w1 : ∀ q ∈ m1, q ∈ m ∧ q.1 ≤ r.2 := fun q hq => by
      rw [← h1] at hq
      have := List.mem_filter.mp hq
      exact ⟨this.1, of_decide_eq_true this.2⟩
    have w2 : ∀ q ∈ m2, q ∈ m ∧ r.2 < q.1 := fun q hq => by
      rw [← h2] at hq
      have := List.mem_filter.mp hq
      have k : ¬ q.1 ≤ r.2 := fun z => by
        have t := this.2
        rw [decide_eq_true z] at t
        cases t
      exact ⟨this.1, by omega⟩
    have a1 := tot_in (a := r.1) (b := r.2) n1 (fun q hq => by
      obtain ⟨hm, hle⟩ := w1 q hq
      have hqq := nm.ok q hm
      have k1 := mem_cons.mp (inL q hm q.1 (Int.le_refl _) hqq)
      have k2 : q.2 ≤ r.2 := by
        by_cases c : q.2 ≤ r.2
        · exact c
        · have := mem_cons.mp (inL q hm (r.2 + 1) (by omega) (by omega))
          rcases this with t | t
          · omega
          · have := hb t
            omega
      rcases k1 with t | t
      · exact ⟨t.1, k2⟩
      · have := hb t
        omega) (by omega)
    have ih := tot_sub (l := l) (m := m2) nl.tail n2 (fun z ⟨q, hq, k1, k2⟩ => by
      obtain ⟨hm, hgt⟩ := w2 q hq
      rcases mem_cons.mp (inL q hm z k1 k2) with t | t
      · omega
      · exact t)
    rw [tot_cons, p1]
    refine ⟨by omega, fun e z hz => ?_⟩
    have e1 : tot m1 = r.2 - r.1 + 1 := by omega
    have e2 : tot m2 = tot l := by omega
    have f1 := a1.2 e1 hr
    rcases mem_cons.mp hz with t | t
    · have : (r.1, r.2) ∈ m1 := by rw [f1]; exact List.mem_singleton.mpr rfl
      exact ⟨_, (w1 _ this).1, t.1, t.2⟩
    · obtain ⟨q, hq, k1, k2⟩ := ih.2 e2 z t
      exact ⟨q, (w2 q hq).1, k1, k2⟩
/-- moved rows -/
def mv (d : Int) (l : List Row) : List Row := l.map fun r => (r.1 + d, r.2 + d)
theorem mv_mem (d : Int) : ∀ (l : List Row) (z : Int), mem (mv d l) z ↔ mem l (z - d)
  | [], z => ⟨fun h => absurd h (mem_nil _), fun h => absurd h (mem_nil _)⟩
  | r :: l, z => by
    show mem ((r.1 + d, r.2 + d) :: mv d l) z ↔ _
    rw [mem_cons, mem_cons, mv_mem d l z]
    dsimp only
    constructor <;> (rintro (h | h); exact .inl (by omega); exact .inr h)
theorem mv_nf {d : Int} {l : List Row} (n : Nf l) : Nf (mv d l) := by
  refine ⟨fun q hq => ?_, ?_⟩
  · obtain ⟨r, hr, rfl⟩ := List.mem_map.mp hq
    have := n.ok r hr
    dsimp only
    omega
  · refine List.pairwise_map.mpr (n.gap.imp fun {a b} h => ?_)
    dsimp only
    omega
theorem mv_tot (d : Int) : ∀ l : List Row, tot (mv d l) = tot l
  | [] => rfl
  | r :: l => by
    show tot ((r.1 + d, r.2 + d) :: mv d l) = _
    rw [tot_cons, tot_cons, mv_tot d l]
    dsimp only
    omega
/-- there and back: as many places, if and only if the same -/
theorem size_back {l n b : List Row} {d : Int} (nl : Nf l) (nn : Nf n) (nb : Nf b) (hn : ∀ z, mem n z ↔ (mem l (z - d) ∧ 0 ≤ z ∧ z ≤ lastP)) (hb : ∀ z, mem b z ↔ (mem n (z + d) ∧ 0 ≤ z ∧ z ≤ lastP)) (hl : ∀ z, mem l z → 0 ≤ z ∧ z ≤ lastP) : (tot n = tot l ↔ b = l) := by
  have e : b = mv (-d) n := Nf.unique nb (mv_nf nn) fun z => by
    rw [mv_mem, hb z, show z - -d = z + d by omega]
    refine ⟨fun h => h.1, fun h => ⟨h, ?_⟩⟩
    have := ((hn (z + d)).mp h).1
    rw [show z + d - d = z by omega] at this
    exact hl z this
  have sub : ∀ z, mem b z → mem l z := fun z h => by
    have := ((hn (z + d)).mp ((hb z).mp h).1).1
    rw [show z + d - d = z by omega] at this
    exact this
  have t := tot_sub nl nb sub
  have e2 : tot b = tot n := by rw [e, mv_tot]
  rw [← e2]
  exact ⟨fun h => Nf.unique nb nl fun z => ⟨sub z, t.2 h z⟩, fun h => by rw [h]⟩
end OR

namespace OR
open PySem PySem.Spec PyProof.Rows L2
/-! ### members: the sums -/
/-- n of the numbers are at most x -/
structure Upto (ns : List Int) (x : Int) (n : Nat) : Prop where
  le : n ≤ ns.length
  lo : ∀ (i : Nat) (v : Int), i < n → ns[i]? = some v → v ≤ x
  hi : ∀ (i : Nat) (v : Int), n ≤ i → ns[i]? = some v → x < v
theorem nf_lt {l : List Row} (h : Nf l) {i j : Nat} {r s : Row} (hi : l[i]? = some r) (hj : l[j]? = some s) (hij : i < j) : r.2 + 1 < s.1 := by
  obtain ⟨a, e1⟩ := List.getElem?_eq_some_iff.mp hi
  obtain ⟨b, e2⟩ := List.getElem?_eq_some_iff.mp hj
  have := List.pairwise_iff_getElem.mp h.gap i j a b hij
  rw [e1, e2] at this
  exact this
theorem firsts_at {l : List Row} {i : Nat} {r : Row} (h : l[i]? = some r) : (l.map (·.1))[i]? = some r.1 := by rw [List.getElem?_map, h]; rfl
theorem has_upto {l : List Row} (h : Nf l) {x : Int} {n : Nat} (u : Upto (l.map (·.1)) x n) : hasB l x = true ↔ ∃ m r, n = m + 1 ∧ l[m]? = some r ∧ x ≤ r.2 := by
  rw [hasB_iff]
  constructor
  · rintro ⟨r, hr, h1, h2⟩
    obtain ⟨i, hi⟩ := List.getElem?_of_mem hr
    have hin : i < n := by
      refine Classical.byContradiction fun c => ?_
      have := u.hi i r.1 (by omega) (firsts_at hi)
      omega
    obtain ⟨m, rfl⟩ : ∃ m, n = m + 1 := ⟨n - 1, by omega⟩
    rcases Nat.lt_or_eq_of_le (Nat.le_of_lt_succ hin) with c | c
    · have hl := u.le
      rw [List.length_map] at hl
      obtain ⟨s, hs⟩ : ∃ s, l[m]? = some s := ⟨l[m], List.getElem?_eq_getElem (by omega)⟩
      have a := nf_lt h hi hs c
      have b := u.lo m s.1 (Nat.lt_succ_self m) (firsts_at hs)
      omega
    · subst c
      exact ⟨i, r, rfl, hi, h2⟩
  · rintro ⟨m, r, rfl, hm, h2⟩
    exact ⟨r, List.mem_of_getElem? hm, u.lo m r.1 (Nat.lt_succ_self m) (firsts_at hm), h2⟩
/-- the law's own member -/
def memK : List Row → Int → Option Int
  | [], _ => none
  | r :: l, k => if 0 ≤ k ∧ k ≤ r.2 - r.1 then some (r.1 + k) else memK l (k - (r.2 - r.1 + 1))
theorem memK_at : ∀ {l : List Row} {k : Int} {j : Nat} {r : Row}, Nf l → l[j]? = some r → tot (l.take j) ≤ k → k - tot (l.take j) ≤ r.2 - r.1 → memK l k = some (r.1 + (k - tot (l.take j)))
  | [], k, j, r, _, h, _, _ => by simp at h
  | q :: l, k, 0, r, n, h, h1, h2 => by
    have e : q = r := Option.some.inj h
    subst e
    have h1' : 0 ≤ k := h1
    have h2' : k - 0 ≤ q.2 - q.1 := h2
    show (if 0 ≤ k ∧ k ≤ q.2 - q.1 then _ else _) = some (q.1 + (k - 0))
    rw [if_pos ⟨h1', by omega⟩]
    congr 2
    omega
  | q :: l, k, j + 1, r, n, h, h1, h2 => by
    have et : tot ((q :: l).take (j + 1)) = (q.2 - q.1 + 1) + tot (l.take j) := tot_cons q (l.take j)
    rw [et] at h1 h2 ⊢
    have hp : 0 ≤ tot (l.take j) := tot_nonneg ⟨fun x hx => n.tail.ok x (List.mem_of_mem_take hx), n.tail.gap.sublist (List.take_sublist _ _)⟩
    have hq := n.head
    have ih := memK_at (k := k - (q.2 - q.1 + 1)) n.tail (show l[j]? = some r from h) (by omega) (by omega)
    show (if 0 ≤ k ∧ k ≤ q.2 - q.1 then _ else _) = _
    rw [if_neg (by omega), ih]
    congr 2
    omega
theorem memK_over : ∀ {l : List Row} {k : Int}, Nf l → tot l ≤ k → memK l k = none
  | [], _, _, _ => rfl
  | q :: l, k, n, h => by
    rw [tot_cons] at h
    have hp := tot_nonneg n.tail
    have hq := n.head
    show (if 0 ≤ k ∧ k ≤ q.2 - q.1 then _ else _) = _
    rw [if_neg (by omega)]
    exact memK_over n.tail (by omega)
/-- befs are the sums ahead -/
theorem befs_at {l : List Row} {j : Nat} (h : j < l.length) : (befs l)[j]? = some (tot (l.take j)) := by
  unfold befs
  rw [List.getElem?_map, List.getElem?_range h]
  rfl
theorem befs_len (l : List Row) : (befs l).length = l.length := by
  unfold befs
  rw [List.length_map, List.length_range]
theorem nf_take {l : List Row} (n : Nf l) (j : Nat) : Nf (l.take j) := ⟨fun x hx => n.ok x (List.mem_of_mem_take hx), n.gap.sublist (List.take_sublist _ _)⟩
theorem tot_step {l : List Row} {j : Nat} {r : Row} (h : l[j]? = some r) : tot (l.take (j + 1)) = tot (l.take j) + r.2 - r.1 + 1 := by
  rw [List.take_add_one, h]
  exact tot_snoc _ _
theorem befs_asc {l : List Row} (n : Nf l) : (befs l).Pairwise (· < ·) := by
  refine List.pairwise_iff_getElem.mpr fun i j hi hj hij => ?_
  rw [befs_len] at hi hj
  have e1 := befs_at hi
  have e2 := befs_at hj
  rw [List.getElem?_eq_getElem (by rw [befs_len]; exact hi)] at e1
  rw [List.getElem?_eq_getElem (by rw [befs_len]; exact hj)] at e2
  rw [Option.some.inj e1, Option.some.inj e2]
  obtain ⟨d, rfl⟩ : ∃ d, j = i + 1 + d := ⟨j - (i + 1), by omega⟩
  have go : ∀ d, i + 1 + d ≤ l.length → tot (l.take i) < tot (l.take (i + 1 + d)) := by
    intro d
    induction d with
    | zero =>
      intro hd
      have hg : l[i]? = some l[i] := List.getElem?_eq_getElem (by omega)
      have := tot_step hg
      have := n.ok _ (List.mem_of_getElem? hg)
      rw [Nat.add_zero]
      omega
    | succ d ih =>
      intro hd
      have a := ih (by omega)
      have hg : l[i + 1 + d]? = some l[i + 1 + d] := List.getElem?_eq_getElem (by omega)
      have b := tot_step hg
      have c := n.ok _ (List.mem_of_getElem? hg)
      rw [show i + 1 + (d + 1) = i + 1 + d + 1 by omega]
      omega
  exact go d (by omega)
theorem firsts_asc {l : List Row} (n : Nf l) : (l.map (·.1)).Pairwise (· < ·) := List.pairwise_map.mpr (n.gap.imp_of_mem fun {a b} ha hb h => by have := n.ok a ha; omega)
/-- the member at k, by befs -/
theorem member_upto {l : List Row} (n : Nf l) {k : Int} (h0 : 0 ≤ k) (h1 : k < tot l) {m : Nat} (u : Upto (befs l) k m) : ∃ j r, m = j + 1 ∧ l[j]? = some r ∧ tot (l.take j) ≤ k ∧ k - tot (l.take j) ≤ r.2 - r.1 := by
  have hl := u.le
  rw [befs_len] at hl
  have pos : 0 < l.length := by
    cases l with
    | nil => rw [tot_nil] at h1; omega
    | cons _ _ => exact Nat.succ_pos _
  have m0 : m ≠ 0 := fun e => by
    subst e
    have := u.hi 0 _ (Nat.le_refl _) (befs_at pos)
    rw [List.take_zero, tot_nil] at this
    omega
  obtain ⟨j, rfl⟩ : ∃ j, m = j + 1 := ⟨m - 1, by omega⟩
  have hg : l[j]? = some l[j] := List.getElem?_eq_getElem (by omega)
  have lo := u.lo j _ (Nat.lt_succ_self j) (befs_at (by omega))
  refine ⟨j, l[j], rfl, hg, lo, ?_⟩
  have st := tot_step hg
  by_cases c : j + 1 < l.length
  · have := u.hi (j + 1) _ (Nat.le_refl _) (befs_at c)
    omega
  · rw [show l.take (j + 1) = l from List.take_of_length_le (by omega)] at st
    omega
/-- how many are below x -/
def rkT (x : Int) (r : Row) : Int := mn r.2 (x - 1) - r.1 + 1
def rk (l : List Row) (x : Int) : Int := l.foldl (fun a r => if r.1 < x then a + rkT x r else a) 0
theorem rk_from (x : Int) : ∀ (l : List Row) (a : Int), l.foldl (fun a r => if r.1 < x then a + rkT x r else a) a = a + rk l x
  | [], a => by show a = a + 0; omega
  | r :: l, a => by
    show l.foldl _ (if r.1 < x then a + rkT x r else a) = a + l.foldl _ (if r.1 < x then 0 + rkT x r else 0)
    rw [rk_from x l, rk_from x l]
    split <;> omega
theorem rk_cons (r : Row) (l : List Row) (x : Int) : rk (r :: l) x = (if r.1 < x then rkT x r else 0) + rk l x := by
  show l.foldl _ (if r.1 < x then 0 + rkT x r else 0) = _
  rw [rk_from]
  split <;> omega
theorem rk_snoc (l : List Row) (r : Row) (x : Int) : rk (l ++ [r]) x = rk l x + (if r.1 < x then rkT x r else 0) := by
  unfold rk
  rw [List.foldl_append]
  show (if r.1 < x then _ + rkT x r else _) = _
  split <;> omega
theorem rk_zero {x : Int} : ∀ {l : List Row}, (∀ r ∈ l, x ≤ r.1) → rk l x = 0
  | [], _ => rfl
  | r :: l, h => by
    rw [rk_cons, rk_zero fun q hq => h q (List.mem_cons_of_mem _ hq), if_neg (by have := h r List.mem_cons_self; omega)]
    rfl
theorem rk_full {x : Int} : ∀ {l : List Row}, (∀ r ∈ l, r.1 ≤ r.2 ∧ r.2 < x) → rk l x = tot l
  | [], _ => rfl
  | r :: l, h => by
    have a := h r List.mem_cons_self
    have m := mn_ok r.2 (x - 1)
    rw [rk_cons, rk_full fun q hq => h q (List.mem_cons_of_mem _ hq), tot_cons, if_pos (by omega)]
    unfold rkT
    omega
theorem rk_app (l m : List Row) (x : Int) : rk (l ++ m) x = rk l x + rk m x := by
  unfold rk
  rw [List.foldl_append, rk_from]
  rfl
theorem rank_upto {l : List Row} (n : Nf l) {x : Int} {m : Nat} (u : Upto (l.map (·.1)) x m) : (m = 0 → rk l x = 0) ∧ ∀ j r, m = j + 1 → l[j]? = some r → rk l x = tot (l.take j) + mn x (r.2 + 1) - r.1 := by
  have above : ∀ r ∈ l.drop m, x ≤ r.1 := fun r hr => by
    obtain ⟨i, hi⟩ := List.getElem?_of_mem hr
    rw [List.getElem?_drop] at hi
    have := u.hi (m + i) r.1 (by omega) (firsts_at hi)
    omega
  refine ⟨fun e => ?_, fun j r e hj => ?_⟩
  · subst e
    exact rk_zero above
  · subst e
    have hl := (List.getElem?_eq_some_iff.mp hj).1
    have e1 : l = l.take j ++ (r :: l.drop (j + 1)) := by
      conv => lhs; rw [← List.take_append_drop j l]
      rw [List.drop_eq_getElem_cons hl, (List.getElem?_eq_some_iff.mp hj).2]
    have lo := u.lo j r.1 (Nat.lt_succ_self j) (firsts_at hj)
    have below : ∀ q ∈ l.take j, q.1 ≤ q.2 ∧ q.2 < x := fun q hq => by
      obtain ⟨i, hi⟩ := List.getElem?_of_mem hq
      have hij : i < j := by
        have := (List.getElem?_eq_some_iff.mp hi).1
        rw [List.length_take] at this
        omega
      rw [List.getElem?_take_of_lt hij] at hi
      have a := nf_lt n hi hj hij
      exact ⟨n.ok q (List.mem_of_getElem? hi), by omega⟩
    have a := rk_full below
    have b := rk_zero above
    have c := rk_app (l.take j) (r :: l.drop (j + 1)) x
    rw [← e1, rk_cons, a, b] at c
    rw [c]
    have hr := n.ok r (List.mem_of_getElem? hj)
    have k1 := mn_ok r.2 (x - 1)
    have k2 := mn_ok x (r.2 + 1)
    unfold rkT
    split <;> omega
end OR

namespace OR
open PySem PySem.Spec PyProof.Rows L2
/-! ### Places: members -/
def spHow (K : PySem.W.Frag) : Sp := fun vs H Q _ => ∃ (t : Addr) (x : Int) (ns : List Int), vs = [.ref t, .int x] ∧ SqT K H t (ns.map V.int) ∧ ns.length ≤ 1000 ∧ ns.Pairwise (· < ·) ∧ ∀ n : Nat, Upto ns x n → Q (.int (n : Int)) H
def spCon (K : PySem.W.Frag) (C : Addr) : Sp := fun vs H Q _ => ∃ (p : Addr) (l : List Row) (v : V), vs = [.ref p, v] ∧ IsP C H p l ∧ ((∃ x, v = .int x ∧ Q (.bl (hasB l x)) H) ∨ ∃ (T : String) (b1 b2 : Bool), TyX K H v (.type T) ∧ kitB T "int" = some b1 ∧ kitB T "bool" = some b2 ∧ (b1 && !b2) = false ∧ Q (.bl false) H)
def spGet (C CN : Addr) : Sp := fun vs H Q E => ∃ (p : Addr) (k : Int) (l : List Row), vs = [.ref p, .int k] ∧ IsP C H p l ∧ (0 ≤ k → k < tot l → ∀ v, memK l k = some v → Q (.int v) H) ∧
  (¬ (0 ≤ k ∧ k < tot l) → ∀ (d : Addr) (H' : Hp), H d = none → H' d = some (.xd [(("place" : Str), .int k)]) → Same H H' → E (.ref CN) (some d) H')
def spRank (C : Addr) : Sp := fun vs H Q _ => ∃ (p : Addr) (x : Int) (l : List Row), vs = [.ref p, .int x] ∧ IsP C H p l ∧ Q (.int (rk l x)) H
def leastV (l : List Row) : V := match l with
  | [] => .non
  | r :: _ => .int r.1
def greatV (l : List Row) : V := match l.getLast? with
  | none => .non
  | some r => .int r.2
def spLeast (C : Addr) (g : List Row → V) : Sp := fun vs H Q _ => ∃ p l, vs = [.ref p] ∧ IsP C H p l ∧ Q (g l) H
def spNpI (CN : Addr) : Sp := fun vs H Q _ => ∃ (a : Addr) (v : V), vs = [.ref a, v] ∧ H a = some (exo a CN none) ∧ ∀ dx, H dx = none → dx ≠ a → Q .non (upd (upd H dx (exd dx [(("place" : Str), v)])) a (exo a CN (some dx)))
structure NpTxt (K : PySem.W.Frag) (mg : Str → Option Value) (CN CR fI : Addr) : Prop where
  gB : mg "NoPlace" = some (.ref CN)
  gR : mg "RangesError" = some (.ref CR)
  ox : OexC K CN
  xf : XfC K CN
  xc : ExcC K CN
  noI : PySem.W.findIn K (.ref CN) "place" = some none
  iC : PySem.W.findIn K (.ref CN) "__init__" = some (some (.ref fI))
  tI : PySem.W.typeIn K (.ref fI) = some (.type "function")
  self : PySem.W.exmOne K (.ref CN) (.ref CN) = some true
  kR : PySem.W.kitOne K (.ref CN) (.ref CR) = some true
section
variable {P : Program} {w : World} {K : PySem.W.Frag} {mg : Str → Option Value} {base : Heap}
theorem scNpI : FnScope ["self", "place"] ["self", "place"] (defScope sNpInit) := ⟨rfl, rfl, rfl, by decide +kernel, rfl, by decide +kernel, by decide +kernel⟩
theorem ok_npinit {f CN CR fI : Addr} {fd : FuncData} (F : Fun K "__init__" "NoPlace.__init__" sNpInit f fd) (T : NpTxt K mg CN CR fI) : FnOk P w K mg base CX0 1 f fd ["self", "place"] (spNpI CN) := by
  refine F.ok scNpI (fun vs H Q E h => ?_) (fun cdv A outer s H vs Q E hr h => ?_)
  · obtain ⟨a, v, rfl, _⟩ := h
    rfl
  · obtain ⟨a, v, rfl, ha, q⟩ := h
    refine ⟨_, pss_one (ps_ost (pv 0) (pv 1)), ?_⟩
    exact ⟨_, rfl, _, rfl, a, CN, rfl, T.ox, T.noI, .inl ⟨ha, q⟩⟩
theorem scHo : FnScope ["numbers", "x", "low", "high", "middle"] ["numbers", "x"] (defScope sHow) := ⟨rfl, rfl, rfl, by decide +kernel, rfl, by decide +kernel, by decide +kernel⟩
theorem ok_how {f C : Addr} {fd : FuncData} (F : Fun K "_how_many_upto" "_how_many_upto" sHow f fd) (T : PTxt K mg C) : FnOk P w K mg base CX0 1 f fd ["numbers", "x"] (spHow K) := by
  refine F.ok scHo (fun vs H Q E h => ?_) (fun cdv A outer s H vs Q E hr h => ?_)
  · obtain ⟨t, x, ns, rfl, _⟩ := h
    rfl
  · obtain ⟨t, x, ns, rfl, hS, hlen, hs, q⟩ := h
    have nd := scHo.nd
    refine ⟨_, pss_cons (ps_set (i := 2) nd rfl (.inl rfl) pe_int)
      (pss_cons (ps_set (i := 3) nd rfl (.inl rfl) (pe_callB call_len_seq (by rfl) T.zLen PySem.boot_len (pa_cons (pv 0) pa_nil)))
      (pss_cons (ps_while PassesOwn.never (pt_cmpR op_lt (pv 2) (pv 3) (nomark _))
        (pss_cons (ps_set (i := 4) nd rfl (.inl rfl) (pe_op op_fdivW (pe_op op_add (pv 2) (pv 3)) pe_int))
        (pss_one (ps_if (pt_cmpR op_le (pe_ix ix_tup (pv 0) (pv 4) (fun _ _ => rfl)) (pv 1) (nomark _)) (pss_one (ps_set (i := 2) nd rfl (.inl rfl) (pe_op op_add (pv 4) pe_int))) (pss_one (ps_set (i := 3) nd rfl (.inl rfl) (pv 4)))))))
      (pss_one (ps_ret (pv 2))))), ?_⟩
    refine ⟨_, rfl, t, _, rfl, .inr hS, ?_⟩
    have el : ((ns.map V.int).length : Int) = ((ns.length : Nat) : Int) := by rw [List.length_map]
    rw [el]
    refine ⟨fun m σ H' => ∃ (lo hi : Nat) (s4 : Option V), m = hi - lo ∧ H' = H ∧ σ = [some (.ref t), some (.int x), some (.int (lo : Int)), some (.int (hi : Int)), s4] ∧ lo ≤ hi ∧ hi ≤ ns.length ∧ (∀ (i : Nat) (v : Int), i < lo → ns[i]? = some v → v ≤ x) ∧ (∀ (i : Nat) (v : Int), hi ≤ i → ns[i]? = some v → x < v),
      ⟨_, 0, ns.length, none, rfl, rfl, rfl, Nat.zero_le _, Nat.le_refl _, fun i v h => absurd h (Nat.not_lt_zero _), fun i v h e => absurd (List.getElem?_eq_some_iff.mp e).1 (by omega)⟩, ?_⟩
    rintro m σ H' ⟨lo, hi, s4, rfl, rfl, rfl, hlh, hh, a, b⟩
    refine ⟨_, rfl, _, rfl, _, _, rfl, rfl, _, rfl, ite2 (fun c => ?_) (fun c => ?_)⟩
    · have hc : (lo : Int) < (hi : Int) := of_decide_eq_true c
      have e2 : ((lo : Int) + (hi : Int)) / 2 = (((lo + hi) / 2 : Nat) : Int) := by omega
      have hm1 : (lo + hi) / 2 < ns.length := by omega
      have hg : ns[(lo + hi) / 2]? = some ns[(lo + hi) / 2] := List.getElem?_eq_getElem hm1
      have mono : ∀ (i j : Nat) (u v : Int), i ≤ j → ns[i]? = some u → ns[j]? = some v → u ≤ v := fun i j u v hij hi' hj' => by
        obtain ⟨p1, e1⟩ := List.getElem?_eq_some_iff.mp hi'
        obtain ⟨p2, e2⟩ := List.getElem?_eq_some_iff.mp hj'
        rcases Nat.lt_or_eq_of_le hij with k | k
        · have := List.pairwise_iff_getElem.mp hs i j p1 p2 k
          omega
        · subst k
          omega
      refine ⟨_, fun σ' H'' p => p, ?_⟩
      refine ⟨_, rfl, _, rfl, _, _, rfl, rfl, _, _, rfl, rfl, div200 (by decide) (by decide) _, ?_⟩
      have e3 : ((lo : Int) + (hi : Int)) / 2 + 1 = (((lo + hi) / 2 + 1 : Nat) : Int) := by omega
      have hat : atI (ns.map V.int) (((lo : Int) + (hi : Int)) / 2) = some (.int ns[(lo + hi) / 2]) := by rw [e2]; exact atI_nat (by rw [List.getElem?_map, hg]; rfl)
      refine ⟨_, rfl, _, rfl, t, _, _, _, rfl, rfl, hS, hat, _, rfl, _, _, rfl, rfl, _, rfl, ite2 (fun c2 => ?_) (fun c2 => ?_)⟩
      · have hc2 : ns[(lo + hi) / 2] ≤ x := of_decide_eq_true c2
        refine ⟨_, rfl, _, _, rfl, rfl, hi - ((lo + hi) / 2 + 1), by omega, (lo + hi) / 2 + 1, hi, some (.int (((lo : Int) + (hi : Int)) / 2)), rfl, rfl, (by rw [← e3]; rfl), by omega, hh, fun i v hi' e => ?_, b⟩
        have := mono i ((lo + hi) / 2) v _ (by omega) e hg
        omega
      · have hc2 : ¬ ns[(lo + hi) / 2] ≤ x := fun w => c2 (decide_eq_true w)
        refine ⟨_, rfl, (lo + hi) / 2 - lo, by omega, lo, (lo + hi) / 2, some (.int (((lo : Int) + (hi : Int)) / 2)), rfl, rfl, (by rw [← e2]; rfl), by omega, by omega, a, fun i v hi' e => ?_⟩
        have := mono ((lo + hi) / 2) i _ v hi' hg e
        omega
    · have hc : ¬ (lo : Int) < (hi : Int) := fun w => c (decide_eq_true w)
      have e : lo = hi := by omega
      subst e
      exact ⟨_, rfl, q lo ⟨hh, a, b⟩⟩
theorem scCon : FnScope ["self", "x", "at"] ["self", "x"] (defScope sPlCon) := ⟨rfl, rfl, rfl, by decide +kernel, rfl, by decide +kernel, by decide +kernel⟩
theorem firsts_v (l : List Row) : (l.map fun r => V.int r.1) = (l.map (·.1)).map V.int := by rw [List.map_map]; rfl
theorem ok_con {f C : Addr} {fd : FuncData} (F : Fun K "__contains__" "Places.__contains__" sPlCon f fd) (T : PTxt K mg C) (I : Cl P w K mg base 1 "is_integer" ["value"] (spIsIntG K)) (HW : Cl P w K mg base 1 "_how_many_upto" ["numbers", "x"] (spHow K)) : FnOk P w K mg base CX0 2 f fd ["self", "x"] (spCon K C) := by
  refine F.ok scCon (fun vs H Q E h => ?_) (fun cdv A outer s H vs Q E hr h => ?_)
  · obtain ⟨p, l, v, rfl, _⟩ := h
    rfl
  · obtain ⟨p, l, v, rfl, hp, h⟩ := h
    have nd := scCon.nd
    refine ⟨_, pss_cons (ps_if (pt_not (pt_val (pe_cl I hr (by decide) (by rfl) (pa_cons (pv 1) pa_nil)))) (pss_one (ps_ret pe_bl)) pss_nil)
      (pss_cons (ps_set (i := 2) nd rfl (.inl rfl) (pe_cl HW hr (by decide) (by rfl) (pa_cons (pe_fld (pv 0) rfl) (pa_cons (pv 1) pa_nil))))
      (pss_one (ps_ret (pe_and (pe_cmpR op_gt (pv 2) pe_int (nomark _)) (pe_one (pe_cmpR op_le (pv 1) (pe_ix ix_tup (pe_ix ix_tup (pe_fld (pv 0) rfl) (pe_op op_sub (pv 2) pe_int) (fun _ _ => rfl)) pe_int (fun _ _ => rfl)) (nomark _))))))), ?_⟩
    rcases h with ⟨x, rfl, q⟩ | ⟨ty, b1, b2, hT, h1, h2, hb, q⟩
    · refine ⟨_, rfl, .int x, "int", true, false, rfl, .base (.int x), by decide +kernel, by decide +kernel, _, rfl, iteF ?_⟩
      obtain ⟨nf, dx, t, fi, b, M, e1, e2, e3, e4, e5, e6, e7⟩ := id hp
      rw [firsts_v] at e5
      refine ⟨_, rfl, p, C, dx, _, _, rfl, e1, T.cl, T.nF, pFl_f _ _ _, _, rfl, fi, x, _, rfl, .inl (.inl e5), by rw [List.length_map, ← e4, rws_len]; exact e7, firsts_asc nf, fun n u => ?_⟩
      have hu := has_upto nf u
      refine ⟨_, rfl, _, _, rfl, rfl, _, rfl, ?_⟩
      cases n with
      | zero =>
        have e : hasB l x = false := by
          cases h : hasB l x with
          | false => rfl
          | true =>
            obtain ⟨m, r, c, _⟩ := hu.mp h
            omega
        rw [e] at q
        exact iteF q
      | succ m =>
        have pos : decide ((0 : Int) < ((m + 1 : Nat) : Int)) = true := decide_eq_true (by omega)
        rw [show decide (((m + 1 : Nat) : Int) > 0) = true from pos]
        have hl := u.le
        rw [List.length_map] at hl
        obtain ⟨r, hr'⟩ : ∃ r, l[m]? = some r := ⟨l[m], List.getElem?_eq_getElem (by omega)⟩
        have hr2 := hr'
        rw [← e4] at hr2
        obtain ⟨z, hz, rfl⟩ : ∃ z, M[m]? = some z ∧ z.2 = r := by
          unfold rws at hr2
          rw [List.getElem?_map] at hr2
          cases e : M[m]? with
          | none => rw [e] at hr2; cases hr2
          | some z => rw [e] at hr2; exact ⟨z, rfl, Option.some.inj hr2⟩
        have ez := e3 z (List.mem_of_getElem? hz)
        refine iteT ⟨_, rfl, _, rfl, p, C, dx, _, _, rfl, e1, T.cl, T.nS, pFl_s _ _ _, _, rfl, _, _, rfl, rfl, t, refs M, _, .ref z.1, rfl, rfl, .inl (.inl e2), ?_, z.1, _, 1, .int z.2.2, rfl, rfl, .inl (.inl ez), atI_nat (j := 1) rfl, _, _, rfl, rfl, ?_⟩
        · rw [show ((m + 1 : Nat) : Int) - 1 = (m : Int) by omega]
          exact atI_nat (by unfold refs; rw [List.getElem?_map, hz]; rfl)
        · have e : hasB l x = decide (x ≤ z.2.2) := by
            rw [Bool.eq_iff_iff, hu, decide_eq_true_eq]
            constructor
            · rintro ⟨m', r, h3, h4, h5⟩
              have : m' = m := by omega
              subst this
              rw [h4] at hr'
              rw [← Option.some.inj hr']
              exact h5
            · intro h5
              exact ⟨m, z.2, rfl, hr', h5⟩
          rw [e] at q
          exact q
    · exact ⟨_, rfl, v, ty, b1, b2, rfl, hT, h1, h2, _, rfl, by rw [hb]; exact iteT q⟩
theorem scRank : FnScope ["self", "x", "at", "first", "last"] ["self", "x"] (defScope sPlRank) := ⟨rfl, rfl, rfl, by decide +kernel, rfl, by decide +kernel, by decide +kernel⟩
theorem row_at {M : List ARow} {m : Nat} {r : Row} (h : (rws M)[m]? = some r) : ∃ z, M[m]? = some z ∧ z.2 = r := by
  unfold rws at h
  rw [List.getElem?_map] at h
  cases e : M[m]? with
  | none => rw [e] at h; cases h
  | some z => rw [e] at h; exact ⟨z, rfl, Option.some.inj h⟩
theorem ok_rank {f C : Addr} {fd : FuncData} (F : Fun K "rank" "Places.rank" sPlRank f fd) (T : PTxt K mg C) (zMin : mg "min" = none) (HW : Cl P w K mg base 1 "_how_many_upto" ["numbers", "x"] (spHow K)) : FnOk P w K mg base CX0 2 f fd ["self", "x"] (spRank C) := by
  refine F.ok scRank (fun vs H Q E h => ?_) (fun cdv A outer s H vs Q E hr h => ?_)
  · obtain ⟨p, x, l, rfl, _⟩ := h
    rfl
  · obtain ⟨p, x, l, rfl, hp, q⟩ := h
    have nd := scRank.nd
    refine ⟨_, pss_cons (ps_set (i := 2) nd rfl (.inl rfl) (pe_cl HW hr (by decide) (by rfl) (pa_cons (pe_fld (pv 0) rfl) (pa_cons (pv 1) pa_nil))))
      (pss_cons (ps_if (pt_cmpR op_eq (pv 2) pe_int (nomark _)) (pss_one (ps_ret pe_int)) pss_nil)
      (pss_cons (ps_asg (pe_ix ix_tup (pe_fld (pv 0) rfl) (pe_op op_sub (pv 2) pe_int) (fun _ _ => rfl)) (pg_tup rfl (pgs_cons (pg_name (i := 3) nd rfl (.inl rfl)) (pgs_cons (pg_name (i := 4) nd rfl (.inl rfl)) pgs_nil))))
      (pss_one (ps_ret (pe_op op_sub (pe_op op_add (pe_ix ix_tup (pe_fld (pv 0) rfl) (pe_op op_sub (pv 2) pe_int) (fun _ _ => rfl)) (pe_callB (call_min2 rfl) (by rfl) zMin bt_min (pa_cons (pv 1) (pa_cons (pe_op op_add (pv 4) pe_int) pa_nil)))) (pv 3)))))), ?_⟩
    obtain ⟨nf, dx, t, fi, b, M, e1, e2, e3, e4, e5, e6, e7⟩ := id hp
    rw [firsts_v] at e5
    refine ⟨_, rfl, p, C, dx, _, _, rfl, e1, T.cl, T.nF, pFl_f _ _ _, _, rfl, fi, x, _, rfl, .inl (.inl e5), by rw [List.length_map, ← e4, rws_len]; exact e7, firsts_asc nf, fun n u => ?_⟩
    obtain ⟨k0, k1⟩ := rank_upto nf u
    refine ⟨_, rfl, rfl, _, rfl, ?_⟩
    cases n with
    | zero =>
      rw [k0 rfl] at q
      exact iteT q
    | succ m =>
      have ne : decide (V.int ((m + 1 : Nat) : Int) = V.int 0) = false := decide_eq_false fun e => by have := V.int.inj e; omega
      rw [ne]
      refine iteF ?_
      have hl := u.le
      rw [List.length_map] at hl
      obtain ⟨r, hr'⟩ : ∃ r, l[m]? = some r := ⟨l[m], List.getElem?_eq_getElem (by omega)⟩
      obtain ⟨z, hz, ezr⟩ := row_at (show (rws M)[m]? = some r by rw [e4]; exact hr')
      have ez := e3 z (List.mem_of_getElem? hz)
      have em : ((m + 1 : Nat) : Int) - 1 = (m : Int) := by omega
      refine ⟨_, rfl, p, C, dx, _, _, rfl, e1, T.cl, T.nS, pFl_s _ _ _, _, rfl, _, _, rfl, rfl, t, refs M, _, .ref z.1, rfl, rfl, .inl (.inl e2), ?_, z.1, _, rfl, .inl (.inl ez), rfl, _, _, rfl, _, _, rfl, rfl, ?_⟩
      · rw [em]
        exact atI_nat (by unfold refs; rw [List.getElem?_map, hz]; rfl)
      refine ⟨_, rfl, p, C, dx, _, _, rfl, e1, T.cl, T.nB, pFl_b _ _ _, _, rfl, _, _, rfl, rfl, b, _, _, .int (tot (l.take m)), rfl, rfl, .inl (.inl e6), ?_, _, rfl, _, rfl, _, _, rfl, rfl, _, _, rfl, _, _, rfl, rfl, _, rfl, _, _, rfl, rfl, ?_⟩
      · rw [em]
        exact atI_nat (by rw [List.getElem?_map, befs_at (by omega)]; rfl)
      · have e := k1 m r rfl hr'
        rw [e, ← ezr] at q
        exact q
theorem scLe : FnScope ["self"] ["self"] (defScope sPlLeast) := ⟨rfl, rfl, rfl, by decide +kernel, rfl, by decide +kernel, by decide +kernel⟩
theorem ok_least {f C : Addr} {fd : FuncData} (F : Fun K "least" "Places.least" sPlLeast f fd) (T : PTxt K mg C) : FnOk P w K mg base CX0 1 f fd ["self"] (spLeast C leastV) := by
  refine F.ok scLe (fun vs H Q E h => ?_) (fun cdv A outer s H vs Q E hr h => ?_)
  · obtain ⟨p, l, rfl, _⟩ := h
    rfl
  · obtain ⟨p, l, rfl, hp, q⟩ := h
    refine ⟨_, pss_one (ps_ret (pe_ifExp (pt_truth (pe_fld (pv 0) rfl) (by intro _; rfl)) (pe_ix ix_tup (pe_ix ix_tup (pe_fld (pv 0) rfl) pe_int (fun _ _ => rfl)) pe_int (fun _ _ => rfl)) pe_non)), ?_⟩
    obtain ⟨nf, dx, t, fi, b, M, e1, e2, e3, e4, _⟩ := id hp
    refine ⟨_, rfl, p, C, dx, _, _, rfl, e1, T.cl, T.nS, pFl_s _ _ _, !(refs M).isEmpty, .inr (.inl ⟨refs M, .inl (.inl e2), rfl⟩), ?_⟩
    subst e4
    cases M with
    | nil => exact iteF q
    | cons z M =>
      have ez := e3 z List.mem_cons_self
      exact iteT ⟨_, rfl, p, C, dx, _, _, rfl, e1, T.cl, T.nS, pFl_s _ _ _, t, _, 0, .ref z.1, rfl, rfl, .inl (.inl e2), atI_nat (j := 0) rfl, z.1, _, 0, .int z.2.1, rfl, rfl, .inl (.inl ez), atI_nat (j := 0) rfl, q⟩
theorem scGr : FnScope ["self"] ["self"] (defScope sPlGreat) := ⟨rfl, rfl, rfl, by decide +kernel, rfl, by decide +kernel, by decide +kernel⟩
theorem ok_great {f C : Addr} {fd : FuncData} (F : Fun K "greatest" "Places.greatest" sPlGreat f fd) (T : PTxt K mg C) : FnOk P w K mg base CX0 1 f fd ["self"] (spLeast C greatV) := by
  refine F.ok scGr (fun vs H Q E h => ?_) (fun cdv A outer s H vs Q E hr h => ?_)
  · obtain ⟨p, l, rfl, _⟩ := h
    rfl
  · obtain ⟨p, l, rfl, hp, q⟩ := h
    refine ⟨_, pss_one (ps_ret (pe_ifExp (pt_truth (pe_fld (pv 0) rfl) (by intro _; rfl)) (pe_ix ix_tup (pe_ix ix_tup (pe_fld (pv 0) rfl) (pe_un un_neg pe_int) (fun _ _ => rfl)) pe_int (fun _ _ => rfl)) pe_non)), ?_⟩
    obtain ⟨nf, dx, t, fi, b, M, e1, e2, e3, e4, _⟩ := id hp
    refine ⟨_, rfl, p, C, dx, _, _, rfl, e1, T.cl, T.nS, pFl_s _ _ _, !(refs M).isEmpty, .inr (.inl ⟨refs M, .inl (.inl e2), rfl⟩), ?_⟩
    subst e4
    by_cases c : M = []
    · subst c
      exact iteF q
    · obtain ⟨M', z, rfl⟩ : ∃ M' z, M = M' ++ [z] := ⟨_, _, (List.dropLast_concat_getLast c).symm⟩
      rw [refs_snoc] at e2 ⊢
      have en : (!(refs M' ++ [V.ref z.1]).isEmpty) = true := by simp
      rw [en]
      have ez := e3 z (List.mem_append_right _ (List.mem_singleton.mpr rfl))
      have eg : greatV (rws (M' ++ [z])) = .int z.2.2 := by
        unfold greatV
        rw [rws_snoc, List.getLast?_concat]
      rw [eg] at q
      exact iteT ⟨_, rfl, p, C, dx, _, _, rfl, e1, T.cl, T.nS, pFl_s _ _ _, 1, rfl, t, _, -1, .ref z.1, rfl, rfl, .inl (.inl e2), atI_last _ _, z.1, _, 1, .int z.2.2, rfl, rfl, .inl (.inl ez), atI_nat (j := 1) rfl, q⟩
end
end OR

namespace OR
open PySem PySem.Spec PyProof.Rows L2
/-! ### places[k], _law_told -/
theorem fnR_ofX {P : Program} {w : World} {K : PySem.W.Frag} {mg : Str → Option Value} {base : Heap} {CX : CXT} {k : Nat} {f : Addr} {fd : FuncData} {ps : List Str} {sp : Sp} (F : FnOk P w K mg base CX k f fd ps sp) (hb : Binds K fd ps []) : FnR P w K mg base CX k f sp :=
  (F.raw hb .nil).imp fun vs H Q E h => by rw [List.append_nil]; exact h
def spTold (C : Addr) : Sp := fun vs H Q _ => ∃ (p : Addr) (k : Int) (l : List Row), vs = [.ref p, .int k] ∧ IsP C H p l ∧ (0 ≤ k → k < tot l → ∀ v, memK l k = some v → Q (.int v) H) ∧
  (¬ (0 ≤ k ∧ k < tot l) → ∀ (t : Addr) (H' : Hp), H' t = some (.tup [.str "none", .int k]) → Same H H' → Q (.ref t) H')
section
variable {P : Program} {w : World} {K : PySem.W.Frag} {mg : Str → Option Value} {base : Heap}
theorem scGet : FnScope ["self", "at", "stretch"] ["self", "at"] (defScope sPlGet) := ⟨rfl, rfl, rfl, by decide +kernel, rfl, by decide +kernel, by decide +kernel⟩
theorem ok_get {f C CN CR fI : Addr} {fd fdI : FuncData} (F : Fun K "__getitem__" "Places.__getitem__" sPlGet f fd) (T : PTxt K mg C) (NT : NpTxt K mg CN CR fI) (FN : FnOk P w K mg base CX0 1 fI fdI ["self", "place"] (spNpI CN)) (bN : Binds K fdI ["self", "place"] []) (I : Cl P w K mg base 1 "is_integer" ["value"] (spIsIntG K))
    (HW : Cl P w K mg base 1 "_how_many_upto" ["numbers", "x"] (spHow K)) (SZ : Mt P w K mg base 1 C "size" ["self"] (spSize C)) : FnOk P w K mg base (L2.CX P w) 3 f fd ["self", "at"] (spGet C CN) := by
  refine F.okX scGet (fun vs H Q E h => ?_) (fun cdv A outer s H vs Q E hr h => ?_)
  · obtain ⟨p, k, l, rfl, _⟩ := h
    rfl
  · obtain ⟨p, k, l, rfl, hp, qi, qo⟩ := h
    have nd := scGet.nd
    have room : Room (1 + 1) _ := hr
    refine ⟨_, pss_cons (ps_if (PW.pt (pw_or (pt_not (pt_val (pe_cl I hr (by decide) (by rfl) (pa_cons (pv 1) pa_nil)))) (pw_or1 (pt_not (pt_chain op_le op_lt pe_int (pv 1) (pe_mt0 SZ T.cl hr (by decide) (pv 0)))))))
        (pss_one (ps_raise rfl (takes_of rfl rfl rfl rfl) (pmk_oex NT.ox NT.iC NT.tI FN room bN .nil pass0 (by rfl) NT.gB (pa_cons (pv 1) pa_nil)))) pss_nil)
      (pss_cons (ps_set (i := 2) nd rfl (.inl rfl) (pe_op op_sub (pe_cl HW hr (by decide) (by rfl) (pa_cons (pe_fld (pv 0) rfl) (pa_cons (pv 1) pa_nil))) pe_int))
      (pss_one (ps_ret (pe_op op_sub (pe_op op_add (pe_ix ix_tup (pe_fld (pv 0) rfl) (pv 2) (fun _ _ => rfl)) (pv 1)) (pe_ix ix_tup (pe_fld (pv 0) rfl) (pv 2) (fun _ _ => rfl)))))), ?_⟩
    obtain ⟨nf, dx, t, fi, b, M, e1, e2, e3, e4, e5, e6, e7⟩ := id hp
    have kZ : (pFl t fi b).lookup ("size" : Str) = none := pFl_no _ _ _ (by decide +kernel) (by decide +kernel) (by decide +kernel)
    refine ⟨_, rfl, .int k, "int", true, false, rfl, .base (.int k), by decide +kernel, by decide +kernel, _, rfl, iteF ?_⟩
    refine ⟨_, rfl, _, _, rfl, rfl, _, rfl, ?_⟩
    have bad : ∀ (n : ¬ (0 ≤ k ∧ k < tot l)) (a : Addr), H a = none → ∀ d, (upd H a (exo a CN none)) d = none → d ≠ a → (upd (upd (upd H a (exo a CN none)) d (exd d [(("place" : Str), .int k)])) a (exo a CN (some d))) d = some (exd d [(("place" : Str), .int k)]) ∧ H d = none ∧
        E (.ref CN) (some d) (upd (del (upd (upd (upd H a (exo a CN none)) d (exd d [(("place" : Str), .int k)])) a (exo a CN (some d))) a) d (.xd [(("place" : Str), .int k)])) := fun n a na d nd1 ne1 => by
      rw [upd_ne ne1] at nd1
      refine ⟨by rw [upd_ne ne1]; exact upd_same, nd1, qo n d _ nd1 upd_same fun c o e => ?_⟩
      have nca : c ≠ a := ne_of_none e na
      have ncd : c ≠ d := ne_of_none e nd1
      rw [upd_ne ncd, del_ne nca, upd_ne nca, upd_ne ncd, upd_ne nca]
      exact e
    by_cases h0 : 0 ≤ k
    · rw [show decide ((0 : Int) ≤ k) = true from decide_eq_true h0]
      refine iteT ⟨_, rfl, p, dx, _, rfl, e1, kZ, p, l, rfl, hp, _, _, rfl, rfl, _, rfl, ?_⟩
      by_cases h1 : k < tot l
      · rw [show decide (k < tot l) = true from decide_eq_true h1]
        refine iteF ?_
        refine ⟨_, rfl, p, C, dx, _, _, rfl, e1, T.cl, T.nB, pFl_b _ _ _, _, rfl, b, k, _, rfl, .inl (.inl e6), by rw [befs_len, ← e4, rws_len]; exact e7, befs_asc nf, fun m u => ?_⟩
        obtain ⟨j, r, rfl, hj, k1, k2⟩ := member_upto nf h0 h1 u
        have em : ((j + 1 : Nat) : Int) - 1 = (j : Int) := by omega
        refine ⟨_, _, rfl, rfl, ?_⟩
        have at1 : atI (l.map fun r => V.int r.1) (((j + 1 : Nat) : Int) - 1) = some (.int r.1) := by rw [em]; exact atI_nat (by rw [List.getElem?_map, hj]; rfl)
        have at2 : atI ((befs l).map V.int) (((j + 1 : Nat) : Int) - 1) = some (.int (tot (l.take j))) := by rw [em]; exact atI_nat (by rw [List.getElem?_map, befs_at (List.getElem?_eq_some_iff.mp hj).1]; rfl)
        refine ⟨_, rfl, p, C, dx, _, _, rfl, e1, T.cl, T.nF, pFl_f _ _ _, _, rfl, fi, _, _, _, rfl, rfl, .inl (.inl e5), at1, _, rfl, _, _, rfl, rfl, _, rfl, p, C, dx, _, _, rfl, e1, T.cl, T.nB, pFl_b _ _ _, _, rfl, b, _, _, _, rfl, rfl, .inl (.inl e6), at2, _, _, rfl, rfl, ?_⟩
        have e := memK_at nf hj k1 k2
        have q := qi h0 h1 _ e
        rw [show r.1 + (k - tot (l.take j)) = r.1 + k - tot (l.take j) by omega] at q
        exact q
      · rw [show decide (k < tot l) = false from decide_eq_false h1]
        refine iteT ⟨_, rfl, by show 1 ≤ 1000; decide, fun a na => ⟨a, _, rfl, upd_same, fun d nd1 ne1 => ?_⟩⟩
        obtain ⟨x1, x2, x3⟩ := bad (fun h => h1 h.2) a na d nd1 ne1
        exact ⟨rfl, d, [(("place" : Str), .int k)], upd_same, x1, x2, x3⟩
    · rw [show decide ((0 : Int) ≤ k) = false from decide_eq_false h0]
      refine iteF ⟨_, rfl, iteT ⟨_, rfl, by show 1 ≤ 1000; decide, fun a na => ⟨a, _, rfl, upd_same, fun d nd1 ne1 => ?_⟩⟩⟩
      obtain ⟨x1, x2, x3⟩ := bad (fun h => h0 h.1) a na d nd1 ne1
      exact ⟨rfl, d, [(("place" : Str), .int k)], upd_same, x1, x2, x3⟩
theorem scTold : FnScope ["_law_places", "_law_k", "e"] ["_law_places", "_law_k"] (defScope sTold) := ⟨rfl, rfl, rfl, by decide +kernel, rfl, by decide +kernel, by decide +kernel⟩
theorem ok_told {f g C CN CR fI : Addr} {fd : FuncData} (F : Fun K "_law_told" "_law_told" sTold f fd) (T : PTxt K mg C) (NT : NpTxt K mg CN CR fI) (FG : FnR P w K mg base (L2.CX P w) 3 g (spGet C CN)) (hs : PySem.W.findIn K (.ref C) "__getitem__" = some (some (.ref g))) (hf : PySem.W.isFn K (.ref g) = true) (hn : PySem.W.fnIn K g = true) :
    FnOk P w K mg base CX0 5 f fd ["_law_places", "_law_k"] (spTold C) := by
  refine F.ok scTold (fun vs H Q E h => ?_) (fun cdv A outer s H vs Q E hr h => ?_)
  · obtain ⟨p, k, l, rfl, _⟩ := h
    rfl
  · obtain ⟨p, k, l, rfl, hp, qi, qo⟩ := h
    have nd := scTold.nd
    have room : Room (3 + 1) _ := hr
    refine ⟨_, pss_one (ps_try_as (i := 2) (Wout := fun _ _ _ _ => False) rfl rfl nd rfl rfl ⟨rfl, by decide, .inl NT.gB⟩ takes0
        (fun W pn xe tk _ => pss_one (ps_ret (by exact (pe_subO FG hs hf hn room (fun σ => passAt tk σ) (pv 0) (pv 1)))))
        (fun a oe cls d pn hz hf => pss_one (ps_ret (by exact (pe_ifExp (pt_val (pe_callB (call_isX NT.xc hz hf) (by rfl) T.zIsi bt_isi (pa_cons (pv 2) (pa_cons (pe_glob (v := .ref CR) (by rfl) NT.gR rfl) pa_nil)))) (pe_tup (pa_cons pe_str (pa_cons (pe_xf NT.xf NT.noI hz hf (pv 2)) pa_nil))) pe_non))))), ?_⟩
    obtain ⟨nf, dx, t, fi, b, M, e1, _⟩ := id hp
    refine ⟨_, rfl, _, rfl, p, dx, _, rfl, e1, p, k, l, rfl, hp, qi, fun n d H' nd2 hd s => ⟨true, NT.self, fun _ a0 na0 => ?_, fun q => Bool.noConfusion q⟩⟩
    refine ⟨_, rfl, rfl, d, _, rfl, hd, .ref CR, .ref CR, true, rfl, (fun _ h => h), NT.kR, _, rfl, iteT ?_⟩
    exact ⟨_, rfl, rfl, rfl, d, _, .int k, rfl, hd, by simp [List.lookup], by show 2 ≤ sizeLine; decide, fun t ht => qo n t _ upd_same (s.trans (same_lay ht))⟩
end
end OR

namespace OR
open PySem PySem.Spec PyProof.Rows L2
section
variable {P : Program} {w : World} {K : PySem.W.Frag} {mg : Str → Option Value} {base : Heap}
theorem scWhole : FnScope ["_law_pen_here", "_law_size"] ["_law_pen_here"] (defScope sWhole) := ⟨rfl, rfl, rfl, by decide +kernel, rfl, by decide +kernel, by decide +kernel⟩
theorem ok_whole {f : Addr} {fd : FuncData} (F : Fun K "_law_whole" "_law_whole" sWhole f fd) (D : Cl P w K mg base 1 "_law_draw" ["_law_pen_here", "_law_many"] spDraw) (C : Cl P w K mg base 2 "_law_pick" ["_law_pen_here", "_law_items"] (spPick K)) :
    FnOk P w K mg base CX0 3 f fd ["_law_pen_here"] spWhole := by
  refine F.ok scWhole (fun vs H Q E h => ?_) (fun cdv A outer s H vs Q E hr h => ?_)
  · obtain ⟨p, n, rfl, _⟩ := h
    rfl
  · obtain ⟨p, n, rfl, hP, hn, q⟩ := h
    refine ⟨_, pss_cons (ps_set (i := 1) scWhole.nd rfl (.inl rfl) (pe_cl C hr (by decide) (by rfl) (pa_cons (pv 0) (pa_cons (pe_lst (pa_cons pe_int (pa_cons pe_int (pa_cons pe_int (pa_cons (pe_op op_pow pe_int pe_int) (pa_cons (pe_op op_pow pe_int pe_int) pa_nil)))))) pa_nil))))
      (pss_one (ps_ret (pe_op op_mul (pe_cl D hr (by decide) (by rfl) (pa_cons (pv 0) (pa_cons (pv 1) pa_nil))) (pe_cl C hr (by decide) (by rfl) (pa_cons (pv 0) (pa_cons (pe_lst (pa_cons pe_int (pa_cons pe_int (pa_cons (pe_un un_neg pe_int) pa_nil)))) pa_nil)))))), ?_⟩
    refine ⟨_, rfl, _, _, rfl, rfl, ⟨by decide, by decide, by decide⟩, _, _, rfl, rfl, ⟨by decide, by decide, by decide⟩, by show 5 ≤ sizeLine; decide, fun a ha => ?_⟩
    have P1 := hP.new (o := .lst [.int 3, .int 10, .int 100, .int (10 ^ (6 : Int).toNat), .int (10 ^ (30 : Int).toNat)]) ha
    refine ⟨p, a, _, n, rfl, .inl (.inl upd_same), by show 0 < 5; decide, by show 5 ≤ 1000; decide, P1, by omega, fun v H2 hv P2 F2 => ?_⟩
    obtain ⟨m, rfl, hm0, hm1⟩ : ∃ m : Int, v = .int m ∧ 0 < m ∧ m ≤ 10 ^ 30 := by
      simp only [List.mem_cons, List.not_mem_nil, or_false] at hv
      rcases hv with e | e | e | e | e <;> subst e <;> exact ⟨_, rfl, by decide, by decide⟩
    have hmb : m.natAbs < 2 ^ 200 := by
      have : m.natAbs ≤ 10 ^ 30 := by omega
      exact Nat.lt_of_le_of_lt this (by decide)
    refine ⟨_, rfl, _, rfl, p, m, n + 1, rfl, hm0, hmb, P2, by omega, fun r H3 hr0 hr1 P3 F3 => ?_⟩
    refine ⟨_, rfl, _, rfl, by show 3 ≤ sizeLine; decide, fun b hb => ?_⟩
    refine ⟨p, b, _, n + 2, rfl, .inl (.inl upd_same), by show 0 < 3; decide, by show 3 ≤ 1000; decide, P3.new hb, by omega, fun v H4 hv P4 F4 => ?_⟩
    obtain ⟨s, rfl, hs⟩ : ∃ s : Int, v = .int s ∧ (s = 1 ∨ s = -1) := by
      simp only [List.mem_cons, List.not_mem_nil, or_false] at hv
      rcases hv with e | e | e <;> subst e
      · exact ⟨_, rfl, .inl rfl⟩
      · exact ⟨_, rfl, .inl rfl⟩
      · exact ⟨_, rfl, .inr rfl⟩
    refine ⟨r, s, rfl, rfl, .inr (by constructor <;> omega), q _ _ ?_ ?_ P4 ((((Frm.new ha).trans F2).trans F3).trans ((Frm.new hb).trans F4))⟩
    · rcases hs with rfl | rfl <;> omega
    · rcases hs with rfl | rfl <;> omega
end
end OR

namespace OR
open PySem PySem.Spec PyProof.Rows L2
/-! ### the law's own words -/
def spNear (K : PySem.W.Frag) : Sp := fun vs H Q _ => ∃ (a : Addr) (L : List ARow), vs = [.ref a] ∧ H a = some (.lst (refs L)) ∧ AtR H L ∧ L.length ≤ 15 ∧ ∀ (o : Addr) (ns : List Int) (H' : Hp), H' o = some (.lst (ns.map V.int)) → ns.length ≤ 64 → Same H H' → Q (.ref o) H'
/-- a value that is no integer -/
def OdV (K : PySem.W.Frag) (H0 H : Hp) (v : V) : Prop := ∃ fs : List (Addr × HO), (∀ q ∈ fs, H0 q.1 = none ∧ H q.1 = some q.2) ∧ ∀ H', (∀ q ∈ fs, H' q.1 = some q.2) → ∃ (T : String) (b1 b2 : Bool), TyX K H' v (.type T) ∧ kitB T "int" = some b1 ∧ kitB T "bool" = some b2 ∧ (b1 && !b2) = false
theorem OdV.mono {K : PySem.W.Frag} {H0 H0' H H' : Hp} {v : V} (h : OdV K H0 H v) (s0 : Same H0' H0) (s : Same H H') : OdV K H0' H' v := by
  obtain ⟨fs, h1, h2⟩ := h
  exact ⟨fs, fun q hq => ⟨s0.free (h1 q hq).1, s _ _ (h1 q hq).2⟩, h2⟩
theorem OdV.zero {K : PySem.W.Frag} {H0 H : Hp} {v : V} (T : String) (b1 b2 : Bool) (h : ∀ H', TyX K H' v (.type T)) (k1 : kitB T "int" = some b1) (k2 : kitB T "bool" = some b2) (k3 : (b1 && !b2) = false) : OdV K H0 H v := ⟨[], fun _ z => (nomatch z), fun H' _ => ⟨T, b1, b2, h H', k1, k2, k3⟩⟩
theorem OdV.one {K : PySem.W.Frag} {H0 H : Hp} {v : V} {t : Addr} {o : HO} (T : String) (b1 b2 : Bool) (h0 : H0 t = none) (h1 : H t = some o) (h : ∀ H', H' t = some o → TyX K H' v (.type T)) (k1 : kitB T "int" = some b1) (k2 : kitB T "bool" = some b2) (k3 : (b1 && !b2) = false) : OdV K H0 H v :=
  ⟨[(t, o)], fun q hq => by rw [List.mem_singleton.mp hq]; exact ⟨h0, h1⟩, fun H' k => ⟨T, b1, b2, h H' (k _ List.mem_cons_self), k1, k2, k3⟩⟩
def tOd (K : PySem.W.Frag) : TE := fun _ H Q => ∀ (v : V) (H' : Hp), Same H H' → OdV K H H' v → Q v H'
def tOds (K : PySem.W.Frag) (n : Nat) : TA := fun _ H Q => ∀ (vs : List V) (H' : Hp), Same H H' → vs.length = n → (∀ v ∈ vs, OdV K H H' v) → Q vs H'
theorem pa_imp {X : Cx} {es : List Expr} {t t' : TA} (h : PA X es t) (i : ∀ σ H Q, t' σ H Q → t σ H Q) : PA X es t' := ⟨fun pos pins s σ H Q I q => h.run pos pins s σ H Q I (i σ H Q q)⟩
theorem pa_onil {X : Cx} (K : PySem.W.Frag) : PA X [] (tOds K 0) := pa_imp pa_nil fun σ H Q q => q [] H (Same.refl _) rfl fun _ z => nomatch z
theorem pa_o {X : Cx} {K : PySem.W.Frag} {e : Expr} {es : List Expr} {n : Nat} (he : PE X e (tOd K)) (hs : PA X es (tOds K n)) (hst : starEach (e :: es) X.env = (false, eval e X.env) :: starEach es X.env := by rfl) : PA X (e :: es) (tOds K (n + 1)) :=
  pa_imp (pa_cons he hs hst) fun σ H Q q => fun v H1 s1 w1 => fun vs H2 s2 ln w2 => q (v :: vs) H2 (s1.trans s2) (by rw [List.length_cons, ln]) fun u hu => by
    rcases List.mem_cons.mp hu with e | hu
    · rw [e]
      exact w1.mono (Same.refl _) s2
    · exact (w2 u hu).mono s1 (Same.refl _)
def spOdd (K : PySem.W.Frag) : Sp := fun vs H Q _ => ∃ (p : Addr) (n : Nat), vs = [.ref p] ∧ Pen H p n ∧ n ≤ 700000 ∧ ∀ (v : V) (H' : Hp), OdV K H' H' v ∨ OdV K H H' v → Pen H' p (n + 10) → Frm p H H' → Q v H'
def spLRank (K : PySem.W.Frag) : Sp := fun vs H Q _ => ∃ (a : Addr) (x : Int) (L : List ARow), vs = [.ref a, .int x] ∧ SqL K H a (refs L) ∧ AtR H L ∧ L.length ≤ 100 ∧ ∀ H', Same H H' → Q (.int (rk (rws L) x)) H'
def optV : Option Int → V
  | none => .non
  | some v => .int v
def spMember (K : PySem.W.Frag) : Sp := fun vs H Q _ => ∃ (a : Addr) (k : Int) (L : List ARow), vs = [.ref a, .int k] ∧ SqL K H a (refs L) ∧ AtR H L ∧ Q (optV (memK (rws L) k)) H
theorem drop_at {L : List ARow} {i : Nat} {z : ARow} (h : L[i]? = some z) : (rws L).drop i = z.2 :: (rws L).drop (i + 1) := by
  have e := rws_get h
  have hl := (List.getElem?_eq_some_iff.mp e).1
  rw [List.drop_eq_getElem_cons hl]
  rw [(List.getElem?_eq_some_iff.mp e).2]
theorem sum_snoc : ∀ (ns : List Int) (a : Int), (ns ++ [a]).sum = ns.sum + a
  | [], a => by simp
  | n :: ns, a => by
    show n + (ns ++ [a]).sum = n + ns.sum + a
    rw [sum_snoc ns a]
    omega
section
variable {P : Program} {w : World} {K : PySem.W.Frag} {mg : Str → Option Value} {base : Heap}
theorem bt_sum : bootBuiltins ("sum" : Str) = some (.builtin "sum") := by decide +kernel
theorem scNe : FnScope ["_law_rows", "_law_found", "_law_first", "_law_last", "_law_x"] ["_law_rows"] (defScope sNear) := ⟨rfl, rfl, rfl, by decide +kernel, rfl, by decide +kernel, by decide +kernel⟩
theorem ok_near {f : Addr} {fd : FuncData} (F : Fun K "_law_near" "_law_near" sNear f fd) (B : Bd mg) : FnOk P w K mg base CX0 1 f fd ["_law_rows"] (spNear K) := by
  refine F.ok scNe (fun vs H Q E h => ?_) (fun cdv A outer s H vs Q E hr h => ?_)
  · obtain ⟨a, L, rfl, _⟩ := h
    rfl
  · obtain ⟨a, L, rfl, ha, hL, hlen, q⟩ := h
    have nd := scNe.nd
    have hpow : CPow 10 30 := ⟨by decide, by decide, by decide⟩
    refine ⟨_, pss_cons (ps_set (i := 1) nd rfl (.inl rfl) (pe_lst (pa_cons pe_int (pa_cons (pe_op op_pow pe_int pe_int) pa_nil))))
      (pss_cons (ps_for PassesOwn.never rfl (pi_list (pv 0)) (pg_tup rfl (pgs_cons (pg_name (i := 2) nd rfl (.inl rfl)) (pgs_cons (pg_name (i := 3) nd rfl (.inl rfl)) pgs_nil)))
        (pss_one (ps_set (i := 1) nd rfl (.inl rfl) (pe_op op_cat (pv 1) (pe_lst (pa_cons (pe_op op_sub (pv 2) pe_int) (pa_cons (pv 2) (pa_cons (pv 3) (pa_cons (pe_op op_add (pv 3) pe_int) pa_nil)))))))))
      (pss_one (ps_ret (pe_lc (own := [("_law_x", 4)]) (g := gName 4) rfl nd (pi_list (pe_callB (cr_sortedSet rfl) (by rfl) B.sorted bt_sorted (pa_cons (pe_callTy (call_setI K w rfl rfl rfl) (by rfl) B.set bt_set (pa_cons (pv 1) pa_nil)) pa_nil)))
          (blkOk_by (N := ["_law_rows", "_law_found", "_law_first", "_law_last", "_law_x"]) (sc := defScope sNear) (by decide +kernel))
        (fun _ _ _ _ _ => pg_name (i := 4) nd rfl (.inl rfl)) (fun _ _ _ _ _ => pts_one (pt_chain op_le op_le pe_int (pv 4) (pe_op op_pow pe_int pe_int))) (fun _ _ _ _ _ => pv 4))))), ?_⟩
    refine ⟨_, _, rfl, rfl, hpow, by show 2 ≤ sizeLine; decide, fun e0 ne0 => ?_⟩
    have S0 := same_lay (o := .lst [.int 0, .int ((10 : Int) ^ (30 : Int).toNat)]) ne0
    have he0 : (upd H e0 (.lst [.int 0, .int ((10 : Int) ^ (30 : Int).toNat)])) e0 = some (.lst [.int 0, .int ((10 : Int) ^ (30 : Int).toNat)]) := upd_same
    generalize upd H e0 (.lst [.int 0, .int ((10 : Int) ^ (30 : Int).toNat)]) = H1 at *
    refine ⟨_, rfl, a, rfl, ⟨_, .inl (.inl (S0 _ _ ha))⟩, for_list (K := K) (a := a) (xs := refs L) (fun i σ H' => ∃ e es f l, σ = [some (.ref a), some (.ref e), f, l, none] ∧ H' e = some (.lst (es.map V.int)) ∧ es.length = 2 + 4 * i ∧ Same H1 H')
      ⟨e0, [0, (10 : Int) ^ (30 : Int).toNat], none, none, rfl, he0, rfl, Same.refl _⟩ (fun i σ H' _ ⟨_, _, _, _, _, _, _, s⟩ => .inl (.inl (s _ _ (S0 _ _ ha)))) ?_ ?_⟩
    · rintro i y σ H' hy ⟨e, es, f, l, rfl, he, len, s⟩
      obtain ⟨z, hz, hzL, rfl⟩ := refs_get hy
      have hil : i < L.length := (List.getElem?_eq_some_iff.mp hz).1
      have ez := s _ _ (S0 _ _ (hL z hzL))
      refine ⟨z.1, _, rfl, .inl (.inl ez), rfl, _, _, rfl, _, _, rfl, rfl, ?_⟩
      refine ⟨_, rfl, _, rfl, _, _, rfl, rfl, _, rfl, _, rfl, _, rfl, _, _, rfl, rfl, by show 4 ≤ sizeLine; decide, fun u nu => ?_⟩
      have Su := same_lay (o := .lst [.int (z.2.1 - 1), .int z.2.1, .int z.2.2, .int (z.2.2 + 1)]) nu
      refine ⟨e, u, _, _, rfl, rfl, Su _ _ he, upd_same, ?_, fun v nv => ?_⟩
      · show (es.map V.int).length + 4 ≤ sizeLine
        rw [List.length_map]
        exact small_l (by omega)
      have Sv := Su.trans (same_lay (o := .lst (es.map V.int ++ [.int (z.2.1 - 1), .int z.2.1, .int z.2.2, .int (z.2.2 + 1)])) nv)
      refine ⟨v, es ++ [z.2.1 - 1, z.2.1, z.2.2, z.2.2 + 1], _, _, rfl, ?_, ?_, s.trans Sv⟩
      · rw [upd_same, List.map_append]
        rfl
      · rw [List.length_append, len]
        show 2 + 4 * i + 4 = _
        omega
    · rintro σ H2 ⟨e, es, f, l, rfl, he, len, S2⟩
      rw [refs_len] at len
      refine ⟨_, rfl, e, es, rfl, .inl (.inl he), by omega, fun u cc nu hcc => ⟨u, _, cc, rfl, upd_same, by omega, fun ns o hs hm hln no => ?_⟩⟩
      have S4 := (same_lay (o := SetO w u (fun j => decide (j ∈ es)) cc) nu).trans (same_lay (o := .lst (ns.map V.int)) no)
      have ho4 : (upd (upd H2 u (SetO w u (fun j => decide (j ∈ es)) cc)) o (.lst (ns.map V.int))) o = some (.lst (ns.map V.int)) := upd_same
      generalize upd (upd H2 u (SetO w u (fun j => decide (j ∈ es)) cc)) o (.lst (ns.map V.int)) = H4 at *
      refine ⟨o, rfl, ⟨_, .inl (.inl ho4)⟩, fun D hD => lc_list (K := K) (a := o) (xs := ns.map V.int) (fun i H5 => ∃ ms : List Int, H5 D = some (.lst (ms.map V.int)) ∧ ms.length ≤ i ∧ Same H4 H5)
        ⟨[], upd_same, Nat.le_refl _, same_lay hD⟩ (fun i H5 _ ⟨_, _, _, s⟩ => .inl (.inl (s _ _ ho4))) ?_ ?_⟩
      · rintro i y H5 hy ⟨ms, hD5, lm, s5⟩
        rw [List.getElem?_map] at hy
        obtain ⟨v, hv, rfl⟩ : ∃ v, ns[i]? = some v ∧ y = V.int v := by
          cases e : ns[i]? with
          | none => rw [e] at hy; cases hy
          | some v => rw [e] at hy; exact ⟨v, rfl, (Option.some.inj hy).symm⟩
        have hil := (List.getElem?_eq_some_iff.mp hv).1
        refine ⟨rfl, _, rfl, _, _, rfl, rfl, _, rfl, ite2 (fun c1 => ?_) (fun c1 => ⟨_, rfl, iteF ⟨ms, hD5, Nat.le_succ_of_le lm, s5⟩⟩)⟩
        refine ⟨_, _, rfl, rfl, hpow, _, _, rfl, rfl, _, rfl, ?_⟩
        cases c2 : decide (v ≤ (10 : Int) ^ (30 : Int).toNat) with
        | false => exact iteF ⟨ms, hD5, Nat.le_succ_of_le lm, s5⟩
        | true =>
          refine iteT ⟨_, rfl, _, hD5, small1000 (by rw [List.length_map]; omega), ms ++ [v], ?_, by rw [List.length_append]; exact Nat.succ_le_succ lm, same_upd s5 hD⟩
          rw [upd_same, List.map_append]
          rfl
      · rintro H5 ⟨ms, hD5, lm, s5⟩
        rw [List.length_map] at lm
        exact q D ms H5 hD5 (by omega) (((S0.trans S2).trans S4).trans s5)
theorem scOd : FnScope ["_law_pen_here"] ["_law_pen_here"] (defScope sOdd) := ⟨rfl, rfl, rfl, by decide +kernel, rfl, by decide +kernel, by decide +kernel⟩
theorem ok_odd {f : Addr} {fd : FuncData} (F : Fun K "_law_odd" "_law_odd" sOdd f fd) (C : Cl P w K mg base 2 "_law_pick" ["_law_pen_here", "_law_items"] (spPick K)) : FnOk P w K mg base CX0 3 f fd ["_law_pen_here"] (spOdd K) := by
  refine F.ok scOd (fun vs H Q E h => ?_) (fun cdv A outer s H vs Q E hr h => ?_)
  · obtain ⟨p, n, rfl, _⟩ := h
    rfl
  · obtain ⟨p, n, rfl, hP, hn, q⟩ := h
    have one : 1 ≤ sizeLine := by decide
    have two : 2 ≤ sizeLine := by decide
    have ob : ∀ {X : Cx} {b : Bool} {pos : Pos} {H : Hp}, OdV K H H (.bl b) := fun {X b pos H} => .zero "bool" true true (fun H' => .base (.bl b)) (by decide +kernel) (by decide +kernel) rfl
    refine ⟨_, pss_one (ps_ret (pe_cl C hr (by decide) (by rfl) (pa_cons (pv 0) (pa_cons (pe_lst
        (pa_o (pe_imp pe_non fun σ H Q q => q _ _ (Same.refl _) (.zero "NoneType" false false (fun H' => .base .non) (by decide +kernel) (by decide +kernel) rfl))
        (pa_o (pe_imp pe_bl fun σ H Q q => q _ _ (Same.refl _) (.zero "bool" true true (fun H' => .base (.bl _)) (by decide +kernel) (by decide +kernel) rfl))
        (pa_o (pe_imp pe_bl fun σ H Q q => q _ _ (Same.refl _) (.zero "bool" true true (fun H' => .base (.bl _)) (by decide +kernel) (by decide +kernel) rfl))
        (pa_o (pe_imp pe_str fun σ H Q q => q _ _ (Same.refl _) (.zero "str" false false (fun H' => .base (.str _)) (by decide +kernel) (by decide +kernel) rfl))
        (pa_o (pe_imp pe_str fun σ H Q q => q _ _ (Same.refl _) (.zero "str" false false (fun H' => .base (.str _)) (by decide +kernel) (by decide +kernel) rfl))
        (pa_o (pe_imp pe_str fun σ H Q q => q _ _ (Same.refl _) (.zero "str" false false (fun H' => .base (.str _)) (by decide +kernel) (by decide +kernel) rfl))
        (pa_o (pe_imp (pe_tup pa_nil) fun σ H Q q => ⟨Nat.zero_le _, fun t ht => q _ _ (same_lay ht) (.one "tuple" false false ht upd_same (fun H' h => .base (.tup h)) (by decide +kernel) (by decide +kernel) rfl)⟩)
        (pa_o (pe_imp (pe_tup (pa_cons pe_int (pa_cons pe_int pa_nil))) fun σ H Q q => ⟨two, fun t ht => q _ _ (same_lay ht) (.one "tuple" false false ht upd_same (fun H' h => .base (.tup h)) (by decide +kernel) (by decide +kernel) rfl)⟩)
        (pa_o (pe_imp (pe_lst (pa_cons pe_int pa_nil)) fun σ H Q q => ⟨one, fun t ht => q _ _ (same_lay ht) (.one "list" false false ht upd_same (fun H' h => .base (.lst h)) (by decide +kernel) (by decide +kernel) rfl)⟩)
        (pa_o (pe_imp pe_dnewK fun σ H Q q => fun t ht => q _ _ (same_lay ht) (.one "dict" false false ht upd_same (fun H' h => .base (.dK h)) (by decide +kernel) (by decide +kernel) rfl))
        (pa_o (pe_imp (pe_disp (pps_cons pe_str pe_int pps_nil) rfl rfl (by simp) (by decide)) fun σ H Q q => fun t ht => ⟨upd_same, [(.inr ("f" : Str), .int 1)], rfl, by show 1 ≤ 15; decide, q _ _ (fun b o e => by rw [upd_ne (ne_of_none e ht), upd_ne (ne_of_none e ht)]; exact e) (.one "dict" false false ht upd_same (fun H' h => .base (.dK h)) (by decide +kernel) (by decide +kernel) rfl)⟩)
        (pa_onil K))))))))))))) pa_nil)))), ?_⟩
    refine ⟨_, rfl, fun vs H1 s1 ln hw => ⟨by rw [ln]; decide, fun l1 nl1 => ?_⟩⟩
    have v1 := same_lay (o := .lst vs) nl1
    have P1 := hP.same' (s1.trans v1)
    refine ⟨p, l1, vs, n, rfl, .inl (.inl upd_same), by rw [ln]; decide, by rw [ln]; decide, P1, by omega, fun v H5 hv P5 F5 => ?_⟩
    obtain ⟨fs, k1, k2⟩ := hw v hv
    obtain ⟨kvs, hp⟩ := hP.dict
    exact q v H5 (.inr ⟨fs, fun g hg => ⟨(k1 g hg).1, F5 _ _ (v1 _ _ (k1 g hg).2) fun e => by have := (k1 g hg).1; rw [e, hp] at this; cases this⟩, k2⟩) (P5.mono (by omega)) ((frmS (s1.trans v1)).trans F5)
theorem scLR : FnScope ["_law_rows", "_law_x", "_law_row"] ["_law_rows", "_law_x"] (defScope sLRank) := ⟨rfl, rfl, rfl, by decide +kernel, rfl, by decide +kernel, by decide +kernel⟩
theorem ok_lrank {f : Addr} {fd : FuncData} (F : Fun K "_law_rank" "_law_rank" sLRank f fd) (B : Bd mg) (zSum : mg "sum" = none) : FnOk P w K mg base CX0 1 f fd ["_law_rows", "_law_x"] (spLRank K) := by
  refine F.ok scLR (fun vs H Q E h => ?_) (fun cdv A outer s H vs Q E hr h => ?_)
  · obtain ⟨a, x, L, rfl, _⟩ := h
    rfl
  · obtain ⟨a, x, L, rfl, hS, hL, hlen, q⟩ := h
    have nd := scLR.nd
    refine ⟨_, pss_one (ps_ret (pe_callB (cr_sum rfl) (by rfl) zSum bt_sum (pa_cons (pe_lc (own := [("_law_row", 2)]) (g := gName 2) rfl nd (pi_list (pv 0)) (blkOk_by (N := ["_law_rows", "_law_x", "_law_row"]) (sc := defScope sLRank) (by decide +kernel))
        (fun _ _ _ _ _ => pg_name (i := 2) nd rfl (.inl rfl)) (fun _ _ _ _ _ => pts_one (pt_cmpR op_lt (pe_ix (ix_any K rfl) (pv 2) pe_int (fun _ _ => rfl)) (pv 1) (nomark _)))
        (fun _ _ _ _ _ => pe_op op_add (pe_op op_sub (pe_callB (call_min2 rfl) (by rfl) B.min bt_min (pa_cons (pe_callTy call_int1 (by rfl) B.int bt_int (pa_cons (pe_ix (ix_any K rfl) (pv 2) pe_int (fun _ _ => rfl)) pa_nil)) (pa_cons (pe_callTy call_int1 (by rfl) B.int bt_int (pa_cons (pe_op op_sub (pv 1) pe_int) pa_nil)) pa_nil)))
            (pe_ix (ix_any K rfl) (pv 2) pe_int (fun _ _ => rfl))) pe_int)) pa_nil))), ?_⟩
    refine ⟨_, rfl, a, rfl, ⟨_, hS⟩, fun D hD => lc_list (K := K) (a := a) (xs := refs L) (fun i H2 => ∃ ns : List Int, H2 D = some (.lst (ns.map V.int)) ∧ ns.length ≤ i ∧ ns.sum = rk ((rws L).take i) x ∧ Same H H2)
        ⟨[], upd_same, Nat.le_refl _, rfl, same_lay hD⟩ (fun i H2 _ ⟨_, _, _, _, s⟩ => s.seq hS) ?_ ?_⟩
    · rintro i y H2 hy ⟨ns, hD2, ln, es, s2⟩
      obtain ⟨z, hz, hzL, rfl⟩ := refs_get hy
      have hil : i < L.length := (List.getElem?_eq_some_iff.mp hz).1
      have ez := s2 _ _ (hL z hzL)
      have e1 : (rws L).take (i + 1) = (rws L).take i ++ [z.2] := by rw [List.take_add_one, rws_get hz]; rfl
      have g0 : ∀ (u v : Int), atI [V.int u, .int v] 0 = some (.int u) := fun _ _ => atI_nat (j := 0) rfl
      have g1 : ∀ (u v : Int), atI [V.int u, .int v] 1 = some (.int v) := fun _ _ => atI_nat (j := 1) rfl
      have tz : ∀ {H'' : Hp}, H'' z.1 = some (.tup [.int z.2.1, .int z.2.2]) → SqL K H'' z.1 [.int z.2.1, .int z.2.2] ∨ SqT K H'' z.1 [.int z.2.1, .int z.2.2] := fun h => .inr (.inl (.inl h))
      refine ⟨rfl, _, rfl, z.1, _, 0, _, rfl, rfl, tz ez, g0 _ _, _, rfl, _, _, rfl, rfl, _, rfl, ?_⟩
      cases c : decide (z.2.1 < x) with
      | false =>
        have k : ¬ z.2.1 < x := of_decide_eq_false c
        refine iteF ⟨ns, hD2, Nat.le_succ_of_le ln, ?_, s2⟩
        rw [es, e1, rk_snoc, if_neg k, Int.add_zero]
      | true =>
        have k : z.2.1 < x := of_decide_eq_true c
        refine iteT ⟨_, rfl, z.1, _, 1, _, rfl, rfl, tz ez, g1 _ _, .inl ⟨_, rfl, _, rfl, _, _, rfl, rfl, .inl ⟨_, rfl, _, _, rfl, _, rfl, z.1, _, 0, _, rfl, rfl, tz ez, g0 _ _, _, _, rfl, rfl, _, _, rfl, rfl, _, hD2, small1000 (by rw [List.length_map]; omega), ns ++ [mn z.2.2 (x - 1) - z.2.1 + 1], ?_, by rw [List.length_append]; exact Nat.succ_le_succ ln, ?_, same_upd s2 hD⟩⟩⟩
        · rw [upd_same, List.map_append]
          rfl
        · rw [sum_snoc, es, e1, rk_snoc, if_pos k]
          rfl
    · rintro H2 ⟨ns, hD2, ln, es, s2⟩
      rw [refs_len, List.take_of_length_le (by rw [rws_len]; exact Nat.le_refl _)] at es
      refine ⟨D, ns, rfl, .inl (.inl hD2), ?_⟩
      rw [es]
      exact q _ s2
theorem scMe : FnScope ["_law_rows", "_law_k", "_law_left", "_law_first", "_law_last"] ["_law_rows", "_law_k"] (defScope sMember) := ⟨rfl, rfl, rfl, by decide +kernel, rfl, by decide +kernel, by decide +kernel⟩
theorem ok_member {f : Addr} {fd : FuncData} (F : Fun K "_law_member" "_law_member" sMember f fd) : FnOk P w K mg base CX0 1 f fd ["_law_rows", "_law_k"] (spMember K) := by
  refine F.ok scMe (fun vs H Q E h => ?_) (fun cdv A outer s H vs Q E hr h => ?_)
  · obtain ⟨a, k, L, rfl, _⟩ := h
    rfl
  · obtain ⟨a, k, L, rfl, hS, hL, q⟩ := h
    have nd := scMe.nd
    refine ⟨_, pss_cons (ps_set (i := 2) nd rfl (.inl rfl) (pv 1))
      (pss_cons (ps_for PassesOwn.never rfl (pi_list (pv 0)) (pg_tup rfl (pgs_cons (pg_name (i := 3) nd rfl (.inl rfl)) (pgs_cons (pg_name (i := 4) nd rfl (.inl rfl)) pgs_nil)))
        (pss_cons (ps_if (pt_chain op_le op_le pe_int (pv 2) (pe_op op_sub (pv 4) (pv 3))) (pss_one (ps_ret (pe_op op_add (pv 3) (pv 2)))) pss_nil)
        (pss_one (ps_set (i := 2) nd rfl (.inl rfl) (pe_op op_sub (pv 2) (pe_op op_add (pe_op op_sub (pv 4) (pv 3)) pe_int))))))
      (pss_one (ps_ret pe_non))), ?_⟩
    refine ⟨_, rfl, _, rfl, a, rfl, ⟨_, hS⟩, for_list (K := K) (a := a) (xs := refs L) (fun i σ H' => ∃ (lf : Int) (f l : Option V), σ = [some (.ref a), some (.int k), some (.int lf), f, l] ∧ H' = H ∧ memK (rws L) k = memK ((rws L).drop i) lf)
      ⟨k, none, none, rfl, rfl, rfl⟩ (fun i σ H' _ ⟨_, _, _, _, e, _⟩ => by rw [e]; exact hS) ?_ ?_⟩
    · rintro i y σ H' hy ⟨lf, f, l, rfl, rfl, em⟩
      obtain ⟨z, hz, hzL, rfl⟩ := refs_get hy
      have ez := hL z hzL
      rw [drop_at hz] at em
      have em2 : memK (rws L) k = if 0 ≤ lf ∧ lf ≤ z.2.2 - z.2.1 then some (z.2.1 + lf) else memK ((rws L).drop (i + 1)) (lf - (z.2.2 - z.2.1 + 1)) := em
      refine ⟨z.1, _, rfl, .inl (.inl ez), rfl, _, _, rfl, _, _, rfl, rfl, ?_⟩
      have no : ¬ (0 ≤ lf ∧ lf ≤ z.2.2 - z.2.1) → memK (rws L) k = memK ((rws L).drop (i + 1)) (lf - (z.2.2 - z.2.1 + 1)) := fun c => by rw [em2, if_neg c]
      refine ⟨_, rfl, _, _, rfl, rfl, _, rfl, ?_⟩
      cases c1 : decide ((0 : Int) ≤ lf) with
      | false =>
        have k1 : ¬ 0 ≤ lf := of_decide_eq_false c1
        exact iteF ⟨_, rfl, iteF ⟨_, rfl, _, rfl, _, rfl, _, _, rfl, rfl, _, _, rfl, rfl, _, _, rfl, rfl, _, _, _, rfl, rfl, no fun h => k1 h.1⟩⟩
      | true =>
        have k1 : 0 ≤ lf := of_decide_eq_true c1
        refine iteT ⟨_, rfl, _, rfl, _, _, rfl, rfl, _, _, rfl, rfl, _, rfl, ?_⟩
        cases c2 : decide (lf ≤ z.2.2 - z.2.1) with
        | false =>
          have k2 : ¬ lf ≤ z.2.2 - z.2.1 := of_decide_eq_false c2
          exact iteF ⟨_, rfl, _, rfl, _, rfl, _, _, rfl, rfl, _, _, rfl, rfl, _, _, rfl, rfl, _, _, _, rfl, rfl, no fun h => k2 h.2⟩
        | true =>
          have k2 : lf ≤ z.2.2 - z.2.1 := of_decide_eq_true c2
          rw [em2, if_pos ⟨k1, k2⟩] at q
          exact iteT ⟨_, rfl, _, rfl, _, _, rfl, rfl, q⟩
    · rintro σ H' ⟨lf, f, l, rfl, rfl, em⟩
      rw [refs_len, List.drop_eq_nil_of_le (by rw [rws_len]; exact Nat.le_refl _)] at em
      rw [em] at q
      exact q
end
end OR

namespace OR
open PySem PySem.Spec PyProof.Rows L2
/-! ### the law -/
theorem memK_inv : ∀ {l : List Row} {k v : Int}, memK l k = some v → ∃ j r, l[j]? = some r ∧ v = r.1 + (k - tot (l.take j)) ∧ 0 ≤ k - tot (l.take j) ∧ k - tot (l.take j) ≤ r.2 - r.1
  | [], _, _, h => nomatch h
  | r :: l, k, v, h => by
    have h' : (if 0 ≤ k ∧ k ≤ r.2 - r.1 then some (r.1 + k) else memK l (k - (r.2 - r.1 + 1))) = some v := h
    by_cases c : 0 ≤ k ∧ k ≤ r.2 - r.1
    · rw [if_pos c] at h'
      have e := Option.some.inj h'
      refine ⟨0, r, rfl, ?_⟩
      show v = r.1 + (k - 0) ∧ 0 ≤ k - 0 ∧ k - 0 ≤ r.2 - r.1
      omega
    · rw [if_neg c] at h'
      obtain ⟨j, q, a, b, d, e⟩ := memK_inv h'
      refine ⟨j + 1, q, a, ?_⟩
      rw [show tot ((r :: l).take (j + 1)) = (r.2 - r.1 + 1) + tot (l.take j) from tot_cons r (l.take j)]
      omega
theorem memK_some : ∀ {l : List Row} {k : Int}, 0 ≤ k → k < tot l → ∃ v, memK l k = some v
  | [], k, h0, h1 => by rw [tot_nil] at h1; omega
  | r :: l, k, h0, h1 => by
    rw [tot_cons] at h1
    by_cases c : 0 ≤ k ∧ k ≤ r.2 - r.1
    · exact ⟨_, if_pos c⟩
    · obtain ⟨v, e⟩ := memK_some (l := l) (k := k - (r.2 - r.1 + 1)) (by omega) (by omega)
      exact ⟨v, (if_neg c).trans e⟩
theorem rank_member {l : List Row} (n : Nf l) {k v : Int} (h : memK l k = some v) : rk l v = k := by
  obtain ⟨j, r, hj, e, h0, h1⟩ := memK_inv h
  have hl := (List.getElem?_eq_some_iff.mp hj).1
  have e1 : l = l.take j ++ (r :: l.drop (j + 1)) := by
    conv => lhs; rw [← List.take_append_drop j l]
    rw [List.drop_eq_getElem_cons hl, (List.getElem?_eq_some_iff.mp hj).2]
  have below : ∀ q ∈ l.take j, q.1 ≤ q.2 ∧ q.2 < v := fun q hq => by
    obtain ⟨i, hi⟩ := List.getElem?_of_mem hq
    have hij : i < j := by
      have := (List.getElem?_eq_some_iff.mp hi).1
      rw [List.length_take] at this
      omega
    rw [List.getElem?_take_of_lt hij] at hi
    have a := nf_lt n hi hj hij
    exact ⟨n.ok q (List.mem_of_getElem? hi), by omega⟩
  have above : ∀ q ∈ l.drop (j + 1), v ≤ q.1 := fun q hq => by
    obtain ⟨i, hi⟩ := List.getElem?_of_mem hq
    rw [List.getElem?_drop] at hi
    have a := nf_lt n hj hi (by omega)
    omega
  have c := rk_app (l.take j) (r :: l.drop (j + 1)) v
  rw [← e1, rk_cons, rk_full below, rk_zero above] at c
  rw [c]
  have k1 := mn_ok r.2 (v - 1)
  unfold rkT
  split <;> omega
theorem tot_le {l : List Row} (n : Nf l) (ok : ∀ r ∈ l, okRow r = true) : tot l ≤ lastP + 1 := by
  have hp : (0 : Int) ≤ lastP := by decide
  have := (tot_in (a := 0) (b := lastP) n (fun q hq => by have := okRow_iff (ok q hq); omega) (by omega)).1
  omega
theorem rk_size {l : List Row} (ok : ∀ r ∈ l, okRow r = true) : rk l (lastP + 1) = tot l := rk_full fun r hr => by have := okRow_iff (ok r hr); omega
def spLaw (K : PySem.W.Frag) : Sp := fun vs H Q _ => ∃ (a : Addr) (ns : List Int), vs = [.ref a] ∧ SqL K H a (ns.map V.int) ∧ ns.length ≤ 63 ∧ ∀ H', Q (.bl true) H'
theorem neI (k : Int) : (!decide (V.int k = V.int k)) = false := by simp
theorem eqI (k : Int) : PyData.eqv (.int k) (.int k) = true := by show (k == k) = true; simp
theorem eqTold (k : Int) : PyData.eqv (.tuple [.str "none", .int k]) (.tuple [.str "none", .int k]) = true := by
  show (PyData.eqv (.str "none") (.str "none") && (PyData.eqv (.int k) (.int k) && true)) = true
  rw [eqI]
  rfl
theorem shTold (k : Int) : SeqAt.shaped (.tuple [.str "none", .int k]) = true := by with_unfolding_all rfl
theorem ends_ok {K : PySem.W.Frag} {H : Hp} (l : List Row) : ∃ d e, Dp K H (leastV l) d ∧ Dp K H (greatV l) e ∧ SeqAt.shaped (.list [d, e]) = true ∧ PyData.eqv (.list [d, e]) (.list [d, e]) = true := by
  have two : ∀ a b : Int, PyData.eqv (.list [.int a, .int b]) (.list [.int a, .int b]) = true := fun a b => by
    show (PyData.eqv (.int a) (.int a) && (PyData.eqv (.int b) (.int b) && true)) = true
    rw [eqI, eqI]
    rfl
  cases l with
  | nil => exact ⟨.none, .none, .non, .non, rfl, rfl⟩
  | cons r l =>
    have e : greatV (r :: l) = .int ((r :: l).getLast (by simp)).2 := by
      unfold greatV
      rw [List.getLast?_eq_some_getLast (by simp)]
    rw [e]
    exact ⟨_, _, .int _, .int _, rfl, two _ _⟩
section
variable {P : Program} {w : World} {K : PySem.W.Frag} {mg : Str → Option Value} {base : Heap}
theorem scLaw : FnScope ["_law_script", "_law_pen_here", "_law_turn", "_law_rows", "_law_places", "_law_size", "_law_ends", "_law_x", "_law_k", "_law_due"] ["_law_script"] (defScope sLaw) := ⟨rfl, rfl, rfl, by decide +kernel, rfl, by decide +kernel, by decide +kernel⟩
theorem ok_law {f C : Addr} {fd : FuncData} (F : Fun K "law" "law" sLaw f fd) (B : Bd mg) (M : PMk' P w K mg base C) (CON : Md P w K mg base 2 C "__contains__" (spCon K C)) (SZ : Mt P w K mg base 1 C "size" ["self"] (spSize C)) (RK : Mt P w K mg base 2 C "rank" ["self", "x"] (spRank C))
    (LE : Mt P w K mg base 1 C "least" ["self"] (spLeast C leastV)) (GR : Mt P w K mg base 1 C "greatest" ["self"] (spLeast C greatV)) (N : Cl P w K mg base 1 "_law_pen" ["_law_script"] (spPen K)) (D : Cl P w K mg base 1 "_law_draw" ["_law_pen_here", "_law_many"] spDraw)
    (DR : Cl P w K mg base 3 "_law_drawn" ["_law_pen_here", "_law_most"] spDrawn) (MG : Cl P w K mg base 1 "_law_merged" ["_law_rows"] (spMerged K)) (HA : Cl P w K mg base 1 "_law_has" ["_law_rows", "_law_x"] (spHas K)) (NE : Cl P w K mg base 1 "_law_near" ["_law_rows"] (spNear K))
    (WH : Cl P w K mg base 3 "_law_whole" ["_law_pen_here"] spWhole) (OD : Cl P w K mg base 3 "_law_odd" ["_law_pen_here"] (spOdd K)) (LR : Cl P w K mg base 1 "_law_rank" ["_law_rows", "_law_x"] (spLRank K)) (ME : Cl P w K mg base 1 "_law_member" ["_law_rows", "_law_k"] (spMember K))
    (TO : Cl P w K mg base 5 "_law_told" ["_law_places", "_law_k"] (spTold C)) : FnOk P w K mg base CX0 6 f fd ["_law_script"] (spLaw K) := by
  have T := M.T
  refine F.ok scLaw (fun vs H Q E h => ?_) (fun cdv A outer s H vs Q E hr h => ?_)
  · obtain ⟨a, ns, rfl, _⟩ := h
    rfl
  · obtain ⟨sc, ns, rfl, hS, hlen, q⟩ := h
    have nd := scLaw.nd
    have hu64 : (A.deeper (envOfC "law" (defScope sLaw) s.heap.objs.size f cdv)).units + 64 < cLine := hr.units
    have hpow : CPow 10 30 := ⟨by decide, by decide, by decide⟩
    have hr2 : Room 2 _ := hr.mono (by decide)
    refine ⟨_, pss_cons (ps_set (i := 1) nd rfl (.inl rfl) (pe_cl N hr (by decide) (by rfl) (pa_cons (pv 0) pa_nil)))
      (pss_cons (ps_for PassesOwn.never rfl (pi_range1 (by rfl) B.range (pa_cons (pe_op op_add pe_int (pe_callB (call_min2 rfl) (by rfl) B.min bt_min (pa_cons pe_int (pa_cons (pe_callB call_len_seq (by rfl) B.len PySem.boot_len (pa_cons (pv 0) pa_nil)) pa_nil)))) pa_nil)) (pg_name (i := 2) nd rfl (.inl rfl))
        (pss_cons (ps_set (i := 3) nd rfl (.inl rfl) (pe_cl MG hr (by decide) (by rfl) (pa_cons (pe_cl DR hr (by decide) (by rfl) (pa_cons (pv 1) (pa_cons pe_int pa_nil))) pa_nil)))
        (pss_cons (ps_par (i := 4) (j := 5) rfl nd rfl rfl (by decide) rfl rfl (pa_cons (pe_mkP K rfl M hr (by decide) (by rfl) (pa_cons (pv 3) pa_nil)) (pa_cons (pe_cl LR hr (by decide) (by rfl) (pa_cons (pv 3) (pa_cons (pe_op op_add (pe_op op_pow pe_int pe_int) pe_int) pa_nil))) pa_nil)) rfl)
        (Evl.pss_cut (ps_set (i := 6) nd rfl (.inl rfl) (pe_ifExp (pt_cmpR (op_neD hu64) (pv 3) (pe_lst pa_nil) (nomark _))
            (pe_lst (pa_cons (pe_ix ix_tup (pe_ix ix_list (pv 3) pe_int (fun _ _ => rfl)) pe_int (fun _ _ => rfl)) (pa_cons (pe_ix ix_tup (pe_ix ix_list (pv 3) (pe_un un_neg pe_int) (fun _ _ => rfl)) pe_int (fun _ _ => rfl)) pa_nil)))
            (pe_lst (pa_cons pe_non (pa_cons pe_non pa_nil)))))
        (pss_cons (ps_if (PW.pt (pw_or (pt_cmpR op_ne (pe_mt0 SZ T.cl hr (by decide) (pv 4)) (pv 5) (nomark _)) (pw_or1 (pt_cmpR (op_neD hu64) (pe_lst (pa_cons (pe_mt0 LE T.cl hr (by decide) (pv 4)) (pa_cons (pe_mt0 GR T.cl hr (by decide) (pv 4)) pa_nil))) (pv 6) (nomark _))))) (pss_one (ps_ret pe_bl)) pss_nil)
        (pss_cons (ps_for PassesOwn.never rfl (pi_list (pe_op op_cat (pe_cl NE hr (by decide) (by rfl) (pa_cons (pv 3) pa_nil)) (pe_lst (pa_cons (pe_un un_neg pe_int) (pa_cons (pe_op op_add (pe_op op_pow pe_int pe_int) pe_int) (pa_cons (pe_cl WH hr (by decide) (by rfl) (pa_cons (pv 1) pa_nil)) pa_nil)))))) (pg_name (i := 7) nd rfl (.inl rfl))
          (pss_one (ps_if (PW.pt (pw_or (pt_cmpR op_ne (pe_cmpR (op_inO CON hr2) (pv 7) (pv 4) (by with_unfolding_all rfl)) (pe_cl HA hr (by decide) (by rfl) (pa_cons (pv 3) (pa_cons (pv 7) pa_nil))) (nomark _))
              (pw_or1 (pt_cmpR op_ne (pe_mt RK T.cl hr (by decide) (pv 4) (pa_cons (pv 7) pa_nil)) (pe_cl LR hr (by decide) (by rfl) (pa_cons (pv 3) (pa_cons (pv 7) pa_nil))) (nomark _))))) (pss_one (ps_ret pe_bl)) pss_nil)))
        (pss_cons (ps_for PassesOwn.never rfl (pi_list (pe_lst (pa_cons pe_int (pa_cons (pe_op op_sub (pv 5) pe_int) (pa_cons (pv 5) (pa_cons (pe_un un_neg pe_int) (pa_cons (pe_un un_neg (pv 5)) (pa_cons (pe_cl D hr (by decide) (by rfl) (pa_cons (pv 1) (pa_cons (pe_op op_add (pv 5) pe_int) pa_nil)))
              (pa_cons (pe_op op_add (pv 5) (pe_cl D hr (by decide) (by rfl) (pa_cons (pv 1) (pa_cons pe_int pa_nil)))) (pa_cons (pe_op op_fdivW (pv 5) pe_int) pa_nil)))))))))) (pg_name (i := 8) nd rfl (.inl rfl))
          (Evl.pss_cut (ps_set (i := 9) nd rfl (.inl rfl) (pe_ifExp (pt_cmpR op_lt (pv 8) pe_int (nomark _)) pe_non (pe_cl ME hr (by decide) (by rfl) (pa_cons (pv 3) (pa_cons (pv 8) pa_nil)))))
          (pss_cons (ps_if (pt_cmpR (op_neD hu64) (pe_cl TO hr (by decide) (by rfl) (pa_cons (pv 4) (pa_cons (pv 8) pa_nil))) (pe_ifExp (pt_cmpR op_isN (pv 9) pe_non (nomark _)) (pe_tup (pa_cons pe_str (pa_cons (pv 8) pa_nil))) (pv 9)) (nomark _)) (pss_one (ps_ret pe_bl)) pss_nil)
          (pss_one (ps_if (PW.pt (pw_and (pt_cmpR op_notN (pv 9) pe_non (nomark _)) (pw_and1 (PW.pt (pw_or (pt_cmpR op_ne (pe_mt RK T.cl hr (by decide) (pv 4) (pa_cons (pv 9) pa_nil)) (pv 8) (nomark _))
              (pw_or1 (pt_cmpR (op_neD hu64) (pe_cl TO hr (by decide) (by rfl) (pa_cons (pv 4) (pa_cons (pv 8) pa_nil))) (pv 9) (nomark _)))))))) (pss_one (ps_ret pe_bl)) pss_nil)))))
        (pss_one (ps_if (pt_cmpR (op_inO CON hr2) (pe_cl OD hr (by decide) (by rfl) (pa_cons (pv 1) pa_nil)) (pv 4) (by with_unfolding_all rfl)) (pss_one (ps_ret pe_bl)) pss_nil)))))))))
      (pss_one (ps_ret (pe_and (pe_not (pe_cmpR (op_inO CON hr2) pe_bl (pe_mkP K rfl M hr (by decide) (by rfl) (pa_cons (pe_lst (pa_cons (pe_tup (pa_cons pe_int (pa_cons pe_int pa_nil))) pa_nil)) pa_nil)) (by with_unfolding_all rfl)))
        (pe_and (pe_cmpR (op_inO CON hr2) pe_int (pe_mkP K rfl M hr (by decide) (by rfl) (pa_cons (pe_lst (pa_cons (pe_tup (pa_cons pe_int (pa_cons pe_int pa_nil))) pa_nil)) pa_nil)) (by with_unfolding_all rfl))
          (pe_one (pe_not (pe_cmpR (op_inO CON hr2) (pe_tup (pa_cons pe_int (pa_cons pe_int pa_nil))) (pe_mkP K rfl M hr (by decide) (by rfl) (pa_cons (pe_lst (pa_cons (pe_tup (pa_cons pe_int (pa_cons pe_int pa_nil))) pa_nil)) pa_nil)) (by with_unfolding_all rfl))))))))), ?_⟩
    have kZ : ∀ t f b : Addr, (pFl t f b).lookup ("size" : Str) = none := fun _ _ _ => pFl_no _ _ _ (by decide +kernel) (by decide +kernel) (by decide +kernel)
    have kL : ∀ t f b : Addr, (pFl t f b).lookup ("least" : Str) = none := fun _ _ _ => pFl_no _ _ _ (by decide +kernel) (by decide +kernel) (by decide +kernel)
    have kG : ∀ t f b : Addr, (pFl t f b).lookup ("greatest" : Str) = none := fun _ _ _ => pFl_no _ _ _ (by decide +kernel) (by decide +kernel) (by decide +kernel)
    have kR : ∀ t f b : Addr, (pFl t f b).lookup ("rank" : Str) = none := fun _ _ _ => pFl_no _ _ _ (by decide +kernel) (by decide +kernel) (by decide +kernel)
    have e30 : (10 : Int) ^ (30 : Int).toNat = lastP := by decide
    have two : 2 ≤ sizeLine := by decide
    have one : 1 ≤ sizeLine := by decide
    refine ⟨_, rfl, sc, ns, rfl, hS, hlen, fun p H1 np P0 S0 => ?_⟩
    generalize hJ : (2 : Int) + (if ((ns.map V.int).length : Int) < 3 then ((ns.map V.int).length : Int) else 3) = J
    have hJb : 0 ≤ J ∧ J ≤ 5 := by
      subst hJ
      split <;> omega
    refine ⟨_, rfl, sc, _, rfl, .inl (S0.seq hS), 3, _, rfl, _, _, rfl, rfl, J, congrArg (fun z => [V.int z]) hJ, by omega, by omega, for_range (n := J.toNat) (fun i σ H2 => ∃ s2 s3 s4 s5 s6 s7 s8 s9, σ = [some (.ref sc), some (.ref p), s2, s3, s4, s5, s6, s7, s8, s9] ∧ Pen H2 p (10000 * i))
      ⟨none, none, none, none, none, none, none, none, rfl, P0⟩ ?_ ?_⟩
    · rintro i σ H2 hi ⟨s2, s3, s4, s5, s6, s7, s8, s9, rfl, P1⟩
      have hi5 : i < 5 := by omega
      refine ⟨_, rfl, p, 6, 10000 * i, rfl, by decide, P1, by omega, fun a0 L0 H3 na0 ha0 hL0 okL0 lenL0 P2 F2 => ?_⟩
      refine ⟨a0, L0, rfl, .inl (.inl ha0), hL0, okL0, by omega, fun a L H4 S4 no ha hL nfL meL lenL lenL2 => ?_⟩
      have okL := ok_of_mem nfL meL okL0
      have P4 := P2.same' S4
      have lL : L.length ≤ 6 := by omega
      clear P2 F2 ha0 hL0 S4 no meL okL0 lenL0 lenL2 P1
      refine ⟨_, rfl, a, L, rfl, .inl (.inl (.inl ha)), by omega, hL.pairs, okL, fun x l1 H5 nx hx0 mx0 _ S5 => ?_⟩
      obtain rfl : l1 = rws L := Nf.unique hx0.nf nfL mx0
      refine ⟨_, rfl, _, _, rfl, rfl, hpow, _, _, rfl, rfl, a, (10 : Int) ^ (30 : Int).toNat + 1, L, rfl, .inl (.inl (S5 _ _ ha)), hL.same S5, by omega, fun H6 S6 => ⟨_, _, rfl, ?_⟩⟩
      rw [show rk (rws L) ((10 : Int) ^ (30 : Int).toNat + 1) = tot (rws L) by rw [e30]; exact rk_size okL]
      have S56 := S5.trans S6
      have ha6 := S56 _ _ ha
      have hL6 := hL.same S56
      have hx6 := hx0.same S6
      have P6 := P4.same' S56
      clear S5 S6 S56 ha hL P4 mx0 nx hx0
      have tb := tot_le nfL okL
      have tn := tot_nonneg nfL
      -- the ends
      refine ⟨fun σ' H' => ∃ en, σ' = [some (.ref sc), some (.ref p), some (.int (0 + i)), some (.ref a), some (.ref x), some (.int (tot (rws L))), some (.ref en), s7, s8, s9] ∧ H' en = some (.lst [leastV (rws L), greatV (rws L)]) ∧ Same H6 H', ?_, ?_⟩
      · refine ⟨_, rfl, Nat.zero_le _, fun e0 ne0 => ?_⟩
        have Se := same_lay (o := .lst []) ne0
        refine ⟨.list ((rws L).map rowD), .list [], .lst (.inl (.inl (Se _ _ ha6))) (dp_rows (hL6.same Se)), .lst (.inl (.inl upd_same)) .nil, shp_lst _, rfl, _, rfl, ?_⟩
        rw [eqL0]
        have ha7 := Se _ _ ha6
        have hL7 := hL6.same Se
        generalize upd H6 e0 (.lst []) = H7 at *
        cases L with
        | nil => exact iteF ⟨two, fun en nen => ⟨en, rfl, upd_same, Se.trans (same_lay nen)⟩⟩
        | cons z L' =>
          obtain ⟨L'', y, ey⟩ : ∃ L'' y, z :: L' = L'' ++ [y] := ⟨_, _, (List.dropLast_concat_getLast (by simp)).symm⟩
          have hz := hL7 z List.mem_cons_self
          have hy := hL7 y (by rw [ey]; exact List.mem_append_right _ (List.mem_singleton.mpr rfl))
          have al : atI (refs (z :: L')) (-1) = some (.ref y.1) := by rw [ey, refs_snoc]; exact atI_last _ _
          have gl : greatV (rws (z :: L')) = .int y.2.2 := by
            unfold greatV
            rw [ey, rws_snoc, List.getLast?_concat]
          refine iteT ⟨_, rfl, a, _, 0, .ref z.1, rfl, rfl, .inl (.inl ha7), atI_nat (j := 0) rfl, z.1, _, 0, .int z.2.1, rfl, rfl, .inl (.inl hz), atI_nat (j := 0) rfl, _, rfl, 1, rfl, a, _, -1, .ref y.1, rfl, rfl, .inl (.inl ha7), al, y.1, _, 1, .int y.2.2, rfl, rfl, .inl (.inl hy), atI_nat (j := 1) rfl, two, fun en nen => ⟨en, rfl, ?_, Se.trans (same_lay nen)⟩⟩
          rw [gl]
          exact upd_same
      rintro σ' H7 ⟨en, rfl, hen, S7⟩
      have ha7 := S7 _ _ ha6
      have hL7 := hL6.same S7
      have hx7 := hx6.same S7
      have P7 := P6.same' S7
      clear S7 ha6 hL6 hx6 P6
      obtain ⟨_, dx, t1, f1, b1, M1, e1, _⟩ := id hx7
      refine ⟨_, rfl, x, dx, _, rfl, e1, kZ _ _ _, x, rws L, rfl, hx7, _, rfl, rfl, _, rfl, ?_⟩
      rw [neI]
      refine iteF ?_
      refine ⟨_, rfl, x, dx, _, rfl, e1, kL _ _ _, x, rws L, rfl, hx7, _, rfl, x, dx, _, rfl, e1, kG _ _ _, x, rws L, rfl, hx7, two, fun u nu => ?_⟩
      obtain ⟨d1, d2, hd1, hd2, sh, eqd⟩ := ends_ok (K := K) (H := upd H7 u (.lst [leastV (rws L), greatV (rws L)])) (rws L)
      have Su := same_lay (o := .lst [leastV (rws L), greatV (rws L)]) nu
      refine ⟨_, rfl, .list [d1, d2], .list [d1, d2], .lst (.inl (.inl upd_same)) (.cons hd1 (.cons hd2 .nil)), .lst (.inl (.inl (Su _ _ hen))) (.cons hd1 (.cons hd2 .nil)), sh, sh, _, rfl, ?_⟩
      rw [eqd]
      refine iteF ?_
      have ha8 := Su _ _ ha7
      have hL8 := hL7.same Su
      have hx8 := hx7.same Su
      have P8 := P7.same' Su
      clear hd1 hd2 hen
      generalize upd H7 u (.lst [leastV (rws L), greatV (rws L)]) = H8 at *
      clear Su ha7 hL7 hx7 P7 e1 nu
      -- places and what is none
      refine ⟨_, rfl, a, L, rfl, ha8, hL8, by omega, fun o ms H9 ho9 lm9 S9 => ?_⟩
      refine ⟨1, rfl, _, _, rfl, rfl, hpow, _, _, rfl, rfl, _, rfl, p, _, rfl, P8.same' S9, by omega, fun r H10 _ _ P10 F10 => ⟨by show 3 ≤ sizeLine; decide, fun l2 nl2 => ?_⟩⟩
      have Sl := same_lay (o := .lst [.int (-1), .int ((10 : Int) ^ (30 : Int).toNat + 1), .int r]) nl2
      refine ⟨o, l2, _, _, rfl, rfl, Sl _ _ (F10.lst (P8.same' S9) ho9), upd_same, by show (ms.map V.int).length + 3 ≤ sizeLine; rw [List.length_map]; exact small_l (by omega), fun cl ncl => ?_⟩
      have Sc := Sl.trans (same_lay (o := .lst (ms.map V.int ++ [.int (-1), .int ((10 : Int) ^ (30 : Int).toNat + 1), .int r])) ncl)
      have hcl : (upd (upd H10 l2 (.lst [.int (-1), .int ((10 : Int) ^ (30 : Int).toNat + 1), .int r])) cl (.lst (ms.map V.int ++ [.int (-1), .int ((10 : Int) ^ (30 : Int).toNat + 1), .int r]))) cl = some (.lst (ms.map V.int ++ [.int (-1), .int ((10 : Int) ^ (30 : Int).toNat + 1), .int r])) := upd_same
      have hall : ∀ v ∈ ms.map V.int ++ [.int (-1), .int ((10 : Int) ^ (30 : Int).toNat + 1), .int r], ∃ k : Int, v = .int k := fun v hv => by
        rcases List.mem_append.mp hv with h | h
        · obtain ⟨k, _, rfl⟩ := List.mem_map.mp h
          exact ⟨k, rfl⟩
        · simp only [List.mem_cons, List.not_mem_nil, or_false] at h
          rcases h with rfl | rfl | rfl <;> exact ⟨_, rfl⟩
      have P9 := P8.same' S9
      have ha11 := Sc _ _ (F10.lst P9 (S9 _ _ ha8))
      have hL11 := ((hL8.same S9).frm F10 P9).same Sc
      have hx11 := ((hx8.same S9).frm F10 P9).same Sc
      have P11 := P10.same' Sc
      generalize upd (upd H10 l2 (.lst [.int (-1), .int ((10 : Int) ^ (30 : Int).toNat + 1), .int r])) cl (.lst (ms.map V.int ++ [.int (-1), .int ((10 : Int) ^ (30 : Int).toNat + 1), .int r])) = H11 at *
      generalize ms.map V.int ++ [.int (-1), .int ((10 : Int) ^ (30 : Int).toNat + 1), .int r] = xs at *
      clear Sc Sl ncl nl2 F10 P10 P9 S9 ho9 ha8 hL8 hx8 P8
      refine ⟨cl, rfl, ⟨_, .inl (.inl hcl)⟩, for_list (K := K) (a := cl) (xs := xs) (fun k σ H => ∃ s7, σ = [some (.ref sc), some (.ref p), some (.int (0 + i)), some (.ref a), some (.ref x), some (.int (tot (rws L))), some (.ref en), s7, s8, s9] ∧ H a = some (.lst (refs L)) ∧ AtR H L ∧ IsP C H x (rws L) ∧ Pen H p (10000 * i + 2000) ∧ H cl = some (.lst xs))
        ⟨s7, rfl, ha11, hL11, hx11, P11.mono (by omega), hcl⟩ (fun k σ H _ ⟨_, _, _, _, _, _, h⟩ => .inl (.inl h)) ?_ ?_⟩
      · rintro k y σ H12 hy ⟨s7, rfl, ha12, hL12, hx12, P12, hcl12⟩
        obtain ⟨n, rfl⟩ := hall y (List.mem_of_getElem? hy)
        obtain ⟨_, dx, t1, f1, b1, M1, e1, _⟩ := id hx12
        refine ⟨_, rfl, _, rfl, x, dx, _, rfl, e1, x, rws L, .int n, rfl, hx12, .inl ⟨n, rfl, _, rfl, _, rfl, _, rfl, a, n, L, rfl, .inl (.inl ha12), hL12, by omega, fun H13 S13 => ⟨rfl, _, rfl, ?_⟩⟩⟩
        rw [nobl]
        refine iteF ?_
        refine ⟨_, rfl, x, dx, _, rfl, S13 _ _ e1, kR _ _ _, _, rfl, x, n, rws L, rfl, hx12.same S13, _, rfl, _, rfl, a, n, L, rfl, .inl (.inl (S13 _ _ ha12)), hL12.same S13, by omega, fun H14 S14 => ⟨rfl, _, rfl, ?_⟩⟩
        rw [neI]
        refine iteF ?_
        have Se := S13.trans S14
        exact ⟨_, rfl, Se _ _ ha12, hL12.same Se, hx12.same Se, P12.same' Se, Se _ _ hcl12⟩
      rintro σ H12 ⟨s7, rfl, ha12, hL12, hx12, P12, _⟩
      clear hall hcl ha11 hL11 hx11 P11
      -- the members
      refine ⟨_, rfl, _, _, rfl, rfl, _, rfl, 1, rfl, _, rfl, _, rfl, _, rfl, _, rfl, _, _, rfl, rfl, p, _, _, rfl, ?_, ?_, P12, by omega, fun r1 H13 _ _ P13 F13 => ?_⟩
      · show (0 : Int) < tot (rws L) + 1
        omega
      · show (tot (rws L) + 1).natAbs < 2 ^ 200
        have : lastP = 10 ^ 30 := rfl
        exact Nat.lt_of_le_of_lt (show (tot (rws L) + 1).natAbs ≤ 10 ^ 30 + 2 by omega) (by decide)
      refine ⟨_, rfl, _, rfl, p, 9, _, rfl, by decide, by decide, P13, by omega, fun r2 H14 _ _ P14 F14 => ?_⟩
      refine ⟨_, _, rfl, rfl, _, rfl, _, _, rfl, rfl, div200 (by decide) (by decide) _, by show 8 ≤ sizeLine; decide, fun kl nkl => ?_⟩
      have Sk := same_lay (o := .lst [.int 0, .int (tot (rws L) - 1), .int (tot (rws L)), .int (-1), .int (-(tot (rws L))), .int r1, .int (tot (rws L) + r2), .int (tot (rws L) / 2)]) nkl
      have hkl : (upd H14 kl (.lst [.int 0, .int (tot (rws L) - 1), .int (tot (rws L)), .int (-1), .int (-(tot (rws L))), .int r1, .int (tot (rws L) + r2), .int (tot (rws L) / 2)])) kl = some (.lst [.int 0, .int (tot (rws L) - 1), .int (tot (rws L)), .int (-1), .int (-(tot (rws L))), .int r1, .int (tot (rws L) + r2), .int (tot (rws L) / 2)]) := upd_same
      have hall : ∀ v ∈ [V.int 0, .int (tot (rws L) - 1), .int (tot (rws L)), .int (-1), .int (-(tot (rws L))), .int r1, .int (tot (rws L) + r2), .int (tot (rws L) / 2)], ∃ k : Int, v = .int k := fun v hv => by
        simp only [List.mem_cons, List.not_mem_nil, or_false] at hv
        rcases hv with rfl | rfl | rfl | rfl | rfl | rfl | rfl | rfl <;> exact ⟨_, rfl⟩
      have FF := F13.trans F14
      have ha15 := Sk _ _ (FF.lst P12 ha12)
      have hL15 := (hL12.frm FF P12).same Sk
      have hx15 := (hx12.frm FF P12).same Sk
      have P15 := P14.same' Sk
      refine ⟨kl, rfl, ⟨_, .inl (.inl hkl)⟩, for_list (K := K) (a := kl) (xs := [V.int 0, .int (tot (rws L) - 1), .int (tot (rws L)), .int (-1), .int (-(tot (rws L))), .int r1, .int (tot (rws L) + r2), .int (tot (rws L) / 2)]) (fun k σ H => ∃ s8 s9, σ = [some (.ref sc), some (.ref p), some (.int (0 + i)), some (.ref a), some (.ref x), some (.int (tot (rws L))), some (.ref en), s7, s8, s9] ∧ H a = some (.lst (refs L)) ∧ AtR H L ∧ IsP C H x (rws L) ∧ Pen H p (10000 * i + 3000) ∧
          H kl = some (.lst [V.int 0, .int (tot (rws L) - 1), .int (tot (rws L)), .int (-1), .int (-(tot (rws L))), .int r1, .int (tot (rws L) + r2), .int (tot (rws L) / 2)]))
        ⟨s8, s9, rfl, ha15, hL15, hx15, P15.mono (by omega), hkl⟩ (fun k σ H _ ⟨_, _, _, _, _, _, _, h⟩ => .inl (.inl h)) ?_ ?_⟩
      · rintro j y σ H16 hy ⟨s8, s9, rfl, ha, hL, hx, P16, hkl16⟩
        obtain ⟨k, rfl⟩ := hall y (List.mem_of_getElem? hy)
        refine ⟨fun σ' H' => σ' = [some (.ref sc), some (.ref p), some (.int (0 + i)), some (.ref a), some (.ref x), some (.int (tot (rws L))), some (.ref en), s7, some (.int k), some (optV (if k < 0 then none else memK (rws L) k))] ∧ H' = H16, ?_, ?_⟩
        · refine ⟨_, rfl, _, _, rfl, rfl, _, rfl, ite2 (fun c => ?_) (fun c => ?_)⟩
          · rw [if_pos (of_decide_eq_true c : k < 0)]
            exact ⟨rfl, rfl⟩
          · rw [if_neg (fun h : k < 0 => c (decide_eq_true h))]
            exact ⟨_, rfl, _, rfl, a, k, L, rfl, .inl (.inl ha), hL, rfl, rfl⟩
        rintro σ' H' ⟨rfl, rfl⟩
        obtain ⟨_, dx, t1, f1, b1, M1, e1, _⟩ := id hx
        by_cases hk : 0 ≤ k ∧ k < tot (rws L)
        · obtain ⟨v, hv⟩ := memK_some hk.1 hk.2
          rw [if_neg (by omega), hv]
          have nn : decide (V.int v = V.non) = false := decide_eq_false fun e => nomatch e
          refine ⟨_, rfl, _, rfl, x, k, rws L, rfl, hx, fun _ _ v' hv' => ?_, fun n => absurd hk n⟩
          obtain rfl : v' = v := Option.some.inj (hv'.symm.trans hv)
          refine ⟨_, rfl, rfl, _, rfl, ?_⟩
          rw [show decide (optV (some v') = V.non) = false from nn]
          refine iteF ⟨_, rfl, .int v', .int v', .int v', .int v', rfl, rfl, _, rfl, ?_⟩
          rw [eqI]
          refine iteF ?_
          refine ⟨_, rfl, rfl, _, rfl, ?_⟩
          rw [show (!decide (optV (some v') = V.non)) = true by rw [show decide (optV (some v') = V.non) = false from nn]; rfl]
          refine iteT ?_
          refine ⟨_, rfl, x, dx, _, rfl, e1, kR _ _ _, _, rfl, x, v', rws L, rfl, hx, _, rfl, rfl, _, rfl, ?_⟩
          rw [rank_member nfL hv, neI]
          refine iteF ?_
          refine ⟨_, rfl, _, rfl, x, k, rws L, rfl, hx, fun _ _ v2 hv2 => ?_, fun n => absurd hk n⟩
          obtain rfl : v2 = v' := Option.some.inj (hv2.symm.trans hv)
          refine ⟨_, rfl, .int v2, .int v2, .int v2, .int v2, rfl, rfl, _, rfl, ?_⟩
          rw [eqI]
          exact iteF ⟨_, _, rfl, ha, hL, hx, P16, hkl16⟩
        · have en0 : (if k < 0 then none else memK (rws L) k) = none := by
            by_cases c : k < 0
            · rw [if_pos c]
            · rw [if_neg c]
              exact memK_over nfL (by omega)
          rw [en0]
          refine ⟨_, rfl, _, rfl, x, k, rws L, rfl, hx, fun h0 h1 => absurd ⟨h0, h1⟩ hk, fun _ t H17 ht S17 => ?_⟩
          refine ⟨_, rfl, rfl, _, rfl, ?_⟩
          rw [show decide (optV none = V.non) = true from decide_eq_true rfl]
          refine iteT ⟨_, rfl, two, fun u nu => ?_⟩
          have Su := same_lay (o := .tup [.str "none", .int k]) nu
          refine ⟨.tuple [.str "none", .int k], .tuple [.str "none", .int k], .tup (.inl (.inl (Su _ _ ht))) (.cons (.str _) (.cons (.int _) .nil)), .tup (.inl (.inl upd_same)) (.cons (.str _) (.cons (.int _) .nil)), shTold k, shTold k, _, rfl, ?_⟩
          rw [eqTold]
          refine iteF ?_
          refine ⟨_, rfl, rfl, _, rfl, ?_⟩
          rw [show (!decide (optV none = V.non)) = false from congrArg (fun b => !b) (decide_eq_true (rfl : optV none = V.non))]
          have Se := S17.trans Su
          exact iteF (iteF ⟨_, _, rfl, Se _ _ ha, hL.same Se, hx.same Se, P16.same' Se, Se _ _ hkl16⟩)
      rintro σ H16 ⟨s8, s9, rfl, ha, hL, hx, P16, _⟩
      -- no integer
      refine ⟨_, rfl, p, _, rfl, P16, by omega, fun v H17 hv P17 F17 => ?_⟩
      have hx17 := hx.frm F17 P16
      obtain ⟨_, dx, t1, f1, b1, M1, e1, _⟩ := id hx17
      obtain ⟨ty, k1, k2, hT, c1, c2, c3⟩ : ∃ (T : String) (b1 b2 : Bool), TyX K H17 v (.type T) ∧ kitB T "int" = some b1 ∧ kitB T "bool" = some b2 ∧ (b1 && !b2) = false := by
        rcases hv with ⟨fs, h1, h2⟩ | ⟨fs, h1, h2⟩ <;> exact h2 H17 fun q hq => (h1 q hq).2
      exact ⟨_, rfl, x, dx, _, rfl, e1, x, rws L, v, rfl, hx17, .inr ⟨ty, k1, k2, hT, c1, c2, c3, _, rfl, _, rfl, iteF ⟨_, _, _, _, _, _, _, _, rfl, P17.mono (by omega)⟩⟩⟩
    · rintro σ H2 ⟨s2, s3, s4, s5, s6, s7, s8, s9, rfl, P1⟩
      have ok9 : ∀ t : Addr, ∀ r ∈ rws [(t, ((0 : Int), (9 : Int)))], okRow r = true := fun t r hr => by
        rw [show rws [(t, ((0 : Int), (9 : Int)))] = [((0 : Int), 9)] from rfl, List.mem_singleton] at hr
        rw [hr]
        decide
      refine ⟨two, fun ta na => ⟨one, fun la nla => ⟨la, [(ta, (0, 9))], rfl, .inl (.inl (.inl upd_same)), by show 1 ≤ 1000; decide, fun z hz => ?_, ok9 ta, fun x l H3 _ hx _ _ _ => ?_⟩⟩⟩
      · rw [List.mem_singleton.mp hz]
        exact .inl (same_lay nla _ _ upd_same)
      obtain ⟨_, dx, t1, f1, b1, M1, e1, _⟩ := id hx
      refine ⟨x, dx, _, rfl, e1, x, l, .bl true, rfl, hx, .inr ⟨"bool", true, true, .base (.bl true), by decide +kernel, by decide +kernel, rfl, _, rfl, _, rfl, _, rfl, iteT ?_⟩⟩
      refine ⟨two, fun tb nb => ⟨one, fun lb nlb => ⟨lb, [(tb, (0, 9))], rfl, .inl (.inl (.inl upd_same)), by show 1 ≤ 1000; decide, fun z hz => ?_, ok9 tb, fun x2 l2 H4 _ hx2 hm2 _ _ => ?_⟩⟩⟩
      · rw [List.mem_singleton.mp hz]
        exact .inl (same_lay nlb _ _ upd_same)
      obtain ⟨_, dx2, t2, f2, b2, M2, e2, _⟩ := id hx2
      have h1 : hasB l2 1 = true := (hasB_iff _ _).mpr ((hm2 1).mpr ⟨((0 : Int), 9), List.mem_singleton.mpr rfl, by decide, by decide⟩)
      refine ⟨x2, dx2, _, rfl, e2, x2, l2, .int 1, rfl, hx2, .inl ⟨1, rfl, _, rfl, _, rfl, ?_⟩⟩
      rw [h1]
      refine iteT ?_
      refine ⟨two, fun tq nq => ⟨two, fun tc nc => ⟨one, fun lc nlc => ⟨lc, [(tc, (0, 9))], rfl, .inl (.inl (.inl upd_same)), by show 1 ≤ 1000; decide, fun z hz => ?_, ok9 tc, fun x3 l3 H5 _ hx3 _ _ S5 => ?_⟩⟩⟩⟩
      · rw [List.mem_singleton.mp hz]
        exact .inl (same_lay nlc _ _ upd_same)
      obtain ⟨_, dx3, t3, f3, b3, M3, e3, _⟩ := id hx3
      have htq := S5 _ _ (same_lay nlc _ _ (same_lay nc _ _ upd_same))
      exact ⟨x3, dx3, _, rfl, e3, x3, l3, .ref tq, rfl, hx3, .inr ⟨"tuple", false, false, .base (.tup htq), by decide +kernel, by decide +kernel, rfl, _, rfl, _, rfl, q _⟩⟩
end
end OR

namespace OR
open PySem PySem.Spec PyProof.Rows L2
/-! ### what the top has left -/
/-- an __init__ whose last parameter may be left out: then it is the empty tuple at t0 -/
structure MtD (K : PySem.W.Frag) (C : Addr) (m qual : Str) (st : Stmt) : Prop where
  ex : ∃ f fd t0, FunD K m qual (defArgs st) (defBody st) (defScope st) [.ref t0] [] f fd ∧ PySem.W.findIn K (.ref C) m = some (some (.ref f)) ∧ PySem.W.isFn K (.ref f) = true ∧ ∀ H : Hp, SqT K H t0 []
theorem mtD {K : PySem.W.Frag} {h : Heap} {C : Addr} {m qual : Str} {st : Stmt} {f T t0 : Addr} {oc cT : Value} {od an dT d0 : Option Addr} {osl sT s0 : Array (Option Value)} {kV doc pm cdv ct : Value} {nT n0 : Nat} (_X : K.In h)
    (a : PySem.W.findIn K (.ref C) m = some (some (.ref f))) (l : K.lookup f = some ⟨oc, od, .func (PySem.W.fnOf m qual (defArgs st) (defBody st) (defScope st) (.ref T) kV doc pm an cdv ct), osl⟩)
    (lT : K.lookup T = some ⟨cT, dT, .seq #[.ref t0] nT, sT⟩) (l0 : K.lookup t0 = some ⟨.type "tuple", d0, .seq #[] n0, s0⟩)
    (c : PySem.W.codeIn K cdv qual = true) (k : PySem.W.keepIn K (.ref f) = true) (i : PySem.W.isFn K (.ref f) = true) : MtD K C m qual st :=
  ⟨f, _, t0, ⟨⟨oc, od, .ref T, kV, doc, pm, an, cdv, ct, osl, rfl, l, c, .inr ⟨by simp, T, _, [.ref t0], nT, rfl, lT, rfl, .cons rfl .nil⟩, .inl rfl⟩, k⟩, a, i, fun H => .inr ⟨_, #[], n0, l0, rfl, rfl, Nat.zero_le _, .nil⟩⟩
structure PAt (K : PySem.W.Frag) (C : Addr) : Prop where
  aC : PySem.W.nsIn K mainGlobals "Places" = some (some (.ref C))
  pg : PySem.W.plainGet K C Str.empty = true
  hd : PySem.W.hasDictIn K C = true
  po : PySem.W.plainOver K C = true
  sa : PySem.W.findIn K (.ref C) "__setattr__" = some (some (.builtin "object.__setattr__"))
  mks : PySem.W.makesIn K C = true
  kc : PySem.W.keepIn K (.ref C) = true
  nS : PySem.W.findIn K (.ref C) "stretches" = some none
  nF : PySem.W.findIn K (.ref C) "_firsts" = some none
  nB : PySem.W.findIn K (.ref C) "_before" = some none
  ca : PySem.W.findIn K (.ref C) "__class__" = some (some (.builtin "object.__class__"))
  cn : PySem.W.specialIn K (.builtin "object.__class__") "__get__" = some (some (.builtin "getset_descriptor.__get__"))
  ct : PySem.W.takesIn K (.builtin "object.__class__") = some true
  cm : PySem.W.mroIn K C (.type "object") = some true
  ne : PySem.W.findIn K (.ref C) "__ne__" = some (some (.builtin "object.__ne__"))
  sT : PySem.W.subIn K (.type "tuple") (.ref C) = some false
  sL : PySem.W.subIn K (.type "list") (.ref C) = some false
  kPP : PySem.W.kitOne K (.ref C) (.ref C) = some true
  kT : PySem.W.kitOne K (.type "tuple") (.ref C) = some false
  kL : PySem.W.kitOne K (.type "list") (.ref C) = some false
  sf : PySem.W.selfFirst K C = true
structure ZAt (K : PySem.W.Frag) : Prop where
  isi : PySem.W.nsIn K mainGlobals "isinstance" = some none
  int : PySem.W.nsIn K mainGlobals "int" = some none
  bool : PySem.W.nsIn K mainGlobals "bool" = some none
  tup : PySem.W.nsIn K mainGlobals "tuple" = some none
  list : PySem.W.nsIn K mainGlobals "list" = some none
  len : PySem.W.nsIn K mainGlobals "len" = some none
  max : PySem.W.nsIn K mainGlobals "max" = some none
  min : PySem.W.nsIn K mainGlobals "min" = some none
  sorted : PySem.W.nsIn K mainGlobals "sorted" = some none
  enum : PySem.W.nsIn K mainGlobals "enumerate" = some none
  range : PySem.W.nsIn K mainGlobals "range" = some none
  set : PySem.W.nsIn K mainGlobals "set" = some none
  abs : PySem.W.nsIn K mainGlobals "abs" = some none
theorem lastP_lit : lastP = 1000000000000000000000000000000 := by decide
theorem lp_of {p : Program} {lv : List (Str × PySem.W.WData)} {mg : Str → Option Value} {h : Heap} (X : PySem.W.XL p lv mg h) (hm : (("LAST_PLACE" : Str), PySem.W.WData.int 1000000000000000000000000000000) ∈ lv) : ∃ t, mg "LAST_PLACE" = some (.int lastP t) := by
  obtain ⟨v, hv, hr⟩ := X.2.val _ hm
  cases hr with
  | int i t => exact ⟨t, by rw [lastP_lit]; exact hv⟩
/-- walk_of, told besides what the top's loose names read -/
theorem walk_ofX {l : PySem.W.OpenLaw} {n k : Nat} {q : Program} {loose : List Str} {XP : (Str → Option Value) → Heap → Prop} {YP : World → Heap → Prop} {d : DefRec} {K : Params → PySem.W.Frag} {CX : World → CXT} {sp : World → Sp} {x : Str}
    (hn : l.most = some n) (hn2 : n ≤ sizeLine) (hdf : d.params.defaults = []) (hr : Room k callerA) (hY : ∀ (w : World) (h : Heap), YP w h → (K w.params).In h)
    (F : ∀ (w : World) (mg : Str → Option Value) (fa : Addr) (h : Heap), (K w.params).In h → h.Ns mainGlobals mg → XP mg h → mg d.name = some (.ref fa) →
      ∃ fd : FuncData, (∀ (s : Shared) (u : Value), BindsTo s fd ⟨[u], []⟩ [(x, u)]) ∧ ∀ base : Heap, (K w.params).In base → base.Ns mainGlobals mg → FnOk l.prog w (K w.params) mg base (CX w) k fa fd [x] (sp w))
    (hsp : ∀ (w : World) (H : Hp) (a : Addr) (ns : List Int), ns.length ≤ n → Only H → SqL (K w.params) H a (ns.map V.int) → sp w [.ref a] H (fun v _ => v = .bl true) fun _ _ _ => False)
    (hCX : ∀ (w : World) (H : Hp) (s : Shared) (e : Value) (s' : Shared), CX w [] H s (fun _ _ _ => False) e s' → False) : PySem.W.WalkO q loose XP YP l.row.toRowW d [] (fun f vs => PySem.call f vs) := by
  refine Att.attach_call hn hdf fun w s₀ s₁ mg mb fa o pm cd doc a vs ns G Y ho hd hcd hmg hobj hints hlen hg => ?_
  have KX := hY w _ Y
  obtain ⟨fd, hb, hF⟩ := F w mg fa _ KX G.T.g G.X hmg
  exact law_call KX G.T.g G.T.b G.T.builtins G.T.nolimit hg hobj hints (Nat.le_trans hlen hn2) hr hF hb (fun H hO hS => hsp w H a ns hlen hO hS) fun H e s' => hCX w H s₁ e s'
theorem PAt.txt {K : PySem.W.Frag} {C : Addr} {h : Heap} {mg : Str → Option Value} (L : PAt K C) (X : K.In h) (G : h.Ns mainGlobals mg) (Z : ZAt K) (lp : ∃ t, mg "LAST_PLACE" = some (.int lastP t)) : PTxt K mg C :=
  ⟨⟨L.pg, L.hd, L.po, L.sa⟩, L.nS, L.nF, L.nB, PySem.W.mg_of X G L.aC, ⟨L.ca, L.cn, L.ct, L.cm⟩, L.kPP, PySem.W.mg_none_of X G Z.isi, PySem.W.mg_none_of X G Z.int, PySem.W.mg_none_of X G Z.bool, PySem.W.mg_none_of X G Z.tup, PySem.W.mg_none_of X G Z.list,
    PySem.W.mg_none_of X G Z.len, PySem.W.mg_none_of X G Z.max, PySem.W.mg_none_of X G Z.sorted, PySem.W.mg_none_of X G Z.enum, lp⟩
theorem pmk_of {P : Program} {w : World} {K : PySem.W.Frag} {mg : Str → Option Value} {base : Heap} {C : Addr} (T : PTxt K mg C) (L : PAt K C) (mI : MtD K C "__init__" "Places.__init__" sPlInit)
    (S : Cl P w K mg base 3 "_is_stretch" ["value"] spIsStretchP) (J : Cl P w K mg base 1 "_joined" ["stretches"] (spJoined K)) (B : Cl P w K mg base 1 "_counts_before" ["stretches"] (spCounts K)) : PMk' P w K mg base C := by
  obtain ⟨f, fd, t0, F, a, i, ht⟩ := mI.ex
  obtain ⟨ds, r1, b1⟩ := F.binds1 (ps := ["self", "stretches"]) 2 1 (by simp) rfl fun T kV doc pm an cdv ct us its hu hi => match us, its, hu, hi with | [u, v], [x], _, _ => ⟨_, rfl, rfl⟩
  obtain ⟨es, r2, b2⟩ := F.binds1 (ps := ["self", "stretches"]) 1 0 (by simp) rfl fun T kV doc pm an cdv ct us its hu hi => match us, its, hu, hi with | [u], [x], _, _ => ⟨_, rfl, rfl⟩
  cases r1
  obtain ⟨u, rfl, ru⟩ := r2.one
  cases (show u = Value.ref t0 from ru)
  exact ⟨T, f, fd, t0, ⟨L.mks, a, i, L.kc⟩, ok_plinit F T S J B, b1, b2, ht⟩
/-- an own error with one field, behind the top -/
structure ErAt (K : PySem.W.Frag) (x q fl : Str) (st : Stmt) (CB CR : Addr) : Prop where
  aB : PySem.W.nsIn K mainGlobals x = some (some (.ref CB))
  aR : PySem.W.nsIn K mainGlobals "RangesError" = some (some (.ref CR))
  cls : ∃ nm q N bs bm sn sub ab col dd k0 k1 k2 k3 k5, K.lookup CB = some (excClassObj nm q CB N bs bm true sn sub ab col dd k0 k1 k2 k3 k5 "ValueError.__new__") ∧ PySem.HandSPX.refsVE bm = true
  sa : PySem.W.findIn K (.ref CB) "__setattr__" = some (some (.builtin "object.__setattr__"))
  ga : PySem.W.findIn K (.ref CB) "__getattribute__" = some (some (.builtin "BaseException.__getattribute__"))
  gg : PySem.W.findIn K (.ref CB) "__getattr__" = some none
  noF : PySem.W.findIn K (.ref CB) fl = some none
  kC : PySem.W.keepIn K (.ref CB) = true
  exC : PySem.W.subIn K (.ref CB) (.type "BaseException") = some true
  tyC : PySem.W.typeIn K (.ref CB) = some (.type "type")
  hdC : PySem.W.hasDictIn K CB = true
  ca : PySem.W.findIn K (.ref CB) "__class__" = some (some (.builtin "object.__class__"))
  cn : PySem.W.specialIn K (.builtin "object.__class__") "__get__" = some (some (.builtin "getset_descriptor.__get__"))
  ct : PySem.W.takesIn K (.builtin "object.__class__") = some true
  cm : PySem.W.mroIn K CB (.type "object") = some true
  sub : PySem.W.subIn K (.ref CB) (.ref CB) = some true
  kR : PySem.W.kitOne K (.ref CB) (.ref CR) = some true
  init : ∃ f fd, Fun K "__init__" q st f fd ∧ PySem.W.findIn K (.ref CB) "__init__" = some (some (.ref f)) ∧ PySem.W.typeIn K (.ref f) = some (.type "function")
theorem erCls {K : PySem.W.Frag} {h : Heap} {CB : Addr} {nm q : Str} {N : Addr} {bs bm : List Value} {sn : List Str} {sub : List Value} {ab : Bool} {col : Option Bool} {dd : Option Addr} {m0 m1 m2 m3 m5 : Option Value} (_X : K.In h)
    (l : K.lookup CB = some (excClassObj nm q CB N bs bm true sn sub ab col dd m0 m1 m2 m3 m5 "ValueError.__new__")) (b : PySem.HandSPX.refsVE bm = true) :
    ∃ nm q N bs bm sn sub ab col dd k0 k1 k2 k3 k5, K.lookup CB = some (excClassObj nm q CB N bs bm true sn sub ab col dd k0 k1 k2 k3 k5 "ValueError.__new__") ∧ PySem.HandSPX.refsVE bm = true := ⟨nm, q, N, bs, bm, sn, sub, ab, col, dd, m0, m1, m2, m3, m5, l, b⟩
theorem erInit {K : PySem.W.Frag} {h : Heap} {CB f : Addr} {q : Str} {st : Stmt} {oc : Value} {od an : Option Addr} {osl : Array (Option Value)} {kV doc pm cdv ct : Value} (_X : K.In h) (a : PySem.W.findIn K (.ref CB) "__init__" = some (some (.ref f)))
    (l : K.lookup f = some ⟨oc, od, .func (PySem.W.fnOf "__init__" q (defArgs st) (defBody st) (defScope st) .none kV doc pm an cdv ct), osl⟩) (c : PySem.W.codeIn K cdv q = true) (k : PySem.W.keepIn K (.ref f) = true) (t : PySem.W.typeIn K (.ref f) = some (.type "function")) :
    ∃ f fd, Fun K "__init__" q st f fd ∧ PySem.W.findIn K (.ref CB) "__init__" = some (some (.ref f)) ∧ PySem.W.typeIn K (.ref f) = some (.type "function") := ⟨f, _, fun_mk l c k, a, t⟩
theorem np_of {P : Program} {w : World} {K : PySem.W.Frag} {mg : Str → Option Value} {base h : Heap} {CN CR : Addr} (X : K.In h) (G : h.Ns mainGlobals mg) (e : ErAt K "NoPlace" "NoPlace.__init__" "place" sNpInit CN CR) :
    ∃ fI fdI, NpTxt K mg CN CR fI ∧ FnOk P w K mg base CX0 1 fI fdI ["self", "place"] (spNpI CN) ∧ Binds K fdI ["self", "place"] [] := by
  obtain ⟨f, fd, F, i, t⟩ := e.init
  have T : NpTxt K mg CN CR f := ⟨PySem.W.mg_of X G e.aB, PySem.W.mg_of X G e.aR, ⟨e.cls, e.sa, e.exC, e.tyC, e.kC⟩, ⟨e.ga, e.gg, e.exC, e.hdC⟩, ⟨e.ga, e.gg, e.exC, e.hdC, e.ca, e.cn, e.ct, e.cm⟩, e.noF, i, t, PySem.W.exm_ref e.exC e.hdC e.tyC e.sub, e.kR⟩
  exact ⟨f, fd, T, ok_npinit F T, F.binds fun _ _ _ _ _ _ us hl => match us, hl with | [_, _], _ => rfl⟩
end OR

namespace OR
open PySem PySem.Spec PyProof.Rows L2
theorem all_mk {l : PySem.W.OpenLaw} {w : World} {K : PySem.W.Frag} {h : Heap} {mg : Str → Option Value} {fa C CN CR : Addr} (X : K.In h) (G : h.Ns mainGlobals mg) (hfa : mg "law" = some (.ref fa)) (L : PAt K C) (Z : ZAt K) (lp : ∃ t, mg "LAST_PLACE" = some (.int lastP t))
    (mI : MtD K C "__init__" "Places.__init__" sPlInit) (eN : ErAt K "NoPlace" "NoPlace.__init__" "place" sNpInit CN CR) (zSum : PySem.W.nsIn K mainGlobals "sum" = some none) (mG : MtAt K C "__getitem__" "__getitem__" "Places.__getitem__" sPlGet) (fDI : FnAt K "is_integer" sIsInt) (fDP : FnAt K "is_place" sIsPlace) (fDS : FnAt K "_is_stretch" sIsStretch) (fDJ : FnAt K "_joined" sJoined) (fDC : FnAt K "_counts_before" sCounts) (fDHow : FnAt K "_how_many_upto" sHow) (mCON : MtAt K C "__contains__" "__contains__" "Places.__contains__" sPlCon) (mSZ : MtAt K C "size" "size" "Places.size" sPlSize) (mRK : MtAt K C "rank" "rank" "Places.rank" sPlRank) (mLE : MtAt K C "least" "least" "Places.least" sPlLeast) (mGR : MtAt K C "greatest" "greatest" "Places.greatest" sPlGreat) (fDPen : FnAt K "_law_pen" sPen) (fDDraw : FnAt K "_law_draw" sDraw) (fDPick : FnAt K "_law_pick" sPick) (fDSpot : FnAt K "_law_spot" sSpot) (fDDrawn : FnAt K "_law_drawn" sDrawn) (fDMerg : FnAt K "_law_merged" sMerged) (fDHas : FnAt K "_law_has" sHas) (fDNear : FnAt K "_law_near" sNear) (fDWhole : FnAt K "_law_whole" sWhole) (fDOdd : FnAt K "_law_odd" sOdd) (fDLR : FnAt K "_law_rank" sLRank) (fDMem : FnAt K "_law_member" sMember) (fDTold : FnAt K "_law_told" sTold) (fLaw : FnAt K "law" sLaw) :
    ∃ fd : FuncData, (∀ (s : Shared) (v : Value), BindsTo s fd ⟨[v], []⟩ [("_law_script", v)]) ∧ ∀ base : Heap, K.In base → base.Ns mainGlobals mg → FnOk l.prog w K mg base CX0 6 fa fd ["_law_script"] (spLaw K) := by
  obtain ⟨f, fd, F, e⟩ := fLaw.ex
  have e := hfa.symm.trans (PySem.W.mg_of X G e)
  cases e
  refine ⟨fd, fun s v => ?_, fun base _ _ => ?_⟩
  · obtain ⟨oc, od, kV, doc, pm, an, cdv, ct, osl, rfl, _⟩ := F.ex
    exact .of_eq rfl
  have T : PTxt K mg C := L.txt X G Z lp
  have none : ∀ {x : Str}, PySem.W.nsIn K mainGlobals x = some none → mg x = none := fun z => PySem.W.mg_none_of X G z
  have B1 : Bl mg := ⟨none Z.int, none Z.len, none Z.abs, none Z.list⟩
  have B : Bd mg := ⟨none Z.range, none Z.min, none Z.max, none Z.int, none Z.len, none Z.list, none Z.set, none Z.sorted⟩
  obtain ⟨fI, fdI, NT, FN, bN⟩ := np_of (P := l.prog) (w := w) (base := base) X G eN
  have DI : Cl l.prog w K mg base 1 "is_integer" ["value"] (spIsIntG K) := cl_of fDI X G (fun _ _ _ _ _ _ us hl => match us, hl with | [_], _ => rfl) fun f fd F => ok_isintG F T
  have DP : Cl l.prog w K mg base 2 "is_place" ["value"] (spIsPlace K) := cl_of fDP X G (fun _ _ _ _ _ _ us hl => match us, hl with | [_], _ => rfl) fun f fd F => ok_isplace F T DI
  have DS : Cl l.prog w K mg base 3 "_is_stretch" ["value"] spIsStretchP := cl_of fDS X G (fun _ _ _ _ _ _ us hl => match us, hl with | [_], _ => rfl) fun f fd F => ok_isstretch F T DP
  have DJ : Cl l.prog w K mg base 1 "_joined" ["stretches"] (spJoined K) := cl_of fDJ X G (fun _ _ _ _ _ _ us hl => match us, hl with | [_], _ => rfl) fun f fd F => ok_joined F T
  have DC : Cl l.prog w K mg base 1 "_counts_before" ["stretches"] (spCounts K) := cl_of fDC X G (fun _ _ _ _ _ _ us hl => match us, hl with | [_], _ => rfl) fun f fd F => ok_counts F T
  have M : PMk' l.prog w K mg base C := pmk_of T L mI DS DJ DC
  have DHow : Cl l.prog w K mg base 1 "_how_many_upto" ["numbers", "x"] (spHow K) := cl_of fDHow X G (fun _ _ _ _ _ _ us hl => match us, hl with | [_, _], _ => rfl) fun f fd F => ok_how F T
  have CON : Md l.prog w K mg base 2 C "__contains__" (spCon K C) := md_of mCON (ps := ["self", "x"]) (fun _ _ _ _ _ _ us hl => match us, hl with | [_, _], _ => rfl) fun f fd F => ok_con F T DI DHow
  have SZ : Mt l.prog w K mg base 1 C "size" ["self"] (spSize C) := mt_of mSZ (fun _ _ _ _ _ _ us hl => match us, hl with | [_], _ => rfl) fun f fd F => ok_size F T
  have RK : Mt l.prog w K mg base 2 C "rank" ["self", "x"] (spRank C) := mt_of mRK (fun _ _ _ _ _ _ us hl => match us, hl with | [_, _], _ => rfl) fun f fd F => ok_rank F T (none Z.min) DHow
  have LE : Mt l.prog w K mg base 1 C "least" ["self"] (spLeast C leastV) := mt_of mLE (fun _ _ _ _ _ _ us hl => match us, hl with | [_], _ => rfl) fun f fd F => ok_least F T
  have GR : Mt l.prog w K mg base 1 C "greatest" ["self"] (spLeast C greatV) := mt_of mGR (fun _ _ _ _ _ _ us hl => match us, hl with | [_], _ => rfl) fun f fd F => ok_great F T
  obtain ⟨gf, gfd, gF, ge, gi, gn⟩ := mG.ex
  have FG : FnR l.prog w K mg base (L2.CX l.prog w) 3 gf (spGet C CN) := fnR_ofX (ok_get gF T NT FN bN DI DHow SZ) (gF.binds fun _ _ _ _ _ _ us hl => match us, hl with|[_, _], _ => rfl)
  have DPen : Cl l.prog w K mg base 1 "_law_pen" ["_law_script"] (spPen K) := cl_of fDPen X G (fun _ _ _ _ _ _ us hl => match us, hl with | [_], _ => rfl) fun f fd F => ok_pen F B1
  have DDraw : Cl l.prog w K mg base 1 "_law_draw" ["_law_pen_here", "_law_many"] spDraw := cl_of fDDraw X G (fun _ _ _ _ _ _ us hl => match us, hl with | [_, _], _ => rfl) fun f fd F => ok_draw F B1
  have DPick : Cl l.prog w K mg base 2 "_law_pick" ["_law_pen_here", "_law_items"] (spPick K) := cl_of fDPick X G (fun _ _ _ _ _ _ us hl => match us, hl with | [_, _], _ => rfl) fun f fd F => ok_pick F B1 DDraw
  have DSpot : Cl l.prog w K mg base 2 "_law_spot" ["_law_pen_here"] spSpot := cl_of fDSpot X G (fun _ _ _ _ _ _ us hl => match us, hl with | [_], _ => rfl) fun f fd F => ok_spot F DDraw
  have DDrawn : Cl l.prog w K mg base 3 "_law_drawn" ["_law_pen_here", "_law_most"] spDrawn := cl_of fDDrawn X G (fun _ _ _ _ _ _ us hl => match us, hl with | [_, _], _ => rfl) fun f fd F => ok_drawn F B DDraw DPick DSpot
  have DMerg : Cl l.prog w K mg base 1 "_law_merged" ["_law_rows"] (spMerged K) := cl_of fDMerg X G (fun _ _ _ _ _ _ us hl => match us, hl with | [_], _ => rfl) fun f fd F => ok_merged F B
  have DHas : Cl l.prog w K mg base 1 "_law_has" ["_law_rows", "_law_x"] (spHas K) := cl_of fDHas X G (fun _ _ _ _ _ _ us hl => match us, hl with | [_, _], _ => rfl) fun f fd F => ok_has F
  have DNear : Cl l.prog w K mg base 1 "_law_near" ["_law_rows"] (spNear K) := cl_of fDNear X G (fun _ _ _ _ _ _ us hl => match us, hl with | [_], _ => rfl) fun f fd F => ok_near F B
  have DWhole : Cl l.prog w K mg base 3 "_law_whole" ["_law_pen_here"] spWhole := cl_of fDWhole X G (fun _ _ _ _ _ _ us hl => match us, hl with | [_], _ => rfl) fun f fd F => ok_whole F DDraw DPick
  have DOdd : Cl l.prog w K mg base 3 "_law_odd" ["_law_pen_here"] (spOdd K) := cl_of fDOdd X G (fun _ _ _ _ _ _ us hl => match us, hl with | [_], _ => rfl) fun f fd F => ok_odd F DPick
  have DLR : Cl l.prog w K mg base 1 "_law_rank" ["_law_rows", "_law_x"] (spLRank K) := cl_of fDLR X G (fun _ _ _ _ _ _ us hl => match us, hl with | [_, _], _ => rfl) fun f fd F => ok_lrank F B (none zSum)
  have DMem : Cl l.prog w K mg base 1 "_law_member" ["_law_rows", "_law_k"] (spMember K) := cl_of fDMem X G (fun _ _ _ _ _ _ us hl => match us, hl with | [_, _], _ => rfl) fun f fd F => ok_member F
  have DTold : Cl l.prog w K mg base 5 "_law_told" ["_law_places", "_law_k"] (spTold C) := cl_of fDTold X G (fun _ _ _ _ _ _ us hl => match us, hl with | [_, _], _ => rfl) fun f fd F => ok_told F T NT FG ge gi gn
  exact ok_law F B M CON SZ RK LE GR DPen DDraw DDrawn DMerg DHas DNear DWhole DOdd DLR DMem DTold
end OR
open PySem PySem.W PyProof.Rows
set_option maxRecDepth 100000 in
set_option maxHeartbeats 0 in
theorem PySem.Challenge.cw_openranges_k03_members_of_places_holds : PySem.Challenge.rw_openranges_k03_members_of_places.Holds := by
  w_on; o_law; k_head; (case hw => w_witness2)
  k_fill
  refine OR.walk_ofX (l := PySem.Challenge.rw_openranges_k03_members_of_places) (n := 63) (k := 6) (x := "_law_script") (CX := fun _ => L2.CX0) (sp := fun w => OR.spLaw _) rfl (by decide) rfl ⟨rfl, by decide, by decide⟩ (fun w h Y => PySem.W.kIn_of Y) ?F (fun _ _ a ns hl _ hS => ⟨a, ns, rfl, hS, hl, fun _ => rfl⟩) (fun _ _ _ _ _ h => h)
  case F =>
    intro w mg fa h KX G XL hmg
    refine' OR.all_mk KX G hmg ?L ?Z (OR.lp_of XL (List.Mem.head _)) ?mI ?eN ?zSum ?mG ?fDI ?fDP ?fDS ?fDJ ?fDC ?fDHow ?mCON ?mSZ ?mRK ?mLE ?mGR ?fDPen ?fDDraw ?fDPick ?fDSpot ?fDDrawn ?fDMerg ?fDHas ?fDNear ?fDWhole ?fDOdd ?fDLR ?fDMem ?fDTold ?fLaw
    all_goals try clear hmg XL
    case L =>
      refine' OR.PAt.mk ?aC ?pg ?hd ?po ?sa ?mks ?kc ?nS ?nF ?nB ?ca ?cn ?ct ?cm ?ne ?sT ?sL ?kPP ?kT ?kL ?sf
      (case aC => k_is); (case pg => k_is); (case hd => k_is); (case po => k_is); (case sa => k_is); (case mks => k_is); (case kc => k_is); (case nS => k_is); (case nF => k_is); (case nB => k_is); (case ca => k_is); (case cn => k_is); (case ct => k_is); (case cm => k_is); (case ne => k_is); (case sT => k_is); (case sL => k_is); (case kPP => kit_is); (case kT => kit_is); (case kL => kit_is); (case sf => k_is)
    case Z =>
      refine' OR.ZAt.mk ?isi ?int ?bool ?tup ?list ?len ?max ?min ?sorted ?enum ?range ?set ?abs
      (case isi => k_is); (case int => k_is); (case bool => k_is); (case tup => k_is); (case list => k_is); (case len => k_is); (case max => k_is); (case min => k_is); (case sorted => k_is); (case enum => k_is); (case range => k_is); (case set => k_is); (case abs => k_is)
    case mI => refine' OR.mtD KX ?a ?l ?lT ?l0 ?c ?k ?i; (case a => k_is); (case l => k_is); (case lT => k_is); (case l0 => k_is); (case c => k_is); (case k => k_is); (case i => k_is)
    case eN => refine' OR.ErAt.mk ?aB ?aR ?cls ?sa ?ga ?gg ?noF ?kC ?exC ?tyC ?hdC ?ca ?cn ?ct ?cm ?sub ?kR ?init; (case aB => k_is); (case aR => k_is); (case cls => refine' OR.erCls KX ?l ?b; (case l => k_is); (case b => decide +kernel)); (case sa => k_is); (case ga => k_is); (case gg => k_is); (case noF => k_is); (case kC => k_is); (case exC => k_is); (case tyC => k_is); (case hdC => k_is); (case ca => k_is); (case cn => k_is); (case ct => k_is); (case cm => k_is); (case sub => first | rfl | k_is); (case kR => kit_is); (case init => refine' OR.erInit KX ?a ?l ?c ?k ?t; (case a => k_is); (case l => k_is); (case c => k_is); (case k => k_is); (case t => k_is))
    case zSum => k_is
    case mG => refine' OR.mtAt KX ?a ?l ?c ?k ?i ?n; (case a => k_is); (case l => k_is); (case c => k_is); (case k => k_is); (case i => k_is); (case n => k_is)
    case fDI => refine' OR.fnAt KX ?a ?l ?c ?k; (case a => k_is); (case l => k_is); (case c => k_is); (case k => k_is)
    case fDP => refine' OR.fnAt KX ?a ?l ?c ?k; (case a => k_is); (case l => k_is); (case c => k_is); (case k => k_is)
    case fDS => refine' OR.fnAt KX ?a ?l ?c ?k; (case a => k_is); (case l => k_is); (case c => k_is); (case k => k_is)
    case fDJ => refine' OR.fnAt KX ?a ?l ?c ?k; (case a => k_is); (case l => k_is); (case c => k_is); (case k => k_is)
    case fDC => refine' OR.fnAt KX ?a ?l ?c ?k; (case a => k_is); (case l => k_is); (case c => k_is); (case k => k_is)
    case fDHow => refine' OR.fnAt KX ?a ?l ?c ?k; (case a => k_is); (case l => k_is); (case c => k_is); (case k => k_is)
    case mCON => refine' OR.mtAt KX ?a ?l ?c ?k ?i ?n; (case a => k_is); (case l => k_is); (case c => k_is); (case k => k_is); (case i => k_is); (case n => k_is)
    case mSZ => refine' OR.mtAt KX ?a ?l ?c ?k ?i ?n; (case a => k_is); (case l => k_is); (case c => k_is); (case k => k_is); (case i => k_is); (case n => k_is)
    case mRK => refine' OR.mtAt KX ?a ?l ?c ?k ?i ?n; (case a => k_is); (case l => k_is); (case c => k_is); (case k => k_is); (case i => k_is); (case n => k_is)
    case mLE => refine' OR.mtAt KX ?a ?l ?c ?k ?i ?n; (case a => k_is); (case l => k_is); (case c => k_is); (case k => k_is); (case i => k_is); (case n => k_is)
    case mGR => refine' OR.mtAt KX ?a ?l ?c ?k ?i ?n; (case a => k_is); (case l => k_is); (case c => k_is); (case k => k_is); (case i => k_is); (case n => k_is)
    case fDPen => refine' OR.fnAt KX ?a ?l ?c ?k; (case a => k_is); (case l => k_is); (case c => k_is); (case k => k_is)
    case fDDraw => refine' OR.fnAt KX ?a ?l ?c ?k; (case a => k_is); (case l => k_is); (case c => k_is); (case k => k_is)
    case fDPick => refine' OR.fnAt KX ?a ?l ?c ?k; (case a => k_is); (case l => k_is); (case c => k_is); (case k => k_is)
    case fDSpot => refine' OR.fnAt KX ?a ?l ?c ?k; (case a => k_is); (case l => k_is); (case c => k_is); (case k => k_is)
    case fDDrawn => refine' OR.fnAt KX ?a ?l ?c ?k; (case a => k_is); (case l => k_is); (case c => k_is); (case k => k_is)
    case fDMerg => refine' OR.fnAt KX ?a ?l ?c ?k; (case a => k_is); (case l => k_is); (case c => k_is); (case k => k_is)
    case fDHas => refine' OR.fnAt KX ?a ?l ?c ?k; (case a => k_is); (case l => k_is); (case c => k_is); (case k => k_is)
    case fDNear => refine' OR.fnAt KX ?a ?l ?c ?k; (case a => k_is); (case l => k_is); (case c => k_is); (case k => k_is)
    case fDWhole => refine' OR.fnAt KX ?a ?l ?c ?k; (case a => k_is); (case l => k_is); (case c => k_is); (case k => k_is)
    case fDOdd => refine' OR.fnAt KX ?a ?l ?c ?k; (case a => k_is); (case l => k_is); (case c => k_is); (case k => k_is)
    case fDLR => refine' OR.fnAt KX ?a ?l ?c ?k; (case a => k_is); (case l => k_is); (case c => k_is); (case k => k_is)
    case fDMem => refine' OR.fnAt KX ?a ?l ?c ?k; (case a => k_is); (case l => k_is); (case c => k_is); (case k => k_is)
    case fDTold => refine' OR.fnAt KX ?a ?l ?c ?k; (case a => k_is); (case l => k_is); (case c => k_is); (case k => k_is)
    case fLaw => refine' OR.fnAt KX ?a ?l ?c ?k; (case a => k_is); (case l => k_is); (case c => k_is); (case k => k_is)

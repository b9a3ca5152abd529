import PyProof.Rows.All
import Wide.All
import OpenK.AllK
import Wide.FinOn
import HandS.ForMost
import HandS.Wide
import HandS.IsInst
import HandS.TupAny
import HandS.Star
import HandS.Evl
import HandS.Text
import HandS.FStr
import HandS.StrMore
import HandS.Rev
import HandS.Small
import HandS.Flow
import KE.KOpsOwn
import HandS.SlotsOwn
import KE.RegKIsAll
import HandS.Style
import PySem.Challenge.RW_openranges_k07_lines_added_and_moved
set_option Elab.async false
set_option linter.all false
set_option maxRecDepth 100000
namespace OR
open PySem PySem.Spec PyProof.Rows L2
def top (i : Nat) : Stmt := PySem.Challenge.pw_openranges_k07_lines_added_and_moved.main.body.getD i (.Pass ⟨0, 0, 0, 0⟩)
abbrev sIsInt : Stmt := top 3
abbrev sDec : Stmt := top 4
abbrev sLInit : Stmt := inClass (top 6) 0
abbrev sLCall : Stmt := inClass (top 6) 1
abbrev sLEq : Stmt := inClass (top 6) 2
abbrev sLAdd : Stmt := inClass (top 6) 3
abbrev sLRadd : Stmt := inClass (top 6) 4
abbrev sLNeg : Stmt := inClass (top 6) 5
abbrev sLSub : Stmt := inClass (top 6) 6
abbrev sLRsub : Stmt := inClass (top 6) 7
abbrev sLMul : Stmt := inClass (top 6) 8
abbrev sLRmul : Stmt := inClass (top 6) 9
abbrev sLMoved : Stmt := inClass (top 6) 10
abbrev sLMirr : Stmt := inClass (top 6) 11
abbrev sLText : Stmt := inClass (top 6) 12
abbrev sRise : Stmt := top 7
abbrev sPen : Stmt := top 9
abbrev sDraw : Stmt := top 10
abbrev sPick : Stmt := top 11
abbrev sSpot : Stmt := top 12
abbrev sWhole : Stmt := top 13
abbrev sLine : Stmt := top 14
abbrev sWorth : Stmt := top 15
abbrev sLTx : Stmt := top 16
abbrev sLIs : Stmt := top 17
abbrev sLaw : Stmt := top 18
end OR

namespace OR
open PySem PySem.Spec PyProof.Rows L2
/-! ### the pen: a dict of the cells, how many have begun, what is left of the last one -/
theorem kBC : ¬ ((Sum.inr ("begun" : Str) : Key) = Sum.inr ("cells" : Str)) := by decide +kernel
theorem kLC : ¬ ((Sum.inr ("left" : Str) : Key) = Sum.inr ("cells" : Str)) := by decide +kernel
theorem kLB : ¬ ((Sum.inr ("left" : Str) : Key) = Sum.inr ("begun" : Str)) := by decide +kernel
def penK (c : Addr) (k l : Int) : List (Key × V) := [(.inr ("cells" : Str), .ref c), (.inr ("begun" : Str), .int k), (.inr ("left" : Str), .int l)]
theorem pen_cells (c : Addr) (k l : Int) : valV (penK c k l) (.inr ("cells" : Str)) = some (.ref c) := valV_pos rfl
theorem pen_begun (c : Addr) (k l : Int) : valV (penK c k l) (.inr ("begun" : Str)) = some (.int k) :=
  (valV_neg (fun e => kBC e.symm)).trans (valV_pos rfl)
theorem pen_left (c : Addr) (k l : Int) : valV (penK c k l) (.inr ("left" : Str)) = some (.int l) :=
  (valV_neg (fun e => kLC e.symm)).trans ((valV_neg (fun e => kLB e.symm)).trans (valV_pos rfl))
theorem pen_put_left (c : Addr) (k l y : Int) : putK (penK c k l) (.inr ("left" : Str)) (.int y) = penK c k y := by
  have h1 : ¬ ((Sum.inr ("cells" : Str) : Key) = Sum.inr ("left" : Str)) := fun e => kLC e.symm
  have h2 : ¬ ((Sum.inr ("begun" : Str) : Key) = Sum.inr ("left" : Str)) := fun e => kLB e.symm
  unfold putK penK
  simp only [List.any_cons, List.any_nil, List.map_cons, List.map_nil, h1, h2, decide_true, decide_false, Bool.or_false, Bool.false_or, if_true, if_false]
theorem pen_put_begun (c : Addr) (k l y : Int) : putK (penK c k l) (.inr ("begun" : Str)) (.int y) = penK c y l := by
  have h1 : ¬ ((Sum.inr ("cells" : Str) : Key) = Sum.inr ("begun" : Str)) := fun e => kBC e.symm
  have h2 : ¬ ((Sum.inr ("left" : Str) : Key) = Sum.inr ("begun" : Str)) := kLB
  unfold putK penK
  simp only [List.any_cons, List.any_nil, List.map_cons, List.map_nil, h1, h2, decide_true, decide_false, Bool.or_false, Bool.false_or, Bool.or_true, if_true, if_false]
/-- a pen at p after at most n draws -/
def Pen (H : Hp) (p : Addr) (n : Nat) : Prop := ∃ (c : Addr) (ns : List Int) (k l : Int), H p = some (.dK (penK c k l)) ∧ H c = some (.lst (ns.map V.int)) ∧ ns.length ≤ 63 ∧ 0 ≤ k ∧ k ≤ n ∧ 0 ≤ l
/-- all but what stands at p is as it was -/
def Frm (p : Addr) (H H' : Hp) : Prop := ∀ b o, H b = some o → b ≠ p → H' b = some o
theorem Frm.refl (p : Addr) (H : Hp) : Frm p H H := fun _ _ h _ => h
theorem Frm.trans {p : Addr} {H H1 H2 : Hp} (a : Frm p H H1) (b : Frm p H1 H2) : Frm p H H2 := fun c o h n => b c o (a c o h n) n
theorem Frm.put {p : Addr} {H : Hp} {o : HO} : Frm p H (upd H p o) := fun b x e n => by rw [upd_ne n]; exact e
theorem Frm.new {p q : Addr} {H : Hp} {o : HO} (h : H q = none) : Frm p H (upd H q o) := fun b x e _ => by rw [upd_ne (ne_of_none e h)]; exact e
theorem Pen.mono {H : Hp} {p : Addr} {n m : Nat} (P : Pen H p n) (h : n ≤ m) : Pen H p m := by
  obtain ⟨c, ns, k, l, h1, h2, h3, h4, h5, h6⟩ := P
  exact ⟨c, ns, k, l, h1, h2, h3, h4, by omega, h6⟩
theorem Pen.new {H : Hp} {p q : Addr} {n : Nat} {o : HO} (P : Pen H p n) (h : H q = none) : Pen (upd H q o) p n := by
  obtain ⟨c, ns, k, l, h1, h2, h3, h4, h5, h6⟩ := P
  exact ⟨c, ns, k, l, by rw [upd_ne (ne_of_none h1 h)]; exact h1, by rw [upd_ne (ne_of_none h2 h)]; exact h2, h3, h4, h5, h6⟩
/-! ### the promises -/
/-- a draw: some number below m -/
def spDraw : Sp := fun vs H Q _ => ∃ (p : Addr) (m : Int) (n : Nat), vs = [.ref p, .int m] ∧ 0 < m ∧ m.natAbs < 2 ^ 200 ∧ Pen H p n ∧ n ≤ 1000000 ∧
  ∀ (r : Int) (H' : Hp), 0 ≤ r → r < m → Pen H' p (n + 1) → Frm p H H' → Q (.int r) H'
/-- a def that lets nothing out, as it is called by its name -/
structure Cl (P : Program) (w : World) (K : PySem.W.Frag) (mg : Str → Option Value) (base : Heap) (k : Nat) (x : Str) (ps : List Str) (sp : Sp) : Prop where
  ex : ∃ (f : Addr) (fd : FuncData), FnOk P w K mg base CX0 k f fd ps sp ∧ mg x = some (.ref f) ∧ PySem.W.keepIn K (.ref f) = true ∧ Binds K fd ps []
theorem pe_cl {X : Cx} {k j : Nat} {x : Str} {ps : List Str} {sp : Sp} {e : Expr} {es : List Expr} {t : TA} {p pos : Pos} (c : Cl X.prog X.w X.K X.mg X.base k x ps sp) (hr : Room j X.A) (hk : k ≤ j) (hg : Gl X x) (ha : PA X (e :: es) t)
    (hdb : (x == ("__debug__" : Str)) = false := by decide) (he : starEach (e :: es) X.env = (false, eval e X.env) :: starEach es X.env := by rfl) (hpl : (backTo pos (starEach es X.env)).any (·.1) = false := by rfl) :
    PE X (.Call (.Name x p) (e :: es) [] pos) (tCall sp [] E0 t) := by
  obtain ⟨f, fd, F, hm, hkp, hb⟩ := c.ex
  exact pe_call F (hr.mono hk) hg hm hkp hb .nil pass0 ha hdb he hpl
theorem Frm.seq {K : PySem.W.Frag} {H H' : Hp} {p a : Addr} {n : Nat} {xs : List V} (f : Frm p H H') (P : Pen H p n) (h : SqL K H a xs) : SqL K H' a xs := by
  obtain ⟨c, ns, k, l, hp, _⟩ := P
  rcases h with (h | ⟨o, h⟩) | h
  · exact .inl (.inl (f _ _ h (ne_of h hp (by intro z; cases z))))
  · exact .inl (.inr ⟨o, f _ _ h (ne_of h hp (by intro z; cases z))⟩)
  · exact .inr h
theorem Frm.tup {K : PySem.W.Frag} {H H' : Hp} {p a : Addr} {n : Nat} {xs : List V} (f : Frm p H H') (P : Pen H p n) (h : SqT K H a xs) : SqT K H' a xs := by
  obtain ⟨c, ns, k, l, hp, _⟩ := P
  rcases h with (h | ⟨o, h⟩) | h
  · exact .inl (.inl (f _ _ h (ne_of h hp (by intro z; cases z))))
  · exact .inl (.inr ⟨o, f _ _ h (ne_of h hp (by intro z; cases z))⟩)
  · exact .inr h
/-- an item of a list that is not empty -/
def spPick (K : PySem.W.Frag) : Sp := fun vs H Q _ => ∃ (p a : Addr) (xs : List V) (n : Nat), vs = [.ref p, .ref a] ∧ SqL K H a xs ∧ 0 < xs.length ∧ xs.length ≤ 1000 ∧ Pen H p n ∧ n ≤ 1000000 ∧
  ∀ (v : V) (H' : Hp), v ∈ xs → Pen H' p (n + 1) → Frm p H H' → Q v H'
/-- some number, not too great -/
def spWhole : Sp := fun vs H Q _ => ∃ (p : Addr) (n : Nat), vs = [.ref p] ∧ Pen H p n ∧ n ≤ 900000 ∧
  ∀ (r : Int) (H' : Hp), -(10 ^ 30) < r → r < 10 ^ 30 → Pen H' p (n + 3) → Frm p H H' → Q (.int r) H'
/-- the pen, made of the script -/
def spPen (K : PySem.W.Frag) : Sp := fun vs H Q _ => ∃ (a : Addr) (ns : List Int), vs = [.ref a] ∧ SqL K H a (ns.map V.int) ∧ ns.length ≤ 63 ∧
  ∀ (p : Addr) (H' : Hp), H p = none → Pen H' p 0 → Same H H' → Q (.ref p) H'
structure Bl (mg : Str → Option Value) : Prop where
  int : mg "int" = none
  len : mg "len" = none
  abs : mg "abs" = none
  list : mg "list" = none
theorem dg {H : Hp} {p : Addr} {kvs : List (Key × V)} {x : Str} {v : V} (h : H p = some (.dK kvs)) (e : valV kvs (.inr x) = some v) : DGet H p (.str x) (some v) := e ▸ DGet.k (k := .inr x) h
theorem dp {H : Hp} {p : Addr} {kvs kvs' : List (Key × V)} {x : Str} {v : V} (h : H p = some (.dK kvs)) (e : putK kvs (.inr x) v = kvs') (hl : kvs.length < sizeLine) : DPut H p (.str x) v (upd H p (.dK kvs')) := e ▸ DPut.k (k := .inr x) h hl
theorem pen_small (c : Addr) (k l : Int) : (penK c k l).length < sizeLine := by show 3 < sizeLine; decide
theorem mod_bd (a b : Int) (h : 0 < b) : 0 ≤ a % b ∧ a % b < b := ⟨Int.emod_nonneg a (by omega), Int.emod_lt_of_pos a h⟩
theorem boot_absO : bootBuiltins ("abs" : Str) = some (.builtin "abs") := by decide +kernel
section
variable {P : Program} {w : World} {K : PySem.W.Frag} {mg : Str → Option Value} {base : Heap}
theorem scDraw : FnScope ["_law_pen_here", "_law_many", "_law_digit", "_law_k", "_law_size", "_law_cell", "_law_mix"] ["_law_pen_here", "_law_many"] (defScope sDraw) := ⟨rfl, rfl, rfl, by decide +kernel, rfl, by decide +kernel, by decide +kernel⟩
theorem div200 {m : Int} (h : 0 < m) (h2 : m.natAbs < 2 ^ 200) (i : Int) : CDivW i m := wide_div h h2 (by decide) (by decide)
theorem ok_draw {f : Addr} {fd : FuncData} (F : Fun K "_law_draw" "_law_draw" sDraw f fd) (B : Bl mg) : FnOk P w K mg base CX0 1 f fd ["_law_pen_here", "_law_many"] spDraw := by
  refine F.ok scDraw (fun vs H Q E h => ?_) (fun cdv A outer s H vs Q E hr h => ?_)
  · obtain ⟨p, m, n, rfl, _⟩ := h
    rfl
  · obtain ⟨p, m, n, rfl, hm, hmb, ⟨c, ns, k, l, hp, hc, hns, hk0, hkn, hl⟩, hn, q⟩ := h
    have hu := hu_of hr
    have ncp : c ≠ p := ne_of hc hp (by intro z; cases z)
    have nd := scDraw.nd
    refine ⟨_, pss_cons (ps_if (pt_cmpR op_gt (pe_dget hu (pv 0) pe_str (fun _ _ => rfl)) pe_int (nomark _))
        (pss_cons (ps_set (i := 2) nd rfl (.inl rfl) (pe_op op_mod (pe_callTy call_int1 (by rfl) B.int boot_int (pa_cons (pe_dget hu (pv 0) pe_str (fun _ _ => rfl)) pa_nil)) (pv 1)))
        (pss_cons (ps_dput hu (pv 0) pe_str (pe_op op_fdivW (pe_dget hu (pv 0) pe_str (fun _ _ => rfl)) (pv 1)) rfl)
        (pss_one (ps_ret (pv 2))))) pss_nil)
      (pss_cons (ps_par (i := 3) (j := 4) rfl nd rfl rfl (by decide) rfl rfl (pa_cons (pe_dget hu (pv 0) pe_str (fun _ _ => rfl)) (pa_cons (pe_callB call_len_seq (by rfl) B.len PySem.boot_len (pa_cons (pe_dget hu (pv 0) pe_str (fun _ _ => rfl)) pa_nil)) pa_nil)) rfl)
      (pss_cons (ps_dput hu (pv 0) pe_str (pe_op op_add (pv 3) pe_int) rfl)
      (Evl.pss_cut (ps_set (i := 5) nd rfl (.inl rfl) (pe_ifExp (pt_cmpR op_gt (pv 4) pe_int (nomark _))
          (pe_ix ix_list (pe_dget hu (pv 0) pe_str (fun _ _ => rfl)) (pe_op op_mod (pe_callTy call_int1 (by rfl) B.int boot_int (pa_cons (pv 3) pa_nil)) (pv 4)) (fun _ _ => rfl))
          (pe_op op_add (pe_op op_mul pe_int (pv 3)) pe_int)))
      (Evl.pss_cut (ps_if (PW.pt (pw_and (pt_cmpR op_lt (pv 3) (pv 4) (nomark _)) (pw_and1 (pt_cmpR op_ge (pe_callB call_abs (by rfl) B.abs boot_absO (pa_cons (pv 5) pa_nil)) (pe_op op_pow pe_int pe_int) (nomark _)))))
        (pss_cons (ps_dput hu (pv 0) pe_str (pe_op op_fdivW (pe_op op_sub (pe_callB call_abs (by rfl) B.abs boot_absO (pa_cons (pv 5) pa_nil)) (pe_op op_pow pe_int pe_int)) (pv 1)) rfl)
        (pss_one (ps_ret (pe_op op_mod (pe_callTy call_int1 (by rfl) B.int boot_int (pa_cons (pe_op op_sub (pe_callB call_abs (by rfl) B.abs boot_absO (pa_cons (pv 5) pa_nil)) (pe_op op_pow pe_int pe_int)) pa_nil)) (pv 1))))) pss_nil)
      (pss_cons (ps_set (i := 6) nd rfl (.inl rfl) (pe_op op_mod (pe_callTy call_int1 (by rfl) B.int boot_int (pa_cons
          (pe_op op_add (pe_op op_add (pe_op op_add (pe_op op_mul (pe_op op_mod (pe_callTy call_int1 (by rfl) B.int boot_int (pa_cons (pv 5) pa_nil)) pe_int) pe_int) (pe_op op_mul (pe_op op_mul pe_int (pv 3)) (pv 3))) (pe_op op_mul pe_int (pv 3))) pe_int) pa_nil)) pe_int))
      (pss_cons (ps_set (i := 6) nd rfl (.inl rfl) (pe_op op_mod (pe_callTy call_int1 (by rfl) B.int boot_int (pa_cons
          (pe_op op_add (pe_op op_add (pe_op op_mul (pv 6) (pv 6)) (pe_op op_mul pe_int (pv 6))) (pe_op op_mul pe_int (pv 3))) pa_nil)) pe_int))
      (pss_one (ps_ret (pe_op op_mod (pe_callTy call_int1 (by rfl) B.int boot_int (pa_cons (pe_op op_fdiv (pe_op op_mod (pe_callTy call_int1 (by rfl) B.int boot_int (pa_cons (pe_op op_mul (pv 6) (pe_op op_add (pv 6) pe_int)) pa_nil)) pe_int) pe_int) pa_nil)) (pv 1)))))))))), ?_⟩
    -- if pen['left'] > 0
    have dL : DGet H p (.str "left") (some (.int l)) := dg hp (pen_left c k l)
    have dB : DGet H p (.str "begun") (some (.int k)) := dg hp (pen_begun c k l)
    have dC : DGet H p (.str "cells") (some (.ref c)) := dg hp (pen_cells c k l)
    refine ⟨_, rfl, p, .int l, rfl, dL, _, _, rfl, rfl, _, rfl, ite2 (fun e => ?_) (fun e => ?_)⟩
    · have hl1 : 0 < l := of_decide_eq_true e
      refine ⟨_, rfl, p, .int l, rfl, dL, .inl ⟨l, rfl, _, rfl, l, m, rfl, rfl, hm, ?_⟩⟩
      refine ⟨_, rfl, p, .int l, rfl, dL, _, rfl, l, m, rfl, rfl, div200 hm hmb l, _, rfl, p, _, rfl, dp hp (pen_put_left c k l _) (pen_small c k l), _, rfl, ?_⟩
      refine q (l % m) _ (mod_bd l m hm).1 (mod_bd l m hm).2 ⟨c, ns, k, l / m, upd_same, by rw [upd_ne ncp]; exact hc, hns, hk0, by omega, Int.ediv_nonneg hl (by omega)⟩ Frm.put
    · -- k, size = pen['begun'], len(pen['cells'])
      have hcL : SqL K H c (ns.map V.int) := .inl (.inl hc)
      refine ⟨_, rfl, p, .int k, rfl, dB, _, rfl, p, .ref c, rfl, dC, c, _, rfl, .inl hcL, _, _, rfl, ?_⟩
      refine ⟨_, rfl, _, _, rfl, rfl, _, rfl, p, _, rfl, dp hp (pen_put_begun c k l _) (pen_small c k l), ?_⟩
      -- cell = ..
      have hl0 : l = 0 := by
        have : ¬ (0 < l) := fun z => e (decide_eq_true z)
        omega
      have hp1 : (upd H p (.dK (penK c (k + 1) l))) p = some (.dK (penK c (k + 1) l)) := upd_same
      have hc1 : (upd H p (.dK (penK c (k + 1) l))) c = some (.lst (ns.map V.int)) := by rw [upd_ne ncp]; exact hc
      have dC1 := dg (x := "cells") hp1 (pen_cells c (k + 1) l)
      have hcL1 : SqL K (upd H p (.dK (penK c (k + 1) l))) c (ns.map V.int) := .inl (.inl hc1)
      have fin : ∀ (r y : Int), 0 ≤ r → r < m → 0 ≤ y → ∀ H', H' = upd H p (.dK (penK c (k + 1) y)) → Q (.int r) H' := fun r y h0 h1 hy H' e => by
        subst e
        exact q r _ h0 h1 ⟨c, ns, k + 1, y, upd_same, by rw [upd_ne ncp]; exact hc, hns, by omega, by omega, hy⟩ Frm.put
      refine ⟨fun σ' H' => ∃ cell : Int, σ' = [some (.ref p), some (.int m), none, some (.int k), some (.int ((ns.map V.int).length : Int)), some (.int cell), none] ∧ H' = upd H p (.dK (penK c (k + 1) l)), ?_, ?_⟩
      · refine ⟨_, rfl, _, _, rfl, rfl, _, rfl, ite2 (fun e2 => ?_) (fun e2 => ?_)⟩
        · have hsz : (0 : Int) < ((ns.map V.int).length : Int) := of_decide_eq_true e2
          have hb := mod_bd k _ hsz
          have hj : (k % ((ns.map V.int).length : Int)).toNat < ns.length := by
            rw [List.length_map] at hb ⊢
            omega
          refine ⟨_, rfl, p, _, rfl, dC1, _, rfl, .inl ⟨k, rfl, _, rfl, k, _, rfl, rfl, hsz, c, ns.map V.int, _, .int ns[(k % ((ns.map V.int).length : Int)).toNat], rfl, rfl, hcL1, ?_, ?_⟩⟩
          · have := atI_nat (xs := ns.map V.int) (j := (k % ((ns.map V.int).length : Int)).toNat) (v := .int ns[(k % ((ns.map V.int).length : Int)).toNat]) (by rw [List.getElem?_map, List.getElem?_eq_getElem hj]; rfl)
            rw [Int.toNat_of_nonneg hb.1] at this
            exact this
          · exact ⟨_, rfl, rfl⟩
        · refine ⟨_, rfl, _, _, rfl, rfl, .inl ⟨by decide, by decide⟩, _, _, rfl, rfl, ?_⟩
          exact ⟨_, rfl, rfl⟩
      · rintro σ' H' ⟨cell, rfl, rfl⟩
        refine ⟨fun σ' H' => σ' = [some (.ref p), some (.int m), none, some (.int k), some (.int ((ns.map V.int).length : Int)), some (.int cell), none] ∧ H' = upd H p (.dK (penK c (k + 1) l)), ?_, ?_⟩
        · have hpow : CPow 10 18 := ⟨by decide, by decide, by decide⟩
          refine ⟨_, rfl, _, rfl, _, _, rfl, rfl, _, rfl, ite2 (fun e2 => ?_) (fun e2 => ?_)⟩
          · refine ⟨_, rfl, cell, rfl, _, _, rfl, rfl, hpow, _, _, rfl, rfl, _, rfl, ite2 (fun e3 => ?_) (fun e3 => ?_)⟩
            · have hge := of_decide_eq_true e3
              refine ⟨_, rfl, cell, rfl, _, _, rfl, rfl, hpow, _, _, rfl, rfl, _, rfl, _, _, rfl, rfl, div200 hm hmb _, _, rfl, p, _, rfl, dp hp1 (pen_put_left c (k + 1) l _) (pen_small c _ l), ?_⟩
              refine ⟨_, rfl, cell, rfl, _, _, rfl, rfl, hpow, _, _, rfl, rfl, .inl ⟨_, rfl, _, rfl, _, _, rfl, rfl, hm, ?_⟩⟩
              refine fin _ (((if cell < 0 then -cell else cell) - 10 ^ (18 : Int).toNat) / m) (mod_bd _ m hm).1 (mod_bd _ m hm).2 (Int.ediv_nonneg ?_ (by omega)) _ ?_
              · show (0 : Int) ≤ (if cell < 0 then -cell else cell) - 10 ^ (18 : Int).toNat
                have : (10 : Int) ^ (18 : Int).toNat ≤ (if cell < 0 then -cell else cell) := hge
                omega
              · rw [upd_upd]
            · exact ⟨rfl, rfl⟩
          · exact iteF ⟨rfl, rfl⟩
        · rintro σ' H' ⟨rfl, rfl⟩
          -- mix
          refine ⟨_, rfl, .inl ⟨_, rfl, _, _, rfl, rfl, (by show (0 : Int) < 4294966769; decide), _, _, rfl, rfl, .inr ⟨by decide, by decide⟩, _, rfl, _, _, rfl, rfl, .inl ⟨by decide, by decide⟩, _, rfl, _, _, rfl, rfl, .inl ?_, _, _, rfl, rfl, _, rfl, _, _, rfl, rfl, .inl ⟨by decide, by decide⟩, _, _, rfl, rfl, _, _, rfl, rfl, .inl ⟨_, rfl, _, _, rfl, rfl, (by show (0 : Int) < 4294966813; decide), ?_⟩⟩⟩
          · constructor <;> omega
          -- mix again
          generalize hM : (cell % 4294966769 * 43313 + 31699 * k * k + 613 * k + 41) % 4294966813 = M
          have hMb : 0 ≤ M ∧ M < 4294966813 := hM ▸ mod_bd _ _ (by decide)
          refine ⟨_, rfl, _, rfl, _, _, rfl, rfl, .inl (by constructor <;> omega), _, rfl, _, _, rfl, rfl, .inl ⟨by decide, by decide⟩, _, _, rfl, rfl, _, rfl, _, _, rfl, rfl, .inl ⟨by decide, by decide⟩, _, _, rfl, rfl, .inl ⟨_, rfl, _, _, rfl, rfl, (by show (0 : Int) < 4294966787; decide), ?_⟩⟩
          generalize hM2 : (M * M + 40961 * M + 17 * k) % 4294966787 = M2
          have hMb2 : 0 ≤ M2 ∧ M2 < 4294966787 := hM2 ▸ mod_bd _ _ (by decide)
          refine ⟨_, rfl, _, rfl, _, _, rfl, rfl, _, _, rfl, rfl, .inl (by constructor <;> omega), .inl ⟨_, rfl, _, _, rfl, rfl, (by show (0 : Int) < 4294966661; decide), _, _, rfl, rfl, ⟨by decide, by decide⟩, .inl ⟨_, rfl, _, rfl, _, _, rfl, rfl, hm, ?_⟩⟩⟩
          exact fin _ l (mod_bd _ m hm).1 (mod_bd _ m hm).2 hl _ rfl
theorem scPick : FnScope ["_law_pen_here", "_law_items"] ["_law_pen_here", "_law_items"] (defScope sPick) := ⟨rfl, rfl, rfl, by decide +kernel, rfl, by decide +kernel, by decide +kernel⟩
theorem ok_pick {f : Addr} {fd : FuncData} (F : Fun K "_law_pick" "_law_pick" sPick f fd) (B : Bl mg) (D : Cl P w K mg base 1 "_law_draw" ["_law_pen_here", "_law_many"] spDraw) : FnOk P w K mg base CX0 2 f fd ["_law_pen_here", "_law_items"] (spPick K) := by
  refine F.ok scPick (fun vs H Q E h => ?_) (fun cdv A outer s H vs Q E hr h => ?_)
  · obtain ⟨p, a, xs, n, rfl, _⟩ := h
    rfl
  · obtain ⟨p, a, xs, n, rfl, hS, h0, h1, hP, hn, q⟩ := h
    refine ⟨_, pss_one (ps_ret (pe_ix ix_list (pv 1) (pe_cl D hr (by decide) (by rfl) (pa_cons (pv 0) (pa_cons (pe_callB call_len_seq (by rfl) B.len PySem.boot_len (pa_cons (pv 1) pa_nil)) pa_nil))) (fun _ _ => rfl))), ?_⟩
    refine ⟨_, rfl, _, rfl, _, rfl, a, xs, rfl, .inl hS, p, xs.length, n, rfl, by omega, ?_, hP, hn, fun r H' hr0 hr1 hP' hF => ?_⟩
    · have : xs.length < 2 ^ 200 := Nat.lt_of_le_of_lt h1 (by decide)
      simpa using this
    · have hj : r.toNat < xs.length := by omega
      refine ⟨a, xs, r, xs[r.toNat], rfl, rfl, hF.seq hP hS, ?_, q _ _ (List.getElem_mem hj) hP' hF⟩
      have := atI_nat (xs := xs) (j := r.toNat) (v := xs[r.toNat]) (List.getElem?_eq_getElem hj)
      rw [Int.toNat_of_nonneg hr0] at this
      exact this
theorem scWhole : FnScope ["_law_pen_here", "_law_size"] ["_law_pen_here"] (defScope sWhole) := ⟨rfl, rfl, rfl, by decide +kernel, rfl, by decide +kernel, by decide +kernel⟩
theorem ok_whole {f : Addr} {fd : FuncData} (F : Fun K "_law_whole" "_law_whole" sWhole f fd) (D : Cl P w K mg base 1 "_law_draw" ["_law_pen_here", "_law_many"] spDraw) (C : Cl P w K mg base 2 "_law_pick" ["_law_pen_here", "_law_items"] (spPick K)) :
    FnOk P w K mg base CX0 3 f fd ["_law_pen_here"] spWhole := by
  refine F.ok scWhole (fun vs H Q E h => ?_) (fun cdv A outer s H vs Q E hr h => ?_)
  · obtain ⟨p, n, rfl, _⟩ := h
    rfl
  · obtain ⟨p, n, rfl, hP, hn, q⟩ := h
    refine ⟨_, pss_cons (ps_set (i := 1) scWhole.nd rfl (.inl rfl) (pe_cl C hr (by decide) (by rfl) (pa_cons (pv 0) (pa_cons (pe_lst (pa_cons pe_int (pa_cons pe_int (pa_cons pe_int (pa_cons (pe_op op_pow pe_int pe_int) (pa_cons (pe_op op_pow pe_int pe_int) pa_nil)))))) pa_nil))))
      (pss_one (ps_ret (pe_op op_mul (pe_cl D hr (by decide) (by rfl) (pa_cons (pv 0) (pa_cons (pv 1) pa_nil))) (pe_cl C hr (by decide) (by rfl) (pa_cons (pv 0) (pa_cons (pe_lst (pa_cons pe_int (pa_cons pe_int (pa_cons (pe_un un_neg pe_int) pa_nil)))) pa_nil)))))), ?_⟩
    refine ⟨_, rfl, _, _, rfl, rfl, ⟨by decide, by decide, by decide⟩, _, _, rfl, rfl, ⟨by decide, by decide, by decide⟩, by show 5 ≤ sizeLine; decide, fun a ha => ?_⟩
    have P1 := hP.new (o := .lst [.int 3, .int 10, .int 100, .int (10 ^ (6 : Int).toNat), .int (10 ^ (30 : Int).toNat)]) ha
    refine ⟨p, a, _, n, rfl, .inl (.inl upd_same), by show 0 < 5; decide, by show 5 ≤ 1000; decide, P1, by omega, fun v H2 hv P2 F2 => ?_⟩
    obtain ⟨m, rfl, hm0, hm1⟩ : ∃ m : Int, v = .int m ∧ 0 < m ∧ m ≤ 10 ^ 30 := by
      simp only [List.mem_cons, List.not_mem_nil, or_false] at hv
      rcases hv with e | e | e | e | e <;> subst e <;> exact ⟨_, rfl, by decide, by decide⟩
    have hmb : m.natAbs < 2 ^ 200 := by
      have : m.natAbs ≤ 10 ^ 30 := by omega
      exact Nat.lt_of_le_of_lt this (by decide)
    refine ⟨_, rfl, _, rfl, p, m, n + 1, rfl, hm0, hmb, P2, by omega, fun r H3 hr0 hr1 P3 F3 => ?_⟩
    refine ⟨_, rfl, _, rfl, by show 3 ≤ sizeLine; decide, fun b hb => ?_⟩
    refine ⟨p, b, _, n + 2, rfl, .inl (.inl upd_same), by show 0 < 3; decide, by show 3 ≤ 1000; decide, P3.new hb, by omega, fun v H4 hv P4 F4 => ?_⟩
    obtain ⟨s, rfl, hs⟩ : ∃ s : Int, v = .int s ∧ (s = 1 ∨ s = -1) := by
      simp only [List.mem_cons, List.not_mem_nil, or_false] at hv
      rcases hv with e | e | e <;> subst e
      · exact ⟨_, rfl, .inl rfl⟩
      · exact ⟨_, rfl, .inl rfl⟩
      · exact ⟨_, rfl, .inr rfl⟩
    refine ⟨r, s, rfl, rfl, .inr (by constructor <;> omega), q _ _ ?_ ?_ P4 ((((Frm.new ha).trans F2).trans F3).trans ((Frm.new hb).trans F4))⟩
    · rcases hs with rfl | rfl <;> omega
    · rcases hs with rfl | rfl <;> omega
theorem scPen : FnScope ["_law_script"] ["_law_script"] (defScope sPen) := ⟨rfl, rfl, rfl, by decide +kernel, rfl, by decide +kernel, by decide +kernel⟩
theorem cut63 (ns : List Int) : cutV (ns.map V.int) none (some 63) = (ns.take 63).map V.int := by
  unfold cutV
  rw [HT.sIx_none, show HT.sIx (ns.map V.int).length (ns.map V.int).length (some 63) = min 63 (ns.map V.int).length from HT.sIx_nat _ _ 63, List.drop_zero, Nat.sub_zero, List.map_take]
  rcases Nat.le_total 63 (ns.map V.int).length with h | h
  · rw [Nat.min_eq_left h]
  · rw [Nat.min_eq_right h, List.take_of_length_le (Nat.le_refl _), List.take_of_length_le h]
theorem ok_pen {f : Addr} {fd : FuncData} (F : Fun K "_law_pen" "_law_pen" sPen f fd) (B : Bl mg) : FnOk P w K mg base CX0 1 f fd ["_law_script"] (spPen K) := by
  refine F.ok scPen (fun vs H Q E h => ?_) (fun cdv A outer s H vs Q E hr h => ?_)
  · obtain ⟨a, ns, rfl, _⟩ := h
    rfl
  · obtain ⟨a, ns, rfl, hS, hlen, q⟩ := h
    refine ⟨_, pss_one (ps_ret (pe_disp (pps_cons pe_str (pe_callTy call_list_of (by rfl) B.list (by decide +kernel) (pa_cons (pe_slice sl_list (pv 0) po_none (po_some pe_int)) pa_nil)) (pps_cons pe_str pe_int (pps_cons pe_str pe_int pps_nil))) rfl rfl (by simp) (by decide))), ?_⟩
    intro p hp
    have s1 : Same H (upd H p (.dK [])) := fun b o e => by rw [upd_ne (ne_of_none e hp)]; exact e
    refine ⟨_, rfl, _, rfl, a, _, rfl, s1.seq hS, fun x hx => ?_⟩
    refine ⟨x, _, rfl, .inl (.inl (.inl upd_same)), fun c hc => ?_⟩
    have npx : p ≠ x := ne_of_none upd_same hx
    have npc : p ≠ c := by
      intro e
      subst e
      rw [upd_ne npx, upd_same] at hc
      cases hc
    have a1 : putK ([] : List (Key × V)) (.inr ("cells" : Str)) (.ref c) = [(.inr ("cells" : Str), .ref c)] := putK_new _ valV_nil
    have a2 : putK ([(.inr ("cells" : Str), .ref c)] : List (Key × V)) (.inr ("begun" : Str)) (.int 0) = [(.inr ("cells" : Str), .ref c), (.inr ("begun" : Str), .int 0)] := putK_new _ ((valV_neg (fun e => kBC e.symm)).trans valV_nil)
    have a3 : putK ([(.inr ("cells" : Str), .ref c), (.inr ("begun" : Str), .int 0)] : List (Key × V)) (.inr ("left" : Str)) (.int 0) = penK c 0 0 := putK_new _ ((valV_neg (fun e => kLC e.symm)).trans ((valV_neg (fun e => kLB e.symm)).trans valV_nil))
    have e3 : mergeK [] (penK c 0 0) = penK c 0 0 := by
      show putK (putK (putK ([] : List (Key × V)) (.inr ("cells" : Str)) (.ref c)) (.inr ("begun" : Str)) (.int 0)) (.inr ("left" : Str)) (.int 0) = penK c 0 0
      rw [a1, a2, a3]
    refine ⟨by rw [upd_ne npc, upd_ne npx, upd_same], penK c 0 0, rfl, by show 3 ≤ 15; decide, ?_⟩
    rw [e3]
    refine q p _ hp ⟨c, ns.take 63, 0, 0, upd_same, ?_, by rw [List.length_take]; omega, by omega, by omega, by omega⟩ fun b o e => ?_
    · rw [upd_ne npc.symm, upd_same, cut63]
    · have h1 := s1 b o e
      have nbx : b ≠ x := ne_of_none h1 hx
      have h2 : (upd (upd H p (.dK [])) x (.lst (cutV (ns.map V.int) none (some 63)))) b = some o := by rw [upd_ne nbx]; exact h1
      rw [upd_ne (ne_of_none e hp), upd_ne (ne_of_none h2 hc)]
      exact h2
end
end OR

namespace OR
open PySem PySem.Spec PyProof.Rows L2
/-! ### own classes: double-underscore methods behind the signs -/
/-- a method of the class at C, called with its object and arguments by position -/
structure Md (P : Program) (w : World) (K : PySem.W.Frag) (mg : Str → Option Value) (base : Heap) (k : Nat) (C : Addr) (m : Str) (sp : Sp) : Prop where
  ex : ∃ f, FnR P w K mg base CX0 k f sp ∧ PySem.W.findIn K (.ref C) m = some (some (.ref f)) ∧ PySem.W.isFn K (.ref f) = true ∧ PySem.W.fnIn K f = true
theorem fnR_of {P : Program} {w : World} {K : PySem.W.Frag} {mg : Str → Option Value} {base : Heap} {k : Nat} {f : Addr} {fd : FuncData} {ps : List Str} {sp : Sp} (F : FnOk P w K mg base CX0 k f fd ps sp) (hb : Binds K fd ps []) : FnR P w K mg base CX0 k f sp :=
  (F.raw hb .nil).imp fun vs H Q E h => by rw [List.append_nil]; exact h
section
variable {X : Cx} {n : Nat} {C : Addr} {sp : Sp}
def rBinS (C : Addr) (sp : Sp) : R2 := fun x y H Q => ∃ a b dx dy fs gs, x = .ref a ∧ y = .ref b ∧ H a = some (.ins C dx fs) ∧ H b = some (.ins C dy gs) ∧ sp [x, y] H Q E0
theorem op_binS {op : Operator} (m : Md X.prog X.w X.K X.mg X.base n C (PySem.dunder op.info.2) sp) (sf : PySem.W.selfFirst X.K C = true) (hr : Room n X.A) : OpR X (binaryOp op) (rBinS C sp) := by
  intro pins s σ H x y v u Q I rx ry h
  obtain ⟨f, F, hs, hf, _⟩ := m.ex
  obtain ⟨a, b, dx, dy, fs, gs, rfl, rfl, ha, hb, q⟩ := h
  cases (show v = Value.ref a from rx)
  cases (show u = Value.ref b from ry)
  obtain ⟨mA, J, _⟩ := ins_get I.hok ha
  obtain ⟨mB, J', _⟩ := ins_get I.hok hb
  obtain ⟨od, J, _⟩ := J.look
  obtain ⟨od', J', _⟩ := J'.look
  obtain ⟨m, hF⟩ := I.fr
  refine PySem.W.binop_K hF I.ok.mod.kin J J'.type sf hs hf ?_
  refine wpAny_mono (wpAny_call (run_fnR (us := [.ref a, .ref b]) (vs := [.ref a, .ref b]) F hr pass0 I (.cons rfl (.cons rfl .nil)) q)) (fun w s' z => ?_) fun _ _ x => x
  obtain ⟨z', H', I', rz, qz⟩ := z
  exact SlX.cmpback rz ⟨z', H', I', rz, qz⟩
/-- what + and the like ask of the class for an int on the right -/
structure BinI (K : PySem.W.Frag) (C : Addr) (op : Operator) : Prop where
  rc : ∃ rc, PySem.W.findIn K (.ref C) (PySem.dunderR op.info.2) = some rc ∧ (rc = none ∨ ∃ g : Addr, rc = some (.ref g))
  fo : ∃ fo, PySem.W.findIn K (.type "int") (PySem.dunder op.info.2) = some fo
  ro : ∃ ro, PySem.W.findIn K (.type "int") (PySem.dunderR op.info.2) = some ro
  sub : PySem.W.subIn K (.type "int") (.ref C) = some false
def rBinI (C : Addr) (sp : Sp) : R2 := fun x y H Q => ∃ a dx fs i, x = .ref a ∧ y = .int i ∧ H a = some (.ins C dx fs) ∧ sp [x, y] H Q E0
theorem op_binI {op : Operator} (m : Md X.prog X.w X.K X.mg X.base n C (PySem.dunder op.info.2) sp) (b : BinI X.K C op) (sf : PySem.W.selfFirst X.K C = true) (hr : Room n X.A) : OpR X (binaryOp op) (rBinI C sp) := by
  intro pins s σ H x y v u Q I rx ry h
  obtain ⟨f, F, hs, hf, _⟩ := m.ex
  obtain ⟨a, dx, fs, i, rfl, rfl, ha, q⟩ := h
  cases (show v = Value.ref a from rx)
  obtain ⟨t, rfl⟩ := (show ∃ t, u = Value.int i t from ry)
  obtain ⟨mA, J, _⟩ := ins_get I.hok ha
  obtain ⟨od, J, _⟩ := J.look
  obtain ⟨m, hF⟩ := I.fr
  obtain ⟨rc, hrc, hp⟩ := b.rc
  obtain ⟨fo, h1⟩ := b.fo
  obtain ⟨ro, h2⟩ := b.ro
  refine PySem.W.ksp_binT (T := "int") hF I.ok.mod.kin J rfl sf hs hf hrc hp h1 h2 b.sub ?_
  refine wpAny_mono (wpAny_call (run_fnR (us := [.ref a, .int i t]) (vs := [.ref a, .int i]) F hr pass0 I (.cons rfl (.cons ⟨t, rfl⟩ .nil)) q)) (fun w s' z => ?_) fun _ _ x => x
  obtain ⟨z', H', I', rz, qz⟩ := z
  exact SlX.cmpback rz ⟨z', H', I', rz, qz⟩
def rNegO (C : Addr) (sp : Sp) : V → Hp → VK → Prop := fun x H Q => ∃ a dx fs, x = .ref a ∧ H a = some (.ins C dx fs) ∧ sp [x] H Q E0
theorem un_negO (m : Md X.prog X.w X.K X.mg X.base n C "__neg__" sp) (hr : Room n X.A) : UnR X (unaryOp .USub) (rNegO C sp) := by
  intro pins s σ H x v Q I rx h
  obtain ⟨f, F, hs, hf, _⟩ := m.ex
  obtain ⟨a, dx, fs, rfl, ha, q⟩ := h
  cases (show v = Value.ref a from rx)
  obtain ⟨mA, J, _⟩ := ins_get I.hok ha
  obtain ⟨od, J, _⟩ := J.look
  obtain ⟨m, hF⟩ := I.fr
  refine PySem.W.ksp_neg hF I.ok.mod.kin J hs hf ?_
  refine wpAny_mono (wpAny_call (run_fnR (us := [.ref a]) (vs := [.ref a]) F hr pass0 I (.cons rfl .nil) q)) (fun w s' z => ?_) fun _ _ x => x
  exact z
end
/-- a reading may ask for more -/
theorem pe_imp {X : Cx} {e : Expr} {t t' : TE} (h : PE X e t) (i : ∀ σ H Q, t' σ H Q → t σ H Q) : PE X e t' := ⟨fun pins s σ H Q I q => h.run pins s σ H Q I (i σ H Q q)⟩
end OR

namespace OR
open PySem PySem.Spec PyProof.Rows L2
/-! ### an int on the left, an own class on the right: the reflected method -/
/-- what an operator of ints says where the right is no int -/
structure IntOp (nm : String) (id : String) : Prop where
  slot : Slot "int" (dunder nm) id
  fills : fillsNumberSlot (.type "int") nm = pure true
  dec : ∀ {prog : Program} {w : World} {A : Around} {E : Value → Shared → Prop} {s : Shared} {i : Int} {t : Tok} {a : Addr} {o : Obj} {Q : Value → Shared → Prop}, s.heap.get? a = some o → o.data = .plain → Q .notImplemented s → wpAny (model prog w) A (call (.builtin id) [.int i t, .ref a]) Q E s
theorem int_plain {M : Model} {A : Around} {E : Value → Shared → Prop} {s : Shared} {name : String} {f : Int → Int → Sem Fin} {i : Int} {t : Tok} {a : Addr} {o : Obj} {Q : Fin → Shared → Prop} (hs : ∀ {A : Around} {E} {Q : Value × List Value → Shared → Prop} {s}, Q (.int i t, [.ref a]) s → wpAny M A (slotArgs name 1 ⟨[.int i t, .ref a], []⟩) Q E s)
    (h : s.heap.get? a = some o) (hd : o.data = .plain) (q : Q (.done (.ret .notImplemented)) s) : wpAny M A (Builtin.Int.intBinary name f false ⟨[.int i t, .ref a], []⟩) Q E s := by
  unfold Builtin.Int.intBinary
  refine wpAny_bind (hs ?_)
  refine wpAny_bind (m := Builtin.Int.intOfSelf _) (wpAny_pure ?_)
  refine wpAny_bind (m := asInt? _) ?_
  unfold asInt?
  refine wpAny_bind (wpAny_load h ?_)
  rw [hd]
  refine wpAny_pure ?_
  exact wpAny_bind (wpAny_rule (wpAny_pure q))
theorem slotArgs1 {M : Model} {A : Around} {E : Value → Shared → Prop} {s : Shared} {name : String} {v u : Value} {Q : Value × List Value → Shared → Prop} (q : Q (v, [u]) s) : wpAny M A (slotArgs name 1 ⟨[v, u], []⟩) Q E s := by
  refine wpAny_of_eq (a := (v, [u])) ?_ q
  rfl
theorem call_plain {prog : Program} {w : World} {nm id name : String} {f : Int → Int → Sem Fin} {B : Builtin} (S : Slot "int" (dunder nm) id) (eB : B = Builtin.Int.intBinary name f false) (hB : entryFor table id = some B) (ha : ∀ a b, argsOk id ⟨[a, b], []⟩)
    {A : Around} {E : Value → Shared → Prop} {s : Shared} {i : Int} {t : Tok} {a : Addr} {o : Obj} {Q : Value → Shared → Prop} (h : s.heap.get? a = some o) (hd : o.data = .plain) (q : Q .notImplemented s) : wpAny (model prog w) A (call (.builtin id) [.int i t, .ref a]) Q E s :=
  wpAny_call_entry S (typeIs_int s i t) hB (eB ▸ int_plain slotArgs1 h hd ⟨_, rfl, q⟩) (ha _ _)
theorem intop_add : IntOp "add" "int.__add__" := ⟨slot_int_add, fills_int_add, fun h hd q => call_plain slot_int_add rfl entry_int_add args_int_add h hd q⟩
theorem intop_sub : IntOp "sub" "int.__sub__" := ⟨PyProof.Rows.slot_int_sub, PyProof.Rows.fills_int_sub, fun h hd q => call_plain PyProof.Rows.slot_int_sub rfl PyProof.Rows.entry_int_sub PyProof.Rows.args_int_sub h hd q⟩
theorem intop_mul : IntOp "mul" "int.__mul__" := ⟨PyProof.Rows.slot_int_mul, PyProof.Rows.fills_int_mul, fun h hd q => call_plain PyProof.Rows.slot_int_mul rfl PyProof.Rows.entry_int_mul PyProof.Rows.args_int_mul h hd q⟩
section
open PySem.W
variable {prog : Program} {w : World} {A : Around} {E : Value → Shared → Prop} {s : Shared} {K : PySem.W.Frag} {x C L f g : Addr} {h₀ : Heap} {m : Str → Option Value} {ox : Obj} {od : Option Obj}
theorem rbin_K {op : Operator} {id : String} {i : Int} {t : Tok} {Q : Value → Shared → Prop} (D : IntOp op.info.2 id) (F : PyProof.Rows.Fr h₀ L s.heap m) (X₀ : K.In h₀) (I : PySem.W.InstAt s.heap x ox C od) (hd : ox.data = .plain) (hc : PySem.W.selfFirst K C = true)
    (hs : PySem.W.findIn K (.ref C) (PySem.dunder op.info.2) = some (some (.ref f))) (hr : PySem.W.findIn K (.ref C) (PySem.dunderR op.info.2) = some (some (.ref g))) (hg : PySem.W.isFn K (.ref g) = true) (hsub : PySem.W.subIn K (.ref C) (.type "int") = some false)
    (h : wpAny (model prog w) A (call (.ref g) [.ref x, .int i t]) (PySem.W.CmpBack Q) E s) : wpAny (model prog w) A (binaryOp op (.int i t) (.ref x)) Q E s := by
  have X := X₀.keeps F.keep
  obtain ⟨cd, rest, hcd, hm⟩ := PySem.W.ksp_first hc
  rcases hi : op.info with ⟨sym, nm'⟩
  rw [hi] at hs hr D
  dsimp only at hs hr D
  have one := PySem.W.ksp_try X I hr hg h
  have hne : (Value.type "int" == Value.ref C) = false := Bool.eq_false_iff.mpr fun q => by cases beq_iff_eq.mp q
  have L3 := PySem.W.fills_K (M := model prog w) X hcd hm hs
  have L5 := PySem.W.looks_subIn (M := model prog w) X hsub
  simp only [binaryOp, hi]
  refine wpAny_holding (wpAny_bind ?_)
  unfold binaryOp1
  refine wpAny_bind (wpAny_typeOf (typeIs_int s i t) (wpAny_bind (I.type.here (wpAny_bind (wpAny_of_eq D.fills ?_)))))
  simp only [hne, Bool.false_eq_true, if_false]
  refine wpAny_bind (L3.here ?_)
  simp only [Bool.and_self, if_true]
  refine wpAny_bind (L5.here ?_)
  have hpy : numberSlotInPython (.type "int") nm' = pure false := rfl
  simp only [Bool.false_eq_true, if_false, pure_bind, Bool.not_false, Bool.and_self, if_true, hpy]
  simp only [tryMethod]
  refine wpAny_bind (wpAny_bind (wpAny_callSpecial?_slot (typeIs_int s i t) D.slot (D.dec I.at_ hd ?_)))
  refine wpAny_pure (wpAny_bind (wpAny_mono one (fun r s' hr' => ?_) fun _ _ e => e))
  obtain ⟨v, rfl, hq⟩ := hr'
  exact wpAny_bind (wpAny_rule (wpAny_pure (wpAny_pure hq)))
end
section
variable {X : Cx} {n : Nat} {C : Addr} {sp : Sp}
/-- what + and the like ask of the class for an int on the left -/
structure BinR (K : PySem.W.Frag) (C : Addr) (op : Operator) : Prop where
  own : ∃ f : Addr, PySem.W.findIn K (.ref C) (PySem.dunder op.info.2) = some (some (.ref f))
  sub : PySem.W.subIn K (.ref C) (.type "int") = some false
def rBinR (C : Addr) (sp : Sp) : R2 := fun x y H Q => ∃ a dx fs i, x = .int i ∧ y = .ref a ∧ H a = some (.ins C dx fs) ∧ sp [y, x] H Q E0
theorem op_binR {op : Operator} {id : String} (D : IntOp op.info.2 id) (m : Md X.prog X.w X.K X.mg X.base n C (PySem.dunderR op.info.2) sp) (b : BinR X.K C op) (sf : PySem.W.selfFirst X.K C = true) (hr : Room n X.A) : OpR X (binaryOp op) (rBinR C sp) := by
  intro pins s σ H x y v u Q I rx ry h
  obtain ⟨f, F, hs, hf, _⟩ := m.ex
  obtain ⟨a, dx, fs, i, rfl, rfl, ha, q⟩ := h
  obtain ⟨t, rfl⟩ := (show ∃ t, v = Value.int i t from rx)
  cases (show u = Value.ref a from ry)
  obtain ⟨mA, J, _⟩ := ins_get I.hok ha
  obtain ⟨od, J, _⟩ := J.look
  obtain ⟨m, hF⟩ := I.fr
  obtain ⟨g, hg⟩ := b.own
  refine rbin_K D hF I.ok.mod.kin J rfl sf hg hs hf b.sub ?_
  refine wpAny_mono (wpAny_call (run_fnR (us := [.ref a, .int i t]) (vs := [.ref a, .int i]) F hr pass0 I (.cons rfl (.cons ⟨t, rfl⟩ .nil)) q)) (fun w s' z => ?_) fun _ _ x => x
  obtain ⟨z', H', I', rz, qz⟩ := z
  exact SlX.cmpback rz ⟨z', H', I', rz, qz⟩
end
end OR

namespace OR
open PySem PySem.Spec PyProof.Rows L2
/-! ### xs[::-1] of a list of one item -/
section
variable {X : Cx} {e k : Expr} {te tk : TE} {pos p2 : Pos}
def tRev1 (K : PySem.W.Frag) (te tk : TE) : TE := fun σ H Q => te σ H fun x H1 => tk σ H1 fun y H2 => ∃ (a : Addr) (z : V), x = .ref a ∧ y = .int (-1) ∧ SqL K H2 a [z] ∧ ∀ q, H2 q = none → Q (.ref q) (upd H2 q (.lst [z]))
theorem pick1 (w : Value) : slicePick #[w] none none (some (-1)) = #[w] := by with_unfolding_all rfl
theorem pe_rev1 (he : PE X e te) (hk : PE X k tk) : PE X (.Subscript e (.Slice none none (some k) p2) pos) (tRev1 X.K te tk) := by
  refine ⟨fun pins s σ H Q I h => ?_⟩
  refine Subscript_ (thn (he.run pins s σ H _ I h) fun v s1 ⟨x, H1, I1, r1, q1⟩ => ?_)
  refine wpAny_Slice ?_
  rw [evalPart_none]
  refine wpAny_pure (wpAny_pure ?_)
  rw [evalPart_some]
  refine thn (hk.run pins s1 σ H1 _ I1 q1) fun u s2 ⟨y, H2, I2, r2, a, z, ex, ey, hL, q2⟩ => ?_
  subst ex
  subst ey
  obtain ⟨t, rfl⟩ := r2
  cases r1
  have I4 : Inv X pins σ H2 { s2 with heap := s2.heap.push { cls := .type "slice", data := .fields #[.none, .none, .int (-1) t] } } := I2.kept (t' := s2.toks) fun b ob q => Heap.get?_push_of_some _ q
  obtain ⟨its, r, ht, hz⟩ := I4.list hL
  obtain ⟨w, rfl, rw⟩ := r.one
  show wpAny (model X.prog X.w) X.A (subscriptTail e (.Slice none none (some k) p2) (.ref a) (.ref s2.heap.objs.size)) (EP X pins σ Q) X.xe { s2 with heap := s2.heap.push { cls := .type "slice", data := .fields #[.none, .none, .int (-1) t] } }
  refine tail_any (ops := [.ref a, .ref s2.heap.objs.size]) ht.isList.typeIs slot_list_getitem.lookup ?_ (by with_unfolding_all rfl)
  refine wpAny_getItem_list_slice (lo := none) (hi := none) (st := some (-1)) ht.isList (Heap.IsSliceOf.new ..) .none .none (.int _ _) (by decide) ?_ (by show 1 ≤ sizeLine; decide)
  rw [pick1]
  refine ⟨.ref _, _, I4.laid (t' := s2.toks) (o := .lst [z]) (fun b ob q => Heap.get?_push_of_some _ q) (Nat.le_refl _) ?_, rfl, q2 _ (I4.hok.fresh (Nat.le_refl _))⟩
  exact ⟨by show 1 ≤ sizeLine; decide, _, 0, r, Heap.get?_push_size _ rfl⟩
end
end OR

namespace OR
open PySem PySem.Spec PyProof.Rows L2
theorem pt_neverO {X : Cx} {e : Expr} : PT X e (fun _ _ _ => False) := ⟨fun _ _ _ _ _ _ h => h.elim⟩
theorem op_or {X : Cx} {f : Value → Value → Sem Value} {r r' : R2} (h : OpR X f r) (h' : OpR X f r') : OpR X f (fun x y H Q => r x y H Q ∨ r' x y H Q) := by
  intro pins s σ H x y v u Q I rx ry q
  rcases q with q | q
  · exact h pins s σ H x y v u Q I rx ry q
  · exact h' pins s σ H x y v u Q I rx ry q
theorem un_or {X : Cx} {f : Value → Sem Value} {r r' : V → Hp → VK → Prop} (h : UnR X f r) (h' : UnR X f r') : UnR X f (fun x H Q => r x H Q ∨ r' x H Q) := by
  intro pins s σ H x v Q I rx q
  rcases q with q | q
  · exact h pins s σ H x v Q I rx q
  · exact h' pins s σ H x v Q I rx q
/-! ### a line as it stands -/
theorem kSH : ¬ (("slope" : Str) = "height") := by decide +kernel
def lFl (a b : Int) : List (Str × V) := putF "height" (.int b) (putF "slope" (.int a) [])
theorem lFl_slope (a b : Int) : (lFl a b).lookup ("slope" : Str) = some (.int a) := by
  unfold lFl
  rw [lookup_putF, if_neg kSH, lookup_putF, if_pos rfl]
theorem lFl_height (a b : Int) : (lFl a b).lookup ("height" : Str) = some (.int b) := by
  unfold lFl
  rw [lookup_putF, if_pos rfl]
theorem lFl_no (a b : Int) {m : Str} (h1 : ¬ m = "height") (h2 : ¬ m = "slope") : (lFl a b).lookup m = none := by
  unfold lFl
  rw [lookup_putF, if_neg h1, lookup_putF, if_neg h2]
  all_goals rfl
def IsL (C : Addr) (H : Hp) (x : Addr) (a b : Int) : Prop := ∃ dx, H x = some (.ins C dx (lFl a b))
theorem IsL.same {C : Addr} {H H' : Hp} {x : Addr} {a b : Int} (h : IsL C H x a b) (s : Same H H') : IsL C H' x a b := by
  obtain ⟨dx, e⟩ := h
  exact ⟨dx, s _ _ e⟩
theorem IsL.frm {C : Addr} {H H' : Hp} {x p : Addr} {a b : Int} {n : Nat} (h : IsL C H x a b) (s : Frm p H H') (P : Pen H p n) : IsL C H' x a b := by
  obtain ⟨dx, e⟩ := h
  obtain ⟨c, ns, k, l, hp, _⟩ := P
  exact ⟨dx, s _ _ e (ne_of e hp (by intro z; cases z))⟩
theorem Same.frm {p : Addr} {H H' : Hp} (s : Same H H') : Frm p H H' := fun b o e _ => s b o e
theorem Pen.same {H H' : Hp} {p : Addr} {n : Nat} (P : Pen H p n) (s : Same H H') : Pen H' p n := by
  obtain ⟨c, ns, k, l, h1, h2, h⟩ := P
  exact ⟨c, ns, k, l, s _ _ h1, s _ _ h2, h⟩
/-- what the text says of the class Line -/
structure LTxt (K : PySem.W.Frag) (mg : Str → Option Value) (C : Addr) : Prop where
  cl : Cls K C
  nS : NoAttr K C "slope"
  nH : NoAttr K C "height"
  mgC : mg "Line" = some (.ref C)
  sf : PySem.W.selfFirst K C = true
  isi : SlX.SIsi K C
  kLL : PySem.W.kitOne K (.ref C) (.ref C) = some true
  kIL : PySem.W.kitOne K (.type "int") (.ref C) = some false
  kTL : PySem.W.kitOne K (.type "tuple") (.ref C) = some false
  zIsi : mg "isinstance" = none
  zInt : mg "int" = none
  zBool : mg "bool" = none
def spLInit (C : Addr) : Sp := fun vs H Q _ => ∃ (p dx : Addr) (a b : Int), vs = [.ref p, .int a, .int b] ∧ H p = some (.ins C dx []) ∧ ∀ H', H' p = some (.ins C dx (lFl a b)) → (∀ c o, H c = some o → c ≠ p → H' c = some o) → Q .non H'
def spIsInt : Sp := fun vs H Q _ => ∃ n, vs = [.int n] ∧ Q (.bl true) H
def spLNeg (C : Addr) : Sp := fun vs H Q _ => ∃ x a b, vs = [.ref x] ∧ IsL C H x a b ∧ ∀ y H', H y = none → IsL C H' y (-a) (-b) → Same H H' → Q (.ref y) H'
def spLAdd (C : Addr) : Sp := fun vs H Q _ => ∃ (x : Addr) (a b : Int), IsL C H x a b ∧ ((∃ (y : Addr) (c d : Int), vs = [.ref x, .ref y] ∧ IsL C H y c d ∧ ∀ z H', H z = none → IsL C H' z (a + c) (b + d) → Same H H' → Q (.ref z) H') ∨
  (∃ n : Int, vs = [.ref x, .int n] ∧ ∀ z H', H z = none → IsL C H' z a (b + n) → Same H H' → Q (.ref z) H'))
def spLSub (C : Addr) : Sp := fun vs H Q _ => ∃ (x : Addr) (a b : Int), IsL C H x a b ∧ ((∃ (y : Addr) (c d : Int), vs = [.ref x, .ref y] ∧ IsL C H y c d ∧ ∀ z H', H z = none → IsL C H' z (a - c) (b - d) → Same H H' → Q (.ref z) H') ∨
  (∃ n : Int, vs = [.ref x, .int n] ∧ ∀ z H', H z = none → IsL C H' z a (b - n) → Same H H' → Q (.ref z) H'))
def spLRadd (C : Addr) : Sp := fun vs H Q _ => ∃ (x : Addr) (a b n : Int), vs = [.ref x, .int n] ∧ IsL C H x a b ∧ ∀ z H', H z = none → IsL C H' z a (b + n) → Same H H' → Q (.ref z) H'
def spLRsub (C : Addr) : Sp := fun vs H Q _ => ∃ (x : Addr) (a b n : Int), vs = [.ref x, .int n] ∧ IsL C H x a b ∧ ∀ z H', H z = none → IsL C H' z (-a) (-b + n) → Same H H' → Q (.ref z) H'
/-- multiplied; the factor is not too great -/
def spLMul (C : Addr) : Sp := fun vs H Q _ => ∃ (x : Addr) (a b n : Int), vs = [.ref x, .int n] ∧ IsL C H x a b ∧ CMulW a n ∧ CMulW b n ∧ ∀ z H', H z = none → IsL C H' z (a * n) (b * n) → Same H H' → Q (.ref z) H'
def spLMoved (C : Addr) : Sp := fun vs H Q _ => ∃ (x : Addr) (a b n : Int), vs = [.ref x, .int n] ∧ IsL C H x a b ∧ CMulW a n ∧ ∀ z H', H z = none → IsL C H' z a (b - a * n) → Same H H' → Q (.ref z) H'
def spLMirr (C : Addr) : Sp := fun vs H Q _ => ∃ (x : Addr) (a b n : Int), vs = [.ref x, .int n] ∧ IsL C H x a b ∧ CMulW a n ∧ ∀ z H', H z = none → IsL C H' z (-a) (b + a * n) → Same H H' → Q (.ref z) H'
/-- == of a line and a line, or a line and a tuple -/
def spLEq (K : PySem.W.Frag) (C : Addr) : Sp := fun vs H Q _ => ∃ (x : Addr) (a b : Int) (y : V), vs = [.ref x, y] ∧ IsL C H x a b ∧ ((∃ (u : Addr) (c d : Int), y = .ref u ∧ IsL C H u c d ∧ Q (.bl (decide (a = c ∧ b = d))) H) ∨ (TyX K H y (.type "tuple") ∧ Q (.bl false) H))
def spLCall (C : Addr) : Sp := fun vs H Q _ => ∃ (x : Addr) (a b t : Int), vs = [.ref x, .int t] ∧ IsL C H x a b ∧ CMulW a t ∧ Q (.int (a * t + b)) H
section
variable {P : Program} {w : World} {K : PySem.W.Frag} {mg : Str → Option Value} {base : Heap}
theorem scLI : FnScope ["self", "slope", "height"] ["self", "slope", "height"] (defScope sLInit) := ⟨rfl, rfl, rfl, by decide +kernel, rfl, by decide +kernel, by decide +kernel⟩
theorem ok_linit {f C : Addr} {fd : FuncData} (F : Fun K "__init__" "Line.__init__" sLInit f fd) (T : LTxt K mg C) : FnOk P w K mg base CX0 1 f fd ["self", "slope", "height"] (spLInit C) := by
  refine F.ok scLI (fun vs H Q E h => ?_) (fun cdv A outer s H vs Q E hr h => ?_)
  · obtain ⟨p, dx, a, b, rfl, _⟩ := h
    rfl
  · obtain ⟨p, dx, a, b, rfl, hp, q⟩ := h
    refine ⟨_, pss_cons (ps_fld (pv 0) (pv 1) rfl) (pss_one (ps_fld (pv 0) (pv 2) rfl)), ?_⟩
    refine ⟨_, rfl, _, rfl, p, C, dx, [], rfl, hp, T.cl, T.nS, (by show 0 < 1000; decide), _, rfl, _, rfl, p, C, dx, _, rfl, upd_same, T.cl, T.nH, (by show 1 < 1000; decide), ?_⟩
    refine q _ upd_same fun c o e n => ?_
    rw [upd_ne n, upd_ne n]
    exact e
/-- Line(a, b) -/
def tMkL (C : Addr) (t : TA) : TE := fun σ H Q => t σ H fun vs H1 => ∃ a b, vs = [.int a, .int b] ∧ ∀ x H', H1 x = none → IsL C H' x a b → Same H1 H' → Q (.ref x) H'
end
/-- the class Line as it is made -/
structure LMk (P : Program) (w : World) (K : PySem.W.Frag) (mg : Str → Option Value) (base : Heap) (C : Addr) : Prop where
  T : LTxt K mg C
  made : ∃ f fd, Mk K C f ∧ FnOk P w K mg base CX0 1 f fd ["self", "slope", "height"] (spLInit C) ∧ Binds K fd ["self", "slope", "height"] []
theorem pe_mkL {X : Cx} {C : Addr} {j : Nat} {e : Expr} {es : List Expr} {t : TA} {p pos : Pos} (M : LMk X.prog X.w X.K X.mg X.base C) (hr : Room j X.A) (hj : 2 ≤ j) (hg : Gl X "Line") (ha : PA X (e :: es) t)
    (he : starEach (e :: es) X.env = (false, eval e X.env) :: starEach es X.env := by rfl) (hpl : (backTo pos (starEach es X.env)).any (·.1) = false := by rfl) : PE X (.Call (.Name "Line" p) (e :: es) [] pos) (tMkL C t) := by
  obtain ⟨f, fd, mk, F, hb⟩ := M.made
  refine ⟨fun pins s σ H Q I h => ?_⟩
  refine wpAny_Call_Name_kw (ld_glob I hg M.T.mgC ?_ (by decide))
  refine PySem.W.callWith_K (h₀ := X.base) I.ok.mod.kin mk.kp (thn (ha.run pos pins s σ H _ I h) fun us s1 ⟨vs, H1, I1, r, q⟩ => ⟨I1.kIn, ?_⟩) he hpl
  obtain ⟨a, b, rfl, q⟩ := q
  refine run_make mk F (hr.mono hj) hb .nil pass0 I1 r fun x dx nx ndx nex => ?_
  refine ⟨x, dx, a, b, rfl, upd_same, fun H' hx hs => ⟨rfl, q x H' nx ⟨dx, hx⟩ fun c o e => ?_⟩⟩
  have ncx : c ≠ x := ne_of_none e nx
  refine hs c o ?_ ncx
  rw [upd_ne ncx, upd_ne (ne_of_none e ndx)]
  exact e
section
variable {P : Program} {w : World} {K : PySem.W.Frag} {mg : Str → Option Value} {base : Heap}
theorem scLN : FnScope ["self"] ["self"] (defScope sLNeg) := ⟨rfl, rfl, rfl, by decide +kernel, rfl, by decide +kernel, by decide +kernel⟩
theorem ok_lneg {f C : Addr} {fd : FuncData} (F : Fun K "__neg__" "Line.__neg__" sLNeg f fd) (M : LMk P w K mg base C) : FnOk P w K mg base CX0 3 f fd ["self"] (spLNeg C) := by
  have T := M.T
  refine F.ok scLN (fun vs H Q E h => ?_) (fun cdv A outer s H vs Q E hr h => ?_)
  · obtain ⟨x, a, b, rfl, _⟩ := h
    rfl
  · obtain ⟨x, a, b, rfl, ⟨dx, hx⟩, q⟩ := h
    refine ⟨_, pss_one (ps_ret (pe_mkL M hr (by decide) (by rfl) (pa_cons (pe_un un_neg (pe_fld (pv 0) rfl)) (pa_cons (pe_un un_neg (pe_fld (pv 0) rfl)) pa_nil)))), ?_⟩
    exact ⟨_, rfl, x, C, dx, _, _, rfl, hx, T.cl, T.nS, lFl_slope a b, a, rfl, _, rfl, x, C, dx, _, _, rfl, hx, T.cl, T.nH, lFl_height a b, b, rfl, -a, -b, rfl, q⟩
theorem scLC : FnScope ["self", "x"] ["self", "x"] (defScope sLCall) := ⟨rfl, rfl, rfl, by decide +kernel, rfl, by decide +kernel, by decide +kernel⟩
theorem ok_lcall {f C : Addr} {fd : FuncData} (F : Fun K "__call__" "Line.__call__" sLCall f fd) (T : LTxt K mg C) : FnOk P w K mg base CX0 1 f fd ["self", "x"] (spLCall C) := by
  refine F.ok scLC (fun vs H Q E h => ?_) (fun cdv A outer s H vs Q E hr h => ?_)
  · obtain ⟨x, a, b, t, rfl, _⟩ := h
    rfl
  · obtain ⟨x, a, b, t, rfl, ⟨dx, hx⟩, hm, q⟩ := h
    refine ⟨_, pss_one (ps_ret (pe_op op_add (pe_op op_mulW (pe_fld (pv 0) rfl) (pv 1)) (pe_fld (pv 0) rfl))), ?_⟩
    exact ⟨_, rfl, x, C, dx, _, _, rfl, hx, T.cl, T.nS, lFl_slope a b, _, rfl, a, t, rfl, rfl, hm, _, rfl, x, C, dx, _, _, rfl, hx, T.cl, T.nH, lFl_height a b, _, _, rfl, rfl, q⟩
theorem tyL {C : Addr} (T : LTxt K mg C) {H : Hp} {x dx : Addr} {fs : List (Str × V)} (hx : H x = some (.ins C dx fs)) : TyX K H (.ref x) (.ref C) := .base (.ins hx T.cl T.isi.ca T.isi.cn T.isi.ct T.isi.cm)
theorem scII : FnScope ["value"] ["value"] (defScope sIsInt) := ⟨rfl, rfl, rfl, by decide +kernel, rfl, by decide +kernel, by decide +kernel⟩
theorem boot_isi : bootBuiltins ("isinstance" : Str) = some (.builtin "isinstance") := by decide +kernel
theorem boot_intT : bootBuiltins ("int" : Str) = some (.type "int") := by decide +kernel
theorem boot_boolT : bootBuiltins ("bool" : Str) = some (.type "bool") := by decide +kernel
theorem ok_isint {f C : Addr} {fd : FuncData} (F : Fun K "is_integer" "is_integer" sIsInt f fd) (T : LTxt K mg C) : FnOk P w K mg base CX0 1 f fd ["value"] spIsInt := by
  refine F.ok scII (fun vs H Q E h => ?_) (fun cdv A outer s H vs Q E hr h => ?_)
  · obtain ⟨n, rfl, _⟩ := h
    rfl
  · obtain ⟨n, rfl, q⟩ := h
    refine ⟨_, pss_one (ps_ret (pe_and (pe_callB call_isi (by rfl) T.zIsi boot_isi (pa_cons (pv 0) (pa_cons (pe_bltn (v := .ty "int") (by rfl) T.zInt boot_intT rfl) pa_nil)))
      (pe_one (pe_not (pe_callB call_isi (by rfl) T.zIsi boot_isi (pa_cons (pv 0) (pa_cons (pe_bltn (v := .ty "bool") (by rfl) T.zBool boot_boolT rfl) pa_nil))))))), ?_⟩
    refine ⟨_, rfl, .int n, .ty "int", _, _, true, rfl, .ty "int", .base (.int n), kit_ty (by decide +kernel), true, rfl, iteT ⟨_, rfl, .int n, .ty "bool", _, _, false, rfl, .ty "bool", .base (.int n), kit_ty (by decide +kernel), false, rfl, q⟩⟩
theorem scLA : FnScope ["self", "other"] ["self", "other"] (defScope sLAdd) := ⟨rfl, rfl, rfl, by decide +kernel, rfl, by decide +kernel, by decide +kernel⟩
theorem ok_ladd {f C : Addr} {fd : FuncData} (F : Fun K "__add__" "Line.__add__" sLAdd f fd) (M : LMk P w K mg base C) (D : Cl P w K mg base 1 "is_integer" ["value"] spIsInt) : FnOk P w K mg base CX0 3 f fd ["self", "other"] (spLAdd C) := by
  have T := M.T
  refine F.ok scLA (fun vs H Q E h => ?_) (fun cdv A outer s H vs Q E hr h => ?_)
  · obtain ⟨x, a, b, _, ⟨y, c, d, rfl, _⟩ | ⟨n, rfl, _⟩⟩ := h <;> rfl
  · refine ⟨_, pss_cons (ps_if (pt_val (pe_callB call_isi (by rfl) T.zIsi boot_isi (pa_cons (pv 1) (pa_cons (pe_glob (v := .ref C) (by rfl) T.mgC rfl) pa_nil))))
        (pss_one (ps_ret (pe_mkL M hr (by decide) (by rfl) (pa_cons (pe_op op_add (pe_fld (pv 0) rfl) (pe_fld (pv 1) rfl)) (pa_cons (pe_op op_add (pe_fld (pv 0) rfl) (pe_fld (pv 1) rfl)) pa_nil))))) pss_nil)
      (pss_cons (ps_if (pt_val (pe_cl D hr (by decide) (by rfl) (pa_cons (pv 1) pa_nil)))
        (pss_one (ps_ret (pe_mkL M hr (by decide) (by rfl) (pa_cons (pe_fld (pv 0) rfl) (pa_cons (pe_op op_add (pe_fld (pv 0) rfl) (pv 1)) pa_nil))))) pss_nil)
      (pss_one ps_never)), ?_⟩
    obtain ⟨x, a, b, ⟨dx, hx⟩, ⟨y, c, d, rfl, ⟨dy, hy⟩, q⟩ | ⟨n, rfl, q⟩⟩ := h
    · refine ⟨_, rfl, .ref y, .ref C, _, _, true, rfl, .own C, tyL T hy, T.kLL, true, rfl, iteT ?_⟩
      exact ⟨_, rfl, x, C, dx, _, _, rfl, hx, T.cl, T.nS, lFl_slope a b, _, rfl, y, C, dy, _, _, rfl, hy, T.cl, T.nS, lFl_slope c d, _, _, rfl, rfl, _, rfl, x, C, dx, _, _, rfl, hx, T.cl, T.nH, lFl_height a b, _, rfl, y, C, dy, _, _, rfl, hy, T.cl, T.nH, lFl_height c d, _, _, rfl, rfl, _, _, rfl, q⟩
    · refine ⟨_, rfl, .int n, .ref C, _, _, false, rfl, .own C, .base (.int n), T.kIL, false, rfl, iteF ?_⟩
      refine ⟨_, rfl, n, rfl, true, rfl, iteT ?_⟩
      exact ⟨_, rfl, x, C, dx, _, _, rfl, hx, T.cl, T.nS, lFl_slope a b, _, rfl, x, C, dx, _, _, rfl, hx, T.cl, T.nH, lFl_height a b, _, rfl, _, _, rfl, rfl, _, _, rfl, q⟩
theorem sc2L {st : Stmt} (h1 : (defScope st).kind = .function) (h2 : (defScope st).isCoroutine = false) (h3 : (defScope st).isGenerator = false) (h4 : ∀ x ∈ (["self", "other"] : List Str), (defScope st).names.lookup x = some .local ∨ (defScope st).names.lookup x = some .cell) (h6 : (["self", "other"] : List Str).Nodup) : True := trivial
theorem scLS : FnScope ["self", "other"] ["self", "other"] (defScope sLSub) := ⟨rfl, rfl, rfl, by decide +kernel, rfl, by decide +kernel, by decide +kernel⟩
theorem ok_lsub {f C : Addr} {fd : FuncData} (F : Fun K "__sub__" "Line.__sub__" sLSub f fd) (M : LMk P w K mg base C) (D : Cl P w K mg base 1 "is_integer" ["value"] spIsInt) (A1 : Md P w K mg base 3 C (PySem.dunder (Operator.info .Add).2) (spLAdd C)) (BI : BinI K C .Add) (N1 : Md P w K mg base 3 C "__neg__" (spLNeg C)) : FnOk P w K mg base CX0 4 f fd ["self", "other"] (spLSub C) := by
  have T := M.T
  refine F.ok scLS (fun vs H Q E h => ?_) (fun cdv A outer s H vs Q E hr h => ?_)
  · obtain ⟨x, a, b, _, ⟨y, c, d, rfl, _⟩ | ⟨n, rfl, _⟩⟩ := h <;> rfl
  · refine ⟨_, pss_cons (ps_if (PW.pt (pw_or (pt_val (pe_callB call_isi (by rfl) T.zIsi boot_isi (pa_cons (pv 1) (pa_cons (pe_glob (v := .ref C) (by rfl) T.mgC rfl) pa_nil)))) (pw_or1 (pt_val (pe_cl D hr (by decide) (by rfl) (pa_cons (pv 1) pa_nil))))))
        (pss_one (ps_ret (pe_op (op_or (op_binS A1 T.sf hr) (op_binI A1 BI T.sf hr)) (pv 0) (pe_un (un_or (un_negO N1 hr) un_neg) (pv 1))))) pss_nil)
      (pss_one ps_never), ?_⟩
    obtain ⟨x, a, b, ⟨dx, hx⟩, ⟨y, c, d, rfl, ⟨dy, hy⟩, q⟩ | ⟨n, rfl, q⟩⟩ := h
    · refine ⟨_, rfl, .ref y, .ref C, _, _, true, rfl, .own C, tyL T hy, T.kLL, true, rfl, iteT (iteT ?_)⟩
      refine ⟨_, rfl, _, rfl, .inl ⟨y, dy, _, rfl, hy, y, c, d, rfl, ⟨dy, hy⟩, fun z H1 nz hz s1 => ?_⟩⟩
      obtain ⟨dz, hz'⟩ := hz
      refine .inl ⟨x, z, dx, dz, _, _, rfl, rfl, s1 _ _ hx, hz', x, a, b, ⟨dx, s1 _ _ hx⟩, .inl ⟨z, -c, -d, rfl, ⟨dz, hz'⟩, fun z2 H2 nz2 hz2 s2 => ?_⟩⟩
      exact q z2 H2 (s1.free nz2) hz2 (s1.trans s2)
    · refine ⟨_, rfl, .int n, .ref C, _, _, false, rfl, .own C, .base (.int n), T.kIL, false, rfl, iteF ?_⟩
      refine ⟨_, rfl, n, rfl, true, rfl, iteT ?_⟩
      refine ⟨_, rfl, _, rfl, .inr ⟨n, rfl, ?_⟩⟩
      exact .inr ⟨x, dx, _, -n, rfl, rfl, hx, x, a, b, ⟨dx, hx⟩, .inr ⟨-n, rfl, q⟩⟩
theorem scLRa : FnScope ["self", "other"] ["self", "other"] (defScope sLRadd) := ⟨rfl, rfl, rfl, by decide +kernel, rfl, by decide +kernel, by decide +kernel⟩
theorem ok_lradd {f C : Addr} {fd : FuncData} (F : Fun K "__radd__" "Line.__radd__" sLRadd f fd) (T : LTxt K mg C) (A1 : Md P w K mg base 3 C (PySem.dunder (Operator.info .Add).2) (spLAdd C)) (BI : BinI K C .Add) : FnOk P w K mg base CX0 4 f fd ["self", "other"] (spLRadd C) := by
  refine F.ok scLRa (fun vs H Q E h => ?_) (fun cdv A outer s H vs Q E hr h => ?_)
  · obtain ⟨x, a, b, n, rfl, _⟩ := h; rfl
  · obtain ⟨x, a, b, n, rfl, ⟨dx, hx⟩, q⟩ := h
    refine ⟨_, pss_one (ps_ret (pe_op (op_binI A1 BI T.sf hr) (pv 0) (pv 1))), ?_⟩
    exact ⟨_, rfl, _, rfl, x, dx, _, n, rfl, rfl, hx, x, a, b, ⟨dx, hx⟩, .inr ⟨n, rfl, q⟩⟩
theorem scLRs : FnScope ["self", "other"] ["self", "other"] (defScope sLRsub) := ⟨rfl, rfl, rfl, by decide +kernel, rfl, by decide +kernel, by decide +kernel⟩
theorem ok_lrsub {f C : Addr} {fd : FuncData} (F : Fun K "__rsub__" "Line.__rsub__" sLRsub f fd) (T : LTxt K mg C) (A1 : Md P w K mg base 3 C (PySem.dunder (Operator.info .Add).2) (spLAdd C)) (BI : BinI K C .Add) (N1 : Md P w K mg base 3 C "__neg__" (spLNeg C)) : FnOk P w K mg base CX0 4 f fd ["self", "other"] (spLRsub C) := by
  refine F.ok scLRs (fun vs H Q E h => ?_) (fun cdv A outer s H vs Q E hr h => ?_)
  · obtain ⟨x, a, b, n, rfl, _⟩ := h; rfl
  · obtain ⟨x, a, b, n, rfl, ⟨dx, hx⟩, q⟩ := h
    refine ⟨_, pss_one (ps_ret (pe_op (op_binI A1 BI T.sf hr) (pe_un (un_negO N1 hr) (pv 0)) (pv 1))), ?_⟩
    refine ⟨_, rfl, x, dx, _, rfl, hx, x, a, b, rfl, ⟨dx, hx⟩, fun z H1 nz hz s1 => ?_⟩
    obtain ⟨dz, hz'⟩ := hz
    refine ⟨_, rfl, z, dz, _, n, rfl, rfl, hz', z, -a, -b, ⟨dz, hz'⟩, .inr ⟨n, rfl, fun z2 H2 nz2 hz2 s2 => q z2 H2 (s1.free nz2) hz2 (s1.trans s2)⟩⟩
theorem scLMu : FnScope ["self", "other"] ["self", "other"] (defScope sLMul) := ⟨rfl, rfl, rfl, by decide +kernel, rfl, by decide +kernel, by decide +kernel⟩
theorem ok_lmul {f C : Addr} {fd : FuncData} (F : Fun K "__mul__" "Line.__mul__" sLMul f fd) (M : LMk P w K mg base C) (D : Cl P w K mg base 1 "is_integer" ["value"] spIsInt) : FnOk P w K mg base CX0 3 f fd ["self", "other"] (spLMul C) := by
  have T := M.T
  refine F.ok scLMu (fun vs H Q E h => ?_) (fun cdv A outer s H vs Q E hr h => ?_)
  · obtain ⟨x, a, b, n, rfl, _⟩ := h; rfl
  · obtain ⟨x, a, b, n, rfl, ⟨dx, hx⟩, h1, h2, q⟩ := h
    refine ⟨_, pss_cons (ps_if (pt_val (pe_cl D hr (by decide) (by rfl) (pa_cons (pv 1) pa_nil)))
        (pss_one (ps_ret (pe_mkL M hr (by decide) (by rfl) (pa_cons (pe_op op_mulW (pe_fld (pv 0) rfl) (pv 1)) (pa_cons (pe_op op_mulW (pe_fld (pv 0) rfl) (pv 1)) pa_nil))))) pss_nil)
      (pss_one ps_never), ?_⟩
    refine ⟨_, rfl, n, rfl, true, rfl, iteT ?_⟩
    exact ⟨_, rfl, x, C, dx, _, _, rfl, hx, T.cl, T.nS, lFl_slope a b, _, rfl, a, n, rfl, rfl, h1, _, rfl, x, C, dx, _, _, rfl, hx, T.cl, T.nH, lFl_height a b, _, rfl, b, n, rfl, rfl, h2, _, _, rfl, q⟩
theorem scLRm : FnScope ["self", "other"] ["self", "other"] (defScope sLRmul) := ⟨rfl, rfl, rfl, by decide +kernel, rfl, by decide +kernel, by decide +kernel⟩
theorem ok_lrmul {f C : Addr} {fd : FuncData} (F : Fun K "__rmul__" "Line.__rmul__" sLRmul f fd) (T : LTxt K mg C) (A1 : Md P w K mg base 3 C (PySem.dunder (Operator.info .Mult).2) (spLMul C)) (BI : BinI K C .Mult) : FnOk P w K mg base CX0 4 f fd ["self", "other"] (spLMul C) := by
  refine F.ok scLRm (fun vs H Q E h => ?_) (fun cdv A outer s H vs Q E hr h => ?_)
  · obtain ⟨x, a, b, n, rfl, _⟩ := h; rfl
  · obtain ⟨x, a, b, n, rfl, ⟨dx, hx⟩, h1, h2, q⟩ := h
    refine ⟨_, pss_one (ps_ret (pe_op (op_binI A1 BI T.sf hr) (pv 0) (pv 1))), ?_⟩
    exact ⟨_, rfl, _, rfl, x, dx, _, n, rfl, rfl, hx, x, a, b, n, rfl, ⟨dx, hx⟩, h1, h2, q⟩
theorem scLMo : FnScope ["self", "by"] ["self", "by"] (defScope sLMoved) := ⟨rfl, rfl, rfl, by decide +kernel, rfl, by decide +kernel, by decide +kernel⟩
theorem ok_lmoved {f C : Addr} {fd : FuncData} (F : Fun K "moved" "Line.moved" sLMoved f fd) (M : LMk P w K mg base C) : FnOk P w K mg base CX0 3 f fd ["self", "by"] (spLMoved C) := by
  have T := M.T
  refine F.ok scLMo (fun vs H Q E h => ?_) (fun cdv A outer s H vs Q E hr h => ?_)
  · obtain ⟨x, a, b, n, rfl, _⟩ := h; rfl
  · obtain ⟨x, a, b, n, rfl, ⟨dx, hx⟩, h1, q⟩ := h
    refine ⟨_, pss_one (ps_ret (pe_mkL M hr (by decide) (by rfl) (pa_cons (pe_fld (pv 0) rfl) (pa_cons (pe_op op_sub (pe_fld (pv 0) rfl) (pe_op op_mulW (pe_fld (pv 0) rfl) (pv 1))) pa_nil)))), ?_⟩
    exact ⟨_, rfl, x, C, dx, _, _, rfl, hx, T.cl, T.nS, lFl_slope a b, _, rfl, x, C, dx, _, _, rfl, hx, T.cl, T.nH, lFl_height a b, _, rfl, x, C, dx, _, _, rfl, hx, T.cl, T.nS, lFl_slope a b, _, rfl, a, n, rfl, rfl, h1, _, _, rfl, rfl, _, _, rfl, q⟩
theorem scLMi : FnScope ["self", "last"] ["self", "last"] (defScope sLMirr) := ⟨rfl, rfl, rfl, by decide +kernel, rfl, by decide +kernel, by decide +kernel⟩
theorem ok_lmirr {f C : Addr} {fd : FuncData} (F : Fun K "mirrored" "Line.mirrored" sLMirr f fd) (M : LMk P w K mg base C) : FnOk P w K mg base CX0 3 f fd ["self", "last"] (spLMirr C) := by
  have T := M.T
  refine F.ok scLMi (fun vs H Q E h => ?_) (fun cdv A outer s H vs Q E hr h => ?_)
  · obtain ⟨x, a, b, n, rfl, _⟩ := h; rfl
  · obtain ⟨x, a, b, n, rfl, ⟨dx, hx⟩, h1, q⟩ := h
    refine ⟨_, pss_one (ps_ret (pe_mkL M hr (by decide) (by rfl) (pa_cons (pe_un un_neg (pe_fld (pv 0) rfl)) (pa_cons (pe_op op_add (pe_fld (pv 0) rfl) (pe_op op_mulW (pe_fld (pv 0) rfl) (pv 1))) pa_nil)))), ?_⟩
    exact ⟨_, rfl, x, C, dx, _, _, rfl, hx, T.cl, T.nS, lFl_slope a b, a, rfl, _, rfl, x, C, dx, _, _, rfl, hx, T.cl, T.nH, lFl_height a b, _, rfl, x, C, dx, _, _, rfl, hx, T.cl, T.nS, lFl_slope a b, _, rfl, a, n, rfl, rfl, h1, _, _, rfl, rfl, _, _, rfl, q⟩
theorem scLEq : FnScope ["self", "other"] ["self", "other"] (defScope sLEq) := ⟨rfl, rfl, rfl, by decide +kernel, rfl, by decide +kernel, by decide +kernel⟩
theorem ok_leq {f C : Addr} {fd : FuncData} (F : Fun K "__eq__" "Line.__eq__" sLEq f fd) (T : LTxt K mg C) : FnOk P w K mg base CX0 1 f fd ["self", "other"] (spLEq K C) := by
  refine F.ok scLEq (fun vs H Q E h => ?_) (fun cdv A outer s H vs Q E hr h => ?_)
  · obtain ⟨x, a, b, y, rfl, _⟩ := h; rfl
  · obtain ⟨x, a, b, y, rfl, ⟨dx, hx⟩, h⟩ := h
    refine ⟨_, pss_one (ps_ret (pe_and (pe_callB call_isi (by rfl) T.zIsi boot_isi (pa_cons (pv 1) (pa_cons (pe_glob (v := .ref C) (by rfl) T.mgC rfl) pa_nil)))
      (pe_and (pe_cmpR op_eq (pe_fld (pv 0) rfl) (pe_fld (pv 1) rfl) (nomark _)) (pe_one (pe_cmpR op_eq (pe_fld (pv 0) rfl) (pe_fld (pv 1) rfl) (nomark _)))))), ?_⟩
    rcases h with ⟨u, c, d, rfl, ⟨du, hu⟩, q⟩ | ⟨ty, q⟩
    · refine ⟨_, rfl, .ref u, .ref C, _, _, true, rfl, .own C, tyL T hu, T.kLL, true, rfl, iteT ?_⟩
      refine ⟨_, rfl, x, C, dx, _, _, rfl, hx, T.cl, T.nS, lFl_slope a b, _, rfl, u, C, du, _, _, rfl, hu, T.cl, T.nS, lFl_slope c d, rfl, _, rfl, ite2 (fun e => ?_) (fun e => ?_)⟩
      · have e1 : a = c := by have := of_decide_eq_true e; cases this; rfl
        refine ⟨_, rfl, x, C, dx, _, _, rfl, hx, T.cl, T.nH, lFl_height a b, _, rfl, u, C, du, _, _, rfl, hu, T.cl, T.nH, lFl_height c d, rfl, ?_⟩
        have : decide (V.int b = V.int d) = decide (a = c ∧ b = d) := by
          by_cases h : b = d <;> simp [h, e1]
        rw [this]; exact q
      · have e1 : ¬ a = c := fun z => e (decide_eq_true (by rw [z]))
        have : decide (a = c ∧ b = d) = false := by
          simp [e1]
        rw [this] at q; exact q
    · exact ⟨_, rfl, y, .ref C, _, _, false, rfl, .own C, ty, T.kTL, false, rfl, iteF q⟩
end
end OR

namespace OR
open PySem PySem.Spec PyProof.Rows L2
/-! ### the texts of integers and lines -/
def dT (n : Int) : Str := Str.ofString (toString n)
theorem str_ext {a b : Str} (h : a.cps.toList = b.cps.toList) : a = b := by
  cases a; cases b
  simp only at h
  rw [Array.toList_inj.mp h]
theorem cps_app (a b : Str) : (a ++ b).cps.toList = a.cps.toList ++ b.cps.toList := by
  show (a.cps ++ b.cps).toList = _
  rw [Array.toList_append]
theorem app_assoc (a b c : Str) : (a ++ b) ++ c = a ++ (b ++ c) := str_ext (by simp only [cps_app, List.append_assoc])
theorem emp_app (a : Str) : Str.empty ++ a = a := str_ext (by rw [cps_app]; rfl)
theorem len_app (a b : Str) : (a ++ b).length = a.length + b.length := by
  show (a.cps ++ b.cps).size = _
  rw [Array.size_append]; rfl
theorem ofS_app (a b : String) : Str.ofString (a ++ b) = Str.ofString a ++ Str.ofString b := str_ext (by
  rw [cps_app, Str.ofString_eq_toList, Str.ofString_eq_toList, Str.ofString_eq_toList]
  simp)
theorem dT_neg {n : Int} (h : n < 0) : dT n = ("-" : Str) ++ dT (-n) := by
  cases n with
  | ofNat m => exact absurd h (Int.not_lt.mpr (Int.natCast_nonneg m))
  | negSucc m =>
    show Str.ofString (toString (Int.negSucc m)) = Str.ofString "-" ++ Str.ofString (toString (-(Int.negSucc m)))
    rw [← ofS_app]
    rfl
theorem dT_len {n : Int} {k : Nat} (hk : 0 < k) (h : n.natAbs < 10 ^ k) : (dT n).length ≤ k + 1 := by
  unfold dT
  rw [PySem.ofString_length]
  exact int_text_length_le10 hk h
theorem dT_log {n : Int} (h : n.natAbs < 10 ^ 60) : n.natAbs.log2 < 1920 := PySem.Flt.log2_lt_of (by decide) (Nat.lt_of_lt_of_le h (by decide))
def absI (n : Int) : Int := if n < 0 then -n else n
theorem absI_nat (n : Int) : (absI n).natAbs = n.natAbs := by unfold absI; split <;> omega
theorem absI_nn (n : Int) : 0 ≤ absI n := by unfold absI; split <;> omega
def riseT (a : Int) : Str := if a = 1 then "x" else if a = -1 then "-x" else dT a ++ (" x" : Str)
def lineT (a b : Int) : Str := if a = 0 then dT b else if b = 0 then riseT a else (riseT a ++ (if 0 < b then (" + " : Str) else (" - " : Str))) ++ dT (absI b)
structure TTxt (mg : Str → Option Value) : Prop where
  zAbs : mg "abs" = none
  zStr : mg "str" = none
  zDiv : mg "divmod" = none
  blk : ∃ t, mg "_BLOCK" = some (.int (10 ^ 60) t)
def spDec : Sp := fun vs H Q _ => ∃ n : Int, vs = [.int n] ∧ n.natAbs < 10 ^ 60 ∧ ∀ H', Same H H' → Q (.str (dT n)) H'
def spRise : Sp := fun vs H Q _ => ∃ n : Int, vs = [.int n] ∧ n.natAbs < 10 ^ 40 ∧ ∀ H', Same H H' → Q (.str (riseT n)) H'
def spText (C : Addr) : Sp := fun vs H Q _ => ∃ (x : Addr) (a b : Int), vs = [.ref x] ∧ IsL C H x a b ∧ a.natAbs < 10 ^ 40 ∧ b.natAbs < 10 ^ 40 ∧ ∀ H', Same H H' → Q (.str (lineT a b)) H'
def spLTx : Sp := fun vs H Q _ => ∃ (x : Addr) (a b : Int), vs = [.ref x] ∧ H x = some (.tup [.int a, .int b]) ∧ a.natAbs < 10 ^ 40 ∧ b.natAbs < 10 ^ 40 ∧ Q (.str (lineT a b)) H
theorem boot_strT : bootBuiltins ("str" : Str) = some (.type "str") := by decide +kernel
theorem join1 (y : Str) : Txt.join ("" : Str) [y] = y := by with_unfolding_all rfl
theorem sz1 {n : Nat} (h : n ≤ 1000) : n ≤ sizeLine := Nat.le_trans h (by decide)
section
variable {P : Program} {w : World} {K : PySem.W.Frag} {mg : Str → Option Value} {base : Heap}
theorem scDe : FnScope ["number", "rest", "blocks", "block", "digits"] ["number"] (defScope sDec) := ⟨rfl, rfl, rfl, by decide +kernel, rfl, by decide +kernel, by decide +kernel⟩
theorem ok_dec {f : Addr} {fd : FuncData} (F : Fun K "decimal" "decimal" sDec f fd) (T : TTxt mg) : FnOk P w K mg base CX0 1 f fd ["number"] spDec := by
  obtain ⟨tk, hblk⟩ := T.blk
  refine F.ok scDe (fun vs H Q E h => ?_) (fun cdv A outer s H vs Q E hr h => ?_)
  · obtain ⟨n, rfl, _⟩ := h; rfl
  · obtain ⟨n, rfl, hb, q⟩ := h
    have nd := scDe.nd
    refine ⟨_, pss_cons (ps_set (i := 1) nd rfl (.inl rfl) (pe_callB call_abs (by rfl) T.zAbs boot_absO (pa_cons (pv 0) pa_nil)))
      (pss_cons (ps_set (i := 2) nd rfl (.inl rfl) (pe_lst pa_nil))
      (pss_cons (ps_while PassesOwn.never (pt_cmpR op_ge (pv 1) (pe_glob (v := .int (10 ^ 60)) (by rfl) hblk ⟨_, rfl⟩) (nomark _)) (pss_cons ps_never (pss_one ps_never)))
      (pss_cons (ps_expr (pe_bm PySem.F.plainAttrs_list PySem.F.slot_list_append PySem.F.type_list_append mt_append (pv 2) (pa_cons (pe_callTy call_str_int (by rfl) T.zStr boot_strT (pa_cons (pv 1) pa_nil)) pa_nil)))
      (pss_cons (ps_set (i := 4) nd rfl (.inl rfl) (pe_join pe_str (pe_rev1 (pv 2) (pe_un un_neg pe_int))))
      (pss_one (ps_ret (pe_ifExp (pt_cmpR op_ge (pv 0) pe_int (nomark _)) (pv 4) (pe_op op_add_str pe_str (pv 4))))))))), ?_⟩
    refine ⟨_, rfl, n, rfl, by show 0 ≤ sizeLine; decide, fun l hl => ?_⟩
    have ea : (if n < 0 then -n else n) = absI n := rfl
    rw [ea]
    have h60 : absI n < 10 ^ 60 := by
      have := absI_nat n
      have := absI_nn n
      omega
    refine ⟨fun m σ' H' => m = 0 ∧ σ' = _ ∧ H' = _, ⟨0, rfl, rfl, rfl⟩, ?_⟩
    rintro m σ' H' ⟨_, rfl, rfl⟩
    refine ⟨_, rfl, _, _, rfl, rfl, _, rfl, ?_⟩
    rw [decide_eq_false (by show ¬ (10 ^ 60 ≤ absI n); omega)]
    refine iteF ?_
    have hl1 : (upd H l (.lst [])) l = some (.lst []) := upd_same
    refine ⟨_, rfl, .inl ⟨rfl, _, .inl (.inl hl1)⟩, _, rfl, absI n, rfl, dT_log (by rw [absI_nat]; exact hb), l, _, _, rfl, rfl, hl1, by show 0 < sizeLine; decide, ?_⟩
    have hl2 : (upd (upd H l (.lst [])) l (.lst ([] ++ [V.str (dT (absI n))]))) l = some (.lst [V.str (dT (absI n))]) := upd_same
    refine ⟨⟨_, rfl⟩, _, rfl, 1, rfl, l, _, rfl, rfl, .inl (.inl hl2), fun r hr1 => ?_⟩
    have hr2 : (upd (upd (upd H l (.lst [])) l (.lst ([] ++ [V.str (dT (absI n))]))) r (.lst [V.str (dT (absI n))])) r = some (.lst [V.str (dT (absI n))]) := upd_same
    have hlen : (dT (absI n)).length ≤ 61 := dT_len (by decide) (by rw [absI_nat]; exact hb)
    refine ⟨_, r, [dT (absI n)], rfl, rfl, .inl (.inl (.inl hr2)), ?_, ?_⟩
    · have e0 : (Str.ofString "").length = 0 := by rfl
      simp only [List.map, List.sum_cons, List.sum_nil, List.length, e0]
      omega
    have S : Same H (upd (upd (upd H l (.lst [])) l (.lst ([] ++ [V.str (dT (absI n))]))) r (.lst [V.str (dT (absI n))])) := fun b o e => by
      have n1 : b ≠ l := ne_of_none e hl
      have e2 : (upd (upd H l (.lst [])) l (.lst ([] ++ [V.str (dT (absI n))]))) b = some o := by rw [upd_ne n1, upd_ne n1]; exact e
      rw [upd_ne (ne_of_none e2 hr1)]
      exact e2
    refine ⟨_, rfl, _, _, rfl, rfl, _, rfl, ite2 (fun e => ?_) (fun e => ?_)⟩
    · have h0 : 0 ≤ n := of_decide_eq_true e
      refine ⟨_, rfl, ?_⟩
      have e1 : absI n = n := by unfold absI; rw [if_neg (by omega)]
      have q1 := q _ S
      have e2 : dT n = dT (absI n) := by rw [e1]
      show Q (.str (Txt.join (Str.ofString "") [dT (absI n)])) _
      rw [join1]
      rw [e2] at q1
      exact q1
    · have h0 : n < 0 := by
        have : ¬ (0 ≤ n) := fun z => e (decide_eq_true z)
        omega
      have e1 : absI n = -n := by unfold absI; rw [if_pos h0]
      have q1 := q _ S
      rw [dT_neg h0, ← e1] at q1
      refine ⟨_, rfl, _, _, rfl, rfl, sz1 ?_, ?_⟩
      · show 1 + (Txt.join (Str.ofString "") [dT (absI n)]).length ≤ 1000
        rw [join1]
        omega
      · show Q (.str (Str.ofString "-" ++ Txt.join (Str.ofString "") [dT (absI n)])) _
        rw [join1]
        exact q1
theorem scRi : FnScope ["slope"] ["slope"] (defScope sRise) := ⟨rfl, rfl, rfl, by decide +kernel, rfl, by decide +kernel, by decide +kernel⟩
theorem ok_rise {f : Addr} {fd : FuncData} (F : Fun K "_rising_text" "_rising_text" sRise f fd) (D : Cl P w K mg base 1 "decimal" ["number"] spDec) : FnOk P w K mg base CX0 2 f fd ["slope"] spRise := by
  refine F.ok scRi (fun vs H Q E h => ?_) (fun cdv A outer s H vs Q E hr h => ?_)
  · obtain ⟨n, rfl, _⟩ := h; rfl
  · obtain ⟨n, rfl, hb, q⟩ := h
    refine ⟨_, pss_cons (ps_if (pt_cmpR op_eq (pv 0) pe_int (nomark _)) (pss_one (ps_ret pe_str)) pss_nil)
      (pss_cons (ps_if (pt_cmpR op_eq (pv 0) (pe_un un_neg pe_int) (nomark _)) (pss_one (ps_ret pe_str)) pss_nil)
      (pss_one (ps_ret (pe_joined (.cons (pe_fmt (pe_cl D hr (by decide) (by rfl) (pa_cons (pv 0) pa_nil))) (.cons pe_str .nil)))))), ?_⟩
    refine ⟨_, rfl, rfl, _, rfl, ite2 (fun e => ?_) (fun e => ?_)⟩
    · have e1 : n = 1 := V.int.inj (of_decide_eq_true e)
      have q1 := q H fun _ _ z => z
      unfold riseT at q1
      rw [if_pos e1] at q1
      exact q1
    · have e1 : ¬ n = 1 := fun z => e (decide_eq_true (by rw [z]))
      refine ⟨_, rfl, 1, rfl, rfl, _, rfl, ite2 (fun e2 => ?_) (fun e2 => ?_)⟩
      · have e3 : n = -1 := V.int.inj (of_decide_eq_true e2)
        have q1 := q H fun _ _ z => z
        unfold riseT at q1
        rw [if_neg e1, if_pos e3] at q1
        exact q1
      · have e3 : ¬ n = -1 := fun z => e2 (decide_eq_true (by rw [z]))
        have hlen : (dT n).length ≤ 41 := dT_len (by decide) hb
        refine ⟨_, rfl, n, rfl, Nat.lt_of_lt_of_le hb (by decide), fun H1 S1 => ?_⟩
        refine .inl ⟨_, rfl, sz1 (by omega), _, rfl, sz1 (by rw [emp_app]; omega), _, rfl, sz1 ?_, ?_⟩
        · rw [emp_app, len_app]
          show (dT n).length + 2 ≤ 1000
          omega
        · have q1 := q H1 S1
          unfold riseT at q1
          rw [if_neg e1, if_neg e3] at q1
          rw [emp_app]
          exact q1
theorem rise_len {a : Int} (h : a.natAbs < 10 ^ 40) : (riseT a).length ≤ 50 := by
  unfold riseT
  split
  · decide
  · split
    · decide
    · rw [len_app]
      have := dT_len (k := 40) (by decide) h
      show (dT a).length + 2 ≤ 50
      omega
theorem scTe : FnScope ["self", "rising", "sign"] ["self"] (defScope sLText) := ⟨rfl, rfl, rfl, by decide +kernel, rfl, by decide +kernel, by decide +kernel⟩
theorem ok_text {f C : Addr} {fd : FuncData} (F : Fun K "text" "Line.text" sLText f fd) (T : LTxt K mg C) (TT : TTxt mg) (D : Cl P w K mg base 1 "decimal" ["number"] spDec) (R : Cl P w K mg base 2 "_rising_text" ["slope"] spRise) : FnOk P w K mg base CX0 3 f fd ["self"] (spText C) := by
  refine F.ok scTe (fun vs H Q E h => ?_) (fun cdv A outer s H vs Q E hr h => ?_)
  · obtain ⟨x, a, b, rfl, _⟩ := h; rfl
  · obtain ⟨x, a, b, rfl, hx, ha, hb, q⟩ := h
    have nd := scTe.nd
    refine ⟨_, pss_cons (ps_if (pt_cmpR op_eq (pe_fld (pv 0) rfl) pe_int (nomark _)) (pss_one (ps_ret (pe_cl D hr (by decide) (by rfl) (pa_cons (pe_fld (pv 0) rfl) pa_nil)))) pss_nil)
      (pss_cons (ps_set (i := 1) nd rfl (.inl rfl) (pe_cl R hr (by decide) (by rfl) (pa_cons (pe_fld (pv 0) rfl) pa_nil)))
      (pss_cons (ps_if (pt_cmpR op_eq (pe_fld (pv 0) rfl) pe_int (nomark _)) (pss_one (ps_ret (pv 1))) pss_nil)
      (pss_cons (ps_set (i := 2) nd rfl (.inl rfl) (pe_ifExp (pt_cmpR op_gt (pe_fld (pv 0) rfl) pe_int (nomark _)) pe_str pe_str))
      (pss_one (ps_ret (pe_joined (.cons (pe_fmt (pv 1)) (.cons pe_str (.cons (pe_fmt (pv 2)) (.cons pe_str (.cons (pe_fmt (pe_cl D hr (by decide) (by rfl) (pa_cons (pe_callB call_abs (by rfl) TT.zAbs boot_absO (pa_cons (pe_fld (pv 0) rfl) pa_nil)) pa_nil))) .nil))))))))))), ?_⟩
    obtain ⟨dx, hx'⟩ := hx
    have p60 : ∀ {z : Int}, z.natAbs < 10 ^ 40 → z.natAbs < 10 ^ 60 := fun h => Nat.lt_of_lt_of_le h (by decide)
    refine ⟨_, rfl, x, C, dx, _, _, rfl, hx', T.cl, T.nS, lFl_slope a b, rfl, _, rfl, ite2 (fun e => ?_) (fun e => ?_)⟩
    · have e1 : a = 0 := V.int.inj (of_decide_eq_true e)
      refine ⟨_, rfl, x, C, dx, _, _, rfl, hx', T.cl, T.nH, lFl_height a b, b, rfl, p60 hb, fun H1 S1 => ?_⟩
      have q1 := q H1 S1
      unfold lineT at q1
      rw [if_pos e1] at q1
      exact q1
    · have e1 : ¬ a = 0 := fun z => e (decide_eq_true (by rw [z]))
      refine ⟨_, rfl, x, C, dx, _, _, rfl, hx', T.cl, T.nS, lFl_slope a b, a, rfl, ha, fun H1 S1 => ?_⟩
      have hx1 := S1 _ _ hx'
      refine ⟨_, rfl, x, C, dx, _, _, rfl, hx1, T.cl, T.nH, lFl_height a b, rfl, _, rfl, ite2 (fun e2 => ?_) (fun e2 => ?_)⟩
      · have e3 : b = 0 := V.int.inj (of_decide_eq_true e2)
        have q1 := q H1 S1
        unfold lineT at q1
        rw [if_neg e1, if_pos e3] at q1
        exact ⟨_, rfl, q1⟩
      · have e3 : ¬ b = 0 := fun z => e2 (decide_eq_true (by rw [z]))
        have hR := rise_len ha
        have hD : (dT (absI b)).length ≤ 41 := dT_len (by decide) (by rw [absI_nat]; exact hb)
        have fin : ∀ (sg sg2 : Str), sg.length = 1 → ((" " : Str) ++ sg) ++ (" " : Str) = sg2 → (if 0 < b then (" + " : Str) else (" - " : Str)) = sg2 → ∀ H2, Same H H2 → 
            (((((Str.empty ++ riseT a) ++ (" " : Str)) ++ sg) ++ (" " : Str)) ++ dT (absI b)) = lineT a b ∧ ((((Str.empty ++ riseT a) ++ (" " : Str)) ++ sg) ++ (" " : Str)).length ≤ 100 := fun sg sg2 h1 h2 h3 H2 S2 => by
          constructor
          · unfold lineT
            rw [if_neg e1, if_neg e3, h3, ← h2, emp_app]
            simp only [app_assoc]
          · rw [emp_app, len_app, len_app, len_app, h1]
            show (riseT a).length + 1 + 1 + 1 ≤ 100
            omega
        have tail : ∀ (sg sg2 : Str), sg.length = 1 → ((" " : Str) ++ sg) ++ (" " : Str) = sg2 → (if 0 < b then (" + " : Str) else (" - " : Str)) = sg2 → ∀ H2, Same H H2 → ((((((Str.empty ++ riseT a) ++ (" " : Str)) ++ sg) ++ (" " : Str)) ++ dT (absI b)).length ≤ sizeLine ∧ Q (.str (((((Str.empty ++ riseT a) ++ (" " : Str)) ++ sg) ++ (" " : Str)) ++ dT (absI b))) H2) := fun sg sg2 h1 h2 h3 H2 S2 => by
          have L := fin sg sg2 h1 h2 h3 H2 S2
          refine ⟨sz1 ?_, by rw [L.1]; exact q H2 S2⟩
          rw [len_app]
          have := L.2
          omega
        have pre : ∀ (sg : Str), sg.length = 1 → (Str.empty ++ riseT a).length ≤ 1000 ∧ ((Str.empty ++ riseT a) ++ (" " : Str)).length ≤ 1000 ∧ (((Str.empty ++ riseT a) ++ (" " : Str)) ++ sg).length ≤ 1000 ∧ ((((Str.empty ++ riseT a) ++ (" " : Str)) ++ sg) ++ (" " : Str)).length ≤ 1000 := fun sg h1 => by
          have e0 : (Str.empty ++ riseT a).length = (riseT a).length := by rw [emp_app]
          have e1 : ((Str.empty ++ riseT a) ++ (" " : Str)).length = (riseT a).length + 1 := by rw [len_app, e0]; rfl
          have e2 : (((Str.empty ++ riseT a) ++ (" " : Str)) ++ sg).length = (riseT a).length + 2 := by rw [len_app, e1, h1]
          have e3 : ((((Str.empty ++ riseT a) ++ (" " : Str)) ++ sg) ++ (" " : Str)).length = (riseT a).length + 3 := by rw [len_app, e2]; rfl
          rw [e0, e1, e2, e3]
          omega
        have dB : (absI b).natAbs < 10 ^ 60 := by rw [absI_nat]; exact p60 hb
        refine ⟨_, rfl, x, C, dx, _, _, rfl, hx1, T.cl, T.nH, lFl_height a b, _, _, rfl, rfl, _, rfl, ite2 (fun e4 => ?_) (fun e4 => ?_)⟩
        · have hb0 : 0 < b := of_decide_eq_true e4
          obtain ⟨l1, l2, l3, l4⟩ := pre ("+" : Str) (by decide)
          refine ⟨_, rfl, .inl ⟨_, rfl, sz1 (by omega), _, rfl, sz1 l1, _, rfl, sz1 l2, _, rfl, .inl ⟨_, rfl, by decide, _, rfl, sz1 l3, _, rfl, sz1 l4, _, rfl, x, C, dx, _, _, rfl, hx1, T.cl, T.nH, lFl_height a b, b, rfl, absI b, rfl, dB, fun H2 S2 => .inl ⟨_, rfl, sz1 (by omega), _, rfl, ?_⟩⟩⟩⟩
          exact tail ("+" : Str) (" + " : Str) (by decide) (by decide) (if_pos hb0) H2 (S1.trans S2)
        · have hb0 : ¬ 0 < b := fun z => e4 (decide_eq_true z)
          obtain ⟨l1, l2, l3, l4⟩ := pre ("-" : Str) (by decide)
          refine ⟨_, rfl, .inl ⟨_, rfl, sz1 (by omega), _, rfl, sz1 l1, _, rfl, sz1 l2, _, rfl, .inl ⟨_, rfl, by decide, _, rfl, sz1 l3, _, rfl, sz1 l4, _, rfl, x, C, dx, _, _, rfl, hx1, T.cl, T.nH, lFl_height a b, b, rfl, absI b, rfl, dB, fun H2 S2 => .inl ⟨_, rfl, sz1 (by omega), _, rfl, ?_⟩⟩⟩⟩
          exact tail ("-" : Str) (" - " : Str) (by decide) (by decide) (if_neg hb0) H2 (S1.trans S2)
theorem scLX : FnScope ["_law_line_here", "_law_slope", "_law_height", "_law_head"] ["_law_line_here"] (defScope sLTx) := ⟨rfl, rfl, rfl, by decide +kernel, rfl, by decide +kernel, by decide +kernel⟩
theorem ok_ltx {f : Addr} {fd : FuncData} (F : Fun K "_law_line_text" "_law_line_text" sLTx f fd) (TT : TTxt mg) : FnOk P w K mg base CX0 1 f fd ["_law_line_here"] spLTx := by
  refine F.ok scLX (fun vs H Q E h => ?_) (fun cdv A outer s H vs Q E hr h => ?_)
  · obtain ⟨x, a, b, rfl, _⟩ := h; rfl
  · obtain ⟨x, a, b, rfl, hx, ha, hb, q⟩ := h
    have nd := scLX.nd
    refine ⟨_, pss_cons (ps_asg (pv 0) (pg_tup rfl (pgs_cons (pg_name (i := 1) nd rfl (.inl rfl)) (pgs_cons (pg_name (i := 2) nd rfl (.inl rfl)) pgs_nil))))
      (pss_cons (ps_if (pt_cmpR op_eq (pv 1) pe_int (nomark _)) (pss_one (ps_ret (pe_callTy call_str_int (by rfl) TT.zStr boot_strT (pa_cons (pv 2) pa_nil)))) pss_nil)
      (pss_cons (ps_set (i := 3) nd rfl (.inl rfl) (pe_op op_add_str (pe_callTy call_str_int (by rfl) TT.zStr boot_strT (pa_cons (pv 1) pa_nil)) pe_str))
      (Evl.pss_cut (ps_if (PW.pt (pw_or (pt_cmpR op_eq (pv 1) pe_int (nomark _)) (pw_or1 (pt_cmpR op_eq (pv 1) (pe_un un_neg pe_int) (nomark _)))))
        (pss_one (ps_set (i := 3) nd rfl (.inl rfl) (pe_ifExp (pt_cmpR op_eq (pv 1) pe_int (nomark _)) pe_str pe_str))) pss_nil)
      (pss_cons (ps_if (pt_cmpR op_eq (pv 2) pe_int (nomark _)) (pss_one (ps_ret (pv 3))) pss_nil)
      (pss_one (ps_ret (pe_op op_add_str (pe_op op_add_str (pv 3) (pe_ifExp (pt_cmpR op_gt (pv 2) pe_int (nomark _)) pe_str pe_str)) (pe_callTy call_str_int (by rfl) TT.zStr boot_strT (pa_cons (pe_callB call_abs (by rfl) TT.zAbs boot_absO (pa_cons (pv 2) pa_nil)) pa_nil))))))))), ?_⟩
    have lg : ∀ {z : Int}, z.natAbs < 10 ^ 40 → z.natAbs.log2 < 1920 := fun h => dT_log (Nat.lt_of_lt_of_le h (by decide))
    refine ⟨_, rfl, x, _, rfl, .inl (.inl hx), rfl, _, _, rfl, _, _, rfl, rfl, ?_⟩
    refine ⟨_, rfl, rfl, _, rfl, ite2 (fun e => ?_) (fun e => ?_)⟩
    · have e1 : a = 0 := V.int.inj (of_decide_eq_true e)
      unfold lineT at q
      rw [if_pos e1] at q
      exact ⟨_, rfl, b, rfl, lg hb, q⟩
    · have e1 : ¬ a = 0 := fun z => e (decide_eq_true (by rw [z]))
      have hA : (dT a).length ≤ 41 := dT_len (by decide) ha
      have hD : (dT (absI b)).length ≤ 41 := dT_len (by decide) (by rw [absI_nat]; exact hb)
      have hR := rise_len ha
      refine ⟨_, rfl, a, rfl, lg ha, _, _, rfl, rfl, sz1 (by show (dT a).length + 2 ≤ 1000; omega), ?_⟩
      refine ⟨fun σ' H' => σ' = [some (.ref x), some (.int a), some (.int b), some (.str (riseT a))] ∧ H' = H, ?_, ?_⟩
      · refine ⟨_, rfl, rfl, _, rfl, ite2 (fun e2 => ?_) (fun e2 => ?_)⟩
        · have e3 : a = 1 := V.int.inj (of_decide_eq_true e2)
          refine ⟨_, rfl, rfl, _, rfl, ite2 (fun _ => ?_) (fun z => absurd e2 z)⟩
          refine ⟨?_, rfl⟩
          unfold riseT
          rw [if_pos e3]
          rfl
        · have e3 : ¬ a = 1 := fun z => e2 (decide_eq_true (by rw [z]))
          refine ⟨_, rfl, 1, rfl, rfl, _, rfl, ite2 (fun e4 => ?_) (fun e4 => ?_)⟩
          · have e5 : a = -1 := V.int.inj (of_decide_eq_true e4)
            refine ⟨_, rfl, rfl, _, rfl, ite2 (fun z => absurd z e2) (fun _ => ?_)⟩
            refine ⟨?_, rfl⟩
            unfold riseT
            rw [if_neg e3, if_pos e5]
            rfl
          · have e5 : ¬ a = -1 := fun z => e4 (decide_eq_true (by rw [z]))
            refine ⟨?_, rfl⟩
            unfold riseT
            rw [if_neg e3, if_neg e5]
            rfl
      · rintro σ' H' ⟨rfl, rfl⟩
        refine ⟨_, rfl, rfl, _, rfl, ite2 (fun e2 => ?_) (fun e2 => ?_)⟩
        · have e3 : b = 0 := V.int.inj (of_decide_eq_true e2)
          unfold lineT at q
          rw [if_neg e1, if_pos e3] at q
          exact ⟨_, rfl, q⟩
        · have e3 : ¬ b = 0 := fun z => e2 (decide_eq_true (by rw [z]))
          unfold lineT at q
          rw [if_neg e1, if_neg e3] at q
          have lB : (absI b).natAbs.log2 < 1920 := lg (by rw [absI_nat]; exact hb)
          refine ⟨_, rfl, _, rfl, _, _, rfl, rfl, _, rfl, ite2 (fun e4 => ?_) (fun e4 => ?_)⟩
          · rw [if_pos (of_decide_eq_true e4)] at q
            refine ⟨_, _, rfl, rfl, sz1 (by show (riseT a).length + 3 ≤ 1000; omega), _, rfl, b, rfl, absI b, rfl, lB, _, _, rfl, rfl, sz1 ?_, q⟩
            rw [len_app]
            show (riseT a).length + 3 + (dT (absI b)).length ≤ 1000
            omega
          · rw [if_neg (fun z => e4 (decide_eq_true z))] at q
            refine ⟨_, _, rfl, rfl, sz1 (by show (riseT a).length + 3 ≤ 1000; omega), _, rfl, b, rfl, absI b, rfl, lB, _, _, rfl, rfl, sz1 ?_, q⟩
            rw [len_app]
            show (riseT a).length + 3 + (dT (absI b)).length ≤ 1000
            omega
end
end OR

namespace OR
open PySem PySem.Spec PyProof.Rows L2
/-! ### own ==, !=, bool -/
section
variable {prog : Program} {w : World} {A : Around} {E : Value → Shared → Prop} {s : Shared} {K : PySem.W.Frag} {x C L f : Addr} {h₀ : Heap} {m : Str → Option Value} {ox : Obj} {od : Option Obj} {b tb : Value}
theorem ifBound_ne {M : Model} {args : List Value} {Q : Option Value → Shared → Prop} (X : K.In s.heap) (I : PySem.W.InstAt s.heap x ox C od) (hs : PySem.W.findIn K (.ref C) "__ne__" = some (some (.builtin "object.__ne__")))
    (h : wpAny M A (call (.builtin "object.__ne__") (.ref x :: args)) (fun v => Q (some v)) E s) : wpAny M A (callSpecialIfBound? (.ref x) "__ne__" args) Q E s := by
  simp only [callSpecialIfBound?, bindSpecialIfBound?]
  refine wpAny_holding (wpAny_bind (wpAny_bind (wpAny_bind (I.type.here ((PySem.W.looks_findIn X hs).here ?_)))))
  simp only [PySem.F.cmp_object.ne.bind]
  refine wpAny_bind (wpAny_askSetting (wpAny_ite ?_))
  have fin : wpAny M A (call (.builtin "object.__ne__") ([.ref x] ++ args) >>= fun v => pure (some v)) Q E s := wpAny_bind (wpAny_mono h (fun v s' h' => wpAny_pure h') fun _ _ h' => h')
  split
  · exact wpAny_bind (wpAny_pure (wpAny_pure fin))
  · exact wpAny_tryCatch (wpAny_bind (wpAny_pure (wpAny_pure fin)))
theorem check_ne {M : Model} {Q : Unit → Shared → Prop} (X : K.In s.heap) (I : PySem.W.InstAt s.heap x ox C od) (hm : PySem.W.mroIn K C (.type "object") = some true) (hq : Q () s) :
    wpAny M A (PySem.checkBuiltinCall "object.__ne__" ⟨[.ref x, b], []⟩) Q E s := by
  have hsig : ∃ sig, Manifest.signature? "object.__ne__" = sig := ⟨_, rfl⟩
  obtain ⟨sig, hsig⟩ := hsig
  have ha := PySem.F.cmpArgs_ne (.ref x) b
  unfold argsOk at ha
  simp only [PySem.checkBuiltinCall, PySem.F.cmpKind_ne, PySem.F.cmpSplit_ne]
  refine wpAny_bind (m := PySem.isInstance _ _) ?_
  unfold PySem.isInstance
  refine wpAny_bind (I.type.here ((PySem.W.looks_mroIn X hm).here ?_))
  rw [hsig] at ha ⊢
  cases sig with
  | none => exact wpAny_pure hq
  | some sg =>
    have h2 : Bind.checkArgs "object.__ne__" sg ⟨[.ref x, b], []⟩ = pure () := ha
    show wpAny M A (Bind.checkArgs "object.__ne__" sg ⟨[.ref x, b], []⟩) Q E _
    rw [h2]; exact wpAny_pure hq
/-- x != b by the own == of x -/
theorem ne_K {Q : Value → Shared → Prop} (hu : A.units + 1 < cLine) (F : PyProof.Rows.Fr h₀ L s.heap m) (X₀ : K.In h₀) (I : PySem.W.InstAt s.heap x ox C od) (hb : PySem.W.Looks (model prog w) s.heap (typeOf b) tb) (hn : PySem.W.notFirst K C tb = true)
    (h1 : PySem.W.findIn K (.ref C) "__ne__" = some (some (.builtin "object.__ne__"))) (hm : PySem.W.mroIn K C (.type "object") = some true) (hs : PySem.W.findIn K (.ref C) "__eq__" = some (some (.ref f))) (hf : PySem.W.isFn K (.ref f) = true)
    (h : wpAny (model prog w) A.in1 (call (.ref f) [.ref x, b]) (fun v s' => ∃ k, v = .bool k ∧ Q (.bool (!k)) s') E s) : wpAny (model prog w) A (richCompare .NotEq (.ref x) b) Q E s := by
  have X := X₀.keeps F.keep
  have entry : wpAny (model prog w) A.in1 (Builtin.«object.__ne__» ⟨[.ref x, b], []⟩) (fun r s' => ∃ k, r = .done (.ret (.bool (!k))) ∧ Q (.bool (!k)) s') E s := by
    unfold Builtin.«object.__ne__»
    refine wpAny_bind (m := PySem.slotArgs "__ne__" 1 _) (wpAny_pure ?_)
    refine wpAny_bind (wpAny_cRoomFor hu ?_)
    refine wpAny_bind (m := callSpecialIfBound? (.ref x) (Str.ofString "__eq__") [b]) (PySem.W.ifBound_K X I hs hf (wpAny_mono h (fun r s' hr => ?_) fun _ _ e => e))
    obtain ⟨k, rfl, hq⟩ := hr
    refine wpAny_bind (m := truthy (.bool k)) (wpAny_truthy_bool ?_)
    exact wpAny_pure ⟨k, rfl, hq⟩
  have one : wpAny (model prog w) A (tryCompare (.ref x) "__ne__" b) (fun r s' => ∃ v, r = some v ∧ Q v s') E s := by
    unfold tryCompare
    refine wpAny_bind (ifBound_ne X I h1 (wpAny_call (codeAny_call_builtin PySem.F.cmp_object.ne.plain PySem.F.cmpEntry_ne (check_ne X I hm (wpAny_mono entry (fun r s' z => ?_) fun _ _ e => e)))))
    obtain ⟨k, rfl, hq⟩ := z
    exact wpAny_pure ⟨_, rfl, hq⟩
  unfold richCompare
  simp only [oneThing_ref]
  refine wpAny_holding (wpAny_bind (wpAny_cRoomFor (by omega) ?_))
  refine wpAny_bind (I.type.here (wpAny_bind (hb.here ?_)))
  split
  · rename_i q
    have e : PySem.W.subIn K tb (.ref C) = some false := by
      rcases Bool.or_eq_true_iff.mp hn with e | e
      · rw [beq_iff_eq.mp e] at q; simp at q
      · exact beq_iff_eq.mp e
    refine wpAny_bind ((PySem.W.looks_subIn X e).here ?_)
    simp only [Bool.false_eq_true, if_false]
    refine wpAny_bind (wpAny_mono one (fun r s' z => ?_) fun _ _ e => e)
    obtain ⟨v, rfl, hq⟩ := z
    exact wpAny_pure hq
  · refine wpAny_bind (wpAny_pure ?_)
    simp only [Bool.false_eq_true, if_false]
    refine wpAny_bind (wpAny_mono one (fun r s' z => ?_) fun _ _ e => e)
    obtain ⟨v, rfl, hq⟩ := z
    exact wpAny_pure hq
theorem bool_truth {v : Value} {Q : Value → Shared → Prop} (h : wpAny (model prog w) A.in1.in1 (truthy v) (fun b s' => Q (.bool b) s') E s) : wpAny (model prog w) A (call (.type "bool") [v]) Q E s := by
  refine PySem.callType_codes (T := "bool") (Bi := Builtin.«object.__init__») (Q₁ := fun r s₁ => ∃ b, r = Value.bool b ∧ Q r s₁) PySem.F.called_bool (PySem.F.typeCall_bool_1 _) PySem.F.entry_object_init ?_ ?_
  · refine codeAny_of_tree ?_
    show wpAny _ A.in1.in1 (do checkBuiltinCall "bool.__new__" ⟨[.type "bool", v], []⟩; again (.builtin "bool.__new__" ⟨[.type "bool", v], []⟩)) _ _ s
    refine wpAny_bind (wpAny_of_eq (PySem.F.newCall_bool_1 _) (wpAny_pure ⟨plainId_quiet (by decide +kernel) _, codeAny_builtin PySem.F.entry_bool_new ?_⟩))
    rw [Around.under_plainId (by decide +kernel) _]
    unfold Builtin.«bool.__new__»
    refine wpAny_bind (wpAny_of_eq (a := true) (by first | rfl | kernel_rfl | (unfold isType; rw [isSubtype_type]; kernel_rfl)) ?_)
    refine PySem.W.KFB.if_not rfl ?_
    refine wpAny_bind (wpAny_of_eq (a := true) PySem.F.conv_sub_bool ?_)
    refine PySem.W.KFB.if_not rfl ?_
    refine wpAny_bind (wpAny_of_eq (a := [v]) rfl ?_)
    refine wpAny_bind (wpAny_mono h (fun b s' hq => ?_) fun _ _ e => e)
    exact wpAny_pure ⟨b, rfl, hq⟩
  · rintro obj s₁ ⟨b, rfl, hq⟩
    exact ⟨rfl, PySem.F.args_object_init_2 _ _, object_init_meets PySem.F.called_bool.init.lookup PySem.F.called_bool.made (by decide) prog w A.in1 _ s₁ ⟨rfl, rfl, hq⟩⟩
end
section
variable {X : Cx} {n : Nat} {C : Addr} {sp : Sp}
/-- what stands on the right: an instance of the class, or a value of a type that is no class below -/
def RightOf (K : PySem.W.Frag) (C : Addr) (H : Hp) (y : V) : Prop := ∃ tb, TyX K H y tb ∧ PySem.W.notFirst K C tb = true
/-- x == y by the own == of x -/
def rEqO (K : PySem.W.Frag) (C : Addr) (sp : Sp) : R2 := fun x y H Q => ∃ a dx fs, x = .ref a ∧ H a = some (.ins C dx fs) ∧ RightOf K C H y ∧ sp [x, y] H Q E0
theorem op_eqO (K : PySem.W.Frag) (hK : X.K = K) (m : Md X.prog X.w X.K X.mg X.base n C "__eq__" sp) (hr : Room n X.A) : OpR X (compareOp .Eq) (rEqO K C sp) := by
  subst hK
  intro pins s σ H x y v u Q I rx ry h
  obtain ⟨f, F, hs, hf, _⟩ := m.ex
  obtain ⟨a, dx, fs, rfl, ha, ⟨tb, hy, hn⟩, q⟩ := h
  cases (show v = Value.ref a from rx)
  obtain ⟨mA, J, _⟩ := ins_get I.hok ha
  obtain ⟨od, J, _⟩ := J.look
  obtain ⟨Pk, hk, hp, _⟩ := kit_of I ry hy
  obtain ⟨m, hF⟩ := I.fr
  refine PySem.W.cmp_K (op := .Eq) (tb := tb) hr.units0 hF I.ok.mod.kin J (hk.ty _ _ I.kIn hp) hn hs hf ?_
  refine wpAny_mono (wpAny_call (run_fnR (us := [.ref a, u]) (vs := [.ref a, y]) F hr pass0 I (.cons rfl (.cons ry .nil)) q)) (fun w s' z => ?_) fun _ _ x => x
  obtain ⟨z', H', I', rz, qz⟩ := z
  exact SlX.cmpback rz ⟨z', H', I', rz, qz⟩
/-- x != y by the own == of x -/
def rNeO (K : PySem.W.Frag) (C : Addr) (sp : Sp) : R2 := fun x y H Q => ∃ a dx fs, x = .ref a ∧ H a = some (.ins C dx fs) ∧ RightOf K C H y ∧ sp [x, y] H (fun z H' => ∃ k, z = .bl k ∧ Q (.bl (!k)) H') E0
theorem op_neO (K : PySem.W.Frag) (hK : X.K = K) (m : Md X.prog X.w X.K X.mg X.base n C "__eq__" sp) (h1 : PySem.W.findIn X.K (.ref C) "__ne__" = some (some (.builtin "object.__ne__"))) (hm : PySem.W.mroIn X.K C (.type "object") = some true) (hr : Room (n + 1) X.A) : OpR X (compareOp .NotEq) (rNeO K C sp) := by
  subst hK
  intro pins s σ H x y v u Q I rx ry h
  obtain ⟨f, F, hs, hf, _⟩ := m.ex
  obtain ⟨a, dx, fs, rfl, ha, ⟨tb, hy, hn⟩, q⟩ := h
  cases (show v = Value.ref a from rx)
  obtain ⟨mA, J, _⟩ := ins_get I.hok ha
  obtain ⟨od, J, _⟩ := J.look
  obtain ⟨Pk, hk, hp, _⟩ := kit_of I ry hy
  obtain ⟨m, hF⟩ := I.fr
  refine ne_K (tb := tb) (by have := hr.units; omega) hF I.ok.mod.kin J (hk.ty _ _ I.kIn hp) hn h1 hm hs hf ?_
  refine wpAny_mono (wpAny_call (SlX.run_at (us := [.ref a, u]) (ws := [.ref a, y]) F hr.in1 I.env0.in1 pass0 I (.cons rfl (.cons ry .nil)) q)) (fun w s' z => ?_) fun _ _ x => x
  obtain ⟨z', H', I', rz, k, ek, qz⟩ := z
  subst ek
  cases (show w = Value.bool k from rz)
  exact ⟨k, rfl, .bl (!k), H', I', rfl, qz⟩
/-- the truth of x by its own bool -/
def rTruO (C : Addr) (sp : Sp) : V → Hp → (Bool → Hp → Prop) → Prop := fun x H Q => ∃ a dx fs, x = .ref a ∧ H a = some (.ins C dx fs) ∧ sp [x] H (fun z H' => ∃ k, z = .bl k ∧ Q k H') E0
theorem tru_own (m : Md X.prog X.w X.K X.mg X.base n C "__bool__" sp) (hr : Room n X.A) : TruR X (rTruO C sp) := by
  intro pins s σ H x v Q I rx h
  obtain ⟨f, F, hs, hf, _⟩ := m.ex
  obtain ⟨a, dx, fs, rfl, ha, q⟩ := h
  cases (show v = Value.ref a from rx)
  obtain ⟨mA, J, _⟩ := ins_get I.hok ha
  obtain ⟨od, J, _⟩ := J.look
  obtain ⟨m, hF⟩ := I.fr
  refine PySem.W.truthy_K hF I.ok.mod.kin J hs hf ?_
  refine wpAny_mono (wpAny_call (run_fnR (us := [.ref a]) (vs := [.ref a]) F hr pass0 I (.cons rfl .nil) q)) (fun w s' z => ?_) fun _ _ x => x
  obtain ⟨z', H', I', rz, k, ek, qz⟩ := z
  subst ek
  cases (show w = Value.bool k from rz)
  exact ⟨H', I', qz⟩
/-- bool(x) by its own bool -/
def rBoolO (C : Addr) (sp : Sp) : List V → Hp → VK → Prop := fun xs H Q => ∃ a dx fs, xs = [.ref a] ∧ H a = some (.ins C dx fs) ∧ sp xs H (fun z H' => ∃ k, z = .bl k ∧ Q z H') E0
theorem call_boolO (m : Md X.prog X.w X.K X.mg X.base n C "__bool__" sp) (hr : Room (n + 2) X.A) : CallR X (.type "bool") (rBoolO C sp) := by
  intro pins s σ H xs us Q I r h
  obtain ⟨f, F, hs, hf, _⟩ := m.ex
  obtain ⟨a, dx, fs, rfl, ha, q⟩ := h
  obtain ⟨u, rfl, ru⟩ := r.one
  cases (show u = Value.ref a from ru)
  obtain ⟨mA, J, _⟩ := ins_get I.hok ha
  obtain ⟨od, J, _⟩ := J.look
  obtain ⟨m, hF⟩ := I.fr
  have hr2 : Room n X.A.in1.in1 := (show Room (n + 1) X.A.in1 from Room.in1 hr).in1
  refine bool_truth (PySem.W.truthy_K hF I.ok.mod.kin J hs hf ?_)
  refine wpAny_mono (wpAny_call (SlX.run_at (us := [.ref a]) (ws := [.ref a]) F hr2 I.env0.in1.in1 pass0 I (.cons rfl .nil) q)) (fun w s' z => ?_) fun _ _ x => x
  obtain ⟨z', H', I', rz, k, ek, qz⟩ := z
  subst ek
  cases (show w = Value.bool k from rz)
  exact ⟨.bl k, H', I', rfl, qz⟩
/-- bool(a tuple) -/
theorem call_boolT (K : PySem.W.Frag) (hK : X.K = K) : CallR X (.type "bool") (fun xs H Q => ∃ (a : Addr) (zs : List V), xs = [.ref a] ∧ SqT K H a zs ∧ Q (.bl (!zs.isEmpty)) H) := by
  subst hK
  intro pins s σ H xs us Q I r h
  obtain ⟨a, zs, rfl, hq, q⟩ := h
  obtain rfl := Vals.ref1 r
  obtain ⟨its, rv, pl, hz⟩ := I.tuple hq
  have hl := line63
  have hlen := rv.length
  exact bool_truth (truthy_tuple pl (by simp only [List.size_toArray]; omega) ⟨.bl (!zs.isEmpty), H, I.tok _, by rw [isEmpty_of rv]; rfl, q⟩)
end
end OR

namespace OR
open PySem PySem.Spec PyProof.Rows L2
theorem nf_self {K : PySem.W.Frag} {C : Addr} : PySem.W.notFirst K C (.ref C) = true := by simp [PySem.W.notFirst]
theorem nf_of {K : PySem.W.Frag} {C : Addr} {t : Value} (h : PySem.W.subIn K t (.ref C) = some false) : PySem.W.notFirst K C t = true := by
  unfold PySem.W.notFirst
  rw [h]
  simp
structure Mt (P : Program) (w : World) (K : PySem.W.Frag) (mg : Str → Option Value) (base : Heap) (k : Nat) (C : Addr) (m : Str) (ps : List Str) (sp : Sp) : Prop where
  ex : ∃ (f : Addr) (fd : FuncData), Meth K C m f ∧ FnOk P w K mg base CX0 k f fd ps sp ∧ Binds K fd ps []
theorem pe_mt {X : Cx} {k j : Nat} {C : Addr} {m : Str} {ps : List Str} {sp : Sp} {o e : Expr} {es : List Expr} {ta : TE} {t : TA} {apos pos : Pos} {pl : Sem Bool} (M : Mt X.prog X.w X.K X.mg X.base k C m ps sp) (c : Cls X.K C) (hr : Room j X.A) (hk : k ≤ j) (he : PE X o ta) (ha : PA X (e :: es) t)
    (hst : starEach (e :: es) X.env = (false, eval e X.env) :: starEach es X.env := by rfl) (hpl : (backTo pos (starEach es X.env)).any (·.1) = false := by rfl)
    (ht : eval (.Call (.Attribute o m apos) (e :: es) [] pos) X.env = (do
      let ov ← eval o X.env
      standAt apos.atName
      let (f, first) ← holding [ov] (getMethod ov m pl)
      callWith pos f first (backTo pos (starEach (e :: es) X.env)) (backToKw pos (keywordEach [] X.env))) := by rfl) : PE X (.Call (.Attribute o m apos) (e :: es) [] pos) (tMeth C m sp [] E0 ta t) := by
  obtain ⟨f, fd, hm, F, hb⟩ := M.ex
  exact pe_meth he c hm F (hr.mono hk) hb .nil pass0 ha hst hpl ht
theorem pe_mt0 {X : Cx} {k j : Nat} {C : Addr} {m : Str} {ps : List Str} {sp : Sp} {o : Expr} {ta : TE} {apos pos : Pos} {pl : Sem Bool} (M : Mt X.prog X.w X.K X.mg X.base k C m ps sp) (c : Cls X.K C) (hr : Room j X.A) (hk : k ≤ j) (he : PE X o ta)
    (ht : eval (.Call (.Attribute o m apos) [] [] pos) X.env = (do
      let ov ← eval o X.env
      standAt apos.atName
      let (f, first) ← holding [ov] (getMethod ov m pl)
      callWith pos f first (backTo pos (starEach [] X.env)) (backToKw pos (keywordEach [] X.env))) := by rfl) : PE X (.Call (.Attribute o m apos) [] [] pos) (tMeth C m sp [] E0 ta tNil) := by
  obtain ⟨f, fd, hm, F, hb⟩ := M.ex
  exact pe_meth0 he c hm F (hr.mono hk) hb .nil pass0 ht
/-! ### sizes -/
def Sm (n : Int) : Prop := n.natAbs < 10 ^ 40
theorem cw {a n : Int} (h : a.natAbs < 10 ^ 40) (h2 : n.natAbs < 10 ^ 40) : CMulW a n := wide_mul (a := 140) (b := 140) (Nat.lt_of_lt_of_le h (by decide)) (Nat.lt_of_lt_of_le h2 (by decide)) (by decide) (by decide) (by decide)
theorem cwm {a b n : Int} {k : Nat} (ha : a.natAbs < 10 ^ k) (hb : b.natAbs < 10 ^ k) (h : k ≤ 40) : CMulW a b := cw (Nat.lt_of_lt_of_le ha (Nat.pow_le_pow_right (by decide) h)) (Nat.lt_of_lt_of_le hb (Nat.pow_le_pow_right (by decide) h))
/-! ### the law's own pieces -/
def IsT (H : Hp) (t : Addr) (a b : Int) : Prop := H t = some (.tup [.int a, .int b])
theorem IsT.frm {H H' : Hp} {t p : Addr} {a b : Int} {n : Nat} (h : IsT H t a b) (f : Frm p H H') (P : Pen H p n) : IsT H' t a b := by
  obtain ⟨c, ns, k, l, hp, _⟩ := P
  exact f _ _ h (ne_of h hp (by intro z; cases z))
theorem IsT.same {H H' : Hp} {t : Addr} {a b : Int} (h : IsT H t a b) (s : Same H H') : IsT H' t a b := s _ _ h
theorem same_new {H : Hp} {q : Addr} {o : HO} (h : H q = none) : Same H (upd H q o) := fun b x e => by rw [upd_ne (ne_of_none e h)]; exact e
theorem at0 {a b : V} : atI [a, b] 0 = some a := atI_nat (j := 0) rfl
theorem at1 {a b : V} : atI [a, b] 1 = some b := atI_nat (j := 1) rfl
theorem dp2 {K : PySem.W.Frag} {H : Hp} (a b : Int) : DpAll K H [.int a, .int b] [.int a, .int b] := .cons (.int a) (.cons (.int b) .nil)
theorem eqv2 (a b c d : Int) : PyData.eqv (.tuple [.int a, .int b]) (.tuple [.int c, .int d]) = decide (a = c ∧ b = d) := by
  by_cases h1 : a = c <;> by_cases h2 : b = d <;> simp [PyData.eqv, PyData.eqvAll, h1, h2]
def spLine : Sp := fun vs H Q _ => ∃ (p : Addr) (n : Nat), vs = [.ref p] ∧ Pen H p n ∧ n ≤ 800000 ∧
  ∀ (t : Addr) (H' : Hp) (a b : Int), H t = none → -(10 ^ 9) ≤ a → a ≤ 10 ^ 9 → -(10 ^ 30) < b → b < 10 ^ 30 → Pen H' p (n + 6) → IsT H' t a b → Frm p H H' → Q (.ref t) H'
def spSpot : Sp := fun vs H Q _ => ∃ (p : Addr) (n : Nat), vs = [.ref p] ∧ Pen H p n ∧ n ≤ 900000 ∧ ∀ (r : Int) (H' : Hp), 0 ≤ r → r ≤ 10 ^ 30 → Pen H' p (n + 2) → Frm p H H' → Q (.int r) H'
def spWorth : Sp := fun vs H Q _ => ∃ (t : Addr) (a b x : Int), vs = [.ref t, .int x] ∧ IsT H t a b ∧ CMulW a x ∧ Q (.int (a * x + b)) H
def spIs (C : Addr) : Sp := fun vs H Q _ => ∃ (x : Addr) (a b : Int) (t : Addr) (c d : Int), vs = [.ref x, .ref t] ∧ IsL C H x a b ∧ IsT H t c d ∧ a = c ∧ b = d ∧ ∀ H', Same H H' → Q (.bl true) H'
section
variable {P : Program} {w : World} {K : PySem.W.Frag} {mg : Str → Option Value} {base : Heap}
theorem scLn : FnScope ["_law_pen_here", "_law_slope"] ["_law_pen_here"] (defScope sLine) := ⟨rfl, rfl, rfl, by decide +kernel, rfl, by decide +kernel, by decide +kernel⟩
theorem ok_line {f : Addr} {fd : FuncData} (F : Fun K "_law_line" "_law_line" sLine f fd) (D : Cl P w K mg base 1 "_law_draw" ["_law_pen_here", "_law_many"] spDraw) (C : Cl P w K mg base 2 "_law_pick" ["_law_pen_here", "_law_items"] (spPick K)) (W : Cl P w K mg base 3 "_law_whole" ["_law_pen_here"] spWhole) :
    FnOk P w K mg base CX0 4 f fd ["_law_pen_here"] spLine := by
  refine F.ok scLn (fun vs H Q E h => ?_) (fun cdv A outer s H vs Q E hr h => ?_)
  · obtain ⟨p, n, rfl, _⟩ := h
    rfl
  · obtain ⟨p, n, rfl, hP, hn, q⟩ := h
    refine ⟨_, pss_cons (ps_set (i := 1) scLn.nd rfl (.inl rfl) (pe_cl C hr (by decide) (by rfl) (pa_cons (pv 0) (pa_cons (pe_lst (pa_cons pe_int (pa_cons pe_int (pa_cons (pe_un un_neg pe_int) (pa_cons pe_int (pa_cons (pe_un un_neg pe_int)
        (pa_cons (pe_cl D hr (by decide) (by rfl) (pa_cons (pv 0) (pa_cons (pe_op op_add (pe_op op_pow pe_int pe_int) pe_int) pa_nil)))
        (pa_cons (pe_un un_neg (pe_cl D hr (by decide) (by rfl) (pa_cons (pv 0) (pa_cons (pe_op op_add (pe_op op_pow pe_int pe_int) pe_int) pa_nil)))) pa_nil)))))))) pa_nil))))
      (pss_one (ps_ret (pe_tup (pa_cons (pv 1) (pa_cons (pe_cl W hr (by decide) (by rfl) (pa_cons (pv 0) pa_nil)) pa_nil))))), ?_⟩
    have hpow : CPow 10 9 := ⟨by decide, by decide, by decide⟩
    have hm0 : (0 : Int) < 10 ^ (9 : Int).toNat + 1 := by decide
    have hm1 : ((10 : Int) ^ (9 : Int).toNat + 1).natAbs < 2 ^ 200 := by decide
    refine ⟨_, rfl, 1, rfl, 3, rfl, _, rfl, _, _, rfl, rfl, hpow, _, _, rfl, rfl, p, _, n, rfl, hm0, hm1, hP, by omega, fun r1 H1 h10 h11 P1 F1 => ?_⟩
    refine ⟨_, rfl, _, _, rfl, rfl, hpow, _, _, rfl, rfl, p, _, n + 1, rfl, hm0, hm1, P1, by omega, fun r2 H2 h20 h21 P2 F2 => ?_⟩
    refine ⟨r2, rfl, by show 7 ≤ sizeLine; decide, fun q1 hq1 => ?_⟩
    refine ⟨p, q1, _, n + 2, rfl, .inl (.inl upd_same), by show 0 < 7; decide, by show 7 ≤ 1000; decide, P2.new hq1, by omega, fun v H3 hv P3 F3 => ?_⟩
    obtain ⟨a, rfl, ha1, ha2⟩ : ∃ a : Int, v = .int a ∧ -(10 ^ 9) ≤ a ∧ a ≤ 10 ^ 9 := by
      have h11' : r1 < 10 ^ 9 + 1 := h11
      have h21' : r2 < 10 ^ 9 + 1 := h21
      simp only [List.mem_cons, List.not_mem_nil, or_false] at hv
      rcases hv with e | e | e | e | e | e | e <;> subst e <;> exact ⟨_, rfl, by omega, by omega⟩
    refine ⟨_, rfl, _, rfl, p, n + 3, rfl, P3, by omega, fun b H4 hb1 hb2 P4 F4 => ?_⟩
    refine ⟨by show 2 ≤ sizeLine; decide, fun t ht => ?_⟩
    have FF : Frm p H H4 := ((F1.trans F2).trans ((Frm.new hq1).trans F3)).trans F4
    have nt : H t = none := by
      cases e : H t with
      | none => rfl
      | some o =>
        by_cases ep : t = p
        · subst ep
          obtain ⟨c, ns, k, l, hp, _⟩ := P4
          rw [hp] at ht
          cases ht
        · rw [FF t o e ep] at ht
          cases ht
    exact q t _ a b nt ha1 ha2 hb1 hb2 (P4.new ht) upd_same (FF.trans (Frm.new ht))
theorem scWo : FnScope ["_law_line_here", "_law_x"] ["_law_line_here", "_law_x"] (defScope sWorth) := ⟨rfl, rfl, rfl, by decide +kernel, rfl, by decide +kernel, by decide +kernel⟩
theorem ok_worth {f : Addr} {fd : FuncData} (F : Fun K "_law_worth" "_law_worth" sWorth f fd) : FnOk P w K mg base CX0 1 f fd ["_law_line_here", "_law_x"] spWorth := by
  refine F.ok scWo (fun vs H Q E h => ?_) (fun cdv A outer s H vs Q E hr h => ?_)
  · obtain ⟨t, a, b, x, rfl, _⟩ := h
    rfl
  · obtain ⟨t, a, b, x, rfl, ht, hm, q⟩ := h
    have hS : SqT K H t [.int a, .int b] := .inl (.inl ht)
    refine ⟨_, pss_one (ps_ret (pe_op op_add (pe_op op_mulW (pe_ix ix_tup (pv 0) pe_int (fun _ _ => rfl)) (pv 1)) (pe_ix ix_tup (pv 0) pe_int (fun _ _ => rfl)))), ?_⟩
    exact ⟨_, rfl, t, _, 0, .int a, rfl, rfl, hS, at0, _, rfl, a, x, rfl, rfl, hm, _, rfl, t, _, 1, .int b, rfl, rfl, hS, at1, _, _, rfl, rfl, q⟩
theorem scSpot : FnScope ["_law_pen_here", "_law_way"] ["_law_pen_here"] (defScope sSpot) := ⟨rfl, rfl, rfl, by decide +kernel, rfl, by decide +kernel, by decide +kernel⟩
theorem ok_spot {f : Addr} {fd : FuncData} (F : Fun K "_law_spot" "_law_spot" sSpot f fd) (D : Cl P w K mg base 1 "_law_draw" ["_law_pen_here", "_law_many"] spDraw) : FnOk P w K mg base CX0 2 f fd ["_law_pen_here"] spSpot := by
  refine F.ok scSpot (fun vs H Q E h => ?_) (fun cdv A outer s H vs Q E hr h => ?_)
  · obtain ⟨p, n, rfl, _⟩ := h
    rfl
  · obtain ⟨p, n, rfl, hP, hn, q⟩ := h
    have nd := scSpot.nd
    refine ⟨_, pss_cons (ps_set (i := 1) nd rfl (.inl rfl) (pe_cl D hr (by decide) (by rfl) (pa_cons (pv 0) (pa_cons pe_int pa_nil))))
      (pss_cons (ps_if (pt_cmpR op_lt (pv 1) pe_int (nomark _)) (pss_one (ps_ret (pe_cl D hr (by decide) (by rfl) (pa_cons (pv 0) (pa_cons (pe_ix ix_list (pe_lst (pa_cons pe_int (pa_cons pe_int pa_nil))) (pv 1) (fun _ _ => rfl)) pa_nil))))) pss_nil)
      (pss_cons (ps_if (pt_cmpR op_eq (pv 1) pe_int (nomark _)) (pss_one (ps_ret (pe_cl D hr (by decide) (by rfl) (pa_cons (pv 0) (pa_cons (pe_op op_add (pe_op op_pow pe_int pe_int) pe_int) pa_nil))))) pss_nil)
      (pss_one (ps_ret (pe_ifExp (pt_cmpR op_eq (pv 1) pe_int (nomark _)) (pe_op op_sub (pe_op op_pow pe_int pe_int) (pe_cl D hr (by decide) (by rfl) (pa_cons (pv 0) (pa_cons pe_int pa_nil))))
        (pe_op op_add (pe_op op_pow pe_int pe_int) (pe_cl D hr (by decide) (by rfl) (pa_cons (pv 0) (pa_cons pe_int pa_nil))))))))), ?_⟩
    have hpow : CPow 10 30 := ⟨by decide, by decide, by decide⟩
    have hpow15 : CPow 10 15 := ⟨by decide, by decide, by decide⟩
    refine ⟨_, rfl, p, 5, n, rfl, by decide, by decide, hP, by omega, fun way H1 w0 w5 P1 F1 => ?_⟩
    refine ⟨_, rfl, _, _, rfl, rfl, _, rfl, ite2 (fun c => ?_) (fun _ => ?_)⟩
    · have hw : way < 2 := of_decide_eq_true c
      refine ⟨_, rfl, by show 2 ≤ sizeLine; decide, fun l hl => ?_⟩
      obtain ⟨m, hm, hm0, hm1⟩ : ∃ m : Int, atI [V.int 9, V.int 60] way = some (.int m) ∧ 0 < m ∧ m ≤ 60 := by
        have : way = 0 ∨ way = 1 := by omega
        rcases this with e | e <;> subst e
        · exact ⟨9, atI_nat (j := 0) rfl, by decide, by decide⟩
        · exact ⟨60, atI_nat (j := 1) rfl, by decide, by decide⟩
      have hmb : m.natAbs < 2 ^ 200 := Nat.lt_of_le_of_lt (show m.natAbs ≤ 60 by omega) (by decide)
      refine ⟨_, rfl, l, _, way, _, rfl, rfl, .inl (.inl upd_same), hm, p, m, n + 1, rfl, hm0, hmb, P1.new hl, by omega, fun r H2 r0 r1 P2 F2 => ?_⟩
      exact q r H2 r0 (by omega) P2 (F1.trans ((Frm.new hl).trans F2))
    refine ⟨_, rfl, rfl, _, rfl, ite2 (fun _ => ?_) (fun _ => ?_)⟩
    · refine ⟨_, rfl, _, _, rfl, rfl, hpow, _, _, rfl, rfl, p, _, n + 1, rfl, by decide, by decide, P1, by omega, fun r H2 r0 r1 P2 F2 => ?_⟩
      have r1' : r < 10 ^ 30 + 1 := r1
      exact q r H2 r0 (by omega) P2 (F1.trans F2)
    refine ⟨_, rfl, rfl, _, rfl, ite2 (fun _ => ?_) (fun _ => ?_)⟩
    · refine ⟨_, _, rfl, rfl, hpow, _, rfl, p, 9, n + 1, rfl, by decide, by decide, P1, by omega, fun r H2 r0 r1 P2 F2 => ⟨_, _, rfl, rfl, ?_⟩⟩
      refine q _ H2 ?_ ?_ P2 (F1.trans F2)
      · show (0 : Int) ≤ 10 ^ 30 - r
        omega
      · show (10 : Int) ^ 30 - r ≤ 10 ^ 30
        omega
    · refine ⟨_, _, rfl, rfl, hpow15, _, rfl, p, 99, n + 1, rfl, by decide, by decide, P1, by omega, fun r H2 r0 r1 P2 F2 => ⟨_, _, rfl, rfl, ?_⟩⟩
      refine q _ H2 ?_ ?_ P2 (F1.trans F2)
      · show (0 : Int) ≤ 10 ^ 15 + r
        omega
      · show (10 : Int) ^ 15 + r ≤ 10 ^ 30
        omega
theorem scIs : FnScope ["_law_line_here", "_law_due"] ["_law_line_here", "_law_due"] (defScope sLIs) := ⟨rfl, rfl, rfl, by decide +kernel, rfl, by decide +kernel, by decide +kernel⟩
theorem ok_is {f C : Addr} {fd : FuncData} (F : Fun K "_law_is" "_law_is" sLIs f fd) (M : LMk P w K mg base C) (EQ : Md P w K mg base 1 C "__eq__" (spLEq K C)) : FnOk P w K mg base CX0 3 f fd ["_law_line_here", "_law_due"] (spIs C) := by
  have T := M.T
  refine F.ok scIs (fun vs H Q E h => ?_) (fun cdv A outer s H vs Q E hr h => ?_)
  · obtain ⟨x, a, b, t, c, d, rfl, _⟩ := h; rfl
  · obtain ⟨x, a, b, t, c, d, rfl, ⟨dx, hx⟩, ht, rfl, rfl, q⟩ := h
    have hu64 : (A.deeper (envOfC "_law_is" (defScope sLIs) s.heap.objs.size f cdv)).units + 64 < cLine := hr.units
    refine ⟨_, pss_one (ps_ret (pe_and (pe_callB call_isi (by rfl) T.zIsi boot_isi (pa_cons (pv 0) (pa_cons (pe_glob (v := .ref C) (by rfl) T.mgC rfl) pa_nil)))
      (pe_and (pe_cmpR (op_eqD hu64) (pe_tup (pa_cons (pe_fld (pv 0) rfl) (pa_cons (pe_fld (pv 0) rfl) pa_nil))) (pv 1) (nomark _))
        (pe_one (pe_cmpR (op_eqO K rfl EQ (hr.mono (by decide))) (pv 0) (pe_mkL M hr (by decide) (by rfl) (pa_cons (pe_ix ix_tup (pv 1) pe_int (fun _ _ => rfl)) (pa_cons (pe_ix ix_tup (pv 1) pe_int (fun _ _ => rfl)) pa_nil))) (nomark _)))))), ?_⟩
    refine ⟨_, rfl, .ref x, .ref C, _, _, true, rfl, .own C, tyL T hx, T.kLL, true, rfl, iteT ?_⟩
    refine ⟨_, rfl, x, C, dx, _, _, rfl, hx, T.cl, T.nS, lFl_slope a b, _, rfl, x, C, dx, _, _, rfl, hx, T.cl, T.nH, lFl_height a b, by show 2 ≤ sizeLine; decide, fun u hu => ?_⟩
    have S1 : Same H (upd H u (.tup [.int a, .int b])) := same_new hu
    have ht1 := ht.same S1
    refine ⟨_, rfl, .tuple [.int a, .int b], .tuple [.int a, .int b], .tup (.inl (.inl upd_same)) (dp2 a b), .tup (.inl (.inl ht1)) (dp2 a b), by with_unfolding_all rfl, by with_unfolding_all rfl, _, rfl, ?_⟩
    rw [eqv2, decide_eq_true ⟨rfl, rfl⟩]
    refine iteT ?_
    have hS : SqT K (upd H u (.tup [.int a, .int b])) t [.int a, .int b] := .inl (.inl ht1)
    refine ⟨_, rfl, _, rfl, t, _, 0, .int a, rfl, rfl, hS, at0, _, rfl, t, _, 1, .int b, rfl, rfl, hS, at1, a, b, rfl, fun z H2 nz hz S2 => ?_⟩
    have hx2 := S2 _ _ (S1 _ _ hx)
    obtain ⟨dz, hz'⟩ := hz
    refine ⟨x, dx, _, rfl, hx2, ⟨_, tyL T hz', nf_self⟩, x, a, b, _, rfl, ⟨dx, hx2⟩, .inl ⟨z, a, b, rfl, ⟨dz, hz'⟩, ?_⟩⟩
    rw [decide_eq_true ⟨rfl, rfl⟩]
    exact q _ (S1.trans S2)
end
/-! ### short readings -/
section
variable {C : Addr} {H : Hp} {Q : VK} {x y : Addr} {a b c d n : Int}
theorem rd_addS (hx : IsL C H x a b) (hy : IsL C H y c d) (q : ∀ z H', H z = none → IsL C H' z (a + c) (b + d) → Same H H' → Q (.ref z) H') : rBinS C (spLAdd C) (.ref x) (.ref y) H Q := by
  obtain ⟨dx, hx⟩ := hx
  obtain ⟨dy, hy⟩ := hy
  exact ⟨x, y, dx, dy, _, _, rfl, rfl, hx, hy, x, a, b, ⟨dx, hx⟩, .inl ⟨y, c, d, rfl, ⟨dy, hy⟩, q⟩⟩
theorem rd_subS (hx : IsL C H x a b) (hy : IsL C H y c d) (q : ∀ z H', H z = none → IsL C H' z (a - c) (b - d) → Same H H' → Q (.ref z) H') : rBinS C (spLSub C) (.ref x) (.ref y) H Q := by
  obtain ⟨dx, hx⟩ := hx
  obtain ⟨dy, hy⟩ := hy
  exact ⟨x, y, dx, dy, _, _, rfl, rfl, hx, hy, x, a, b, ⟨dx, hx⟩, .inl ⟨y, c, d, rfl, ⟨dy, hy⟩, q⟩⟩
theorem rd_addI (hx : IsL C H x a b) (q : ∀ z H', H z = none → IsL C H' z a (b + n) → Same H H' → Q (.ref z) H') : rBinI C (spLAdd C) (.ref x) (.int n) H Q := by
  obtain ⟨dx, hx⟩ := hx
  exact ⟨x, dx, _, n, rfl, rfl, hx, x, a, b, ⟨dx, hx⟩, .inr ⟨n, rfl, q⟩⟩
theorem rd_subI (hx : IsL C H x a b) (q : ∀ z H', H z = none → IsL C H' z a (b - n) → Same H H' → Q (.ref z) H') : rBinI C (spLSub C) (.ref x) (.int n) H Q := by
  obtain ⟨dx, hx⟩ := hx
  exact ⟨x, dx, _, n, rfl, rfl, hx, x, a, b, ⟨dx, hx⟩, .inr ⟨n, rfl, q⟩⟩
theorem rd_mulI (hx : IsL C H x a b) (h1 : CMulW a n) (h2 : CMulW b n) (q : ∀ z H', H z = none → IsL C H' z (a * n) (b * n) → Same H H' → Q (.ref z) H') : rBinI C (spLMul C) (.ref x) (.int n) H Q := by
  obtain ⟨dx, hx⟩ := hx
  exact ⟨x, dx, _, n, rfl, rfl, hx, x, a, b, n, rfl, ⟨dx, hx⟩, h1, h2, q⟩
theorem rd_addR (hx : IsL C H x a b) (q : ∀ z H', H z = none → IsL C H' z a (b + n) → Same H H' → Q (.ref z) H') : rBinR C (spLRadd C) (.int n) (.ref x) H Q := by
  obtain ⟨dx, hx⟩ := hx
  exact ⟨x, dx, _, n, rfl, rfl, hx, x, a, b, n, rfl, ⟨dx, hx⟩, q⟩
theorem rd_subR (hx : IsL C H x a b) (q : ∀ z H', H z = none → IsL C H' z (-a) (-b + n) → Same H H' → Q (.ref z) H') : rBinR C (spLRsub C) (.int n) (.ref x) H Q := by
  obtain ⟨dx, hx⟩ := hx
  exact ⟨x, dx, _, n, rfl, rfl, hx, x, a, b, n, rfl, ⟨dx, hx⟩, q⟩
theorem rd_mulR (hx : IsL C H x a b) (h1 : CMulW a n) (h2 : CMulW b n) (q : ∀ z H', H z = none → IsL C H' z (a * n) (b * n) → Same H H' → Q (.ref z) H') : rBinR C (spLMul C) (.int n) (.ref x) H Q := by
  obtain ⟨dx, hx⟩ := hx
  exact ⟨x, dx, _, n, rfl, rfl, hx, x, a, b, n, rfl, ⟨dx, hx⟩, h1, h2, q⟩
theorem rd_neg (hx : IsL C H x a b) (q : ∀ z H', H z = none → IsL C H' z (-a) (-b) → Same H H' → Q (.ref z) H') : rNegO C (spLNeg C) (.ref x) H Q := by
  obtain ⟨dx, hx⟩ := hx
  exact ⟨x, dx, _, rfl, hx, x, a, b, rfl, ⟨dx, hx⟩, q⟩
end
end OR

namespace OR
open PySem PySem.Spec PyProof.Rows L2
/-- an instance that is called -/
structure Co (P : Program) (w : World) (K : PySem.W.Frag) (mg : Str → Option Value) (base : Heap) (k : Nat) (C : Addr) (sp : Sp) : Prop where
  ex : ∃ g, StX.CallO K C g ∧ FnR P w K mg base CX0 k g sp
def tCo (X : Cx) (C : Addr) (sp : Sp) (tf : TE) (t : TA) : TE := StX.tCallO X C sp E0 tf t
theorem pe_co {X : Cx} {k j : Nat} {C : Addr} {sp : Sp} {fe e : Expr} {es : List Expr} {tf : TE} {t : TA} {pos : Pos} (c : Co X.prog X.w X.K X.mg X.base k C sp) (hr : Room j X.A) (hk : k ≤ j) (hf : PE X fe tf) (ha : PA X (e :: es) t)
    (ht : eval (.Call fe (e :: es) [] pos) X.env = (do callWith pos (← eval fe X.env) [] (backTo pos (starEach (e :: es) X.env)) (backToKw pos (keywordEach [] X.env))) := by rfl)
    (he : starEach (e :: es) X.env = (false, eval e X.env) :: starEach es X.env := by rfl) (hpl : (backTo pos (starEach es X.env)).any (·.1) = false := by rfl) : PE X (.Call fe (e :: es) [] pos) (tCo X C sp tf t) := by
  obtain ⟨g, c, F⟩ := c.ex
  exact StX.pe_callO hf c F (hr.mono hk) pass0 ha ht he hpl
def spLaw (K : PySem.W.Frag) : Sp := fun vs H Q _ => ∃ (a : Addr) (ns : List Int), vs = [.ref a] ∧ SqL K H a (ns.map V.int) ∧ ns.length ≤ 63 ∧ ∀ H', Q (.bl true) H'
theorem scLaw : FnScope ["_law_script", "_law_pen_here", "_law_turn", "_law_a", "_law_b", "_law_n", "_law_one", "_law_two", "_law_x", "_law_by"] ["_law_script"] (defScope sLaw) := ⟨rfl, rfl, rfl, by decide +kernel, rfl, by decide +kernel, by decide +kernel⟩
structure Bl2 (mg : Str → Option Value) : Prop where
  len : mg "len" = none
  min : mg "min" = none
  range : mg "range" = none
theorem boot_minO : bootBuiltins ("min" : Str) = some (.builtin "min") := by decide +kernel
section
variable {P : Program} {w : World} {K : PySem.W.Frag} {mg : Str → Option Value} {base : Heap}
theorem ok_law {f C : Addr} {fd : FuncData} (F : Fun K "law" "law" sLaw f fd) (B : Bl2 mg) (M : LMk P w K mg base C) (ne : PySem.W.findIn K (.ref C) "__ne__" = some (some (.builtin "object.__ne__"))) (nt : PySem.W.subIn K (.type "tuple") (.ref C) = some false)
    (EQ : Md P w K mg base 1 C "__eq__" (spLEq K C))
    (A1 : Md P w K mg base 3 C (PySem.dunder (Operator.info .Add).2) (spLAdd C)) (A2 : BinI K C .Add) (A3 : Md P w K mg base 4 C (PySem.dunderR (Operator.info .Add).2) (spLRadd C)) (A4 : BinR K C .Add)
    (S1 : Md P w K mg base 4 C (PySem.dunder (Operator.info .Sub).2) (spLSub C)) (S2 : BinI K C .Sub) (S3 : Md P w K mg base 4 C (PySem.dunderR (Operator.info .Sub).2) (spLRsub C)) (S4 : BinR K C .Sub)
    (M1 : Md P w K mg base 3 C (PySem.dunder (Operator.info .Mult).2) (spLMul C)) (M2 : BinI K C .Mult) (M3 : Md P w K mg base 4 C (PySem.dunderR (Operator.info .Mult).2) (spLMul C)) (M4 : BinR K C .Mult)
    (N1 : Md P w K mg base 3 C "__neg__" (spLNeg C)) (CO : Co P w K mg base 1 C (spLCall C))
    (MV : Mt P w K mg base 3 C "moved" ["self", "by"] (spLMoved C)) (MI : Mt P w K mg base 3 C "mirrored" ["self", "last"] (spLMirr C)) (TE : Mt P w K mg base 3 C "text" ["self"] (spText C))
    (N : Cl P w K mg base 1 "_law_pen" ["_law_script"] (spPen K)) (LI : Cl P w K mg base 4 "_law_line" ["_law_pen_here"] spLine) (W : Cl P w K mg base 3 "_law_whole" ["_law_pen_here"] spWhole) (SP : Cl P w K mg base 2 "_law_spot" ["_law_pen_here"] spSpot)
    (WO : Cl P w K mg base 1 "_law_worth" ["_law_line_here", "_law_x"] spWorth) (LT : Cl P w K mg base 1 "_law_line_text" ["_law_line_here"] spLTx) (IS : Cl P w K mg base 3 "_law_is" ["_law_line_here", "_law_due"] (spIs C)) : FnOk P w K mg base CX0 5 f fd ["_law_script"] (spLaw K) := by
  have T := M.T
  refine F.ok scLaw (fun vs H Q E h => ?_) (fun cdv A outer s H vs Q E hr h => ?_)
  · obtain ⟨a, ns, rfl, _⟩ := h
    rfl
  · obtain ⟨sc, ns, rfl, hS, hlen, q⟩ := h
    have nd := scLaw.nd
    have hu64 : (A.deeper (envOfC "law" (defScope sLaw) s.heap.objs.size f cdv)).units + 64 < cLine := hr.units
    refine ⟨_, pss_cons (ps_set (i := 1) nd rfl (.inl rfl) (pe_cl N hr (by decide) (by rfl) (pa_cons (pv 0) pa_nil)))
      (pss_cons (ps_for PassesOwn.never rfl (pi_range1 (by rfl) B.range (pa_cons (pe_op op_add pe_int (pe_callB (call_min2 rfl) (by rfl) B.min boot_minO (pa_cons pe_int (pa_cons (pe_callB call_len_seq (by rfl) B.len PySem.boot_len (pa_cons (pv 0) pa_nil)) pa_nil)))) pa_nil)) (pg_name (i := 2) nd rfl (.inl rfl))
        (pss_cons (ps_par3 (i := 3) (j := 4) (l := 5) rfl nd rfl rfl rfl (by decide) (by decide) (by decide) rfl rfl rfl (pa_cons (pe_cl LI hr (by decide) (by rfl) (pa_cons (pv 1) pa_nil)) (pa_cons (pe_cl LI hr (by decide) (by rfl) (pa_cons (pv 1) pa_nil)) (pa_cons (pe_cl W hr (by decide) (by rfl) (pa_cons (pv 1) pa_nil)) pa_nil))) rfl)
        (pss_cons (ps_par (i := 6) (j := 7) rfl nd rfl rfl (by decide) rfl rfl (pa_cons (pe_mkL M hr (by decide) (by rfl) (pa_cons (pe_ix ix_tup (pv 3) pe_int (fun _ _ => rfl)) (pa_cons (pe_ix ix_tup (pv 3) pe_int (fun _ _ => rfl)) pa_nil)))
            (pa_cons (pe_mkL M hr (by decide) (by rfl) (pa_cons (pe_ix ix_tup (pv 4) pe_int (fun _ _ => rfl)) (pa_cons (pe_ix ix_tup (pv 4) pe_int (fun _ _ => rfl)) pa_nil))) pa_nil)) rfl)
        (Evl.pss_cut (ps_if (PW.pt (pw_or (pt_not (pt_val (pe_cl IS hr (by decide) (by rfl) (pa_cons (pe_op (op_binS A1 T.sf (hr.mono (by decide))) (pv 6) (pv 7)) (pa_cons (pe_tup (pa_cons (pe_op op_add (pe_ix ix_tup (pv 3) pe_int (fun _ _ => rfl)) (pe_ix ix_tup (pv 4) pe_int (fun _ _ => rfl))) (pa_cons (pe_op op_add (pe_ix ix_tup (pv 3) pe_int (fun _ _ => rfl)) (pe_ix ix_tup (pv 4) pe_int (fun _ _ => rfl))) pa_nil))) pa_nil)))))
            (pw_or1 (pt_not (pt_val (pe_cl IS hr (by decide) (by rfl) (pa_cons (pe_op (op_binS S1 T.sf (hr.mono (by decide))) (pv 6) (pv 7)) (pa_cons (pe_tup (pa_cons (pe_op op_sub (pe_ix ix_tup (pv 3) pe_int (fun _ _ => rfl)) (pe_ix ix_tup (pv 4) pe_int (fun _ _ => rfl))) (pa_cons (pe_op op_sub (pe_ix ix_tup (pv 3) pe_int (fun _ _ => rfl)) (pe_ix ix_tup (pv 4) pe_int (fun _ _ => rfl))) pa_nil))) pa_nil)))))))) (pss_one (ps_ret pe_bl)) pss_nil)
        (Evl.pss_cut (ps_if (PW.pt (pw_or (pt_not (pt_val (pe_cl IS hr (by decide) (by rfl) (pa_cons (pe_op (op_binI A1 A2 T.sf (hr.mono (by decide))) (pv 6) (pv 5)) (pa_cons (pe_tup (pa_cons (pe_ix ix_tup (pv 3) pe_int (fun _ _ => rfl)) (pa_cons (pe_op op_add (pe_ix ix_tup (pv 3) pe_int (fun _ _ => rfl)) (pv 5)) pa_nil))) pa_nil)))))
            (pw_or1 (pt_not (pt_val (pe_cl IS hr (by decide) (by rfl) (pa_cons (pe_op (op_binR intop_add A3 A4 T.sf (hr.mono (by decide))) (pv 5) (pv 6)) (pa_cons (pe_tup (pa_cons (pe_ix ix_tup (pv 3) pe_int (fun _ _ => rfl)) (pa_cons (pe_op op_add (pe_ix ix_tup (pv 3) pe_int (fun _ _ => rfl)) (pv 5)) pa_nil))) pa_nil)))))))) (pss_one (ps_ret pe_bl)) pss_nil)
        (Evl.pss_cut (ps_if (PW.pt (pw_or (pt_not (pt_val (pe_cl IS hr (by decide) (by rfl) (pa_cons (pe_op (op_binI S1 S2 T.sf (hr.mono (by decide))) (pv 6) (pv 5)) (pa_cons (pe_tup (pa_cons (pe_ix ix_tup (pv 3) pe_int (fun _ _ => rfl)) (pa_cons (pe_op op_sub (pe_ix ix_tup (pv 3) pe_int (fun _ _ => rfl)) (pv 5)) pa_nil))) pa_nil)))))
            (pw_or1 (pt_not (pt_val (pe_cl IS hr (by decide) (by rfl) (pa_cons (pe_op (op_binR intop_sub S3 S4 T.sf (hr.mono (by decide))) (pv 5) (pv 6)) (pa_cons (pe_tup (pa_cons (pe_un un_neg (pe_ix ix_tup (pv 3) pe_int (fun _ _ => rfl))) (pa_cons (pe_op op_sub (pv 5) (pe_ix ix_tup (pv 3) pe_int (fun _ _ => rfl))) pa_nil))) pa_nil)))))))) (pss_one (ps_ret pe_bl)) pss_nil)
        (Evl.pss_cut (ps_if (PW.pt (pw_or (pt_not (pt_val (pe_cl IS hr (by decide) (by rfl) (pa_cons (pe_op (op_binI M1 M2 T.sf (hr.mono (by decide))) (pv 6) (pv 5)) (pa_cons (pe_tup (pa_cons (pe_op op_mulW (pe_ix ix_tup (pv 3) pe_int (fun _ _ => rfl)) (pv 5)) (pa_cons (pe_op op_mulW (pe_ix ix_tup (pv 3) pe_int (fun _ _ => rfl)) (pv 5)) pa_nil))) pa_nil)))))
            (pw_or1 (pt_not (pt_val (pe_cl IS hr (by decide) (by rfl) (pa_cons (pe_op (op_binR intop_mul M3 M4 T.sf (hr.mono (by decide))) (pv 5) (pv 6)) (pa_cons (pe_tup (pa_cons (pe_op op_mulW (pe_ix ix_tup (pv 3) pe_int (fun _ _ => rfl)) (pv 5)) (pa_cons (pe_op op_mulW (pe_ix ix_tup (pv 3) pe_int (fun _ _ => rfl)) (pv 5)) pa_nil))) pa_nil)))))))) (pss_one (ps_ret pe_bl)) pss_nil)
        (Evl.pss_cut (ps_if (PW.pt (pw_or (pt_not (pt_val (pe_cl IS hr (by decide) (by rfl) (pa_cons (pe_un (un_negO N1 (hr.mono (by decide))) (pv 6)) (pa_cons (pe_tup (pa_cons (pe_un un_neg (pe_ix ix_tup (pv 3) pe_int (fun _ _ => rfl))) (pa_cons (pe_un un_neg (pe_ix ix_tup (pv 3) pe_int (fun _ _ => rfl))) pa_nil))) pa_nil)))))
            (pw_or (pt_cmpR op_ne (pe_cmpR (op_eqO K rfl EQ (hr.mono (by decide))) (pv 6) (pv 7) (nomark _)) (pe_cmpR (op_eqD hu64) (pv 3) (pv 4) (nomark _)) (nomark _))
            (pw_or (pt_cmpR op_ne (pe_cmpR (op_neO K rfl EQ ne T.isi.cm (hr.mono (by decide))) (pv 6) (pv 7) (nomark _)) (pe_cmpR (op_neD hu64) (pv 3) (pv 4) (nomark _)) (nomark _))
            (pw_or1 (pt_cmpR (op_eqO K rfl EQ (hr.mono (by decide))) (pv 6) (pv 3) (nomark _))))))) (pss_one (ps_ret pe_bl)) pss_nil)
        (pss_cons (ps_for PassesOwn.never rfl (pi_list (pe_lst (pa_cons pe_int (pa_cons pe_int (pa_cons (pe_un un_neg pe_int) (pa_cons (pe_cl W hr (by decide) (by rfl) (pa_cons (pv 1) pa_nil)) (pa_cons (pe_cl SP hr (by decide) (by rfl) (pa_cons (pv 1) pa_nil)) pa_nil))))))) (pg_name (i := 8) nd rfl (.inl rfl))
          (pss_cons (ps_set (i := 9) nd rfl (.inl rfl) (pe_cl W hr (by decide) (by rfl) (pa_cons (pv 1) pa_nil)))
          (Evl.pss_cut (ps_if (PW.pt (pw_or (pt_cmpR op_ne (pe_co CO hr (by decide) (pv 6) (pa_cons (pv 8) pa_nil)) (pe_cl WO hr (by decide) (by rfl) (pa_cons (pv 3) (pa_cons (pv 8) pa_nil))) (nomark _))
              (pw_or1 (pt_cmpR op_ne (pe_co CO hr (by decide) (pe_mt MV T.cl hr (by decide) (pv 6) (pa_cons (pv 9) pa_nil)) (pa_cons (pv 8) pa_nil)) (pe_cl WO hr (by decide) (by rfl) (pa_cons (pv 3) (pa_cons (pe_op op_sub (pv 8) (pv 9)) pa_nil))) (nomark _))))) (pss_one (ps_ret pe_bl)) pss_nil)
          (Evl.pss_cut (ps_if (PW.pt (pw_or (pt_cmpR op_ne (pe_co CO hr (by decide) (pe_mt MI T.cl hr (by decide) (pv 6) (pa_cons (pv 9) pa_nil)) (pa_cons (pv 8) pa_nil)) (pe_cl WO hr (by decide) (by rfl) (pa_cons (pv 3) (pa_cons (pe_op op_sub (pv 9) (pv 8)) pa_nil))) (nomark _))
              (pw_or1 (pt_cmpR op_ne (pe_co CO hr (by decide) (pe_op (op_binS S1 T.sf (hr.mono (by decide))) (pv 6) (pv 7)) (pa_cons (pv 8) pa_nil)) (pe_op op_sub (pe_co CO hr (by decide) (pv 6) (pa_cons (pv 8) pa_nil)) (pe_co CO hr (by decide) (pv 7) (pa_cons (pv 8) pa_nil))) (nomark _))))) (pss_one (ps_ret pe_bl)) pss_nil)
          (pss_one (ps_if (PW.pt (pw_or (pt_cmpR (op_neO K rfl EQ ne T.isi.cm (hr.mono (by decide))) (pe_mt MV T.cl hr (by decide) (pe_mt MV T.cl hr (by decide) (pv 6) (pa_cons (pv 9) pa_nil)) (pa_cons (pe_un un_neg (pv 9)) pa_nil)) (pv 6) (nomark _))
              (pw_or1 (pt_cmpR (op_neO K rfl EQ ne T.isi.cm (hr.mono (by decide))) (pe_mt MI T.cl hr (by decide) (pe_mt MI T.cl hr (by decide) (pv 6) (pa_cons (pv 9) pa_nil)) (pa_cons (pv 9) pa_nil)) (pv 6) (nomark _))))) (pss_one (ps_ret pe_bl)) pss_nil))))))
        (Evl.pss_cut (ps_if (PW.pt (pw_or (pt_cmpR op_ne (pe_mt0 TE T.cl hr (by decide) (pv 6)) (pe_cl LT hr (by decide) (by rfl) (pa_cons (pv 3) pa_nil)) (nomark _))
            (pw_or1 (pt_cmpR op_ne (pe_mt0 TE T.cl hr (by decide) (pv 7)) (pe_cl LT hr (by decide) (by rfl) (pa_cons (pv 4) pa_nil)) (nomark _))))) (pss_one (ps_ret pe_bl)) pss_nil)
        (pss_one (ps_if (PW.pt (pw_or (pt_not (pt_val (pe_cl IS hr (by decide) (by rfl) (pa_cons (pv 6) (pa_cons (pv 3) pa_nil))))) (pw_or1 (pt_not (pt_val (pe_cl IS hr (by decide) (by rfl) (pa_cons (pv 7) (pa_cons (pv 4) pa_nil)))))))) (pss_one (ps_ret pe_bl)) pss_nil))))))))))))
      (pss_one (ps_ret (pe_cmpR (op_eqD hu64) (pe_lst (pa_cons (pe_mt0 TE T.cl hr (by decide) (pe_mkL M hr (by decide) (by rfl) (pa_cons pe_int (pa_cons pe_int pa_nil))))
          (pa_cons (pe_mt0 TE T.cl hr (by decide) (pe_mkL M hr (by decide) (by rfl) (pa_cons (pe_un un_neg pe_int) (pa_cons (pe_un un_neg pe_int) pa_nil))))
          (pa_cons (pe_mt0 TE T.cl hr (by decide) (pe_mkL M hr (by decide) (by rfl) (pa_cons pe_int (pa_cons pe_int pa_nil))))
          (pa_cons (pe_mt0 TE T.cl hr (by decide) (pe_mkL M hr (by decide) (by rfl) (pa_cons pe_int (pa_cons (pe_un un_neg pe_int) pa_nil)))) pa_nil))))) (pe_lst (pa_cons pe_str (pa_cons pe_str (pa_cons pe_str (pa_cons pe_str pa_nil))))) (nomark _))))), ?_⟩
    have kM : ∀ a b : Int, (lFl a b).lookup ("moved" : Str) = none := fun _ _ => lFl_no _ _ (by decide +kernel) (by decide +kernel)
    have kI : ∀ a b : Int, (lFl a b).lookup ("mirrored" : Str) = none := fun _ _ => lFl_no _ _ (by decide +kernel) (by decide +kernel)
    have kT : ∀ a b : Int, (lFl a b).lookup ("text" : Str) = none := fun _ _ => lFl_no _ _ (by decide +kernel) (by decide +kernel)
    have t2 : 2 ≤ sizeLine := by decide
    refine ⟨_, rfl, sc, ns, rfl, hS, hlen, fun p H1 np P0 S0 => ?_⟩
    generalize hJ : (3 : Int) + (if ((ns.map V.int).length : Int) < 3 then ((ns.map V.int).length : Int) else 3) = J
    have hJb : 0 ≤ J ∧ J ≤ 6 := by
      subst hJ
      split <;> omega
    refine ⟨_, rfl, sc, _, rfl, .inl (S0.seq hS), 3, _, rfl, _, _, rfl, rfl, J, congrArg (fun z => [V.int z]) hJ, by omega, by omega, for_range (n := J.toNat) (fun i σ H2 => ∃ s2 s3 s4 s5 s6 s7 s8 s9, σ = [some (.ref sc), some (.ref p), s2, s3, s4, s5, s6, s7, s8, s9] ∧ Pen H2 p (1000 * i))
      ⟨none, none, none, none, none, none, none, none, rfl, P0⟩ ?_ ?_⟩
    · rintro i σ H2 hi ⟨s2, s3, s4, s5, s6, s7, s8, s9, rfl, P1⟩
      have hi6 : i < 6 := by omega
      refine ⟨_, rfl, p, 1000 * i, rfl, P1, by omega, fun u H3 a b nu a1 a2 b1 b2 P2 hu2 F2 => ?_⟩
      refine ⟨_, rfl, p, 1000 * i + 6, rfl, P2, by omega, fun v H4 c d nv c1 c2 d1 d2 P3 hv3 F3 => ?_⟩
      refine ⟨_, rfl, p, 1000 * i + 12, rfl, P3, by omega, fun n H5 n1 n2 P4 F4 => ?_⟩
      have hu5 := (hu2.frm F3 P2).frm F4 P3
      have hv5 := hv3.frm F4 P3
      refine ⟨_, _, _, rfl, ?_⟩
      refine ⟨_, rfl, u, _, 0, .int a, rfl, rfl, .inl (.inl hu5), at0, _, rfl, u, _, 1, .int b, rfl, rfl, .inl (.inl hu5), at1, a, b, rfl, fun one H6 nn1 L6 s6' => ?_⟩
      have hv6 := hv5.same s6'
      refine ⟨_, rfl, v, _, 0, .int c, rfl, rfl, .inl (.inl hv6), at0, _, rfl, v, _, 1, .int d, rfl, rfl, .inl (.inl hv6), at1, c, d, rfl, fun two H7 nn2 K7 s7' => ?_⟩
      refine ⟨_, _, rfl, ?_⟩
      have hu : IsT H7 u a b := (hu5.same s6').same s7'
      have hv : IsT H7 v c d := hv6.same s7'
      have La : IsL C H7 one a b := L6.same s7'
      have Lb : IsL C H7 two c d := K7
      have P5 : Pen H7 p (1000 * i + 15) := (P4.same s6').same s7'
      clear hu5 hv5 hv6 L6 K7 P4 s6' s7' nn1 nn2 F4 F3 F2 P3 P2 P1 hu2 hv3 nu nv P0 S0
      have sa : a.natAbs < 10 ^ 40 := by omega
      have sb : b.natAbs < 10 ^ 40 := by omega
      have sc' : c.natAbs < 10 ^ 40 := by omega
      have sd : d.natAbs < 10 ^ 40 := by omega
      have sn : n.natAbs < 10 ^ 40 := by omega
      let J0 : L2.St → Hp → Prop := fun σ' H' => ∃ t8 t9, σ' = [some (.ref sc), some (.ref p), some (.int (0 + i)), some (.ref u), some (.ref v), some (.int n), some (.ref one), some (.ref two), t8, t9] ∧ Same H7 H'
      -- sums, differences
      refine ⟨J0, ?_, ?_⟩
      · refine ⟨_, rfl, _, rfl, rd_addS La Lb fun z G1 nz hz e1 => ?_⟩
        have hu1 := hu.same e1
        have hv1 := hv.same e1
        refine ⟨_, rfl, u, _, 0, .int a, rfl, rfl, .inl (.inl hu1), at0, _, rfl, v, _, 0, .int c, rfl, rfl, .inl (.inl hv1), at0, _, _, rfl, rfl, _, rfl, u, _, 1, .int b, rfl, rfl, .inl (.inl hu1), at1, _, rfl, v, _, 1, .int d, rfl, rfl, .inl (.inl hv1), at1, _, _, rfl, rfl, t2, fun t ht => ?_⟩
        have e2 := same_new (o := .tup [.int (a + c), .int (b + d)]) ht
        refine ⟨z, a + c, b + d, t, a + c, b + d, rfl, hz.same e2, upd_same, rfl, rfl, fun G2 e3 => ⟨true, rfl, iteF ?_⟩⟩
        have E0 := (e1.trans e2).trans e3
        refine ⟨_, rfl, _, rfl, rd_subS (La.same E0) (Lb.same E0) fun z G3 nz hz e4 => ?_⟩
        have hu1 := hu.same (E0.trans e4)
        have hv1 := hv.same (E0.trans e4)
        refine ⟨_, rfl, u, _, 0, .int a, rfl, rfl, .inl (.inl hu1), at0, _, rfl, v, _, 0, .int c, rfl, rfl, .inl (.inl hv1), at0, _, _, rfl, rfl, _, rfl, u, _, 1, .int b, rfl, rfl, .inl (.inl hu1), at1, _, rfl, v, _, 1, .int d, rfl, rfl, .inl (.inl hv1), at1, _, _, rfl, rfl, t2, fun t ht => ?_⟩
        have e5 := same_new (o := .tup [.int (a - c), .int (b - d)]) ht
        refine ⟨z, a - c, b - d, t, a - c, b - d, rfl, hz.same e5, upd_same, rfl, rfl, fun G4 e6 => ⟨true, rfl, iteF ?_⟩⟩
        exact ⟨s8, s9, rfl, ((E0.trans e4).trans e5).trans e6⟩
      rintro σ G0 ⟨t8, t9, rfl, E0⟩
      -- one + n, n + one
      refine ⟨J0, ?_, ?_⟩
      · refine ⟨_, rfl, _, rfl, rd_addI (La.same E0) fun z G1 nz hz e1 => ?_⟩
        have hu1 := hu.same (E0.trans e1)
        refine ⟨_, rfl, u, _, 0, .int a, rfl, rfl, .inl (.inl hu1), at0, _, rfl, u, _, 1, .int b, rfl, rfl, .inl (.inl hu1), at1, _, rfl, _, _, rfl, rfl, t2, fun t ht => ?_⟩
        have e2 := same_new (o := .tup [.int a, .int (b + n)]) ht
        refine ⟨z, a, b + n, t, a, b + n, rfl, hz.same e2, upd_same, rfl, rfl, fun G2 e3 => ⟨true, rfl, iteF ?_⟩⟩
        have E1 := E0.trans ((e1.trans e2).trans e3)
        refine ⟨_, rfl, _, rfl, rd_addR (La.same E1) fun z G3 nz hz e4 => ?_⟩
        have hu1 := hu.same (E1.trans e4)
        refine ⟨_, rfl, u, _, 0, .int a, rfl, rfl, .inl (.inl hu1), at0, _, rfl, u, _, 1, .int b, rfl, rfl, .inl (.inl hu1), at1, _, rfl, _, _, rfl, rfl, t2, fun t ht => ?_⟩
        have e5 := same_new (o := .tup [.int a, .int (b + n)]) ht
        refine ⟨z, a, b + n, t, a, b + n, rfl, hz.same e5, upd_same, rfl, rfl, fun G4 e6 => ⟨true, rfl, iteF ?_⟩⟩
        exact ⟨t8, t9, rfl, ((E1.trans e4).trans e5).trans e6⟩
      clear E0
      rintro σ G0 ⟨t8, t9, rfl, E0⟩
      -- one - n, n - one
      refine ⟨J0, ?_, ?_⟩
      · refine ⟨_, rfl, _, rfl, rd_subI (La.same E0) fun z G1 nz hz e1 => ?_⟩
        have hu1 := hu.same (E0.trans e1)
        refine ⟨_, rfl, u, _, 0, .int a, rfl, rfl, .inl (.inl hu1), at0, _, rfl, u, _, 1, .int b, rfl, rfl, .inl (.inl hu1), at1, _, rfl, _, _, rfl, rfl, t2, fun t ht => ?_⟩
        have e2 := same_new (o := .tup [.int a, .int (b - n)]) ht
        refine ⟨z, a, b - n, t, a, b - n, rfl, hz.same e2, upd_same, rfl, rfl, fun G2 e3 => ⟨true, rfl, iteF ?_⟩⟩
        have E1 := E0.trans ((e1.trans e2).trans e3)
        refine ⟨_, rfl, _, rfl, rd_subR (La.same E1) fun z G3 nz hz e4 => ?_⟩
        have hu1 := hu.same (E1.trans e4)
        refine ⟨_, rfl, u, _, 0, .int a, rfl, rfl, .inl (.inl hu1), at0, a, rfl, _, rfl, _, rfl, u, _, 1, .int b, rfl, rfl, .inl (.inl hu1), at1, _, _, rfl, rfl, t2, fun t ht => ?_⟩
        have e5 := same_new (o := .tup [.int (-a), .int (n - b)]) ht
        refine ⟨z, -a, -b + n, t, -a, n - b, rfl, hz.same e5, upd_same, rfl, by omega, fun G4 e6 => ⟨true, rfl, iteF ?_⟩⟩
        exact ⟨t8, t9, rfl, ((E1.trans e4).trans e5).trans e6⟩
      clear E0
      rintro σ G0 ⟨t8, t9, rfl, E0⟩
      -- one * n, n * one
      refine ⟨J0, ?_, ?_⟩
      · refine ⟨_, rfl, _, rfl, rd_mulI (La.same E0) (cw sa sn) (cw sb sn) fun z G1 nz hz e1 => ?_⟩
        have hu1 := hu.same (E0.trans e1)
        refine ⟨_, rfl, u, _, 0, .int a, rfl, rfl, .inl (.inl hu1), at0, _, rfl, _, _, rfl, rfl, cw sa sn, _, rfl, u, _, 1, .int b, rfl, rfl, .inl (.inl hu1), at1, _, rfl, _, _, rfl, rfl, cw sb sn, t2, fun t ht => ?_⟩
        have e2 := same_new (o := .tup [.int (a * n), .int (b * n)]) ht
        refine ⟨z, a * n, b * n, t, a * n, b * n, rfl, hz.same e2, upd_same, rfl, rfl, fun G2 e3 => ⟨true, rfl, iteF ?_⟩⟩
        have E1 := E0.trans ((e1.trans e2).trans e3)
        refine ⟨_, rfl, _, rfl, rd_mulR (La.same E1) (cw sa sn) (cw sb sn) fun z G3 nz hz e4 => ?_⟩
        have hu1 := hu.same (E1.trans e4)
        refine ⟨_, rfl, u, _, 0, .int a, rfl, rfl, .inl (.inl hu1), at0, _, rfl, _, _, rfl, rfl, cw sa sn, _, rfl, u, _, 1, .int b, rfl, rfl, .inl (.inl hu1), at1, _, rfl, _, _, rfl, rfl, cw sb sn, t2, fun t ht => ?_⟩
        have e5 := same_new (o := .tup [.int (a * n), .int (b * n)]) ht
        refine ⟨z, a * n, b * n, t, a * n, b * n, rfl, hz.same e5, upd_same, rfl, rfl, fun G4 e6 => ⟨true, rfl, iteF ?_⟩⟩
        exact ⟨t8, t9, rfl, ((E1.trans e4).trans e5).trans e6⟩
      clear E0
      rintro σ G0 ⟨t8, t9, rfl, E0⟩
      -- -one, ==, !=
      refine ⟨J0, ?_, ?_⟩
      · refine ⟨_, rfl, rd_neg (La.same E0) fun z G1 nz hz e1 => ?_⟩
        have hu1 := hu.same (E0.trans e1)
        refine ⟨_, rfl, u, _, 0, .int a, rfl, rfl, .inl (.inl hu1), at0, a, rfl, _, rfl, u, _, 1, .int b, rfl, rfl, .inl (.inl hu1), at1, b, rfl, t2, fun t ht => ?_⟩
        have e2 := same_new (o := .tup [.int (-a), .int (-b)]) ht
        refine ⟨z, -a, -b, t, -a, -b, rfl, hz.same e2, upd_same, rfl, rfl, fun G2 e3 => ⟨true, rfl, iteF ?_⟩⟩
        have E1 := E0.trans ((e1.trans e2).trans e3)
        have hu2 := hu.same E1
        have hv2 := hv.same E1
        have M1' := La.same E1
        have M2' := Lb.same E1
        obtain ⟨x1, h1⟩ := M1'
        obtain ⟨x2, h2⟩ := M2'
        refine ⟨_, rfl, _, rfl, one, x1, _, rfl, h1, ⟨_, tyL T h2, nf_self⟩, one, a, b, _, rfl, ⟨x1, h1⟩, .inl ⟨two, c, d, rfl, ⟨x2, h2⟩, ?_⟩⟩
        refine ⟨_, rfl, _, rfl, .tuple [.int a, .int b], .tuple [.int c, .int d], .tup (.inl (.inl hu2)) (dp2 a b), .tup (.inl (.inl hv2)) (dp2 c d), by with_unfolding_all rfl, by with_unfolding_all rfl, ?_⟩
        rw [eqv2]
        refine ⟨rfl, _, rfl, iteNS rfl ?_⟩
        refine ⟨_, rfl, _, rfl, one, x1, _, rfl, h1, ⟨_, tyL T h2, nf_self⟩, one, a, b, _, rfl, ⟨x1, h1⟩, .inl ⟨two, c, d, rfl, ⟨x2, h2⟩, _, rfl, ?_⟩⟩
        refine ⟨_, rfl, _, rfl, .tuple [.int a, .int b], .tuple [.int c, .int d], .tup (.inl (.inl hu2)) (dp2 a b), .tup (.inl (.inl hv2)) (dp2 c d), by with_unfolding_all rfl, by with_unfolding_all rfl, ?_⟩
        rw [eqv2]
        refine ⟨rfl, _, rfl, iteNS rfl ?_⟩
        have tyU : TyX K G2 (.ref u) (.type "tuple") := .base (.tup hu2)
        refine ⟨_, rfl, _, rfl, one, x1, _, rfl, h1, ⟨_, tyU, nf_of nt⟩, one, a, b, _, rfl, ⟨x1, h1⟩, .inr ⟨tyU, _, rfl, iteF ?_⟩⟩
        exact ⟨t8, t9, rfl, E1⟩
      clear E0
      rintro σ G0 ⟨t8, t9, rfl, E0⟩
      -- the loop over x
      have P6 := P5.same E0
      refine ⟨1, rfl, _, rfl, p, 1000 * i + 15, rfl, P6, by omega, fun r3 G1 r31 r32 P7 F7 => ?_⟩
      refine ⟨_, rfl, p, 1000 * i + 18, rfl, P7, by omega, fun r4 G2 r41 r42 P8 F8 => ?_⟩
      refine ⟨by show 5 ≤ sizeLine; decide, fun lq hlq => ?_⟩
      have E5 := same_new (o := .lst [.int 0, .int 1, .int (-1), .int r3, .int r4]) hlq
      have P9 := P8.same E5
      have lq9 : (upd G2 lq (.lst [.int 0, .int 1, .int (-1), .int r3, .int r4])) lq = some (.lst [.int 0, .int 1, .int (-1), .int r3, .int r4]) := upd_same
      have FF : Frm p G0 (upd G2 lq (.lst [.int 0, .int 1, .int (-1), .int r3, .int r4])) := (F7.trans F8).trans (Same.frm E5)
      have hu9 := (hu.same E0).frm FF P6
      have hv9 := (hv.same E0).frm FF P6
      have La9 := (La.same E0).frm FF P6
      have Lb9 := (Lb.same E0).frm FF P6
      generalize upd G2 lq (.lst [.int 0, .int 1, .int (-1), .int r3, .int r4]) = G9 at P9 lq9 hu9 hv9 La9 Lb9
      clear FF E5 P8 F8 P7 F7 hlq E0 P6 hu hv La Lb
      refine ⟨lq, rfl, ⟨_, .inl (.inl lq9)⟩, for_list (K := K) (a := lq) (xs := [.int 0, .int 1, .int (-1), .int r3, .int r4])
        (fun j σ H' => ∃ t8 t9, σ = [some (.ref sc), some (.ref p), some (.int (0 + i)), some (.ref u), some (.ref v), some (.int n), some (.ref one), some (.ref two), t8, t9] ∧ H' lq = some (.lst [.int 0, .int 1, .int (-1), .int r3, .int r4]) ∧ IsT H' u a b ∧ IsT H' v c d ∧ IsL C H' one a b ∧ IsL C H' two c d ∧ Pen H' p (1000 * i + 20 + 3 * j))
        ⟨t8, t9, rfl, lq9, hu9, hv9, La9, Lb9, P9⟩ (fun j σ H' _ ⟨_, _, _, hl, _⟩ => .inl (.inl hl)) ?_ ?_⟩
      · clear lq9 hu9 hv9 La9 Lb9 P9 t8 t9
        rintro j y σ G hy ⟨t8, t9, rfl, hlq, hu, hv, La, Lb, PP⟩
        have hj : j < 5 := by
          rcases Nat.lt_or_ge j 5 with h | h
          · exact h
          · rw [List.getElem?_eq_none (by simpa using h)] at hy
            cases hy
        obtain ⟨x, rfl, hx⟩ : ∃ x : Int, y = .int x ∧ x.natAbs ≤ 10 ^ 30 := by
          have hmem := List.mem_of_getElem? hy
          simp only [List.mem_cons, List.not_mem_nil, or_false] at hmem
          rcases hmem with e | e | e | e | e <;> exact ⟨_, e, by omega⟩
        clear hy
        refine ⟨_, rfl, p, 1000 * i + 20 + 3 * j, rfl, PP, by omega, fun by_ G1 w1 w2 PQ F1 => ?_⟩
        have hl1 : G1 lq = some (.lst [.int 0, .int 1, .int (-1), .int r3, .int r4]) := by
          obtain ⟨c', ns', k', l', hp', _⟩ := PP
          exact F1 _ _ hlq (ne_of hlq hp' (by intro z; cases z))
        have hu1 := hu.frm F1 PP
        have hv1 := hv.frm F1 PP
        have La1 := La.frm F1 PP
        have Lb1 := Lb.frm F1 PP
        clear hlq hu hv La Lb PP F1
        have sx : x.natAbs < 10 ^ 40 := by omega
        have sy : by_.natAbs < 10 ^ 40 := by omega
        let J1 : L2.St → Hp → Prop := fun σ' H' => σ' = [some (.ref sc), some (.ref p), some (.int (0 + i)), some (.ref u), some (.ref v), some (.int n), some (.ref one), some (.ref two), some (.int x), some (.int by_)] ∧ Same G1 H'
        obtain ⟨x1, h1⟩ := La1
        obtain ⟨x2, h2⟩ := Lb1
        refine ⟨J1, ?_, ?_⟩
        · refine ⟨_, rfl, one, rfl, _, rfl, .inr ⟨x1, _, h1⟩, one, a, b, x, rfl, ⟨x1, h1⟩, cw sa sx, ?_⟩
          refine ⟨_, rfl, _, rfl, u, a, b, x, rfl, hu1, cw sa sx, rfl, _, rfl, iteNS rfl ?_⟩
          refine ⟨_, rfl, one, x1, _, rfl, h1, kM _ _, _, rfl, one, a, b, by_, rfl, ⟨x1, h1⟩, cw sa sy, fun z G2 nz hz e1 => ?_⟩
          obtain ⟨xz, hz'⟩ := hz
          refine ⟨z, rfl, _, rfl, .inr ⟨xz, _, hz'⟩, z, a, b - a * by_, x, rfl, ⟨xz, hz'⟩, cw sa sx, ?_⟩
          refine ⟨_, rfl, _, rfl, _, rfl, _, _, rfl, rfl, u, a, b, x - by_, rfl, hu1.same e1, cw sa (by omega), rfl, _, rfl, iteNS (congrArg V.int ?_) ?_⟩
          · rw [Int.mul_sub]; omega
          · exact ⟨rfl, e1⟩
        rintro σ G2 ⟨rfl, E1⟩
        refine ⟨J1, ?_, ?_⟩
        · have g1 := E1 _ _ h1
          have g2 := E1 _ _ h2
          refine ⟨_, rfl, one, x1, _, rfl, g1, kI _ _, _, rfl, one, a, b, by_, rfl, ⟨x1, g1⟩, cw sa sy, fun z G3 nz hz e1 => ?_⟩
          obtain ⟨xz, hz'⟩ := hz
          refine ⟨z, rfl, _, rfl, .inr ⟨xz, _, hz'⟩, z, -a, b + a * by_, x, rfl, ⟨xz, hz'⟩, cw (by omega) sx, ?_⟩
          refine ⟨_, rfl, _, rfl, _, rfl, _, _, rfl, rfl, u, a, b, by_ - x, rfl, (hu1.same E1).same e1, cw sa (by omega), rfl, _, rfl, iteNS (congrArg V.int ?_) ?_⟩
          · rw [Int.mul_sub, Int.neg_mul]; omega
          have k1 := e1 _ _ g1
          have k2 := e1 _ _ g2
          refine ⟨_, rfl, _, rfl, rd_subS ⟨x1, k1⟩ ⟨x2, k2⟩ fun z G4 nz hz e2 => ?_⟩
          obtain ⟨xz, hz'⟩ := hz
          have m1 := e2 _ _ k1
          have m2 := e2 _ _ k2
          refine ⟨z, rfl, _, rfl, .inr ⟨xz, _, hz'⟩, z, a - c, b - d, x, rfl, ⟨xz, hz'⟩, cw (by omega) sx, ?_⟩
          refine ⟨_, rfl, one, rfl, _, rfl, .inr ⟨x1, _, m1⟩, one, a, b, x, rfl, ⟨x1, m1⟩, cw sa sx, ?_⟩
          refine ⟨_, rfl, two, rfl, _, rfl, .inr ⟨x2, _, m2⟩, two, c, d, x, rfl, ⟨x2, m2⟩, cw sc' sx, ?_⟩
          refine ⟨_, _, rfl, rfl, rfl, _, rfl, iteNS (congrArg V.int ?_) ?_⟩
          · rw [Int.sub_mul]; omega
          exact ⟨rfl, (E1.trans e1).trans e2⟩
        clear E1
        rintro σ G2 ⟨rfl, E1⟩
        have g1 := E1 _ _ h1
        have fin : ∀ G', Same G1 G' → ∃ t8 t9, [some (V.ref sc), some (.ref p), some (.int (0 + i)), some (.ref u), some (.ref v), some (.int n), some (.ref one), some (.ref two), some (.int x), some (.int by_)] = [some (V.ref sc), some (.ref p), some (.int (0 + i)), some (.ref u), some (.ref v), some (.int n), some (.ref one), some (.ref two), t8, t9] ∧ G' lq = some (.lst [.int 0, .int 1, .int (-1), .int r3, .int r4]) ∧ IsT G' u a b ∧ IsT G' v c d ∧ IsL C G' one a b ∧ IsL C G' two c d ∧ Pen G' p (1000 * i + 20 + 3 * (j + 1)) := fun G' S =>
          ⟨_, _, rfl, S _ _ hl1, hu1.same S, hv1.same S, ⟨x1, S _ _ h1⟩, ⟨x2, S _ _ h2⟩, (PQ.same S).mono (by omega)⟩
        refine ⟨_, rfl, one, x1, _, rfl, g1, kM _ _, _, rfl, one, a, b, by_, rfl, ⟨x1, g1⟩, cw sa sy, fun z G3 nz hz e1 => ?_⟩
        obtain ⟨xz, hz'⟩ := hz
        refine ⟨z, xz, _, rfl, hz', kM _ _, _, rfl, by_, rfl, z, a, b - a * by_, -by_, rfl, ⟨xz, hz'⟩, cw sa (by omega), fun z2 G4 nz2 hz2 e2 => ?_⟩
        have m1 := e2 _ _ (e1 _ _ g1)
        obtain ⟨xz2, hz2'⟩ := hz2
        refine ⟨_, rfl, z2, xz2, _, rfl, hz2', ⟨_, tyL T m1, nf_self⟩, z2, _, _, _, rfl, ⟨xz2, hz2'⟩, .inl ⟨one, a, b, rfl, ⟨x1, m1⟩, _, rfl, ?_⟩⟩
        rw [decide_eq_true (by constructor; rfl; rw [Int.mul_neg]; omega)]
        refine ⟨_, rfl, iteF ?_⟩
        refine ⟨_, rfl, one, x1, _, rfl, m1, kI _ _, _, rfl, one, a, b, by_, rfl, ⟨x1, m1⟩, cw sa sy, fun z G5 nz hz e3 => ?_⟩
        obtain ⟨xz, hz'⟩ := hz
        refine ⟨z, xz, _, rfl, hz', kI _ _, _, rfl, z, -a, b + a * by_, by_, rfl, ⟨xz, hz'⟩, cw (by omega) sy, fun z2 G6 nz2 hz2 e4 => ?_⟩
        have m2 := e4 _ _ (e3 _ _ m1)
        obtain ⟨xz2, hz2'⟩ := hz2
        refine ⟨_, rfl, z2, xz2, _, rfl, hz2', ⟨_, tyL T m2, nf_self⟩, z2, _, _, _, rfl, ⟨xz2, hz2'⟩, .inl ⟨one, a, b, rfl, ⟨x1, m2⟩, _, rfl, ?_⟩⟩
        rw [decide_eq_true (by constructor; omega; rw [Int.neg_mul]; omega)]
        refine ⟨_, rfl, iteF ?_⟩
        exact fin _ ((((E1.trans e1).trans e2).trans e3).trans e4)
      clear lq9 hu9 hv9 La9 Lb9 P9 t8 t9
      rintro σ G0 ⟨t8, t9, rfl, _, hu, hv, ⟨x1, h1⟩, ⟨x2, h2⟩, PP⟩
      -- texts
      refine ⟨fun σ' H' => σ' = [some (.ref sc), some (.ref p), some (.int (0 + i)), some (.ref u), some (.ref v), some (.int n), some (.ref one), some (.ref two), t8, t9] ∧ Same G0 H', ?_, ?_⟩
      · refine ⟨_, rfl, one, x1, _, rfl, h1, kT _ _, one, a, b, rfl, ⟨x1, h1⟩, sa, sb, fun G1 e1 => ?_⟩
        refine ⟨_, rfl, u, a, b, rfl, hu.same e1, sa, sb, rfl, _, rfl, iteNS rfl ?_⟩
        have g2 := e1 _ _ h2
        refine ⟨_, rfl, two, x2, _, rfl, g2, kT _ _, two, c, d, rfl, ⟨x2, g2⟩, sc', sd, fun G2 e2 => ?_⟩
        refine ⟨_, rfl, v, c, d, rfl, (hv.same e1).same e2, sc', sd, rfl, _, rfl, iteNS rfl ?_⟩
        exact ⟨rfl, e1.trans e2⟩
      rintro σ G1 ⟨rfl, E1⟩
      refine ⟨_, rfl, _, rfl, one, a, b, u, a, b, rfl, ⟨x1, E1 _ _ h1⟩, hu.same E1, rfl, rfl, fun G2 e2 => ⟨true, rfl, iteF ?_⟩⟩
      have E2 := E1.trans e2
      refine ⟨_, rfl, _, rfl, two, c, d, v, c, d, rfl, ⟨x2, E2 _ _ h2⟩, hv.same E2, rfl, rfl, fun G3 e3 => ⟨true, rfl, iteF ?_⟩⟩
      exact ⟨_, _, _, _, _, _, _, _, rfl, (PP.same (E2.trans e3)).mono (by simp only [List.length_cons, List.length_nil]; omega)⟩
    · rintro σ H2 ⟨s2, s3, s4, s5, s6, s7, s8, s9, rfl, P1⟩
      refine ⟨0, 0, rfl, fun l1 G1 n1 L1 e1 => ?_⟩
      obtain ⟨x1, h1⟩ := L1
      refine ⟨l1, x1, _, rfl, h1, kT _ _, l1, 0, 0, rfl, ⟨x1, h1⟩, by decide, by decide, fun G2 e2 => ?_⟩
      refine ⟨1, rfl, 2, rfl, -1, -2, rfl, fun l1 G3 n1 L1 e3 => ?_⟩
      obtain ⟨x1, h1⟩ := L1
      refine ⟨l1, x1, _, rfl, h1, kT _ _, l1, -1, -2, rfl, ⟨x1, h1⟩, by decide, by decide, fun G4 e4 => ?_⟩
      refine ⟨1, 0, rfl, fun l1 G5 n1 L1 e5 => ?_⟩
      obtain ⟨x1, h1⟩ := L1
      refine ⟨l1, x1, _, rfl, h1, kT _ _, l1, 1, 0, rfl, ⟨x1, h1⟩, by decide, by decide, fun G6 e6 => ?_⟩
      refine ⟨7, rfl, 0, -7, rfl, fun l1 G7 n1 L1 e7 => ?_⟩
      obtain ⟨x1, h1⟩ := L1
      refine ⟨l1, x1, _, rfl, h1, kT _ _, l1, 0, -7, rfl, ⟨x1, h1⟩, by decide, by decide, fun G8 e8 => ?_⟩
      have z1 : lineT 0 0 = ("0" : Str) := by decide +kernel
      have z2 : lineT (-1) (-2) = ("-x - 2" : Str) := by decide +kernel
      have z3 : lineT 1 0 = ("x" : Str) := by decide +kernel
      have z4 : lineT 0 (-7) = ("-7" : Str) := by decide +kernel
      rw [z1, z2, z3, z4]
      refine ⟨by show 4 ≤ sizeLine; decide, fun q1 hq1 => ⟨by show 4 ≤ sizeLine; decide, fun q2 hq2 => ?_⟩⟩
      have e9 := same_new (o := .lst [.str "0", .str "-x - 2", .str "x", .str "-7"]) hq2
      have dp : ∀ H, DpAll K H [.str ("0" : Str), .str ("-x - 2" : Str), .str ("x" : Str), .str ("-7" : Str)] [.str "0", .str "-x - 2", .str "x", .str "-7"] := fun H => .cons (.str _) (.cons (.str _) (.cons (.str _) (.cons (.str _) .nil)))
      refine ⟨.list [.str "0", .str "-x - 2", .str "x", .str "-7"], .list [.str "0", .str "-x - 2", .str "x", .str "-7"], .lst (.inl (.inl (e9 _ _ upd_same))) (dp _), .lst (.inl (.inl upd_same)) (dp _), by with_unfolding_all rfl, by with_unfolding_all rfl, ?_⟩
      have ee : PyData.eqv (.list [.str "0", .str "-x - 2", .str "x", .str "-7"]) (.list [.str "0", .str "-x - 2", .str "x", .str "-7"]) = true := by simp [PyData.eqv, PyData.eqvAll]
      rw [ee]
      exact q _
end
end OR

namespace OR
open PySem PySem.Spec PyProof.Rows L2
structure FnAt (K : PySem.W.Frag) (x : Str) (st : Stmt) : Prop where
  ex : ∃ f fd, Fun K x x st f fd ∧ PySem.W.nsIn K mainGlobals x = some (some (.ref f))
theorem fnAt {K : PySem.W.Frag} {h : Heap} {x : Str} {st : Stmt} {f : Addr} {oc : Value} {od an : Option Addr} {osl : Array (Option Value)} {kV doc pm cdv ct : Value} (_X : K.In h)
    (a : PySem.W.nsIn K mainGlobals x = some (some (.ref f))) (l : K.lookup f = some ⟨oc, od, .func (PySem.W.fnOf x x (defArgs st) (defBody st) (defScope st) .none kV doc pm an cdv ct), osl⟩)
    (c : PySem.W.codeIn K cdv x = true) (k : PySem.W.keepIn K (.ref f) = true) : FnAt K x st := ⟨f, _, fun_mk l c k, a⟩
structure MtAt (K : PySem.W.Frag) (C : Addr) (m m' qual : Str) (st : Stmt) : Prop where
  ex : ∃ f fd, Fun K m qual st f fd ∧ PySem.W.findIn K (.ref C) m' = some (some (.ref f)) ∧ PySem.W.isFn K (.ref f) = true ∧ PySem.W.fnIn K f = true
theorem mtAt {K : PySem.W.Frag} {h : Heap} {C : Addr} {m m' qual : Str} {st : Stmt} {f : Addr} {oc : Value} {od an : Option Addr} {osl : Array (Option Value)} {kV doc pm cdv ct : Value} (_X : K.In h)
    (a : PySem.W.findIn K (.ref C) m' = some (some (.ref f))) (l : K.lookup f = some ⟨oc, od, .func (PySem.W.fnOf m qual (defArgs st) (defBody st) (defScope st) .none kV doc pm an cdv ct), osl⟩)
    (c : PySem.W.codeIn K cdv qual = true) (k : PySem.W.keepIn K (.ref f) = true) (i : PySem.W.isFn K (.ref f) = true) (n : PySem.W.fnIn K f = true) : MtAt K C m m' qual st := ⟨f, _, fun_mk l c k, a, i, n⟩
section
variable {P : Program} {w : World} {K : PySem.W.Frag} {mg : Str → Option Value} {base h : Heap}
theorem cl_of {x : Str} {st : Stmt} {k : Nat} {ps : List Str} {sp : Sp} (a : FnAt K x st) (X : K.In h) (G : h.Ns mainGlobals mg)
    (hb : ∀ (kV doc pm : Value) (an : Option Addr) (cdv ct : Value) (us : List Value), us.length = ps.length → bindArgs (PySem.W.fnOf x x (defArgs st) (defBody st) (defScope st) .none kV doc pm an cdv ct) ⟨us, []⟩ = pure (ps.zip us))
    (ok : ∀ f fd, Fun K x x st f fd → FnOk P w K mg base CX0 k f fd ps sp) : Cl P w K mg base k x ps sp := by
  obtain ⟨f, fd, F, e⟩ := a.ex
  exact ⟨f, fd, ok f fd F, PySem.W.mg_of X G e, F.kp, F.binds hb⟩
theorem md_of {C : Addr} {m m' qual : Str} {st : Stmt} {k : Nat} {ps : List Str} {sp : Sp} (a : MtAt K C m m' qual st)
    (hb : ∀ (kV doc pm : Value) (an : Option Addr) (cdv ct : Value) (us : List Value), us.length = ps.length → bindArgs (PySem.W.fnOf m qual (defArgs st) (defBody st) (defScope st) .none kV doc pm an cdv ct) ⟨us, []⟩ = pure (ps.zip us))
    (ok : ∀ f fd, Fun K m qual st f fd → FnOk P w K mg base CX0 k f fd ps sp) : Md P w K mg base k C m' sp := by
  obtain ⟨f, fd, F, e, i, n⟩ := a.ex
  exact ⟨f, fnR_of (ok f fd F) (F.binds hb), e, i, n⟩
end
/-- the class Line behind the top -/
structure LAt (K : PySem.W.Frag) (C : Addr) : Prop where
  aC : PySem.W.nsIn K mainGlobals "Line" = some (some (.ref C))
  pg : PySem.W.plainGet K C Str.empty = true
  hd : PySem.W.hasDictIn K C = true
  po : PySem.W.plainOver K C = true
  sa : PySem.W.findIn K (.ref C) "__setattr__" = some (some (.builtin "object.__setattr__"))
  mks : PySem.W.makesIn K C = true
  kc : PySem.W.keepIn K (.ref C) = true
  nS : PySem.W.findIn K (.ref C) "slope" = some none
  nH : PySem.W.findIn K (.ref C) "height" = some none
  sf : PySem.W.selfFirst K C = true
  ca : PySem.W.findIn K (.ref C) "__class__" = some (some (.builtin "object.__class__"))
  cn : PySem.W.specialIn K (.builtin "object.__class__") "__get__" = some (some (.builtin "getset_descriptor.__get__"))
  ct : PySem.W.takesIn K (.builtin "object.__class__") = some true
  cm : PySem.W.mroIn K C (.type "object") = some true
  ne : PySem.W.findIn K (.ref C) "__ne__" = some (some (.builtin "object.__ne__"))
  nt : PySem.W.subIn K (.type "tuple") (.ref C) = some false
  kLL : PySem.W.kitOne K (.ref C) (.ref C) = some true
  kIL : PySem.W.kitOne K (.type "int") (.ref C) = some false
  kTL : PySem.W.kitOne K (.type "tuple") (.ref C) = some false
structure ZAt (K : PySem.W.Frag) : Prop where
  isi : PySem.W.nsIn K mainGlobals "isinstance" = some none
  int : PySem.W.nsIn K mainGlobals "int" = some none
  bool : PySem.W.nsIn K mainGlobals "bool" = some none
  list : PySem.W.nsIn K mainGlobals "list" = some none
  len : PySem.W.nsIn K mainGlobals "len" = some none
  min : PySem.W.nsIn K mainGlobals "min" = some none
  range : PySem.W.nsIn K mainGlobals "range" = some none
  abs : PySem.W.nsIn K mainGlobals "abs" = some none
  str : PySem.W.nsIn K mainGlobals "str" = some none
  div : PySem.W.nsIn K mainGlobals "divmod" = some none
theorem LAt.txt {K : PySem.W.Frag} {C : Addr} {h : Heap} {mg : Str → Option Value} (L : LAt K C) (X : K.In h) (G : h.Ns mainGlobals mg) (Z : ZAt K) : LTxt K mg C :=
  ⟨⟨L.pg, L.hd, L.po, L.sa⟩, L.nS, L.nH, PySem.W.mg_of X G L.aC, L.sf, ⟨L.ca, L.cn, L.ct, L.cm⟩, L.kLL, L.kIL, L.kTL, PySem.W.mg_none_of X G Z.isi, PySem.W.mg_none_of X G Z.int, PySem.W.mg_none_of X G Z.bool⟩
theorem blk_lit : (10 : Int) ^ 60 = 1000000000000000000000000000000000000000000000000000000000000 := by decide
theorem blk_of {p : Program} {lv : List (Str × PySem.W.WData)} {mg : Str → Option Value} {h : Heap} (X : PySem.W.XL p lv mg h) (hm : (("_BLOCK" : Str), PySem.W.WData.int 1000000000000000000000000000000000000000000000000000000000000) ∈ lv) : ∃ t, mg "_BLOCK" = some (.int (10 ^ 60) t) := by
  obtain ⟨v, hv, hr⟩ := X.2.val _ hm
  cases hr with
  | int i t => exact ⟨t, by rw [blk_lit]; exact hv⟩
/-- the facts for an int beside a line -/
theorem binI_of {K : PySem.W.Frag} {C g : Addr} {op : Operator} {h : Heap} {fo ro : Option Value} (_X : K.In h) (a : PySem.W.findIn K (.ref C) (PySem.dunderR op.info.2) = some (some (.ref g))) (b : PySem.W.findIn K (.type "int") (PySem.dunder op.info.2) = some fo)
    (c : PySem.W.findIn K (.type "int") (PySem.dunderR op.info.2) = some ro) (d : PySem.W.subIn K (.type "int") (.ref C) = some false) : BinI K C op := ⟨⟨_, a, .inr ⟨g, rfl⟩⟩, ⟨_, b⟩, ⟨_, c⟩, d⟩
theorem binR_of {K : PySem.W.Frag} {C g : Addr} {op : Operator} {h : Heap} (_X : K.In h) (a : PySem.W.findIn K (.ref C) (PySem.dunder op.info.2) = some (some (.ref g))) (d : PySem.W.subIn K (.ref C) (.type "int") = some false) : BinR K C op := ⟨⟨_, a⟩, d⟩
theorem mt_of {P : Program} {w : World} {K : PySem.W.Frag} {mg : Str → Option Value} {base : Heap} {C : Addr} {m m' qual : Str} {st : Stmt} {k : Nat} {ps : List Str} {sp : Sp} (a : MtAt K C m m' qual st)
    (hb : ∀ (kV doc pm : Value) (an : Option Addr) (cdv ct : Value) (us : List Value), us.length = ps.length → bindArgs (PySem.W.fnOf m qual (defArgs st) (defBody st) (defScope st) .none kV doc pm an cdv ct) ⟨us, []⟩ = pure (ps.zip us))
    (ok : ∀ f fd, Fun K m qual st f fd → FnOk P w K mg base CX0 k f fd ps sp) : Mt P w K mg base k C m' ps sp := by
  obtain ⟨f, fd, F, e, i, n⟩ := a.ex
  exact ⟨f, fd, ⟨e, i, F.kp⟩, ok f fd F, F.binds hb⟩
theorem co_of {P : Program} {w : World} {K : PySem.W.Frag} {mg : Str → Option Value} {base : Heap} {C : Addr} {qual : Str} {st : Stmt} {k : Nat} {ps : List Str} {sp : Sp} (a : MtAt K C "__call__" "__call__" qual st)
    (hb : ∀ (kV doc pm : Value) (an : Option Addr) (cdv ct : Value) (us : List Value), us.length = ps.length → bindArgs (PySem.W.fnOf "__call__" qual (defArgs st) (defBody st) (defScope st) .none kV doc pm an cdv ct) ⟨us, []⟩ = pure (ps.zip us))
    (ok : ∀ f fd, Fun K "__call__" qual st f fd → FnOk P w K mg base CX0 k f fd ps sp) : Co P w K mg base k C sp := by
  obtain ⟨f, fd, F, e, i, n⟩ := a.ex
  exact ⟨f, ⟨e, i, n⟩, fnR_of (ok f fd F) (F.binds hb)⟩
theorem lmk_of {P : Program} {w : World} {K : PySem.W.Frag} {mg : Str → Option Value} {base : Heap} {C : Addr} (T : LTxt K mg C) (L : LAt K C) (mI : MtAt K C "__init__" "__init__" "Line.__init__" sLInit) : LMk P w K mg base C := ⟨T, by
    obtain ⟨f, fd, F, a, b, c⟩ := mI.ex
    exact ⟨f, fd, ⟨L.mks, a, b, L.kc⟩, ok_linit F T, F.binds fun _ _ _ _ _ _ us hl => match us, hl with | [_, _, _], _ => rfl⟩⟩
/-- walk_of, told besides what the top's loose names read -/
theorem walk_ofX {l : PySem.W.OpenLaw} {n k : Nat} {q : Program} {loose : List Str} {XP : (Str → Option Value) → Heap → Prop} {YP : World → Heap → Prop} {d : DefRec} {K : Params → PySem.W.Frag} {CX : World → CXT} {sp : World → Sp} {x : Str}
    (hn : l.most = some n) (hn2 : n ≤ sizeLine) (hdf : d.params.defaults = []) (hr : Room k callerA) (hY : ∀ (w : World) (h : Heap), YP w h → (K w.params).In h)
    (F : ∀ (w : World) (mg : Str → Option Value) (fa : Addr) (h : Heap), (K w.params).In h → h.Ns mainGlobals mg → XP mg h → mg d.name = some (.ref fa) →
      ∃ fd : FuncData, (∀ (s : Shared) (u : Value), BindsTo s fd ⟨[u], []⟩ [(x, u)]) ∧ ∀ base : Heap, (K w.params).In base → base.Ns mainGlobals mg → FnOk l.prog w (K w.params) mg base (CX w) k fa fd [x] (sp w))
    (hsp : ∀ (w : World) (H : Hp) (a : Addr) (ns : List Int), ns.length ≤ n → Only H → SqL (K w.params) H a (ns.map V.int) → sp w [.ref a] H (fun v _ => v = .bl true) fun _ _ _ => False)
    (hCX : ∀ (w : World) (H : Hp) (s : Shared) (e : Value) (s' : Shared), CX w [] H s (fun _ _ _ => False) e s' → False) : PySem.W.WalkO q loose XP YP l.row.toRowW d [] (fun f vs => PySem.call f vs) := by
  refine Att.attach_call hn hdf fun w s₀ s₁ mg mb fa o pm cd doc a vs ns G Y ho hd hcd hmg hobj hints hlen hg => ?_
  have KX := hY w _ Y
  obtain ⟨fd, hb, hF⟩ := F w mg fa _ KX G.T.g G.X hmg
  exact law_call KX G.T.g G.T.b G.T.builtins G.T.nolimit hg hobj hints (Nat.le_trans hlen hn2) hr hF hb (fun H hO hS => hsp w H a ns hlen hO hS) fun H e s' => hCX w H s₁ e s'
end OR

namespace OR
open PySem PySem.Spec PyProof.Rows L2
theorem all_mk {l : PySem.W.OpenLaw} {w : World} {K : PySem.W.Frag} {h : Heap} {mg : Str → Option Value} {fa C  : Addr} (X : K.In h) (G : h.Ns mainGlobals mg) (hfa : mg "law" = some (.ref fa)) (L : LAt K C) (Z : ZAt K) (lp : ∃ t, mg "_BLOCK" = some (.int (10 ^ 60) t))
    (mI : MtAt K C "__init__" "__init__" "Line.__init__" sLInit) (bA : BinI K C .Add) (rA : BinR K C .Add) (bS : BinI K C .Sub) (rS : BinR K C .Sub) (bM : BinI K C .Mult) (rM : BinR K C .Mult) (fDI : FnAt K "is_integer" sIsInt) (fDD : FnAt K "decimal" sDec) (fDR : FnAt K "_rising_text" sRise) (mEQ : MtAt K C "__eq__" "__eq__" "Line.__eq__" sLEq) (mA1 : MtAt K C "__add__" (PySem.dunder (Operator.info .Add).2) "Line.__add__" sLAdd) (mA3 : MtAt K C "__radd__" (PySem.dunderR (Operator.info .Add).2) "Line.__radd__" sLRadd) (mN1 : MtAt K C "__neg__" "__neg__" "Line.__neg__" sLNeg) (mS1 : MtAt K C "__sub__" (PySem.dunder (Operator.info .Sub).2) "Line.__sub__" sLSub) (mS3 : MtAt K C "__rsub__" (PySem.dunderR (Operator.info .Sub).2) "Line.__rsub__" sLRsub) (mM1 : MtAt K C "__mul__" (PySem.dunder (Operator.info .Mult).2) "Line.__mul__" sLMul) (mM3 : MtAt K C "__rmul__" (PySem.dunderR (Operator.info .Mult).2) "Line.__rmul__" sLRmul) (mMV : MtAt K C "moved" "moved" "Line.moved" sLMoved) (mMI : MtAt K C "mirrored" "mirrored" "Line.mirrored" sLMirr) (mTE : MtAt K C "text" "text" "Line.text" sLText) (mCall : MtAt K C "__call__" "__call__" "Line.__call__" sLCall) (fDPen : FnAt K "_law_pen" sPen) (fDDraw : FnAt K "_law_draw" sDraw) (fDPick : FnAt K "_law_pick" sPick) (fDSpot : FnAt K "_law_spot" sSpot) (fDWhole : FnAt K "_law_whole" sWhole) (fDLine : FnAt K "_law_line" sLine) (fDWorth : FnAt K "_law_worth" sWorth) (fDLT : FnAt K "_law_line_text" sLTx) (fDIs : FnAt K "_law_is" sLIs) (fLaw : FnAt K "law" sLaw) :
    ∃ fd : FuncData, (∀ (s : Shared) (v : Value), BindsTo s fd ⟨[v], []⟩ [("_law_script", v)]) ∧ ∀ base : Heap, K.In base → base.Ns mainGlobals mg → FnOk l.prog w K mg base CX0 5 fa fd ["_law_script"] (spLaw K) := by
  obtain ⟨f, fd, F, e⟩ := fLaw.ex
  have e := hfa.symm.trans (PySem.W.mg_of X G e)
  cases e
  refine ⟨fd, fun s v => ?_, fun base _ _ => ?_⟩
  · obtain ⟨oc, od, kV, doc, pm, an, cdv, ct, osl, rfl, _⟩ := F.ex
    exact .of_eq rfl
  have T : LTxt K mg C := L.txt X G Z
  have none : ∀ {x : Str}, PySem.W.nsIn K mainGlobals x = some none → mg x = none := fun z => PySem.W.mg_none_of X G z
  have B1 : Bl mg := ⟨none Z.int, none Z.len, none Z.abs, none Z.list⟩
  have M : LMk l.prog w K mg base C := lmk_of T L mI
  have TT : TTxt mg := ⟨none Z.abs, none Z.str, none Z.div, lp⟩
  have DI : Cl l.prog w K mg base 1 "is_integer" ["value"] spIsInt := cl_of fDI X G (fun _ _ _ _ _ _ us hl => match us, hl with | [_], _ => rfl) fun f fd F => ok_isint F T
  have DD : Cl l.prog w K mg base 1 "decimal" ["number"] spDec := cl_of fDD X G (fun _ _ _ _ _ _ us hl => match us, hl with | [_], _ => rfl) fun f fd F => ok_dec F TT
  have DR : Cl l.prog w K mg base 2 "_rising_text" ["slope"] spRise := cl_of fDR X G (fun _ _ _ _ _ _ us hl => match us, hl with | [_], _ => rfl) fun f fd F => ok_rise F DD
  have EQ : Md l.prog w K mg base 1 C "__eq__" (spLEq K C) := md_of mEQ (ps := ["self", "other"]) (fun _ _ _ _ _ _ us hl => match us, hl with | [_, _], _ => rfl) fun f fd F => ok_leq F T
  have A1 : Md l.prog w K mg base 3 C (PySem.dunder (Operator.info .Add).2) (spLAdd C) := md_of mA1 (ps := ["self", "other"]) (fun _ _ _ _ _ _ us hl => match us, hl with | [_, _], _ => rfl) fun f fd F => ok_ladd F M DI
  have A3 : Md l.prog w K mg base 4 C (PySem.dunderR (Operator.info .Add).2) (spLRadd C) := md_of mA3 (ps := ["self", "other"]) (fun _ _ _ _ _ _ us hl => match us, hl with | [_, _], _ => rfl) fun f fd F => ok_lradd F T A1 bA
  have N1 : Md l.prog w K mg base 3 C "__neg__" (spLNeg C) := md_of mN1 (ps := ["self"]) (fun _ _ _ _ _ _ us hl => match us, hl with | [_], _ => rfl) fun f fd F => ok_lneg F M
  have S1 : Md l.prog w K mg base 4 C (PySem.dunder (Operator.info .Sub).2) (spLSub C) := md_of mS1 (ps := ["self", "other"]) (fun _ _ _ _ _ _ us hl => match us, hl with | [_, _], _ => rfl) fun f fd F => ok_lsub F M DI A1 bA N1
  have S3 : Md l.prog w K mg base 4 C (PySem.dunderR (Operator.info .Sub).2) (spLRsub C) := md_of mS3 (ps := ["self", "other"]) (fun _ _ _ _ _ _ us hl => match us, hl with | [_, _], _ => rfl) fun f fd F => ok_lrsub F T A1 bA N1
  have M1 : Md l.prog w K mg base 3 C (PySem.dunder (Operator.info .Mult).2) (spLMul C) := md_of mM1 (ps := ["self", "other"]) (fun _ _ _ _ _ _ us hl => match us, hl with | [_, _], _ => rfl) fun f fd F => ok_lmul F M DI
  have M3 : Md l.prog w K mg base 4 C (PySem.dunderR (Operator.info .Mult).2) (spLMul C) := md_of mM3 (ps := ["self", "other"]) (fun _ _ _ _ _ _ us hl => match us, hl with | [_, _], _ => rfl) fun f fd F => ok_lrmul F T M1 bM
  have MV : Mt l.prog w K mg base 3 C "moved" ["self", "by"] (spLMoved C) := mt_of mMV (fun _ _ _ _ _ _ us hl => match us, hl with | [_, _], _ => rfl) fun f fd F => ok_lmoved F M
  have MI : Mt l.prog w K mg base 3 C "mirrored" ["self", "last"] (spLMirr C) := mt_of mMI (fun _ _ _ _ _ _ us hl => match us, hl with | [_, _], _ => rfl) fun f fd F => ok_lmirr F M
  have TE : Mt l.prog w K mg base 3 C "text" ["self"] (spText C) := mt_of mTE (fun _ _ _ _ _ _ us hl => match us, hl with | [_], _ => rfl) fun f fd F => ok_text F T TT DD DR
  have CO : Co l.prog w K mg base 1 C (spLCall C) := co_of mCall (ps := ["self", "x"]) (fun _ _ _ _ _ _ us hl => match us, hl with|[_, _], _ => rfl) fun f fd F => ok_lcall F T
  have DPen : Cl l.prog w K mg base 1 "_law_pen" ["_law_script"] (spPen K) := cl_of fDPen X G (fun _ _ _ _ _ _ us hl => match us, hl with | [_], _ => rfl) fun f fd F => ok_pen F B1
  have DDraw : Cl l.prog w K mg base 1 "_law_draw" ["_law_pen_here", "_law_many"] spDraw := cl_of fDDraw X G (fun _ _ _ _ _ _ us hl => match us, hl with | [_, _], _ => rfl) fun f fd F => ok_draw F B1
  have DPick : Cl l.prog w K mg base 2 "_law_pick" ["_law_pen_here", "_law_items"] (spPick K) := cl_of fDPick X G (fun _ _ _ _ _ _ us hl => match us, hl with | [_, _], _ => rfl) fun f fd F => ok_pick F B1 DDraw
  have DSpot : Cl l.prog w K mg base 2 "_law_spot" ["_law_pen_here"] spSpot := cl_of fDSpot X G (fun _ _ _ _ _ _ us hl => match us, hl with | [_], _ => rfl) fun f fd F => ok_spot F DDraw
  have DWhole : Cl l.prog w K mg base 3 "_law_whole" ["_law_pen_here"] spWhole := cl_of fDWhole X G (fun _ _ _ _ _ _ us hl => match us, hl with | [_], _ => rfl) fun f fd F => ok_whole F DDraw DPick
  have DLine : Cl l.prog w K mg base 4 "_law_line" ["_law_pen_here"] spLine := cl_of fDLine X G (fun _ _ _ _ _ _ us hl => match us, hl with | [_], _ => rfl) fun f fd F => ok_line F DDraw DPick DWhole
  have DWorth : Cl l.prog w K mg base 1 "_law_worth" ["_law_line_here", "_law_x"] spWorth := cl_of fDWorth X G (fun _ _ _ _ _ _ us hl => match us, hl with | [_, _], _ => rfl) fun f fd F => ok_worth F
  have DLT : Cl l.prog w K mg base 1 "_law_line_text" ["_law_line_here"] spLTx := cl_of fDLT X G (fun _ _ _ _ _ _ us hl => match us, hl with | [_], _ => rfl) fun f fd F => ok_ltx F TT
  have DIs : Cl l.prog w K mg base 3 "_law_is" ["_law_line_here", "_law_due"] (spIs C) := cl_of fDIs X G (fun _ _ _ _ _ _ us hl => match us, hl with | [_, _], _ => rfl) fun f fd F => ok_is F M EQ
  exact ok_law F ⟨none Z.len, none Z.min, none Z.range⟩ M L.ne L.nt EQ A1 bA A3 rA S1 bS S3 rS M1 bM M3 rM N1 CO MV MI TE DPen DLine DWhole DSpot DWorth DLT DIs
end OR
open PySem PySem.W PyProof.Rows
set_option maxRecDepth 100000 in
set_option maxHeartbeats 0 in
theorem PySem.Challenge.cw_openranges_k07_lines_added_and_moved_holds : PySem.Challenge.rw_openranges_k07_lines_added_and_moved.Holds := by
  w_on; o_law; k_head; (case hw => w_witness2)
  k_fill
  refine OR.walk_ofX (l := PySem.Challenge.rw_openranges_k07_lines_added_and_moved) (n := 63) (k := 5) (x := "_law_script") (CX := fun _ => L2.CX0) (sp := fun w => OR.spLaw _) rfl (by decide) rfl ⟨rfl, by decide, by decide⟩ (fun w h Y => PySem.W.kIn_of Y) ?F (fun _ _ a ns hl _ hS => ⟨a, ns, rfl, hS, hl, fun _ => rfl⟩) (fun _ _ _ _ _ h => h)
  case F =>
    intro w mg fa h KX G XL hmg
    refine' OR.all_mk KX G hmg ?L ?Z (OR.blk_of XL (List.Mem.head _)) ?mI ?bA ?rA ?bS ?rS ?bM ?rM ?fDI ?fDD ?fDR ?mEQ ?mA1 ?mA3 ?mN1 ?mS1 ?mS3 ?mM1 ?mM3 ?mMV ?mMI ?mTE ?mCall ?fDPen ?fDDraw ?fDPick ?fDSpot ?fDWhole ?fDLine ?fDWorth ?fDLT ?fDIs ?fLaw
    all_goals try clear hmg XL
    case L =>
      refine' OR.LAt.mk ?aC ?pg ?hd ?po ?sa ?mks ?kc ?nS ?nH ?sf ?ca ?cn ?ct ?cm ?ne ?nt ?kLL ?kIL ?kTL
      (case aC => k_is); (case pg => k_is); (case hd => k_is); (case po => k_is); (case sa => k_is); (case mks => k_is); (case kc => k_is); (case nS => k_is); (case nH => k_is); (case sf => k_is); (case ca => k_is); (case cn => k_is); (case ct => k_is); (case cm => k_is); (case ne => k_is); (case nt => k_is); (case kLL => kit_is); (case kIL => kit_is); (case kTL => kit_is)
    case Z =>
      refine' OR.ZAt.mk ?isi ?int ?bool ?list ?len ?min ?range ?abs ?str ?div
      (case isi => k_is); (case int => k_is); (case bool => k_is); (case list => k_is); (case len => k_is); (case min => k_is); (case range => k_is); (case abs => k_is); (case str => k_is); (case div => k_is)
    case mI => refine' OR.mtAt KX ?a ?l ?c ?k ?i ?n; (case a => k_is); (case l => k_is); (case c => k_is); (case k => k_is); (case i => k_is); (case n => k_is)
    case bA => refine' OR.binI_of KX ?a ?b ?c ?d; (case a => k_is); (case b => k_is); (case c => k_is); (case d => k_is)
    case rA => refine' OR.binR_of KX ?a ?d; (case a => k_is); (case d => k_is)
    case bS => refine' OR.binI_of KX ?a ?b ?c ?d; (case a => k_is); (case b => k_is); (case c => k_is); (case d => k_is)
    case rS => refine' OR.binR_of KX ?a ?d; (case a => k_is); (case d => k_is)
    case bM => refine' OR.binI_of KX ?a ?b ?c ?d; (case a => k_is); (case b => k_is); (case c => k_is); (case d => k_is)
    case rM => refine' OR.binR_of KX ?a ?d; (case a => k_is); (case d => k_is)
    case fDI => refine' OR.fnAt KX ?a ?l ?c ?k; (case a => k_is); (case l => k_is); (case c => k_is); (case k => k_is)
    case fDD => refine' OR.fnAt KX ?a ?l ?c ?k; (case a => k_is); (case l => k_is); (case c => k_is); (case k => k_is)
    case fDR => refine' OR.fnAt KX ?a ?l ?c ?k; (case a => k_is); (case l => k_is); (case c => k_is); (case k => k_is)
    case mEQ => refine' OR.mtAt KX ?a ?l ?c ?k ?i ?n; (case a => k_is); (case l => k_is); (case c => k_is); (case k => k_is); (case i => k_is); (case n => k_is)
    case mA1 => refine' OR.mtAt KX ?a ?l ?c ?k ?i ?n; (case a => k_is); (case l => k_is); (case c => k_is); (case k => k_is); (case i => k_is); (case n => k_is)
    case mA3 => refine' OR.mtAt KX ?a ?l ?c ?k ?i ?n; (case a => k_is); (case l => k_is); (case c => k_is); (case k => k_is); (case i => k_is); (case n => k_is)
    case mN1 => refine' OR.mtAt KX ?a ?l ?c ?k ?i ?n; (case a => k_is); (case l => k_is); (case c => k_is); (case k => k_is); (case i => k_is); (case n => k_is)
    case mS1 => refine' OR.mtAt KX ?a ?l ?c ?k ?i ?n; (case a => k_is); (case l => k_is); (case c => k_is); (case k => k_is); (case i => k_is); (case n => k_is)
    case mS3 => refine' OR.mtAt KX ?a ?l ?c ?k ?i ?n; (case a => k_is); (case l => k_is); (case c => k_is); (case k => k_is); (case i => k_is); (case n => k_is)
    case mM1 => refine' OR.mtAt KX ?a ?l ?c ?k ?i ?n; (case a => k_is); (case l => k_is); (case c => k_is); (case k => k_is); (case i => k_is); (case n => k_is)
    case mM3 => refine' OR.mtAt KX ?a ?l ?c ?k ?i ?n; (case a => k_is); (case l => k_is); (case c => k_is); (case k => k_is); (case i => k_is); (case n => k_is)
    case mMV => refine' OR.mtAt KX ?a ?l ?c ?k ?i ?n; (case a => k_is); (case l => k_is); (case c => k_is); (case k => k_is); (case i => k_is); (case n => k_is)
    case mMI => refine' OR.mtAt KX ?a ?l ?c ?k ?i ?n; (case a => k_is); (case l => k_is); (case c => k_is); (case k => k_is); (case i => k_is); (case n => k_is)
    case mTE => refine' OR.mtAt KX ?a ?l ?c ?k ?i ?n; (case a => k_is); (case l => k_is); (case c => k_is); (case k => k_is); (case i => k_is); (case n => k_is)
    case mCall => refine' OR.mtAt KX ?a ?l ?c ?k ?i ?n; (case a => k_is); (case l => k_is); (case c => k_is); (case k => k_is); (case i => k_is); (case n => k_is)
    case fDPen => refine' OR.fnAt KX ?a ?l ?c ?k; (case a => k_is); (case l => k_is); (case c => k_is); (case k => k_is)
    case fDDraw => refine' OR.fnAt KX ?a ?l ?c ?k; (case a => k_is); (case l => k_is); (case c => k_is); (case k => k_is)
    case fDPick => refine' OR.fnAt KX ?a ?l ?c ?k; (case a => k_is); (case l => k_is); (case c => k_is); (case k => k_is)
    case fDSpot => refine' OR.fnAt KX ?a ?l ?c ?k; (case a => k_is); (case l => k_is); (case c => k_is); (case k => k_is)
    case fDWhole => refine' OR.fnAt KX ?a ?l ?c ?k; (case a => k_is); (case l => k_is); (case c => k_is); (case k => k_is)
    case fDLine => refine' OR.fnAt KX ?a ?l ?c ?k; (case a => k_is); (case l => k_is); (case c => k_is); (case k => k_is)
    case fDWorth => refine' OR.fnAt KX ?a ?l ?c ?k; (case a => k_is); (case l => k_is); (case c => k_is); (case k => k_is)
    case fDLT => refine' OR.fnAt KX ?a ?l ?c ?k; (case a => k_is); (case l => k_is); (case c => k_is); (case k => k_is)
    case fDIs => refine' OR.fnAt KX ?a ?l ?c ?k; (case a => k_is); (case l => k_is); (case c => k_is); (case k => k_is)
    case fLaw => refine' OR.fnAt KX ?a ?l ?c ?k; (case a => k_is); (case l => k_is); (case c => k_is); (case k => k_is)

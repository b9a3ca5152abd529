import PyProof.Rows.All
import Wide.All
import OpenK.AllK
import Wide.FinOn
import HandS.ForMost
import HandS.Wide
import HandS.IsInst
import HandS.TupAny
import HandS.Star
import HandS.Evl
import KE.KOpsOwn
import HandS.SlotsOwn
import KE.RegKIsAll
import PySem.Challenge.RW_openranges_k08_first_place_above
set_option Elab.async false
set_option linter.all false
set_option maxRecDepth 100000
namespace OR
open PySem PySem.Spec PyProof.Rows L2
def top (i : Nat) : Stmt := PySem.Challenge.pw_openranges_k08_first_place_above.main.body.getD i (.Pass ⟨0, 0, 0, 0⟩)
abbrev sPen : Stmt := top 8
abbrev sDraw : Stmt := top 9
abbrev sPick : Stmt := top 10
abbrev sWhole : Stmt := top 11
/-! ### the pen: a dict of the cells, how many have begun, what is left of the last one -/
theorem kBC : ¬ ((Sum.inr ("begun" : Str) : Key) = Sum.inr ("cells" : Str)) := by decide +kernel
theorem kLC : ¬ ((Sum.inr ("left" : Str) : Key) = Sum.inr ("cells" : Str)) := by decide +kernel
theorem kLB : ¬ ((Sum.inr ("left" : Str) : Key) = Sum.inr ("begun" : Str)) := by decide +kernel
def penK (c : Addr) (k l : Int) : List (Key × V) := [(.inr ("cells" : Str), .ref c), (.inr ("begun" : Str), .int k), (.inr ("left" : Str), .int l)]
theorem pen_cells (c : Addr) (k l : Int) : valV (penK c k l) (.inr ("cells" : Str)) = some (.ref c) := valV_pos rfl
theorem pen_begun (c : Addr) (k l : Int) : valV (penK c k l) (.inr ("begun" : Str)) = some (.int k) :=
  (valV_neg (fun e => kBC e.symm)).trans (valV_pos rfl)
theorem pen_left (c : Addr) (k l : Int) : valV (penK c k l) (.inr ("left" : Str)) = some (.int l) :=
  (valV_neg (fun e => kLC e.symm)).trans ((valV_neg (fun e => kLB e.symm)).trans (valV_pos rfl))
theorem pen_put_left (c : Addr) (k l y : Int) : putK (penK c k l) (.inr ("left" : Str)) (.int y) = penK c k y := by
  have h1 : ¬ ((Sum.inr ("cells" : Str) : Key) = Sum.inr ("left" : Str)) := fun e => kLC e.symm
  have h2 : ¬ ((Sum.inr ("begun" : Str) : Key) = Sum.inr ("left" : Str)) := fun e => kLB e.symm
  unfold putK penK
  simp only [List.any_cons, List.any_nil, List.map_cons, List.map_nil, h1, h2, decide_true, decide_false, Bool.or_false, Bool.false_or, if_true, if_false]
theorem pen_put_begun (c : Addr) (k l y : Int) : putK (penK c k l) (.inr ("begun" : Str)) (.int y) = penK c y l := by
  have h1 : ¬ ((Sum.inr ("cells" : Str) : Key) = Sum.inr ("begun" : Str)) := fun e => kBC e.symm
  have h2 : ¬ ((Sum.inr ("left" : Str) : Key) = Sum.inr ("begun" : Str)) := kLB
  unfold putK penK
  simp only [List.any_cons, List.any_nil, List.map_cons, List.map_nil, h1, h2, decide_true, decide_false, Bool.or_false, Bool.false_or, Bool.or_true, if_true, if_false]
/-- a pen at p after at most n draws -/
def Pen (H : Hp) (p : Addr) (n : Nat) : Prop := ∃ (c : Addr) (ns : List Int) (k l : Int), H p = some (.dK (penK c k l)) ∧ H c = some (.lst (ns.map V.int)) ∧ ns.length ≤ 63 ∧ 0 ≤ k ∧ k ≤ n ∧ 0 ≤ l
/-- all but what stands at p is as it was -/
def Frm (p : Addr) (H H' : Hp) : Prop := ∀ b o, H b = some o → b ≠ p → H' b = some o
theorem Frm.refl (p : Addr) (H : Hp) : Frm p H H := fun _ _ h _ => h
theorem Frm.trans {p : Addr} {H H1 H2 : Hp} (a : Frm p H H1) (b : Frm p H1 H2) : Frm p H H2 := fun c o h n => b c o (a c o h n) n
theorem Frm.put {p : Addr} {H : Hp} {o : HO} : Frm p H (upd H p o) := fun b x e n => by rw [upd_ne n]; exact e
theorem Frm.new {p q : Addr} {H : Hp} {o : HO} (h : H q = none) : Frm p H (upd H q o) := fun b x e _ => by rw [upd_ne (ne_of_none e h)]; exact e
theorem Pen.mono {H : Hp} {p : Addr} {n m : Nat} (P : Pen H p n) (h : n ≤ m) : Pen H p m := by
  obtain ⟨c, ns, k, l, h1, h2, h3, h4, h5, h6⟩ := P
  exact ⟨c, ns, k, l, h1, h2, h3, h4, by omega, h6⟩
theorem Pen.new {H : Hp} {p q : Addr} {n : Nat} {o : HO} (P : Pen H p n) (h : H q = none) : Pen (upd H q o) p n := by
  obtain ⟨c, ns, k, l, h1, h2, h3, h4, h5, h6⟩ := P
  exact ⟨c, ns, k, l, by rw [upd_ne (ne_of_none h1 h)]; exact h1, by rw [upd_ne (ne_of_none h2 h)]; exact h2, h3, h4, h5, h6⟩
/-! ### the promises -/
/-- a draw: some number below m -/
def spDraw : Sp := fun vs H Q _ => ∃ (p : Addr) (m : Int) (n : Nat), vs = [.ref p, .int m] ∧ 0 < m ∧ m.natAbs < 2 ^ 200 ∧ Pen H p n ∧ n ≤ 1000000 ∧
  ∀ (r : Int) (H' : Hp), 0 ≤ r → r < m → Pen H' p (n + 1) → Frm p H H' → Q (.int r) H'
/-- a def that lets nothing out, as it is called by its name -/
structure Cl (P : Program) (w : World) (K : PySem.W.Frag) (mg : Str → Option Value) (base : Heap) (k : Nat) (x : Str) (ps : List Str) (sp : Sp) : Prop where
  ex : ∃ (f : Addr) (fd : FuncData), FnOk P w K mg base CX0 k f fd ps sp ∧ mg x = some (.ref f) ∧ PySem.W.keepIn K (.ref f) = true ∧ Binds K fd ps []
theorem pe_cl {X : Cx} {k j : Nat} {x : Str} {ps : List Str} {sp : Sp} {e : Expr} {es : List Expr} {t : TA} {p pos : Pos} (c : Cl X.prog X.w X.K X.mg X.base k x ps sp) (hr : Room j X.A) (hk : k ≤ j) (hg : Gl X x) (ha : PA X (e :: es) t)
    (hdb : (x == ("__debug__" : Str)) = false := by decide) (he : starEach (e :: es) X.env = (false, eval e X.env) :: starEach es X.env := by rfl) (hpl : (backTo pos (starEach es X.env)).any (·.1) = false := by rfl) :
    PE X (.Call (.Name x p) (e :: es) [] pos) (tCall sp [] E0 t) := by
  obtain ⟨f, fd, F, hm, hkp, hb⟩ := c.ex
  exact pe_call F (hr.mono hk) hg hm hkp hb .nil pass0 ha hdb he hpl
theorem Frm.seq {K : PySem.W.Frag} {H H' : Hp} {p a : Addr} {n : Nat} {xs : List V} (f : Frm p H H') (P : Pen H p n) (h : SqL K H a xs) : SqL K H' a xs := by
  obtain ⟨c, ns, k, l, hp, _⟩ := P
  rcases h with (h | ⟨o, h⟩) | h
  · exact .inl (.inl (f _ _ h (ne_of h hp (by intro z; cases z))))
  · exact .inl (.inr ⟨o, f _ _ h (ne_of h hp (by intro z; cases z))⟩)
  · exact .inr h
theorem Frm.tup {K : PySem.W.Frag} {H H' : Hp} {p a : Addr} {n : Nat} {xs : List V} (f : Frm p H H') (P : Pen H p n) (h : SqT K H a xs) : SqT K H' a xs := by
  obtain ⟨c, ns, k, l, hp, _⟩ := P
  rcases h with (h | ⟨o, h⟩) | h
  · exact .inl (.inl (f _ _ h (ne_of h hp (by intro z; cases z))))
  · exact .inl (.inr ⟨o, f _ _ h (ne_of h hp (by intro z; cases z))⟩)
  · exact .inr h
/-- an item of a list that is not empty -/
def spPick (K : PySem.W.Frag) : Sp := fun vs H Q _ => ∃ (p a : Addr) (xs : List V) (n : Nat), vs = [.ref p, .ref a] ∧ SqL K H a xs ∧ 0 < xs.length ∧ xs.length ≤ 1000 ∧ Pen H p n ∧ n ≤ 1000000 ∧
  ∀ (v : V) (H' : Hp), v ∈ xs → Pen H' p (n + 1) → Frm p H H' → Q v H'
/-- some number, not too great -/
def spWhole : Sp := fun vs H Q _ => ∃ (p : Addr) (n : Nat), vs = [.ref p] ∧ Pen H p n ∧ n ≤ 900000 ∧
  ∀ (r : Int) (H' : Hp), -(10 ^ 30) < r → r < 10 ^ 30 → Pen H' p (n + 3) → Frm p H H' → Q (.int r) H'
/-- the pen, made of the script -/
def spPen (K : PySem.W.Frag) : Sp := fun vs H Q _ => ∃ (a : Addr) (ns : List Int), vs = [.ref a] ∧ SqL K H a (ns.map V.int) ∧ ns.length ≤ 63 ∧
  ∀ (p : Addr) (H' : Hp), H p = none → Pen H' p 0 → Same H H' → Q (.ref p) H'
structure Bl (mg : Str → Option Value) : Prop where
  int : mg "int" = none
  len : mg "len" = none
  abs : mg "abs" = none
  list : mg "list" = none
theorem dg {H : Hp} {p : Addr} {kvs : List (Key × V)} {x : Str} {v : V} (h : H p = some (.dK kvs)) (e : valV kvs (.inr x) = some v) : DGet H p (.str x) (some v) := e ▸ DGet.k (k := .inr x) h
theorem dp {H : Hp} {p : Addr} {kvs kvs' : List (Key × V)} {x : Str} {v : V} (h : H p = some (.dK kvs)) (e : putK kvs (.inr x) v = kvs') (hl : kvs.length < sizeLine) : DPut H p (.str x) v (upd H p (.dK kvs')) := e ▸ DPut.k (k := .inr x) h hl
theorem pen_small (c : Addr) (k l : Int) : (penK c k l).length < sizeLine := by show 3 < sizeLine; decide
theorem mod_bd (a b : Int) (h : 0 < b) : 0 ≤ a % b ∧ a % b < b := ⟨Int.emod_nonneg a (by omega), Int.emod_lt_of_pos a h⟩
theorem boot_absO : bootBuiltins ("abs" : Str) = some (.builtin "abs") := by decide +kernel
section
variable {P : Program} {w : World} {K : PySem.W.Frag} {mg : Str → Option Value} {base : Heap}
theorem scDraw : FnScope ["_law_pen_here", "_law_many", "_law_digit", "_law_k", "_law_size", "_law_cell", "_law_mix"] ["_law_pen_here", "_law_many"] (defScope sDraw) := ⟨rfl, rfl, rfl, by decide +kernel, rfl, by decide +kernel, by decide +kernel⟩
theorem div200 {m : Int} (h : 0 < m) (h2 : m.natAbs < 2 ^ 200) (i : Int) : CDivW i m := wide_div h h2 (by decide) (by decide)
theorem ok_draw {f : Addr} {fd : FuncData} (F : Fun K "_law_draw" "_law_draw" sDraw f fd) (B : Bl mg) : FnOk P w K mg base CX0 1 f fd ["_law_pen_here", "_law_many"] spDraw := by
  refine F.ok scDraw (fun vs H Q E h => ?_) (fun cdv A outer s H vs Q E hr h => ?_)
  · obtain ⟨p, m, n, rfl, _⟩ := h
    rfl
  · obtain ⟨p, m, n, rfl, hm, hmb, ⟨c, ns, k, l, hp, hc, hns, hk0, hkn, hl⟩, hn, q⟩ := h
    have hu := hu_of hr
    have ncp : c ≠ p := ne_of hc hp (by intro z; cases z)
    have nd := scDraw.nd
    refine ⟨_, pss_cons (ps_if (pt_cmpR op_gt (pe_dget hu (pv 0) pe_str (fun _ _ => rfl)) pe_int (nomark _))
        (pss_cons (ps_set (i := 2) nd rfl (.inl rfl) (pe_op op_mod (pe_callTy call_int1 (by rfl) B.int boot_int (pa_cons (pe_dget hu (pv 0) pe_str (fun _ _ => rfl)) pa_nil)) (pv 1)))
        (pss_cons (ps_dput hu (pv 0) pe_str (pe_op op_fdivW (pe_dget hu (pv 0) pe_str (fun _ _ => rfl)) (pv 1)) rfl)
        (pss_one (ps_ret (pv 2))))) pss_nil)
      (pss_cons (ps_par (i := 3) (j := 4) rfl nd rfl rfl (by decide) rfl rfl (pa_cons (pe_dget hu (pv 0) pe_str (fun _ _ => rfl)) (pa_cons (pe_callB call_len_seq (by rfl) B.len PySem.boot_len (pa_cons (pe_dget hu (pv 0) pe_str (fun _ _ => rfl)) pa_nil)) pa_nil)) rfl)
      (pss_cons (ps_dput hu (pv 0) pe_str (pe_op op_add (pv 3) pe_int) rfl)
      (Evl.pss_cut (ps_set (i := 5) nd rfl (.inl rfl) (pe_ifExp (pt_cmpR op_gt (pv 4) pe_int (nomark _))
          (pe_ix ix_list (pe_dget hu (pv 0) pe_str (fun _ _ => rfl)) (pe_op op_mod (pe_callTy call_int1 (by rfl) B.int boot_int (pa_cons (pv 3) pa_nil)) (pv 4)) (fun _ _ => rfl))
          (pe_op op_add (pe_op op_mul pe_int (pv 3)) pe_int)))
      (Evl.pss_cut (ps_if (PW.pt (pw_and (pt_cmpR op_lt (pv 3) (pv 4) (nomark _)) (pw_and1 (pt_cmpR op_ge (pe_callB call_abs (by rfl) B.abs boot_absO (pa_cons (pv 5) pa_nil)) (pe_op op_pow pe_int pe_int) (nomark _)))))
        (pss_cons (ps_dput hu (pv 0) pe_str (pe_op op_fdivW (pe_op op_sub (pe_callB call_abs (by rfl) B.abs boot_absO (pa_cons (pv 5) pa_nil)) (pe_op op_pow pe_int pe_int)) (pv 1)) rfl)
        (pss_one (ps_ret (pe_op op_mod (pe_callTy call_int1 (by rfl) B.int boot_int (pa_cons (pe_op op_sub (pe_callB call_abs (by rfl) B.abs boot_absO (pa_cons (pv 5) pa_nil)) (pe_op op_pow pe_int pe_int)) pa_nil)) (pv 1))))) pss_nil)
      (pss_cons (ps_set (i := 6) nd rfl (.inl rfl) (pe_op op_mod (pe_callTy call_int1 (by rfl) B.int boot_int (pa_cons
          (pe_op op_add (pe_op op_add (pe_op op_add (pe_op op_mul (pe_op op_mod (pe_callTy call_int1 (by rfl) B.int boot_int (pa_cons (pv 5) pa_nil)) pe_int) pe_int) (pe_op op_mul (pe_op op_mul pe_int (pv 3)) (pv 3))) (pe_op op_mul pe_int (pv 3))) pe_int) pa_nil)) pe_int))
      (pss_cons (ps_set (i := 6) nd rfl (.inl rfl) (pe_op op_mod (pe_callTy call_int1 (by rfl) B.int boot_int (pa_cons
          (pe_op op_add (pe_op op_add (pe_op op_mul (pv 6) (pv 6)) (pe_op op_mul pe_int (pv 6))) (pe_op op_mul pe_int (pv 3))) pa_nil)) pe_int))
      (pss_one (ps_ret (pe_op op_mod (pe_callTy call_int1 (by rfl) B.int boot_int (pa_cons (pe_op op_fdiv (pe_op op_mod (pe_callTy call_int1 (by rfl) B.int boot_int (pa_cons (pe_op op_mul (pv 6) (pe_op op_add (pv 6) pe_int)) pa_nil)) pe_int) pe_int) pa_nil)) (pv 1)))))))))), ?_⟩
    -- if pen['left'] > 0
    have dL : DGet H p (.str "left") (some (.int l)) := dg hp (pen_left c k l)
    have dB : DGet H p (.str "begun") (some (.int k)) := dg hp (pen_begun c k l)
    have dC : DGet H p (.str "cells") (some (.ref c)) := dg hp (pen_cells c k l)
    refine ⟨_, rfl, p, .int l, rfl, dL, _, _, rfl, rfl, _, rfl, ite2 (fun e => ?_) (fun e => ?_)⟩
    · have hl1 : 0 < l := of_decide_eq_true e
      refine ⟨_, rfl, p, .int l, rfl, dL, .inl ⟨l, rfl, _, rfl, l, m, rfl, rfl, hm, ?_⟩⟩
      refine ⟨_, rfl, p, .int l, rfl, dL, _, rfl, l, m, rfl, rfl, div200 hm hmb l, _, rfl, p, _, rfl, dp hp (pen_put_left c k l _) (pen_small c k l), _, rfl, ?_⟩
      refine q (l % m) _ (mod_bd l m hm).1 (mod_bd l m hm).2 ⟨c, ns, k, l / m, upd_same, by rw [upd_ne ncp]; exact hc, hns, hk0, by omega, Int.ediv_nonneg hl (by omega)⟩ Frm.put
    · -- k, size = pen['begun'], len(pen['cells'])
      have hcL : SqL K H c (ns.map V.int) := .inl (.inl hc)
      refine ⟨_, rfl, p, .int k, rfl, dB, _, rfl, p, .ref c, rfl, dC, c, _, rfl, .inl hcL, _, _, rfl, ?_⟩
      refine ⟨_, rfl, _, _, rfl, rfl, _, rfl, p, _, rfl, dp hp (pen_put_begun c k l _) (pen_small c k l), ?_⟩
      -- cell = ..
      have hl0 : l = 0 := by
        have : ¬ (0 < l) := fun z => e (decide_eq_true z)
        omega
      have hp1 : (upd H p (.dK (penK c (k + 1) l))) p = some (.dK (penK c (k + 1) l)) := upd_same
      have hc1 : (upd H p (.dK (penK c (k + 1) l))) c = some (.lst (ns.map V.int)) := by rw [upd_ne ncp]; exact hc
      have dC1 := dg (x := "cells") hp1 (pen_cells c (k + 1) l)
      have hcL1 : SqL K (upd H p (.dK (penK c (k + 1) l))) c (ns.map V.int) := .inl (.inl hc1)
      have fin : ∀ (r y : Int), 0 ≤ r → r < m → 0 ≤ y → ∀ H', H' = upd H p (.dK (penK c (k + 1) y)) → Q (.int r) H' := fun r y h0 h1 hy H' e => by
        subst e
        exact q r _ h0 h1 ⟨c, ns, k + 1, y, upd_same, by rw [upd_ne ncp]; exact hc, hns, by omega, by omega, hy⟩ Frm.put
      refine ⟨fun σ' H' => ∃ cell : Int, σ' = [some (.ref p), some (.int m), none, some (.int k), some (.int ((ns.map V.int).length : Int)), some (.int cell), none] ∧ H' = upd H p (.dK (penK c (k + 1) l)), ?_, ?_⟩
      · refine ⟨_, rfl, _, _, rfl, rfl, _, rfl, ite2 (fun e2 => ?_) (fun e2 => ?_)⟩
        · have hsz : (0 : Int) < ((ns.map V.int).length : Int) := of_decide_eq_true e2
          have hb := mod_bd k _ hsz
          have hj : (k % ((ns.map V.int).length : Int)).toNat < ns.length := by
            rw [List.length_map] at hb ⊢
            omega
          refine ⟨_, rfl, p, _, rfl, dC1, _, rfl, .inl ⟨k, rfl, _, rfl, k, _, rfl, rfl, hsz, c, ns.map V.int, _, .int ns[(k % ((ns.map V.int).length : Int)).toNat], rfl, rfl, hcL1, ?_, ?_⟩⟩
          · have := atI_nat (xs := ns.map V.int) (j := (k % ((ns.map V.int).length : Int)).toNat) (v := .int ns[(k % ((ns.map V.int).length : Int)).toNat]) (by rw [List.getElem?_map, List.getElem?_eq_getElem hj]; rfl)
            rw [Int.toNat_of_nonneg hb.1] at this
            exact this
          · exact ⟨_, rfl, rfl⟩
        · refine ⟨_, rfl, _, _, rfl, rfl, .inl ⟨by decide, by decide⟩, _, _, rfl, rfl, ?_⟩
          exact ⟨_, rfl, rfl⟩
      · rintro σ' H' ⟨cell, rfl, rfl⟩
        refine ⟨fun σ' H' => σ' = [some (.ref p), some (.int m), none, some (.int k), some (.int ((ns.map V.int).length : Int)), some (.int cell), none] ∧ H' = upd H p (.dK (penK c (k + 1) l)), ?_, ?_⟩
        · have hpow : CPow 10 18 := ⟨by decide, by decide, by decide⟩
          refine ⟨_, rfl, _, rfl, _, _, rfl, rfl, _, rfl, ite2 (fun e2 => ?_) (fun e2 => ?_)⟩
          · refine ⟨_, rfl, cell, rfl, _, _, rfl, rfl, hpow, _, _, rfl, rfl, _, rfl, ite2 (fun e3 => ?_) (fun e3 => ?_)⟩
            · have hge := of_decide_eq_true e3
              refine ⟨_, rfl, cell, rfl, _, _, rfl, rfl, hpow, _, _, rfl, rfl, _, rfl, _, _, rfl, rfl, div200 hm hmb _, _, rfl, p, _, rfl, dp hp1 (pen_put_left c (k + 1) l _) (pen_small c _ l), ?_⟩
              refine ⟨_, rfl, cell, rfl, _, _, rfl, rfl, hpow, _, _, rfl, rfl, .inl ⟨_, rfl, _, rfl, _, _, rfl, rfl, hm, ?_⟩⟩
              refine fin _ (((if cell < 0 then -cell else cell) - 10 ^ (18 : Int).toNat) / m) (mod_bd _ m hm).1 (mod_bd _ m hm).2 (Int.ediv_nonneg ?_ (by omega)) _ ?_
              · show (0 : Int) ≤ (if cell < 0 then -cell else cell) - 10 ^ (18 : Int).toNat
                have : (10 : Int) ^ (18 : Int).toNat ≤ (if cell < 0 then -cell else cell) := hge
                omega
              · rw [upd_upd]
            · exact ⟨rfl, rfl⟩
          · exact iteF ⟨rfl, rfl⟩
        · rintro σ' H' ⟨rfl, rfl⟩
          -- mix
          refine ⟨_, rfl, .inl ⟨_, rfl, _, _, rfl, rfl, (by show (0 : Int) < 4294966769; decide), _, _, rfl, rfl, .inr ⟨by decide, by decide⟩, _, rfl, _, _, rfl, rfl, .inl ⟨by decide, by decide⟩, _, rfl, _, _, rfl, rfl, .inl ?_, _, _, rfl, rfl, _, rfl, _, _, rfl, rfl, .inl ⟨by decide, by decide⟩, _, _, rfl, rfl, _, _, rfl, rfl, .inl ⟨_, rfl, _, _, rfl, rfl, (by show (0 : Int) < 4294966813; decide), ?_⟩⟩⟩
          · constructor <;> omega
          -- mix again
          generalize hM : (cell % 4294966769 * 43313 + 31699 * k * k + 613 * k + 41) % 4294966813 = M
          have hMb : 0 ≤ M ∧ M < 4294966813 := hM ▸ mod_bd _ _ (by decide)
          refine ⟨_, rfl, _, rfl, _, _, rfl, rfl, .inl (by constructor <;> omega), _, rfl, _, _, rfl, rfl, .inl ⟨by decide, by decide⟩, _, _, rfl, rfl, _, rfl, _, _, rfl, rfl, .inl ⟨by decide, by decide⟩, _, _, rfl, rfl, .inl ⟨_, rfl, _, _, rfl, rfl, (by show (0 : Int) < 4294966787; decide), ?_⟩⟩
          generalize hM2 : (M * M + 40961 * M + 17 * k) % 4294966787 = M2
          have hMb2 : 0 ≤ M2 ∧ M2 < 4294966787 := hM2 ▸ mod_bd _ _ (by decide)
          refine ⟨_, rfl, _, rfl, _, _, rfl, rfl, _, _, rfl, rfl, .inl (by constructor <;> omega), .inl ⟨_, rfl, _, _, rfl, rfl, (by show (0 : Int) < 4294966661; decide), _, _, rfl, rfl, ⟨by decide, by decide⟩, .inl ⟨_, rfl, _, rfl, _, _, rfl, rfl, hm, ?_⟩⟩⟩
          exact fin _ l (mod_bd _ m hm).1 (mod_bd _ m hm).2 hl _ rfl
theorem scPick : FnScope ["_law_pen_here", "_law_items"] ["_law_pen_here", "_law_items"] (defScope sPick) := ⟨rfl, rfl, rfl, by decide +kernel, rfl, by decide +kernel, by decide +kernel⟩
theorem ok_pick {f : Addr} {fd : FuncData} (F : Fun K "_law_pick" "_law_pick" sPick f fd) (B : Bl mg) (D : Cl P w K mg base 1 "_law_draw" ["_law_pen_here", "_law_many"] spDraw) : FnOk P w K mg base CX0 2 f fd ["_law_pen_here", "_law_items"] (spPick K) := by
  refine F.ok scPick (fun vs H Q E h => ?_) (fun cdv A outer s H vs Q E hr h => ?_)
  · obtain ⟨p, a, xs, n, rfl, _⟩ := h
    rfl
  · obtain ⟨p, a, xs, n, rfl, hS, h0, h1, hP, hn, q⟩ := h
    refine ⟨_, pss_one (ps_ret (pe_ix ix_list (pv 1) (pe_cl D hr (by decide) (by rfl) (pa_cons (pv 0) (pa_cons (pe_callB call_len_seq (by rfl) B.len PySem.boot_len (pa_cons (pv 1) pa_nil)) pa_nil))) (fun _ _ => rfl))), ?_⟩
    refine ⟨_, rfl, _, rfl, _, rfl, a, xs, rfl, .inl hS, p, xs.length, n, rfl, by omega, ?_, hP, hn, fun r H' hr0 hr1 hP' hF => ?_⟩
    · have : xs.length < 2 ^ 200 := Nat.lt_of_le_of_lt h1 (by decide)
      simpa using this
    · have hj : r.toNat < xs.length := by omega
      refine ⟨a, xs, r, xs[r.toNat], rfl, rfl, hF.seq hP hS, ?_, q _ _ (List.getElem_mem hj) hP' hF⟩
      have := atI_nat (xs := xs) (j := r.toNat) (v := xs[r.toNat]) (List.getElem?_eq_getElem hj)
      rw [Int.toNat_of_nonneg hr0] at this
      exact this
theorem scWhole : FnScope ["_law_pen_here", "_law_size"] ["_law_pen_here"] (defScope sWhole) := ⟨rfl, rfl, rfl, by decide +kernel, rfl, by decide +kernel, by decide +kernel⟩
theorem ok_whole {f : Addr} {fd : FuncData} (F : Fun K "_law_whole" "_law_whole" sWhole f fd) (D : Cl P w K mg base 1 "_law_draw" ["_law_pen_here", "_law_many"] spDraw) (C : Cl P w K mg base 2 "_law_pick" ["_law_pen_here", "_law_items"] (spPick K)) :
    FnOk P w K mg base CX0 3 f fd ["_law_pen_here"] spWhole := by
  refine F.ok scWhole (fun vs H Q E h => ?_) (fun cdv A outer s H vs Q E hr h => ?_)
  · obtain ⟨p, n, rfl, _⟩ := h
    rfl
  · obtain ⟨p, n, rfl, hP, hn, q⟩ := h
    refine ⟨_, pss_cons (ps_set (i := 1) scWhole.nd rfl (.inl rfl) (pe_cl C hr (by decide) (by rfl) (pa_cons (pv 0) (pa_cons (pe_lst (pa_cons pe_int (pa_cons pe_int (pa_cons pe_int (pa_cons (pe_op op_pow pe_int pe_int) (pa_cons (pe_op op_pow pe_int pe_int) pa_nil)))))) pa_nil))))
      (pss_one (ps_ret (pe_op op_mul (pe_cl D hr (by decide) (by rfl) (pa_cons (pv 0) (pa_cons (pv 1) pa_nil))) (pe_cl C hr (by decide) (by rfl) (pa_cons (pv 0) (pa_cons (pe_lst (pa_cons pe_int (pa_cons pe_int (pa_cons (pe_un un_neg pe_int) pa_nil)))) pa_nil)))))), ?_⟩
    refine ⟨_, rfl, _, _, rfl, rfl, ⟨by decide, by decide, by decide⟩, _, _, rfl, rfl, ⟨by decide, by decide, by decide⟩, by show 5 ≤ sizeLine; decide, fun a ha => ?_⟩
    have P1 := hP.new (o := .lst [.int 3, .int 10, .int 100, .int (10 ^ (6 : Int).toNat), .int (10 ^ (30 : Int).toNat)]) ha
    refine ⟨p, a, _, n, rfl, .inl (.inl upd_same), by show 0 < 5; decide, by show 5 ≤ 1000; decide, P1, by omega, fun v H2 hv P2 F2 => ?_⟩
    obtain ⟨m, rfl, hm0, hm1⟩ : ∃ m : Int, v = .int m ∧ 0 < m ∧ m ≤ 10 ^ 30 := by
      simp only [List.mem_cons, List.not_mem_nil, or_false] at hv
      rcases hv with e | e | e | e | e <;> subst e <;> exact ⟨_, rfl, by decide, by decide⟩
    have hmb : m.natAbs < 2 ^ 200 := by
      have : m.natAbs ≤ 10 ^ 30 := by omega
      exact Nat.lt_of_le_of_lt this (by decide)
    refine ⟨_, rfl, _, rfl, p, m, n + 1, rfl, hm0, hmb, P2, by omega, fun r H3 hr0 hr1 P3 F3 => ?_⟩
    refine ⟨_, rfl, _, rfl, by show 3 ≤ sizeLine; decide, fun b hb => ?_⟩
    refine ⟨p, b, _, n + 2, rfl, .inl (.inl upd_same), by show 0 < 3; decide, by show 3 ≤ 1000; decide, P3.new hb, by omega, fun v H4 hv P4 F4 => ?_⟩
    obtain ⟨s, rfl, hs⟩ : ∃ s : Int, v = .int s ∧ (s = 1 ∨ s = -1) := by
      simp only [List.mem_cons, List.not_mem_nil, or_false] at hv
      rcases hv with e | e | e <;> subst e
      · exact ⟨_, rfl, .inl rfl⟩
      · exact ⟨_, rfl, .inl rfl⟩
      · exact ⟨_, rfl, .inr rfl⟩
    refine ⟨r, s, rfl, rfl, .inr (by constructor <;> omega), q _ _ ?_ ?_ P4 ((((Frm.new ha).trans F2).trans F3).trans ((Frm.new hb).trans F4))⟩
    · rcases hs with rfl | rfl <;> omega
    · rcases hs with rfl | rfl <;> omega
theorem scPen : FnScope ["_law_script"] ["_law_script"] (defScope sPen) := ⟨rfl, rfl, rfl, by decide +kernel, rfl, by decide +kernel, by decide +kernel⟩
theorem cut63 (ns : List Int) : cutV (ns.map V.int) none (some 63) = (ns.take 63).map V.int := by
  unfold cutV
  rw [HT.sIx_none, show HT.sIx (ns.map V.int).length (ns.map V.int).length (some 63) = min 63 (ns.map V.int).length from HT.sIx_nat _ _ 63, List.drop_zero, Nat.sub_zero, List.map_take]
  rcases Nat.le_total 63 (ns.map V.int).length with h | h
  · rw [Nat.min_eq_left h]
  · rw [Nat.min_eq_right h, List.take_of_length_le (Nat.le_refl _), List.take_of_length_le h]
theorem ok_pen {f : Addr} {fd : FuncData} (F : Fun K "_law_pen" "_law_pen" sPen f fd) (B : Bl mg) : FnOk P w K mg base CX0 1 f fd ["_law_script"] (spPen K) := by
  refine F.ok scPen (fun vs H Q E h => ?_) (fun cdv A outer s H vs Q E hr h => ?_)
  · obtain ⟨a, ns, rfl, _⟩ := h
    rfl
  · obtain ⟨a, ns, rfl, hS, hlen, q⟩ := h
    refine ⟨_, pss_one (ps_ret (pe_disp (pps_cons pe_str (pe_callTy call_list_of (by rfl) B.list (by decide +kernel) (pa_cons (pe_slice sl_list (pv 0) po_none (po_some pe_int)) pa_nil)) (pps_cons pe_str pe_int (pps_cons pe_str pe_int pps_nil))) rfl rfl (by simp) (by decide))), ?_⟩
    intro p hp
    have s1 : Same H (upd H p (.dK [])) := fun b o e => by rw [upd_ne (ne_of_none e hp)]; exact e
    refine ⟨_, rfl, _, rfl, a, _, rfl, s1.seq hS, fun x hx => ?_⟩
    refine ⟨x, _, rfl, .inl (.inl (.inl upd_same)), fun c hc => ?_⟩
    have npx : p ≠ x := ne_of_none upd_same hx
    have npc : p ≠ c := by
      intro e
      subst e
      rw [upd_ne npx, upd_same] at hc
      cases hc
    have a1 : putK ([] : List (Key × V)) (.inr ("cells" : Str)) (.ref c) = [(.inr ("cells" : Str), .ref c)] := putK_new _ valV_nil
    have a2 : putK ([(.inr ("cells" : Str), .ref c)] : List (Key × V)) (.inr ("begun" : Str)) (.int 0) = [(.inr ("cells" : Str), .ref c), (.inr ("begun" : Str), .int 0)] := putK_new _ ((valV_neg (fun e => kBC e.symm)).trans valV_nil)
    have a3 : putK ([(.inr ("cells" : Str), .ref c), (.inr ("begun" : Str), .int 0)] : List (Key × V)) (.inr ("left" : Str)) (.int 0) = penK c 0 0 := putK_new _ ((valV_neg (fun e => kLC e.symm)).trans ((valV_neg (fun e => kLB e.symm)).trans valV_nil))
    have e3 : mergeK [] (penK c 0 0) = penK c 0 0 := by
      show putK (putK (putK ([] : List (Key × V)) (.inr ("cells" : Str)) (.ref c)) (.inr ("begun" : Str)) (.int 0)) (.inr ("left" : Str)) (.int 0) = penK c 0 0
      rw [a1, a2, a3]
    refine ⟨by rw [upd_ne npc, upd_ne npx, upd_same], penK c 0 0, rfl, by show 3 ≤ 15; decide, ?_⟩
    rw [e3]
    refine q p _ hp ⟨c, ns.take 63, 0, 0, upd_same, ?_, by rw [List.length_take]; omega, by omega, by omega, by omega⟩ fun b o e => ?_
    · rw [upd_ne npc.symm, upd_same, cut63]
    · have h1 := s1 b o e
      have nbx : b ≠ x := ne_of_none h1 hx
      have h2 : (upd (upd H p (.dK [])) x (.lst (cutV (ns.map V.int) none (some 63)))) b = some o := by rw [upd_ne nbx]; exact h1
      rw [upd_ne (ne_of_none e hp), upd_ne (ne_of_none h2 hc)]
      exact h2
end
end OR

namespace OR
open PySem PySem.Spec PyProof.Rows L2
/-! ### own classes: double-underscore methods behind the signs -/
/-- a method of the class at C, called with its object and arguments by position -/
structure Md (P : Program) (w : World) (K : PySem.W.Frag) (mg : Str → Option Value) (base : Heap) (k : Nat) (C : Addr) (m : Str) (sp : Sp) : Prop where
  ex : ∃ f, FnR P w K mg base CX0 k f sp ∧ PySem.W.findIn K (.ref C) m = some (some (.ref f)) ∧ PySem.W.isFn K (.ref f) = true ∧ PySem.W.fnIn K f = true
theorem fnR_of {P : Program} {w : World} {K : PySem.W.Frag} {mg : Str → Option Value} {base : Heap} {k : Nat} {f : Addr} {fd : FuncData} {ps : List Str} {sp : Sp} (F : FnOk P w K mg base CX0 k f fd ps sp) (hb : Binds K fd ps []) : FnR P w K mg base CX0 k f sp :=
  (F.raw hb .nil).imp fun vs H Q E h => by rw [List.append_nil]; exact h
section
variable {X : Cx} {n : Nat} {C : Addr} {sp : Sp}
def rBinS (C : Addr) (sp : Sp) : R2 := fun x y H Q => ∃ a b dx dy fs gs, x = .ref a ∧ y = .ref b ∧ H a = some (.ins C dx fs) ∧ H b = some (.ins C dy gs) ∧ sp [x, y] H Q E0
theorem op_binS {op : Operator} (m : Md X.prog X.w X.K X.mg X.base n C (PySem.dunder op.info.2) sp) (sf : PySem.W.selfFirst X.K C = true) (hr : Room n X.A) : OpR X (binaryOp op) (rBinS C sp) := by
  intro pins s σ H x y v u Q I rx ry h
  obtain ⟨f, F, hs, hf, _⟩ := m.ex
  obtain ⟨a, b, dx, dy, fs, gs, rfl, rfl, ha, hb, q⟩ := h
  cases (show v = Value.ref a from rx)
  cases (show u = Value.ref b from ry)
  obtain ⟨mA, J, _⟩ := ins_get I.hok ha
  obtain ⟨mB, J', _⟩ := ins_get I.hok hb
  obtain ⟨od, J, _⟩ := J.look
  obtain ⟨od', J', _⟩ := J'.look
  obtain ⟨m, hF⟩ := I.fr
  refine PySem.W.binop_K hF I.ok.mod.kin J J'.type sf hs hf ?_
  refine wpAny_mono (wpAny_call (run_fnR (us := [.ref a, .ref b]) (vs := [.ref a, .ref b]) F hr pass0 I (.cons rfl (.cons rfl .nil)) q)) (fun w s' z => ?_) fun _ _ x => x
  obtain ⟨z', H', I', rz, qz⟩ := z
  exact SlX.cmpback rz ⟨z', H', I', rz, qz⟩
/-- what + and the like ask of the class for an int on the right -/
structure BinI (K : PySem.W.Frag) (C : Addr) (op : Operator) : Prop where
  rc : ∃ rc, PySem.W.findIn K (.ref C) (PySem.dunderR op.info.2) = some rc ∧ (rc = none ∨ ∃ g : Addr, rc = some (.ref g))
  fo : ∃ fo, PySem.W.findIn K (.type "int") (PySem.dunder op.info.2) = some fo
  ro : ∃ ro, PySem.W.findIn K (.type "int") (PySem.dunderR op.info.2) = some ro
  sub : PySem.W.subIn K (.type "int") (.ref C) = some false
def rBinI (C : Addr) (sp : Sp) : R2 := fun x y H Q => ∃ a dx fs i, x = .ref a ∧ y = .int i ∧ H a = some (.ins C dx fs) ∧ sp [x, y] H Q E0
theorem op_binI {op : Operator} (m : Md X.prog X.w X.K X.mg X.base n C (PySem.dunder op.info.2) sp) (b : BinI X.K C op) (sf : PySem.W.selfFirst X.K C = true) (hr : Room n X.A) : OpR X (binaryOp op) (rBinI C sp) := by
  intro pins s σ H x y v u Q I rx ry h
  obtain ⟨f, F, hs, hf, _⟩ := m.ex
  obtain ⟨a, dx, fs, i, rfl, rfl, ha, q⟩ := h
  cases (show v = Value.ref a from rx)
  obtain ⟨t, rfl⟩ := (show ∃ t, u = Value.int i t from ry)
  obtain ⟨mA, J, _⟩ := ins_get I.hok ha
  obtain ⟨od, J, _⟩ := J.look
  obtain ⟨m, hF⟩ := I.fr
  obtain ⟨rc, hrc, hp⟩ := b.rc
  obtain ⟨fo, h1⟩ := b.fo
  obtain ⟨ro, h2⟩ := b.ro
  refine PySem.W.ksp_binT (T := "int") hF I.ok.mod.kin J rfl sf hs hf hrc hp h1 h2 b.sub ?_
  refine wpAny_mono (wpAny_call (run_fnR (us := [.ref a, .int i t]) (vs := [.ref a, .int i]) F hr pass0 I (.cons rfl (.cons ⟨t, rfl⟩ .nil)) q)) (fun w s' z => ?_) fun _ _ x => x
  obtain ⟨z', H', I', rz, qz⟩ := z
  exact SlX.cmpback rz ⟨z', H', I', rz, qz⟩
def rNegO (C : Addr) (sp : Sp) : V → Hp → VK → Prop := fun x H Q => ∃ a dx fs, x = .ref a ∧ H a = some (.ins C dx fs) ∧ sp [x] H Q E0
theorem un_negO (m : Md X.prog X.w X.K X.mg X.base n C "__neg__" sp) (hr : Room n X.A) : UnR X (unaryOp .USub) (rNegO C sp) := by
  intro pins s σ H x v Q I rx h
  obtain ⟨f, F, hs, hf, _⟩ := m.ex
  obtain ⟨a, dx, fs, rfl, ha, q⟩ := h
  cases (show v = Value.ref a from rx)
  obtain ⟨mA, J, _⟩ := ins_get I.hok ha
  obtain ⟨od, J, _⟩ := J.look
  obtain ⟨m, hF⟩ := I.fr
  refine PySem.W.ksp_neg hF I.ok.mod.kin J hs hf ?_
  refine wpAny_mono (wpAny_call (run_fnR (us := [.ref a]) (vs := [.ref a]) F hr pass0 I (.cons rfl .nil) q)) (fun w s' z => ?_) fun _ _ x => x
  exact z
end
/-- a reading may ask for more -/
theorem pe_imp {X : Cx} {e : Expr} {t t' : TE} (h : PE X e t) (i : ∀ σ H Q, t' σ H Q → t σ H Q) : PE X e t' := ⟨fun pins s σ H Q I q => h.run pins s σ H Q I (i σ H Q q)⟩
end OR

namespace OR
open PySem PySem.Spec PyProof.Rows L2
abbrev sIsInt : Stmt := top 2
abbrev sLInit : Stmt := inClass (top 4) 0
abbrev sLAdd : Stmt := inClass (top 4) 3
abbrev sLNeg : Stmt := inClass (top 4) 5
abbrev sLSub : Stmt := inClass (top 4) 6
abbrev sFirst : Stmt := top 6
abbrev sVal : Stmt := top 5
theorem pt_neverO {X : Cx} {e : Expr} : PT X e (fun _ _ _ => False) := ⟨fun _ _ _ _ _ _ h => h.elim⟩
/-! ### a line as it stands -/
theorem kSH : ¬ (("slope" : Str) = "height") := by decide +kernel
def lFl (a b : Int) : List (Str × V) := putF "height" (.int b) (putF "slope" (.int a) [])
theorem lFl_slope (a b : Int) : (lFl a b).lookup ("slope" : Str) = some (.int a) := by
  unfold lFl
  rw [lookup_putF, if_neg kSH, lookup_putF, if_pos rfl]
theorem lFl_height (a b : Int) : (lFl a b).lookup ("height" : Str) = some (.int b) := by
  unfold lFl
  rw [lookup_putF, if_pos rfl]
theorem lFl_no (a b : Int) {m : Str} (h1 : ¬ m = "height") (h2 : ¬ m = "slope") : (lFl a b).lookup m = none := by
  unfold lFl
  rw [lookup_putF, if_neg h1, lookup_putF, if_neg h2]
  all_goals rfl
def IsL (C : Addr) (H : Hp) (x : Addr) (a b : Int) : Prop := ∃ dx, H x = some (.ins C dx (lFl a b))
theorem IsL.same {C : Addr} {H H' : Hp} {x : Addr} {a b : Int} (h : IsL C H x a b) (s : Same H H') : IsL C H' x a b := by
  obtain ⟨dx, e⟩ := h
  exact ⟨dx, s _ _ e⟩
theorem IsL.frm {C : Addr} {H H' : Hp} {x p : Addr} {a b : Int} {n : Nat} (h : IsL C H x a b) (s : Frm p H H') (P : Pen H p n) : IsL C H' x a b := by
  obtain ⟨dx, e⟩ := h
  obtain ⟨c, ns, k, l, hp, _⟩ := P
  exact ⟨dx, s _ _ e (ne_of e hp (by intro z; cases z))⟩
theorem Same.frm {p : Addr} {H H' : Hp} (s : Same H H') : Frm p H H' := fun b o e _ => s b o e
theorem Pen.same {H H' : Hp} {p : Addr} {n : Nat} (P : Pen H p n) (s : Same H H') : Pen H' p n := by
  obtain ⟨c, ns, k, l, h1, h2, h⟩ := P
  exact ⟨c, ns, k, l, s _ _ h1, s _ _ h2, h⟩
/-- what the text says of the class Line -/
structure LTxt (K : PySem.W.Frag) (mg : Str → Option Value) (C : Addr) : Prop where
  cl : Cls K C
  nS : NoAttr K C "slope"
  nH : NoAttr K C "height"
  mgC : mg "Line" = some (.ref C)
  sf : PySem.W.selfFirst K C = true
  isi : SlX.SIsi K C
  kLL : PySem.W.kitOne K (.ref C) (.ref C) = some true
  kIL : PySem.W.kitOne K (.type "int") (.ref C) = some false
  zIsi : mg "isinstance" = none
  zInt : mg "int" = none
  zBool : mg "bool" = none
def spLInit (C : Addr) : Sp := fun vs H Q _ => ∃ (p dx : Addr) (a b : Int), vs = [.ref p, .int a, .int b] ∧ H p = some (.ins C dx []) ∧ ∀ H', H' p = some (.ins C dx (lFl a b)) → (∀ c o, H c = some o → c ≠ p → H' c = some o) → Q .non H'
def spIsInt : Sp := fun vs H Q _ => ∃ n, vs = [.int n] ∧ Q (.bl true) H
def spLNeg (C : Addr) : Sp := fun vs H Q _ => ∃ x a b, vs = [.ref x] ∧ IsL C H x a b ∧ ∀ y H', H y = none → IsL C H' y (-a) (-b) → Same H H' → Q (.ref y) H'
def spLAdd (C : Addr) : Sp := fun vs H Q _ => ∃ (x : Addr) (a b : Int), IsL C H x a b ∧ ((∃ (y : Addr) (c d : Int), vs = [.ref x, .ref y] ∧ IsL C H y c d ∧ ∀ z H', H z = none → IsL C H' z (a + c) (b + d) → Same H H' → Q (.ref z) H') ∨
  (∃ n : Int, vs = [.ref x, .int n] ∧ ∀ z H', H z = none → IsL C H' z a (b + n) → Same H H' → Q (.ref z) H'))
def spLSub (C : Addr) : Sp := fun vs H Q _ => ∃ (x : Addr) (a b : Int) (y : Addr) (c d : Int), vs = [.ref x, .ref y] ∧ IsL C H x a b ∧ IsL C H y c d ∧ ∀ z H', H z = none → IsL C H' z (a - c) (b - d) → Same H H' → Q (.ref z) H'
def spLCall (C : Addr) : Sp := fun vs H Q _ => ∃ (x : Addr) (a b t : Int), vs = [.ref x, .int t] ∧ IsL C H x a b ∧ CMul a t ∧ Q (.int (a * t + b)) H
section
variable {P : Program} {w : World} {K : PySem.W.Frag} {mg : Str → Option Value} {base : Heap}
theorem scLI : FnScope ["self", "slope", "height"] ["self", "slope", "height"] (defScope sLInit) := ⟨rfl, rfl, rfl, by decide +kernel, rfl, by decide +kernel, by decide +kernel⟩
theorem ok_linit {f C : Addr} {fd : FuncData} (F : Fun K "__init__" "Line.__init__" sLInit f fd) (T : LTxt K mg C) : FnOk P w K mg base CX0 1 f fd ["self", "slope", "height"] (spLInit C) := by
  refine F.ok scLI (fun vs H Q E h => ?_) (fun cdv A outer s H vs Q E hr h => ?_)
  · obtain ⟨p, dx, a, b, rfl, _⟩ := h
    rfl
  · obtain ⟨p, dx, a, b, rfl, hp, q⟩ := h
    refine ⟨_, pss_cons (ps_fld (pv 0) (pv 1) rfl) (pss_one (ps_fld (pv 0) (pv 2) rfl)), ?_⟩
    refine ⟨_, rfl, _, rfl, p, C, dx, [], rfl, hp, T.cl, T.nS, (by show 0 < 1000; decide), _, rfl, _, rfl, p, C, dx, _, rfl, upd_same, T.cl, T.nH, (by show 1 < 1000; decide), ?_⟩
    refine q _ upd_same fun c o e n => ?_
    rw [upd_ne n, upd_ne n]
    exact e
/-- Line(a, b) -/
def tMkL (C : Addr) (t : TA) : TE := fun σ H Q => t σ H fun vs H1 => ∃ a b, vs = [.int a, .int b] ∧ ∀ x H', H1 x = none → IsL C H' x a b → Same H1 H' → Q (.ref x) H'
end
/-- the class Line as it is made -/
structure LMk (P : Program) (w : World) (K : PySem.W.Frag) (mg : Str → Option Value) (base : Heap) (C : Addr) : Prop where
  T : LTxt K mg C
  made : ∃ f fd, Mk K C f ∧ FnOk P w K mg base CX0 1 f fd ["self", "slope", "height"] (spLInit C) ∧ Binds K fd ["self", "slope", "height"] []
theorem pe_mkL {X : Cx} {C : Addr} {j : Nat} {e : Expr} {es : List Expr} {t : TA} {p pos : Pos} (M : LMk X.prog X.w X.K X.mg X.base C) (hr : Room j X.A) (hj : 2 ≤ j) (hg : Gl X "Line") (ha : PA X (e :: es) t)
    (he : starEach (e :: es) X.env = (false, eval e X.env) :: starEach es X.env := by rfl) (hpl : (backTo pos (starEach es X.env)).any (·.1) = false := by rfl) : PE X (.Call (.Name "Line" p) (e :: es) [] pos) (tMkL C t) := by
  obtain ⟨f, fd, mk, F, hb⟩ := M.made
  refine ⟨fun pins s σ H Q I h => ?_⟩
  refine wpAny_Call_Name_kw (ld_glob I hg M.T.mgC ?_ (by decide))
  refine PySem.W.callWith_K (h₀ := X.base) I.ok.mod.kin mk.kp (thn (ha.run pos pins s σ H _ I h) fun us s1 ⟨vs, H1, I1, r, q⟩ => ⟨I1.kIn, ?_⟩) he hpl
  obtain ⟨a, b, rfl, q⟩ := q
  refine run_make mk F (hr.mono hj) hb .nil pass0 I1 r fun x dx nx ndx nex => ?_
  refine ⟨x, dx, a, b, rfl, upd_same, fun H' hx hs => ⟨rfl, q x H' nx ⟨dx, hx⟩ fun c o e => ?_⟩⟩
  have ncx : c ≠ x := ne_of_none e nx
  refine hs c o ?_ ncx
  rw [upd_ne ncx, upd_ne (ne_of_none e ndx)]
  exact e
section
variable {P : Program} {w : World} {K : PySem.W.Frag} {mg : Str → Option Value} {base : Heap}
theorem scLN : FnScope ["self"] ["self"] (defScope sLNeg) := ⟨rfl, rfl, rfl, by decide +kernel, rfl, by decide +kernel, by decide +kernel⟩
theorem ok_lneg {f C : Addr} {fd : FuncData} (F : Fun K "__neg__" "Line.__neg__" sLNeg f fd) (M : LMk P w K mg base C) : FnOk P w K mg base CX0 3 f fd ["self"] (spLNeg C) := by
  have T := M.T
  refine F.ok scLN (fun vs H Q E h => ?_) (fun cdv A outer s H vs Q E hr h => ?_)
  · obtain ⟨x, a, b, rfl, _⟩ := h
    rfl
  · obtain ⟨x, a, b, rfl, ⟨dx, hx⟩, q⟩ := h
    refine ⟨_, pss_one (ps_ret (pe_mkL M hr (by decide) (by rfl) (pa_cons (pe_un un_neg (pe_fld (pv 0) rfl)) (pa_cons (pe_un un_neg (pe_fld (pv 0) rfl)) pa_nil)))), ?_⟩
    exact ⟨_, rfl, x, C, dx, _, _, rfl, hx, T.cl, T.nS, lFl_slope a b, a, rfl, _, rfl, x, C, dx, _, _, rfl, hx, T.cl, T.nH, lFl_height a b, b, rfl, -a, -b, rfl, q⟩
theorem scLC : FnScope ["line", "x"] ["line", "x"] (defScope sVal) := ⟨rfl, rfl, rfl, by decide +kernel, rfl, by decide +kernel, by decide +kernel⟩
theorem ok_lval {f C : Addr} {fd : FuncData} (F : Fun K "value_at" "value_at" sVal f fd) (T : LTxt K mg C) : FnOk P w K mg base CX0 1 f fd ["line", "x"] (spLCall C) := by
  refine F.ok scLC (fun vs H Q E h => ?_) (fun cdv A outer s H vs Q E hr h => ?_)
  · obtain ⟨x, a, b, t, rfl, _⟩ := h
    rfl
  · obtain ⟨x, a, b, t, rfl, ⟨dx, hx⟩, hm, q⟩ := h
    refine ⟨_, pss_one (ps_ret (pe_op op_add (pe_op op_mul (pe_fld (pv 0) rfl) (pv 1)) (pe_fld (pv 0) rfl))), ?_⟩
    exact ⟨_, rfl, x, C, dx, _, _, rfl, hx, T.cl, T.nS, lFl_slope a b, _, rfl, a, t, rfl, rfl, hm, _, rfl, x, C, dx, _, _, rfl, hx, T.cl, T.nH, lFl_height a b, _, _, rfl, rfl, q⟩
theorem tyL {C : Addr} (T : LTxt K mg C) {H : Hp} {x dx : Addr} {fs : List (Str × V)} (hx : H x = some (.ins C dx fs)) : TyX K H (.ref x) (.ref C) := .base (.ins hx T.cl T.isi.ca T.isi.cn T.isi.ct T.isi.cm)
theorem scII : FnScope ["value"] ["value"] (defScope sIsInt) := ⟨rfl, rfl, rfl, by decide +kernel, rfl, by decide +kernel, by decide +kernel⟩
theorem boot_isi : bootBuiltins ("isinstance" : Str) = some (.builtin "isinstance") := by decide +kernel
theorem boot_intT : bootBuiltins ("int" : Str) = some (.type "int") := by decide +kernel
theorem boot_boolT : bootBuiltins ("bool" : Str) = some (.type "bool") := by decide +kernel
theorem ok_isint {f C : Addr} {fd : FuncData} (F : Fun K "is_integer" "is_integer" sIsInt f fd) (T : LTxt K mg C) : FnOk P w K mg base CX0 1 f fd ["value"] spIsInt := by
  refine F.ok scII (fun vs H Q E h => ?_) (fun cdv A outer s H vs Q E hr h => ?_)
  · obtain ⟨n, rfl, _⟩ := h
    rfl
  · obtain ⟨n, rfl, q⟩ := h
    refine ⟨_, pss_one (ps_ret (pe_and (pe_callB call_isi (by rfl) T.zIsi boot_isi (pa_cons (pv 0) (pa_cons (pe_bltn (v := .ty "int") (by rfl) T.zInt boot_intT rfl) pa_nil)))
      (pe_one (pe_not (pe_callB call_isi (by rfl) T.zIsi boot_isi (pa_cons (pv 0) (pa_cons (pe_bltn (v := .ty "bool") (by rfl) T.zBool boot_boolT rfl) pa_nil))))))), ?_⟩
    refine ⟨_, rfl, .int n, .ty "int", _, _, true, rfl, .ty "int", .base (.int n), kit_ty (by decide +kernel), true, rfl, iteT ⟨_, rfl, .int n, .ty "bool", _, _, false, rfl, .ty "bool", .base (.int n), kit_ty (by decide +kernel), false, rfl, q⟩⟩
theorem scLA : FnScope ["self", "other"] ["self", "other"] (defScope sLAdd) := ⟨rfl, rfl, rfl, by decide +kernel, rfl, by decide +kernel, by decide +kernel⟩
theorem ok_ladd {f C : Addr} {fd : FuncData} (F : Fun K "__add__" "Line.__add__" sLAdd f fd) (M : LMk P w K mg base C) (D : Cl P w K mg base 1 "is_integer" ["value"] spIsInt) : FnOk P w K mg base CX0 3 f fd ["self", "other"] (spLAdd C) := by
  have T := M.T
  refine F.ok scLA (fun vs H Q E h => ?_) (fun cdv A outer s H vs Q E hr h => ?_)
  · obtain ⟨x, a, b, _, ⟨y, c, d, rfl, _⟩ | ⟨n, rfl, _⟩⟩ := h <;> rfl
  · refine ⟨_, pss_cons (ps_if (pt_val (pe_callB call_isi (by rfl) T.zIsi boot_isi (pa_cons (pv 1) (pa_cons (pe_glob (v := .ref C) (by rfl) T.mgC rfl) pa_nil))))
        (pss_one (ps_ret (pe_mkL M hr (by decide) (by rfl) (pa_cons (pe_op op_add (pe_fld (pv 0) rfl) (pe_fld (pv 1) rfl)) (pa_cons (pe_op op_add (pe_fld (pv 0) rfl) (pe_fld (pv 1) rfl)) pa_nil))))) pss_nil)
      (pss_cons (ps_if (pt_val (pe_cl D hr (by decide) (by rfl) (pa_cons (pv 1) pa_nil)))
        (pss_one (ps_ret (pe_mkL M hr (by decide) (by rfl) (pa_cons (pe_fld (pv 0) rfl) (pa_cons (pe_op op_add (pe_fld (pv 0) rfl) (pv 1)) pa_nil))))) pss_nil)
      (pss_one ps_never)), ?_⟩
    obtain ⟨x, a, b, ⟨dx, hx⟩, ⟨y, c, d, rfl, ⟨dy, hy⟩, q⟩ | ⟨n, rfl, q⟩⟩ := h
    · refine ⟨_, rfl, .ref y, .ref C, _, _, true, rfl, .own C, tyL T hy, T.kLL, true, rfl, iteT ?_⟩
      exact ⟨_, rfl, x, C, dx, _, _, rfl, hx, T.cl, T.nS, lFl_slope a b, _, rfl, y, C, dy, _, _, rfl, hy, T.cl, T.nS, lFl_slope c d, _, _, rfl, rfl, _, rfl, x, C, dx, _, _, rfl, hx, T.cl, T.nH, lFl_height a b, _, rfl, y, C, dy, _, _, rfl, hy, T.cl, T.nH, lFl_height c d, _, _, rfl, rfl, _, _, rfl, q⟩
    · refine ⟨_, rfl, .int n, .ref C, _, _, false, rfl, .own C, .base (.int n), T.kIL, false, rfl, iteF ?_⟩
      refine ⟨_, rfl, n, rfl, true, rfl, iteT ?_⟩
      exact ⟨_, rfl, x, C, dx, _, _, rfl, hx, T.cl, T.nS, lFl_slope a b, _, rfl, x, C, dx, _, _, rfl, hx, T.cl, T.nH, lFl_height a b, _, rfl, _, _, rfl, rfl, _, _, rfl, q⟩
theorem scLS : FnScope ["self", "other"] ["self", "other"] (defScope sLSub) := ⟨rfl, rfl, rfl, by decide +kernel, rfl, by decide +kernel, by decide +kernel⟩
theorem ok_lsub {f C : Addr} {fd : FuncData} (F : Fun K "__sub__" "Line.__sub__" sLSub f fd) (M : LMk P w K mg base C) (A1 : Md P w K mg base 3 C (PySem.dunder (Operator.info .Add).2) (spLAdd C)) (N1 : Md P w K mg base 3 C "__neg__" (spLNeg C)) : FnOk P w K mg base CX0 4 f fd ["self", "other"] (spLSub C) := by
  have T := M.T
  refine F.ok scLS (fun vs H Q E h => ?_) (fun cdv A outer s H vs Q E hr h => ?_)
  · obtain ⟨x, a, b, y, c, d, rfl, _⟩ := h
    rfl
  · obtain ⟨x, a, b, y, c, d, rfl, ⟨dx, hx⟩, ⟨dy, hy⟩, q⟩ := h
    refine ⟨_, pss_cons (ps_if (PW.pt (pw_or (pt_val (pe_callB call_isi (by rfl) T.zIsi boot_isi (pa_cons (pv 1) (pa_cons (pe_glob (v := .ref C) (by rfl) T.mgC rfl) pa_nil)))) (pw_or1 pt_neverO)))
        (pss_one (ps_ret (pe_op (op_binS A1 T.sf hr) (pv 0) (pe_un (un_negO N1 hr) (pv 1))))) pss_nil)
      (pss_one ps_never), ?_⟩
    refine ⟨_, rfl, .ref y, .ref C, _, _, true, rfl, .own C, tyL T hy, T.kLL, true, rfl, iteT (iteT ?_)⟩
    refine ⟨_, rfl, _, rfl, y, dy, _, rfl, hy, y, c, d, rfl, ⟨dy, hy⟩, fun z H1 nz hz s1 => ?_⟩
    obtain ⟨dz, hz'⟩ := hz
    refine ⟨x, z, dx, dz, _, _, rfl, rfl, s1 _ _ hx, hz', x, a, b, ⟨dx, s1 _ _ hx⟩, .inl ⟨z, -c, -d, rfl, ⟨dz, hz'⟩, fun z2 H2 nz2 hz2 s2 => ?_⟩⟩
    exact q z2 H2 (s1.free nz2) hz2 (s1.trans s2)
end
end OR

namespace OR
open PySem PySem.Spec PyProof.Rows L2
abbrev sLine : Stmt := top 12
abbrev sWorth : Stmt := top 13
abbrev sPair : Stmt := top 14
abbrev sGap : Stmt := top 15
/-! ### first_above -/
/-- the first integer from s on at which A x + B is above 0 -/
def fab (A B s : Int) : V := if 0 < A * s + B then .int s else if A ≤ 0 then .non else .int ((-B) / A + 1)
theorem fab_none {A B s : Int} (h : fab A B s = .non) : A * s + B ≤ 0 ∧ A ≤ 0 := by
  unfold fab at h
  split at h
  · cases h
  · split at h
    · omega
    · cases h
theorem fab_int {A B s t : Int} (h : fab A B s = .int t) : s ≤ t ∧ 0 < A * t + B ∧ (s < t → A * (t - 1) + B ≤ 0 ∧ A * s + B ≤ 0) := by
  unfold fab at h
  split at h
  · rename_i h0
    have e : s = t := V.int.inj h
    subst e
    exact ⟨Int.le_refl _, h0, fun z => absurd z (Int.lt_irrefl _)⟩
  · rename_i h0
    split at h
    · cases h
    · rename_i hA
      have hA' : 0 < A := by omega
      have e : (-B) / A + 1 = t := V.int.inj h
      have hd := Int.mul_ediv_add_emod (-B) A
      have hr := mod_bd (-B) A hA'
      have e2 : A * t = A * ((-B) / A) + A := by rw [← e, Int.mul_add, Int.mul_one]
      have e3 : A * (t - 1) = A * ((-B) / A) := by
        have : t - 1 = (-B) / A := by omega
        rw [this]
      have hlt : A * s < A * t := by omega
      have hst : s < t := Int.lt_of_mul_lt_mul_left hlt (by omega)
      exact ⟨by omega, by omega, fun _ => ⟨by omega, by omega⟩⟩
def spFirst (C : Addr) : Sp := fun vs H Q _ => ∃ (x : Addr) (a b : Int) (y : Addr) (c d s : Int), vs = [.ref x, .ref y, .int s] ∧ IsL C H x a b ∧ IsL C H y c d ∧ -(2 ^ 60) < a ∧ a < 2 ^ 60 ∧ -(2 ^ 60) < c ∧ c < 2 ^ 60 ∧
  ∀ H', Same H H' → Q (fab (a - c) (b - d) s) H'
section
variable {P : Program} {w : World} {K : PySem.W.Frag} {mg : Str → Option Value} {base : Heap}
theorem scFA : FnScope ["one", "other", "start", "lead"] ["one", "other", "start"] (defScope sFirst) := ⟨rfl, rfl, rfl, by decide +kernel, rfl, by decide +kernel, by decide +kernel⟩
theorem ok_first {f C : Addr} {fd : FuncData} (F : Fun K "first_above" "first_above" sFirst f fd) (T : LTxt K mg C) (S1 : Md P w K mg base 4 C (PySem.dunder (Operator.info .Sub).2) (spLSub C)) (C1 : Cl P w K mg base 1 "value_at" ["line", "x"] (spLCall C)) : FnOk P w K mg base CX0 5 f fd ["one", "other", "start"] (spFirst C) := by
  refine F.ok scFA (fun vs H Q E h => ?_) (fun cdv A outer s H vs Q E hr h => ?_)
  · obtain ⟨x, a, b, y, c, d, s, rfl, _⟩ := h
    rfl
  · obtain ⟨x, a, b, y, c, d, s, rfl, hx, hy, ha1, ha2, hc1, hc2, q⟩ := h
    obtain ⟨dx, hx⟩ := hx
    obtain ⟨dy, hy⟩ := hy
    refine ⟨_, pss_cons (ps_set (i := 3) scFA.nd rfl (.inl rfl) (pe_op (op_binS S1 T.sf hr) (pv 0) (pv 1)))
      (pss_cons (ps_if (pt_cmpR op_gt (pe_cl C1 hr (by decide) (by rfl) (pa_cons (pv 3) (pa_cons (pv 2) pa_nil))) pe_int (nomark _)) (pss_one (ps_ret (pv 2))) pss_nil)
      (pss_cons (ps_if (pt_cmpR op_le (pe_fld (pv 3) rfl) pe_int (nomark _)) (pss_one (ps_ret pe_non)) pss_nil)
      (pss_one (ps_ret (pe_op op_add (pe_op op_fdivW (pe_un un_neg (pe_fld (pv 3) rfl)) (pe_fld (pv 3) rfl)) pe_int))))), ?_⟩
    refine ⟨_, rfl, _, rfl, x, y, dx, dy, _, _, rfl, rfl, hx, hy, x, a, b, y, c, d, rfl, ⟨dx, hx⟩, ⟨dy, hy⟩, fun z H1 nz hz s1 => ?_⟩
    have q1 := q H1 s1
    obtain ⟨dz, hz⟩ := hz
    have hm : CMul (a - c) s := .inl ⟨by omega, by omega⟩
    refine ⟨_, rfl, _, rfl, z, a - c, b - d, s, rfl, ⟨dz, hz⟩, hm, _, _, rfl, rfl, _, rfl, ite2 (fun e => ?_) (fun e => ?_)⟩
    · refine ⟨_, rfl, ?_⟩
      have e1 : fab (a - c) (b - d) s = .int s := by
        unfold fab
        rw [if_pos (of_decide_eq_true e)]
      rw [e1] at q1
      exact q1
    · have h0 : ¬ (0 < (a - c) * s + (b - d)) := fun z => e (decide_eq_true z)
      refine ⟨_, rfl, z, C, dz, _, _, rfl, hz, T.cl, T.nS, lFl_slope _ _, _, _, rfl, rfl, _, rfl, ite2 (fun e2 => ?_) (fun e2 => ?_)⟩
      · have e1 : fab (a - c) (b - d) s = .non := by
          unfold fab
          rw [if_neg h0, if_pos (of_decide_eq_true e2)]
        rw [e1] at q1
        exact q1
      · have h1 : ¬ (a - c ≤ 0) := fun z => e2 (decide_eq_true z)
        have e1 : fab (a - c) (b - d) s = .int ((-(b - d)) / (a - c) + 1) := by
          unfold fab
          rw [if_neg h0, if_neg h1]
        rw [e1] at q1
        exact ⟨_, rfl, z, C, dz, _, _, rfl, hz, T.cl, T.nH, lFl_height _ _, _, rfl, _, rfl, z, C, dz, _, _, rfl, hz, T.cl, T.nS, lFl_slope _ _, _, _, rfl, rfl, wide_div (b := 62) (by omega) (by omega) (by decide) (by decide), _, _, rfl, rfl, q1⟩
/-! ### the law's own pieces -/
def IsT (H : Hp) (t : Addr) (a b : Int) : Prop := H t = some (.tup [.int a, .int b])
theorem IsT.frm {H H' : Hp} {t p : Addr} {a b : Int} {n : Nat} (h : IsT H t a b) (f : Frm p H H') (P : Pen H p n) : IsT H' t a b := by
  obtain ⟨c, ns, k, l, hp, _⟩ := P
  exact f _ _ h (ne_of h hp (by intro z; cases z))
theorem IsT.same {H H' : Hp} {t : Addr} {a b : Int} (h : IsT H t a b) (s : Same H H') : IsT H' t a b := s _ _ h
theorem same_new {H : Hp} {q : Addr} {o : HO} (h : H q = none) : Same H (upd H q o) := fun b x e => by rw [upd_ne (ne_of_none e h)]; exact e
theorem at0 {a b : V} : atI [a, b] 0 = some a := atI_nat (j := 0) rfl
theorem at1 {a b : V} : atI [a, b] 1 = some b := atI_nat (j := 1) rfl
def spLine : Sp := fun vs H Q _ => ∃ (p : Addr) (n : Nat), vs = [.ref p] ∧ Pen H p n ∧ n ≤ 800000 ∧
  ∀ (t : Addr) (H' : Hp) (a b : Int), H t = none → -(10 ^ 9) ≤ a → a ≤ 10 ^ 9 → Pen H' p (n + 6) → IsT H' t a b → Frm p H H' → Q (.ref t) H'
def spWorth : Sp := fun vs H Q _ => ∃ (t : Addr) (a b x : Int), vs = [.ref t, .int x] ∧ IsT H t a b ∧ CMul a x ∧ Q (.int (a * x + b)) H
def spPair : Sp := fun vs H Q _ => ∃ (p : Addr) (n : Nat), vs = [.ref p] ∧ Pen H p n ∧ n ≤ 700000 ∧
  ∀ (t u v : Addr) (H' : Hp) (a b c d x : Int), H' t = some (.tup [.ref u, .ref v, .int x]) → IsT H' u a b → IsT H' v c d → -(2 ^ 40) < a → a < 2 ^ 40 → -(2 ^ 40) < c → c < 2 ^ 40 → Pen H' p (n + 20) → Frm p H H' → Q (.ref t) H'
def spGap : Sp := fun vs H Q _ => ∃ (u v : Addr) (a b c d x : Int), vs = [.ref u, .ref v, .int x] ∧ IsT H u a b ∧ IsT H v c d ∧ CMul a x ∧ CMul c x ∧ Q (.int (a * x + b - (c * x + d))) H
theorem scLn : FnScope ["_law_pen_here", "_law_slope"] ["_law_pen_here"] (defScope sLine) := ⟨rfl, rfl, rfl, by decide +kernel, rfl, by decide +kernel, by decide +kernel⟩
theorem ok_line {f : Addr} {fd : FuncData} (F : Fun K "_law_line" "_law_line" sLine f fd) (D : Cl P w K mg base 1 "_law_draw" ["_law_pen_here", "_law_many"] spDraw) (C : Cl P w K mg base 2 "_law_pick" ["_law_pen_here", "_law_items"] (spPick K)) (W : Cl P w K mg base 3 "_law_whole" ["_law_pen_here"] spWhole) :
    FnOk P w K mg base CX0 4 f fd ["_law_pen_here"] spLine := by
  refine F.ok scLn (fun vs H Q E h => ?_) (fun cdv A outer s H vs Q E hr h => ?_)
  · obtain ⟨p, n, rfl, _⟩ := h
    rfl
  · obtain ⟨p, n, rfl, hP, hn, q⟩ := h
    refine ⟨_, pss_cons (ps_set (i := 1) scLn.nd rfl (.inl rfl) (pe_cl C hr (by decide) (by rfl) (pa_cons (pv 0) (pa_cons (pe_lst (pa_cons pe_int (pa_cons pe_int (pa_cons (pe_un un_neg pe_int) (pa_cons pe_int (pa_cons (pe_un un_neg pe_int)
        (pa_cons (pe_cl D hr (by decide) (by rfl) (pa_cons (pv 0) (pa_cons (pe_op op_add (pe_op op_pow pe_int pe_int) pe_int) pa_nil)))
        (pa_cons (pe_un un_neg (pe_cl D hr (by decide) (by rfl) (pa_cons (pv 0) (pa_cons (pe_op op_add (pe_op op_pow pe_int pe_int) pe_int) pa_nil)))) pa_nil)))))))) pa_nil))))
      (pss_one (ps_ret (pe_tup (pa_cons (pv 1) (pa_cons (pe_cl W hr (by decide) (by rfl) (pa_cons (pv 0) pa_nil)) pa_nil))))), ?_⟩
    have hpow : CPow 10 9 := ⟨by decide, by decide, by decide⟩
    have hm0 : (0 : Int) < 10 ^ (9 : Int).toNat + 1 := by decide
    have hm1 : ((10 : Int) ^ (9 : Int).toNat + 1).natAbs < 2 ^ 200 := by decide
    refine ⟨_, rfl, 1, rfl, 3, rfl, _, rfl, _, _, rfl, rfl, hpow, _, _, rfl, rfl, p, _, n, rfl, hm0, hm1, hP, by omega, fun r1 H1 h10 h11 P1 F1 => ?_⟩
    refine ⟨_, rfl, _, _, rfl, rfl, hpow, _, _, rfl, rfl, p, _, n + 1, rfl, hm0, hm1, P1, by omega, fun r2 H2 h20 h21 P2 F2 => ?_⟩
    refine ⟨r2, rfl, by show 7 ≤ sizeLine; decide, fun q1 hq1 => ?_⟩
    refine ⟨p, q1, _, n + 2, rfl, .inl (.inl upd_same), by show 0 < 7; decide, by show 7 ≤ 1000; decide, P2.new hq1, by omega, fun v H3 hv P3 F3 => ?_⟩
    obtain ⟨a, rfl, ha1, ha2⟩ : ∃ a : Int, v = .int a ∧ -(10 ^ 9) ≤ a ∧ a ≤ 10 ^ 9 := by
      have h11' : r1 < 10 ^ 9 + 1 := h11
      have h21' : r2 < 10 ^ 9 + 1 := h21
      simp only [List.mem_cons, List.not_mem_nil, or_false] at hv
      rcases hv with e | e | e | e | e | e | e <;> subst e <;> exact ⟨_, rfl, by omega, by omega⟩
    refine ⟨_, rfl, _, rfl, p, n + 3, rfl, P3, by omega, fun b H4 hb1 hb2 P4 F4 => ?_⟩
    refine ⟨by show 2 ≤ sizeLine; decide, fun t ht => ?_⟩
    have FF : Frm p H H4 := ((F1.trans F2).trans ((Frm.new hq1).trans F3)).trans F4
    have nt : H t = none := by
      cases e : H t with
      | none => rfl
      | some o =>
        by_cases ep : t = p
        · subst ep
          obtain ⟨c, ns, k, l, hp, _⟩ := P4
          rw [hp] at ht
          cases ht
        · rw [FF t o e ep] at ht
          cases ht
    exact q t _ a b nt ha1 ha2 (P4.new ht) upd_same (FF.trans (Frm.new ht))
theorem scWo : FnScope ["_law_line_here", "_law_x"] ["_law_line_here", "_law_x"] (defScope sWorth) := ⟨rfl, rfl, rfl, by decide +kernel, rfl, by decide +kernel, by decide +kernel⟩
theorem ok_worth {f : Addr} {fd : FuncData} (F : Fun K "_law_worth" "_law_worth" sWorth f fd) : FnOk P w K mg base CX0 1 f fd ["_law_line_here", "_law_x"] spWorth := by
  refine F.ok scWo (fun vs H Q E h => ?_) (fun cdv A outer s H vs Q E hr h => ?_)
  · obtain ⟨t, a, b, x, rfl, _⟩ := h
    rfl
  · obtain ⟨t, a, b, x, rfl, ht, hm, q⟩ := h
    have hS : SqT K H t [.int a, .int b] := .inl (.inl ht)
    refine ⟨_, pss_one (ps_ret (pe_op op_add (pe_op op_mul (pe_ix ix_tup (pv 0) pe_int (fun _ _ => rfl)) (pv 1)) (pe_ix ix_tup (pv 0) pe_int (fun _ _ => rfl)))), ?_⟩
    exact ⟨_, rfl, t, _, 0, .int a, rfl, rfl, hS, at0, _, rfl, a, x, rfl, rfl, hm, _, rfl, t, _, 1, .int b, rfl, rfl, hS, at1, _, _, rfl, rfl, q⟩
theorem scGa : FnScope ["_law_one", "_law_two", "_law_x"] ["_law_one", "_law_two", "_law_x"] (defScope sGap) := ⟨rfl, rfl, rfl, by decide +kernel, rfl, by decide +kernel, by decide +kernel⟩
theorem ok_gap {f : Addr} {fd : FuncData} (F : Fun K "_law_gap" "_law_gap" sGap f fd) (W : Cl P w K mg base 1 "_law_worth" ["_law_line_here", "_law_x"] spWorth) : FnOk P w K mg base CX0 2 f fd ["_law_one", "_law_two", "_law_x"] spGap := by
  refine F.ok scGa (fun vs H Q E h => ?_) (fun cdv A outer s H vs Q E hr h => ?_)
  · obtain ⟨u, v, a, b, c, d, x, rfl, _⟩ := h
    rfl
  · obtain ⟨u, v, a, b, c, d, x, rfl, hu, hv, hm, hm2, q⟩ := h
    refine ⟨_, pss_one (ps_ret (pe_op op_sub (pe_cl W hr (by decide) (by rfl) (pa_cons (pv 0) (pa_cons (pv 2) pa_nil))) (pe_cl W hr (by decide) (by rfl) (pa_cons (pv 1) (pa_cons (pv 2) pa_nil))))), ?_⟩
    exact ⟨_, rfl, _, rfl, u, a, b, x, rfl, hu, hm, _, rfl, _, rfl, v, c, d, x, rfl, hv, hm2, _, _, rfl, rfl, q⟩
end
end OR

namespace OR
open PySem PySem.Spec PyProof.Rows L2
abbrev sLaw : Stmt := top 16
theorem fab_case (A B s : Int) : (fab A B s = .non ∧ A * s + B ≤ 0 ∧ A ≤ 0) ∨ ∃ t, fab A B s = .int t ∧ s ≤ t ∧ 0 < A * t + B ∧ (s < t → A * (t - 1) + B ≤ 0 ∧ A * s + B ≤ 0) := by
  by_cases h0 : 0 < A * s + B
  · have e : fab A B s = .int s := by unfold fab; rw [if_pos h0]
    exact .inr ⟨s, e, fab_int e⟩
  · by_cases hA : A ≤ 0
    · have e : fab A B s = .non := by unfold fab; rw [if_neg h0, if_pos hA]
      exact .inl ⟨e, fab_none e⟩
    · have e : fab A B s = .int ((-B) / A + 1) := by unfold fab; rw [if_neg h0, if_neg hA]
      exact .inr ⟨_, e, fab_int e⟩
theorem gap_eq (a b c d t : Int) : a * t + b - (c * t + d) = (a - c) * t + (b - d) := by
  rw [Int.sub_mul]
  omega
section
variable {P : Program} {w : World} {K : PySem.W.Frag} {mg : Str → Option Value} {base : Heap}
theorem scPr : FnScope ["_law_pen_here", "_law_one", "_law_x", "_law_way", "_law_slope"] ["_law_pen_here"] (defScope sPair) := ⟨rfl, rfl, rfl, by decide +kernel, rfl, by decide +kernel, by decide +kernel⟩
theorem ok_pair {f : Addr} {fd : FuncData} (F : Fun K "_law_pair" "_law_pair" sPair f fd) (D : Cl P w K mg base 1 "_law_draw" ["_law_pen_here", "_law_many"] spDraw) (C : Cl P w K mg base 2 "_law_pick" ["_law_pen_here", "_law_items"] (spPick K)) (W : Cl P w K mg base 3 "_law_whole" ["_law_pen_here"] spWhole)
    (L : Cl P w K mg base 4 "_law_line" ["_law_pen_here"] spLine) (O : Cl P w K mg base 1 "_law_worth" ["_law_line_here", "_law_x"] spWorth) : FnOk P w K mg base CX0 5 f fd ["_law_pen_here"] spPair := by
  refine F.ok scPr (fun vs H Q E h => ?_) (fun cdv A outer s H vs Q E hr h => ?_)
  · obtain ⟨p, n, rfl, _⟩ := h
    rfl
  · obtain ⟨p, n, rfl, hP, hn, q⟩ := h
    have nd := scPr.nd
    refine ⟨_, pss_cons (ps_par (i := 1) (j := 2) rfl nd rfl rfl (by decide) rfl rfl (pa_cons (pe_cl L hr (by decide) (by rfl) (pa_cons (pv 0) pa_nil)) (pa_cons (pe_cl W hr (by decide) (by rfl) (pa_cons (pv 0) pa_nil)) pa_nil)) rfl)
      (pss_cons (ps_set (i := 3) nd rfl (.inl rfl) (pe_cl D hr (by decide) (by rfl) (pa_cons (pv 0) (pa_cons pe_int pa_nil))))
      (pss_cons (ps_if (pt_cmpR op_eq (pv 3) pe_int (nomark _)) (pss_one (ps_ret (pe_tup (pa_cons (pv 1) (pa_cons (pv 1) (pa_cons (pv 2) pa_nil)))))) pss_nil)
      (pss_cons (ps_if (pt_cmpR op_eq (pv 3) pe_int (nomark _)) (pss_one (ps_ret (pe_tup (pa_cons (pv 1) (pa_cons (pe_tup (pa_cons (pe_ix ix_tup (pv 1) pe_int (fun _ _ => rfl))
          (pa_cons (pe_op op_sub (pe_op op_add (pe_ix ix_tup (pv 1) pe_int (fun _ _ => rfl)) (pe_cl D hr (by decide) (by rfl) (pa_cons (pv 0) (pa_cons pe_int pa_nil)))) pe_int) pa_nil))) (pa_cons (pv 2) pa_nil)))))) pss_nil)
      (pss_cons (ps_set (i := 4) nd rfl (.inl rfl) (pe_op op_add (pe_ix ix_tup (pv 1) pe_int (fun _ _ => rfl)) (pe_cl C hr (by decide) (by rfl) (pa_cons (pv 0) (pa_cons (pe_lst (pa_cons pe_int (pa_cons (pe_un un_neg pe_int) (pa_cons pe_int (pa_cons (pe_un un_neg pe_int)
          (pa_cons pe_int (pa_cons (pe_un un_neg pe_int) (pa_cons pe_int (pa_cons (pe_op op_add (pe_cl D hr (by decide) (by rfl) (pa_cons (pv 0) (pa_cons (pe_op op_pow pe_int pe_int) pa_nil))) pe_int) pa_nil))))))))) pa_nil)))))
      (pss_one (ps_ret (pe_tup (pa_cons (pv 1) (pa_cons (pe_tup (pa_cons (pv 4)
          (pa_cons (pe_op op_sub (pe_op op_add (pe_op op_sub (pe_cl O hr (by decide) (by rfl) (pa_cons (pv 1) (pa_cons (pv 2) pa_nil))) (pe_op op_mul (pv 4) (pv 2))) (pe_cl D hr (by decide) (by rfl) (pa_cons (pv 0) (pa_cons pe_int pa_nil)))) pe_int) pa_nil))) (pa_cons (pv 2) pa_nil)))))))))), ?_⟩
    -- one, x = ..
    refine ⟨_, rfl, p, n, rfl, hP, by omega, fun u H1 a b nu ha1 ha2 P1 hu F1 => ?_⟩
    refine ⟨_, rfl, p, n + 6, rfl, P1, by omega, fun x H2 hx1 hx2 P2 F2 => ?_⟩
    have hu2 := hu.frm F2 P1
    refine ⟨_, _, rfl, ?_⟩
    -- way
    refine ⟨_, rfl, p, 5, n + 9, rfl, by decide, by decide, P2, by omega, fun way H3 _ _ P3 F3 => ?_⟩
    have hu3 := hu2.frm F3 P2
    have FF3 : Frm p H H3 := (F1.trans F2).trans F3
    have hS3 : SqT K H3 u [.int a, .int b] := .inl (.inl hu3)
    have t3 : 3 ≤ sizeLine := by decide
    have t2 : 2 ≤ sizeLine := by decide
    refine ⟨_, rfl, rfl, _, rfl, ite2 (fun _ => ?_) (fun _ => ?_)⟩
    · refine ⟨_, rfl, _, rfl, _, rfl, t3, fun t ht => ?_⟩
      exact q t u u _ a b a b x upd_same (hu3.same (same_new ht)) (hu3.same (same_new ht)) (by omega) (by omega) (by omega) (by omega) ((P3.mono (by omega)).new ht) (FF3.trans (Frm.new ht))
    refine ⟨_, rfl, rfl, _, rfl, ite2 (fun _ => ?_) (fun _ => ?_)⟩
    · refine ⟨_, rfl, _, rfl, u, _, 0, .int a, rfl, rfl, hS3, at0, _, rfl, u, _, 1, .int b, rfl, rfl, hS3, at1, _, rfl, p, 5, n + 10, rfl, by decide, by decide, P3, by omega, fun r H4 _ _ P4 F4 => ?_⟩
      refine ⟨_, _, rfl, rfl, _, _, rfl, rfl, t2, fun v hv => ?_⟩
      refine ⟨_, rfl, t3, fun t ht => ?_⟩
      have hu4 := ((hu3.frm F4 P3).same (same_new hv)).same (same_new (o := .tup [.ref u, .ref v, .int x]) ht)
      have hv4 := IsT.same (t := v) (a := a) (b := b + r - 2) upd_same (same_new (o := .tup [.ref u, .ref v, .int x]) ht)
      exact q t u v _ a b a (b + r - 2) x upd_same hu4 hv4 (by omega) (by omega) (by omega) (by omega) (((P4.mono (by omega)).new hv).new ht) (((FF3.trans F4).trans (Frm.new hv)).trans (Frm.new ht))
    -- slope
    refine ⟨_, rfl, u, _, 0, .int a, rfl, rfl, hS3, at0, _, rfl, 1, rfl, 2, rfl, 3, rfl, _, rfl, _, _, rfl, rfl, ⟨by decide, by decide, by decide⟩, p, _, n + 10, rfl, by decide, by decide, P3, by omega, fun r H4 hr0 hr1 P4 F4 => ?_⟩
    refine ⟨_, _, rfl, rfl, by show 8 ≤ sizeLine; decide, fun l hl => ?_⟩
    refine ⟨p, l, _, n + 11, rfl, .inl (.inl upd_same), by show 0 < 8; decide, by show 8 ≤ 1000; decide, P4.new hl, by omega, fun v H5 hv P5 F5 => ?_⟩
    obtain ⟨g, rfl, hg1, hg2⟩ : ∃ g : Int, v = .int g ∧ -(10 ^ 9) ≤ g ∧ g ≤ 10 ^ 9 := by
      have hr1' : r < 10 ^ 9 := hr1
      simp only [List.mem_cons, List.not_mem_nil, or_false] at hv
      rcases hv with e | e | e | e | e | e | e | e <;> subst e <;> exact ⟨_, rfl, by omega, by omega⟩
    have hu5 := ((hu3.frm F4 P3).same (same_new hl)).frm F5 (P4.new hl)
    have FF5 : Frm p H H5 := (FF3.trans F4).trans ((Frm.new hl).trans F5)
    refine ⟨_, _, rfl, rfl, ?_⟩
    refine ⟨_, rfl, _, rfl, _, rfl, _, rfl, u, a, b, x, rfl, hu5, .inl ⟨by omega, by omega⟩, _, rfl, _, rfl, _, _, rfl, rfl, .inl ⟨by omega, by omega⟩, _, _, rfl, rfl, _, rfl, p, 7, n + 12, rfl, by decide, by decide, P5, by omega, fun r2 H6 _ _ P6 F6 => ?_⟩
    refine ⟨_, _, rfl, rfl, _, _, rfl, rfl, t2, fun v hv => ?_⟩
    refine ⟨_, rfl, t3, fun t ht => ?_⟩
    have hu6 := ((hu5.frm F6 P5).same (same_new hv)).same (same_new (o := .tup [.ref u, .ref v, .int x]) ht)
    have hv6 := IsT.same (t := v) (a := a + g) (b := a * x + b - (a + g) * x + r2 - 3) upd_same (same_new (o := .tup [.ref u, .ref v, .int x]) ht)
    exact q t u v _ a b (a + g) _ x upd_same hu6 hv6 (by omega) (by omega) (by omega) (by omega) (((P6.mono (by omega)).new hv).new ht) (((FF5.trans F6).trans (Frm.new hv)).trans (Frm.new ht))
/-! ### the law -/
def spLaw (K : PySem.W.Frag) : Sp := fun vs H Q _ => ∃ (a : Addr) (ns : List Int), vs = [.ref a] ∧ SqL K H a (ns.map V.int) ∧ ns.length ≤ 63 ∧ ∀ H', Q (.bl true) H'
theorem scLaw : FnScope ["_law_script", "_law_pen_here", "_law_turn", "_law_a", "_law_b", "_law_x", "_law_one", "_law_two", "_law_start", "_law_told"] ["_law_script"] (defScope sLaw) := ⟨rfl, rfl, rfl, by decide +kernel, rfl, by decide +kernel, by decide +kernel⟩
structure Bl2 (mg : Str → Option Value) : Prop where
  len : mg "len" = none
  min : mg "min" = none
  range : mg "range" = none
theorem boot_minO : bootBuiltins ("min" : Str) = some (.builtin "min") := by decide +kernel
theorem ok_law {f C : Addr} {fd : FuncData} (F : Fun K "law" "law" sLaw f fd) (B : Bl2 mg) (M : LMk P w K mg base C) (A1 : Md P w K mg base 3 C (PySem.dunder (Operator.info .Add).2) (spLAdd C)) (BI : BinI K C .Add)
    (N : Cl P w K mg base 1 "_law_pen" ["_law_script"] (spPen K)) (D : Cl P w K mg base 1 "_law_draw" ["_law_pen_here", "_law_many"] spDraw) (W : Cl P w K mg base 3 "_law_whole" ["_law_pen_here"] spWhole)
    (PR : Cl P w K mg base 5 "_law_pair" ["_law_pen_here"] spPair) (G : Cl P w K mg base 2 "_law_gap" ["_law_one", "_law_two", "_law_x"] spGap) (FA : Cl P w K mg base 5 "first_above" ["one", "other", "start"] (spFirst C)) : FnOk P w K mg base CX0 6 f fd ["_law_script"] (spLaw K) := by
  have T := M.T
  refine F.ok scLaw (fun vs H Q E h => ?_) (fun cdv A outer s H vs Q E hr h => ?_)
  · obtain ⟨a, ns, rfl, _⟩ := h
    rfl
  · obtain ⟨sc, ns, rfl, hS, hlen, q⟩ := h
    have nd := scLaw.nd
    have hu64 : (A.deeper (envOfC "law" (defScope sLaw) s.heap.objs.size f cdv)).units + 64 < cLine := hr.units
    refine ⟨_, pss_cons (ps_set (i := 1) nd rfl (.inl rfl) (pe_cl N hr (by decide) (by rfl) (pa_cons (pv 0) pa_nil)))
      (pss_cons (ps_for PassesOwn.never rfl (pi_range1 (by rfl) B.range (pa_cons (pe_op op_add pe_int (pe_callB (call_min2 rfl) (by rfl) B.min boot_minO (pa_cons pe_int (pa_cons (pe_callB call_len_seq (by rfl) B.len PySem.boot_len (pa_cons (pv 0) pa_nil)) pa_nil)))) pa_nil)) (pg_name (i := 2) nd rfl (.inl rfl))
        (pss_cons (ps_asg (pe_cl PR hr (by decide) (by rfl) (pa_cons (pv 1) pa_nil)) (pg_tup rfl (pgs_cons (pg_name (i := 3) nd rfl (.inl rfl)) (pgs_cons (pg_name (i := 4) nd rfl (.inl rfl)) (pgs_cons (pg_name (i := 5) nd rfl (.inl rfl)) pgs_nil)))))
        (Evl.pss_cut (ps_if (pt_cmpR op_eq (pe_cl D hr (by decide) (by rfl) (pa_cons (pv 1) (pa_cons pe_int pa_nil))) pe_int (nomark _))
          (pss_one (ps_par (i := 3) (j := 4) rfl nd rfl rfl (by decide) rfl rfl (pa_cons (pv 4) (pa_cons (pv 3) pa_nil)) rfl)) pss_nil)
        (pss_cons (ps_par (i := 6) (j := 7) rfl nd rfl rfl (by decide) rfl rfl (pa_cons (pe_mkL M hr (by decide) (by rfl) (pa_cons (pe_ix ix_tup (pv 3) pe_int (fun _ _ => rfl)) (pa_cons (pe_ix ix_tup (pv 3) pe_int (fun _ _ => rfl)) pa_nil)))
            (pa_cons (pe_mkL M hr (by decide) (by rfl) (pa_cons (pe_ix ix_tup (pv 4) pe_int (fun _ _ => rfl)) (pa_cons (pe_ix ix_tup (pv 4) pe_int (fun _ _ => rfl)) pa_nil))) pa_nil)) rfl)
        (pss_cons (ps_for PassesOwn.never rfl (pi_list (pe_lst (pa_cons (pv 5) (pa_cons (pe_op op_sub (pv 5) pe_int) (pa_cons (pe_op op_add (pv 5) pe_int)
              (pa_cons (pe_op op_sub (pv 5) (pe_cl D hr (by decide) (by rfl) (pa_cons (pv 1) (pa_cons pe_int pa_nil)))) (pa_cons (pe_op op_add (pv 5) (pe_cl D hr (by decide) (by rfl) (pa_cons (pv 1) (pa_cons pe_int pa_nil))))
              (pa_cons (pe_un un_neg (pv 5)) (pa_cons (pe_cl W hr (by decide) (by rfl) (pa_cons (pv 1) pa_nil)) (pa_cons pe_int pa_nil)))))))))) (pg_name (i := 8) nd rfl (.inl rfl))
          (pss_cons (ps_set (i := 9) nd rfl (.inl rfl) (pe_cl FA hr (by decide) (by rfl) (pa_cons (pv 6) (pa_cons (pv 7) (pa_cons (pv 8) pa_nil)))))
          (pss_one (ps_if (pt_cmp (pc_isN (pv 9)))
            (pss_one (ps_if (PW.pt (pw_or (pt_cmpR op_gt (pe_cl G hr (by decide) (by rfl) (pa_cons (pv 3) (pa_cons (pv 4) (pa_cons (pv 8) pa_nil)))) pe_int (nomark _)) (pw_or1 (pt_cmpR op_gt (pe_ix ix_tup (pv 3) pe_int (fun _ _ => rfl)) (pe_ix ix_tup (pv 4) pe_int (fun _ _ => rfl)) (nomark _)))))
              (pss_one (ps_ret pe_bl)) pss_nil))
            (pss_one (ps_if (PW.pt (pw_or (pt_cmpR op_lt (pv 9) (pv 8) (nomark _)) (pw_or1 (pt_cmpR op_le (pe_cl G hr (by decide) (by rfl) (pa_cons (pv 3) (pa_cons (pv 4) (pa_cons (pv 9) pa_nil)))) pe_int (nomark _)))))
              (pss_one (ps_ret pe_bl))
              (pss_one (ps_if (PW.pt (pw_and (pt_cmpR op_gt (pv 9) (pv 8) (nomark _)) (pw_and1 (PW.pt (pw_or (pt_cmpR op_gt (pe_cl G hr (by decide) (by rfl) (pa_cons (pv 3) (pa_cons (pv 4) (pa_cons (pe_op op_sub (pv 9) pe_int) pa_nil)))) pe_int (nomark _))
                  (pw_or1 (pt_cmpR op_gt (pe_cl G hr (by decide) (by rfl) (pa_cons (pv 3) (pa_cons (pv 4) (pa_cons (pv 8) pa_nil)))) pe_int (nomark _))))))))
                (pss_one (ps_ret pe_bl)) pss_nil))))))))
        (pss_cons (ps_if (PW.pt (pw_or (pt_cmp (pc_notN (pe_cl FA hr (by decide) (by rfl) (pa_cons (pv 6) (pa_cons (pv 6) (pa_cons (pv 5) pa_nil)))))) (pw_or1 (pt_cmpR op_ne (pe_cl FA hr (by decide) (by rfl) (pa_cons (pe_op (op_binI A1 BI T.sf (hr.mono (by decide))) (pv 6) pe_int) (pa_cons (pv 6) (pa_cons (pv 5) pa_nil)))) (pv 5) (nomark _)))))
          (pss_one (ps_ret pe_bl)) pss_nil)
        (pss_one (ps_if (pt_cmpR (op_neD hu64) (pe_tup (pa_cons (pe_fld (pv 6) rfl) (pa_cons (pe_fld (pv 6) rfl) (pa_cons (pe_fld (pv 7) rfl) (pa_cons (pe_fld (pv 7) rfl) pa_nil))))) (pe_op op_catA (pv 3) (pv 4)) (nomark _))
          (pss_one (ps_ret pe_bl)) pss_nil))))))))
      (pss_one (ps_ret (pe_and (pe_cmpR op_eq (pe_cl FA hr (by decide) (by rfl) (pa_cons (pe_mkL M hr (by decide) (by rfl) (pa_cons pe_int (pa_cons (pe_un un_neg pe_int) pa_nil))) (pa_cons (pe_mkL M hr (by decide) (by rfl) (pa_cons pe_int (pa_cons pe_int pa_nil))) (pa_cons (pe_un un_neg pe_int) pa_nil)))) pe_int (nomark _))
        (pe_one (pe_cmp (pc_isN (pe_cl FA hr (by decide) (by rfl) (pa_cons (pe_mkL M hr (by decide) (by rfl) (pa_cons (pe_un un_neg pe_int) (pa_cons pe_int pa_nil))) (pa_cons (pe_mkL M hr (by decide) (by rfl) (pa_cons pe_int (pa_cons pe_int pa_nil))) (pa_cons pe_int pa_nil))))))))))), ?_⟩
    -- pen
    refine ⟨_, rfl, sc, ns, rfl, hS, hlen, fun p H1 np P0 S0 => ?_⟩
    generalize hJ : (4 : Int) + (if ((ns.map V.int).length : Int) < 3 then ((ns.map V.int).length : Int) else 3) = J
    have hJb : 0 ≤ J ∧ J ≤ 7 := by
      subst hJ
      split <;> omega
    refine ⟨_, rfl, sc, _, rfl, .inl (S0.seq hS), 3, _, rfl, _, _, rfl, rfl, J, congrArg (fun z => [V.int z]) hJ, by omega, by omega, for_range (n := J.toNat) (fun i σ H2 => ∃ s2 s3 s4 s5 s6 s7 s8 s9, σ = [some (.ref sc), some (.ref p), s2, s3, s4, s5, s6, s7, s8, s9] ∧ Pen H2 p (1000 * i))
      ⟨none, none, none, none, none, none, none, none, rfl, P0⟩ ?_ ?_⟩
    · rintro i σ H2 hi ⟨s2, s3, s4, s5, s6, s7, s8, s9, rfl, P1⟩
      have hi7 : i < 7 := by omega
      -- a, b, x = pair(pen)
      refine ⟨_, rfl, p, 1000 * i, rfl, P1, by omega, fun t u v H3 a b c d x ht hu hv ha1 ha2 hc1 hc2 P2 F2 => ?_⟩
      refine ⟨t, _, rfl, .inl (.inl ht), rfl, _, _, rfl, _, _, rfl, _, _, rfl, rfl, ?_⟩
      refine ⟨fun σ' H' => ∃ (u v : Addr) (a b c d : Int), σ' = [some (.ref sc), some (.ref p), some (.int (0 + i)), some (.ref u), some (.ref v), some (.int x), s6, s7, s8, s9] ∧ IsT H' u a b ∧ IsT H' v c d ∧ -(2 ^ 40) < a ∧ a < 2 ^ 40 ∧ -(2 ^ 40) < c ∧ c < 2 ^ 40 ∧ Pen H' p (1000 * i + 21), ?_, ?_⟩
      · refine ⟨_, rfl, p, 2, 1000 * i + 20, rfl, by decide, by decide, P2, by omega, fun r H4 _ _ P3 F3 => ⟨rfl, _, rfl, ite2 (fun _ => ?_) (fun _ => ?_)⟩⟩
        · exact ⟨_, rfl, _, rfl, _, _, rfl, v, u, c, d, a, b, rfl, hv.frm F3 P2, hu.frm F3 P2, hc1, hc2, ha1, ha2, P3⟩
        · exact ⟨u, v, a, b, c, d, rfl, hu.frm F3 P2, hv.frm F3 P2, ha1, ha2, hc1, hc2, P3⟩
      clear hu hv ht ha1 ha2 hc1 hc2 P2 F2
      rintro σ' H4 ⟨u, v, a, b, c, d, rfl, hu, hv, ha1, ha2, hc1, hc2, P3⟩
      -- one, two
      refine ⟨_, rfl, u, _, 0, .int a, rfl, rfl, .inl (.inl hu), at0, _, rfl, u, _, 1, .int b, rfl, rfl, .inl (.inl hu), at1, a, b, rfl, fun one H5 n1 L1 S1 => ?_⟩
      have hv5 := hv.same S1
      refine ⟨_, rfl, v, _, 0, .int c, rfl, rfl, .inl (.inl hv5), at0, _, rfl, v, _, 1, .int d, rfl, rfl, .inl (.inl hv5), at1, c, d, rfl, fun two H6 n2 L2 S2 => ?_⟩
      refine ⟨_, _, rfl, ?_⟩
      -- the starts
      have P6 := (P3.same S1).same S2
      refine ⟨_, rfl, _, rfl, _, _, rfl, rfl, _, rfl, _, _, rfl, rfl, _, rfl, _, rfl, p, 99, 1000 * i + 21, rfl, by decide, by decide, P6, by omega, fun r1 H7 _ _ P7 F7 => ?_⟩
      refine ⟨_, _, rfl, rfl, _, rfl, _, rfl, p, 99, 1000 * i + 22, rfl, by decide, by decide, P7, by omega, fun r2 H8 _ _ P8 F8 => ?_⟩
      refine ⟨_, _, rfl, rfl, _, rfl, _, rfl, _, rfl, p, 1000 * i + 23, rfl, P8, by omega, fun r3 H9 _ _ P9 F9 => ?_⟩
      refine ⟨by show 8 ≤ sizeLine; decide, fun lq hlq => ?_⟩
      have F79 : Frm p H6 H9 := (F7.trans F8).trans F9
      have S0' := same_new (o := .lst [.int x, .int (x - 1), .int (x + 1), .int (x - r1), .int (x + r2), .int (-x), .int r3, .int 0]) hlq
      have hu0 := (((hu.same S1).same S2).frm F79 P6).same S0'
      have hv0 := ((hv5.same S2).frm F79 P6).same S0'
      have L10 := ((L1.same S2).frm F79 P6).same S0'
      have L20 := (L2.frm F79 P6).same S0'
      have P10 := P9.same S0'
      have ba1 : -(2 ^ 60) < a := by omega
      have ba2 : a < 2 ^ 60 := by omega
      have bc1 : -(2 ^ 60) < c := by omega
      have bc2 : c < 2 ^ 60 := by omega
      have ma : ∀ y, CMul a y := fun y => .inl ⟨by omega, by omega⟩
      have mc : ∀ y, CMul c y := fun y => .inl ⟨by omega, by omega⟩
      refine ⟨lq, rfl, ⟨_, .inl (.inl upd_same)⟩, for_list (K := K) (a := lq) (xs := [.int x, .int (x - 1), .int (x + 1), .int (x - r1), .int (x + r2), .int (-x), .int r3, .int 0])
        (fun j σ H' => ∃ s8 s9, σ = [some (.ref sc), some (.ref p), some (.int (0 + i)), some (.ref u), some (.ref v), some (.int x), some (.ref one), some (.ref two), s8, s9] ∧ Same (upd H9 lq (.lst [.int x, .int (x - 1), .int (x + 1), .int (x - r1), .int (x + r2), .int (-x), .int r3, .int 0])) H')
        ⟨s8, s9, rfl, Same.refl _⟩ (fun j σ H' _ ⟨_, _, _, S⟩ => .inl (.inl (S _ _ upd_same))) ?_ ?_⟩
      · rintro j y σ H' hy ⟨z8, z9, rfl, SS⟩
        have hmem := List.mem_of_getElem? hy
        obtain ⟨s0, rfl⟩ : ∃ s0 : Int, y = .int s0 := by
          simp only [List.mem_cons, List.not_mem_nil, or_false] at hmem
          rcases hmem with e | e | e | e | e | e | e | e <;> exact ⟨_, e⟩
        clear hmem hy
        -- told
        refine ⟨_, rfl, _, rfl, _, rfl, one, a, b, two, c, d, s0, rfl, L10.same SS, L20.same SS, ba1, ba2, bc1, bc2, fun H'' S'' => ?_⟩
        have SS2 := SS.trans S''
        have hu1 := hu0.same SS2
        have hv1 := hv0.same SS2
        have fin : ∀ t9, ∃ z8 z9, [some (V.ref sc), some (.ref p), some (.int (0 + i)), some (.ref u), some (.ref v), some (.int x), some (.ref one), some (.ref two), some (.int s0), t9] = [some (.ref sc), some (.ref p), some (.int (0 + i)), some (.ref u), some (.ref v), some (.int x), some (.ref one), some (.ref two), z8, z9] ∧ Same (upd H9 lq (.lst [.int x, .int (x - 1), .int (x + 1), .int (x - r1), .int (x + r2), .int (-x), .int r3, .int 0])) H'' := fun t9 => ⟨_, _, rfl, SS2⟩
        rcases fab_case (a - c) (b - d) s0 with ⟨e, h1, h2⟩ | ⟨t, e, h1, h2, h3⟩
        · rw [e]
          refine ⟨_, rfl, _, rfl, ite2 (fun _ => ?_) (fun h => absurd (decide_eq_true rfl) h)⟩
          refine ⟨_, rfl, _, rfl, _, rfl, u, v, a, b, c, d, s0, rfl, hu1, hv1, ma _, mc _, _, _, rfl, rfl, _, rfl, ite2 (fun h => ?_) (fun _ => ?_)⟩
          · have := of_decide_eq_true h
            rw [gap_eq] at this
            omega
          · refine ⟨_, rfl, u, _, 0, .int a, rfl, rfl, .inl (.inl hu1), at0, _, rfl, v, _, 0, .int c, rfl, rfl, .inl (.inl hv1), at0, _, _, rfl, rfl, _, rfl, ite2 (fun h => ?_) (fun _ => ?_)⟩
            · have := of_decide_eq_true h
              omega
            · exact fin _
        · rw [e]
          refine ⟨_, rfl, _, rfl, ite2 (fun h => nomatch (of_decide_eq_true h)) (fun _ => ?_)⟩
          refine ⟨_, rfl, _, rfl, _, _, rfl, rfl, _, rfl, ite2 (fun h => ?_) (fun _ => ?_)⟩
          · have := of_decide_eq_true h
            omega
          refine ⟨_, rfl, _, rfl, _, rfl, u, v, a, b, c, d, t, rfl, hu1, hv1, ma _, mc _, _, _, rfl, rfl, _, rfl, ite2 (fun h => ?_) (fun _ => ?_)⟩
          · have := of_decide_eq_true h
            rw [gap_eq] at this
            omega
          refine ⟨_, rfl, _, rfl, _, _, rfl, rfl, _, rfl, ite2 (fun h => ?_) (fun _ => iteF (fin _))⟩
          have h4 := h3 (of_decide_eq_true h)
          refine ⟨_, rfl, _, rfl, _, rfl, _, _, rfl, rfl, u, v, a, b, c, d, t - 1, rfl, hu1, hv1, ma _, mc _, _, _, rfl, rfl, _, rfl, ite2 (fun h => ?_) (fun _ => ?_)⟩
          · have := of_decide_eq_true h
            rw [gap_eq] at this
            omega
          refine ⟨_, rfl, _, rfl, _, rfl, u, v, a, b, c, d, s0, rfl, hu1, hv1, ma _, mc _, _, _, rfl, rfl, _, rfl, ite2 (fun h => ?_) (fun _ => fin _)⟩
          have := of_decide_eq_true h
          rw [gap_eq] at this
          omega
      · rintro σ H' ⟨z8, z9, rfl, SS⟩
        have La := L10.same SS
        refine ⟨_, rfl, _, rfl, _, rfl, one, a, b, one, a, b, x, rfl, La, La, ba1, ba2, ba1, ba2, fun Ha Sa => ?_⟩
        have e1 : fab (a - a) (b - b) x = .non := by
          unfold fab
          rw [Int.sub_self, Int.sub_self, Int.zero_mul, if_neg (by omega), if_pos (Int.le_refl 0)]
        rw [e1]
        refine ⟨_, rfl, iteNS rfl ?_⟩
        obtain ⟨d1, hone⟩ := La.same Sa
        refine ⟨_, rfl, one, d1, _, 1, rfl, rfl, hone, one, a, b, ⟨d1, hone⟩, .inr ⟨1, rfl, fun z Hb nz Lz Sb => ?_⟩⟩
        refine ⟨_, rfl, _, rfl, z, a, b + 1, one, a, b, x, rfl, Lz, IsL.same ⟨d1, hone⟩ Sb, ba1, ba2, ba1, ba2, fun Hc Sc => ?_⟩
        have e2 : fab (a - a) (b + 1 - b) x = .int x := by
          unfold fab
          rw [Int.sub_self, Int.zero_mul, if_pos (by omega)]
        rw [e2]
        refine ⟨_, rfl, rfl, _, rfl, iteNS rfl ?_⟩
        have SF := (((SS.trans Sa).trans Sb).trans Sc)
        obtain ⟨d1, hone⟩ := L10.same SF
        obtain ⟨d2, htwo⟩ := L20.same SF
        have hu2 := hu0.same SF
        have hv2 := hv0.same SF
        refine ⟨_, rfl, one, C, d1, _, _, rfl, hone, T.cl, T.nS, lFl_slope _ _, _, rfl, one, C, d1, _, _, rfl, hone, T.cl, T.nH, lFl_height _ _, _, rfl, two, C, d2, _, _, rfl, htwo, T.cl, T.nS, lFl_slope _ _, _, rfl, two, C, d2, _, _, rfl, htwo, T.cl, T.nH, lFl_height _ _, by show 4 ≤ sizeLine; decide, fun t1 ht1 => ?_⟩
        have Sd := same_new (o := .tup [.int a, .int b, .int c, .int d]) ht1
        have hu3 := hu2.same Sd
        have hv3 := hv2.same Sd
        refine ⟨_, rfl, _, rfl, u, v, _, _, rfl, rfl, .inl (.inl hu3), .inl (.inl hv3), by show 4 ≤ sizeLine; decide, (fun e => nomatch e), (fun _ e => nomatch e), fun _ _ t2 ht2 => ?_⟩
        have Se := same_new (o := .tup [.int a, .int b, .int c, .int d]) ht2
        have dpA : ∀ H, DpAll K H [.int a, .int b, .int c, .int d] [.int a, .int b, .int c, .int d] := fun H => .cons (.int a) (.cons (.int b) (.cons (.int c) (.cons (.int d) .nil)))
        refine ⟨.tuple [.int a, .int b, .int c, .int d], .tuple [.int a, .int b, .int c, .int d], .tup (.inl (.inl (Se _ _ upd_same))) (dpA _), .tup (.inl (.inl upd_same)) (dpA _), ?_, ?_, _, rfl, ?_⟩
        · rfl
        · rfl
        · have ee : PyData.eqv (.tuple [.int a, .int b, .int c, .int d]) (.tuple [.int a, .int b, .int c, .int d]) = true := by simp [PyData.eqv, PyData.eqvAll]
          rw [ee]
          refine iteF ?_
          have PF := ((P10.same SF).same Sd).same Se
          exact ⟨_, _, _, _, _, _, _, _, rfl, PF.mono (by omega)⟩
    · rintro σ H2 ⟨s2, s3, s4, s5, s6, s7, s8, s9, rfl, P1⟩
      refine ⟨_, rfl, 2, -7, rfl, fun l1 G1 n1 L1 S1 => ⟨0, 0, rfl, fun l2 G2 n2 L2 S2 => ⟨_, rfl, l1, 2, -7, l2, 0, 0, -5, rfl, L1.same S2, L2, by decide, by decide, by decide, by decide, fun G3 S3 => ?_⟩⟩⟩
      refine ⟨rfl, _, rfl, ite2 (fun _ => ?_) (fun h => absurd (decide_eq_true rfl) h)⟩
      refine ⟨_, rfl, -2, 7, rfl, fun l3 G4 n3 L3 S4 => ⟨0, 0, rfl, fun l4 G5 n4 L4 S5 => ⟨l3, -2, 7, l4, 0, 0, 4, rfl, L3.same S5, L4, by decide, by decide, by decide, by decide, fun G6 S6 => ?_⟩⟩⟩
      exact q G6
end
end OR

namespace OR
open PySem PySem.Spec PyProof.Rows L2
/-! ### what the top has left -/
structure FnAt (K : PySem.W.Frag) (x : Str) (st : Stmt) : Prop where
  ex : ∃ f fd, Fun K x x st f fd ∧ PySem.W.nsIn K mainGlobals x = some (some (.ref f))
theorem fnAt {K : PySem.W.Frag} {h : Heap} {x : Str} {st : Stmt} {f : Addr} {oc : Value} {od an : Option Addr} {osl : Array (Option Value)} {kV doc pm cdv ct : Value} (_X : K.In h)
    (a : PySem.W.nsIn K mainGlobals x = some (some (.ref f))) (l : K.lookup f = some ⟨oc, od, .func (PySem.W.fnOf x x (defArgs st) (defBody st) (defScope st) .none kV doc pm an cdv ct), osl⟩)
    (c : PySem.W.codeIn K cdv x = true) (k : PySem.W.keepIn K (.ref f) = true) : FnAt K x st := ⟨f, _, fun_mk l c k, a⟩
structure MtAt (K : PySem.W.Frag) (C : Addr) (m m' qual : Str) (st : Stmt) : Prop where
  ex : ∃ f fd, Fun K m qual st f fd ∧ PySem.W.findIn K (.ref C) m' = some (some (.ref f)) ∧ PySem.W.isFn K (.ref f) = true ∧ PySem.W.fnIn K f = true
theorem mtAt {K : PySem.W.Frag} {h : Heap} {C : Addr} {m m' qual : Str} {st : Stmt} {f : Addr} {oc : Value} {od an : Option Addr} {osl : Array (Option Value)} {kV doc pm cdv ct : Value} (_X : K.In h)
    (a : PySem.W.findIn K (.ref C) m' = some (some (.ref f))) (l : K.lookup f = some ⟨oc, od, .func (PySem.W.fnOf m qual (defArgs st) (defBody st) (defScope st) .none kV doc pm an cdv ct), osl⟩)
    (c : PySem.W.codeIn K cdv qual = true) (k : PySem.W.keepIn K (.ref f) = true) (i : PySem.W.isFn K (.ref f) = true) (n : PySem.W.fnIn K f = true) : MtAt K C m m' qual st := ⟨f, _, fun_mk l c k, a, i, n⟩
section
variable {P : Program} {w : World} {K : PySem.W.Frag} {mg : Str → Option Value} {base h : Heap}
theorem cl_of {x : Str} {st : Stmt} {k : Nat} {ps : List Str} {sp : Sp} (a : FnAt K x st) (X : K.In h) (G : h.Ns mainGlobals mg)
    (hb : ∀ (kV doc pm : Value) (an : Option Addr) (cdv ct : Value) (us : List Value), us.length = ps.length → bindArgs (PySem.W.fnOf x x (defArgs st) (defBody st) (defScope st) .none kV doc pm an cdv ct) ⟨us, []⟩ = pure (ps.zip us))
    (ok : ∀ f fd, Fun K x x st f fd → FnOk P w K mg base CX0 k f fd ps sp) : Cl P w K mg base k x ps sp := by
  obtain ⟨f, fd, F, e⟩ := a.ex
  exact ⟨f, fd, ok f fd F, PySem.W.mg_of X G e, F.kp, F.binds hb⟩
theorem md_of {C : Addr} {m m' qual : Str} {st : Stmt} {k : Nat} {ps : List Str} {sp : Sp} (a : MtAt K C m m' qual st)
    (hb : ∀ (kV doc pm : Value) (an : Option Addr) (cdv ct : Value) (us : List Value), us.length = ps.length → bindArgs (PySem.W.fnOf m qual (defArgs st) (defBody st) (defScope st) .none kV doc pm an cdv ct) ⟨us, []⟩ = pure (ps.zip us))
    (ok : ∀ f fd, Fun K m qual st f fd → FnOk P w K mg base CX0 k f fd ps sp) : Md P w K mg base k C m' sp := by
  obtain ⟨f, fd, F, e, i, n⟩ := a.ex
  exact ⟨f, fnR_of (ok f fd F) (F.binds hb), e, i, n⟩
end
/-- the class Line behind the top -/
structure LAt (K : PySem.W.Frag) (C : Addr) : Prop where
  aC : PySem.W.nsIn K mainGlobals "Line" = some (some (.ref C))
  pg : PySem.W.plainGet K C Str.empty = true
  hd : PySem.W.hasDictIn K C = true
  po : PySem.W.plainOver K C = true
  sa : PySem.W.findIn K (.ref C) "__setattr__" = some (some (.builtin "object.__setattr__"))
  mks : PySem.W.makesIn K C = true
  kc : PySem.W.keepIn K (.ref C) = true
  nS : PySem.W.findIn K (.ref C) "slope" = some none
  nH : PySem.W.findIn K (.ref C) "height" = some none
  sf : PySem.W.selfFirst K C = true
  ca : PySem.W.findIn K (.ref C) "__class__" = some (some (.builtin "object.__class__"))
  cn : PySem.W.specialIn K (.builtin "object.__class__") "__get__" = some (some (.builtin "getset_descriptor.__get__"))
  ct : PySem.W.takesIn K (.builtin "object.__class__") = some true
  cm : PySem.W.mroIn K C (.type "object") = some true
  kLL : PySem.W.kitOne K (.ref C) (.ref C) = some true
  kIL : PySem.W.kitOne K (.type "int") (.ref C) = some false
theorem LAt.txt {K : PySem.W.Frag} {C : Addr} {h : Heap} {mg : Str → Option Value} (L : LAt K C) (X : K.In h) (G : h.Ns mainGlobals mg) (z1 : PySem.W.nsIn K mainGlobals "isinstance" = some none) (z2 : PySem.W.nsIn K mainGlobals "int" = some none)
    (z3 : PySem.W.nsIn K mainGlobals "bool" = some none) : LTxt K mg C :=
  ⟨⟨L.pg, L.hd, L.po, L.sa⟩, L.nS, L.nH, PySem.W.mg_of X G L.aC, L.sf, ⟨L.ca, L.cn, L.ct, L.cm⟩, L.kLL, L.kIL, PySem.W.mg_none_of X G z1, PySem.W.mg_none_of X G z2, PySem.W.mg_none_of X G z3⟩
theorem binI_mk {K : PySem.W.Frag} {C g : Addr} {h : Heap} {fo ro : Option Value} (_X : K.In h) (a : PySem.W.findIn K (.ref C) (PySem.dunderR (Operator.info .Add).2) = some (some (.ref g))) (b : PySem.W.findIn K (.type "int") (PySem.dunder (Operator.info .Add).2) = some fo)
    (c : PySem.W.findIn K (.type "int") (PySem.dunderR (Operator.info .Add).2) = some ro) (d : PySem.W.subIn K (.type "int") (.ref C) = some false) : BinI K C .Add := ⟨⟨_, a, .inr ⟨g, rfl⟩⟩, ⟨_, b⟩, ⟨_, c⟩, d⟩
theorem all_mk {l : PySem.W.OpenLaw} {w : World} {K : PySem.W.Frag} {h : Heap} {mg : Str → Option Value} {fa C : Addr} (X : K.In h) (G : h.Ns mainGlobals mg) (hfa : mg "law" = some (.ref fa)) (L : LAt K C) (BI : BinI K C .Add)
    (mI : MtAt K C "__init__" "__init__" "Line.__init__" sLInit) (fV : FnAt K "value_at" sVal) (mA : MtAt K C "__add__" (PySem.dunder (Operator.info .Add).2) "Line.__add__" sLAdd) (mN : MtAt K C "__neg__" "__neg__" "Line.__neg__" sLNeg)
    (mS : MtAt K C "__sub__" (PySem.dunder (Operator.info .Sub).2) "Line.__sub__" sLSub)
    (fI : FnAt K "is_integer" sIsInt) (fF : FnAt K "first_above" sFirst) (fPen : FnAt K "_law_pen" sPen) (fDraw : FnAt K "_law_draw" sDraw) (fPick : FnAt K "_law_pick" sPick) (fWhole : FnAt K "_law_whole" sWhole) (fLine : FnAt K "_law_line" sLine)
    (fWorth : FnAt K "_law_worth" sWorth) (fPair : FnAt K "_law_pair" sPair) (fGap : FnAt K "_law_gap" sGap) (fLaw : FnAt K "law" sLaw)
    (z1 : PySem.W.nsIn K mainGlobals "isinstance" = some none) (z2 : PySem.W.nsIn K mainGlobals "int" = some none) (z3 : PySem.W.nsIn K mainGlobals "bool" = some none) (z4 : PySem.W.nsIn K mainGlobals "len" = some none) (z5 : PySem.W.nsIn K mainGlobals "abs" = some none)
    (z6 : PySem.W.nsIn K mainGlobals "list" = some none) (z7 : PySem.W.nsIn K mainGlobals "min" = some none) (z8 : PySem.W.nsIn K mainGlobals "range" = some none) :
    ∃ fd : FuncData, (∀ (s : Shared) (v : Value), BindsTo s fd ⟨[v], []⟩ [("_law_script", v)]) ∧ ∀ base : Heap, K.In base → base.Ns mainGlobals mg → FnOk l.prog w K mg base CX0 6 fa fd ["_law_script"] (spLaw K) := by
  obtain ⟨f, fd, F, e⟩ := fLaw.ex
  have e := hfa.symm.trans (PySem.W.mg_of X G e)
  cases e
  refine ⟨fd, fun s v => ?_, fun base _ _ => ?_⟩
  · obtain ⟨oc, od, kV, doc, pm, an, cdv, ct, osl, rfl, _⟩ := F.ex
    exact .of_eq rfl
  have T : LTxt K mg C := L.txt X G z1 z2 z3
  have B : Bl mg := ⟨PySem.W.mg_none_of X G z2, PySem.W.mg_none_of X G z4, PySem.W.mg_none_of X G z5, PySem.W.mg_none_of X G z6⟩
  have B2 : Bl2 mg := ⟨PySem.W.mg_none_of X G z4, PySem.W.mg_none_of X G z7, PySem.W.mg_none_of X G z8⟩
  have M : LMk l.prog w K mg base C := ⟨T, by
    obtain ⟨f, fd, F, a, b, c⟩ := mI.ex
    exact ⟨f, fd, ⟨L.mks, a, b, L.kc⟩, ok_linit F T, F.binds fun _ _ _ _ _ _ us hl => match us, hl with | [_, _, _], _ => rfl⟩⟩
  have DI : Cl l.prog w K mg base 1 "is_integer" ["value"] spIsInt := cl_of fI X G (fun _ _ _ _ _ _ us hl => match us, hl with | [_], _ => rfl) fun f fd F => ok_isint F T
  have MC : Cl l.prog w K mg base 1 "value_at" ["line", "x"] (spLCall C) := cl_of fV X G (fun _ _ _ _ _ _ us hl => match us, hl with | [_, _], _ => rfl) fun f fd F => ok_lval F T
  have MA : Md l.prog w K mg base 3 C (PySem.dunder (Operator.info .Add).2) (spLAdd C) := md_of mA (ps := ["self", "other"]) (fun _ _ _ _ _ _ us hl => match us, hl with | [_, _], _ => rfl) fun f fd F => ok_ladd F M DI
  have MN : Md l.prog w K mg base 3 C "__neg__" (spLNeg C) := md_of mN (ps := ["self"]) (fun _ _ _ _ _ _ us hl => match us, hl with | [_], _ => rfl) fun f fd F => ok_lneg F M
  have MS : Md l.prog w K mg base 4 C (PySem.dunder (Operator.info .Sub).2) (spLSub C) := md_of mS (ps := ["self", "other"]) (fun _ _ _ _ _ _ us hl => match us, hl with | [_, _], _ => rfl) fun f fd F => ok_lsub F M MA MN
  have DF : Cl l.prog w K mg base 5 "first_above" ["one", "other", "start"] (spFirst C) := cl_of fF X G (fun _ _ _ _ _ _ us hl => match us, hl with | [_, _, _], _ => rfl) fun f fd F => ok_first F T MS MC
  have DPen : Cl l.prog w K mg base 1 "_law_pen" ["_law_script"] (spPen K) := cl_of fPen X G (fun _ _ _ _ _ _ us hl => match us, hl with | [_], _ => rfl) fun f fd F => ok_pen F B
  have DDraw : Cl l.prog w K mg base 1 "_law_draw" ["_law_pen_here", "_law_many"] spDraw := cl_of fDraw X G (fun _ _ _ _ _ _ us hl => match us, hl with | [_, _], _ => rfl) fun f fd F => ok_draw F B
  have DPick : Cl l.prog w K mg base 2 "_law_pick" ["_law_pen_here", "_law_items"] (spPick K) := cl_of fPick X G (fun _ _ _ _ _ _ us hl => match us, hl with | [_, _], _ => rfl) fun f fd F => ok_pick F B DDraw
  have DWhole : Cl l.prog w K mg base 3 "_law_whole" ["_law_pen_here"] spWhole := cl_of fWhole X G (fun _ _ _ _ _ _ us hl => match us, hl with | [_], _ => rfl) fun f fd F => ok_whole F DDraw DPick
  have DLine : Cl l.prog w K mg base 4 "_law_line" ["_law_pen_here"] spLine := cl_of fLine X G (fun _ _ _ _ _ _ us hl => match us, hl with | [_], _ => rfl) fun f fd F => ok_line F DDraw DPick DWhole
  have DWorth : Cl l.prog w K mg base 1 "_law_worth" ["_law_line_here", "_law_x"] spWorth := cl_of fWorth X G (fun _ _ _ _ _ _ us hl => match us, hl with | [_, _], _ => rfl) fun f fd F => ok_worth F
  have DPair : Cl l.prog w K mg base 5 "_law_pair" ["_law_pen_here"] spPair := cl_of fPair X G (fun _ _ _ _ _ _ us hl => match us, hl with | [_], _ => rfl) fun f fd F => ok_pair F DDraw DPick DWhole DLine DWorth
  have DGap : Cl l.prog w K mg base 2 "_law_gap" ["_law_one", "_law_two", "_law_x"] spGap := cl_of fGap X G (fun _ _ _ _ _ _ us hl => match us, hl with | [_, _, _], _ => rfl) fun f fd F => ok_gap F DWorth
  exact ok_law F B2 M MA BI DPen DDraw DWhole DPair DGap DF
end OR
open PySem PySem.W PyProof.Rows
set_option maxRecDepth 100000 in
set_option maxHeartbeats 0 in
theorem PySem.Challenge.cw_openranges_k08_first_place_above_holds : PySem.Challenge.rw_openranges_k08_first_place_above.Holds := by
  w_on; o_law; k_head; (case hw => w_witness2)
  k_fill
  refine L2.walk_of (l := PySem.Challenge.rw_openranges_k08_first_place_above) (n := 63) (k := 6) (x := "_law_script") (CX := fun _ => L2.CX0) (sp := fun w => OR.spLaw _) rfl (by decide) rfl ⟨rfl, by decide, by decide⟩ (fun w h Y => PySem.W.kIn_of Y) ?F (fun _ _ a ns hl _ hS => ⟨a, ns, rfl, hS, hl, fun _ => rfl⟩) (fun _ _ _ _ _ h => h)
  case F =>
    intro w mg fa h KX G hmg
    refine' OR.all_mk KX G hmg ?L ?BI ?mI ?fV ?mA ?mN ?mS ?fI ?fF ?fPen ?fDraw ?fPick ?fWhole ?fLine ?fWorth ?fPair ?fGap ?fLaw ?z1 ?z2 ?z3 ?z4 ?z5 ?z6 ?z7 ?z8
    all_goals try clear hmg
    case L =>
      refine' OR.LAt.mk ?aC ?pg ?hd ?po ?sa ?mk ?kc ?nS ?nH ?sf ?ca ?cn ?ct ?cm ?kLL ?kIL
      (case aC => k_is); (case pg => k_is); (case hd => k_is); (case po => k_is); (case sa => k_is); (case mk => k_is); (case kc => k_is); (case nS => k_is); (case nH => k_is); (case sf => k_is)
      (case ca => k_is); (case cn => k_is); (case ct => k_is); (case cm => k_is); (case kLL => kit_is); (case kIL => kit_is)
    case BI =>
      refine' OR.binI_mk KX ?a ?b ?c ?d
      (case a => k_is); (case b => k_is); (case c => k_is); (case d => k_is)
    case mI => refine' OR.mtAt KX ?a ?l ?c ?k ?i ?n; (case a => k_is); (case l => k_is); (case c => k_is); (case k => k_is); (case i => k_is); (case n => k_is)
    case fV => refine' OR.fnAt KX ?a ?l ?c ?k; (case a => k_is); (case l => k_is); (case c => k_is); (case k => k_is)
    case mA => refine' OR.mtAt KX ?a ?l ?c ?k ?i ?n; (case a => k_is); (case l => k_is); (case c => k_is); (case k => k_is); (case i => k_is); (case n => k_is)
    case mN => refine' OR.mtAt KX ?a ?l ?c ?k ?i ?n; (case a => k_is); (case l => k_is); (case c => k_is); (case k => k_is); (case i => k_is); (case n => k_is)
    case mS => refine' OR.mtAt KX ?a ?l ?c ?k ?i ?n; (case a => k_is); (case l => k_is); (case c => k_is); (case k => k_is); (case i => k_is); (case n => k_is)
    case fI => refine' OR.fnAt KX ?a ?l ?c ?k; (case a => k_is); (case l => k_is); (case c => k_is); (case k => k_is)
    case fF => refine' OR.fnAt KX ?a ?l ?c ?k; (case a => k_is); (case l => k_is); (case c => k_is); (case k => k_is)
    case fPen => refine' OR.fnAt KX ?a ?l ?c ?k; (case a => k_is); (case l => k_is); (case c => k_is); (case k => k_is)
    case fDraw => refine' OR.fnAt KX ?a ?l ?c ?k; (case a => k_is); (case l => k_is); (case c => k_is); (case k => k_is)
    case fPick => refine' OR.fnAt KX ?a ?l ?c ?k; (case a => k_is); (case l => k_is); (case c => k_is); (case k => k_is)
    case fWhole => refine' OR.fnAt KX ?a ?l ?c ?k; (case a => k_is); (case l => k_is); (case c => k_is); (case k => k_is)
    case fLine => refine' OR.fnAt KX ?a ?l ?c ?k; (case a => k_is); (case l => k_is); (case c => k_is); (case k => k_is)
    case fWorth => refine' OR.fnAt KX ?a ?l ?c ?k; (case a => k_is); (case l => k_is); (case c => k_is); (case k => k_is)
    case fPair => refine' OR.fnAt KX ?a ?l ?c ?k; (case a => k_is); (case l => k_is); (case c => k_is); (case k => k_is)
    case fGap => refine' OR.fnAt KX ?a ?l ?c ?k; (case a => k_is); (case l => k_is); (case c => k_is); (case k => k_is)
    case fLaw => refine' OR.fnAt KX ?a ?l ?c ?k; (case a => k_is); (case l => k_is); (case c => k_is); (case k => k_is)
    (case z1 => k_is); (case z2 => k_is); (case z3 => k_is); (case z4 => k_is); (case z5 => k_is); (case z6 => k_is); (case z7 => k_is); (case z8 => k_is)

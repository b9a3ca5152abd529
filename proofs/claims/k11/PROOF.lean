import PyProof.Rows.All
import Wide.All
import OpenK.AllK
import Wide.FinOn
import HandS.ForMost
import HandS.Wide
import HandS.IsInst
import HandS.TupAny
import HandS.TupLe
import HandS.Star
import HandS.Evl
import HandS.SortRule
import HandS.NoneIn
import HandS.Defaults
import HandS.TupSets
import HandS.Keys
import HandS.Small
import KE.KOpsOwn
import HandS.SlotsOwn
import KE.RegKIsAll
import PyProof.Draws
import HandS.ForExc
import HandS.Text
import HandS.FStr
import HandS.StrMore
import HandS.MapJoin
import HandS.Style
import HandS.Records
import HandS.Rev
import HandS.Flow
import PySem.Challenge.RW_openranges_k11_clauses_and_their_texts
set_option Elab.async false
set_option linter.all false
set_option maxRecDepth 100000
namespace OR
open PySem PySem.Spec PyProof.Rows L2
def top (i : Nat) : Stmt := PySem.Challenge.pw_openranges_k11_clauses_and_their_texts.main.body.getD i (.Pass ⟨0, 0, 0, 0⟩)
abbrev sIsInt : Stmt := top 5
abbrev sIsPlace : Stmt := top 6
abbrev sDec : Stmt := top 7
abbrev sRise : Stmt := top 12
abbrev sIsWord : Stmt := top 24
abbrev sChkW : Stmt := top 25
abbrev sChkTwo : Stmt := top 26
abbrev sChkSign : Stmt := top 27
abbrev sBegin : Stmt := top 38
abbrev sAdded : Stmt := top 39
abbrev sIsStretch : Stmt := top 45
abbrev sJoined : Stmt := top 46
abbrev sCounts : Stmt := top 47
abbrev sSText : Stmt := top 51
abbrev sRStr : Stmt := top 52
abbrev sRPl : Stmt := top 9
abbrev sRDec : Stmt := top 8
abbrev sPen : Stmt := top 54
abbrev sDraw : Stmt := top 55
abbrev sPick : Stmt := top 56
abbrev sShuffled : Stmt := top 57
abbrev sWords : Stmt := top 58
abbrev sSpot : Stmt := top 59
abbrev sDrawn : Stmt := top 60
abbrev sMerged : Stmt := top 61
abbrev sTextOf : Stmt := top 62
abbrev sWhole : Stmt := top 63
abbrev sLine : Stmt := top 64
abbrev sLTx : Stmt := top 65
abbrev sSpec : Stmt := top 66
abbrev sClause : Stmt := top 67
abbrev sParts : Stmt := top 68
abbrev sCText : Stmt := top 69
abbrev sWithN : Stmt := top 70
abbrev sNumbers : Stmt := top 71
abbrev sOfNum : Stmt := top 72
abbrev sOther : Stmt := top 73
abbrev sFuncs : Stmt := top 74
abbrev sLaw : Stmt := top 75
abbrev sLInit : Stmt := inClass (top 11) 0
abbrev sLEq : Stmt := inClass (top 11) 2
abbrev sLText : Stmt := inClass (top 11) 12
abbrev sPlInit : Stmt := inClass (top 43) 0
abbrev sPlEq : Stmt := inClass (top 43) 1
abbrev sPlBool : Stmt := inClass (top 43) 2
abbrev sPlText : Stmt := inClass (top 43) 18
abbrev sAnsInit : Stmt := inClass (top 31) 0
abbrev sAnsEq : Stmt := inClass (top 31) 1
abbrev sAnsTold : Stmt := inClass (top 31) 2
abbrev sAnsTxt : Stmt := inClass (top 31) 7
abbrev sRefInit : Stmt := inClass (top 32) 0
abbrev sRefEq : Stmt := inClass (top 32) 1
abbrev sRefTold : Stmt := inClass (top 32) 2
abbrev sRefTxt : Stmt := inClass (top 32) 7
abbrev sNeeInit : Stmt := inClass (top 33) 0
abbrev sNeeEq : Stmt := inClass (top 33) 1
abbrev sNeeTold : Stmt := inClass (top 33) 2
abbrev sNeeTxt : Stmt := inClass (top 33) 7
abbrev sSprInit : Stmt := inClass (top 34) 0
abbrev sSprEq : Stmt := inClass (top 34) 1
abbrev sSprTold : Stmt := inClass (top 34) 2
abbrev sSprTxt : Stmt := inClass (top 34) 7
abbrev sBouInit : Stmt := inClass (top 35) 0
abbrev sBouEq : Stmt := inClass (top 35) 1
abbrev sBouLine : Stmt := inClass (top 35) 2
abbrev sBouTold : Stmt := inClass (top 35) 3
abbrev sBouTxt : Stmt := inClass (top 35) 8
abbrev sPaiInit : Stmt := inClass (top 36) 0
abbrev sPaiEq : Stmt := inClass (top 36) 1
abbrev sPaiLine : Stmt := inClass (top 36) 2
abbrev sPaiTold : Stmt := inClass (top 36) 3
abbrev sPaiTxt : Stmt := inClass (top 36) 8
abbrev sSteInit : Stmt := inClass (top 37) 0
abbrev sSteEq : Stmt := inClass (top 37) 1
abbrev sSteTold : Stmt := inClass (top 37) 2
abbrev sSteTxt : Stmt := inClass (top 37) 7
end OR

namespace OR
open PySem PySem.Spec PyProof.Rows L2
/-! ### the pen: a dict of the cells, how many have begun, what is left of the last one -/
theorem kBC : ¬ ((Sum.inr ("begun" : Str) : Key) = Sum.inr ("cells" : Str)) := by decide +kernel
theorem kLC : ¬ ((Sum.inr ("left" : Str) : Key) = Sum.inr ("cells" : Str)) := by decide +kernel
theorem kLB : ¬ ((Sum.inr ("left" : Str) : Key) = Sum.inr ("begun" : Str)) := by decide +kernel
def penK (c : Addr) (k l : Int) : List (Key × V) := [(.inr ("cells" : Str), .ref c), (.inr ("begun" : Str), .int k), (.inr ("left" : Str), .int l)]
theorem pen_cells (c : Addr) (k l : Int) : valV (penK c k l) (.inr ("cells" : Str)) = some (.ref c) := valV_pos rfl
theorem pen_begun (c : Addr) (k l : Int) : valV (penK c k l) (.inr ("begun" : Str)) = some (.int k) :=
  (valV_neg (fun e => kBC e.symm)).trans (valV_pos rfl)
theorem pen_left (c : Addr) (k l : Int) : valV (penK c k l) (.inr ("left" : Str)) = some (.int l) :=
  (valV_neg (fun e => kLC e.symm)).trans ((valV_neg (fun e => kLB e.symm)).trans (valV_pos rfl))
theorem pen_put_left (c : Addr) (k l y : Int) : putK (penK c k l) (.inr ("left" : Str)) (.int y) = penK c k y := by
  have h1 : ¬ ((Sum.inr ("cells" : Str) : Key) = Sum.inr ("left" : Str)) := fun e => kLC e.symm
  have h2 : ¬ ((Sum.inr ("begun" : Str) : Key) = Sum.inr ("left" : Str)) := fun e => kLB e.symm
  unfold putK penK
  simp only [List.any_cons, List.any_nil, List.map_cons, List.map_nil, h1, h2, decide_true, decide_false, Bool.or_false, Bool.false_or, if_true, if_false]
theorem pen_put_begun (c : Addr) (k l y : Int) : putK (penK c k l) (.inr ("begun" : Str)) (.int y) = penK c y l := by
  have h1 : ¬ ((Sum.inr ("cells" : Str) : Key) = Sum.inr ("begun" : Str)) := fun e => kBC e.symm
  have h2 : ¬ ((Sum.inr ("left" : Str) : Key) = Sum.inr ("begun" : Str)) := kLB
  unfold putK penK
  simp only [List.any_cons, List.any_nil, List.map_cons, List.map_nil, h1, h2, decide_true, decide_false, Bool.or_false, Bool.false_or, Bool.or_true, if_true, if_false]
/-- a pen at p after at most n draws -/
def Pen (H : Hp) (p : Addr) (n : Nat) : Prop := ∃ (c : Addr) (ns : List Int) (k l : Int), H p = some (.dK (penK c k l)) ∧ H c = some (.lst (ns.map V.int)) ∧ ns.length ≤ 63 ∧ 0 ≤ k ∧ k ≤ n ∧ 0 ≤ l
/-- where the pen at p keeps its cells -/
def cellsAt (H : Hp) (p c : Addr) : Prop := ∃ k l, H p = some (.dK (penK c k l))
theorem penK_inj {c c' : Addr} {k l k' l' : Int} (h : penK c k l = penK c' k' l') : c = c' := by
  unfold penK at h
  injection h with h1 _
  injection h1 with _ h2
  injection h2
theorem cellsAt.inj {H : Hp} {p c : Addr} {k l : Int} {c' : Addr} (h : cellsAt H p c) (e : H p = some (.dK (penK c' k l))) : c = c' := by
  obtain ⟨k', l', e'⟩ := h
  rw [e] at e'
  injection e' with e'
  injection e' with e'
  exact (penK_inj e').symm
/-- all but what stands at p is as it was, and the pen there has the same cells -/
structure Frm (p : Addr) (H H' : Hp) : Prop where
  at_ : ∀ b o, H b = some o → b ≠ p → H' b = some o
  ce : ∀ c, cellsAt H p c → cellsAt H' p c
instance {p : Addr} {H H' : Hp} : CoeFun (Frm p H H') (fun _ => ∀ b o, H b = some o → b ≠ p → H' b = some o) := ⟨Frm.at_⟩
theorem Frm.refl (p : Addr) (H : Hp) : Frm p H H := ⟨fun _ _ h _ => h, fun _ h => h⟩
theorem Frm.trans {p : Addr} {H H1 H2 : Hp} (a : Frm p H H1) (b : Frm p H1 H2) : Frm p H H2 := ⟨fun c o h n => b c o (a c o h n) n, fun c h => b.ce c (a.ce c h)⟩
theorem Frm.pen {p c : Addr} {H : Hp} {k l k' l' : Int} (h : H p = some (.dK (penK c k l))) : Frm p H (upd H p (.dK (penK c k' l'))) :=
  ⟨fun b x e n => by rw [upd_ne n]; exact e, fun c' h' => by rw [h'.inj h]; exact ⟨k', l', upd_same⟩⟩
theorem Frm.new {p q : Addr} {H : Hp} {o : HO} (h : H q = none) : Frm p H (upd H q o) :=
  ⟨fun b x e _ => by rw [upd_ne (ne_of_none e h)]; exact e, fun c ⟨k, l, e⟩ => ⟨k, l, by rw [upd_ne (ne_of_none e h)]; exact e⟩⟩
/-- a list that is not the pen's cells is changed -/
theorem Pen.put {H : Hp} {p c a : Addr} {n : Nat} {xs : List V} {o : HO} (P : Pen H p n) (hc : cellsAt H p c) (h : H a = some (.lst xs)) (n1 : c ≠ a) : Pen (upd H a o) p n := by
  obtain ⟨c', ns, k, l, h1, h2, h3⟩ := P
  obtain rfl := hc.inj h1
  exact ⟨c, ns, k, l, by rw [upd_ne (ne_of h1 h (by intro z; cases z))]; exact h1, by rw [upd_ne n1]; exact h2, h3⟩
theorem Pen.cells {H : Hp} {p : Addr} {n : Nat} (P : Pen H p n) : ∃ c, cellsAt H p c ∧ H c ≠ none := by
  obtain ⟨c, ns, k, l, h1, h2, _⟩ := P
  exact ⟨c, ⟨k, l, h1⟩, by rw [h2]; exact fun z => nomatch z⟩
theorem Pen.dict {H : Hp} {p : Addr} {n : Nat} (P : Pen H p n) : ∃ kvs, H p = some (.dK kvs) := by
  obtain ⟨c, ns, k, l, h1, _⟩ := P
  exact ⟨_, h1⟩
/-- what stands at a list, a tuple or an object is not the pen -/
theorem Frm.lst {H H' : Hp} {p a : Addr} {n : Nat} {xs : List V} (f : Frm p H H') (P : Pen H p n) (h : H a = some (.lst xs)) : H' a = some (.lst xs) := by
  obtain ⟨kvs, hp⟩ := P.dict
  exact f _ _ h (ne_of h hp (by intro z; cases z))
theorem Pen.mono {H : Hp} {p : Addr} {n m : Nat} (P : Pen H p n) (h : n ≤ m) : Pen H p m := by
  obtain ⟨c, ns, k, l, h1, h2, h3, h4, h5, h6⟩ := P
  exact ⟨c, ns, k, l, h1, h2, h3, h4, by omega, h6⟩
theorem Pen.new {H : Hp} {p q : Addr} {n : Nat} {o : HO} (P : Pen H p n) (h : H q = none) : Pen (upd H q o) p n := by
  obtain ⟨c, ns, k, l, h1, h2, h3, h4, h5, h6⟩ := P
  exact ⟨c, ns, k, l, by rw [upd_ne (ne_of_none h1 h)]; exact h1, by rw [upd_ne (ne_of_none h2 h)]; exact h2, h3, h4, h5, h6⟩
/-! ### the promises -/
/-- a draw: some number below m -/
def spDraw : Sp := fun vs H Q _ => ∃ (p : Addr) (m : Int) (n : Nat), vs = [.ref p, .int m] ∧ 0 < m ∧ m.natAbs < 2 ^ 200 ∧ Pen H p n ∧ n ≤ 1000000 ∧
  ∀ (r : Int) (H' : Hp), 0 ≤ r → r < m → Pen H' p (n + 1) → Frm p H H' → Q (.int r) H'
/-- a def that lets nothing out, as it is called by its name -/
structure Cl (P : Program) (w : World) (K : PySem.W.Frag) (mg : Str → Option Value) (base : Heap) (k : Nat) (x : Str) (ps : List Str) (sp : Sp) : Prop where
  ex : ∃ (f : Addr) (fd : FuncData), FnOk P w K mg base CX0 k f fd ps sp ∧ mg x = some (.ref f) ∧ PySem.W.keepIn K (.ref f) = true ∧ Binds K fd ps []
theorem pe_cl {X : Cx} {k j : Nat} {x : Str} {ps : List Str} {sp : Sp} {e : Expr} {es : List Expr} {t : TA} {p pos : Pos} (c : Cl X.prog X.w X.K X.mg X.base k x ps sp) (hr : Room j X.A) (hk : k ≤ j) (hg : Gl X x) (ha : PA X (e :: es) t)
    (hdb : (x == ("__debug__" : Str)) = false := by decide) (he : starEach (e :: es) X.env = (false, eval e X.env) :: starEach es X.env := by rfl) (hpl : (backTo pos (starEach es X.env)).any (·.1) = false := by rfl) :
    PE X (.Call (.Name x p) (e :: es) [] pos) (tCall sp [] E0 t) := by
  obtain ⟨f, fd, F, hm, hkp, hb⟩ := c.ex
  exact pe_call F (hr.mono hk) hg hm hkp hb .nil pass0 ha hdb he hpl
theorem Frm.seq {K : PySem.W.Frag} {H H' : Hp} {p a : Addr} {n : Nat} {xs : List V} (f : Frm p H H') (P : Pen H p n) (h : SqL K H a xs) : SqL K H' a xs := by
  obtain ⟨c, ns, k, l, hp, _⟩ := P
  rcases h with (h | ⟨o, h⟩) | h
  · exact .inl (.inl (f _ _ h (ne_of h hp (by intro z; cases z))))
  · exact .inl (.inr ⟨o, f _ _ h (ne_of h hp (by intro z; cases z))⟩)
  · exact .inr h
theorem Frm.tup {K : PySem.W.Frag} {H H' : Hp} {p a : Addr} {n : Nat} {xs : List V} (f : Frm p H H') (P : Pen H p n) (h : SqT K H a xs) : SqT K H' a xs := by
  obtain ⟨c, ns, k, l, hp, _⟩ := P
  rcases h with (h | ⟨o, h⟩) | h
  · exact .inl (.inl (f _ _ h (ne_of h hp (by intro z; cases z))))
  · exact .inl (.inr ⟨o, f _ _ h (ne_of h hp (by intro z; cases z))⟩)
  · exact .inr h
/-- an item of a list that is not empty -/
def spPick (K : PySem.W.Frag) : Sp := fun vs H Q _ => ∃ (p a : Addr) (xs : List V) (n : Nat), vs = [.ref p, .ref a] ∧ SqL K H a xs ∧ 0 < xs.length ∧ xs.length ≤ 1000 ∧ Pen H p n ∧ n ≤ 1000000 ∧
  ∀ (v : V) (H' : Hp), v ∈ xs → Pen H' p (n + 1) → Frm p H H' → Q v H'
/-- some number, not too great -/
def spWhole : Sp := fun vs H Q _ => ∃ (p : Addr) (n : Nat), vs = [.ref p] ∧ Pen H p n ∧ n ≤ 900000 ∧
  ∀ (r : Int) (H' : Hp), -(10 ^ 30) < r → r < 10 ^ 30 → Pen H' p (n + 3) → Frm p H H' → Q (.int r) H'
/-- the pen, made of the script -/
def spPen (K : PySem.W.Frag) : Sp := fun vs H Q _ => ∃ (a : Addr) (ns : List Int), vs = [.ref a] ∧ SqL K H a (ns.map V.int) ∧ ns.length ≤ 63 ∧
  ∀ (p : Addr) (H' : Hp), H p = none → Pen H' p 0 → Same H H' → Q (.ref p) H'
structure Bl (mg : Str → Option Value) : Prop where
  int : mg "int" = none
  len : mg "len" = none
  abs : mg "abs" = none
  list : mg "list" = none
theorem dg {H : Hp} {p : Addr} {kvs : List (Key × V)} {x : Str} {v : V} (h : H p = some (.dK kvs)) (e : valV kvs (.inr x) = some v) : DGet H p (.str x) (some v) := e ▸ DGet.k (k := .inr x) h
theorem dp {H : Hp} {p : Addr} {kvs kvs' : List (Key × V)} {x : Str} {v : V} (h : H p = some (.dK kvs)) (e : putK kvs (.inr x) v = kvs') (hl : kvs.length < sizeLine) : DPut H p (.str x) v (upd H p (.dK kvs')) := e ▸ DPut.k (k := .inr x) h hl
theorem pen_small (c : Addr) (k l : Int) : (penK c k l).length < sizeLine := by show 3 < sizeLine; decide
theorem mod_bd (a b : Int) (h : 0 < b) : 0 ≤ a % b ∧ a % b < b := ⟨Int.emod_nonneg a (by omega), Int.emod_lt_of_pos a h⟩
theorem boot_absO : bootBuiltins ("abs" : Str) = some (.builtin "abs") := by decide +kernel
section
variable {P : Program} {w : World} {K : PySem.W.Frag} {mg : Str → Option Value} {base : Heap}
theorem scDraw : FnScope ["_law_pen_here", "_law_many", "_law_digit", "_law_k", "_law_size", "_law_cell", "_law_mix"] ["_law_pen_here", "_law_many"] (defScope sDraw) := ⟨rfl, rfl, rfl, by decide +kernel, rfl, by decide +kernel, by decide +kernel⟩
theorem div200 {m : Int} (h : 0 < m) (h2 : m.natAbs < 2 ^ 200) (i : Int) : CDivW i m := wide_div h h2 (by decide) (by decide)
theorem ok_draw {f : Addr} {fd : FuncData} (F : Fun K "_law_draw" "_law_draw" sDraw f fd) (B : Bl mg) : FnOk P w K mg base CX0 1 f fd ["_law_pen_here", "_law_many"] spDraw := by
  refine F.ok scDraw (fun vs H Q E h => ?_) (fun cdv A outer s H vs Q E hr h => ?_)
  · obtain ⟨p, m, n, rfl, _⟩ := h
    rfl
  · obtain ⟨p, m, n, rfl, hm, hmb, ⟨c, ns, k, l, hp, hc, hns, hk0, hkn, hl⟩, hn, q⟩ := h
    have hu := hu_of hr
    have ncp : c ≠ p := ne_of hc hp (by intro z; cases z)
    have nd := scDraw.nd
    refine ⟨_, pss_cons (ps_if (pt_cmpR op_gt (pe_dget hu (pv 0) pe_str (fun _ _ => rfl)) pe_int (nomark _))
        (pss_cons (ps_set (i := 2) nd rfl (.inl rfl) (pe_op op_mod (pe_callTy call_int1 (by rfl) B.int boot_int (pa_cons (pe_dget hu (pv 0) pe_str (fun _ _ => rfl)) pa_nil)) (pv 1)))
        (pss_cons (ps_dput hu (pv 0) pe_str (pe_op op_fdivW (pe_dget hu (pv 0) pe_str (fun _ _ => rfl)) (pv 1)) rfl)
        (pss_one (ps_ret (pv 2))))) pss_nil)
      (pss_cons (ps_par (i := 3) (j := 4) rfl nd rfl rfl (by decide) rfl rfl (pa_cons (pe_dget hu (pv 0) pe_str (fun _ _ => rfl)) (pa_cons (pe_callB call_len_seq (by rfl) B.len PySem.boot_len (pa_cons (pe_dget hu (pv 0) pe_str (fun _ _ => rfl)) pa_nil)) pa_nil)) rfl)
      (pss_cons (ps_dput hu (pv 0) pe_str (pe_op op_add (pv 3) pe_int) rfl)
      (Evl.pss_cut (ps_set (i := 5) nd rfl (.inl rfl) (pe_ifExp (pt_cmpR op_gt (pv 4) pe_int (nomark _))
          (pe_ix ix_list (pe_dget hu (pv 0) pe_str (fun _ _ => rfl)) (pe_op op_mod (pe_callTy call_int1 (by rfl) B.int boot_int (pa_cons (pv 3) pa_nil)) (pv 4)) (fun _ _ => rfl))
          (pe_op op_add (pe_op op_mul pe_int (pv 3)) pe_int)))
      (Evl.pss_cut (ps_if (PW.pt (pw_and (pt_cmpR op_lt (pv 3) (pv 4) (nomark _)) (pw_and1 (pt_cmpR op_ge (pe_callB call_abs (by rfl) B.abs boot_absO (pa_cons (pv 5) pa_nil)) (pe_op op_pow pe_int pe_int) (nomark _)))))
        (pss_cons (ps_dput hu (pv 0) pe_str (pe_op op_fdivW (pe_op op_sub (pe_callB call_abs (by rfl) B.abs boot_absO (pa_cons (pv 5) pa_nil)) (pe_op op_pow pe_int pe_int)) (pv 1)) rfl)
        (pss_one (ps_ret (pe_op op_mod (pe_callTy call_int1 (by rfl) B.int boot_int (pa_cons (pe_op op_sub (pe_callB call_abs (by rfl) B.abs boot_absO (pa_cons (pv 5) pa_nil)) (pe_op op_pow pe_int pe_int)) pa_nil)) (pv 1))))) pss_nil)
      (pss_cons (ps_set (i := 6) nd rfl (.inl rfl) (pe_op op_mod (pe_callTy call_int1 (by rfl) B.int boot_int (pa_cons
          (pe_op op_add (pe_op op_add (pe_op op_add (pe_op op_mul (pe_op op_mod (pe_callTy call_int1 (by rfl) B.int boot_int (pa_cons (pv 5) pa_nil)) pe_int) pe_int) (pe_op op_mul (pe_op op_mul pe_int (pv 3)) (pv 3))) (pe_op op_mul pe_int (pv 3))) pe_int) pa_nil)) pe_int))
      (pss_cons (ps_set (i := 6) nd rfl (.inl rfl) (pe_op op_mod (pe_callTy call_int1 (by rfl) B.int boot_int (pa_cons
          (pe_op op_add (pe_op op_add (pe_op op_mul (pv 6) (pv 6)) (pe_op op_mul pe_int (pv 6))) (pe_op op_mul pe_int (pv 3))) pa_nil)) pe_int))
      (pss_one (ps_ret (pe_op op_mod (pe_callTy call_int1 (by rfl) B.int boot_int (pa_cons (pe_op op_fdiv (pe_op op_mod (pe_callTy call_int1 (by rfl) B.int boot_int (pa_cons (pe_op op_mul (pv 6) (pe_op op_add (pv 6) pe_int)) pa_nil)) pe_int) pe_int) pa_nil)) (pv 1)))))))))), ?_⟩
    -- if pen['left'] > 0
    have dL : DGet H p (.str "left") (some (.int l)) := dg hp (pen_left c k l)
    have dB : DGet H p (.str "begun") (some (.int k)) := dg hp (pen_begun c k l)
    have dC : DGet H p (.str "cells") (some (.ref c)) := dg hp (pen_cells c k l)
    refine ⟨_, rfl, p, .int l, rfl, dL, _, _, rfl, rfl, _, rfl, ite2 (fun e => ?_) (fun e => ?_)⟩
    · have hl1 : 0 < l := of_decide_eq_true e
      refine ⟨_, rfl, p, .int l, rfl, dL, .inl ⟨l, rfl, _, rfl, l, m, rfl, rfl, hm, ?_⟩⟩
      refine ⟨_, rfl, p, .int l, rfl, dL, _, rfl, l, m, rfl, rfl, div200 hm hmb l, _, rfl, p, _, rfl, dp hp (pen_put_left c k l _) (pen_small c k l), _, rfl, ?_⟩
      refine q (l % m) _ (mod_bd l m hm).1 (mod_bd l m hm).2 ⟨c, ns, k, l / m, upd_same, by rw [upd_ne ncp]; exact hc, hns, hk0, by omega, Int.ediv_nonneg hl (by omega)⟩ (Frm.pen hp)
    · -- k, size = pen['begun'], len(pen['cells'])
      have hcL : SqL K H c (ns.map V.int) := .inl (.inl hc)
      refine ⟨_, rfl, p, .int k, rfl, dB, _, rfl, p, .ref c, rfl, dC, c, _, rfl, .inl hcL, _, _, rfl, ?_⟩
      refine ⟨_, rfl, _, _, rfl, rfl, _, rfl, p, _, rfl, dp hp (pen_put_begun c k l _) (pen_small c k l), ?_⟩
      -- cell = ..
      have hl0 : l = 0 := by
        have : ¬ (0 < l) := fun z => e (decide_eq_true z)
        omega
      have hp1 : (upd H p (.dK (penK c (k + 1) l))) p = some (.dK (penK c (k + 1) l)) := upd_same
      have hc1 : (upd H p (.dK (penK c (k + 1) l))) c = some (.lst (ns.map V.int)) := by rw [upd_ne ncp]; exact hc
      have dC1 := dg (x := "cells") hp1 (pen_cells c (k + 1) l)
      have hcL1 : SqL K (upd H p (.dK (penK c (k + 1) l))) c (ns.map V.int) := .inl (.inl hc1)
      have fin : ∀ (r y : Int), 0 ≤ r → r < m → 0 ≤ y → ∀ H', H' = upd H p (.dK (penK c (k + 1) y)) → Q (.int r) H' := fun r y h0 h1 hy H' e => by
        subst e
        exact q r _ h0 h1 ⟨c, ns, k + 1, y, upd_same, by rw [upd_ne ncp]; exact hc, hns, by omega, by omega, hy⟩ (Frm.pen hp)
      refine ⟨fun σ' H' => ∃ cell : Int, σ' = [some (.ref p), some (.int m), none, some (.int k), some (.int ((ns.map V.int).length : Int)), some (.int cell), none] ∧ H' = upd H p (.dK (penK c (k + 1) l)), ?_, ?_⟩
      · refine ⟨_, rfl, _, _, rfl, rfl, _, rfl, ite2 (fun e2 => ?_) (fun e2 => ?_)⟩
        · have hsz : (0 : Int) < ((ns.map V.int).length : Int) := of_decide_eq_true e2
          have hb := mod_bd k _ hsz
          have hj : (k % ((ns.map V.int).length : Int)).toNat < ns.length := by
            rw [List.length_map] at hb ⊢
            omega
          refine ⟨_, rfl, p, _, rfl, dC1, _, rfl, .inl ⟨k, rfl, _, rfl, k, _, rfl, rfl, hsz, c, ns.map V.int, _, .int ns[(k % ((ns.map V.int).length : Int)).toNat], rfl, rfl, hcL1, ?_, ?_⟩⟩
          · have := atI_nat (xs := ns.map V.int) (j := (k % ((ns.map V.int).length : Int)).toNat) (v := .int ns[(k % ((ns.map V.int).length : Int)).toNat]) (by rw [List.getElem?_map, List.getElem?_eq_getElem hj]; rfl)
            rw [Int.toNat_of_nonneg hb.1] at this
            exact this
          · exact ⟨_, rfl, rfl⟩
        · refine ⟨_, rfl, _, _, rfl, rfl, .inl ⟨by decide, by decide⟩, _, _, rfl, rfl, ?_⟩
          exact ⟨_, rfl, rfl⟩
      · rintro σ' H' ⟨cell, rfl, rfl⟩
        refine ⟨fun σ' H' => σ' = [some (.ref p), some (.int m), none, some (.int k), some (.int ((ns.map V.int).length : Int)), some (.int cell), none] ∧ H' = upd H p (.dK (penK c (k + 1) l)), ?_, ?_⟩
        · have hpow : CPow 10 18 := ⟨by decide, by decide, by decide⟩
          refine ⟨_, rfl, _, rfl, _, _, rfl, rfl, _, rfl, ite2 (fun e2 => ?_) (fun e2 => ?_)⟩
          · refine ⟨_, rfl, cell, rfl, _, _, rfl, rfl, hpow, _, _, rfl, rfl, _, rfl, ite2 (fun e3 => ?_) (fun e3 => ?_)⟩
            · have hge := of_decide_eq_true e3
              refine ⟨_, rfl, cell, rfl, _, _, rfl, rfl, hpow, _, _, rfl, rfl, _, rfl, _, _, rfl, rfl, div200 hm hmb _, _, rfl, p, _, rfl, dp hp1 (pen_put_left c (k + 1) l _) (pen_small c _ l), ?_⟩
              refine ⟨_, rfl, cell, rfl, _, _, rfl, rfl, hpow, _, _, rfl, rfl, .inl ⟨_, rfl, _, rfl, _, _, rfl, rfl, hm, ?_⟩⟩
              refine fin _ (((if cell < 0 then -cell else cell) - 10 ^ (18 : Int).toNat) / m) (mod_bd _ m hm).1 (mod_bd _ m hm).2 (Int.ediv_nonneg ?_ (by omega)) _ ?_
              · show (0 : Int) ≤ (if cell < 0 then -cell else cell) - 10 ^ (18 : Int).toNat
                have : (10 : Int) ^ (18 : Int).toNat ≤ (if cell < 0 then -cell else cell) := hge
                omega
              · rw [upd_upd]
            · exact ⟨rfl, rfl⟩
          · exact iteF ⟨rfl, rfl⟩
        · rintro σ' H' ⟨rfl, rfl⟩
          -- mix
          refine ⟨_, rfl, .inl ⟨_, rfl, _, _, rfl, rfl, (by show (0 : Int) < 4294966769; decide), _, _, rfl, rfl, .inr ⟨by decide, by decide⟩, _, rfl, _, _, rfl, rfl, .inl ⟨by decide, by decide⟩, _, rfl, _, _, rfl, rfl, .inl ?_, _, _, rfl, rfl, _, rfl, _, _, rfl, rfl, .inl ⟨by decide, by decide⟩, _, _, rfl, rfl, _, _, rfl, rfl, .inl ⟨_, rfl, _, _, rfl, rfl, (by show (0 : Int) < 4294966813; decide), ?_⟩⟩⟩
          · constructor <;> omega
          -- mix again
          generalize hM : (cell % 4294966769 * 43313 + 31699 * k * k + 613 * k + 41) % 4294966813 = M
          have hMb : 0 ≤ M ∧ M < 4294966813 := hM ▸ mod_bd _ _ (by decide)
          refine ⟨_, rfl, _, rfl, _, _, rfl, rfl, .inl (by constructor <;> omega), _, rfl, _, _, rfl, rfl, .inl ⟨by decide, by decide⟩, _, _, rfl, rfl, _, rfl, _, _, rfl, rfl, .inl ⟨by decide, by decide⟩, _, _, rfl, rfl, .inl ⟨_, rfl, _, _, rfl, rfl, (by show (0 : Int) < 4294966787; decide), ?_⟩⟩
          generalize hM2 : (M * M + 40961 * M + 17 * k) % 4294966787 = M2
          have hMb2 : 0 ≤ M2 ∧ M2 < 4294966787 := hM2 ▸ mod_bd _ _ (by decide)
          refine ⟨_, rfl, _, rfl, _, _, rfl, rfl, _, _, rfl, rfl, .inl (by constructor <;> omega), .inl ⟨_, rfl, _, _, rfl, rfl, (by show (0 : Int) < 4294966661; decide), _, _, rfl, rfl, ⟨by decide, by decide⟩, .inl ⟨_, rfl, _, rfl, _, _, rfl, rfl, hm, ?_⟩⟩⟩
          exact fin _ l (mod_bd _ m hm).1 (mod_bd _ m hm).2 hl _ rfl
theorem scPick : FnScope ["_law_pen_here", "_law_items"] ["_law_pen_here", "_law_items"] (defScope sPick) := ⟨rfl, rfl, rfl, by decide +kernel, rfl, by decide +kernel, by decide +kernel⟩
theorem ok_pick {f : Addr} {fd : FuncData} (F : Fun K "_law_pick" "_law_pick" sPick f fd) (B : Bl mg) (D : Cl P w K mg base 1 "_law_draw" ["_law_pen_here", "_law_many"] spDraw) : FnOk P w K mg base CX0 2 f fd ["_law_pen_here", "_law_items"] (spPick K) := by
  refine F.ok scPick (fun vs H Q E h => ?_) (fun cdv A outer s H vs Q E hr h => ?_)
  · obtain ⟨p, a, xs, n, rfl, _⟩ := h
    rfl
  · obtain ⟨p, a, xs, n, rfl, hS, h0, h1, hP, hn, q⟩ := h
    refine ⟨_, pss_one (ps_ret (pe_ix ix_list (pv 1) (pe_cl D hr (by decide) (by rfl) (pa_cons (pv 0) (pa_cons (pe_callB call_len_seq (by rfl) B.len PySem.boot_len (pa_cons (pv 1) pa_nil)) pa_nil))) (fun _ _ => rfl))), ?_⟩
    refine ⟨_, rfl, _, rfl, _, rfl, a, xs, rfl, .inl hS, p, xs.length, n, rfl, by omega, ?_, hP, hn, fun r H' hr0 hr1 hP' hF => ?_⟩
    · have : xs.length < 2 ^ 200 := Nat.lt_of_le_of_lt h1 (by decide)
      simpa using this
    · have hj : r.toNat < xs.length := by omega
      refine ⟨a, xs, r, xs[r.toNat], rfl, rfl, hF.seq hP hS, ?_, q _ _ (List.getElem_mem hj) hP' hF⟩
      have := atI_nat (xs := xs) (j := r.toNat) (v := xs[r.toNat]) (List.getElem?_eq_getElem hj)
      rw [Int.toNat_of_nonneg hr0] at this
      exact this
theorem scPen : FnScope ["_law_script"] ["_law_script"] (defScope sPen) := ⟨rfl, rfl, rfl, by decide +kernel, rfl, by decide +kernel, by decide +kernel⟩
theorem cut63 (ns : List Int) : cutV (ns.map V.int) none (some 63) = (ns.take 63).map V.int := by
  unfold cutV
  rw [HT.sIx_none, show HT.sIx (ns.map V.int).length (ns.map V.int).length (some 63) = min 63 (ns.map V.int).length from HT.sIx_nat _ _ 63, List.drop_zero, Nat.sub_zero, List.map_take]
  rcases Nat.le_total 63 (ns.map V.int).length with h | h
  · rw [Nat.min_eq_left h]
  · rw [Nat.min_eq_right h, List.take_of_length_le (Nat.le_refl _), List.take_of_length_le h]
theorem ok_pen {f : Addr} {fd : FuncData} (F : Fun K "_law_pen" "_law_pen" sPen f fd) (B : Bl mg) : FnOk P w K mg base CX0 1 f fd ["_law_script"] (spPen K) := by
  refine F.ok scPen (fun vs H Q E h => ?_) (fun cdv A outer s H vs Q E hr h => ?_)
  · obtain ⟨a, ns, rfl, _⟩ := h
    rfl
  · obtain ⟨a, ns, rfl, hS, hlen, q⟩ := h
    refine ⟨_, pss_one (ps_ret (pe_disp (pps_cons pe_str (pe_callTy call_list_of (by rfl) B.list (by decide +kernel) (pa_cons (pe_slice sl_list (pv 0) po_none (po_some pe_int)) pa_nil)) (pps_cons pe_str pe_int (pps_cons pe_str pe_int pps_nil))) rfl rfl (by simp) (by decide))), ?_⟩
    intro p hp
    have s1 : Same H (upd H p (.dK [])) := fun b o e => by rw [upd_ne (ne_of_none e hp)]; exact e
    refine ⟨_, rfl, _, rfl, a, _, rfl, s1.seq hS, fun x hx => ?_⟩
    refine ⟨x, _, rfl, .inl (.inl (.inl upd_same)), fun c hc => ?_⟩
    have npx : p ≠ x := ne_of_none upd_same hx
    have npc : p ≠ c := by
      intro e
      subst e
      rw [upd_ne npx, upd_same] at hc
      cases hc
    have a1 : putK ([] : List (Key × V)) (.inr ("cells" : Str)) (.ref c) = [(.inr ("cells" : Str), .ref c)] := putK_new _ valV_nil
    have a2 : putK ([(.inr ("cells" : Str), .ref c)] : List (Key × V)) (.inr ("begun" : Str)) (.int 0) = [(.inr ("cells" : Str), .ref c), (.inr ("begun" : Str), .int 0)] := putK_new _ ((valV_neg (fun e => kBC e.symm)).trans valV_nil)
    have a3 : putK ([(.inr ("cells" : Str), .ref c), (.inr ("begun" : Str), .int 0)] : List (Key × V)) (.inr ("left" : Str)) (.int 0) = penK c 0 0 := putK_new _ ((valV_neg (fun e => kLC e.symm)).trans ((valV_neg (fun e => kLB e.symm)).trans valV_nil))
    have e3 : mergeK [] (penK c 0 0) = penK c 0 0 := by
      show putK (putK (putK ([] : List (Key × V)) (.inr ("cells" : Str)) (.ref c)) (.inr ("begun" : Str)) (.int 0)) (.inr ("left" : Str)) (.int 0) = penK c 0 0
      rw [a1, a2, a3]
    refine ⟨by rw [upd_ne npc, upd_ne npx, upd_same], penK c 0 0, rfl, by show 3 ≤ 15; decide, ?_⟩
    rw [e3]
    refine q p _ hp ⟨c, ns.take 63, 0, 0, upd_same, ?_, by rw [List.length_take]; omega, by omega, by omega, by omega⟩ fun b o e => ?_
    · rw [upd_ne npc.symm, upd_same, cut63]
    · have h1 := s1 b o e
      have nbx : b ≠ x := ne_of_none h1 hx
      have h2 : (upd (upd H p (.dK [])) x (.lst (cutV (ns.map V.int) none (some 63)))) b = some o := by rw [upd_ne nbx]; exact h1
      rw [upd_ne (ne_of_none e hp), upd_ne (ne_of_none h2 hc)]
      exact h2
end
end OR

namespace OR
open PySem PySem.Spec PyProof.Rows L2
section
variable {P : Program} {w : World} {K : PySem.W.Frag} {mg : Str → Option Value} {base : Heap}
theorem scWhole : FnScope ["_law_pen_here", "_law_size"] ["_law_pen_here"] (defScope sWhole) := ⟨rfl, rfl, rfl, by decide +kernel, rfl, by decide +kernel, by decide +kernel⟩
theorem ok_whole {f : Addr} {fd : FuncData} (F : Fun K "_law_whole" "_law_whole" sWhole f fd) (D : Cl P w K mg base 1 "_law_draw" ["_law_pen_here", "_law_many"] spDraw) (C : Cl P w K mg base 2 "_law_pick" ["_law_pen_here", "_law_items"] (spPick K)) :
    FnOk P w K mg base CX0 3 f fd ["_law_pen_here"] spWhole := by
  refine F.ok scWhole (fun vs H Q E h => ?_) (fun cdv A outer s H vs Q E hr h => ?_)
  · obtain ⟨p, n, rfl, _⟩ := h
    rfl
  · obtain ⟨p, n, rfl, hP, hn, q⟩ := h
    refine ⟨_, pss_cons (ps_set (i := 1) scWhole.nd rfl (.inl rfl) (pe_cl C hr (by decide) (by rfl) (pa_cons (pv 0) (pa_cons (pe_lst (pa_cons pe_int (pa_cons pe_int (pa_cons pe_int (pa_cons (pe_op op_pow pe_int pe_int) (pa_cons (pe_op op_pow pe_int pe_int) pa_nil)))))) pa_nil))))
      (pss_one (ps_ret (pe_op op_mul (pe_cl D hr (by decide) (by rfl) (pa_cons (pv 0) (pa_cons (pv 1) pa_nil))) (pe_cl C hr (by decide) (by rfl) (pa_cons (pv 0) (pa_cons (pe_lst (pa_cons pe_int (pa_cons pe_int (pa_cons (pe_un un_neg pe_int) pa_nil)))) pa_nil)))))), ?_⟩
    refine ⟨_, rfl, _, _, rfl, rfl, ⟨by decide, by decide, by decide⟩, _, _, rfl, rfl, ⟨by decide, by decide, by decide⟩, by show 5 ≤ sizeLine; decide, fun a ha => ?_⟩
    have P1 := hP.new (o := .lst [.int 3, .int 10, .int 100, .int (10 ^ (6 : Int).toNat), .int (10 ^ (30 : Int).toNat)]) ha
    refine ⟨p, a, _, n, rfl, .inl (.inl upd_same), by show 0 < 5; decide, by show 5 ≤ 1000; decide, P1, by omega, fun v H2 hv P2 F2 => ?_⟩
    obtain ⟨m, rfl, hm0, hm1⟩ : ∃ m : Int, v = .int m ∧ 0 < m ∧ m ≤ 10 ^ 30 := by
      simp only [List.mem_cons, List.not_mem_nil, or_false] at hv
      rcases hv with e | e | e | e | e <;> subst e <;> exact ⟨_, rfl, by decide, by decide⟩
    have hmb : m.natAbs < 2 ^ 200 := by
      have : m.natAbs ≤ 10 ^ 30 := by omega
      exact Nat.lt_of_le_of_lt this (by decide)
    refine ⟨_, rfl, _, rfl, p, m, n + 1, rfl, hm0, hmb, P2, by omega, fun r H3 hr0 hr1 P3 F3 => ?_⟩
    refine ⟨_, rfl, _, rfl, by show 3 ≤ sizeLine; decide, fun b hb => ?_⟩
    refine ⟨p, b, _, n + 2, rfl, .inl (.inl upd_same), by show 0 < 3; decide, by show 3 ≤ 1000; decide, P3.new hb, by omega, fun v H4 hv P4 F4 => ?_⟩
    obtain ⟨s, rfl, hs⟩ : ∃ s : Int, v = .int s ∧ (s = 1 ∨ s = -1) := by
      simp only [List.mem_cons, List.not_mem_nil, or_false] at hv
      rcases hv with e | e | e <;> subst e
      · exact ⟨_, rfl, .inl rfl⟩
      · exact ⟨_, rfl, .inl rfl⟩
      · exact ⟨_, rfl, .inr rfl⟩
    refine ⟨r, s, rfl, rfl, .inr (by constructor <;> omega), q _ _ ?_ ?_ P4 ((((Frm.new ha).trans F2).trans F3).trans ((Frm.new hb).trans F4))⟩
    · rcases hs with rfl | rfl <;> omega
    · rcases hs with rfl | rfl <;> omega
end
end OR

namespace OR
open PySem PySem.Spec PyProof.Rows L2
/-! ### own classes: double-underscore methods behind the signs -/
/-- a method of the class at C, called with its object and arguments by position -/
structure Md (P : Program) (w : World) (K : PySem.W.Frag) (mg : Str → Option Value) (base : Heap) (k : Nat) (C : Addr) (m : Str) (sp : Sp) : Prop where
  ex : ∃ f, FnR P w K mg base CX0 k f sp ∧ PySem.W.findIn K (.ref C) m = some (some (.ref f)) ∧ PySem.W.isFn K (.ref f) = true ∧ PySem.W.fnIn K f = true
theorem fnR_of {P : Program} {w : World} {K : PySem.W.Frag} {mg : Str → Option Value} {base : Heap} {k : Nat} {f : Addr} {fd : FuncData} {ps : List Str} {sp : Sp} (F : FnOk P w K mg base CX0 k f fd ps sp) (hb : Binds K fd ps []) : FnR P w K mg base CX0 k f sp :=
  (F.raw hb .nil).imp fun vs H Q E h => by rw [List.append_nil]; exact h
section
variable {X : Cx} {n : Nat} {C : Addr} {sp : Sp}
def rBinS (C : Addr) (sp : Sp) : R2 := fun x y H Q => ∃ a b dx dy fs gs, x = .ref a ∧ y = .ref b ∧ H a = some (.ins C dx fs) ∧ H b = some (.ins C dy gs) ∧ sp [x, y] H Q E0
theorem op_binS {op : Operator} (m : Md X.prog X.w X.K X.mg X.base n C (PySem.dunder op.info.2) sp) (sf : PySem.W.selfFirst X.K C = true) (hr : Room n X.A) : OpR X (binaryOp op) (rBinS C sp) := by
  intro pins s σ H x y v u Q I rx ry h
  obtain ⟨f, F, hs, hf, _⟩ := m.ex
  obtain ⟨a, b, dx, dy, fs, gs, rfl, rfl, ha, hb, q⟩ := h
  cases (show v = Value.ref a from rx)
  cases (show u = Value.ref b from ry)
  obtain ⟨mA, J, _⟩ := ins_get I.hok ha
  obtain ⟨mB, J', _⟩ := ins_get I.hok hb
  obtain ⟨od, J, _⟩ := J.look
  obtain ⟨od', J', _⟩ := J'.look
  obtain ⟨m, hF⟩ := I.fr
  refine PySem.W.binop_K hF I.ok.mod.kin J J'.type sf hs hf ?_
  refine wpAny_mono (wpAny_call (run_fnR (us := [.ref a, .ref b]) (vs := [.ref a, .ref b]) F hr pass0 I (.cons rfl (.cons rfl .nil)) q)) (fun w s' z => ?_) fun _ _ x => x
  obtain ⟨z', H', I', rz, qz⟩ := z
  exact SlX.cmpback rz ⟨z', H', I', rz, qz⟩
/-- what + and the like ask of the class for an int on the right -/
structure BinI (K : PySem.W.Frag) (C : Addr) (op : Operator) : Prop where
  rc : ∃ rc, PySem.W.findIn K (.ref C) (PySem.dunderR op.info.2) = some rc ∧ (rc = none ∨ ∃ g : Addr, rc = some (.ref g))
  fo : ∃ fo, PySem.W.findIn K (.type "int") (PySem.dunder op.info.2) = some fo
  ro : ∃ ro, PySem.W.findIn K (.type "int") (PySem.dunderR op.info.2) = some ro
  sub : PySem.W.subIn K (.type "int") (.ref C) = some false
def rBinI (C : Addr) (sp : Sp) : R2 := fun x y H Q => ∃ a dx fs i, x = .ref a ∧ y = .int i ∧ H a = some (.ins C dx fs) ∧ sp [x, y] H Q E0
theorem op_binI {op : Operator} (m : Md X.prog X.w X.K X.mg X.base n C (PySem.dunder op.info.2) sp) (b : BinI X.K C op) (sf : PySem.W.selfFirst X.K C = true) (hr : Room n X.A) : OpR X (binaryOp op) (rBinI C sp) := by
  intro pins s σ H x y v u Q I rx ry h
  obtain ⟨f, F, hs, hf, _⟩ := m.ex
  obtain ⟨a, dx, fs, i, rfl, rfl, ha, q⟩ := h
  cases (show v = Value.ref a from rx)
  obtain ⟨t, rfl⟩ := (show ∃ t, u = Value.int i t from ry)
  obtain ⟨mA, J, _⟩ := ins_get I.hok ha
  obtain ⟨od, J, _⟩ := J.look
  obtain ⟨m, hF⟩ := I.fr
  obtain ⟨rc, hrc, hp⟩ := b.rc
  obtain ⟨fo, h1⟩ := b.fo
  obtain ⟨ro, h2⟩ := b.ro
  refine PySem.W.ksp_binT (T := "int") hF I.ok.mod.kin J rfl sf hs hf hrc hp h1 h2 b.sub ?_
  refine wpAny_mono (wpAny_call (run_fnR (us := [.ref a, .int i t]) (vs := [.ref a, .int i]) F hr pass0 I (.cons rfl (.cons ⟨t, rfl⟩ .nil)) q)) (fun w s' z => ?_) fun _ _ x => x
  obtain ⟨z', H', I', rz, qz⟩ := z
  exact SlX.cmpback rz ⟨z', H', I', rz, qz⟩
def rNegO (C : Addr) (sp : Sp) : V → Hp → VK → Prop := fun x H Q => ∃ a dx fs, x = .ref a ∧ H a = some (.ins C dx fs) ∧ sp [x] H Q E0
theorem un_negO (m : Md X.prog X.w X.K X.mg X.base n C "__neg__" sp) (hr : Room n X.A) : UnR X (unaryOp .USub) (rNegO C sp) := by
  intro pins s σ H x v Q I rx h
  obtain ⟨f, F, hs, hf, _⟩ := m.ex
  obtain ⟨a, dx, fs, rfl, ha, q⟩ := h
  cases (show v = Value.ref a from rx)
  obtain ⟨mA, J, _⟩ := ins_get I.hok ha
  obtain ⟨od, J, _⟩ := J.look
  obtain ⟨m, hF⟩ := I.fr
  refine PySem.W.ksp_neg hF I.ok.mod.kin J hs hf ?_
  refine wpAny_mono (wpAny_call (run_fnR (us := [.ref a]) (vs := [.ref a]) F hr pass0 I (.cons rfl .nil) q)) (fun w s' z => ?_) fun _ _ x => x
  exact z
end
/-- a reading may ask for more -/
theorem pe_imp {X : Cx} {e : Expr} {t t' : TE} (h : PE X e t) (i : ∀ σ H Q, t' σ H Q → t σ H Q) : PE X e t' := ⟨fun pins s σ H Q I q => h.run pins s σ H Q I (i σ H Q q)⟩
structure FnAt (K : PySem.W.Frag) (x : Str) (st : Stmt) : Prop where
  ex : ∃ f fd, Fun K x x st f fd ∧ PySem.W.nsIn K mainGlobals x = some (some (.ref f))
theorem fnAt {K : PySem.W.Frag} {h : Heap} {x : Str} {st : Stmt} {f : Addr} {oc : Value} {od an : Option Addr} {osl : Array (Option Value)} {kV doc pm cdv ct : Value} (_X : K.In h)
    (a : PySem.W.nsIn K mainGlobals x = some (some (.ref f))) (l : K.lookup f = some ⟨oc, od, .func (PySem.W.fnOf x x (defArgs st) (defBody st) (defScope st) .none kV doc pm an cdv ct), osl⟩)
    (c : PySem.W.codeIn K cdv x = true) (k : PySem.W.keepIn K (.ref f) = true) : FnAt K x st := ⟨f, _, fun_mk l c k, a⟩
structure MtAt (K : PySem.W.Frag) (C : Addr) (m m' qual : Str) (st : Stmt) : Prop where
  ex : ∃ f fd, Fun K m qual st f fd ∧ PySem.W.findIn K (.ref C) m' = some (some (.ref f)) ∧ PySem.W.isFn K (.ref f) = true ∧ PySem.W.fnIn K f = true
theorem mtAt {K : PySem.W.Frag} {h : Heap} {C : Addr} {m m' qual : Str} {st : Stmt} {f : Addr} {oc : Value} {od an : Option Addr} {osl : Array (Option Value)} {kV doc pm cdv ct : Value} (_X : K.In h)
    (a : PySem.W.findIn K (.ref C) m' = some (some (.ref f))) (l : K.lookup f = some ⟨oc, od, .func (PySem.W.fnOf m qual (defArgs st) (defBody st) (defScope st) .none kV doc pm an cdv ct), osl⟩)
    (c : PySem.W.codeIn K cdv qual = true) (k : PySem.W.keepIn K (.ref f) = true) (i : PySem.W.isFn K (.ref f) = true) (n : PySem.W.fnIn K f = true) : MtAt K C m m' qual st := ⟨f, _, fun_mk l c k, a, i, n⟩
section
variable {P : Program} {w : World} {K : PySem.W.Frag} {mg : Str → Option Value} {base h : Heap}
theorem cl_of {x : Str} {st : Stmt} {k : Nat} {ps : List Str} {sp : Sp} (a : FnAt K x st) (X : K.In h) (G : h.Ns mainGlobals mg)
    (hb : ∀ (kV doc pm : Value) (an : Option Addr) (cdv ct : Value) (us : List Value), us.length = ps.length → bindArgs (PySem.W.fnOf x x (defArgs st) (defBody st) (defScope st) .none kV doc pm an cdv ct) ⟨us, []⟩ = pure (ps.zip us))
    (ok : ∀ f fd, Fun K x x st f fd → FnOk P w K mg base CX0 k f fd ps sp) : Cl P w K mg base k x ps sp := by
  obtain ⟨f, fd, F, e⟩ := a.ex
  exact ⟨f, fd, ok f fd F, PySem.W.mg_of X G e, F.kp, F.binds hb⟩
theorem md_of {C : Addr} {m m' qual : Str} {st : Stmt} {k : Nat} {ps : List Str} {sp : Sp} (a : MtAt K C m m' qual st)
    (hb : ∀ (kV doc pm : Value) (an : Option Addr) (cdv ct : Value) (us : List Value), us.length = ps.length → bindArgs (PySem.W.fnOf m qual (defArgs st) (defBody st) (defScope st) .none kV doc pm an cdv ct) ⟨us, []⟩ = pure (ps.zip us))
    (ok : ∀ f fd, Fun K m qual st f fd → FnOk P w K mg base CX0 k f fd ps sp) : Md P w K mg base k C m' sp := by
  obtain ⟨f, fd, F, e, i, n⟩ := a.ex
  exact ⟨f, fnR_of (ok f fd F) (F.binds hb), e, i, n⟩
end
end OR

namespace OR
open PySem PySem.Spec PyProof.Rows L2
open AutoSeq1 (wpAny_loadPart')
/-! ### enumerate of a tuple -/
section
variable {prog : Program} {w : World} {A : Around} {E : Value → Shared → Prop} {s : Shared}
theorem nextOf_tup_item {it t : Addr} {i : Nat} {items : Array Value} {x : Value} {Q : Value → Shared → Prop} (hit : s.heap.IsTupleIter it t i) (ht : s.heap.IsTuple t items) (hx : items[i]? = some x)
    (hQ : ∀ h', h'.IsTupleIter it t (i + 1) → Heap.SameBut it s.heap h' → Q x { s with heap := h' }) : wpAny (model prog w) A (Builtin.SmallTypes.nextOf (.ref it)) Q E s := by
  obtain ⟨o, ho, hc, hd⟩ := id hit
  obtain ⟨ol, hol, _, nl, hdl⟩ := ht
  unfold Builtin.SmallTypes.nextOf
  refine wpAny_bind (wpAny_callSpecial?_slot (name := Str.ofString "__next__") hit.typeIs F.slot_tuple_iterator_next (wpAny_call_entry F.slot_tuple_iterator_next hit.typeIs F.entry_tuple_iterator_next ?_ (F.args_tuple_iterator_next_1 _)))
  show wpAny _ _ (field (.ref it) 0 >>= _) _ _ s
  refine wpAny_bind (wpAny_field ho hd (x := .ref t) rfl ?_)
  show wpAny _ _ (if (Value.ref t == Value.none) = true then _ else _) _ _ s
  rw [if_neg (show ¬ ((Value.ref t == Value.none) = true) by exact Bool.false_ne_true)]
  show wpAny _ _ (field (.ref it) 1 >>= _) _ _ s
  refine wpAny_bind (wpAny_field ho hd (x := .int i 0) rfl ?_)
  show wpAny _ _ (seqItems? (.ref t) >>= _) _ _ s
  refine wpAny_bind (wpAny_seqItems hol hdl ?_)
  simp only [Int.toNat_natCast, hx]
  refine wpAny_bind (wpAny_setField ho hd (by simp) (wpAny_pure ⟨x, rfl, wpAny_pure (hQ _ ⟨_, Heap.get?_update_self _ ho (Obj.isFreed_of_fields (Obj.data_mapFields hd _)), (Obj.cls_mapFields ..).trans hc, by
    rw [Obj.data_mapFields hd]; simp [rawInt]⟩ (Heap.SameBut.update ..))⟩))
theorem nextOf_tup_end {it t : Addr} {i : Nat} {items : Array Value} {Q : Value → Shared → Prop} (hh : A.handled = none) (hit : s.heap.IsTupleIter it t i) (ht : s.heap.IsTuple t items) (hx : items[i]? = none)
    (hE : ∀ h' e, Heap.ExtBut it s.heap h' → (∃ o, h'.get? e = some o ∧ o.cls = .type "StopIteration") → E (.ref e) { s with heap := h' }) : wpAny (model prog w) A (Builtin.SmallTypes.nextOf (.ref it)) Q E s := by
  obtain ⟨o, ho, hc, hd⟩ := id hit
  obtain ⟨ol, hol, _, nl, hdl⟩ := ht
  unfold Builtin.SmallTypes.nextOf
  refine wpAny_bind (wpAny_callSpecial?_slot (name := Str.ofString "__next__") hit.typeIs F.slot_tuple_iterator_next (wpAny_call_entry F.slot_tuple_iterator_next hit.typeIs F.entry_tuple_iterator_next ?_ (F.args_tuple_iterator_next_1 _)))
  show wpAny _ _ (field (.ref it) 0 >>= _) _ _ s
  refine wpAny_bind (wpAny_field ho hd (x := .ref t) rfl ?_)
  show wpAny _ _ (if (Value.ref t == Value.none) = true then _ else _) _ _ s
  rw [if_neg (show ¬ ((Value.ref t == Value.none) = true) by exact Bool.false_ne_true)]
  show wpAny _ _ (field (.ref it) 1 >>= _) _ _ s
  refine wpAny_bind (wpAny_field ho hd (x := .int i 0) rfl ?_)
  show wpAny _ _ (seqItems? (.ref t) >>= _) _ _ s
  refine wpAny_bind (wpAny_seqItems hol hdl ?_)
  simp only [Int.toNat_natCast, hx]
  refine wpAny_bind (wpAny_rule (wpAny_bind (wpAny_setField ho hd (by simp) ?_)))
  show wpAny _ _ (newExc (.type "StopIteration") [] >>= _) _ _ _
  refine wpAny_bind ?_
  simp only [newExc, newTuple]
  refine wpAny_bind (wpAny_newObj_type ?_ (by size_fits))
  refine wpAny_bind (m := firstArgMember _ _) (wpAny_of_eq (a := Value.none) (by first | rfl | (simp only [firstArgMember]; rfl)) ?_)
  refine wpAny_newObj_type ?_ (by size_fits)
  simp only [raiseNew]
  refine wpAny_bind (wpAny_handled ?_)
  first | rw [show A.in1.handled = none from hh] | rw [hh]
  refine wpAny_bind (wpAny_pure (wpAny_throw ?_))
  exact hE _ _ (((Heap.SameBut.update ..).extBut.push _).push _) ⟨_, Heap.get?_push_size _ rfl, rfl⟩
theorem draws_tup (hh : A.handled = none) (it t : Addr) (hne : t ≠ it) (items : Array Value) :
    Draws prog w A it [it, t] items.size (fun i v => items[i]? = some v) (fun i h => h.IsTupleIter it t i ∧ h.IsTuple t items) where
  live := fun _ _ st => let ⟨o, ho, _⟩ := st.1; ⟨o, ho⟩
  frame := fun _ _ _ st hk => ⟨let ⟨o, ho, r⟩ := st.1; ⟨o, hk it (by simp) o ho, r⟩, let ⟨o, ho, r⟩ := st.2; ⟨o, hk t (by simp) o ho, r⟩⟩
  item := fun i s Q E hi st hQ => by
    refine nextOf_tup_item st.1 st.2 (x := items[i]) (by simp [hi]) fun h' hit' hs' => ?_
    exact hQ _ h' s.toks (by simp [hi]) ⟨hit', st.2.extBut hs'.extBut hne⟩ hs'
  done := fun s Q E st hE => nextOf_tup_end hh st.1 st.2 (by simp) hE
theorem meets_enum_tup (l : Addr) (items : Array Value) (n : Nat) (dct : Option Addr) (sl : Array (Option Value)) :
    Meets (Builtin.«enumerate.__new__» ⟨[.type "enumerate", .ref l], []⟩) (fun _ R s => s.heap.get? l = some { cls := .type "tuple", dict := dct, data := .seq items n, slots := sl } ∧
      R (.ok (.ret (.ref (s.heap.push { cls := .type "tuple_iterator", data := .fields #[.ref l, .int 0 0] }).objs.size)))
        { s with heap := (s.heap.push { cls := .type "tuple_iterator", data := .fields #[.ref l, .int 0 0] }).push { cls := .type "enumerate", data := .fields #[.none, .bool false, .ref s.heap.objs.size, rawInt 0, .none, .none] } }) :=
  .of_wp fun prog w A R s h => by
    obtain ⟨hp, g, d, tk, os⟩ := s
    obtain ⟨hl, h⟩ := h
    have hsub := sub_enumerate
    have hL : Heap.IsTuple (Shared.heap ⟨hp, g, d, tk, os⟩) l items := ⟨_, hl, rfl, n, rfl⟩
    wp_walk using wpAny_loadPart' hl
    refine wpAny_stack_any fun st => wpAny_pure ?_
    split
    · rename_i c _ _ _ _ _
      cases (c == Value.type "enumerate")
      · wp_walk using wpAny_loadPart' hl, wpAny_pyIter_tuple hL
        exact ⟨_, rfl, h⟩
      · wp_walk using wpAny_loadPart' hl, wpAny_pyIter_tuple hL
        exact ⟨_, rfl, h⟩
    · wp_walk using wpAny_loadPart' hl, wpAny_pyIter_tuple hL
      exact ⟨_, rfl, h⟩
theorem call_enum_tup {l : Addr} {items : Array Value} {Q : Value → Shared → Prop} (hL : s.heap.IsTuple l items)
    (h : ∀ h', IsEnum h' (s.heap.objs.size + 1) s.heap.objs.size 0 .none → h'.IsTupleIter s.heap.objs.size l 0 → h'.objs.size = s.heap.objs.size + 2 →
      (∀ b o, s.heap.get? b = some o → h'.get? b = some o) → Q (.ref (s.heap.objs.size + 1)) { s with heap := h' }) :
    wpAny (model prog w) A (call (.type "enumerate") [.ref l]) Q E s := by
  obtain ⟨⟨c, dct, dt, sl⟩, hl, hc, n, hd⟩ := hL
  replace hc : c = .type "tuple" := hc
  replace hd : dt = .seq items n := hd
  subst hc hd
  refine callType_new F.called_enumerate (by decide) (F.typeCall_enumerate_1 _) (F.newCall_enumerate_1 _) (fun obj => F.args_object_init_2 obj _) F.entry_enumerate_new (meets_enum_tup l items n dct sl) ⟨hl, ?_⟩
  have hz : (s.heap.push { cls := .type "tuple_iterator", data := .fields #[.ref l, .int 0 0] }).objs.size = s.heap.objs.size + 1 := Heap.size_push ..
  show _ ∧ _
  rw [hz]
  have he : IsEnum ((s.heap.push { cls := .type "tuple_iterator", data := .fields #[.ref l, .int 0 0] }).push
      { cls := .type "enumerate", data := .fields #[.none, .bool false, .ref s.heap.objs.size, rawInt 0, .none, .none] }) (s.heap.objs.size + 1) s.heap.objs.size 0 .none := by
    have := Heap.get?_push_size (s.heap.push { cls := .type "tuple_iterator", data := .fields #[.ref l, .int 0 0] })
      (o := { cls := .type "enumerate", data := .fields #[.none, .bool false, .ref s.heap.objs.size, rawInt 0, .none, .none] }) rfl
    rw [hz] at this; exact this
  refine ⟨⟨_, he, rfl⟩, h _ he ⟨_, Heap.get?_push_of_some _ (Heap.get?_push_size _ rfl), rfl, rfl⟩ (by rw [Heap.size_push, hz]) fun b o x => Heap.get?_push_of_some _ (Heap.get?_push_of_some _ x)⟩
end
/-- the tuple at a as it stands at each turn, each item in a new pair -/
def IteT (K : PySem.W.Frag) (a : Addr) : It :=
  ⟨fun i H => ∃ (xs : List V) (x : V), SqT K H a xs ∧ xs[i]? = some x, fun i H v H' => ∃ T x, v = .ref T ∧ H T = none ∧ H' = upd H T (.tup [.int (i : Nat), x]) ∧ ∀ xs, SqT K H a xs → xs[i]? = some x, fun i H => ∃ xs : List V, SqT K H a xs ∧ xs.length ≤ i⟩
theorem turn_enumT {P : Program} {w : World} {K : PySem.W.Frag} {elts : List Expr} {kk : Nat} {tpos : Pos} (a e it : Addr) (hai : a ≠ it) (hea : e ≠ a) :
    Turn P w K (.Tuple elts kk tpos) (IteT K a) [e, it] e (fun i h => (∃ old, IsEnum h e it ((i : Nat) : Int) old) ∧ h.IsTupleIter it a i ∧ e ≠ it) where
  mem := by simp
  obj := fun i h st b hb => by
    obtain ⟨⟨old, he⟩, ⟨o, ho, hc, hd⟩, _⟩ := st
    have e' : b = e ∨ b = it := by simpa using hb
    rcases e' with z | z
    · rw [z]; exact ⟨_, he, fun v q => nomatch q⟩
    · rw [z]; exact ⟨o, ho, fun v q => by rw [hd] at q; cases q⟩
  keep := fun i h h' st k => by
    obtain ⟨⟨old, he⟩, ⟨o, ho, r⟩, hne⟩ := st
    exact ⟨⟨old, k e (by simp) _ he⟩, ⟨o, k it (by simp) o ho, r⟩, hne⟩
  item := by
    intro X hP hw hK hc i pins s σ H E I hf st hg
    subst hP hw hK
    obtain ⟨⟨old, he⟩, hit, hne⟩ := st
    obtain ⟨xs, x, hq, hx⟩ := hg
    obtain ⟨its, rv, p, hz⟩ := I.tuple hq
    obtain ⟨u, hu, ru⟩ := rv.get hx
    have hel : e < s.heap.objs.size := Heap.lt_size he
    have hil : it < s.heap.objs.size := by obtain ⟨_, q, _⟩ := hit; exact Heap.lt_size q
    have hD := draws_tup (prog := X.prog) (w := X.w) (A := X.A.in1) (I.ok.hd hc) it a hai its.toArray
    have hlt : i < its.toArray.size := by
      have := (List.getElem?_eq_some_iff.mp hu).1
      simpa using this
    refine wpAny_pyNext_enum_itemD hD he ⟨hit, show s.heap.IsTuple a its.toArray from p⟩ hlt hne (by simp [hne, hea]) fun y h' tk hy ho hst' hT hsz hk => ?_
    obtain rfl : y = u := by
      have h1 : its[i]? = some y := by simpa using hy
      rw [hu] at h1
      exact (Option.some.inj h1).symm
    refine ⟨_, rfl, wpAny_letOwnedTupleGo_enum (s := { s with heap := h', toks := tk + 1 }) ho fun h'' he' sb => ?_⟩
    have hT2 : h''.get? s.heap.objs.size = some { cls := .type "tuple", data := .seq #[.int i tk, y] } := (sb.2 _ (Nat.ne_of_gt hel)).trans hT
    have new : ObjOk X.prog X.w (upd H s.heap.objs.size (.tup [.int (i : Nat), x])) h'' s.heap.objs.size (.tup [.int (i : Nat), x]) :=
      ⟨by show 2 ≤ sizeLine; decide, [.int i tk, y], .cons ⟨_, rfl⟩ (.cons ru .nil), ⟨_, hT2, rfl, _, rfl⟩⟩
    have I1 : Inv X pins σ (upd H s.heap.objs.size (.tup [.int (i : Nat), x])) { s with heap := h'', toks := tk + 1 } :=
      I.turnedNew (ch := [e, it]) (fun b ob hb q => (sb.2 b (fun z => hb (by simp [z]))).trans (hk b ob (fun z => hb (by simp [z])) (fun z => hb (by simp [z])) q)) hf (Nat.le_refl _) new
    refine ⟨.ref s.heap.objs.size, _, I1, rfl, ⟨_, x, rfl, I.hok.fresh (Nat.le_refl _), rfl, fun ys hy => by rw [I.tuple_inj hy hq]; exact hx⟩, ⟨⟨y, ?_⟩, ?_, hne⟩, fun b hb => ?_⟩
    · have e1 : ((i + 1 : Nat) : Int) = (i : Int) + 1 := by omega
      rw [e1]; exact he'
    · obtain ⟨o, ho', r⟩ := hst'.1
      exact ⟨o, (sb.2 it (Ne.symm hne)).trans ho', r⟩
    · have hb' : b < s.heap.objs.size := by
        have e' : b = e ∨ b = it := by simpa using hb
        rcases e' with z | z
        · rw [z]; exact hel
        · rw [z]; exact hil
      rw [upd_ne (Nat.ne_of_lt hb')]
      exact (hf b hb).1
  done := by
    intro X hP hw hK hc i pins s σ H E I hf st hg
    subst hP hw hK
    obtain ⟨⟨old, he⟩, hit, hne⟩ := st
    obtain ⟨xs, hq, hx⟩ := hg
    obtain ⟨its, rv, p, hz⟩ := I.tuple hq
    obtain ⟨f0, f1, f2, f3, f4, f5⟩ := hf it (by simp)
    have hl := rv.length
    have hT : s.TypeIs (.ref e) "enumerate" := ⟨_, he, rfl⟩
    unfold pyNext
    refine wpAny_bind (wpAny_attempt (wpAny_callSpecial?_slot (name := Str.ofString "__next__") hT F.slot_enumerate_next (wpAny_call_entry F.slot_enumerate_next hT F.entry_enumerate_next ?_ (F.args_enumerate_next_1 _))))
    show wpAny _ _ (field (.ref e) 2 >>= _) _ _ _
    refine wpAny_bind (wpAny_field he rfl (x := .ref it) rfl ?_)
    refine wpAny_bind (nextOf_tup_end (I.ok.hd hc) hit (show s.heap.IsTuple a its.toArray from p) (by simp; omega) fun h' x he' hx' => ?_)
    obtain ⟨o, ho, hc'⟩ := hx'
    refine wpAny_bind (wpAny_isInstance (T := "StopIteration") (b := true) ⟨o, ho, hc'⟩ isSubtype_stop ?_)
    exact wpAny_pure ⟨rfl, I.turned (t' := s.toks) (fun b o hb q => he' b o hb q) f0 f1 f3 f4 f5⟩
  self := fun A i s Q E st h => let ⟨⟨_, he⟩, _⟩ := st; wpAny_pyIter_enum he h
def iEnumT (K : PySem.W.Frag) (ta : TA) : TI := fun σ H R => ta σ H fun vs H1 => ∃ a xs, vs = [.ref a] ∧ SqT K H1 a xs ∧ R (IteT K a) H1
theorem pi_enumT {X : Cx} {e : Expr} {ta : TA} {p pos tpos : Pos} {elts : List Expr} {kk : Nat} (hg : Gl X "enumerate") (hm : X.mg "enumerate" = none) (ha : PA X [e] ta) (hs : starEach [e] X.env = [(false, eval e X.env)] := by rfl) :
    PI X (.Tuple elts kk tpos) (.Call (.Name "enumerate" p) [e] [] pos) (iEnumT X.K ta) := by
  refine ⟨fun pins s σ H R I h => ?_⟩
  refine Call_ (ld_blt I hg hm boot_enumerate (PyProof.Rows.callWith_type1 (thn (ha.run pos pins s σ H _ I h) fun us s1 ⟨vs, H1, I1, r1, q1⟩ => ?_) hs rfl))
  obtain ⟨a, xs, ex, hq, q⟩ := q1
  subst ex
  cases r1 with
  | cons r rr =>
    cases rr
    cases r
    obtain ⟨its, rv, p', hz⟩ := I1.tuple hq
    have pt : s1.heap.IsTuple a its.toArray := p'
    have hal : a < s1.heap.objs.size := by obtain ⟨o, ho, _⟩ := pt; exact Heap.lt_size ho
    refine call_enum_tup pt fun h' he hit hsz hk => wpAny_pyIter_enum he ?_
    have I2 : Inv X pins σ H1 { s1 with heap := h' } := I1.kept (t' := s1.toks) hk
    refine ⟨s1.heap.objs.size + 1, [s1.heap.objs.size + 1, s1.heap.objs.size], _, _, H1, rfl, I2, turn_enumT a (s1.heap.objs.size + 1) s1.heap.objs.size (Nat.ne_of_lt hal) (Nat.ne_of_gt (Nat.lt_succ_of_lt hal)), ⟨⟨.none, he⟩, hit, Nat.succ_ne_self _⟩, fun b hb => ?_, q⟩
    have e' : b = s1.heap.objs.size + 1 ∨ b = s1.heap.objs.size := by simpa using hb
    have hle : s1.heap.objs.size ≤ b := by
      rcases e' with z | z
      · rw [z]; exact Nat.le_add_right _ _
      · rw [z]; exact Nat.le_refl _
    exact I1.fpOk hle (I1.hok.fresh hle)
/-- either reading of what is walked -/
theorem pi_or {X : Cx} {tg iter : Expr} {w1 w2 : TI} (h1 : PI X tg iter w1) (h2 : PI X tg iter w2) : PI X tg iter (fun σ H R => w1 σ H R ∨ w2 σ H R) :=
  ⟨fun pins s σ H R I q => q.elim (h1.run pins s σ H R I) (h2.run pins s σ H R I)⟩
theorem pg_or {X : Cx} {tg : Expr} {g1 g2 : TG} (h1 : PG X tg g1) (h2 : PG X tg g2) : PG X tg (fun v σ H Q => g1 v σ H Q ∨ g2 v σ H Q) :=
  ⟨fun pins s σ H x v Q I r q => q.elim (h1.run pins s σ H x v Q I r) (h2.run pins s σ H x v Q I r)⟩
end OR

namespace OR
abbrev Row := Int × Int
def mem (l : List Row) (x : Int) : Prop := ∃ r ∈ l, r.1 ≤ x ∧ x ≤ r.2
theorem mem_nil (x : Int) : ¬ mem [] x := fun ⟨_, h, _⟩ => nomatch h
theorem mem_cons {r : Row} {l : List Row} {x : Int} : mem (r :: l) x ↔ (r.1 ≤ x ∧ x ≤ r.2) ∨ mem l x := by
  constructor
  · rintro ⟨q, hq, h⟩
    rcases List.mem_cons.mp hq with e | e
    · subst e
      exact .inl h
    · exact .inr ⟨q, e, h⟩
  · rintro (h | ⟨q, hq, h⟩)
    · exact ⟨r, List.mem_cons_self, h⟩
    · exact ⟨q, List.mem_cons_of_mem _ hq, h⟩
theorem mem_append {l m : List Row} {x : Int} : mem (l ++ m) x ↔ mem l x ∨ mem m x := by
  constructor
  · rintro ⟨q, hq, h⟩
    rcases List.mem_append.mp hq with e | e
    · exact .inl ⟨q, e, h⟩
    · exact .inr ⟨q, e, h⟩
  · rintro (⟨q, hq, h⟩ | ⟨q, hq, h⟩)
    · exact ⟨q, List.mem_append_left _ hq, h⟩
    · exact ⟨q, List.mem_append_right _ hq, h⟩
theorem mem_same {l m : List Row} (h : ∀ r, r ∈ l ↔ r ∈ m) (x : Int) : mem l x ↔ mem m x :=
  ⟨fun ⟨q, hq, k⟩ => ⟨q, (h q).mp hq, k⟩, fun ⟨q, hq, k⟩ => ⟨q, (h q).mpr hq, k⟩⟩
theorem mem_reverse {l : List Row} {x : Int} : mem l.reverse x ↔ mem l x := mem_same (fun _ => List.mem_reverse) x
/-- the one form: in order, with a gap between any two -/
structure Nf (l : List Row) : Prop where
  ok : ∀ r ∈ l, r.1 ≤ r.2
  gap : l.Pairwise fun r s => r.2 + 1 < s.1
theorem Nf.nil : Nf [] := ⟨fun _ h => (nomatch h), .nil⟩
theorem Nf.tail {r : Row} {l : List Row} (h : Nf (r :: l)) : Nf l := ⟨fun q hq => h.ok q (List.mem_cons_of_mem _ hq), (List.pairwise_cons.mp h.gap).2⟩
theorem Nf.head {r : Row} {l : List Row} (h : Nf (r :: l)) : r.1 ≤ r.2 := h.ok r List.mem_cons_self
theorem Nf.behind {r : Row} {l : List Row} (h : Nf (r :: l)) {x : Int} (m : mem l x) : r.2 + 1 < x := by
  obtain ⟨q, hq, h1, _⟩ := m
  have := (List.pairwise_cons.mp h.gap).1 q hq
  omega
/-- the one form is told by its places -/
theorem Nf.unique : ∀ {l m : List Row}, Nf l → Nf m → (∀ x, mem l x ↔ mem m x) → l = m
  | [], [], _, _, _ => rfl
  | [], s :: m, _, hm, h => absurd ((h s.1).mpr (mem_cons.mpr (.inl ⟨Int.le_refl _, hm.head⟩))) (mem_nil _)
  | r :: l, [], hl, _, h => absurd ((h r.1).mp (mem_cons.mpr (.inl ⟨Int.le_refl _, hl.head⟩))) (mem_nil _)
  | r :: l, s :: m, hl, hm, h => by
    have lr := hl.head
    have ls := hm.head
    have least : ∀ {x}, mem (r :: l) x → r.1 ≤ x := fun {x} hx => by
      rcases mem_cons.mp hx with k | k
      · exact k.1
      · have := hl.behind k; omega
    have least' : ∀ {x}, mem (s :: m) x → s.1 ≤ x := fun {x} hx => by
      rcases mem_cons.mp hx with k | k
      · exact k.1
      · have := hm.behind k; omega
    have e1 : r.1 = s.1 := by
      have a := least ((h s.1).mpr (mem_cons.mpr (.inl ⟨Int.le_refl _, ls⟩)))
      have b := least' ((h r.1).mp (mem_cons.mpr (.inl ⟨Int.le_refl _, lr⟩)))
      omega
    have nr : ¬ mem (r :: l) (r.2 + 1) := fun k => by
      rcases mem_cons.mp k with k | k
      · omega
      · have := hl.behind k; omega
    have ns : ¬ mem (s :: m) (s.2 + 1) := fun k => by
      rcases mem_cons.mp k with k | k
      · omega
      · have := hm.behind k; omega
    have e2 : r.2 = s.2 := by
      rcases Int.lt_trichotomy r.2 s.2 with k | k | k
      · exact absurd ((h _).mpr (mem_cons.mpr (.inl ⟨by omega, by omega⟩))) nr
      · exact k
      · exact absurd ((h _).mp (mem_cons.mpr (.inl ⟨by omega, by omega⟩))) ns
    have e : r = s := Prod.ext e1 e2
    subst e
    congr 1
    refine Nf.unique hl.tail hm.tail fun x => ⟨fun k => ?_, fun k => ?_⟩
    · have b := hl.behind k
      rcases mem_cons.mp ((h x).mp (mem_cons.mpr (.inr k))) with z | z
      · omega
      · exact z
    · have b := hm.behind k
      rcases mem_cons.mp ((h x).mpr (mem_cons.mpr (.inr k))) with z | z
      · omega
      · exact z
/-- a row more behind rows in one form, which are written backwards -/
def jstep : List Row → Row → List Row
  | [], r => [r]
  | q :: t, r => if r.1 ≤ q.2 + 1 then (q.1, if r.2 > q.2 then r.2 else q.2) :: t else r :: q :: t
def jfold (l : List Row) : List Row := l.foldl jstep []
/-- what the fold keeps: acc stands backwards -/
structure Jn (acc : List Row) (done : List Row) (b : Int) : Prop where
  nf : Nf acc.reverse
  up : ∀ q ∈ acc, q.1 ≤ b
  me : ∀ x, mem acc x ↔ mem done x
theorem nf_snoc {l : List Row} {r : Row} (h : Nf l) (hr : r.1 ≤ r.2) (hg : ∀ q ∈ l, q.2 + 1 < r.1) : Nf (l ++ [r]) := by
  refine ⟨fun q hq => ?_, List.pairwise_append.mpr ⟨h.gap, List.pairwise_singleton _ _, fun a ha b hb => ?_⟩⟩
  · rcases List.mem_append.mp hq with k | k
    · exact h.ok q k
    · rw [List.mem_singleton.mp k]; exact hr
  · rw [List.mem_singleton.mp hb]; exact hg a ha
theorem nf_unsnoc {l : List Row} {r : Row} (h : Nf (l ++ [r])) : Nf l ∧ r.1 ≤ r.2 ∧ ∀ q ∈ l, q.2 + 1 < r.1 := by
  have g := List.pairwise_append.mp h.gap
  exact ⟨⟨fun q hq => h.ok q (List.mem_append_left _ hq), g.1⟩, h.ok r (List.mem_append_right _ (List.mem_singleton.mpr rfl)), fun q hq => g.2.2 q hq r (List.mem_singleton.mpr rfl)⟩
theorem Jn.step {acc done : List Row} {b : Int} {r : Row} (h : Jn acc done b) (hb : b ≤ r.1) (hr : r.1 ≤ r.2) : Jn (jstep acc r) (done ++ [r]) r.1 := by
  have tailm : ∀ x, mem [r] x ↔ (r.1 ≤ x ∧ x ≤ r.2) := fun x => by
    rw [mem_cons]
    exact ⟨fun k => k.elim id fun z => absurd z (mem_nil _), .inl⟩
  cases acc with
  | nil =>
    refine ⟨nf_snoc Nf.nil hr (fun _ z => nomatch z), fun q hq => ?_, fun x => ?_⟩
    · rw [List.mem_singleton.mp hq]; exact Int.le_refl _
    · rw [mem_append, ← h.me x]
      exact ⟨.inr, fun k => k.elim (fun z => absurd z (mem_nil _)) id⟩
  | cons q t =>
    have n := h.nf
    rw [List.reverse_cons] at n
    obtain ⟨nt, hq, gq⟩ := nf_unsnoc n
    have hqr : q.1 ≤ r.1 := Int.le_trans (h.up q List.mem_cons_self) hb
    show Jn (if r.1 ≤ q.2 + 1 then (q.1, if r.2 > q.2 then r.2 else q.2) :: t else r :: q :: t) (done ++ [r]) r.1
    by_cases c : r.1 ≤ q.2 + 1
    · rw [if_pos c]
      refine ⟨?_, fun z hz => ?_, fun x => ?_⟩
      · rw [List.reverse_cons]
        refine nf_snoc nt ?_ fun z hz => gq z hz
        show q.1 ≤ (if r.2 > q.2 then r.2 else q.2)
        split <;> omega
      · rcases List.mem_cons.mp hz with e | e
        · subst e; exact hqr
        · exact Int.le_trans (h.up z (List.mem_cons_of_mem _ e)) hb
      · rw [mem_append, ← h.me x, mem_cons, mem_cons, tailm]
        show ((q.1 ≤ x ∧ x ≤ (if r.2 > q.2 then r.2 else q.2)) ∨ mem t x) ↔ _
        constructor
        · rintro (⟨k1, k2⟩ | k)
          · by_cases hx : x ≤ q.2
            · exact .inl (.inl ⟨k1, hx⟩)
            · split at k2
              · exact .inr ⟨by omega, k2⟩
              · omega
          · exact .inl (.inr k)
        · rintro ((⟨k1, k2⟩ | k) | ⟨k1, k2⟩)
          · refine .inl ⟨k1, ?_⟩
            split <;> omega
          · exact .inr k
          · refine .inl ⟨by omega, ?_⟩
            split <;> omega
    · rw [if_neg c]
      refine ⟨?_, fun z hz => ?_, fun x => ?_⟩
      · rw [List.reverse_cons, List.reverse_cons]
        refine nf_snoc n hr fun z hz => ?_
        rcases List.mem_append.mp hz with k | k
        · have := gq z k; omega
        · rw [List.mem_singleton.mp k]; omega
      · rcases List.mem_cons.mp hz with e | e
        · subst e; exact Int.le_refl _
        · exact Int.le_trans (h.up z e) hb
      · rw [mem_append, ← h.me x, mem_cons, tailm]
        exact ⟨fun k => k.elim .inr .inl, fun k => k.elim .inr .inl⟩
theorem Jn.nil (b : Int) : Jn [] [] b := ⟨Nf.nil, fun _ h => (nomatch h), fun _ => Iff.rfl⟩
/-- the fold over rows that ascend -/
theorem jfold_go : ∀ (l acc done : List Row) (b : Int), Jn acc done b → (∀ r ∈ l, r.1 ≤ r.2) → (∀ r ∈ l, b ≤ r.1) → l.Pairwise (fun r s => r.1 ≤ s.1) → ∃ b', Jn (l.foldl jstep acc) (done ++ l) b'
  | [], acc, done, b, h, _, _, _ => ⟨b, by rw [List.append_nil]; exact h⟩
  | r :: l, acc, done, b, h, ho, hb, hs => by
    have p := List.pairwise_cons.mp hs
    obtain ⟨b', h'⟩ := jfold_go l (jstep acc r) (done ++ [r]) r.1 (h.step (hb r List.mem_cons_self) (ho r List.mem_cons_self)) (fun q hq => ho q (List.mem_cons_of_mem _ hq)) (fun q hq => p.1 q hq) p.2
    exact ⟨b', by rw [List.append_assoc] at h'; exact h'⟩
theorem jfold_ok {l : List Row} (ho : ∀ r ∈ l, r.1 ≤ r.2) (hs : l.Pairwise (fun r s => r.1 ≤ s.1)) : Nf (jfold l).reverse ∧ ∀ x, mem (jfold l).reverse x ↔ mem l x := by
  cases l with
  | nil => exact ⟨Nf.nil, fun _ => Iff.rfl⟩
  | cons r l =>
    have p := List.pairwise_cons.mp hs
    obtain ⟨b', h⟩ := jfold_go (r :: l) [] [] r.1 (Jn.nil _) ho (fun q hq => by
      rcases List.mem_cons.mp hq with e | e
      · subst e; exact Int.le_refl _
      · exact p.1 q e) hs
    exact ⟨h.nf, fun x => by rw [mem_reverse]; exact h.me x⟩
end OR

namespace OR
open PySem PySem.Spec PyProof.Rows L2
/-! ### the code of Places -/
def lastP : Int := 10 ^ 30
def placeB (n : Int) : Bool := decide (0 ≤ n) && decide (n ≤ lastP)
def okRow (r : Row) : Bool := placeB r.1 && (placeB r.2 && decide (r.1 ≤ r.2))
structure PTxt (K : PySem.W.Frag) (mg : Str → Option Value) (C : Addr) : Prop where
  cl : Cls K C
  nS : NoAttr K C "stretches"
  nF : NoAttr K C "_firsts"
  nB : NoAttr K C "_before"
  mgC : mg "Places" = some (.ref C)
  isi : SlX.SIsi K C
  kPP : PySem.W.kitOne K (.ref C) (.ref C) = some true
  zIsi : mg "isinstance" = none
  zInt : mg "int" = none
  zBool : mg "bool" = none
  zTup : mg "tuple" = none
  zList : mg "list" = none
  zLen : mg "len" = none
  zMax : mg "max" = none
  zSort : mg "sorted" = none
  zEnum : mg "enumerate" = none
  last : ∃ t, mg "LAST_PLACE" = some (.int lastP t)
theorem bt_isi : bootBuiltins ("isinstance" : Str) = some (.builtin "isinstance") := by decide +kernel
theorem bt_int : bootBuiltins ("int" : Str) = some (.type "int") := by decide +kernel
theorem bt_bool : bootBuiltins ("bool" : Str) = some (.type "bool") := by decide +kernel
theorem bt_tup : bootBuiltins ("tuple" : Str) = some (.type "tuple") := by decide +kernel
theorem bt_list : bootBuiltins ("list" : Str) = some (.type "list") := by decide +kernel
theorem bt_max : bootBuiltins ("max" : Str) = some (.builtin "max") := by decide +kernel
theorem bt_min : bootBuiltins ("min" : Str) = some (.builtin "min") := by decide +kernel
theorem bt_sorted : bootBuiltins ("sorted" : Str) = some (.builtin "sorted") := by decide +kernel
/-- any value whose type is known -/
def spIsIntG (K : PySem.W.Frag) : Sp := fun vs H Q _ => ∃ (x : V) (T : String) (b1 b2 : Bool), vs = [x] ∧ TyX K H x (.type T) ∧ kitB T "int" = some b1 ∧ kitB T "bool" = some b2 ∧ Q (.bl (b1 && !b2)) H
def spIsPlace (K : PySem.W.Frag) : Sp := fun vs H Q _ => ∃ x, vs = [x] ∧ ((∃ n, x = .int n ∧ Q (.bl (placeB n)) H) ∨ ∃ (T : String) (b1 b2 : Bool), TyX K H x (.type T) ∧ kitB T "int" = some b1 ∧ kitB T "bool" = some b2 ∧ (b1 && !b2) = false ∧ Q (.bl false) H)
/-- a pair of integers, a tuple or a list -/
def PairAt (H : Hp) (a : Addr) (r : Row) : Prop := H a = some (.tup [.int r.1, .int r.2]) ∨ H a = some (.lst [.int r.1, .int r.2])
def spIsStretchP : Sp := fun vs H Q _ => ∃ a r, vs = [.ref a] ∧ PairAt H a r ∧ ∀ H', Same H H' → Q (.bl (okRow r)) H'
section
variable {P : Program} {w : World} {K : PySem.W.Frag} {mg : Str → Option Value} {base : Heap}
theorem scIsI : FnScope ["value"] ["value"] (defScope sIsInt) := ⟨rfl, rfl, rfl, by decide +kernel, rfl, by decide +kernel, by decide +kernel⟩
theorem ok_isintG {f C : Addr} {fd : FuncData} (F : Fun K "is_integer" "is_integer" sIsInt f fd) (T : PTxt K mg C) : FnOk P w K mg base CX0 1 f fd ["value"] (spIsIntG K) := by
  refine F.ok scIsI (fun vs H Q E h => ?_) (fun cdv A outer s H vs Q E hr h => ?_)
  · obtain ⟨x, _, _, _, rfl, _⟩ := h
    rfl
  · obtain ⟨x, ty, b1, b2, rfl, hT, h1, h2, q⟩ := h
    refine ⟨_, pss_one (ps_ret (pe_and (pe_callB call_isi (by rfl) T.zIsi bt_isi (pa_cons (pv 0) (pa_cons (pe_bltn (v := .ty "int") (by rfl) T.zInt bt_int rfl) pa_nil)))
      (pe_one (pe_not (pe_callB call_isi (by rfl) T.zIsi bt_isi (pa_cons (pv 0) (pa_cons (pe_bltn (v := .ty "bool") (by rfl) T.zBool bt_bool rfl) pa_nil))))))), ?_⟩
    refine ⟨_, rfl, x, .ty "int", _, _, b1, rfl, .ty "int", hT, kit_ty h1, b1, rfl, ?_⟩
    cases b1 with
    | true => exact iteT ⟨_, rfl, x, .ty "bool", _, _, b2, rfl, .ty "bool", hT, kit_ty h2, b2, rfl, q⟩
    | false => exact iteF q
theorem scIsP : FnScope ["value"] ["value"] (defScope sIsPlace) := ⟨rfl, rfl, rfl, by decide +kernel, rfl, by decide +kernel, by decide +kernel⟩
theorem ok_isplace {f C : Addr} {fd : FuncData} (F : Fun K "is_place" "is_place" sIsPlace f fd) (T : PTxt K mg C) (I : Cl P w K mg base 1 "is_integer" ["value"] (spIsIntG K)) : FnOk P w K mg base CX0 2 f fd ["value"] (spIsPlace K) := by
  refine F.ok scIsP (fun vs H Q E h => ?_) (fun cdv A outer s H vs Q E hr h => ?_)
  · obtain ⟨x, rfl, _⟩ := h
    rfl
  · obtain ⟨x, rfl, h⟩ := h
    obtain ⟨tl, hl⟩ := T.last
    refine ⟨_, pss_one (ps_ret (pe_and (pe_cl I hr (by decide) (by rfl) (pa_cons (pv 0) pa_nil)) (pe_one (pe_chain op_le op_le pe_int (pv 0) (pe_glob (v := .int lastP) (by rfl) hl ⟨tl, rfl⟩))))), ?_⟩
    rcases h with ⟨n, rfl, q⟩ | ⟨ty, b1, b2, hT, h1, h2, hb, q⟩
    · refine ⟨_, rfl, .int n, "int", true, false, rfl, .base (.int n), by decide +kernel, by decide +kernel, true, rfl, iteT ?_⟩
      refine ⟨_, rfl, _, _, rfl, rfl, _, rfl, ?_⟩
      unfold placeB at q
      cases e : decide ((0 : Int) ≤ n) with
      | true =>
        rw [e] at q
        exact iteT ⟨_, _, rfl, rfl, q⟩
      | false =>
        rw [e] at q
        exact iteF q
    · exact ⟨_, rfl, x, ty, b1, b2, rfl, hT, h1, h2, _, rfl, by rw [hb]; exact iteF q⟩
theorem scIsS : FnScope ["value", "first", "last"] ["value"] (defScope sIsStretch) := ⟨rfl, rfl, rfl, by decide +kernel, rfl, by decide +kernel, by decide +kernel⟩
theorem ok_isstretch {f C : Addr} {fd : FuncData} (F : Fun K "_is_stretch" "_is_stretch" sIsStretch f fd) (T : PTxt K mg C) (I : Cl P w K mg base 2 "is_place" ["value"] (spIsPlace K)) : FnOk P w K mg base CX0 3 f fd ["value"] spIsStretchP := by
  refine F.ok scIsS (fun vs H Q E h => ?_) (fun cdv A outer s H vs Q E hr h => ?_)
  · obtain ⟨a, r, rfl, _⟩ := h
    rfl
  · obtain ⟨a, r, rfl, hp, q⟩ := h
    have nd := scIsS.nd
    refine ⟨_, pss_cons (ps_if (PW.pt (pw_or (pt_not (pt_val (pe_callB call_isiT (by rfl) T.zIsi bt_isi (pa_cons (pv 0) (pa_cons (pe_tup (pa_cons (pe_bltn (v := .ty "tuple") (by rfl) T.zTup bt_tup rfl) (pa_cons (pe_bltn (v := .ty "list") (by rfl) T.zList bt_list rfl) pa_nil))) pa_nil)))))
        (pw_or1 (pt_cmpR op_ne (pe_callB call_len_seq (by rfl) T.zLen PySem.boot_len (pa_cons (pv 0) pa_nil)) pe_int (nomark _))))) (pss_one (ps_ret pe_bl)) pss_nil)
      (pss_cons (ps_asg (pv 0) (pg_or (pg_tup rfl (pgs_cons (pg_name (i := 1) nd rfl (.inl rfl)) (pgs_cons (pg_name (i := 2) nd rfl (.inl rfl)) pgs_nil))) (pg_unl rfl (pgs_cons (pg_name (i := 1) nd rfl (.inl rfl)) (pgs_cons (pg_name (i := 2) nd rfl (.inl rfl)) pgs_nil)))))
      (pss_one (ps_ret (pe_and (pe_cl I hr (by decide) (by rfl) (pa_cons (pv 1) pa_nil)) (pe_and (pe_cl I hr (by decide) (by rfl) (pa_cons (pv 2) pa_nil)) (pe_one (pe_cmpR op_le (pv 1) (pv 2) (nomark _)))))))), ?_⟩
    refine ⟨_, rfl, by show 2 ≤ sizeLine; decide, fun t ht => ?_⟩
    have S1 : Same H (upd H t (.tup [.ty "tuple", .ty "list"])) := fun b o e => by rw [upd_ne (ne_of_none e ht)]; exact e
    have hp1 : PairAt (upd H t (.tup [.ty "tuple", .ty "list"])) a r := hp.elim (fun e => .inl (S1 _ _ e)) fun e => .inr (S1 _ _ e)
    have hseq : SqL K (upd H t (.tup [.ty "tuple", .ty "list"])) a [.int r.1, .int r.2] ∨ SqT K (upd H t (.tup [.ty "tuple", .ty "list"])) a [.int r.1, .int r.2] := hp1.elim (fun e => .inr (.inl (.inl e))) fun e => .inl (.inl (.inl e))
    have hty : ∃ T, TyX K (upd H t (.tup [.ty "tuple", .ty "list"])) (.ref a) (.type T) ∧ PySem.W.kitAny K (.type T) [.type "tuple", .type "list"] = some true := by
      rcases hp1 with e | e
      · exact ⟨"tuple", .base (.tup e), kitAny_cons (kit_ty (b := "tuple") (r := true) (by decide +kernel)) (fun z => nomatch z) fun _ => rfl⟩
      · exact ⟨"list", .base (.lst e), kitAny_cons (kit_ty (b := "tuple") (r := false) (by decide +kernel)) (fun _ => kitAny_cons (kit_ty (b := "list") (r := true) (by decide +kernel)) (fun z => nomatch z) fun _ => rfl) fun z => nomatch z⟩
    obtain ⟨ty, hT, hk⟩ := hty
    refine ⟨.ref a, t, _, .type ty, [.type "tuple", .type "list"], true, rfl, upd_same, .cons (.ty "tuple") (.cons (.ty "list") .nil), hT, hk, true, rfl, iteF ?_⟩
    refine ⟨_, rfl, a, _, rfl, hseq, rfl, _, rfl, iteNS rfl ?_⟩
    have fin : ∀ (Q' : Prop), (Q (.bl (okRow r)) (upd H t (.tup [.ty "tuple", .ty "list"])) → Q') → Q' := fun Q' k => k (q _ S1)
    have tail : ∀ σ : L2.St, σ = [some (.ref a), some (.int r.1), some (.int r.2)] → (tRet (tAndV (tCall (spIsPlace K) [] E0 (tCons (tVar 1) tNil)) (tAndV (tCall (spIsPlace K) [] E0 (tCons (tVar 2) tNil)) (tOp (rI0 fun i j => .bl (decide (i ≤ j))) (tVar 1) (tVar 2))))) { nx := fun _ H' => Q .non H', rt := Q } σ (upd H t (.tup [.ty "tuple", .ty "list"])) := by
      intro σ e
      subst e
      refine ⟨_, rfl, _, rfl, .inl ⟨r.1, rfl, _, rfl, ?_⟩⟩
      have q1 := q _ S1
      unfold okRow at q1
      cases e1 : placeB r.1 with
      | false => rw [e1] at q1; exact iteF q1
      | true =>
        rw [e1] at q1
        refine iteT ⟨_, rfl, _, rfl, .inl ⟨r.2, rfl, _, rfl, ?_⟩⟩
        cases e2 : placeB r.2 with
        | false => rw [e2] at q1; exact iteF q1
        | true =>
          rw [e2] at q1
          exact iteT ⟨_, rfl, _, rfl, _, _, rfl, rfl, q1⟩
    rcases hp1 with e | e
    · exact ⟨_, rfl, .inl ⟨a, _, rfl, .inl (.inl e), rfl, _, _, rfl, _, _, rfl, rfl, tail _ rfl⟩⟩
    · exact ⟨_, rfl, .inr ⟨a, _, rfl, .inl (.inl e), rfl, _, _, rfl, _, _, rfl, rfl, tail _ rfl⟩⟩
end
end OR

namespace OR
open PySem PySem.Spec PyProof.Rows L2
/-- all but what stands at p is as it was -/
def Fre (p : Addr) (H H' : Hp) : Prop := ∀ b o, H b = some o → b ≠ p → H' b = some o
theorem Fre.refl (p : Addr) (H : Hp) : Fre p H H := fun _ _ h _ => h
theorem Fre.trans {p : Addr} {H H1 H2 : Hp} (a : Fre p H H1) (b : Fre p H1 H2) : Fre p H H2 := fun c o h n => b c o (a c o h n) n
theorem Fre.put {p : Addr} {H : Hp} {o : HO} : Fre p H (upd H p o) := fun b x e n => by rw [upd_ne n]; exact e
/-! ### rows of pairs in the heap -/
abbrev ARow := Addr × Row
def refs (L : List ARow) : List V := L.map fun p => V.ref p.1
def rws (L : List ARow) : List Row := L.map (·.2)
def AtR (H : Hp) (L : List ARow) : Prop := ∀ p ∈ L, H p.1 = some (.tup [.int p.2.1, .int p.2.2])
def PairsAt (H : Hp) (L : List ARow) : Prop := ∀ p ∈ L, PairAt H p.1 p.2
theorem AtR.same {H H' : Hp} {L : List ARow} (h : AtR H L) (s : Same H H') : AtR H' L := fun p hp => s _ _ (h p hp)
theorem PairsAt.same {H H' : Hp} {L : List ARow} (h : PairsAt H L) (s : Same H H') : PairsAt H' L := fun p hp => (h p hp).elim (fun e => .inl (s _ _ e)) fun e => .inr (s _ _ e)
theorem AtR.pairs {H : Hp} {L : List ARow} (h : AtR H L) : PairsAt H L := fun p hp => .inl (h p hp)
theorem refs_len (L : List ARow) : (refs L).length = L.length := List.length_map ..
theorem rws_len (L : List ARow) : (rws L).length = L.length := List.length_map ..
theorem refs_snoc (L : List ARow) (p : ARow) : refs (L ++ [p]) = refs L ++ [.ref p.1] := by unfold refs; rw [List.map_append]; rfl
theorem rws_snoc (L : List ARow) (p : ARow) : rws (L ++ [p]) = rws L ++ [p.2] := by unfold rws; rw [List.map_append]; rfl
theorem refs_get {L : List ARow} {i : Nat} {v : V} (h : (refs L)[i]? = some v) : ∃ p, L[i]? = some p ∧ p ∈ L ∧ v = .ref p.1 := by
  unfold refs at h
  rw [List.getElem?_map] at h
  cases e : L[i]? with
  | none => rw [e] at h; cases h
  | some p => rw [e] at h; exact ⟨p, rfl, List.mem_of_getElem? e, (Option.some.inj h).symm⟩
theorem rws_get {L : List ARow} {i : Nat} {p : ARow} (h : L[i]? = some p) : (rws L)[i]? = some p.2 := by
  unfold rws
  rw [List.getElem?_map, h]
  rfl
theorem mem_rws {L : List ARow} {r : Row} : r ∈ rws L ↔ ∃ a, (a, r) ∈ L := by
  unfold rws
  rw [List.mem_map]
  exact ⟨fun ⟨p, hp, e⟩ => ⟨p.1, by rw [← e]; exact hp⟩, fun ⟨a, h⟩ => ⟨(a, r), h, rfl⟩⟩
/-- what a reference to a pair is worth -/
def kOf (H : Hp) : V → Int × Int
  | .ref a => match H a with
    | some (.tup [.int x, .int y]) => (x, y)
    | _ => (0, 0)
  | _ => (0, 0)
theorem kOf_at {H : Hp} {a : Addr} {x y : Int} (h : H a = some (.tup [.int x, .int y])) : kOf H (.ref a) = (x, y) := by
  show (match H a with
    | some (.tup [.int x, .int y]) => (x, y)
    | _ => (0, 0)) = (x, y)
  rw [h]
def adr : V → Addr
  | .ref a => a
  | _ => 0
/-- an arrangement of references is one of rows -/
theorem refs_perm {H : Hp} {M : List ARow} {ys : List V} (hM : AtR H M) (hp : ys.Perm (refs M)) : ∃ S : List ARow, ys = refs S ∧ AtR H S ∧ (∀ r, r ∈ rws S ↔ r ∈ rws M) ∧ S.length = M.length ∧ rws S = ys.map (kOf H) := by
  have each : ∀ y ∈ ys, ∃ p ∈ M, y = .ref p.1 ∧ kOf H y = p.2 := fun y hy => by
    have := hp.mem_iff.mp hy
    unfold refs at this
    obtain ⟨p, hpM, e⟩ := List.mem_map.mp this
    subst e
    exact ⟨p, hpM, rfl, kOf_at (hM p hpM)⟩
  have back : ∀ p ∈ M, V.ref p.1 ∈ ys := fun p hpM => hp.mem_iff.mpr (List.mem_map.mpr ⟨p, hpM, rfl⟩)
  refine ⟨ys.map fun y => (adr y, kOf H y), ?_, ?_, fun r => ?_, ?_, ?_⟩
  · unfold refs
    rw [List.map_map]
    refine Eq.trans (List.map_id ys).symm (List.map_congr_left fun y hy => ?_)
    obtain ⟨p, _, rfl, _⟩ := each y hy
    rfl
  · intro q hq
    obtain ⟨y, hy, e⟩ := List.mem_map.mp hq
    obtain ⟨p, hpM, rfl, k⟩ := each y hy
    subst e
    show H p.1 = some (.tup [.int (kOf H (.ref p.1)).1, .int (kOf H (.ref p.1)).2])
    rw [k]
    exact hM p hpM
  · unfold rws
    rw [List.map_map, List.mem_map, List.mem_map]
    constructor
    · rintro ⟨y, hy, e⟩
      obtain ⟨p, hpM, rfl, k⟩ := each y hy
      exact ⟨p, hpM, by rw [← e]; exact k.symm⟩
    · rintro ⟨p, hpM, e⟩
      exact ⟨.ref p.1, back p hpM, by rw [← e]; exact kOf_at (hM p hpM)⟩
  · rw [List.length_map, hp.length_eq, refs_len]
  · unfold rws
    rw [List.map_map]
    rfl
theorem jstep_len : ∀ (acc : List Row) (r : Row), (jstep acc r).length ≤ acc.length + 1
  | [], r => Nat.le_refl _
  | q :: t, r => by
    show (if r.1 ≤ q.2 + 1 then (q.1, if r.2 > q.2 then r.2 else q.2) :: t else r :: q :: t).length ≤ _
    split
    · exact Nat.le_succ _
    · exact Nat.le_refl _
theorem jfold_len : ∀ (l acc : List Row), (l.foldl jstep acc).length ≤ acc.length + l.length
  | [], acc => Nat.le_refl _
  | r :: l, acc => by
    have h1 := jfold_len l (jstep acc r)
    have h2 := jstep_len acc r
    show (l.foldl jstep (jstep acc r)).length ≤ _
    rw [List.length_cons]
    omega
theorem ixN_last (n : Nat) : ixN (n + 1) (-1) = some n := by
  unfold ixN
  rw [if_neg (by omega), if_pos (by omega)]
  congr 1
  omega
theorem set_last (xs : List V) (v u : V) : (xs ++ [v]).set xs.length u = xs ++ [u] := by
  rw [List.set_append_right _ _ (Nat.le_refl _), Nat.sub_self]
  rfl
def rTupOf (K : PySem.W.Frag) : List V → Hp → VK → Prop := fun xs H Q => ∃ p ys, xs = [.ref p] ∧ ((SqL K H p ys ∧ ∀ l, H l = none → Q (.ref l) (upd H l (.tup ys))) ∨ (SqT K H p ys ∧ Q (.ref p) H))
theorem call_tupOf {X : Cx} (K : PySem.W.Frag) (h : X.K = K) : CallR X (.type "tuple") (rTupOf K) := by
  subst h
  exact call_tuple_of
theorem yesT {σ : L2.St} {H : Hp} {A B : Hp → Prop} (h : A H) : tYes σ H (fun b H3 => if b = true then A H3 else B H3) := by
  show if true = true then A H else B H
  rw [if_pos rfl]
  exact h
theorem same_upd {H H' : Hp} {b : Addr} {u : HO} (s : Same H H') (h : H b = none) : Same H (upd H' b u) := fun c v e => by rw [upd_ne (ne_of_none e h)]; exact s c v e
theorem same_lay {H : Hp} {q : Addr} {o : HO} (h : H q = none) : Same H (upd H q o) := fun b x e => by rw [upd_ne (ne_of_none e h)]; exact e
theorem sameT {K : PySem.W.Frag} {H H' : Hp} {a : Addr} {xs : List V} (e : Same H H') (h : SqT K H a xs) : SqT K H' a xs := by
  rcases h with (h | ⟨o, h⟩) | h
  · exact .inl (.inl (e _ _ h))
  · exact .inl (.inr ⟨o, e _ _ h⟩)
  · exact .inr h
def spJoined (K : PySem.W.Frag) : Sp := fun vs H Q _ => ∃ (a : Addr) (L : List ARow), vs = [.ref a] ∧ (SqL K H a (refs L) ∨ SqT K H a (refs L)) ∧ L.length ≤ 1000 ∧ PairsAt H L ∧ (∀ r ∈ rws L, r.1 ≤ r.2) ∧
  ∀ (t : Addr) (M : List ARow) (H' : Hp), Same H H' → H t = none → H' t = some (.tup (refs M)) → AtR H' M → Nf (rws M) → (∀ x, mem (rws M) x ↔ mem (rws L) x) → M.length ≤ L.length → Q (.ref t) H'
section
variable {P : Program} {w : World} {K : PySem.W.Frag} {mg : Str → Option Value} {base : Heap}
theorem scJ : FnScope ["stretches", "rows", "first", "last", "stretch"] ["stretches"] (defScope sJoined) := ⟨rfl, rfl, rfl, by decide +kernel, rfl, by decide +kernel, by decide +kernel⟩
theorem small_l {n : Nat} (h : n ≤ 1000) : n ≤ sizeLine := Nat.le_of_lt (small1000 h)
theorem ok_joined {f C : Addr} {fd : FuncData} (F : Fun K "_joined" "_joined" sJoined f fd) (T : PTxt K mg C) : FnOk P w K mg base CX0 1 f fd ["stretches"] (spJoined K) := by
  refine F.ok scJ (fun vs H Q E h => ?_) (fun cdv A outer s H vs Q E hr h => ?_)
  · obtain ⟨a, L, rfl, _⟩ := h
    rfl
  · obtain ⟨a, L, rfl, hS, hlen, hP, hok, q⟩ := h
    have nd := scJ.nd
    refine ⟨_, pss_cons (ps_set (i := 1) nd rfl (.inl rfl) (pe_lst pa_nil))
      (pss_cons (ps_for PassesOwn.never rfl (pi_list (pe_callB cr_sortedPO (by rfl) T.zSort bt_sorted (pa_cons
            (pe_lc (own := [("stretch", 4)]) (g := gName 4) (tt := tYes) rfl nd (pi_or (pi_list (pv 0)) (pi_tup (pv 0))) (blkOk_by (N := ["stretches", "rows", "first", "last", "stretch"]) (sc := defScope sJoined) (by decide +kernel))
              (fun _ _ _ _ _ => pg_name (i := 4) nd rfl (.inl rfl)) (fun _ _ _ _ _ => pts_nil) (fun _ _ _ _ _ => pe_callTy (call_tupOf K rfl) (by rfl) T.zTup bt_tup (pa_cons (pv 4) pa_nil))) pa_nil)))
          (pg_tup rfl (pgs_cons (pg_name (i := 2) nd rfl (.inl rfl)) (pgs_cons (pg_name (i := 3) nd rfl (.inl rfl)) pgs_nil)))
        (pss_one (ps_if (PW.pt (pw_and (pt_truth (pv 1) (by intro _; rfl)) (pw_and1 (pt_cmpR op_le (pv 2) (pe_op op_add (pe_ix ix_tup (pe_ix ix_list (pv 1) (pe_un un_neg pe_int) (fun _ _ => rfl)) pe_int (fun _ _ => rfl)) pe_int) (nomark _)))))
          (pss_one (ps_asg (pe_tup (pa_cons (pe_ix ix_tup (pe_ix ix_list (pv 1) (pe_un un_neg pe_int) (fun _ _ => rfl)) pe_int (fun _ _ => rfl))
              (pa_cons (pe_callB (call_max2 rfl) (by rfl) T.zMax bt_max (pa_cons (pe_ix ix_tup (pe_ix ix_list (pv 1) (pe_un un_neg pe_int) (fun _ _ => rfl)) pe_int (fun _ _ => rfl)) (pa_cons (pv 3) pa_nil))) pa_nil)))
            (pg_sub (pv 1) (pe_un un_neg pe_int) set_list)))
          (pss_one (ps_expr (pe_bm PySem.F.plainAttrs_list PySem.F.slot_list_append PySem.F.type_list_append mt_append (pv 1) (pa_cons (pe_tup (pa_cons (pv 2) (pa_cons (pv 3) pa_nil))) pa_nil)))))))
      (pss_one (ps_ret (pe_callTy call_tuple_of (by rfl) T.zTup bt_tup (pa_cons (pv 1) pa_nil))))), ?_⟩
    refine ⟨Nat.zero_le _, fun o no => ?_⟩
    have S1 : Same H (upd H o (.lst [])) := fun b u e => by rw [upd_ne (ne_of_none e no)]; exact e
    rcases hS with hS | hS
    · refine .inl ⟨_, rfl, a, rfl, ⟨_, S1.seq hS⟩, fun D hD => lc_list (K := K) (a := a) (xs := refs L) (fun i H2 => ∃ M : List ARow, H2 D = some (.lst (refs M)) ∧ AtR H2 M ∧ rws M = (rws L).take i ∧ Same (upd H o (.lst [])) H2)
        ⟨[], upd_same, (fun _ z => nomatch z), rfl, same_lay hD⟩ (fun i H2 _ ⟨_, _, _, _, s⟩ => s.seq (S1.seq hS)) ?_ ?_⟩
      · intro i x H2 hx hI
        obtain ⟨M, hD2, hM, eM, s2⟩ := hI
        obtain ⟨p, hp, hpL, rfl⟩ := refs_get hx
        have hil : i < L.length := (List.getElem?_eq_some_iff.mp hp).1
        have hlM : M.length = i := by
          rw [← rws_len M, eM, List.length_take, rws_len]
          omega
        have e1 : (rws L).take (i + 1) = (rws L).take i ++ [p.2] := by rw [List.take_add_one, rws_get hp]; rfl
        have nDp : ∀ q ∈ M, q.1 ≠ D := fun q hq => ne_of (hM q hq) hD2 (by intro z; cases z)
        refine ⟨rfl, yesT ?_⟩
        refine ⟨_, rfl, p.1, [.int p.2.1, .int p.2.2], rfl, ?_⟩
        rcases hP p hpL with e | e
        · have e3 := s2 _ _ (S1 _ _ e)
          refine .inr ⟨.inl (.inl e3), refs M, hD2, small1000 (by rw [refs_len, hlM]; omega), M ++ [p], ?_, ?_, ?_, same_upd s2 hD⟩
          · rw [upd_same, refs_snoc]
          · intro q hq
            rcases List.mem_append.mp hq with k | k
            · rw [upd_ne (nDp q k)]; exact hM q k
            · rw [List.mem_singleton.mp k, upd_ne (ne_of e3 hD2 (by intro z; cases z))]; exact e3
          · rw [rws_snoc, eM, e1]
        · have e3 := s2 _ _ (S1 _ _ e)
          refine .inl ⟨.inl (.inl e3), fun l hl => ?_⟩
          have nDl : D ≠ l := ne_of_none hD2 hl
          have s3 := same_lay (o := .tup [.int p.2.1, .int p.2.2]) hl
          refine ⟨refs M, s3 _ _ hD2, small1000 (by rw [refs_len, hlM]; omega), M ++ [(l, p.2)], ?_, ?_, ?_, same_upd (s2.trans s3) hD⟩
          · rw [upd_same, refs_snoc]
          · intro q hq
            rcases List.mem_append.mp hq with k | k
            · rw [upd_ne (nDp q k)]; exact s3 _ _ (hM q k)
            · rw [List.mem_singleton.mp k, upd_ne nDl.symm, upd_same]
          · rw [rws_snoc, eM, e1]
      · intro H2 hI
        obtain ⟨M, hD2, hM, eM, s2⟩ := hI
        rw [refs_len, List.take_of_length_le (by rw [rws_len]; exact Nat.le_refl _)] at eM
        have no2 : H2 o = some (.lst []) := s2 _ _ upd_same
        have lM : M.length = L.length := by rw [← rws_len M, eM, rws_len]
        -- sorted
        refine ⟨D, refs M, kOf H2, rfl, .inl (.inl hD2), fun y hy => ?_, fun ys p hs hb np => ?_⟩
        · unfold refs at hy
          obtain ⟨z, hz, rfl⟩ := List.mem_map.mp hy
          exact ⟨z.1, rfl, by rw [kOf_at (hM z hz)]; exact hM z hz⟩
        obtain ⟨S, rfl, hSA, hSm, hSl, hSk⟩ := refs_perm hM hb.perm
        have hso : (rws S).Pairwise fun r s => r.1 ≤ s.1 := by
          rw [hSk]
          refine List.pairwise_map.mpr (hs.imp fun {x y} hxy => ?_)
          have := SrtO.lexB_no.mp hxy
          omega
        have hSok : ∀ r ∈ rws S, r.1 ≤ r.2 := fun r hr => hok r (by rw [← eM]; exact (hSm r).mp hr)
        obtain ⟨hnf, hme⟩ := jfold_ok hSok hso
        have s3 := same_lay (o := .lst (refs S)) np
        have nop : o ≠ p := ne_of_none no2 np
        refine ⟨p, rfl, ⟨_, .inl (.inl upd_same)⟩, for_list (K := K) (a := p) (xs := refs S) (fun i σ H' => ∃ f l, ∃ A : List ARow, σ = [some (.ref a), some (.ref o), f, l, none] ∧ H' o = some (.lst (refs A)) ∧ AtR H' A ∧ rws A = (((rws S).take i).foldl jstep []).reverse ∧ Fre o (upd H2 p (.lst (refs S))) H' ∧ A.length ≤ i)
          ⟨none, none, [], rfl, by rw [upd_ne nop]; exact no2, (fun _ z => nomatch z), rfl, Fre.refl _ _, Nat.le_refl _⟩ (fun i σ H' _ ⟨_, _, _, _, _, _, _, fr, _⟩ => .inl (.inl (fr _ _ upd_same nop.symm))) ?_ ?_⟩
        · rintro i y σ H' hy ⟨f, l, A, rfl, hoA, hA, eA, fr, hAl⟩
          obtain ⟨z, hz, hzS, rfl⟩ := refs_get hy
          have hil : i < S.length := (List.getElem?_eq_some_iff.mp hz).1
          have ez : H' z.1 = some (.tup [.int z.2.1, .int z.2.2]) := fr _ _ (s3 _ _ (hSA z hzS)) (ne_of (hSA z hzS) no2 (by intro q; cases q))
          have e1 : ((rws S).take (i + 1)).foldl jstep [] = jstep (((rws S).take i).foldl jstep []) z.2 := by
            rw [List.take_add_one, rws_get hz, List.foldl_append]
            rfl
          have nAo : ∀ q ∈ A, q.1 ≠ o := fun q hq => ne_of (hA q hq) hoA (by intro w; cases w)
          refine ⟨z.1, _, rfl, .inl (.inl ez), rfl, _, _, rfl, _, _, rfl, rfl, ?_⟩
          refine ⟨_, rfl, !(refs A).isEmpty, .inl ⟨refs A, .inl (.inl hoA), rfl⟩, ?_⟩
          -- the row goes to the end
          have app : ∀ (hj : jstep (((rws S).take i).foldl jstep []) z.2 = z.2 :: ((rws S).take i).foldl jstep []) (T : Addr), H' T = none →
              ∃ f' l', ∃ A' : List ARow, [some (V.ref a), some (.ref o), some (.int z.2.1), some (.int z.2.2), none] = [some (.ref a), some (.ref o), f', l', none] ∧ (upd (upd H' T (.tup [.int z.2.1, .int z.2.2])) o (.lst (refs A ++ [.ref T]))) o = some (.lst (refs A')) ∧ AtR (upd (upd H' T (.tup [.int z.2.1, .int z.2.2])) o (.lst (refs A ++ [.ref T]))) A' ∧
                rws A' = (((rws S).take (i + 1)).foldl jstep []).reverse ∧ Fre o (upd H2 p (.lst (refs S))) (upd (upd H' T (.tup [.int z.2.1, .int z.2.2])) o (.lst (refs A ++ [.ref T]))) ∧ A'.length ≤ i + 1 := by
            intro hj Tn hT
            have s4 := same_lay (o := .tup [.int z.2.1, .int z.2.2]) hT
            have noT : Tn ≠ o := by
              intro e
              rw [e] at hT
              rw [hT] at hoA
              cases hoA
            refine ⟨_, _, A ++ [(Tn, z.2)], rfl, by rw [upd_same, refs_snoc], ?_, ?_, (fr.trans (fun b u e _ => s4 b u e)).trans Fre.put, by rw [List.length_append]; exact Nat.succ_le_succ hAl⟩
            · intro q hq
              rcases List.mem_append.mp hq with k | k
              · rw [upd_ne (nAo q k)]; exact s4 _ _ (hA q k)
              · rw [List.mem_singleton.mp k, upd_ne noT, upd_same]
            · rw [rws_snoc, eA, e1, hj, List.reverse_cons]
          have alen : (refs A).length < sizeLine := small1000 (by rw [refs_len]; omega)
          have two : 2 ≤ sizeLine := by decide
          cases hacc : ((rws S).take i).foldl jstep [] with
          | nil =>
            have eA0 : A = [] := by
              rw [hacc] at eA
              exact List.map_eq_nil_iff.mp eA
            refine ite2 (fun k => ?_) (fun _ => iteF ?_)
            · rw [eA0] at k
              exact absurd k (by decide)
            · refine ⟨_, rfl, .inl ⟨rfl, _, .inl (.inl hoA)⟩, _, rfl, _, rfl, two, fun Tn hT => ?_⟩
              refine ⟨o, refs A, _, rfl, rfl, same_lay hT _ _ hoA, alen, ?_⟩
              exact app (by rw [hacc]; rfl) Tn hT
          | cons q0 t0 =>
            have eA1 : rws A = t0.reverse ++ [q0] := by rw [eA, hacc, List.reverse_cons]
            obtain ⟨B, A2, rfl, eB, eA2⟩ := List.map_eq_append_iff.mp eA1
            obtain ⟨⟨aq, q1⟩, A3, rfl, eq1, eA3⟩ := List.map_eq_cons_iff.mp eA2
            obtain rfl := List.map_eq_nil_iff.mp eA3
            obtain rfl : q1 = q0 := eq1
            have haq : H' aq = some (.tup [.int q1.1, .int q1.2]) := hA (aq, q1) (List.mem_append_right _ (List.mem_singleton.mpr rfl))
            rw [refs_snoc] at hoA
            have hSo : SqL K H' o (refs B ++ [.ref aq]) := .inl (.inl hoA)
            have hSq : SqT K H' aq [.int q1.1, .int q1.2] := .inl (.inl haq)
            have g0 : atI [V.int q1.1, .int q1.2] 0 = some (.int q1.1) := atI_nat (j := 0) rfl
            have g1 : atI [V.int q1.1, .int q1.2] 1 = some (.int q1.2) := atI_nat (j := 1) rfl
            have gl : atI (refs B ++ [V.ref aq]) (-1) = some (.ref aq) := atI_last _ _
            refine ite2 (fun _ => ?_) (fun k => ?_)
            · refine ⟨_, rfl, _, rfl, 1, rfl, o, _, -1, _, rfl, rfl, hSo, gl, aq, _, 1, _, rfl, rfl, hSq, g1, _, _, rfl, rfl, _, _, rfl, rfl, _, rfl, ite2 (fun c => ?_) (fun c => ?_)⟩
              · have hc : z.2.1 ≤ q1.2 + 1 := of_decide_eq_true c
                refine ⟨_, rfl, 1, rfl, o, _, -1, _, rfl, rfl, hSo, gl, aq, _, 0, _, rfl, rfl, hSq, g0, _, rfl, 1, rfl, o, _, -1, _, rfl, rfl, hSo, gl, aq, _, 1, _, rfl, rfl, hSq, g1, _, rfl, _, _, rfl, two, fun Tn hT => ?_⟩
                have s4 := same_lay (o := .tup [.int q1.1, .int (if z.2.2 > q1.2 then z.2.2 else q1.2)]) hT
                have noT : Tn ≠ o := by
                  intro e
                  rw [e] at hT
                  rw [hT] at hoA
                  cases hoA
                have ixe : ixN (refs B ++ [V.ref aq]).length (-1) = some (refs B).length := by
                  rw [List.length_append]
                  exact ixN_last _
                refine ⟨_, rfl, 1, rfl, o, _, -1, _, rfl, rfl, s4 _ _ hoA, ixe, ?_⟩
                refine ⟨_, _, B ++ [(Tn, (q1.1, if z.2.2 > q1.2 then z.2.2 else q1.2))], rfl, by rw [upd_same, set_last, refs_snoc], ?_, ?_, (fr.trans (fun b u e _ => s4 b u e)).trans Fre.put, ?_⟩
                · intro q hq
                  rcases List.mem_append.mp hq with k | k
                  · rw [upd_ne (nAo q (List.mem_append_left _ k))]; exact s4 _ _ (hA q (List.mem_append_left _ k))
                  · rw [List.mem_singleton.mp k, upd_ne noT, upd_same]
                · rw [rws_snoc, e1, hacc]
                  show rws B ++ [(q1.1, if z.2.2 > q1.2 then z.2.2 else q1.2)] = (if z.2.1 ≤ q1.2 + 1 then (q1.1, if z.2.2 > q1.2 then z.2.2 else q1.2) :: t0 else z.2 :: q1 :: t0).reverse
                  rw [if_pos hc, List.reverse_cons]
                  exact congrArg (· ++ [(q1.1, if z.2.2 > q1.2 then z.2.2 else q1.2)]) eB
                · rw [List.length_append] at hAl ⊢
                  exact Nat.le_succ_of_le hAl
              · have hc : ¬ z.2.1 ≤ q1.2 + 1 := fun w => c (decide_eq_true w)
                refine ⟨_, rfl, .inl ⟨rfl, _, .inl (.inl hoA)⟩, _, rfl, _, rfl, two, fun Tn hT => ?_⟩
                refine ⟨o, _, _, rfl, rfl, same_lay hT _ _ hoA, by rw [← refs_snoc]; exact alen, ?_⟩
                rw [← refs_snoc]
                refine app ?_ Tn hT
                rw [hacc]
                show (if z.2.1 ≤ q1.2 + 1 then (q1.1, if z.2.2 > q1.2 then z.2.2 else q1.2) :: t0 else z.2 :: q1 :: t0) = z.2 :: q1 :: t0
                rw [if_neg hc]
            · exfalso
              apply k
              rw [refs_snoc]
              simp
        · rintro σ H' ⟨f, l, A, rfl, hoA, hA, eA, fr, hAl⟩
          rw [refs_len, List.take_of_length_le (by rw [rws_len]; exact Nat.le_refl _)] at eA
          have eN : rws A = (jfold (rws S)).reverse := eA
          refine ⟨_, rfl, o, refs A, rfl, .inl ⟨.inl (.inl hoA), fun t ht => ?_⟩⟩
          have s5 := same_lay (o := .tup (refs A)) ht
          have s6 : Same H H' := fun b u e => fr b u (s3 b u (s2 b u (S1 b u e))) (ne_of_none e no)
          refine q t A _ (s6.trans s5) (s6.free ht) upd_same (hA.same s5) (by rw [eN]; exact hnf) (fun x => ?_) ?_
          · rw [eN, hme x, ← eM]
            exact mem_same hSm x
          · rw [refs_len] at hAl
            omega
    · refine .inr ⟨_, rfl, a, rfl, ⟨_, sameT S1 hS⟩, fun D hD => lc_tup (K := K) (a := a) (xs := refs L) (fun i H2 => ∃ M : List ARow, H2 D = some (.lst (refs M)) ∧ AtR H2 M ∧ rws M = (rws L).take i ∧ Same (upd H o (.lst [])) H2)
        ⟨[], upd_same, (fun _ z => nomatch z), rfl, same_lay hD⟩ (fun i H2 _ ⟨_, _, _, _, s⟩ => sameT s (sameT S1 hS)) ?_ ?_⟩
      · intro i x H2 hx hI
        obtain ⟨M, hD2, hM, eM, s2⟩ := hI
        obtain ⟨p, hp, hpL, rfl⟩ := refs_get hx
        have hil : i < L.length := (List.getElem?_eq_some_iff.mp hp).1
        have hlM : M.length = i := by
          rw [← rws_len M, eM, List.length_take, rws_len]
          omega
        have e1 : (rws L).take (i + 1) = (rws L).take i ++ [p.2] := by rw [List.take_add_one, rws_get hp]; rfl
        have nDp : ∀ q ∈ M, q.1 ≠ D := fun q hq => ne_of (hM q hq) hD2 (by intro z; cases z)
        refine ⟨rfl, yesT ?_⟩
        refine ⟨_, rfl, p.1, [.int p.2.1, .int p.2.2], rfl, ?_⟩
        rcases hP p hpL with e | e
        · have e3 := s2 _ _ (S1 _ _ e)
          refine .inr ⟨.inl (.inl e3), refs M, hD2, small1000 (by rw [refs_len, hlM]; omega), M ++ [p], ?_, ?_, ?_, same_upd s2 hD⟩
          · rw [upd_same, refs_snoc]
          · intro q hq
            rcases List.mem_append.mp hq with k | k
            · rw [upd_ne (nDp q k)]; exact hM q k
            · rw [List.mem_singleton.mp k, upd_ne (ne_of e3 hD2 (by intro z; cases z))]; exact e3
          · rw [rws_snoc, eM, e1]
        · have e3 := s2 _ _ (S1 _ _ e)
          refine .inl ⟨.inl (.inl e3), fun l hl => ?_⟩
          have nDl : D ≠ l := ne_of_none hD2 hl
          have s3 := same_lay (o := .tup [.int p.2.1, .int p.2.2]) hl
          refine ⟨refs M, s3 _ _ hD2, small1000 (by rw [refs_len, hlM]; omega), M ++ [(l, p.2)], ?_, ?_, ?_, same_upd (s2.trans s3) hD⟩
          · rw [upd_same, refs_snoc]
          · intro q hq
            rcases List.mem_append.mp hq with k | k
            · rw [upd_ne (nDp q k)]; exact s3 _ _ (hM q k)
            · rw [List.mem_singleton.mp k, upd_ne nDl.symm, upd_same]
          · rw [rws_snoc, eM, e1]
      · intro H2 hI
        obtain ⟨M, hD2, hM, eM, s2⟩ := hI
        rw [refs_len, List.take_of_length_le (by rw [rws_len]; exact Nat.le_refl _)] at eM
        have no2 : H2 o = some (.lst []) := s2 _ _ upd_same
        have lM : M.length = L.length := by rw [← rws_len M, eM, rws_len]
        -- sorted
        refine ⟨D, refs M, kOf H2, rfl, .inl (.inl hD2), fun y hy => ?_, fun ys p hs hb np => ?_⟩
        · unfold refs at hy
          obtain ⟨z, hz, rfl⟩ := List.mem_map.mp hy
          exact ⟨z.1, rfl, by rw [kOf_at (hM z hz)]; exact hM z hz⟩
        obtain ⟨S, rfl, hSA, hSm, hSl, hSk⟩ := refs_perm hM hb.perm
        have hso : (rws S).Pairwise fun r s => r.1 ≤ s.1 := by
          rw [hSk]
          refine List.pairwise_map.mpr (hs.imp fun {x y} hxy => ?_)
          have := SrtO.lexB_no.mp hxy
          omega
        have hSok : ∀ r ∈ rws S, r.1 ≤ r.2 := fun r hr => hok r (by rw [← eM]; exact (hSm r).mp hr)
        obtain ⟨hnf, hme⟩ := jfold_ok hSok hso
        have s3 := same_lay (o := .lst (refs S)) np
        have nop : o ≠ p := ne_of_none no2 np
        refine ⟨p, rfl, ⟨_, .inl (.inl upd_same)⟩, for_list (K := K) (a := p) (xs := refs S) (fun i σ H' => ∃ f l, ∃ A : List ARow, σ = [some (.ref a), some (.ref o), f, l, none] ∧ H' o = some (.lst (refs A)) ∧ AtR H' A ∧ rws A = (((rws S).take i).foldl jstep []).reverse ∧ Fre o (upd H2 p (.lst (refs S))) H' ∧ A.length ≤ i)
          ⟨none, none, [], rfl, by rw [upd_ne nop]; exact no2, (fun _ z => nomatch z), rfl, Fre.refl _ _, Nat.le_refl _⟩ (fun i σ H' _ ⟨_, _, _, _, _, _, _, fr, _⟩ => .inl (.inl (fr _ _ upd_same nop.symm))) ?_ ?_⟩
        · rintro i y σ H' hy ⟨f, l, A, rfl, hoA, hA, eA, fr, hAl⟩
          obtain ⟨z, hz, hzS, rfl⟩ := refs_get hy
          have hil : i < S.length := (List.getElem?_eq_some_iff.mp hz).1
          have ez : H' z.1 = some (.tup [.int z.2.1, .int z.2.2]) := fr _ _ (s3 _ _ (hSA z hzS)) (ne_of (hSA z hzS) no2 (by intro q; cases q))
          have e1 : ((rws S).take (i + 1)).foldl jstep [] = jstep (((rws S).take i).foldl jstep []) z.2 := by
            rw [List.take_add_one, rws_get hz, List.foldl_append]
            rfl
          have nAo : ∀ q ∈ A, q.1 ≠ o := fun q hq => ne_of (hA q hq) hoA (by intro w; cases w)
          refine ⟨z.1, _, rfl, .inl (.inl ez), rfl, _, _, rfl, _, _, rfl, rfl, ?_⟩
          refine ⟨_, rfl, !(refs A).isEmpty, .inl ⟨refs A, .inl (.inl hoA), rfl⟩, ?_⟩
          -- the row goes to the end
          have app : ∀ (hj : jstep (((rws S).take i).foldl jstep []) z.2 = z.2 :: ((rws S).take i).foldl jstep []) (T : Addr), H' T = none →
              ∃ f' l', ∃ A' : List ARow, [some (V.ref a), some (.ref o), some (.int z.2.1), some (.int z.2.2), none] = [some (.ref a), some (.ref o), f', l', none] ∧ (upd (upd H' T (.tup [.int z.2.1, .int z.2.2])) o (.lst (refs A ++ [.ref T]))) o = some (.lst (refs A')) ∧ AtR (upd (upd H' T (.tup [.int z.2.1, .int z.2.2])) o (.lst (refs A ++ [.ref T]))) A' ∧
                rws A' = (((rws S).take (i + 1)).foldl jstep []).reverse ∧ Fre o (upd H2 p (.lst (refs S))) (upd (upd H' T (.tup [.int z.2.1, .int z.2.2])) o (.lst (refs A ++ [.ref T]))) ∧ A'.length ≤ i + 1 := by
            intro hj Tn hT
            have s4 := same_lay (o := .tup [.int z.2.1, .int z.2.2]) hT
            have noT : Tn ≠ o := by
              intro e
              rw [e] at hT
              rw [hT] at hoA
              cases hoA
            refine ⟨_, _, A ++ [(Tn, z.2)], rfl, by rw [upd_same, refs_snoc], ?_, ?_, (fr.trans (fun b u e _ => s4 b u e)).trans Fre.put, by rw [List.length_append]; exact Nat.succ_le_succ hAl⟩
            · intro q hq
              rcases List.mem_append.mp hq with k | k
              · rw [upd_ne (nAo q k)]; exact s4 _ _ (hA q k)
              · rw [List.mem_singleton.mp k, upd_ne noT, upd_same]
            · rw [rws_snoc, eA, e1, hj, List.reverse_cons]
          have alen : (refs A).length < sizeLine := small1000 (by rw [refs_len]; omega)
          have two : 2 ≤ sizeLine := by decide
          cases hacc : ((rws S).take i).foldl jstep [] with
          | nil =>
            have eA0 : A = [] := by
              rw [hacc] at eA
              exact List.map_eq_nil_iff.mp eA
            refine ite2 (fun k => ?_) (fun _ => iteF ?_)
            · rw [eA0] at k
              exact absurd k (by decide)
            · refine ⟨_, rfl, .inl ⟨rfl, _, .inl (.inl hoA)⟩, _, rfl, _, rfl, two, fun Tn hT => ?_⟩
              refine ⟨o, refs A, _, rfl, rfl, same_lay hT _ _ hoA, alen, ?_⟩
              exact app (by rw [hacc]; rfl) Tn hT
          | cons q0 t0 =>
            have eA1 : rws A = t0.reverse ++ [q0] := by rw [eA, hacc, List.reverse_cons]
            obtain ⟨B, A2, rfl, eB, eA2⟩ := List.map_eq_append_iff.mp eA1
            obtain ⟨⟨aq, q1⟩, A3, rfl, eq1, eA3⟩ := List.map_eq_cons_iff.mp eA2
            obtain rfl := List.map_eq_nil_iff.mp eA3
            obtain rfl : q1 = q0 := eq1
            have haq : H' aq = some (.tup [.int q1.1, .int q1.2]) := hA (aq, q1) (List.mem_append_right _ (List.mem_singleton.mpr rfl))
            rw [refs_snoc] at hoA
            have hSo : SqL K H' o (refs B ++ [.ref aq]) := .inl (.inl hoA)
            have hSq : SqT K H' aq [.int q1.1, .int q1.2] := .inl (.inl haq)
            have g0 : atI [V.int q1.1, .int q1.2] 0 = some (.int q1.1) := atI_nat (j := 0) rfl
            have g1 : atI [V.int q1.1, .int q1.2] 1 = some (.int q1.2) := atI_nat (j := 1) rfl
            have gl : atI (refs B ++ [V.ref aq]) (-1) = some (.ref aq) := atI_last _ _
            refine ite2 (fun _ => ?_) (fun k => ?_)
            · refine ⟨_, rfl, _, rfl, 1, rfl, o, _, -1, _, rfl, rfl, hSo, gl, aq, _, 1, _, rfl, rfl, hSq, g1, _, _, rfl, rfl, _, _, rfl, rfl, _, rfl, ite2 (fun c => ?_) (fun c => ?_)⟩
              · have hc : z.2.1 ≤ q1.2 + 1 := of_decide_eq_true c
                refine ⟨_, rfl, 1, rfl, o, _, -1, _, rfl, rfl, hSo, gl, aq, _, 0, _, rfl, rfl, hSq, g0, _, rfl, 1, rfl, o, _, -1, _, rfl, rfl, hSo, gl, aq, _, 1, _, rfl, rfl, hSq, g1, _, rfl, _, _, rfl, two, fun Tn hT => ?_⟩
                have s4 := same_lay (o := .tup [.int q1.1, .int (if z.2.2 > q1.2 then z.2.2 else q1.2)]) hT
                have noT : Tn ≠ o := by
                  intro e
                  rw [e] at hT
                  rw [hT] at hoA
                  cases hoA
                have ixe : ixN (refs B ++ [V.ref aq]).length (-1) = some (refs B).length := by
                  rw [List.length_append]
                  exact ixN_last _
                refine ⟨_, rfl, 1, rfl, o, _, -1, _, rfl, rfl, s4 _ _ hoA, ixe, ?_⟩
                refine ⟨_, _, B ++ [(Tn, (q1.1, if z.2.2 > q1.2 then z.2.2 else q1.2))], rfl, by rw [upd_same, set_last, refs_snoc], ?_, ?_, (fr.trans (fun b u e _ => s4 b u e)).trans Fre.put, ?_⟩
                · intro q hq
                  rcases List.mem_append.mp hq with k | k
                  · rw [upd_ne (nAo q (List.mem_append_left _ k))]; exact s4 _ _ (hA q (List.mem_append_left _ k))
                  · rw [List.mem_singleton.mp k, upd_ne noT, upd_same]
                · rw [rws_snoc, e1, hacc]
                  show rws B ++ [(q1.1, if z.2.2 > q1.2 then z.2.2 else q1.2)] = (if z.2.1 ≤ q1.2 + 1 then (q1.1, if z.2.2 > q1.2 then z.2.2 else q1.2) :: t0 else z.2 :: q1 :: t0).reverse
                  rw [if_pos hc, List.reverse_cons]
                  exact congrArg (· ++ [(q1.1, if z.2.2 > q1.2 then z.2.2 else q1.2)]) eB
                · rw [List.length_append] at hAl ⊢
                  exact Nat.le_succ_of_le hAl
              · have hc : ¬ z.2.1 ≤ q1.2 + 1 := fun w => c (decide_eq_true w)
                refine ⟨_, rfl, .inl ⟨rfl, _, .inl (.inl hoA)⟩, _, rfl, _, rfl, two, fun Tn hT => ?_⟩
                refine ⟨o, _, _, rfl, rfl, same_lay hT _ _ hoA, by rw [← refs_snoc]; exact alen, ?_⟩
                rw [← refs_snoc]
                refine app ?_ Tn hT
                rw [hacc]
                show (if z.2.1 ≤ q1.2 + 1 then (q1.1, if z.2.2 > q1.2 then z.2.2 else q1.2) :: t0 else z.2 :: q1 :: t0) = z.2 :: q1 :: t0
                rw [if_neg hc]
            · exfalso
              apply k
              rw [refs_snoc]
              simp
        · rintro σ H' ⟨f, l, A, rfl, hoA, hA, eA, fr, hAl⟩
          rw [refs_len, List.take_of_length_le (by rw [rws_len]; exact Nat.le_refl _)] at eA
          have eN : rws A = (jfold (rws S)).reverse := eA
          refine ⟨_, rfl, o, refs A, rfl, .inl ⟨.inl (.inl hoA), fun t ht => ?_⟩⟩
          have s5 := same_lay (o := .tup (refs A)) ht
          have s6 : Same H H' := fun b u e => fr b u (s3 b u (s2 b u (S1 b u e))) (ne_of_none e no)
          refine q t A _ (s6.trans s5) (s6.free ht) upd_same (hA.same s5) (by rw [eN]; exact hnf) (fun x => ?_) ?_
          · rw [eN, hme x, ← eM]
            exact mem_same hSm x
          · rw [refs_len] at hAl
            omega
end
end OR

namespace OR
open PySem PySem.Spec PyProof.Rows L2
/-! ### counts before, and __init__ -/
def tot (l : List Row) : Int := l.foldl (fun t r => t + r.2 - r.1 + 1) 0
def befs (l : List Row) : List Int := (List.range l.length).map fun j => tot (l.take j)
theorem tot_snoc (l : List Row) (r : Row) : tot (l ++ [r]) = tot l + r.2 - r.1 + 1 := by
  unfold tot
  rw [List.foldl_append]
  rfl
def spCounts (K : PySem.W.Frag) : Sp := fun vs H Q _ => ∃ (t : Addr) (M : List ARow), vs = [.ref t] ∧ H t = some (.tup (refs M)) ∧ AtR H M ∧ M.length ≤ 1000 ∧
  ∀ (b : Addr) (H' : Hp), Same H H' → H b = none → H' b = some (.tup ((befs (rws M)).map V.int)) → Q (.ref b) H'
/-- an instance of Places with these rows -/
theorem kFS : ¬ (("_firsts" : Str) = "stretches") := by decide +kernel
theorem kBS : ¬ (("_before" : Str) = "stretches") := by decide +kernel
theorem kBF : ¬ (("_before" : Str) = "_firsts") := by decide +kernel
def pFl (t f b : Addr) : List (Str × V) := putF "_before" (.ref b) (putF "_firsts" (.ref f) (putF "stretches" (.ref t) []))
theorem pFl_s (t f b : Addr) : (pFl t f b).lookup ("stretches" : Str) = some (.ref t) := by
  unfold pFl
  rw [lookup_putF, if_neg (fun e => kBS e.symm), lookup_putF, if_neg (fun e => kFS e.symm), lookup_putF, if_pos rfl]
theorem pFl_f (t f b : Addr) : (pFl t f b).lookup ("_firsts" : Str) = some (.ref f) := by
  unfold pFl
  rw [lookup_putF, if_neg (fun e => kBF e.symm), lookup_putF, if_pos rfl]
theorem pFl_b (t f b : Addr) : (pFl t f b).lookup ("_before" : Str) = some (.ref b) := by
  unfold pFl
  rw [lookup_putF, if_pos rfl]
theorem pFl_no (t f b : Addr) {m : Str} (h1 : ¬ m = "_before") (h2 : ¬ m = "_firsts") (h3 : ¬ m = "stretches") : (pFl t f b).lookup m = none := by
  unfold pFl
  rw [lookup_putF, if_neg h1, lookup_putF, if_neg h2, lookup_putF, if_neg h3]
  rfl
structure IsP (C : Addr) (H : Hp) (x : Addr) (l : List Row) : Prop where
  nf : Nf l
  ex : ∃ (dx t f b : Addr) (M : List ARow), H x = some (.ins C dx (pFl t f b)) ∧ H t = some (.tup (refs M)) ∧ AtR H M ∧ rws M = l ∧ H f = some (.tup (l.map fun r => V.int r.1)) ∧ H b = some (.tup ((befs l).map V.int)) ∧ M.length ≤ 1000
theorem IsP.same {C : Addr} {H H' : Hp} {x : Addr} {l : List Row} (h : IsP C H x l) (s : Same H H') : IsP C H' x l := by
  obtain ⟨nf, dx, t, f, b, M, h1, h2, h3, h4, h5, h6, h7⟩ := h
  exact ⟨nf, dx, t, f, b, M, s _ _ h1, s _ _ h2, h3.same s, h4, s _ _ h5, s _ _ h6, h7⟩
/-- enumerate, turn by turn -/
theorem for_enum {K : PySem.W.Frag} {a : Addr} {xs : List V} {g : TG} {tb : TS} {D : Ends} {σ : L2.St} {H : Hp} (Pv : Nat → L2.St → Hp → Prop) (h0 : Pv 0 σ H) (hl : ∀ i σ H, i ≤ xs.length → Pv i σ H → SqL K H a xs)
    (hs : ∀ i x σ H T, xs[i]? = some x → Pv i σ H → H T = none → g (.ref T) σ (upd H T (.tup [.int (i : Nat), x])) fun σ2 H2 => tb { D with nx := Pv (i + 1), ct := Pv (i + 1), bk := D.nx } σ2 H2) (hd : ∀ σ H, Pv xs.length σ H → D.nx σ H) :
    ∃ W : Nat → Nat → L2.St → Hp → Prop, (∃ m, W 0 m σ H) ∧ ∀ i m σ H, W i m σ H →
      ((Ite K a).stop i H ∧ D.nx σ H) ∨ ((Ite K a).go i H ∧ ∃ N : L2.St → Hp → Prop, (∀ σ' H', N σ' H' → ∃ m', m' < m ∧ W (i + 1) m' σ' H') ∧ ∀ x H', (Ite K a).yld i H x H' → g x σ H' fun σ2 H2 => tb { D with nx := N, ct := N, bk := D.nx } σ2 H2) := by
  refine ⟨fun i m σ H => m = xs.length - i ∧ i ≤ xs.length ∧ Pv i σ H, ⟨xs.length, by simp, Nat.zero_le _, h0⟩, ?_⟩
  rintro i m σ H ⟨rfl, hi, p⟩
  have q := hl i σ H hi p
  by_cases hlt : i < xs.length
  · refine .inr ⟨⟨xs, xs[i], q, by simp [hlt]⟩, Pv (i + 1), fun σ' H' p' => ⟨xs.length - (i + 1), by omega, rfl, hlt, p'⟩, fun v H' y => ?_⟩
    obtain ⟨T, x, rfl, hT, rfl, hx⟩ := y
    exact hs i x σ H T (hx xs q) p hT
  · obtain rfl : i = xs.length := by omega
    exact .inl ⟨⟨xs, q, Nat.le_refl _⟩, hd σ H p⟩
theorem for_enumT {K : PySem.W.Frag} {a : Addr} {xs : List V} {g : TG} {tb : TS} {D : Ends} {σ : L2.St} {H : Hp} (Pv : Nat → L2.St → Hp → Prop) (h0 : Pv 0 σ H) (hl : ∀ i σ H, i ≤ xs.length → Pv i σ H → SqT K H a xs)
    (hs : ∀ i x σ H T, xs[i]? = some x → Pv i σ H → H T = none → g (.ref T) σ (upd H T (.tup [.int (i : Nat), x])) fun σ2 H2 => tb { D with nx := Pv (i + 1), ct := Pv (i + 1), bk := D.nx } σ2 H2) (hd : ∀ σ H, Pv xs.length σ H → D.nx σ H) :
    ∃ W : Nat → Nat → L2.St → Hp → Prop, (∃ m, W 0 m σ H) ∧ ∀ i m σ H, W i m σ H →
      ((IteT K a).stop i H ∧ D.nx σ H) ∨ ((IteT K a).go i H ∧ ∃ N : L2.St → Hp → Prop, (∀ σ' H', N σ' H' → ∃ m', m' < m ∧ W (i + 1) m' σ' H') ∧ ∀ x H', (IteT K a).yld i H x H' → g x σ H' fun σ2 H2 => tb { D with nx := N, ct := N, bk := D.nx } σ2 H2) := by
  refine ⟨fun i m σ H => m = xs.length - i ∧ i ≤ xs.length ∧ Pv i σ H, ⟨xs.length, by simp, Nat.zero_le _, h0⟩, ?_⟩
  rintro i m σ H ⟨rfl, hi, p⟩
  have q := hl i σ H hi p
  by_cases hlt : i < xs.length
  · refine .inr ⟨⟨xs, xs[i], q, by simp [hlt]⟩, Pv (i + 1), fun σ' H' p' => ⟨xs.length - (i + 1), by omega, rfl, hlt, p'⟩, fun v H' y => ?_⟩
    obtain ⟨T, x, rfl, hT, rfl, hx⟩ := y
    exact hs i x σ H T (hx xs q) p hT
  · obtain rfl : i = xs.length := by omega
    exact .inl ⟨⟨xs, q, Nat.le_refl _⟩, hd σ H p⟩
def spPlInit (K : PySem.W.Frag) (C : Addr) : Sp := fun vs H Q _ => ∃ (x dx a : Addr) (L : List ARow), vs = [.ref x, .ref a] ∧ H x = some (.ins C dx []) ∧ (SqL K H a (refs L) ∨ SqT K H a (refs L)) ∧ L.length ≤ 1000 ∧ PairsAt H L ∧ (∀ r ∈ rws L, okRow r = true) ∧
  ∀ (l : List Row) (H' : Hp), (∀ c o, H c = some o → c ≠ x → H' c = some o) → IsP C H' x l → (∀ z, mem l z ↔ mem (rws L) z) → l.length ≤ L.length → Q .non H'
theorem okRow_le {r : Row} (h : okRow r = true) : r.1 ≤ r.2 := by
  unfold okRow at h
  simp only [Bool.and_eq_true, decide_eq_true_eq] at h
  exact h.2.2
section
variable {P : Program} {w : World} {K : PySem.W.Frag} {mg : Str → Option Value} {base : Heap}
theorem scC : FnScope ["stretches", "counts", "total", "first", "last"] ["stretches"] (defScope sCounts) := ⟨rfl, rfl, rfl, by decide +kernel, rfl, by decide +kernel, by decide +kernel⟩
theorem ok_counts {f C : Addr} {fd : FuncData} (F : Fun K "_counts_before" "_counts_before" sCounts f fd) (T : PTxt K mg C) : FnOk P w K mg base CX0 1 f fd ["stretches"] (spCounts K) := by
  refine F.ok scC (fun vs H Q E h => ?_) (fun cdv A outer s H vs Q E hr h => ?_)
  · obtain ⟨t, M, rfl, _⟩ := h
    rfl
  · obtain ⟨t, M, rfl, ht, hM, hlen, q⟩ := h
    have nd := scC.nd
    refine ⟨_, pss_cons (ps_set (i := 1) nd rfl (.inl rfl) (pe_lst pa_nil))
      (pss_cons (ps_set (i := 2) nd rfl (.inl rfl) pe_int)
      (pss_cons (ps_for PassesOwn.never rfl (pi_tup (pv 0)) (pg_tup rfl (pgs_cons (pg_name (i := 3) nd rfl (.inl rfl)) (pgs_cons (pg_name (i := 4) nd rfl (.inl rfl)) pgs_nil)))
        (pss_cons (ps_expr (pe_bm PySem.F.plainAttrs_list PySem.F.slot_list_append PySem.F.type_list_append mt_append (pv 1) (pa_cons (pv 2) pa_nil)))
        (pss_one (ps_set (i := 2) nd rfl (.inl rfl) (pe_op op_add (pe_op op_sub (pe_op op_add (pv 2) (pv 4)) (pv 3)) pe_int)))))
      (pss_one (ps_ret (pe_callTy call_tuple_of (by rfl) T.zTup bt_tup (pa_cons (pv 1) pa_nil)))))), ?_⟩
    refine ⟨Nat.zero_le _, fun o no => ?_⟩
    have s1 := same_lay (o := .lst []) no
    refine ⟨_, rfl, t, rfl, ⟨_, .inl (.inl (s1 _ _ ht))⟩, for_tup (K := K) (a := t) (xs := refs M) (fun i σ H' => ∃ f l, σ = [some (.ref t), some (.ref o), some (.int (tot ((rws M).take i))), f, l] ∧ H' o = some (.lst (((List.range i).map fun j => tot ((rws M).take j)).map V.int)) ∧ Fre o (upd H o (.lst [])) H')
      ⟨none, none, rfl, upd_same, Fre.refl _ _⟩ (fun i σ H' _ ⟨_, _, _, _, fr⟩ => .inl (.inl (fr _ _ (s1 _ _ ht) (ne_of_none ht no)))) ?_ ?_⟩
    · rintro i y σ H' hy ⟨f, l, rfl, ho, fr⟩
      obtain ⟨z, hz, hzM, rfl⟩ := refs_get hy
      have hil : i < M.length := (List.getElem?_eq_some_iff.mp hz).1
      have ez : H' z.1 = some (.tup [.int z.2.1, .int z.2.2]) := fr _ _ (s1 _ _ (hM z hzM)) (ne_of_none (hM z hzM) no)
      refine ⟨z.1, _, rfl, .inl (.inl ez), rfl, _, _, rfl, _, _, rfl, rfl, ?_⟩
      refine ⟨_, rfl, .inl ⟨rfl, _, .inl (.inl ho)⟩, _, rfl, o, _, _, rfl, rfl, ho, small1000 (by rw [List.length_map, List.length_map, List.length_range]; omega), ?_⟩
      refine ⟨_, rfl, _, rfl, _, _, rfl, rfl, _, rfl, _, _, rfl, rfl, _, _, rfl, rfl, ?_⟩
      have e1 : (rws M).take (i + 1) = (rws M).take i ++ [z.2] := by rw [List.take_add_one, rws_get hz]; rfl
      refine ⟨some (.int z.2.1), some (.int z.2.2), ?_, ?_, fr.trans Fre.put⟩
      · rw [e1, tot_snoc]
        rfl
      · rw [upd_same, List.range_succ, List.map_append, List.map_append]
        rfl
    · rintro σ H' ⟨f, l, rfl, ho, fr⟩
      refine ⟨_, rfl, o, _, rfl, .inl ⟨.inl (.inl ho), fun b hb => ?_⟩⟩
      have s2 := same_lay (o := .tup (((List.range (refs M).length).map fun j => tot ((rws M).take j)).map V.int)) hb
      have s3 : Same H H' := fun c u e => fr c u (s1 c u e) (ne_of_none e no)
      refine q b _ (s3.trans s2) (s3.free hb) ?_
      rw [upd_same]
      unfold befs
      rw [rws_len, refs_len]
theorem scPI : FnScope ["self", "stretches", "index", "stretch", "first", "_"] ["self", "stretches"] (defScope sPlInit) := ⟨rfl, rfl, rfl, by decide +kernel, rfl, by decide +kernel, by decide +kernel⟩
theorem ok_plinit {f C : Addr} {fd : FuncData} {dvs : List V} (F : FunD K "__init__" "Places.__init__" (defArgs sPlInit) (defBody sPlInit) (defScope sPlInit) dvs [] f fd) (T : PTxt K mg C) (S : Cl P w K mg base 3 "_is_stretch" ["value"] spIsStretchP)
    (J : Cl P w K mg base 1 "_joined" ["stretches"] (spJoined K)) (B : Cl P w K mg base 1 "_counts_before" ["stretches"] (spCounts K)) : FnOk P w K mg base CX0 4 f fd ["self", "stretches"] (spPlInit K C) := by
  refine F.ok scPI (fun vs H Q E h => ?_) (fun cdv A outer s H vs Q E hr h => ?_)
  · obtain ⟨x, dx, a, L, rfl, _⟩ := h
    rfl
  · obtain ⟨x, dx, a, L, rfl, hx, hS, hlen, hP, hok, q⟩ := h
    have nd := scPI.nd
    have hb := PSs.nox (X := cxOf CX0 P w K mg base ["self", "stretches", "index", "stretch", "first", "_"] "Places.__init__" (defScope sPlInit) f cdv A outer s H E) (st := defBody sPlInit) (pss_cons (ps_for PassesOwn.never rfl (pi_or (pi_enum (by rfl) T.zEnum (pa_cons (pv 1) pa_nil)) (pi_enumT (by rfl) T.zEnum (pa_cons (pv 1) pa_nil)))
          (pg_tup rfl (pgs_cons (pg_name (i := 2) nd rfl (.inl rfl)) (pgs_cons (pg_name (i := 3) nd rfl (.inl rfl)) pgs_nil)))
        (pss_one (ps_if (pt_not (pt_val (pe_cl S hr (by decide) (by rfl) (pa_cons (pv 3) pa_nil)))) (pss_one ps_never) pss_nil)))
      (pss_cons (ps_fld (pv 0) (pe_cl J hr (by decide) (by rfl) (pa_cons (pv 1) pa_nil)) rfl)
      (pss_cons (ps_fld (pv 0) (pe_callTy call_tuple_of (by rfl) T.zTup bt_tup (pa_cons
          (pe_lc (own := [("first", 4), ("_", 5)]) (g := gTup K 2 (gCons (gName 4) (gCons (gName 5) gNil))) (tt := tYes) rfl nd (pi_tup (pe_fld (pv 0) rfl)) (blkOk_by (N := ["self", "stretches", "index", "stretch", "first", "_"]) (sc := defScope sPlInit) (by decide +kernel))
            (fun _ _ _ _ _ => pg_tup rfl (pgs_cons (pg_name (i := 4) nd rfl (.inl rfl)) (pgs_cons (pg_name (i := 5) nd rfl (.inl rfl)) pgs_nil))) (fun _ _ _ _ _ => pts_nil) (fun _ _ _ _ _ => pv 4)) pa_nil)) rfl)
      (pss_one (ps_fld (pv 0) (pe_cl B hr (by decide) (by rfl) (pa_cons (pe_fld (pv 0) rfl) pa_nil)) rfl)))))
    refine ⟨_, hb, ?_⟩
    clear hb
    -- what follows the loop
    have after : ∀ (σ : L2.St) (H1 : Hp) (i1 s1 : Option V), σ = [some (.ref x), some (.ref a), i1, s1, none, none] → Same H H1 → (tSeq (sFld K (tVar 0) (tCall (spJoined K) [] E0 (tCons (tVar 1) tNil)) "stretches")
        (tSeq (sFld K (tVar 0) (tCB (fun xs H Q => ∃ p ys, xs = [V.ref p] ∧ ((SqL K H p ys ∧ ∀ l, H l = none → Q (.ref l) (upd H l (.tup ys))) ∨ (SqT K H p ys ∧ Q (.ref p) H))) (tCons (tLc (iTup K (tFld K (tVar 0) "stretches")) (gTup K 2 (gCons (gName 4) (gCons (gName 5) gNil))) tYes (tVar 4) [4, 5]) tNil)) "_firsts")
        (sFld K (tVar 0) (tCall (spCounts K) [] E0 (tCons (tFld K (tVar 0) "stretches") tNil)) "_before"))) { nx := fun _ H' => Q .non H', rt := Q } σ H1 := by
      rintro σ H1 i1 s1 rfl S1
      have hS1 : SqL K H1 a (refs L) ∨ SqT K H1 a (refs L) := hS.elim (fun e => .inl (S1.seq e)) fun e => .inr (sameT S1 e)
      refine ⟨_, rfl, a, L, rfl, hS1, hlen, hP.same S1, fun r hr => okRow_le (hok r hr), fun t M H2 S2 nt ht hM hnf hme hlM => ?_⟩
      have hx2 := S2 _ _ (S1 _ _ hx)
      refine ⟨_, rfl, x, C, dx, [], rfl, hx2, T.cl, T.nS, (by show 0 < 1000; decide), ?_⟩
      have ntx : t ≠ x := ne_of ht hx2 (by intro z; cases z)
      have nMx : ∀ p ∈ M, p.1 ≠ x := fun p hp => ne_of (hM p hp) hx2 (by intro z; cases z)
      -- firsts
      generalize hH3 : upd H2 x (.ins C dx (putF "stretches" (.ref t) [])) = H3
      have hx3 : H3 x = some (.ins C dx (putF "stretches" (.ref t) [])) := by rw [← hH3, upd_same]
      have ht3 : H3 t = some (.tup (refs M)) := by rw [← hH3, upd_ne ntx]; exact ht
      have hM3 : AtR H3 M := fun p hp => by rw [← hH3, upd_ne (nMx p hp)]; exact hM p hp
      have f3 : ∀ c o, H c = some o → c ≠ x → H3 c = some o := fun c o e n => by rw [← hH3, upd_ne n]; exact S2 _ _ (S1 _ _ e)
      have lk : (putF "stretches" (V.ref t) []).lookup ("stretches" : Str) = some (V.ref t) := by rw [lookup_putF, if_pos rfl]
      refine ⟨_, rfl, x, C, dx, _, _, rfl, hx3, T.cl, T.nS, lk, t, rfl, ⟨_, .inl (.inl ht3)⟩, fun D hD => lc_tup (K := K) (a := t) (xs := refs M) (fun i H4 => H4 D = some (.lst ((rws M).take i |>.map fun r => V.int r.1)) ∧ Same H3 H4)
        ⟨upd_same, same_lay hD⟩ (fun i H4 _ ⟨_, s⟩ => .inl (.inl (s _ _ ht3))) ?_ ?_⟩
      · rintro i y H4 hy ⟨hD4, s4⟩
        obtain ⟨z, hz, hzM, rfl⟩ := refs_get hy
        have hil : i < M.length := (List.getElem?_eq_some_iff.mp hz).1
        have ez := s4 _ _ (hM3 z hzM)
        refine ⟨z.1, _, rfl, .inl (.inl ez), rfl, _, _, rfl, _, _, rfl, rfl, rfl, yesT ?_⟩
        refine ⟨_, rfl, _, hD4, small1000 (by rw [List.length_map, List.length_take]; omega), ?_, same_upd s4 hD⟩
        have e1 : (rws M).take (i + 1) = (rws M).take i ++ [z.2] := by rw [List.take_add_one, rws_get hz]; rfl
        rw [upd_same, e1, List.map_append]
        rfl
      · rintro H4 ⟨hD4, s4⟩
        rw [refs_len, List.take_of_length_le (by rw [rws_len]; exact Nat.le_refl _)] at hD4
        refine ⟨D, _, rfl, .inl ⟨.inl (.inl hD4), fun f nf => ?_⟩⟩
        have s5 := same_lay (o := .tup ((rws M).map fun r => V.int r.1)) nf
        have s35 := s4.trans s5
        have hx5 := s35 _ _ hx3
        refine ⟨_, rfl, x, C, dx, _, rfl, hx5, T.cl, T.nF, (by show 1 < 1000; decide), ?_⟩
        have nfx : f ≠ x := by
          intro e
          rw [e] at nf
          rw [s4 _ _ hx3] at nf
          cases nf
        generalize hH6 : upd (upd H4 f (.tup ((rws M).map fun r => V.int r.1))) x (.ins C dx (putF "_firsts" (.ref f) (putF "stretches" (.ref t) []))) = H6
        have hx6 : H6 x = some (.ins C dx (putF "_firsts" (.ref f) (putF "stretches" (.ref t) []))) := by rw [← hH6, upd_same]
        have ht6 : H6 t = some (.tup (refs M)) := by rw [← hH6, upd_ne ntx]; exact s35 _ _ ht3
        have hM6 : AtR H6 M := fun p hp => by rw [← hH6, upd_ne (nMx p hp)]; exact s35 _ _ (hM3 p hp)
        have hf6 : H6 f = some (.tup ((rws M).map fun r => V.int r.1)) := by rw [← hH6, upd_ne nfx, upd_same]
        have f6 : ∀ c o, H c = some o → c ≠ x → H6 c = some o := fun c o e n => by rw [← hH6, upd_ne n]; exact s35 _ _ (f3 c o e n)
        have lk6 : (putF "_firsts" (V.ref f) (putF "stretches" (V.ref t) [])).lookup ("stretches" : Str) = some (V.ref t) := by
          rw [lookup_putF, if_neg (fun e => kFS e.symm), lookup_putF, if_pos rfl]
        refine ⟨_, rfl, x, C, dx, _, _, rfl, hx6, T.cl, T.nS, lk6, t, M, rfl, ht6, hM6, Nat.le_trans hlM hlen, fun b H7 s7 nb hb => ?_⟩
        have hx7 := s7 _ _ hx6
        refine ⟨_, rfl, x, C, dx, _, rfl, hx7, T.cl, T.nB, (by show 2 < 1000; decide), ?_⟩
        have nbx : b ≠ x := ne_of hb hx7 (by intro z; cases z)
        refine q (rws M) _ (fun c o e n => by rw [upd_ne n]; exact s7 _ _ (f6 c o e n)) ⟨hnf, dx, t, f, b, M, upd_same, ?_, fun p hp => ?_, rfl, ?_, ?_, Nat.le_trans hlM hlen⟩ hme (by rw [rws_len]; exact hlM)
        · rw [upd_ne ntx]; exact s7 _ _ ht6
        · rw [upd_ne (nMx p hp)]; exact s7 _ _ (hM6 p hp)
        · rw [upd_ne nfx]; exact s7 _ _ hf6
        · rw [upd_ne nbx]; exact hb
    rcases hS with hS' | hS'
    · refine .inl ⟨_, rfl, a, refs L, rfl, hS', for_enum (K := K) (a := a) (xs := refs L) (fun i σ H' => ∃ i1 s1, σ = [some (.ref x), some (.ref a), i1, s1, none, none] ∧ Same H H')
        ⟨none, none, rfl, Same.refl _⟩ (fun i σ H' _ ⟨_, _, _, s⟩ => s.seq hS') ?_ ?_⟩
      · rintro i y σ H' Tn hy ⟨i1, s1, rfl, S1⟩ hT
        obtain ⟨z, hz, hzL, rfl⟩ := refs_get hy
        have s2 := same_lay (o := .tup [.int (i : Nat), .ref z.1]) hT
        have pz := (hP.same (S1.trans s2)) z hzL
        have okz : okRow z.2 = true := hok z.2 (mem_rws.mpr ⟨z.1, hzL⟩)
        refine ⟨Tn, _, rfl, .inl (.inl upd_same), rfl, _, _, rfl, _, _, rfl, rfl, ?_⟩
        refine ⟨_, rfl, z.1, z.2, rfl, pz, fun H'' S3 => ⟨_, rfl, ?_⟩⟩
        rw [okz]
        exact iteF ⟨_, _, rfl, (S1.trans s2).trans S3⟩
      · rintro σ H' ⟨i1, s1, rfl, S1⟩
        exact after _ _ i1 s1 rfl S1
    · refine .inr ⟨_, rfl, a, refs L, rfl, hS', for_enumT (K := K) (a := a) (xs := refs L) (fun i σ H' => ∃ i1 s1, σ = [some (.ref x), some (.ref a), i1, s1, none, none] ∧ Same H H')
        ⟨none, none, rfl, Same.refl _⟩ (fun i σ H' _ ⟨_, _, _, s⟩ => sameT s hS') ?_ ?_⟩
      · rintro i y σ H' Tn hy ⟨i1, s1, rfl, S1⟩ hT
        obtain ⟨z, hz, hzL, rfl⟩ := refs_get hy
        have s2 := same_lay (o := .tup [.int (i : Nat), .ref z.1]) hT
        have pz := (hP.same (S1.trans s2)) z hzL
        have okz : okRow z.2 = true := hok z.2 (mem_rws.mpr ⟨z.1, hzL⟩)
        refine ⟨Tn, _, rfl, .inl (.inl upd_same), rfl, _, _, rfl, _, _, rfl, rfl, ?_⟩
        refine ⟨_, rfl, z.1, z.2, rfl, pz, fun H'' S3 => ⟨_, rfl, ?_⟩⟩
        rw [okz]
        exact iteF ⟨_, _, rfl, (S1.trans s2).trans S3⟩
      · rintro σ H' ⟨i1, s1, rfl, S1⟩
        exact after _ _ i1 s1 rfl S1
end
end OR

namespace OR
open PySem PySem.Spec PyProof.Rows L2
/-! ### deep data made of rows -/
def rowD (r : Row) : PyData := .tuple [.int r.1, .int r.2]
theorem dp_row {K : PySem.W.Frag} {H : Hp} {a : Addr} {r : Row} (h : H a = some (.tup [.int r.1, .int r.2])) : Dp K H (.ref a) (rowD r) := .tup (.inl (.inl h)) (.cons (.int _) (.cons (.int _) .nil))
theorem dp_rows {K : PySem.W.Frag} {H : Hp} : ∀ {L : List ARow}, AtR H L → DpAll K H (refs L) ((rws L).map rowD)
  | [], _ => .nil
  | p :: L, h => .cons (dp_row (h p List.mem_cons_self)) (dp_rows fun q hq => h q (List.mem_cons_of_mem _ hq))
theorem lay_rows : ∀ l : List Row, PyData.canLayAll0 (l.map rowD) = true
  | [] => rfl
  | r :: l => by
    show (PyData.canLay0 (rowD r) && PyData.canLayAll0 (l.map rowD)) = true
    rw [lay_rows l]
    rfl
theorem dep_rows : ∀ l : List Row, PyData.depthAll (l.map rowD) ≤ 1
  | [] => Nat.zero_le _
  | r :: l => by
    show max (PyData.depth (rowD r)) (PyData.depthAll (l.map rowD)) ≤ 1
    have := dep_rows l
    have e : PyData.depth (rowD r) = 1 := rfl
    omega
theorem shp_tup (l : List Row) : SeqAt.shaped (.tuple (l.map rowD)) = true := by
  unfold SeqAt.shaped
  rw [show PyData.canLay0 (.tuple (l.map rowD)) = true from lay_rows l, Bool.true_and]
  refine decide_eq_true ?_
  show PyData.depthAll (l.map rowD) + 1 ≤ 64
  have := dep_rows l
  omega
theorem shp_lst (l : List Row) : SeqAt.shaped (.list (l.map rowD)) = true := by
  unfold SeqAt.shaped
  rw [show PyData.canLay0 (.list (l.map rowD)) = true from lay_rows l, Bool.true_and]
  refine decide_eq_true ?_
  show PyData.depthAll (l.map rowD) + 1 ≤ 64
  have := dep_rows l
  omega
theorem eqv_row (r s : Row) : PyData.eqv (rowD r) (rowD s) = decide (r = s) := by
  show ((r.1 == s.1) && ((r.2 == s.2) && true)) = decide (r = s)
  rw [Bool.and_true]
  by_cases h : r = s
  · subst h
    simp
  · rw [decide_eq_false h]
    by_cases h1 : r.1 = s.1
    · have h2 : r.2 ≠ s.2 := fun e => h (Prod.ext h1 e)
      simp [h2]
    · simp [h1]
theorem eqv_rows : ∀ l m : List Row, PyData.eqvAll (l.map rowD) (m.map rowD) = decide (l = m)
  | [], [] => by simp [PyData.eqvAll]
  | [], _ :: _ => by simp [PyData.eqvAll]
  | _ :: _, [] => by simp [PyData.eqvAll]
  | r :: l, s :: m => by
    show (PyData.eqv (rowD r) (rowD s) && PyData.eqvAll (l.map rowD) (m.map rowD)) = decide (r :: l = s :: m)
    rw [eqv_row, eqv_rows l m]
    by_cases h1 : r = s
    · by_cases h2 : l = m
      · simp [h1, h2]
      · simp [h1, h2]
    · simp [h1]
theorem AtR.frm {H H' : Hp} {L : List ARow} {p : Addr} {n : Nat} (h : AtR H L) (f : Frm p H H') (P : Pen H p n) : AtR H' L := fun q hq => by
  obtain ⟨c, ns, k, l, hp, _⟩ := P
  exact f _ _ (h q hq) (ne_of (h q hq) hp (by intro z; cases z))
theorem Frm.free {p q : Addr} {H H' : Hp} {n : Nat} (f : Frm p H H') (P : Pen H' p n) (h : H' q = none) : H q = none := by
  obtain ⟨c, ns, k, l, hp, _⟩ := P
  cases e : H q with
  | none => rfl
  | some o =>
    by_cases ep : q = p
    · rw [ep, hp] at h
      cases h
    · rw [f q o e ep] at h
      cases h
theorem frmS {p : Addr} {H H' : Hp} (s : Same H H') : Frm p H H' := ⟨fun b o e _ => s b o e, fun c ⟨k, l, e⟩ => ⟨k, l, s _ _ e⟩⟩
theorem Pen.same' {H H' : Hp} {p : Addr} {n : Nat} (P : Pen H p n) (s : Same H H') : Pen H' p n := by
  obtain ⟨c, ns, k, l, h1, h2, h⟩ := P
  exact ⟨c, ns, k, l, s _ _ h1, s _ _ h2, h⟩
/-! ### the law's drawing of rows -/
def spSpot : Sp := fun vs H Q _ => ∃ (p : Addr) (n : Nat), vs = [.ref p] ∧ Pen H p n ∧ n ≤ 900000 ∧ ∀ (r : Int) (H' : Hp), placeB r = true → Pen H' p (n + 2) → Frm p H H' → Q (.int r) H'
def spDrawn : Sp := fun vs H Q _ => ∃ (p : Addr) (m n : Nat), vs = [.ref p, .int m] ∧ m ≤ 20 ∧ Pen H p n ∧ n ≤ 700000 ∧
  ∀ (a : Addr) (L : List ARow) (H' : Hp), H a = none → H' a = some (.lst (refs L)) → AtR H' L → (∀ r ∈ rws L, okRow r = true) → L.length ≤ m → Pen H' p (n + 1000) → Frm p H H' → Q (.ref a) H'
theorem place_of {r : Int} (h0 : 0 ≤ r) (h1 : r ≤ lastP) : placeB r = true := by
  unfold placeB
  rw [decide_eq_true h0, decide_eq_true h1]
  rfl
theorem place_iff {r : Int} (h : placeB r = true) : 0 ≤ r ∧ r ≤ lastP := by
  unfold placeB at h
  simp only [Bool.and_eq_true, decide_eq_true_eq] at h
  exact h
theorem okRow_of {a b : Int} (h0 : 0 ≤ a) (h1 : a ≤ b) (h2 : b ≤ lastP) : okRow (a, b) = true := by
  unfold okRow
  rw [place_of (r := a) h0 (Int.le_trans h1 h2), place_of (r := b) (Int.le_trans h0 h1) h2, Bool.true_and, Bool.true_and]
  exact decide_eq_true h1
theorem okRow_iff {r : Row} (h : okRow r = true) : 0 ≤ r.1 ∧ r.1 ≤ r.2 ∧ r.2 ≤ lastP := by
  unfold okRow at h
  rw [Bool.and_eq_true, Bool.and_eq_true, decide_eq_true_eq] at h
  exact ⟨(place_iff h.1).1, h.2.2, (place_iff h.2.1).2⟩
structure Bd (mg : Str → Option Value) : Prop where
  range : mg "range" = none
  min : mg "min" = none
  max : mg "max" = none
  int : mg "int" = none
  len : mg "len" = none
  list : mg "list" = none
  set : mg "set" = none
  sorted : mg "sorted" = none
section
variable {P : Program} {w : World} {K : PySem.W.Frag} {mg : Str → Option Value} {base : Heap}
theorem scSpot : FnScope ["_law_pen_here", "_law_way"] ["_law_pen_here"] (defScope sSpot) := ⟨rfl, rfl, rfl, by decide +kernel, rfl, by decide +kernel, by decide +kernel⟩
theorem ok_spot {f : Addr} {fd : FuncData} (F : Fun K "_law_spot" "_law_spot" sSpot f fd) (D : Cl P w K mg base 1 "_law_draw" ["_law_pen_here", "_law_many"] spDraw) : FnOk P w K mg base CX0 2 f fd ["_law_pen_here"] spSpot := by
  refine F.ok scSpot (fun vs H Q E h => ?_) (fun cdv A outer s H vs Q E hr h => ?_)
  · obtain ⟨p, n, rfl, _⟩ := h
    rfl
  · obtain ⟨p, n, rfl, hP, hn, q⟩ := h
    have nd := scSpot.nd
    refine ⟨_, pss_cons (ps_set (i := 1) nd rfl (.inl rfl) (pe_cl D hr (by decide) (by rfl) (pa_cons (pv 0) (pa_cons pe_int pa_nil))))
      (pss_cons (ps_if (pt_cmpR op_lt (pv 1) pe_int (nomark _)) (pss_one (ps_ret (pe_cl D hr (by decide) (by rfl) (pa_cons (pv 0) (pa_cons (pe_ix ix_list (pe_lst (pa_cons pe_int (pa_cons pe_int pa_nil))) (pv 1) (fun _ _ => rfl)) pa_nil))))) pss_nil)
      (pss_cons (ps_if (pt_cmpR op_eq (pv 1) pe_int (nomark _)) (pss_one (ps_ret (pe_cl D hr (by decide) (by rfl) (pa_cons (pv 0) (pa_cons (pe_op op_add (pe_op op_pow pe_int pe_int) pe_int) pa_nil))))) pss_nil)
      (pss_one (ps_ret (pe_ifExp (pt_cmpR op_eq (pv 1) pe_int (nomark _)) (pe_op op_sub (pe_op op_pow pe_int pe_int) (pe_cl D hr (by decide) (by rfl) (pa_cons (pv 0) (pa_cons pe_int pa_nil))))
        (pe_op op_add (pe_op op_pow pe_int pe_int) (pe_cl D hr (by decide) (by rfl) (pa_cons (pv 0) (pa_cons pe_int pa_nil))))))))), ?_⟩
    have hpow : CPow 10 30 := ⟨by decide, by decide, by decide⟩
    have hpow15 : CPow 10 15 := ⟨by decide, by decide, by decide⟩
    have eL : lastP = 10 ^ 30 := rfl
    refine ⟨_, rfl, p, 5, n, rfl, by decide, by decide, hP, by omega, fun way H1 w0 w5 P1 F1 => ?_⟩
    refine ⟨_, rfl, _, _, rfl, rfl, _, rfl, ite2 (fun c => ?_) (fun _ => ?_)⟩
    · have hw : way < 2 := of_decide_eq_true c
      refine ⟨_, rfl, by show 2 ≤ sizeLine; decide, fun l hl => ?_⟩
      obtain ⟨m, hm, hm0, hm1⟩ : ∃ m : Int, atI [V.int 9, V.int 60] way = some (.int m) ∧ 0 < m ∧ m ≤ 60 := by
        have : way = 0 ∨ way = 1 := by omega
        rcases this with e | e <;> subst e
        · exact ⟨9, atI_nat (j := 0) rfl, by decide, by decide⟩
        · exact ⟨60, atI_nat (j := 1) rfl, by decide, by decide⟩
      have hmb : m.natAbs < 2 ^ 200 := Nat.lt_of_le_of_lt (show m.natAbs ≤ 60 by omega) (by decide)
      refine ⟨_, rfl, l, _, way, _, rfl, rfl, .inl (.inl upd_same), hm, p, m, n + 1, rfl, hm0, hmb, P1.new hl, by omega, fun r H2 r0 r1 P2 F2 => ?_⟩
      exact q r H2 (place_of r0 (by rw [eL]; omega)) P2 (F1.trans ((Frm.new hl).trans F2))
    refine ⟨_, rfl, rfl, _, rfl, ite2 (fun _ => ?_) (fun _ => ?_)⟩
    · refine ⟨_, rfl, _, _, rfl, rfl, hpow, _, _, rfl, rfl, p, _, n + 1, rfl, by decide, by decide, P1, by omega, fun r H2 r0 r1 P2 F2 => ?_⟩
      have r1' : r < 10 ^ 30 + 1 := r1
      exact q r H2 (place_of r0 (by rw [eL]; omega)) P2 (F1.trans F2)
    refine ⟨_, rfl, rfl, _, rfl, ite2 (fun _ => ?_) (fun _ => ?_)⟩
    · refine ⟨_, _, rfl, rfl, hpow, _, rfl, p, 9, n + 1, rfl, by decide, by decide, P1, by omega, fun r H2 r0 r1 P2 F2 => ⟨_, _, rfl, rfl, ?_⟩⟩
      refine q _ H2 (place_of ?_ ?_) P2 (F1.trans F2)
      · show (0 : Int) ≤ 10 ^ 30 - r
        omega
      · show (10 : Int) ^ 30 - r ≤ 10 ^ 30
        omega
    · refine ⟨_, _, rfl, rfl, hpow15, _, rfl, p, 99, n + 1, rfl, by decide, by decide, P1, by omega, fun r H2 r0 r1 P2 F2 => ⟨_, _, rfl, rfl, ?_⟩⟩
      refine q _ H2 (place_of ?_ ?_) P2 (F1.trans F2)
      · show (0 : Int) ≤ 10 ^ 15 + r
        omega
      · show (10 : Int) ^ 15 + r ≤ 10 ^ 30
        omega
theorem scDn : FnScope ["_law_pen_here", "_law_most", "_law_found", "_law_k", "_law_first", "_law_size"] ["_law_pen_here", "_law_most"] (defScope sDrawn) := ⟨rfl, rfl, rfl, by decide +kernel, rfl, by decide +kernel, by decide +kernel⟩
theorem ok_drawn {f : Addr} {fd : FuncData} (F : Fun K "_law_drawn" "_law_drawn" sDrawn f fd) (B : Bd mg) (D : Cl P w K mg base 1 "_law_draw" ["_law_pen_here", "_law_many"] spDraw) (C : Cl P w K mg base 2 "_law_pick" ["_law_pen_here", "_law_items"] (spPick K))
    (S : Cl P w K mg base 2 "_law_spot" ["_law_pen_here"] spSpot) : FnOk P w K mg base CX0 3 f fd ["_law_pen_here", "_law_most"] spDrawn := by
  refine F.ok scDn (fun vs H Q E h => ?_) (fun cdv A outer s H vs Q E hr h => ?_)
  · obtain ⟨p, m, n, rfl, _⟩ := h
    rfl
  · obtain ⟨p, m, n, rfl, hm, hP, hn, q⟩ := h
    have nd := scDn.nd
    have hu64 : (A.deeper (envOfC "_law_drawn" (defScope sDrawn) s.heap.objs.size f cdv)).units + 64 < cLine := hr.units
    refine ⟨_, pss_cons (ps_set (i := 2) nd rfl (.inl rfl) (pe_lst pa_nil))
      (pss_cons (ps_for PassesOwn.never rfl (pi_range1 (by rfl) B.range (pa_cons (pe_cl D hr (by decide) (by rfl) (pa_cons (pv 0) (pa_cons (pe_op op_add (pv 1) pe_int) pa_nil))) pa_nil)) (pg_name (i := 3) nd rfl (.inl rfl))
        (pss_cons (ps_set (i := 4) nd rfl (.inl rfl) (pe_cl S hr (by decide) (by rfl) (pa_cons (pv 0) pa_nil)))
        (Evl.pss_cut (ps_if (PW.pt (pw_and (pt_cmpR (op_neD hu64) (pv 2) (pe_lst pa_nil) (nomark _)) (pw_and1 (pt_cmpR op_eq (pe_cl D hr (by decide) (by rfl) (pa_cons (pv 0) (pa_cons pe_int pa_nil))) pe_int (nomark _)))))
          (pss_one (ps_set (i := 4) nd rfl (.inl rfl) (pe_callB (call_min2 rfl) (by rfl) B.min bt_min (pa_cons (pe_op op_pow pe_int pe_int) (pa_cons (pe_callTy call_int1 (by rfl) B.int bt_int (pa_cons
            (pe_op op_add (pe_ix ix_tup (pe_cl C hr (by decide) (by rfl) (pa_cons (pv 0) (pa_cons (pv 2) pa_nil))) pe_int (fun _ _ => rfl)) (pe_cl C hr (by decide) (by rfl) (pa_cons (pv 0) (pa_cons (pe_lst (pa_cons pe_int (pa_cons pe_int (pa_cons pe_int (pa_cons pe_int (pa_cons pe_int pa_nil)))))) pa_nil)))) pa_nil)) pa_nil))))) pss_nil)
        (pss_cons (ps_set (i := 5) nd rfl (.inl rfl) (pe_cl C hr (by decide) (by rfl) (pa_cons (pv 0) (pa_cons (pe_lst (pa_cons pe_int (pa_cons pe_int (pa_cons pe_int (pa_cons pe_int (pa_cons (pe_cl D hr (by decide) (by rfl) (pa_cons (pv 0) (pa_cons pe_int pa_nil)))
            (pa_cons (pe_cl D hr (by decide) (by rfl) (pa_cons (pv 0) (pa_cons (pe_op op_pow pe_int pe_int) pa_nil))) pa_nil))))))) pa_nil))))
        (pss_one (ps_expr (pe_bm PySem.F.plainAttrs_list PySem.F.slot_list_append PySem.F.type_list_append mt_append (pv 2) (pa_cons (pe_tup (pa_cons (pv 4) (pa_cons (pe_callB (call_min2 rfl) (by rfl) B.min bt_min (pa_cons (pe_op op_pow pe_int pe_int)
            (pa_cons (pe_callTy call_int1 (by rfl) B.int bt_int (pa_cons (pe_op op_add (pv 4) (pv 5)) pa_nil)) pa_nil))) pa_nil))) pa_nil))))))))
      (pss_one (ps_ret (pv 2)))), ?_⟩
    have hpow : CPow 10 30 := ⟨by decide, by decide, by decide⟩
    have eL : lastP = 10 ^ 30 := rfl
    obtain ⟨c0, hc0, hcn⟩ := hP.cells
    refine ⟨Nat.zero_le _, fun a0 na => ?_⟩
    have nca0 : c0 ≠ a0 := fun e => hcn (by rw [e]; exact na)
    have P0 := hP.new (o := .lst []) na
    refine ⟨_, rfl, _, rfl, _, _, rfl, rfl, p, _, n, rfl, by omega, Nat.lt_of_le_of_lt (show ((m : Int) + 1).natAbs ≤ 21 by omega) (by decide), P0, by omega, fun r H1 r0 r1 P1 F1 => ?_⟩
    have a1 : H1 a0 = some (.lst []) := F1.lst P0 upd_same
    refine ⟨r, rfl, by omega, by omega, for_range (n := r.toNat) (fun i σ H' => ∃ s3 s4 s5, ∃ L : List ARow, σ = [some (.ref p), some (.int m), some (.ref a0), s3, s4, s5] ∧ H' a0 = some (.lst (refs L)) ∧ AtR H' L ∧ (∀ r ∈ rws L, okRow r = true) ∧ L.length = i ∧ Pen H' p (n + 1 + 20 * i) ∧ Frm p H H')
      ⟨none, none, none, [], rfl, a1, (fun _ z => nomatch z), (fun _ z => nomatch z), rfl, P1, (Frm.new na).trans F1⟩ ?_ ?_⟩
    · rintro i σ H' hi ⟨s3, s4, s5, L, rfl, ha, hA, hok, hlen, hPn, hF⟩
      have hi20 : i < 20 := by omega
      -- first
      refine ⟨_, rfl, p, _, rfl, hPn, by omega, fun fst H2 hf P2 F2 => ?_⟩
      have ha2 : H2 a0 = some (.lst (refs L)) := F2.lst hPn ha
      have hA2 := hA.frm F2 hPn
      have hF2 := hF.trans F2
      refine ⟨fun σ'' H'' => ∃ fst : Int, σ'' = [some (.ref p), some (.int m), some (.ref a0), some (.int (0 + i)), some (.int fst), s5] ∧ placeB fst = true ∧ H'' a0 = some (.lst (refs L)) ∧ AtR H'' L ∧ Pen H'' p (n + 1 + 20 * i + 5) ∧ Frm p H H'', ?_, ?_⟩
      · refine ⟨_, rfl, Nat.zero_le _, fun e he => ?_⟩
        have se := same_lay (o := .lst []) he
        have ha3 := se _ _ ha2
        have hA3 := hA2.same se
        have P3 := P2.same' se
        have hF3 := hF2.trans (frmS se)
        refine ⟨.list ((rws L).map rowD), .list [], .lst (.inl (.inl ha3)) (dp_rows hA3), .lst (.inl (.inl upd_same)) .nil, shp_lst _, rfl, _, rfl, ?_⟩
        refine ite2 (fun hne => ?_) (fun _ => iteF ⟨fst, rfl, hf, ha3, hA3, P3.mono (by omega), hF3⟩)
        have hL0 : 0 < L.length := by
          cases L with
          | nil => exact absurd hne (by decide)
          | cons _ _ => exact Nat.succ_pos _
        refine ⟨_, rfl, p, 2, _, rfl, by decide, by decide, P3, by omega, fun c H4 _ _ P4 F4 => ?_⟩
        have ha4 : H4 a0 = some (.lst (refs L)) := F4.lst P3 ha3
        have hA4 := hA3.frm F4 P3
        have hF4 := hF3.trans F4
        refine ⟨rfl, _, rfl, ite2 (fun _ => ?_) (fun _ => ⟨fst, rfl, hf, ha4, hA4, P4.mono (by omega), hF4⟩)⟩
        refine ⟨_, _, rfl, rfl, hpow, _, rfl, _, rfl, p, a0, refs L, _, rfl, .inl (.inl ha4), by rw [refs_len]; exact hL0, by rw [refs_len]; omega, P4, by omega, fun v H5 hv P5 F5 => ?_⟩
        obtain ⟨z, hz, rfl⟩ := List.mem_map.mp hv
        have ha5 : H5 a0 = some (.lst (refs L)) := F5.lst P4 ha4
        have hA5 := hA4.frm F5 P4
        have okz := okRow_iff (hok z.2 (mem_rws.mpr ⟨z.1, hz⟩))
        refine ⟨z.1, _, 1, .int z.2.2, rfl, rfl, .inl (.inl (hA5 z hz)), atI_nat (j := 1) rfl, _, rfl, by show 5 ≤ sizeLine; decide, fun l2 hl2 => ?_⟩
        refine ⟨p, l2, _, _, rfl, .inl (.inl upd_same), by show 0 < 5; decide, by show 5 ≤ 1000; decide, P5.new hl2, by omega, fun v2 H6 hv2 P6 F6 => ?_⟩
        obtain ⟨j, rfl, hj0, hj1⟩ : ∃ j : Int, v2 = .int j ∧ 0 ≤ j ∧ j ≤ 3 := by
          simp only [List.mem_cons, List.not_mem_nil, or_false] at hv2
          rcases hv2 with e | e | e | e | e <;> subst e <;> exact ⟨_, rfl, by decide, by decide⟩
        have s2 := same_lay (o := .lst [.int 0, .int 1, .int 1, .int 2, .int 3]) hl2
        have ha6 : H6 a0 = some (.lst (refs L)) := F6.lst (P5.new hl2) (s2 _ _ ha5)
        refine ⟨_, _, rfl, rfl, .inl ⟨_, rfl, _, _, rfl, ?_⟩⟩
        refine ⟨_, rfl, place_of ?_ ?_, ha6, (hA5.same s2).frm F6 (P5.new hl2), P6.mono (by omega), ((hF4.trans F5).trans (frmS s2)).trans F6⟩
        · show (0 : Int) ≤ (if z.2.2 + j < 10 ^ 30 then z.2.2 + j else 10 ^ 30)
          split <;> omega
        · show (if z.2.2 + j < 10 ^ 30 then z.2.2 + j else 10 ^ 30) ≤ (10 : Int) ^ 30
          split <;> omega
      clear hf ha2 hA2 hF2 F2 P2
      rintro σ'' H3 ⟨fst, rfl, hf, ha3, hA3, P3, hF3⟩
      -- size
      refine ⟨_, rfl, _, rfl, p, 9, _, rfl, by decide, by decide, P3, by omega, fun r1 H4 h10 _ P4 F4 => ?_⟩
      refine ⟨_, rfl, _, _, rfl, rfl, hpow, p, _, _, rfl, by decide, by decide, P4, by omega, fun r2 H5 h20 _ P5 F5 => ?_⟩
      refine ⟨by show 6 ≤ sizeLine; decide, fun l hl => ?_⟩
      refine ⟨p, l, _, _, rfl, .inl (.inl upd_same), by show 0 < 6; decide, by show 6 ≤ 1000; decide, P5.new hl, by omega, fun v H6 hv P6 F6 => ?_⟩
      obtain ⟨sz, rfl, hsz⟩ : ∃ sz : Int, v = .int sz ∧ 0 ≤ sz := by
        simp only [List.mem_cons, List.not_mem_nil, or_false] at hv
        rcases hv with e | e | e | e | e | e <;> subst e <;> exact ⟨_, rfl, by omega⟩
      have sl := same_lay (o := .lst [.int 0, .int 0, .int 1, .int 2, .int r1, .int r2]) hl
      have FF : Frm p H3 H6 := ((F4.trans F5).trans (frmS sl)).trans F6
      have ha6 : H6 a0 = some (.lst (refs L)) := FF.lst P3 ha3
      have hA6 := hA3.frm FF P3
      have hf2 := place_iff hf
      have hfe : fst ≤ 10 ^ 30 := hf2.2
      refine ⟨_, rfl, .inl ⟨rfl, _, .inl (.inl ha6)⟩, _, rfl, _, _, rfl, rfl, hpow, _, rfl, _, rfl, _, _, rfl, rfl, .inl ⟨_, rfl, _, _, rfl, by show 2 ≤ sizeLine; decide, fun T hT => ?_⟩⟩
      have sT := same_lay (o := .tup [.int fst, .int (if fst + sz < 10 ^ (30 : Int).toNat then fst + sz else 10 ^ (30 : Int).toNat)]) hT
      have nTa : T ≠ a0 := by
        intro e
        rw [e, ha6] at hT
        cases hT
      refine ⟨a0, _, _, rfl, rfl, sT _ _ ha6, small1000 (by rw [refs_len]; omega), ?_⟩
      have nLa : ∀ q ∈ L, q.1 ≠ a0 := fun q hq => ne_of (hA6 q hq) ha6 (by intro z; cases z)
      refine ⟨_, _, _, L ++ [(T, (fst, if fst + sz < 10 ^ (30 : Int).toNat then fst + sz else 10 ^ (30 : Int).toNat))], rfl, by rw [upd_same, refs_snoc], ?_, ?_, by rw [List.length_append, hlen]; rfl, ?_, ?_⟩
      · intro q hq
        rcases List.mem_append.mp hq with k | k
        · rw [upd_ne (nLa q k)]; exact sT _ _ (hA6 q k)
        · rw [List.mem_singleton.mp k, upd_ne nTa, upd_same]
      · intro x hx
        rw [rws_snoc] at hx
        rcases List.mem_append.mp hx with k | k
        · exact hok x k
        · rw [List.mem_singleton.mp k]
          refine okRow_of hf2.1 ?_ ?_
          · show fst ≤ (if fst + sz < 10 ^ 30 then fst + sz else 10 ^ 30)
            split <;> omega
          · show (if fst + sz < 10 ^ 30 then fst + sz else 10 ^ 30) ≤ (10 : Int) ^ 30
            split <;> omega
      · exact ((P6.same' sT).put (((hF3.trans FF).trans (frmS sT)).ce c0 hc0) (sT _ _ ha6) nca0).mono (by omega)
      · refine ⟨fun b o e nb => ?_, fun c hc => ?_⟩
        · rw [upd_ne (ne_of_none e na)]
          exact sT _ _ (FF _ _ (hF3 _ _ e nb) nb)
        · obtain ⟨k, l', e⟩ := ((hF3.trans FF).trans (frmS sT)).ce c hc
          exact ⟨k, l', by rw [upd_ne (ne_of e (sT _ _ ha6) (by intro z; cases z))]; exact e⟩
    · rintro σ H' ⟨s3, s4, s5, L, rfl, ha, hA, hok, hl, hPn, hF⟩
      exact ⟨_, rfl, q a0 L H' na ha hA hok (by omega) (hPn.mono (by omega)) hF⟩
end
end OR

namespace OR
open PySem PySem.Spec PyProof.Rows L2
/-! ### the law's own merging -/
theorem bt_set : bootBuiltins ("set" : Str) = some (.type "set") := by decide +kernel
theorem ok_of_mem {l m : List Row} (hn : Nf m) (h : ∀ x, mem m x ↔ mem l x) (hl : ∀ r ∈ l, okRow r = true) : ∀ r ∈ m, okRow r = true := fun r hr => by
  have hle := hn.ok r hr
  obtain ⟨q1, hq1, a1, b1⟩ := (h r.1).mp ⟨r, hr, Int.le_refl _, hle⟩
  obtain ⟨q2, hq2, a2, b2⟩ := (h r.2).mp ⟨r, hr, hle, Int.le_refl _⟩
  have o1 := okRow_iff (hl q1 hq1)
  have o2 := okRow_iff (hl q2 hq2)
  exact okRow_of (a := r.1) (b := r.2) (by omega) hle (by omega)
theorem call_setO {X : Cx} (K : PySem.W.Frag) (P : Program) (w : World) (hK : X.K = K) (hP : X.prog = P) (hw : X.w = w) (hc : X.calm = true) (hu : X.A.units + 64 < cLine) : CallR X (.type "set") (rSetOfT K P w) := by
  subst hK hP hw
  exact cr_setOfT hc hu
def spMerged (K : PySem.W.Frag) : Sp := fun vs H Q _ => ∃ (a : Addr) (L : List ARow), vs = [.ref a] ∧ SqL K H a (refs L) ∧ AtR H L ∧ (∀ r ∈ rws L, okRow r = true) ∧ L.length < 64 ∧
  ∀ (o : Addr) (M : List ARow) (H' : Hp), Same H H' → H o = none → H' o = some (.lst (refs M)) → AtR H' M → Nf (rws M) → (∀ x, mem (rws M) x ↔ mem (rws L) x) → M.length < 64 → M.length ≤ L.length → Q (.ref o) H'
theorem nodup_le {α : Type} : ∀ {l m : List α}, l.Nodup → (∀ x ∈ l, x ∈ m) → l.length ≤ m.length
  | [], _, _, _ => Nat.zero_le _
  | x :: l, m, h, s => by
    obtain ⟨h1, h2⟩ := List.nodup_cons.mp h
    obtain ⟨a, b, rfl⟩ := List.append_of_mem (s x List.mem_cons_self)
    have k : l.length ≤ (a ++ b).length := nodup_le h2 fun y hy => by
      have hy2 := s y (List.mem_cons_of_mem _ hy)
      rcases List.mem_append.mp hy2 with c | c
      · exact List.mem_append_left _ c
      · rcases List.mem_cons.mp c with e | c
        · exact absurd (e ▸ hy) h1
        · exact List.mem_append_right _ c
    rw [List.length_append] at k
    rw [List.length_append, List.length_cons, List.length_cons]
    omega
/-- an arrangement of some of the rows, as lists of integers -/
def ilist (L : List ARow) : List (Addr × List Int) := L.map fun p => (p.1, [p.2.1, p.2.2])
theorem refs_ilist (L : List ARow) : (ilist L).map (fun p => V.ref p.1) = refs L := by
  unfold ilist refs
  rw [List.map_map]
  rfl
theorem of_ilist : ∀ {L' : List (Addr × List Int)} {L : List ARow}, (∀ q ∈ L', q ∈ ilist L) → ∃ S : List ARow, L' = ilist S ∧ ∀ p ∈ S, p ∈ L
  | [], _, _ => ⟨[], rfl, fun _ z => nomatch z⟩
  | q :: L', L, h => by
    obtain ⟨S, e, hS⟩ := of_ilist (L' := L') (L := L) fun z hz => h z (List.mem_cons_of_mem _ hz)
    have hq := h q List.mem_cons_self
    unfold ilist at hq
    obtain ⟨p, hp, rfl⟩ := List.mem_map.mp hq
    refine ⟨p :: S, by rw [e]; rfl, fun z hz => ?_⟩
    rcases List.mem_cons.mp hz with k | k
    · rw [k]; exact hp
    · exact hS z k
theorem bd_row {r : Row} (h : okRow r = true) : TS.Bd (lastP + 1) [r.1, r.2] := fun m hm => by
  have o := okRow_iff h
  simp only [List.mem_cons, List.not_mem_nil, or_false] at hm
  rcases hm with rfl | rfl <;> constructor <;> omega
section
variable {P : Program} {w : World} {K : PySem.W.Frag} {mg : Str → Option Value} {base : Heap}
theorem scMg : FnScope ["_law_rows", "_law_found", "_law_first", "_law_last", "_law_before"] ["_law_rows"] (defScope sMerged) := ⟨rfl, rfl, rfl, by decide +kernel, rfl, by decide +kernel, by decide +kernel⟩
theorem ok_merged {f : Addr} {fd : FuncData} (F : Fun K "_law_merged" "_law_merged" sMerged f fd) (B : Bd mg) : FnOk P w K mg base CX0 1 f fd ["_law_rows"] (spMerged K) := by
  refine F.ok scMg (fun vs H Q E h => ?_) (fun cdv A outer s H vs Q E hr h => ?_)
  · obtain ⟨a, L, rfl, _⟩ := h
    rfl
  · obtain ⟨a, L, rfl, hS, hA0, hok, hlen, q⟩ := h
    have nd := scMg.nd
    have hu64 : (A.deeper (envOfC "_law_merged" (defScope sMerged) s.heap.objs.size f cdv)).units + 64 < cLine := hr.units
    refine ⟨_, pss_cons (ps_set (i := 1) nd rfl (.inl rfl) (pe_lst pa_nil))
      (pss_cons (ps_for PassesOwn.never rfl (pi_list (pe_callB (cr_sortedT rfl) (by rfl) B.sorted bt_sorted (pa_cons (pe_callTy (call_setO K P w rfl rfl rfl rfl hu64) (by rfl) B.set bt_set (pa_cons (pv 0) pa_nil)) pa_nil)))
          (pg_tup rfl (pgs_cons (pg_name (i := 2) nd rfl (.inl rfl)) (pgs_cons (pg_name (i := 3) nd rfl (.inl rfl)) pgs_nil)))
        (pss_one (ps_if (PW.pt (pw_and (pt_cmpR (op_neD hu64) (pv 1) (pe_lst pa_nil) (nomark _)) (pw_and1 (pt_cmpR op_le (pv 2) (pe_op op_add (pe_ix ix_tup (pe_ix ix_list (pv 1) (pe_un un_neg pe_int) (fun _ _ => rfl)) pe_int (fun _ _ => rfl)) pe_int) (nomark _)))))
          (pss_cons (ps_set (i := 4) nd rfl (.inl rfl) (pe_bm0 PySem.F.plainAttrs_list PySem.F.slot_list_pop PySem.F.type_list_pop mt_pop (pv 1)))
          (pss_one (ps_expr (pe_bm PySem.F.plainAttrs_list PySem.F.slot_list_append PySem.F.type_list_append mt_append (pv 1) (pa_cons (pe_tup (pa_cons (pe_ix ix_tup (pv 4) pe_int (fun _ _ => rfl))
              (pa_cons (pe_callB (call_max2 rfl) (by rfl) B.max bt_max (pa_cons (pe_callTy call_int1 (by rfl) B.int bt_int (pa_cons (pe_ix ix_tup (pv 4) pe_int (fun _ _ => rfl)) pa_nil)) (pa_cons (pe_callTy call_int1 (by rfl) B.int bt_int (pa_cons (pv 3) pa_nil)) pa_nil))) pa_nil))) pa_nil)))))
          (pss_one (ps_expr (pe_bm PySem.F.plainAttrs_list PySem.F.slot_list_append PySem.F.type_list_append mt_append (pv 1) (pa_cons (pe_tup (pa_cons (pv 2) (pa_cons (pv 3) pa_nil))) pa_nil)))))))
      (pss_one (ps_ret (pv 1)))), ?_⟩
    refine ⟨Nat.zero_le _, fun o no => ?_⟩
    have S1 := same_lay (o := .lst []) no
    have hA1 := hA0.same S1
    refine ⟨_, rfl, a, ilist L, rfl, by rw [refs_ilist]; exact S1.seq hS, fun p hp => ?_, by unfold ilist; rw [List.length_map]; exact hlen, fun u L1 nu h1 h2 => ?_⟩
    · unfold ilist at hp
      obtain ⟨z, hz, rfl⟩ := List.mem_map.mp hp
      exact .inl (.inl (hA1 z hz))
    have S2 := S1.trans (same_lay (o := SetTO P w u L1) nu)
    have hA2 := hA0.same S2
    obtain ⟨Z, rfl, hZ⟩ := of_ilist h1
    refine ⟨u, ilist Z, 2, lastP + 1, rfl, upd_same, fun p hp => ?_, by decide, fun p hp => ?_, fun L' d hperm hnd hlt hsort nd2 => ?_⟩
    · unfold ilist at hp
      obtain ⟨z, hz, rfl⟩ := List.mem_map.mp hp
      exact .inl (.inl (hA2 z (hZ z hz)))
    · unfold ilist at hp
      obtain ⟨z, hz, rfl⟩ := List.mem_map.mp hp
      exact ⟨rfl, bd_row (hok z.2 (mem_rws.mpr ⟨z.1, hZ z hz⟩))⟩
    obtain ⟨S, rfl, hSL⟩ := of_ilist (L := L) fun y hy => h1 y (hperm.mem_iff.mp hy)
    have S3 := S2.trans (same_lay (o := .lst ((ilist S).map fun q => V.ref q.1)) nd2)
    have hSA : AtR (upd (upd (upd H o (.lst [])) u (SetTO P w u (ilist Z))) d (.lst ((ilist S).map fun q => V.ref q.1))) S := fun p hp => S3 _ _ (hA0 p (hSL p hp))
    have hSlen : S.length < 64 := by
      unfold ilist at hlt
      rw [List.length_map] at hlt
      exact hlt
    have hSL2 : S.length ≤ L.length := by
      have k := nodup_le (l := (ilist S).map (·.2)) (m := (ilist L).map (·.2)) hnd fun y hy => by
        obtain ⟨p, hp, rfl⟩ := List.mem_map.mp hy
        unfold ilist at hp
        obtain ⟨z, hz, rfl⟩ := List.mem_map.mp hp
        exact List.mem_map.mpr ⟨_, by unfold ilist; exact List.mem_map.mpr ⟨z, hSL z hz, rfl⟩, rfl⟩
      unfold ilist at k
      rw [List.length_map, List.length_map, List.length_map, List.length_map] at k
      exact k
    have hSm : ∀ r, r ∈ rws S ↔ r ∈ rws L := fun r => by
      constructor
      · intro hr
        obtain ⟨a', ha'⟩ := mem_rws.mp hr
        exact mem_rws.mpr ⟨a', hSL _ ha'⟩
      · intro hr
        obtain ⟨a', ha'⟩ := mem_rws.mp hr
        have k1 := h2 (a', [r.1, r.2]) (by unfold ilist; exact List.mem_map.mpr ⟨(a', r), ha', rfl⟩)
        obtain ⟨y, hy, e⟩ := List.mem_map.mp k1
        have hy2 := hperm.mem_iff.mpr hy
        unfold ilist at hy2
        obtain ⟨z, hz, rfl⟩ := List.mem_map.mp hy2
        injection e with e1 e2
        injection e2 with e2 _
        exact mem_rws.mpr ⟨z.1, by rw [← Prod.ext e1 e2]; exact hz⟩
    have hso : (rws S).Pairwise fun r s => r.1 ≤ s.1 := by
      unfold ilist at hsort
      have := List.pairwise_map.mp hsort
      unfold rws
      refine List.pairwise_map.mpr (List.Pairwise.imp_of_mem (fun {x y} hx hy hxy => ?_) this)
      exact code_first (bd_row (hok x.2 ((hSm x.2).mp (mem_rws.mpr ⟨x.1, hx⟩)))) (bd_row (hok y.2 ((hSm y.2).mp (mem_rws.mpr ⟨y.1, hy⟩)))) hxy
    have hSok : ∀ r ∈ rws S, r.1 ≤ r.2 := fun r hr => okRow_le (hok r ((hSm r).mp hr))
    obtain ⟨hnf, hme⟩ := jfold_ok hSok hso
    rw [refs_ilist] at S3 hSA ⊢
    generalize hH5 : upd (upd (upd H o (.lst [])) u (SetTO P w u (ilist Z))) d (.lst (refs S)) = H5
    rw [hH5] at S3 hSA
    have nuo : o ≠ u := ne_of_none upd_same nu
    have nod : o ≠ d := by
      intro e
      rw [← e, upd_ne nuo, upd_same] at nd2
      cases nd2
    have ho5 : H5 o = some (.lst []) := by rw [← hH5, upd_ne nod, upd_ne nuo, upd_same]
    have hd5 : H5 d = some (.lst (refs S)) := by rw [← hH5, upd_same]
    have two : 2 ≤ sizeLine := by decide
    refine ⟨d, rfl, ⟨_, .inl (.inl hd5)⟩, for_list (K := K) (a := d) (xs := refs S) (fun i σ H' => ∃ f l b, ∃ A : List ARow, σ = [some (.ref a), some (.ref o), f, l, b] ∧ H' o = some (.lst (refs A)) ∧ AtR H' A ∧ rws A = (((rws S).take i).foldl jstep []).reverse ∧ Fre o H5 H' ∧ A.length ≤ i)
      ⟨none, none, none, [], rfl, ho5, (fun _ z => nomatch z), rfl, Fre.refl _ _, Nat.le_refl _⟩ (fun i σ H' _ ⟨_, _, _, _, _, _, _, _, fr, _⟩ => .inl (.inl (fr _ _ hd5 nod.symm))) ?_ ?_⟩
    · rintro i y σ H' hy ⟨f, l, b, A, rfl, hoA, hA, eA, fr, hAl⟩
      obtain ⟨z, hz, hzS, rfl⟩ := refs_get hy
      have hil : i < S.length := (List.getElem?_eq_some_iff.mp hz).1
      have ez : H' z.1 = some (.tup [.int z.2.1, .int z.2.2]) := fr _ _ (hSA z hzS) (ne_of (hSA z hzS) ho5 (by intro q; cases q))
      have e1 : ((rws S).take (i + 1)).foldl jstep [] = jstep (((rws S).take i).foldl jstep []) z.2 := by
        rw [List.take_add_one, rws_get hz, List.foldl_append]
        rfl
      have nAo : ∀ q ∈ A, q.1 ≠ o := fun q hq => ne_of (hA q hq) hoA (by intro w; cases w)
      refine ⟨z.1, _, rfl, .inl (.inl ez), rfl, _, _, rfl, _, _, rfl, rfl, ?_⟩
      -- found != []
      refine ⟨_, rfl, Nat.zero_le _, fun v hv => ?_⟩
      have sv := same_lay (o := .lst []) hv
      have hoV := sv _ _ hoA
      have hAV := hA.same sv
      have frV : Fre o H5 (upd H' v (.lst [])) := fr.trans fun b u e _ => sv b u e
      refine ⟨.list ((rws A).map rowD), .list [], .lst (.inl (.inl hoV)) (dp_rows hAV), .lst (.inl (.inl upd_same)) .nil, shp_lst _, rfl, _, rfl, ?_⟩
      generalize hHv : upd H' v (.lst []) = Hv
      rw [hHv] at hoV hAV frV
      have nAv : ∀ q ∈ A, q.1 ≠ o := nAo
      have alen : (refs A).length < sizeLine := small1000 (by rw [refs_len]; omega)
      have app : ∀ (b' : Option V) (_ : jstep (((rws S).take i).foldl jstep []) z.2 = z.2 :: ((rws S).take i).foldl jstep []) (T : Addr), Hv T = none →
          ∃ f' l' b'', ∃ A' : List ARow, [some (V.ref a), some (.ref o), some (.int z.2.1), some (.int z.2.2), b'] = [some (.ref a), some (.ref o), f', l', b''] ∧ (upd (upd Hv T (.tup [.int z.2.1, .int z.2.2])) o (.lst (refs A ++ [.ref T]))) o = some (.lst (refs A')) ∧ AtR (upd (upd Hv T (.tup [.int z.2.1, .int z.2.2])) o (.lst (refs A ++ [.ref T]))) A' ∧
            rws A' = (((rws S).take (i + 1)).foldl jstep []).reverse ∧ Fre o H5 (upd (upd Hv T (.tup [.int z.2.1, .int z.2.2])) o (.lst (refs A ++ [.ref T]))) ∧ A'.length ≤ i + 1 := by
        intro b' hj Tn hT
        have s4 := same_lay (o := .tup [.int z.2.1, .int z.2.2]) hT
        have noT : Tn ≠ o := by
          intro e
          rw [e, hoV] at hT
          cases hT
        refine ⟨_, _, _, A ++ [(Tn, z.2)], rfl, by rw [upd_same, refs_snoc], ?_, ?_, (frV.trans (fun b u e _ => s4 b u e)).trans Fre.put, by rw [List.length_append]; exact Nat.succ_le_succ hAl⟩
        · intro q hq
          rcases List.mem_append.mp hq with k | k
          · rw [upd_ne (nAo q k)]; exact s4 _ _ (hAV q k)
          · rw [List.mem_singleton.mp k, upd_ne noT, upd_same]
        · rw [rws_snoc, eA, e1, hj, List.reverse_cons]
      cases hacc : ((rws S).take i).foldl jstep [] with
      | nil =>
        have eA0 : A = [] := by
          rw [hacc] at eA
          exact List.map_eq_nil_iff.mp eA
        refine ite2 (fun k => ?_) (fun _ => iteF ?_)
        · rw [eA0] at k
          exact absurd k (by decide)
        · refine ⟨_, rfl, .inl ⟨rfl, _, .inl (.inl hoV)⟩, _, rfl, _, rfl, two, fun Tn hT => ?_⟩
          refine ⟨o, refs A, _, rfl, rfl, same_lay hT _ _ hoV, alen, ?_⟩
          exact app b (by rw [hacc]; rfl) Tn hT
      | cons q0 t0 =>
        have eA1 : rws A = t0.reverse ++ [q0] := by rw [eA, hacc, List.reverse_cons]
        obtain ⟨B', A2, rfl, eB, eA2⟩ := List.map_eq_append_iff.mp eA1
        obtain ⟨⟨aq, q1⟩, A3, rfl, eq1, eA3⟩ := List.map_eq_cons_iff.mp eA2
        obtain rfl := List.map_eq_nil_iff.mp eA3
        obtain rfl : q1 = q0 := eq1
        have haq : Hv aq = some (.tup [.int q1.1, .int q1.2]) := hAV (aq, q1) (List.mem_append_right _ (List.mem_singleton.mpr rfl))
        have hoW := hoV
        rw [refs_snoc] at hoV
        have hSo : SqL K Hv o (refs B' ++ [.ref aq]) := .inl (.inl hoV)
        have hSq : SqT K Hv aq [.int q1.1, .int q1.2] := .inl (.inl haq)
        have g0 : atI [V.int q1.1, .int q1.2] 0 = some (.int q1.1) := atI_nat (j := 0) rfl
        have g1 : atI [V.int q1.1, .int q1.2] 1 = some (.int q1.2) := atI_nat (j := 1) rfl
        have gl : atI (refs B' ++ [V.ref aq]) (-1) = some (.ref aq) := atI_last _ _
        refine ite2 (fun _ => ?_) (fun k => ?_)
        · refine ⟨_, rfl, _, rfl, 1, rfl, o, _, -1, _, rfl, rfl, hSo, gl, aq, _, 1, _, rfl, rfl, hSq, g1, _, _, rfl, rfl, _, _, rfl, rfl, _, rfl, ite2 (fun c => ?_) (fun c => ?_)⟩
          · have hc : z.2.1 ≤ q1.2 + 1 := of_decide_eq_true c
            -- before = found.pop()
            refine ⟨_, rfl, .inl ⟨rfl, _, .inl (.inl hoV)⟩, o, _, .ref aq, rfl, rfl, hoV, ?_, ?_⟩
            · rw [List.length_append, List.getElem?_append_right (by simp)]
              simp
            rw [List.dropLast_concat]
            have nqo : aq ≠ o := ne_of haq hoV (by intro w; cases w)
            have haq2 : (upd Hv o (.lst (refs B'))) aq = some (.tup [.int q1.1, .int q1.2]) := by rw [upd_ne nqo]; exact haq
            have hSq2 : SqT K (upd Hv o (.lst (refs B'))) aq [.int q1.1, .int q1.2] := .inl (.inl haq2)
            refine ⟨_, rfl, .inl ⟨rfl, _, .inl (.inl upd_same)⟩, _, rfl, aq, _, 0, _, rfl, rfl, hSq2, g0, _, rfl, aq, _, 1, _, rfl, rfl, hSq2, g1, .inl ⟨_, rfl, _, rfl, .inl ⟨_, rfl, _, _, rfl, two, fun Tn hT => ?_⟩⟩⟩
            have s4 := same_lay (o := .tup [.int q1.1, .int (if z.2.2 > q1.2 then z.2.2 else q1.2)]) hT
            have noT : Tn ≠ o := by
              intro e
              rw [e, upd_same] at hT
              cases hT
            refine ⟨o, _, _, rfl, rfl, s4 _ _ upd_same, small1000 (by rw [refs_len]; rw [List.length_append] at hAl; omega), ?_⟩
            refine ⟨_, _, _, B' ++ [(Tn, (q1.1, if z.2.2 > q1.2 then z.2.2 else q1.2))], rfl, by rw [upd_same, refs_snoc], ?_, ?_, ((frV.trans Fre.put).trans (fun b u e _ => s4 b u e)).trans Fre.put, ?_⟩
            · intro q hq
              rcases List.mem_append.mp hq with k | k
              · have nq := nAo q (List.mem_append_left _ k)
                rw [upd_ne nq]
                refine s4 _ _ ?_
                rw [upd_ne nq]
                exact hAV q (List.mem_append_left _ k)
              · rw [List.mem_singleton.mp k, upd_ne noT, upd_same]
            · rw [rws_snoc, e1, hacc]
              show rws B' ++ [(q1.1, if z.2.2 > q1.2 then z.2.2 else q1.2)] = (if z.2.1 ≤ q1.2 + 1 then (q1.1, if z.2.2 > q1.2 then z.2.2 else q1.2) :: t0 else z.2 :: q1 :: t0).reverse
              rw [if_pos hc, List.reverse_cons]
              exact congrArg (· ++ [(q1.1, if z.2.2 > q1.2 then z.2.2 else q1.2)]) eB
            · rw [List.length_append] at hAl ⊢
              exact Nat.le_succ_of_le hAl
          · have hc : ¬ z.2.1 ≤ q1.2 + 1 := fun w => c (decide_eq_true w)
            refine ⟨_, rfl, .inl ⟨rfl, _, .inl (.inl hoV)⟩, _, rfl, _, rfl, two, fun Tn hT => ?_⟩
            refine ⟨o, _, _, rfl, rfl, same_lay hT _ _ hoV, by rw [← refs_snoc]; exact alen, ?_⟩
            rw [← refs_snoc]
            refine app b ?_ Tn hT
            rw [hacc]
            show (if z.2.1 ≤ q1.2 + 1 then (q1.1, if z.2.2 > q1.2 then z.2.2 else q1.2) :: t0 else z.2 :: q1 :: t0) = z.2 :: q1 :: t0
            rw [if_neg hc]
        · exfalso
          apply k
          show (!PyData.eqvAll ((rws (B' ++ [(aq, q1)])).map rowD) []) = true
          rw [rws_snoc, List.map_append]
          cases (rws B').map rowD <;> rfl
    · rintro σ H' ⟨f, l, b, A, rfl, hoA, hA, eA, fr, hAl⟩
      rw [refs_len, List.take_of_length_le (by rw [rws_len]; exact Nat.le_refl _)] at eA
      have eN : rws A = (jfold (rws S)).reverse := eA
      have s6 : Same H H' := fun b u e => fr b u (S3 b u e) (ne_of_none e no)
      refine ⟨_, rfl, q o A H' s6 no hoA hA (by rw [eN]; exact hnf) (fun x => ?_) ?_ ?_⟩
      · rw [eN, hme x]
        exact mem_same hSm x
      · rw [refs_len] at hAl
        omega
      · rw [refs_len] at hAl
        omega
end
end OR

namespace OR
open PySem PySem.Spec PyProof.Rows L2
/-! ### own ==, !=, bool -/
section
variable {prog : Program} {w : World} {A : Around} {E : Value → Shared → Prop} {s : Shared} {K : PySem.W.Frag} {x C L f : Addr} {h₀ : Heap} {m : Str → Option Value} {ox : Obj} {od : Option Obj} {b tb : Value}
theorem ifBound_ne {M : Model} {args : List Value} {Q : Option Value → Shared → Prop} (X : K.In s.heap) (I : PySem.W.InstAt s.heap x ox C od) (hs : PySem.W.findIn K (.ref C) "__ne__" = some (some (.builtin "object.__ne__")))
    (h : wpAny M A (call (.builtin "object.__ne__") (.ref x :: args)) (fun v => Q (some v)) E s) : wpAny M A (callSpecialIfBound? (.ref x) "__ne__" args) Q E s := by
  simp only [callSpecialIfBound?, bindSpecialIfBound?]
  refine wpAny_holding (wpAny_bind (wpAny_bind (wpAny_bind (I.type.here ((PySem.W.looks_findIn X hs).here ?_)))))
  simp only [PySem.F.cmp_object.ne.bind]
  refine wpAny_bind (wpAny_askSetting (wpAny_ite ?_))
  have fin : wpAny M A (call (.builtin "object.__ne__") ([.ref x] ++ args) >>= fun v => pure (some v)) Q E s := wpAny_bind (wpAny_mono h (fun v s' h' => wpAny_pure h') fun _ _ h' => h')
  split
  · exact wpAny_bind (wpAny_pure (wpAny_pure fin))
  · exact wpAny_tryCatch (wpAny_bind (wpAny_pure (wpAny_pure fin)))
theorem check_ne {M : Model} {Q : Unit → Shared → Prop} (X : K.In s.heap) (I : PySem.W.InstAt s.heap x ox C od) (hm : PySem.W.mroIn K C (.type "object") = some true) (hq : Q () s) :
    wpAny M A (PySem.checkBuiltinCall "object.__ne__" ⟨[.ref x, b], []⟩) Q E s := by
  have hsig : ∃ sig, Manifest.signature? "object.__ne__" = sig := ⟨_, rfl⟩
  obtain ⟨sig, hsig⟩ := hsig
  have ha := PySem.F.cmpArgs_ne (.ref x) b
  unfold argsOk at ha
  simp only [PySem.checkBuiltinCall, PySem.F.cmpKind_ne, PySem.F.cmpSplit_ne]
  refine wpAny_bind (m := PySem.isInstance _ _) ?_
  unfold PySem.isInstance
  refine wpAny_bind (I.type.here ((PySem.W.looks_mroIn X hm).here ?_))
  rw [hsig] at ha ⊢
  cases sig with
  | none => exact wpAny_pure hq
  | some sg =>
    have h2 : Bind.checkArgs "object.__ne__" sg ⟨[.ref x, b], []⟩ = pure () := ha
    show wpAny M A (Bind.checkArgs "object.__ne__" sg ⟨[.ref x, b], []⟩) Q E _
    rw [h2]; exact wpAny_pure hq
/-- x != b by the own == of x -/
theorem ne_K {Q : Value → Shared → Prop} (hu : A.units + 1 < cLine) (F : PyProof.Rows.Fr h₀ L s.heap m) (X₀ : K.In h₀) (I : PySem.W.InstAt s.heap x ox C od) (hb : PySem.W.Looks (model prog w) s.heap (typeOf b) tb) (hn : PySem.W.notFirst K C tb = true)
    (h1 : PySem.W.findIn K (.ref C) "__ne__" = some (some (.builtin "object.__ne__"))) (hm : PySem.W.mroIn K C (.type "object") = some true) (hs : PySem.W.findIn K (.ref C) "__eq__" = some (some (.ref f))) (hf : PySem.W.isFn K (.ref f) = true)
    (h : wpAny (model prog w) A.in1 (call (.ref f) [.ref x, b]) (fun v s' => ∃ k, v = .bool k ∧ Q (.bool (!k)) s') E s) : wpAny (model prog w) A (richCompare .NotEq (.ref x) b) Q E s := by
  have X := X₀.keeps F.keep
  have entry : wpAny (model prog w) A.in1 (Builtin.«object.__ne__» ⟨[.ref x, b], []⟩) (fun r s' => ∃ k, r = .done (.ret (.bool (!k))) ∧ Q (.bool (!k)) s') E s := by
    unfold Builtin.«object.__ne__»
    refine wpAny_bind (m := PySem.slotArgs "__ne__" 1 _) (wpAny_pure ?_)
    refine wpAny_bind (wpAny_cRoomFor hu ?_)
    refine wpAny_bind (m := callSpecialIfBound? (.ref x) (Str.ofString "__eq__") [b]) (PySem.W.ifBound_K X I hs hf (wpAny_mono h (fun r s' hr => ?_) fun _ _ e => e))
    obtain ⟨k, rfl, hq⟩ := hr
    refine wpAny_bind (m := truthy (.bool k)) (wpAny_truthy_bool ?_)
    exact wpAny_pure ⟨k, rfl, hq⟩
  have one : wpAny (model prog w) A (tryCompare (.ref x) "__ne__" b) (fun r s' => ∃ v, r = some v ∧ Q v s') E s := by
    unfold tryCompare
    refine wpAny_bind (ifBound_ne X I h1 (wpAny_call (codeAny_call_builtin PySem.F.cmp_object.ne.plain PySem.F.cmpEntry_ne (check_ne X I hm (wpAny_mono entry (fun r s' z => ?_) fun _ _ e => e)))))
    obtain ⟨k, rfl, hq⟩ := z
    exact wpAny_pure ⟨_, rfl, hq⟩
  unfold richCompare
  simp only [oneThing_ref]
  refine wpAny_holding (wpAny_bind (wpAny_cRoomFor (by omega) ?_))
  refine wpAny_bind (I.type.here (wpAny_bind (hb.here ?_)))
  split
  · rename_i q
    have e : PySem.W.subIn K tb (.ref C) = some false := by
      rcases Bool.or_eq_true_iff.mp hn with e | e
      · rw [beq_iff_eq.mp e] at q; simp at q
      · exact beq_iff_eq.mp e
    refine wpAny_bind ((PySem.W.looks_subIn X e).here ?_)
    simp only [Bool.false_eq_true, if_false]
    refine wpAny_bind (wpAny_mono one (fun r s' z => ?_) fun _ _ e => e)
    obtain ⟨v, rfl, hq⟩ := z
    exact wpAny_pure hq
  · refine wpAny_bind (wpAny_pure ?_)
    simp only [Bool.false_eq_true, if_false]
    refine wpAny_bind (wpAny_mono one (fun r s' z => ?_) fun _ _ e => e)
    obtain ⟨v, rfl, hq⟩ := z
    exact wpAny_pure hq
theorem bool_truth {v : Value} {Q : Value → Shared → Prop} (h : wpAny (model prog w) A.in1.in1 (truthy v) (fun b s' => Q (.bool b) s') E s) : wpAny (model prog w) A (call (.type "bool") [v]) Q E s := by
  refine PySem.callType_codes (T := "bool") (Bi := Builtin.«object.__init__») (Q₁ := fun r s₁ => ∃ b, r = Value.bool b ∧ Q r s₁) PySem.F.called_bool (PySem.F.typeCall_bool_1 _) PySem.F.entry_object_init ?_ ?_
  · refine codeAny_of_tree ?_
    show wpAny _ A.in1.in1 (do checkBuiltinCall "bool.__new__" ⟨[.type "bool", v], []⟩; again (.builtin "bool.__new__" ⟨[.type "bool", v], []⟩)) _ _ s
    refine wpAny_bind (wpAny_of_eq (PySem.F.newCall_bool_1 _) (wpAny_pure ⟨plainId_quiet (by decide +kernel) _, codeAny_builtin PySem.F.entry_bool_new ?_⟩))
    rw [Around.under_plainId (by decide +kernel) _]
    unfold Builtin.«bool.__new__»
    refine wpAny_bind (wpAny_of_eq (a := true) (by first | rfl | kernel_rfl | (unfold isType; rw [isSubtype_type]; kernel_rfl)) ?_)
    refine PySem.W.KFB.if_not rfl ?_
    refine wpAny_bind (wpAny_of_eq (a := true) PySem.F.conv_sub_bool ?_)
    refine PySem.W.KFB.if_not rfl ?_
    refine wpAny_bind (wpAny_of_eq (a := [v]) rfl ?_)
    refine wpAny_bind (wpAny_mono h (fun b s' hq => ?_) fun _ _ e => e)
    exact wpAny_pure ⟨b, rfl, hq⟩
  · rintro obj s₁ ⟨b, rfl, hq⟩
    exact ⟨rfl, PySem.F.args_object_init_2 _ _, object_init_meets PySem.F.called_bool.init.lookup PySem.F.called_bool.made (by decide) prog w A.in1 _ s₁ ⟨rfl, rfl, hq⟩⟩
end
section
variable {X : Cx} {n : Nat} {C : Addr} {sp : Sp}
/-- what stands on the right: an instance of the class, or a value of a type that is no class below -/
def RightOf (K : PySem.W.Frag) (C : Addr) (H : Hp) (y : V) : Prop := ∃ tb, TyX K H y tb ∧ PySem.W.notFirst K C tb = true
/-- x == y by the own == of x -/
def rEqO (K : PySem.W.Frag) (C : Addr) (sp : Sp) : R2 := fun x y H Q => ∃ a dx fs, x = .ref a ∧ H a = some (.ins C dx fs) ∧ RightOf K C H y ∧ sp [x, y] H Q E0
theorem op_eqO (K : PySem.W.Frag) (hK : X.K = K) (m : Md X.prog X.w X.K X.mg X.base n C "__eq__" sp) (hr : Room n X.A) : OpR X (compareOp .Eq) (rEqO K C sp) := by
  subst hK
  intro pins s σ H x y v u Q I rx ry h
  obtain ⟨f, F, hs, hf, _⟩ := m.ex
  obtain ⟨a, dx, fs, rfl, ha, ⟨tb, hy, hn⟩, q⟩ := h
  cases (show v = Value.ref a from rx)
  obtain ⟨mA, J, _⟩ := ins_get I.hok ha
  obtain ⟨od, J, _⟩ := J.look
  obtain ⟨Pk, hk, hp, _⟩ := kit_of I ry hy
  obtain ⟨m, hF⟩ := I.fr
  refine PySem.W.cmp_K (op := .Eq) (tb := tb) hr.units0 hF I.ok.mod.kin J (hk.ty _ _ I.kIn hp) hn hs hf ?_
  refine wpAny_mono (wpAny_call (run_fnR (us := [.ref a, u]) (vs := [.ref a, y]) F hr pass0 I (.cons rfl (.cons ry .nil)) q)) (fun w s' z => ?_) fun _ _ x => x
  obtain ⟨z', H', I', rz, qz⟩ := z
  exact SlX.cmpback rz ⟨z', H', I', rz, qz⟩
/-- x != y by the own == of x -/
def rNeO (K : PySem.W.Frag) (C : Addr) (sp : Sp) : R2 := fun x y H Q => ∃ a dx fs, x = .ref a ∧ H a = some (.ins C dx fs) ∧ RightOf K C H y ∧ sp [x, y] H (fun z H' => ∃ k, z = .bl k ∧ Q (.bl (!k)) H') E0
theorem op_neO (K : PySem.W.Frag) (hK : X.K = K) (m : Md X.prog X.w X.K X.mg X.base n C "__eq__" sp) (h1 : PySem.W.findIn X.K (.ref C) "__ne__" = some (some (.builtin "object.__ne__"))) (hm : PySem.W.mroIn X.K C (.type "object") = some true) (hr : Room (n + 1) X.A) : OpR X (compareOp .NotEq) (rNeO K C sp) := by
  subst hK
  intro pins s σ H x y v u Q I rx ry h
  obtain ⟨f, F, hs, hf, _⟩ := m.ex
  obtain ⟨a, dx, fs, rfl, ha, ⟨tb, hy, hn⟩, q⟩ := h
  cases (show v = Value.ref a from rx)
  obtain ⟨mA, J, _⟩ := ins_get I.hok ha
  obtain ⟨od, J, _⟩ := J.look
  obtain ⟨Pk, hk, hp, _⟩ := kit_of I ry hy
  obtain ⟨m, hF⟩ := I.fr
  refine ne_K (tb := tb) (by have := hr.units; omega) hF I.ok.mod.kin J (hk.ty _ _ I.kIn hp) hn h1 hm hs hf ?_
  refine wpAny_mono (wpAny_call (SlX.run_at (us := [.ref a, u]) (ws := [.ref a, y]) F hr.in1 I.env0.in1 pass0 I (.cons rfl (.cons ry .nil)) q)) (fun w s' z => ?_) fun _ _ x => x
  obtain ⟨z', H', I', rz, k, ek, qz⟩ := z
  subst ek
  cases (show w = Value.bool k from rz)
  exact ⟨k, rfl, .bl (!k), H', I', rfl, qz⟩
/-- the truth of x by its own bool -/
def rTruO (C : Addr) (sp : Sp) : V → Hp → (Bool → Hp → Prop) → Prop := fun x H Q => ∃ a dx fs, x = .ref a ∧ H a = some (.ins C dx fs) ∧ sp [x] H (fun z H' => ∃ k, z = .bl k ∧ Q k H') E0
theorem tru_own (m : Md X.prog X.w X.K X.mg X.base n C "__bool__" sp) (hr : Room n X.A) : TruR X (rTruO C sp) := by
  intro pins s σ H x v Q I rx h
  obtain ⟨f, F, hs, hf, _⟩ := m.ex
  obtain ⟨a, dx, fs, rfl, ha, q⟩ := h
  cases (show v = Value.ref a from rx)
  obtain ⟨mA, J, _⟩ := ins_get I.hok ha
  obtain ⟨od, J, _⟩ := J.look
  obtain ⟨m, hF⟩ := I.fr
  refine PySem.W.truthy_K hF I.ok.mod.kin J hs hf ?_
  refine wpAny_mono (wpAny_call (run_fnR (us := [.ref a]) (vs := [.ref a]) F hr pass0 I (.cons rfl .nil) q)) (fun w s' z => ?_) fun _ _ x => x
  obtain ⟨z', H', I', rz, k, ek, qz⟩ := z
  subst ek
  cases (show w = Value.bool k from rz)
  exact ⟨H', I', qz⟩
/-- bool(x) by its own bool -/
def rBoolO (C : Addr) (sp : Sp) : List V → Hp → VK → Prop := fun xs H Q => ∃ a dx fs, xs = [.ref a] ∧ H a = some (.ins C dx fs) ∧ sp xs H (fun z H' => ∃ k, z = .bl k ∧ Q z H') E0
theorem call_boolO (m : Md X.prog X.w X.K X.mg X.base n C "__bool__" sp) (hr : Room (n + 2) X.A) : CallR X (.type "bool") (rBoolO C sp) := by
  intro pins s σ H xs us Q I r h
  obtain ⟨f, F, hs, hf, _⟩ := m.ex
  obtain ⟨a, dx, fs, rfl, ha, q⟩ := h
  obtain ⟨u, rfl, ru⟩ := r.one
  cases (show u = Value.ref a from ru)
  obtain ⟨mA, J, _⟩ := ins_get I.hok ha
  obtain ⟨od, J, _⟩ := J.look
  obtain ⟨m, hF⟩ := I.fr
  have hr2 : Room n X.A.in1.in1 := (show Room (n + 1) X.A.in1 from Room.in1 hr).in1
  refine bool_truth (PySem.W.truthy_K hF I.ok.mod.kin J hs hf ?_)
  refine wpAny_mono (wpAny_call (SlX.run_at (us := [.ref a]) (ws := [.ref a]) F hr2 I.env0.in1.in1 pass0 I (.cons rfl .nil) q)) (fun w s' z => ?_) fun _ _ x => x
  obtain ⟨z', H', I', rz, k, ek, qz⟩ := z
  subst ek
  cases (show w = Value.bool k from rz)
  exact ⟨.bl k, H', I', rfl, qz⟩
/-- bool(a tuple) -/
theorem call_boolT (K : PySem.W.Frag) (hK : X.K = K) : CallR X (.type "bool") (fun xs H Q => ∃ (a : Addr) (zs : List V), xs = [.ref a] ∧ SqT K H a zs ∧ Q (.bl (!zs.isEmpty)) H) := by
  subst hK
  intro pins s σ H xs us Q I r h
  obtain ⟨a, zs, rfl, hq, q⟩ := h
  obtain rfl := Vals.ref1 r
  obtain ⟨its, rv, pl, hz⟩ := I.tuple hq
  have hl := line63
  have hlen := rv.length
  exact bool_truth (truthy_tuple pl (by simp only [List.size_toArray]; omega) ⟨.bl (!zs.isEmpty), H, I.tok _, by rw [isEmpty_of rv]; rfl, q⟩)
end
end OR

namespace OR
open PySem PySem.Spec PyProof.Rows L2
/-! ### Places: made, compared, its truth -/
structure PMk' (P : Program) (w : World) (K : PySem.W.Frag) (mg : Str → Option Value) (base : Heap) (C : Addr) : Prop where
  T : PTxt K mg C
  made : ∃ f fd t0, Mk K C f ∧ FnOk P w K mg base CX0 4 f fd ["self", "stretches"] (spPlInit K C) ∧ Binds K fd ["self", "stretches"] [] ∧ Binds K fd ["self", "stretches"] [.ref t0] ∧ ∀ H : Hp, SqT K H t0 []
def tMkP (K : PySem.W.Frag) (C : Addr) (t : TA) : TE := fun σ H Q => t σ H fun vs H1 => ∃ (a : Addr) (L : List ARow), vs = [.ref a] ∧ (SqL K H1 a (refs L) ∨ SqT K H1 a (refs L)) ∧ L.length ≤ 1000 ∧ PairsAt H1 L ∧ (∀ r ∈ rws L, okRow r = true) ∧
  ∀ (x : Addr) (l : List Row) (H' : Hp), H1 x = none → IsP C H' x l → (∀ z, mem l z ↔ mem (rws L) z) → l.length ≤ L.length → Same H1 H' → Q (.ref x) H'
def tMkP0 (C : Addr) : TE := fun σ H Q => ∀ (x : Addr) (H' : Hp), H x = none → IsP C H' x [] → Same H H' → Q (.ref x) H'
theorem made_same {C x dx : Addr} {H H' : Hp} (nx : H x = none) (ndx : H dx = none) (hs : ∀ c o, (upd (upd H dx (.own x)) x (.ins C dx [])) c = some o → c ≠ x → H' c = some o) : Same H H' := fun c o e => by
  have ncx : c ≠ x := ne_of_none e nx
  refine hs c o ?_ ncx
  rw [upd_ne ncx, upd_ne (ne_of_none e ndx)]
  exact e
theorem pe_mkP {X : Cx} (K : PySem.W.Frag) (hK : X.K = K) {C : Addr} {j : Nat} {e : Expr} {es : List Expr} {t : TA} {p pos : Pos} (M : PMk' X.prog X.w X.K X.mg X.base C) (hr : Room j X.A) (hj : 5 ≤ j) (hg : Gl X "Places") (ha : PA X (e :: es) t)
    (he : starEach (e :: es) X.env = (false, eval e X.env) :: starEach es X.env := by rfl) (hpl : (backTo pos (starEach es X.env)).any (·.1) = false := by rfl) : PE X (.Call (.Name "Places" p) (e :: es) [] pos) (tMkP K C t) := by
  subst hK
  obtain ⟨f, fd, t0, mk, F, hb, _⟩ := M.made
  refine ⟨fun pins s σ H Q I h => ?_⟩
  refine wpAny_Call_Name_kw (ld_glob I hg M.T.mgC ?_ (by decide))
  refine PySem.W.callWith_K (h₀ := X.base) I.ok.mod.kin mk.kp (thn (ha.run pos pins s σ H _ I h) fun us s1 ⟨vs, H1, I1, r, q⟩ => ⟨I1.kIn, ?_⟩) he hpl
  obtain ⟨a, L, rfl, hS, hlen, hP, hok, q⟩ := q
  refine run_make mk F (hr.mono hj) hb .nil pass0 I1 r fun x dx nx ndx nex => ?_
  have S1 : Same H1 (upd (upd H1 dx (.own x)) x (.ins C dx [])) := fun c o e => by rw [upd_ne (ne_of_none e nx), upd_ne (ne_of_none e ndx)]; exact e
  exact ⟨x, dx, a, L, rfl, upd_same, hS.elim (fun e => .inl (S1.seq e)) (fun e => .inr (sameT S1 e)), hlen, hP.same S1, hok, fun l H' hs hp hme hle => ⟨rfl, q x l H' nx hp hme hle (made_same nx ndx hs)⟩⟩
theorem pe_mkP0 {X : Cx} {C : Addr} {j : Nat} {p pos : Pos} (M : PMk' X.prog X.w X.K X.mg X.base C) (hr : Room j X.A) (hj : 5 ≤ j) (hg : Gl X "Places") : PE X (.Call (.Name "Places" p) [] [] pos) (tMkP0 C) := by
  obtain ⟨f, fd, t0, mk, F, _, hb, ht⟩ := M.made
  refine ⟨fun pins s σ H Q I q => ?_⟩
  refine wpAny_Call_Name_kw (ld_glob I hg M.T.mgC ?_ (by decide))
  refine PySem.W.callWith_K0 I.kIn mk.kp (run_make (us := []) (vs := []) (dvs := [.ref t0]) mk F (hr.mono hj) hb (.cons rfl .nil) pass0 I .nil fun x dx nx ndx nex => ?_)
  refine ⟨x, dx, t0, [], rfl, upd_same, .inr (ht _), Nat.zero_le _, (fun _ z => nomatch z), (fun _ z => nomatch z), fun l H' hs hp hme _ => ⟨rfl, ?_⟩⟩
  have el : l = [] := Nf.unique hp.nf Nf.nil hme
  subst el
  exact q x H' nx hp (made_same nx ndx hs)
def spPlEq (K : PySem.W.Frag) (C : Addr) : Sp := fun vs H Q _ => ∃ x l y, vs = [.ref x, y] ∧ IsP C H x l ∧ ((∃ b m, y = .ref b ∧ IsP C H b m ∧ Q (.bl (decide (l = m))) H) ∨ (∃ T : String, TyX K H y (.type T) ∧ PySem.W.kitOne K (.type T) (.ref C) = some false ∧ Q (.bl false) H))
def spPlBool (C : Addr) : Sp := fun vs H Q _ => ∃ x l, vs = [.ref x] ∧ IsP C H x l ∧ Q (.bl (!l.isEmpty)) H
section
variable {P : Program} {w : World} {K : PySem.W.Frag} {mg : Str → Option Value} {base : Heap}
theorem tyP {C : Addr} (T : PTxt K mg C) {H : Hp} {x dx : Addr} {fs : List (Str × V)} (hx : H x = some (.ins C dx fs)) : TyX K H (.ref x) (.ref C) := .base (.ins hx T.cl T.isi.ca T.isi.cn T.isi.ct T.isi.cm)
theorem scEq : FnScope ["self", "other"] ["self", "other"] (defScope sPlEq) := ⟨rfl, rfl, rfl, by decide +kernel, rfl, by decide +kernel, by decide +kernel⟩
theorem ok_pleq {f C : Addr} {fd : FuncData} (F : Fun K "__eq__" "Places.__eq__" sPlEq f fd) (T : PTxt K mg C) : FnOk P w K mg base CX0 1 f fd ["self", "other"] (spPlEq K C) := by
  refine F.ok scEq (fun vs H Q E h => ?_) (fun cdv A outer s H vs Q E hr h => ?_)
  · obtain ⟨x, l, y, rfl, _⟩ := h
    rfl
  · obtain ⟨x, l, y, rfl, ⟨_, dx, t, fi, b, M, hx, ht, hM, rfl, _⟩, h⟩ := h
    have hu64 : (A.deeper (envOfC "Places.__eq__" (defScope sPlEq) s.heap.objs.size f cdv)).units + 64 < cLine := hr.units
    refine ⟨_, pss_one (ps_ret (pe_and (pe_callB call_isi (by rfl) T.zIsi bt_isi (pa_cons (pv 1) (pa_cons (pe_glob (v := .ref C) (by rfl) T.mgC rfl) pa_nil)))
      (pe_one (pe_cmpR (op_eqD hu64) (pe_fld (pv 0) rfl) (pe_fld (pv 1) rfl) (nomark _))))), ?_⟩
    rcases h with ⟨y, m, rfl, ⟨_, dy, t2, f2, b2, M2, hy, ht2, hM2, rfl, _⟩, q⟩ | ⟨ty, hT, hk, q⟩
    · refine ⟨_, rfl, .ref y, .ref C, _, _, true, rfl, .own C, tyP T hy, T.kPP, true, rfl, iteT ?_⟩
      refine ⟨_, rfl, x, C, dx, _, _, rfl, hx, T.cl, T.nS, pFl_s _ _ _, _, rfl, y, C, dy, _, _, rfl, hy, T.cl, T.nS, pFl_s _ _ _, .tuple ((rws M).map rowD), .tuple ((rws M2).map rowD), .tup (.inl (.inl ht)) (dp_rows hM), .tup (.inl (.inl ht2)) (dp_rows hM2), shp_tup _, shp_tup _, ?_⟩
      have e : PyData.eqv (.tuple ((rws M).map rowD)) (.tuple ((rws M2).map rowD)) = decide (rws M = rws M2) := eqv_rows _ _
      rw [e]
      exact q
    · exact ⟨_, rfl, y, .ref C, _, _, false, rfl, .own C, hT, hk, false, rfl, iteF q⟩
theorem scBo : FnScope ["self"] ["self"] (defScope sPlBool) := ⟨rfl, rfl, rfl, by decide +kernel, rfl, by decide +kernel, by decide +kernel⟩
theorem ok_plbool {f C : Addr} {fd : FuncData} (F : Fun K "__bool__" "Places.__bool__" sPlBool f fd) (T : PTxt K mg C) : FnOk P w K mg base CX0 1 f fd ["self"] (spPlBool C) := by
  refine F.ok scBo (fun vs H Q E h => ?_) (fun cdv A outer s H vs Q E hr h => ?_)
  · obtain ⟨x, l, rfl, _⟩ := h
    rfl
  · obtain ⟨x, l, rfl, ⟨_, dx, t, fi, b, M, hx, ht, hM, rfl, _⟩, q⟩ := h
    refine ⟨_, pss_one (ps_ret (pe_callTy (call_boolT K rfl) (by rfl) T.zBool bt_bool (pa_cons (pe_fld (pv 0) rfl) pa_nil))), ?_⟩
    refine ⟨_, rfl, x, C, dx, _, _, rfl, hx, T.cl, T.nS, pFl_s _ _ _, t, refs M, rfl, .inl (.inl ht), ?_⟩
    have e : (refs M).isEmpty = (rws M).isEmpty := by cases M <;> rfl
    rw [e]
    exact q
end
end OR

namespace OR
open PySem PySem.Spec PyProof.Rows L2
open TL (tl numL)
/-! ### words of places -/
def dT (n : Int) : Str := Str.ofString (toString n)
theorem str_ext {a b : Str} (h : tl a = tl b) : a = b := TL.ext_tl h
theorem app_assoc (a b c : Str) : (a ++ b) ++ c = a ++ (b ++ c) := str_ext (by rw [TL.tl_append, TL.tl_append, TL.tl_append, TL.tl_append, List.append_assoc])
theorem len_app (a b : Str) : (a ++ b).length = a.length + b.length := by rw [TL.len_tl, TL.len_tl, TL.len_tl, TL.tl_append, List.length_append]
theorem tl_dT {n : Int} (h : 0 ≤ n) : tl (dT n) = numL n.toNat := by
  have e : n = ((n.toNat : Nat) : Int) := (Int.toNat_of_nonneg h).symm
  unfold dT
  rw [e]
  exact TL.tl_num _
theorem dT_len {n : Int} {k : Nat} (h0 : 0 ≤ n) (hk : 0 < k) (h : n < 10 ^ k) : (dT n).length ≤ k := by
  rw [TL.len_tl, tl_dT h0]
  refine TL.numL_len hk ?_
  have : ((n.toNat : Nat) : Int) < ((10 ^ k : Nat) : Int) := by
    rw [Int.toNat_of_nonneg h0]
    have e : ((10 ^ k : Nat) : Int) = (10 : Int) ^ k := by simp
    rw [e]
    exact h
  exact Int.ofNat_lt.mp this
theorem dT_free {n : Int} {s : Nat} (h0 : 0 ≤ n) (h : s < 48 ∨ 57 < s) : s ∉ tl (dT n) := by
  rw [tl_dT h0]
  exact TL.numL_free h
theorem dT_digits {n : Int} (h0 : 0 ≤ n) : ∀ c ∈ tl (dT n), 48 ≤ c ∧ c ≤ 57 := by
  rw [tl_dT h0]
  exact fun c hc => TL.numL_digits _ c hc
theorem dT_ne {n : Int} (h0 : 0 ≤ n) : tl (dT n) ≠ [] := by
  rw [tl_dT h0]
  exact TL.numL_ne _
theorem numL_head (n : Nat) : (numL n).head? = some 48 → n = 0 := by
  induction n using Nat.strongRecOn with
  | _ n ih =>
    intro h
    by_cases hn : n < 10
    · rw [TL.numL_lt hn] at h
      have : 48 + n = 48 := Option.some.inj h
      omega
    · rw [TL.numL_step (by omega)] at h
      have hne := TL.numL_ne (n / 10)
      cases hl : numL (n / 10) with
      | nil => exact absurd hl hne
      | cons c r =>
        rw [hl] at h
        have := ih (n / 10) (by omega) (by rw [hl]; exact h)
        omega
theorem dT_int {n : Int} (h0 : 0 ≤ n) (h : n < 10 ^ 60) : intText? (dT n) = some n := by
  have e : n = ((n.toNat : Nat) : Int) := (Int.toNat_of_nonneg h0).symm
  have hl : (numL n.toNat).length ≤ 4300 := by
    have := dT_len h0 (by decide) h
    rw [TL.len_tl, tl_dT h0] at this
    omega
  have := TL.int_num hl
  unfold dT
  rw [e]
  exact this
theorem digit_asc {s : Str} (h : ∀ c ∈ tl s, 48 ≤ c ∧ c ≤ 57) : Txt.isascii s = true := by
  unfold Txt.isascii
  rw [← Array.all_toList, List.all_eq_true]
  intro c hc
  have := h c hc
  exact decide_eq_true (by omega)
theorem isD : ∀ c : Nat, 48 ≤ c → c ≤ 57 → Unicode.isDigit c = true := by
  intro c h1 h2
  have : c = 48 ∨ c = 49 ∨ c = 50 ∨ c = 51 ∨ c = 52 ∨ c = 53 ∨ c = 54 ∨ c = 55 ∨ c = 56 ∨ c = 57 := by omega
  rcases this with e | e | e | e | e | e | e | e | e | e <;> subst e <;> decide +kernel
theorem digit_dig {s : Str} (h : ∀ c ∈ tl s, 48 ≤ c ∧ c ≤ 57) (hn : tl s ≠ []) : Txt.isdigit s = true := by
  unfold Txt.isdigit
  rw [TL.len_tl, ← Array.all_toList]
  have : 0 < (tl s).length := List.length_pos_iff.mpr hn
  rw [decide_eq_true this, Bool.true_and, List.all_eq_true]
  intro c hc
  exact isD c (h c hc).1 (h c hc).2
theorem not_dig {s : Str} {c : Nat} (hc : c ∈ tl s) (h : Unicode.isDigit c = false) : Txt.isdigit s = false := by
  unfold Txt.isdigit
  rw [← Array.all_toList]
  have : (s.cps.toList.all Unicode.isDigit) = false := by
    rw [List.all_eq_false]
    exact ⟨c, hc, by rw [h]; decide⟩
  rw [this, Bool.and_false]
/-- what is no place, as it is read -/
def BadPl (s : Str) : Prop := Txt.isdigit s = false ∨ (∃ r, tl s = 48 :: r ∧ r ≠ []) ∨ ∃ n : Int, s = dT n ∧ lastP < n ∧ n ≤ lastP + 5
/-- the word of a stretch -/
def sT (r : Row) : Str := if r.1 = r.2 then dT r.1 else (dT r.1 ++ ("-" : Str)) ++ dT r.2
def noDash (s : Str) : Prop := 45 ∉ tl s
def BadW (w : Str) : Prop := (noDash w ∧ BadPl w) ∨ (∃ s e, w = (s ++ ("-" : Str)) ++ e ∧ noDash s ∧ BadPl s) ∨ (∃ (a : Int) (e : Str), w = (dT a ++ ("-" : Str)) ++ e ∧ 0 ≤ a ∧ a ≤ lastP ∧ BadPl e) ∨
  ∃ a b : Int, w = (dT a ++ ("-" : Str)) ++ dT b ∧ 0 ≤ a ∧ a ≤ lastP ∧ 0 ≤ b ∧ b ≤ a
def noBlank (w : Str) : Prop := 32 ∉ tl w
theorem dash_tl : tl ("-" : Str) = [45] := by decide
theorem blank_tl : tl (" " : Str) = [32] := by decide
theorem part_app {a b : Str} (h : noDash a) : Txt.partition ((a ++ ("-" : Str)) ++ b) ("-" : Str) = (a, ("-" : Str), b) := TL.partition_app dash_tl h
theorem part_none {a : Str} (h : noDash a) : Txt.partition a ("-" : Str) = (a, Str.empty, Str.empty) := TL.partition_none dash_tl h
theorem dT_noDash {n : Int} (h : 0 ≤ n) : noDash (dT n) := dT_free h (.inl (by decide))
theorem dT_noBlank {n : Int} (h : 0 ≤ n) : noBlank (dT n) := dT_free h (.inl (by decide))
theorem noBlank_app {a b : Str} (ha : noBlank a) (hb : noBlank b) : noBlank (a ++ b) := by
  unfold noBlank
  rw [TL.tl_append]
  exact fun h => (List.mem_append.mp h).elim ha hb
theorem nbs {s : Str} (h : (tl s).all (· != 32) = true) : noBlank s := fun hm => by
  have := List.all_eq_true.mp h 32 hm
  exact absurd this (by decide)
theorem sT_noBlank {r : Row} (h : 0 ≤ r.1) (h2 : 0 ≤ r.2) : noBlank (sT r) := by
  unfold sT
  split
  · exact dT_noBlank h
  · exact noBlank_app (noBlank_app (dT_noBlank h) (nbs (by decide))) (dT_noBlank h2)
theorem len_s {s : Str} {k : Nat} (h : (tl s).length ≤ k) : s.length ≤ k := by rw [TL.len_tl]; exact h
theorem lastP_lt {n : Int} (h : n ≤ lastP + 5) : n < 10 ^ 31 := by
  have : lastP = 10 ^ 30 := rfl
  omega
theorem sT_len {r : Row} (h : okRow r = true) : (sT r).length ≤ 70 := by
  obtain ⟨h1, h2, h3⟩ := okRow_iff h
  have a := dT_len (k := 31) (n := r.1) (by omega) (by decide) (lastP_lt (by omega))
  have b := dT_len (k := 31) (n := r.2) (by omega) (by decide) (lastP_lt (by omega))
  unfold sT
  split
  · omega
  · rw [len_app, len_app]
    show (dT r.1).length + 1 + (dT r.2).length ≤ 70
    omega
/-- a word that is wrong, and short, and without a blank -/
structure BadS (w : Str) : Prop where
  bad : BadW w
  nb : noBlank w
  len : w.length ≤ 100
theorem nd_empty : noDash Str.empty := fun (h : 45 ∈ ([] : List Nat)) => nomatch h
theorem bad_empty : BadPl (Str.empty) := .inl rfl
theorem badS_lit {w : Str} (h : Txt.isdigit w = false) (nd : (tl w).all (· != 45) = true) (nb : (tl w).all (· != 32) = true) (l : w.length ≤ 100) : BadS w := ⟨.inl ⟨fun hm => by
  have := List.all_eq_true.mp nd 45 hm
  exact absurd this (by decide), .inl h⟩, nbs nb, l⟩
section
variable {x : Int}
theorem xl (h0 : 0 ≤ x) (h1 : x ≤ lastP + 5) : (dT x).length ≤ 31 := dT_len h0 (by decide) (lastP_lt h1)
/-- the wrong words of the law -/
theorem bad1 : BadS ("" : Str) := badS_lit (by decide +kernel) (by decide) (by decide) (by decide)
theorem bad2 (h0 : 0 ≤ x) (h1 : x ≤ lastP) : BadS (("0" : Str) ++ dT x) := by
  have e : tl (("0" : Str) ++ dT x) = 48 :: tl (dT x) := by rw [TL.tl_append]; rfl
  refine ⟨.inl ⟨?_, .inr (.inl ⟨_, e, dT_ne h0⟩)⟩, noBlank_app (nbs (by decide)) (dT_noBlank h0), ?_⟩
  · unfold noDash
    rw [e]
    intro h
    rcases List.mem_cons.mp h with k | k
    · exact absurd k (by decide)
    · exact dT_noDash h0 k
  · rw [len_app]
    have := xl h0 (by omega)
    show 1 + (dT x).length ≤ 100
    omega
theorem bad3 (h0 : 0 ≤ x) (h1 : x ≤ lastP) : BadS ((dT x ++ ("-" : Str)) ++ dT x) := by
  refine ⟨.inr (.inr (.inr ⟨x, x, rfl, h0, h1, h0, Int.le_refl _⟩)), noBlank_app (noBlank_app (dT_noBlank h0) (nbs (by decide))) (dT_noBlank h0), ?_⟩
  rw [len_app, len_app]
  have := xl h0 (by omega)
  show (dT x).length + 1 + (dT x).length ≤ 100
  omega
theorem bad4 (h0 : 0 ≤ x) (h1 : x ≤ lastP) : BadS ((dT (x + 1) ++ ("-" : Str)) ++ dT x) := by
  refine ⟨?_, noBlank_app (noBlank_app (dT_noBlank (by omega)) (nbs (by decide))) (dT_noBlank h0), ?_⟩
  · by_cases h : x + 1 ≤ lastP
    · exact .inr (.inr (.inr ⟨x + 1, x, rfl, by omega, h, h0, by omega⟩))
    · exact .inr (.inl ⟨dT (x + 1), dT x, rfl, dT_noDash (by omega), .inr (.inr ⟨x + 1, rfl, by omega, by omega⟩)⟩)
  · rw [len_app, len_app]
    have := xl h0 (by omega)
    have := xl (x := x + 1) (by omega) (by omega)
    show (dT (x + 1)).length + 1 + (dT x).length ≤ 100
    omega
theorem bad5 (h0 : 0 ≤ x) (h1 : x ≤ lastP) : BadS (("-" : Str) ++ dT x) := by
  refine ⟨.inr (.inl ⟨Str.empty, dT x, ?_, nd_empty, bad_empty⟩), noBlank_app (nbs (by decide)) (dT_noBlank h0), ?_⟩
  · refine str_ext ?_
    rw [TL.tl_append, TL.tl_append, TL.tl_append]
    rfl
  · rw [len_app]
    have := xl h0 (by omega)
    show 1 + (dT x).length ≤ 100
    omega
theorem bad6 (h0 : 0 ≤ x) (h1 : x ≤ lastP) : BadS (dT x ++ ("-" : Str)) := by
  refine ⟨.inr (.inr (.inl ⟨x, Str.empty, ?_, h0, h1, bad_empty⟩)), noBlank_app (dT_noBlank h0) (nbs (by decide)), ?_⟩
  · refine str_ext ?_
    rw [TL.tl_append, TL.tl_append, TL.tl_append]
    show _ = _ ++ []
    rw [List.append_nil]
  · rw [len_app]
    have := xl h0 (by omega)
    show (dT x).length + 1 ≤ 100
    omega
theorem bad7 : BadS ("x" : Str) := badS_lit (by decide +kernel) (by decide) (by decide) (by decide)
theorem bad8 : BadS ("+3" : Str) := badS_lit (by decide +kernel) (by decide) (by decide) (by decide)
theorem bad9 : BadS (dT (10 ^ 30 + 1)) := ⟨.inl ⟨dT_noDash (by decide), .inr (.inr ⟨10 ^ 30 + 1, rfl, by decide, by decide⟩)⟩, dT_noBlank (by decide), Nat.le_trans (xl (by decide) (by decide)) (by decide)⟩
theorem bad10 : BadS (("7-" : Str) ++ dT (10 ^ 30 + 5)) := by
  refine ⟨.inr (.inr (.inl ⟨7, dT (10 ^ 30 + 5), ?_, by decide, by decide, .inr (.inr ⟨10 ^ 30 + 5, rfl, by decide, by decide⟩)⟩)), noBlank_app (nbs (by decide)) (dT_noBlank (by decide)), ?_⟩
  · have : ("7-" : Str) = dT 7 ++ ("-" : Str) := by decide +kernel
    rw [this]
  · rw [len_app]
    have := xl (x := 10 ^ 30 + 5) (by decide) (by decide)
    show 2 + (dT (10 ^ 30 + 5)).length ≤ 100
    omega
theorem bad11 : BadS ("1-2-3" : Str) := ⟨.inr (.inr (.inl ⟨1, ("2-3" : Str), by decide +kernel, by decide, by decide, .inl (by decide +kernel)⟩)), nbs (by decide), by decide⟩
theorem bad12 : BadS ("00" : Str) := ⟨.inl ⟨fun h => by revert h; decide, .inr (.inl ⟨[48], by decide, by decide⟩)⟩, nbs (by decide), by decide⟩
theorem bad13 : BadS ("2-03" : Str) := ⟨.inr (.inr (.inl ⟨2, ("03" : Str), by decide +kernel, by decide, by decide, .inr (.inl ⟨[51], by decide, by decide⟩)⟩)), nbs (by decide), by decide⟩
theorem bad14 : BadS ("-" : Str) := ⟨.inr (.inl ⟨Str.empty, Str.empty, by decide, nd_empty, bad_empty⟩), nbs (by decide), by decide⟩
theorem bad15 (h0 : 0 ≤ x) (h1 : x ≤ lastP) : BadS (dT x ++ ("-x" : Str)) := by
  refine ⟨.inr (.inr (.inl ⟨x, ("x" : Str), ?_, h0, h1, .inl (by decide +kernel)⟩)), noBlank_app (dT_noBlank h0) (nbs (by decide)), ?_⟩
  · rw [app_assoc]
    have : ("-x" : Str) = ("-" : Str) ++ ("x" : Str) := by decide
    rw [this]
  · rw [len_app]
    have := xl h0 (by omega)
    show (dT x).length + 2 ≤ 100
    omega
theorem bad16 : BadS ("3," : Str) := badS_lit (by decide +kernel) (by decide) (by decide) (by decide)
theorem bad17 : BadS ("none" : Str) := badS_lit (by decide +kernel) (by decide) (by decide) (by decide)
theorem bad18 : BadS ("None" : Str) := badS_lit (by decide +kernel) (by decide) (by decide) (by decide)
end
/-- the text of words -/
def jn (ws : List Str) : Str := Txt.join (" " : Str) ws
theorem split_jn {ws : List Str} (h : ws ≠ []) (hb : ∀ w ∈ ws, noBlank w) : Txt.split (jn ws) (" " : Str) = ws := TL.split_join blank_tl (by decide +kernel) h hb
theorem jn_snoc : ∀ {ws : List Str} (w : Str), ws ≠ [] → jn (ws ++ [w]) = (jn ws ++ (" " : Str)) ++ w := by
  intro ws w h
  unfold jn
  rw [TL.join_eq, TL.join_eq]
  induction ws with
  | nil => exact absurd rfl h
  | cons a r ih =>
    cases r with
    | nil => rfl
    | cons b r =>
      show a ++ (" " : Str) ++ Str.join (" " : Str) (b :: (r ++ [w])) = a ++ (" " : Str) ++ Str.join (" " : Str) (b :: r) ++ (" " : Str) ++ w
      have := ih (by simp)
      rw [List.cons_append] at this
      rw [this]
      simp only [app_assoc]
/-- what the reading of words gives -/
def GoodRows (ws : List Str) (rows : List Row) : Prop := ws = rows.map sT ∧ Nf rows ∧ ∀ r ∈ rows, okRow r = true
/-- the first wrong word stands at j -/
structure WrongAt (ws : List Str) (j : Nat) : Prop where
  ex : ∃ (rows : List Row) (w : Str), GoodRows (ws.take j) rows ∧ ws[j]? = some w ∧ (BadW w ∨ ∃ r q : Row, w = sT r ∧ okRow r = true ∧ rows.getLast? = some q ∧ r.1 < q.2 + 2)
end OR

namespace OR
open PySem PySem.Spec PyProof.Rows L2
open TL (tl numL)
open NumText (digitsVal AllDigits)
/-! ### lists of signs, their numbers -/
def ofL (l : List Nat) : Str := ⟨l.toArray⟩
theorem tl_ofL (l : List Nat) : tl (ofL l) = l := rfl
theorem ofL_tl (s : Str) : ofL (tl s) = s := str_ext (tl_ofL _)
theorem len_ofL (l : List Nat) : (ofL l).length = l.length := by rw [TL.len_tl, tl_ofL]
def bodyL : List Nat → List Nat
  | [] => []
  | c :: r => if c = 45 then r else c :: r
def allDig (l : List Nat) : Bool := !l.isEmpty && l.all fun c => decide (48 ≤ c ∧ c ≤ 57)
theorem allDig_iff (l : List Nat) : allDig l = true ↔ l ≠ [] ∧ AllDigits l := by
  unfold allDig AllDigits
  rw [Bool.and_eq_true, List.all_eq_true]
  constructor
  · rintro ⟨h1, h2⟩
    refine ⟨fun e => ?_, fun c hc => of_decide_eq_true (h2 c hc)⟩
    subst e
    cases h1
  · rintro ⟨h1, h2⟩
    refine ⟨?_, fun c hc => decide_eq_true (h2 c hc)⟩
    cases l with
    | nil => exact absurd rfl h1
    | cons _ _ => rfl
theorem isD_lt : ∀ c : Nat, c < 128 → Unicode.isDigit c = true → 48 ≤ c ∧ c ≤ 57 := by decide +kernel
theorem ascDig_iff (l : List Nat) : (Txt.isascii (ofL l) && Txt.isdigit (ofL l)) = allDig l := by
  rw [Bool.eq_iff_iff, allDig_iff, Bool.and_eq_true]
  constructor
  · rintro ⟨h1, h2⟩
    unfold Txt.isascii at h1
    unfold Txt.isdigit at h2
    rw [← Array.all_toList, List.all_eq_true] at h1
    rw [Bool.and_eq_true, ← Array.all_toList, List.all_eq_true] at h2
    refine ⟨fun e => ?_, fun c hc => isD_lt c (of_decide_eq_true (h1 c hc)) (h2.2 c hc)⟩
    subst e
    exact absurd h2.1 (by decide)
  · rintro ⟨h1, h2⟩
    exact ⟨digit_asc (s := ofL l) h2, digit_dig (s := ofL l) h2 h1⟩
def decL (l : List Nat) : Option Int :=
  if allDig (bodyL l) = true then
    if (bodyL l).head? = some 48 ∧ l ≠ [48] then none
    else some (if l.head? = some 45 then -((digitsVal (bodyL l) : Nat) : Int) else ((digitsVal (bodyL l) : Nat) : Int))
  else none
theorem fold_acc : ∀ (b : List Nat) (acc : Nat), b.foldl (fun a c => a * 10 + (c - 48)) acc = acc * 10 ^ b.length + digitsVal b
  | [], acc => by simp [digitsVal]
  | c :: r, acc => by
    have h1 := fold_acc r (acc * 10 + (c - 48))
    have h2 := fold_acc r (0 * 10 + (c - 48))
    have e : digitsVal (c :: r) = r.foldl (fun a c => a * 10 + (c - 48)) (0 * 10 + (c - 48)) := rfl
    rw [e, h2, List.foldl_cons, h1, List.length_cons, Nat.pow_succ]
    simp only [Nat.add_mul, Nat.zero_mul, Nat.zero_add, Nat.mul_assoc, Nat.add_assoc]
    rw [Nat.mul_comm 10 (10 ^ r.length)]
theorem dv_app (a b : List Nat) : digitsVal (a ++ b) = digitsVal a * 10 ^ b.length + digitsVal b := by
  have e : digitsVal (a ++ b) = (a ++ b).foldl (fun a c => a * 10 + (c - 48)) 0 := rfl
  rw [e, List.foldl_append, fold_acc b]
  rfl
theorem dv_zeros (n : Nat) (d : List Nat) : digitsVal (List.replicate n 48 ++ d) = digitsVal d := by
  induction n with
  | zero => rfl
  | succ n ih => rw [List.replicate_succ, List.cons_append]; exact ih
theorem dv_lt : ∀ (d : List Nat), AllDigits d → digitsVal d < 10 ^ d.length
  | [], _ => by decide
  | c :: r, h => by
    have h1 := dv_lt r fun x hx => h x (List.mem_cons_of_mem _ hx)
    have h2 := h c List.mem_cons_self
    have e := dv_app [c] r
    have e3 : digitsVal [c] = c - 48 := by show 0 * 10 + (c - 48) = c - 48; omega
    rw [List.singleton_append, e3] at e
    rw [e, List.length_cons, Nat.pow_succ]
    have : (c - 48) * 10 ^ r.length ≤ 9 * 10 ^ r.length := Nat.mul_le_mul_right _ (by omega)
    omega
theorem big_pow : (10 : Nat) ^ 660 < 2 ^ 2640 := by decide +kernel
theorem dv_nat {d : List Nat} (h : AllDigits d) (hl : d.length ≤ 660) : ((digitsVal d : Nat) : Int).natAbs < 2 ^ 2640 := by
  rw [Int.natAbs_natCast]
  exact Nat.lt_of_lt_of_le (dv_lt d h) (Nat.le_of_lt (Nat.lt_of_le_of_lt (Nat.pow_le_pow_right (by decide) hl) big_pow))
theorem sw_minus (s : Str) : Txt.startswith s ("-" : Str) = decide ((tl s).head? = some 45) := by
  have e1 : ("-" : Str).length = 1 := by decide
  have e2 : tl ("-" : Str) = [45] := by decide
  have hA := TL.at_iff (x := s) (y := ("-" : Str)) (by decide) 0
  rw [Bool.eq_iff_iff, decide_eq_true_iff]
  unfold Txt.startswith
  have hp : TL.pre (tl ("-" : Str)) ((tl s).drop 0) = true ↔ (tl s).head? = some 45 := by
    rw [e2, List.drop_zero]
    cases tl s with
    | nil => exact ⟨fun h => absurd h (by decide), fun h => by cases h⟩
    | cons c r =>
      show ((c :: r).take 1 == [45]) = true ↔ _
      rw [beq_iff_eq]
      show [c] = [45] ↔ some c = some 45
      constructor
      · intro h; injection h with h; rw [h]
      · intro h; rw [Option.some.inj h]
  rw [← hp, ← hA, Bool.and_eq_true]
  show _ ↔ (0 + ("-" : Str).length ≤ s.length ∧ _)
  constructor
  · rintro ⟨h1, h2⟩
    exact ⟨of_decide_eq_true h1, h2⟩
  · rintro ⟨h1, h2⟩
    exact ⟨decide_eq_true h1, h2⟩
theorem cut_tail (s : Str) : cutS s (some 1) none = ofL ((tl s).drop 1) := by
  refine str_ext ?_
  show (((tl s).drop (HT.sIx s.length 0 (some 1))).take (HT.sIx s.length s.length none - HT.sIx s.length 0 (some 1))) = (tl s).drop 1
  have e := HT.sIx_nat s.length 0 1
  have e' : HT.sIx s.length 0 (some (1 : Int)) = min 1 s.length := e
  rw [e', HT.sIx_none, TL.len_tl]
  refine List.take_of_length_le ?_ |>.trans ?_
  · rw [List.length_drop]
    exact Nat.le_refl _
  · cases tl s with
    | nil => rfl
    | cons c r =>
      have : min 1 (c :: r).length = 1 := by simp only [List.length_cons]; omega
      rw [this]
theorem cut_60 (s : Str) (b : Nat) (h : b + 60 ≤ s.length) : cutS s (some (b : Int)) (some ((b : Int) + 60)) = ofL (((tl s).drop b).take 60) := by
  refine str_ext ?_
  show (((tl s).drop (HT.sIx s.length 0 (some (b : Int)))).take (HT.sIx s.length s.length (some ((b : Int) + 60)) - HT.sIx s.length 0 (some (b : Int)))) = ((tl s).drop b).take 60
  have e1 := HT.sIx_nat s.length 0 b
  have e2 := HT.sIx_nat s.length s.length (b + 60)
  have e3 : ((b + 60 : Nat) : Int) = (b : Int) + 60 := by omega
  rw [e3] at e2
  rw [e1, e2]
  have a1 : min b s.length = b := by omega
  have a2 : min (b + 60) s.length = b + 60 := by omega
  rw [a1, a2]
  have a3 : b + 60 - b = 60 := by omega
  rw [a3]
theorem mul_zeros : ∀ z : Nat, z < 60 → tl (Txt.mul ("0" : Str) (z : Int)) = List.replicate z 48 := by decide +kernel
theorem mulOk_zeros : ∀ z : Nat, z < 60 → MulOk ("0" : Str) (z : Int) := by unfold MulOk; decide +kernel
theorem rgC_60 : ∀ m : Nat, m < 12 → RgC 0 ((60 * m : Nat) : Int) 60 m := by unfold RgC; decide +kernel
theorem op_mul_str {X : Cx} : OpR X (binaryOp .Mult) (fun x y H Q => ∃ a n, x = .str a ∧ y = .int n ∧ MulOk a n ∧ Q (.str (Txt.mul a n)) H) := by
  intro pins s σ H x y v u Q I rx ry h
  obtain ⟨a, n, rfl, rfl, hk, q⟩ := h
  obtain ⟨t, rfl⟩ := rx
  obtain ⟨t', rfl⟩ := ry
  exact SB.mul hk fun t2 k => ⟨.str (Txt.mul a n), H, I.tok _, ⟨_, rfl⟩, q⟩
end OR

namespace OR
open PySem PySem.Spec PyProof.Rows L2
open TL (tl numL)
open NumText (digitsVal AllDigits)
theorem szx {n : Nat} (h : n ≤ 20000) : n ≤ sizeLine := Nat.le_trans h (by decide)
theorem bt_strT : bootBuiltins ("str" : Str) = some (.type "str") := by decide +kernel
theorem bt_intT : bootBuiltins ("int" : Str) = some (.type "int") := by decide +kernel
/-- what the top has left for the reading of numbers -/
structure NTxt (mg : Str → Option Value) : Prop where
  zLen : mg "len" = none
  zRange : mg "range" = none
  zInt : mg "int" = none
  bd : ∃ t, mg "_BLOCK_DIGITS" = some (.int 60 t)
  bl : ∃ t, mg "_BLOCK" = some (.int (10 ^ 60) t)
def vDec : Option Int → V
  | none => .non
  | some n => .int n
def spRDec : Sp := fun vs H Q _ => ∃ s : Str, vs = [.str s] ∧ s.length ≤ 600 ∧ Q (vDec (decL (tl s))) H
section
variable {P : Program} {w : World} {K : PySem.W.Frag} {mg : Str → Option Value} {base : Heap}
theorem scRDec : FnScope ["text", "digits", "padded", "number", "begin"] ["text"] (defScope sRDec) := ⟨rfl, rfl, rfl, by decide +kernel, rfl, by decide +kernel, by decide +kernel⟩
theorem ok_rdec {f : Addr} {fd : FuncData} (F : Fun K "read_decimal" "read_decimal" sRDec f fd) (T : NTxt mg) : FnOk P w K mg base CX0 1 f fd ["text"] spRDec := by
  obtain ⟨tb, hbd⟩ := T.bd
  obtain ⟨tk, hbl⟩ := T.bl
  refine F.ok scRDec (fun vs H Q E h => ?_) (fun cdv A outer s H vs Q E hr h => ?_)
  · obtain ⟨s, rfl, _⟩ := h
    rfl
  · obtain ⟨s, rfl, hlen, q⟩ := h
    have nd := scRDec.nd
    refine ⟨_, pss_cons (ps_set (i := 1) nd rfl (.inl rfl) (pe_ifExp (pt_val (pe_m1 PySem.F.slot_str_startswith PySem.F.type_str_startswith mt_startswith (pv 0) pe_str)) (pe_slice sl_str (pv 0) (po_some pe_int) po_none) (pv 0)))
      (pss_cons (ps_if (PW.pt (pw_or (pt_not (PW.pt (pw_and (pt_val (pe_m0 PySem.F.slot_str_isascii PySem.F.type_str_isascii mt_isascii (pv 1))) (pw_and1 (pt_val (pe_m0 PySem.F.slot_str_isdigit PySem.F.type_str_isdigit mt_isdigit (pv 1)))))))
        (pw_or1 (PW.pt (pw_and (pt_cmpR op_eq (pe_ix ix_str (pv 1) pe_int (fun _ _ => rfl)) pe_str (nomark _)) (pw_and1 (pt_cmpR op_ne (pv 0) pe_str (nomark _)))))))) (pss_one (ps_ret pe_non)) pss_nil)
      (pss_cons (ps_set (i := 2) nd rfl (.inl rfl) (pe_op op_add_str (pe_op op_mul_str pe_str (pe_op op_mod (pe_un un_neg (pe_callB call_len_str (by rfl) T.zLen PySem.boot_len (pa_cons (pv 1) pa_nil))) (pe_glob (v := .int 60) (by rfl) hbd ⟨_, rfl⟩))) (pv 1)))
      (pss_cons (ps_set (i := 3) nd rfl (.inl rfl) pe_int)
      (pss_cons (ps_for PassesOwn.never rfl (pi_range3 (by rfl) T.zRange (pa_cons pe_int (pa_cons (pe_callB call_len_str (by rfl) T.zLen PySem.boot_len (pa_cons (pv 2) pa_nil)) (pa_cons (pe_glob (v := .int 60) (by rfl) hbd ⟨_, rfl⟩) pa_nil)))) (pg_name (i := 4) nd rfl (.inl rfl))
        (pss_one (ps_set (i := 3) nd rfl (.inl rfl) (pe_op op_add (pe_op op_mulW (pv 3) (pe_glob (v := .int (10 ^ 60)) (by rfl) hbl ⟨_, rfl⟩))
          (pe_callTy call_int_str (by rfl) T.zInt bt_intT (pa_cons (pe_slice sl_str (pv 2) (po_some (pv 4)) (po_some (pe_op op_add (pv 4) (pe_glob (v := .int 60) (by rfl) hbd ⟨_, rfl⟩)))) pa_nil))))))
      (pss_one (ps_ret (pe_ifExp (pt_cmpR op_eq (pv 1) (pv 0) (nomark _)) (pv 3) (pe_un un_neg (pv 3))))))))), ?_⟩
    have hsz : s.length ≤ sizeLine := szx (by omega)
    have dlen : (bodyL (tl s)).length ≤ 600 := by
      rw [TL.len_tl] at hlen
      cases hc : tl s with
      | nil => exact Nat.zero_le _
      | cons c r =>
        rw [hc] at hlen
        have e : bodyL (c :: r) = if c = 45 then r else c :: r := rfl
        rw [e]
        by_cases z : c = 45
        · rw [if_pos z]; simp only [List.length_cons] at hlen; omega
        · rw [if_neg z]; exact hlen
    refine ⟨_, rfl, ⟨_, rfl⟩, s, _, rfl, rfl, ?_⟩
    rw [sw_minus]
    refine ⟨_, rfl, ?_⟩
    have two : (∃ X : Str, tl X = bodyL (tl s) ∧ (tl s).head? = some 45 ∧ X = ofL ((tl s).drop 1)) ∨ (∃ X : Str, tl X = bodyL (tl s) ∧ (tl s).head? ≠ some 45 ∧ X = s) := by
      cases hc : tl s with
      | nil => exact .inr ⟨s, hc, (by intro z; cases z), rfl⟩
      | cons c r =>
        by_cases z : c = 45
        · subst z; exact .inl ⟨ofL r, rfl, rfl, rfl⟩
        · refine .inr ⟨s, ?_, (by intro k; exact z (Option.some.inj k)), rfl⟩
          rw [hc]; show _ = if c = 45 then r else c :: r; rw [if_neg z]
    have XL : ∀ X : Str, tl X = bodyL (tl s) → X.length ≤ 600 := fun X hX => by rw [TL.len_tl, hX]; exact dlen
    have ad : ∀ X : Str, tl X = bodyL (tl s) → (Txt.isascii X && Txt.isdigit X) = allDig (tl X) := fun X hX => by rw [← ascDig_iff, ofL_tl]
    have h0s : V.str s = V.str ("0" : Str) ↔ tl s = [48] := by
      constructor
      · intro z; rw [V.str.inj z]; decide
      · intro z; rw [show s = ("0" : Str) from str_ext (by rw [z]; decide)]
    have h0c : ∀ c : Nat, V.str (⟨#[c]⟩ : Str) = V.str ("0" : Str) ↔ c = 48 := fun c => by
      constructor
      · intro e
        have e3 : [c] = [48] := congrArg tl (V.str.inj e)
        injection e3
      · intro e
        subst e
        rfl
    rcases two with ⟨X, hX, hm, eX⟩ | ⟨X, hX, hm, eX⟩
    case' inl =>
      refine ite2 (fun _ => ?_) (fun z => absurd (decide_eq_true hm) z)
      refine ⟨_, rfl, 1, rfl, s, rfl, hsz, ?_⟩
      rw [cut_tail, ← eX]
      have hfin : V.str X = V.str s ↔ ¬ (tl s).head? = some 45 := by
        refine ⟨fun z => ?_, fun z => absurd hm z⟩
        have e1 := congrArg (fun y => (tl y).length) (V.str.inj z)
        have e2 := congrArg (fun y => (tl y).length) eX
        simp only [tl_ofL, List.length_drop] at e1 e2
        cases hc : tl s with
        | nil => rw [hc] at hm; cases hm
        | cons c r => rw [hc] at e1 e2; simp only [List.length_cons] at e1 e2; omega
    case' inr =>
      refine ite2 (fun z => absurd (of_decide_eq_true z) hm) (fun _ => ?_)
      refine ⟨.str X, by rw [eX]; rfl, ?_⟩
      have hfin : V.str X = V.str s ↔ ¬ (tl s).head? = some 45 := ⟨fun _ => hm, fun _ => by rw [eX]⟩
    all_goals
      have hszX : X.length ≤ sizeLine := szx (by have := XL X hX; omega)
      have hl600 := XL X hX
      have hadX := ad X hX
      refine ⟨_, rfl, ⟨_, rfl⟩, X, rfl, rfl, trivial, _, rfl, ?_⟩
      cases hD : allDig (tl X) with
      | false =>
        have hn : decL (tl s) = none := by unfold decL; rw [← hX, hD]; rfl
        rw [hn] at q
        rw [hD] at hadX
        cases hA : Txt.isascii X with
        | false => exact iteF (iteT q)
        | true =>
          rw [hA, Bool.true_and] at hadX
          refine iteT ⟨_, rfl, ⟨_, rfl⟩, X, rfl, rfl, trivial, _, rfl, ?_⟩
          rw [hadX]
          exact iteT q
      | true =>
        rw [hD, Bool.and_eq_true] at hadX
        obtain ⟨hne, hdg⟩ := (allDig_iff _).mp hD
        rw [hadX.1]
        refine iteT ⟨_, rfl, ⟨_, rfl⟩, X, rfl, rfl, trivial, _, rfl, ?_⟩
        rw [hadX.2]
        obtain ⟨c, r, hc⟩ : ∃ c r, tl X = c :: r := by
          cases h : tl X with
          | nil => exact absurd h hne
          | cons c r => exact ⟨c, r, rfl⟩
        refine iteF ⟨_, rfl, X, 0, c, rfl, rfl, hszX, by show atI (tl X) 0 = some c; rw [hc]; exact atI_nat (j := 0) rfl, rfl, _, rfl, ?_⟩
        by_cases hno : c = 48 ∧ tl s ≠ [48]
        · have hn : decL (tl s) = none := by unfold decL; rw [← hX, hD, hc, if_pos rfl, if_pos ⟨by rw [hno.1]; rfl, hno.2⟩]
          rw [hn] at q
          refine ite2 (fun z => ?_) (fun z => absurd (decide_eq_true ((h0c c).mpr hno.1)) z)
          exact ⟨_, rfl, rfl, _, rfl, ite2 (fun _ => q) (fun z => absurd (show (!decide (V.str s = V.str ("0" : Str))) = true by rw [decide_eq_false (fun k => hno.2 (h0s.mp k))]; rfl) z)⟩
        have hv : decL (tl s) = some (if (tl s).head? = some 45 then -((digitsVal (tl X) : Nat) : Int) else ((digitsVal (tl X) : Nat) : Int)) := by
          unfold decL
          rw [← hX, hD, if_pos rfl, if_neg (fun k => hno ⟨?_, k.2⟩)]
          have := k.1
          rw [hc] at this
          exact Option.some.inj this
        rw [hv] at q
        refine ite2 (fun z => ?_) (fun z => iteF ?_)
        case' refine_1 => refine ⟨_, rfl, rfl, _, rfl, ite2 (fun z2 => ?_) (fun _ => ?_)⟩
        case' refine_1.refine_1 => exact absurd ⟨(h0c c).mp (of_decide_eq_true z), fun k => by rw [decide_eq_true (h0s.mpr k)] at z2; cases z2⟩ hno
        all_goals
          clear z
          obtain ⟨zn, m, hz, hz60, hm12, hzm⟩ : ∃ zn m : Nat, (-(X.length : Int)) % 60 = (zn : Int) ∧ zn < 60 ∧ m < 12 ∧ zn + X.length = 60 * m :=
            ⟨((-(X.length : Int)) % 60).toNat, (((-(X.length : Int)) % 60).toNat + X.length) / 60, by omega, by omega, by omega, by omega⟩
          have lz : (Txt.mul ("0" : Str) (zn : Int)).length = zn := by rw [TL.len_tl, mul_zeros zn hz60, List.length_replicate]
          have hY : tl (Txt.mul ("0" : Str) (zn : Int) ++ X) = List.replicate zn 48 ++ tl X := by rw [TL.tl_append, mul_zeros zn hz60]
          have lY : (Txt.mul ("0" : Str) (zn : Int) ++ X).length = 60 * m := by rw [len_app, lz]; exact hzm
          refine ⟨_, rfl, X, rfl, hszX, _, rfl, _, _, rfl, rfl, (by show (0 : Int) < 60; decide), ("0" : Str), (zn : Int), rfl, congrArg V.int hz, mulOk_zeros zn hz60, _, rfl, _, _, rfl, rfl, szx (by rw [lz]; omega), ?_⟩
          have hszY : (Txt.mul ("0" : Str) (zn : Int) ++ X).length ≤ sizeLine := szx (by omega)
          have adY : AllDigits (tl (Txt.mul ("0" : Str) (zn : Int) ++ X)) := by
            rw [hY]
            intro x hx
            rcases List.mem_append.mp hx with k | k
            · rw [List.eq_of_mem_replicate k]; decide
            · exact hdg x k
          have dvY : digitsVal (tl (Txt.mul ("0" : Str) (zn : Int) ++ X)) = digitsVal (tl X) := by rw [hY, dv_zeros]
          have lYt : (tl (Txt.mul ("0" : Str) (zn : Int) ++ X)).length = 60 * m := by rw [← TL.len_tl]; exact lY
          have hRg : RgC 0 ((Txt.mul ("0" : Str) (zn : Int) ++ X).length : Nat) 60 m := by rw [lY]; exact rgC_60 m hm12
          generalize hYe : Txt.mul ("0" : Str) (zn : Int) ++ X = Y at *
          refine ⟨_, rfl, Y, rfl, hszY, 0, _, 60, m, rfl, hRg, for_rangeC (lo := 0) (c := 60) (n := m) (fun i σ G => G = H ∧ ∃ s4, σ = [some (.str s), some (.str X), some (.str Y), some (.int (digitsVal ((tl Y).take (60 * i)) : Nat)), s4]) ⟨rfl, none, rfl⟩ ?_ ?_⟩
          · rintro i σ G hi ⟨rfl, s4, rfl⟩
            have hib : i * 60 + 60 ≤ Y.length := by rw [lY]; omega
            have hc60 : cutS Y (some (0 + (i : Int) * 60)) (some (0 + (i : Int) * 60 + 60)) = ofL (((tl Y).drop (i * 60)).take 60) := by
              have e : (0 + (i : Int) * 60) = ((i * 60 : Nat) : Int) := by omega
              rw [e]
              exact cut_60 Y (i * 60) hib
            have lch : (((tl Y).drop (i * 60)).take 60).length = 60 := by
              rw [List.length_take, List.length_drop, lYt]
              omega
            have adc : AllDigits (((tl Y).drop (i * 60)).take 60) := fun x hx => adY x (List.mem_of_mem_drop (List.mem_of_mem_take hx))
            have hint : intText? (cutS Y (some (0 + (i : Int) * 60)) (some (0 + (i : Int) * 60 + 60))) = some ((digitsVal (((tl Y).drop (i * 60)).take 60) : Nat) : Int) := by
              rw [hc60]
              exact PySem.intText_digits (x := ofL _) adc (fun e => by have := congrArg List.length e; rw [show (ofL (((tl Y).drop (i * 60)).take 60)).cps.toList = ((tl Y).drop (i * 60)).take 60 from rfl, lch] at this; cases this) (by rw [len_ofL, lch]; decide)
            have hlen2 : (cutS Y (some (0 + (i : Int) * 60)) (some (0 + (i : Int) * 60 + 60))).length ≤ 640 := by rw [hc60, len_ofL, lch]; decide
            have adt : AllDigits ((tl Y).take (60 * i)) := fun x hx => adY x (List.mem_of_mem_take hx)
            have hw := wide_mul (i := ((digitsVal ((tl Y).take (60 * i)) : Nat) : Int)) (j := 10 ^ 60) (a := 2640) (b := 300) (dv_nat adt (by rw [List.length_take]; omega)) (by decide +kernel) (by decide) (by decide) (by decide)
            refine ⟨_, rfl, _, _, rfl, rfl, hw, _, rfl, _, rfl, _, rfl, _, rfl, _, _, rfl, rfl, _, rfl, Y, rfl, hszY, _, _, rfl, hint, hlen2, _, _, rfl, rfl, rfl, some (.int (0 + (i : Int) * 60)), ?_⟩
            have e1 : (tl Y).take (60 * (i + 1)) = (tl Y).take (60 * i) ++ ((tl Y).drop (i * 60)).take 60 := by
              have : 60 * (i + 1) = 60 * i + 60 := by omega
              rw [this, List.take_add, Nat.mul_comm i 60]
            have e2 : digitsVal ((tl Y).take (60 * (i + 1))) = digitsVal ((tl Y).take (60 * i)) * 10 ^ 60 + digitsVal (((tl Y).drop (i * 60)).take 60) := by rw [e1, dv_app, lch]
            rw [e2]
            have e3 : ((digitsVal ((tl Y).take (60 * i)) * 10 ^ 60 + digitsVal (((tl Y).drop (i * 60)).take 60) : Nat) : Int) = ((digitsVal ((tl Y).take (60 * i)) : Nat) : Int) * 10 ^ 60 + ((digitsVal (((tl Y).drop (i * 60)).take 60) : Nat) : Int) := by omega
            rw [e3]
            rfl
          · rintro σ G ⟨rfl, s4, rfl⟩
            have ef : (tl Y).take (60 * m) = tl Y := List.take_of_length_le (by omega)
            rw [ef, dvY]
            refine ⟨_, rfl, _, rfl, rfl, _, rfl, ite2 (fun z => ?_) (fun z => ?_)⟩
            · rw [if_neg (hfin.mp (of_decide_eq_true z))] at q
              exact ⟨_, rfl, q⟩
            · by_cases h45 : (tl s).head? = some 45
              · rw [if_pos h45] at q
                exact ⟨_, rfl, _, rfl, q⟩
              · exact absurd (decide_eq_true (hfin.mpr h45)) z
end
end OR

namespace OR
open PySem PySem.Spec PyProof.Rows L2
open TL (tl numL)
open NumText (digitsVal AllDigits)
structure STxt (mg : Str → Option Value) : Prop where
  zStr : mg "str" = none
  zInt : mg "int" = none
  zLen : mg "len" = none
  zEnum : mg "enumerate" = none
  zIsi : mg "isinstance" = none
  last : ∃ t, mg "LAST_PLACE" = some (.int lastP t)
def textOf (l : List Row) : Str := if l = [] then ("none" : Str) else jn (l.map sT)
def spSText : Sp := fun vs H Q _ => ∃ r : Row, vs = [.int r.1, .int r.2] ∧ okRow r = true ∧ Q (.str (sT r)) H
def spRPl : Sp := fun vs H Q _ => ∃ s : Str, vs = [.str s] ∧ s.length ≤ 200 ∧ ((∃ n : Int, s = dT n ∧ 0 ≤ n ∧ n ≤ lastP ∧ Q (.int n) H) ∨ (BadPl s ∧ Q .non H))
def spRStr : Sp := fun vs H Q _ => ∃ s : Str, vs = [.str s] ∧ s.length ≤ 200 ∧ ((∃ r : Row, s = sT r ∧ okRow r = true ∧ ∀ t H', H t = none → H' t = some (.tup [.int r.1, .int r.2]) → Same H H' → Q (.ref t) H') ∨ (BadW s ∧ ∀ H', Same H H' → Q .non H'))
def spPText (C : Addr) : Sp := fun vs H Q _ => ∃ (x : Addr) (l : List Row), vs = [.ref x] ∧ IsP C H x l ∧ (∀ r ∈ l, okRow r = true) ∧ l.length ≤ 100 ∧ ∀ H', Same H H' → Q (.str (textOf l)) H'
theorem boot_strT : bootBuiltins ("str" : Str) = some (.type "str") := by decide +kernel
theorem sz1 {n : Nat} (h : n ≤ 20000) : n ≤ sizeLine := Nat.le_trans h (by decide)
theorem dlog {n : Int} (h0 : 0 ≤ n) (h : n ≤ lastP + 5) : n.natAbs.log2 < 1920 := by
  have : n.natAbs < 2 ^ 200 := Nat.lt_of_lt_of_le (show n.natAbs < 10 ^ 31 by have := lastP_lt h; omega) (by decide)
  exact PySem.Flt.log2_lt_of (by decide) (Nat.lt_of_lt_of_le this (Nat.pow_le_pow_right (by decide) (by decide)))
theorem emp_app (a : Str) : Str.empty ++ a = a := str_ext (by rw [TL.tl_append]; rfl)
theorem sum_le : ∀ (ws : List Str) (k : Nat), (∀ w ∈ ws, w.length ≤ k) → (ws.map (·.length)).sum ≤ ws.length * k
  | [], _, _ => by simp
  | w :: r, k, h => by
    have h1 := sum_le r k fun x hx => h x (List.mem_cons_of_mem _ hx)
    have h2 := h w List.mem_cons_self
    rw [List.map_cons, List.sum_cons, List.length_cons, Nat.succ_mul]
    omega
theorem jn_len (ws : List Str) (h : ∀ w ∈ ws, w.length ≤ 100) : (jn ws).length ≤ ws.length * 101 := by
  have h1 := StrLaws.join_length_le (" " : Str) ws
  have h2 := sum_le ws 100 h
  unfold jn
  rw [TL.join_eq]
  have : (" " : Str).length = 1 := by decide
  rw [this] at h1
  omega
section
variable {P : Program} {w : World} {K : PySem.W.Frag} {mg : Str → Option Value} {base : Heap}
theorem scST : FnScope ["first", "last"] ["first", "last"] (defScope sSText) := ⟨rfl, rfl, rfl, by decide +kernel, rfl, by decide +kernel, by decide +kernel⟩
theorem ok_stext {f : Addr} {fd : FuncData} (F : Fun K "_stretch_text" "_stretch_text" sSText f fd) (T : STxt mg) : FnOk P w K mg base CX0 1 f fd ["first", "last"] spSText := by
  refine F.ok scST (fun vs H Q E h => ?_) (fun cdv A outer s H vs Q E hr h => ?_)
  · obtain ⟨r, rfl, _⟩ := h
    rfl
  · obtain ⟨r, rfl, ok, q⟩ := h
    obtain ⟨h1, h2, h3⟩ := okRow_iff ok
    refine ⟨_, pss_one (ps_ret (pe_ifExp (pt_cmpR op_eq (pv 0) (pv 1) (nomark _)) (pe_callTy call_str_int (by rfl) T.zStr boot_strT (pa_cons (pv 0) pa_nil))
      (pe_joined (.cons (pe_fmt (pv 0)) (.cons pe_str (.cons (pe_fmt (pv 1)) .nil)))))), ?_⟩
    have l1 := xl (x := r.1) (by omega) (by omega)
    have l2 := xl (x := r.2) (by omega) (by omega)
    refine ⟨_, rfl, _, rfl, rfl, _, rfl, ite2 (fun e => ?_) (fun e => ?_)⟩
    · have e1 : r.1 = r.2 := V.int.inj (of_decide_eq_true e)
      have q1 := q
      unfold sT at q1
      rw [if_pos e1] at q1
      exact ⟨_, rfl, r.1, rfl, dlog (by omega) (by omega), q1⟩
    · have e1 : ¬ r.1 = r.2 := fun z => e (decide_eq_true (by rw [z]))
      have q1 := q
      unfold sT at q1
      rw [if_neg e1] at q1
      refine ⟨_, rfl, .inr ⟨r.1, rfl, dlog (by omega) (by omega), _, rfl, sz1 ?_, _, rfl, sz1 ?_, _, rfl, .inr ⟨r.2, rfl, dlog (by omega) (by omega), _, rfl, sz1 ?_, ?_⟩⟩⟩
      · show (Str.empty ++ dT r.1).length ≤ 20000
        rw [emp_app]; omega
      · show ((Str.empty ++ dT r.1) ++ ("-" : Str)).length ≤ 20000
        rw [emp_app, len_app]
        show (dT r.1).length + 1 ≤ 20000
        omega
      · show (((Str.empty ++ dT r.1) ++ ("-" : Str)) ++ dT r.2).length ≤ 20000
        rw [emp_app, len_app, len_app]
        show (dT r.1).length + 1 + (dT r.2).length ≤ 20000
        omega
      · show Q (.str (((Str.empty ++ dT r.1) ++ ("-" : Str)) ++ dT r.2)) H
        rw [emp_app]
        exact q1
theorem scRP : FnScope ["text", "number"] ["text"] (defScope sRPl) := ⟨rfl, rfl, rfl, by decide +kernel, rfl, by decide +kernel, by decide +kernel⟩
theorem at_head {c : Nat} {r : List Nat} : atI (c :: r) 0 = some c := atI_nat (j := 0) rfl
theorem bodyL_dig {l : List Nat} (h : AllDigits l) : bodyL l = l := by
  cases l with
  | nil => rfl
  | cons c r =>
    have := h c List.mem_cons_self
    show (if c = 45 then r else c :: r) = _
    rw [if_neg (by omega)]
theorem hd_dig {l : List Nat} (h : AllDigits l) : l.head? ≠ some 45 := fun e => by
  cases l with
  | nil => cases e
  | cons c r =>
    have := h c List.mem_cons_self
    have := Option.some.inj e
    omega
theorem decL_dT {n : Int} (h0 : 0 ≤ n) : decL (tl (dT n)) = some n := by
  have hd : AllDigits (tl (dT n)) := dT_digits h0
  unfold decL
  rw [bodyL_dig hd, (allDig_iff _).mpr ⟨dT_ne h0, hd⟩, if_pos rfl, if_neg (fun k => ?_), if_neg (hd_dig hd), tl_dT h0, TL.numL_val, Int.toNat_of_nonneg h0]
  rw [tl_dT h0] at k
  have e := numL_head n.toNat k.1
  refine k.2 ?_
  rw [e]
  decide
theorem decL_bad {s : Str} (h : BadPl s) : decL (tl s) = none ∨ ∃ n, decL (tl s) = some n ∧ placeB n = false := by
  rcases h with h | ⟨r, h, hne⟩ | ⟨n, e, h0, h1⟩
  · cases hd : decL (tl s) with
    | none => exact .inl rfl
    | some m =>
      refine .inr ⟨m, rfl, ?_⟩
      unfold decL at hd
      by_cases hA : allDig (bodyL (tl s)) = true
      · rw [if_pos hA] at hd
        by_cases h48 : (bodyL (tl s)).head? = some 48 ∧ tl s ≠ [48]
        · rw [if_pos h48] at hd; cases hd
        · rw [if_neg h48] at hd
          by_cases h45 : (tl s).head? = some 45
          · rw [if_pos h45] at hd
            have em := Option.some.inj hd
            obtain ⟨hne, hdg⟩ := (allDig_iff _).mp hA
            have pos : 0 < digitsVal (bodyL (tl s)) := by
              cases hb : bodyL (tl s) with
              | nil => exact absurd hb hne
              | cons c r =>
                refine NumText.digitsVal_pos ?_
                have h3 := hdg c (by rw [hb]; exact List.mem_cons_self)
                have h4 : c ≠ 48 := fun e => h48 ⟨by rw [hb, e]; rfl, fun e2 => by rw [e2] at h45; exact absurd h45 (by decide)⟩
                omega
            unfold placeB
            rw [decide_eq_false (by omega), Bool.false_and]
          · exfalso
            have eb : bodyL (tl s) = tl s := by
              cases hc : tl s with
              | nil => rfl
              | cons c r =>
                show (if c = 45 then r else c :: r) = _
                rw [if_neg (fun e => h45 (by rw [hc, e]; rfl))]
            rw [eb] at hA
            have h5 := ascDig_iff (tl s)
            rw [ofL_tl, hA, h, Bool.and_false] at h5
            cases h5
      · rw [if_neg hA] at hd; cases hd
  · left
    have eb : bodyL (tl s) = tl s := by rw [h]; rfl
    unfold decL
    rw [eb]
    by_cases hA : allDig (tl s) = true
    · rw [if_pos hA, if_pos ⟨by rw [h]; rfl, fun e => by rw [h] at e; injection e with _ e; exact hne e⟩]
    · rw [if_neg hA]
  · have l0 : lastP = 10 ^ 30 := rfl
    refine .inr ⟨n, by rw [e]; exact decL_dT (by omega), ?_⟩
    unfold placeB
    rw [decide_eq_false (p := n ≤ lastP) (by omega), Bool.and_false]
theorem ok_rpl {f : Addr} {fd : FuncData} (F : Fun K "read_place" "read_place" sRPl f fd) (RD : Cl P w K mg base 1 "read_decimal" ["text"] spRDec) (IP : Cl P w K mg base 2 "is_place" ["value"] (spIsPlace K)) : FnOk P w K mg base CX0 3 f fd ["text"] spRPl := by
  refine F.ok scRP (fun vs H Q E h => ?_) (fun cdv A outer s H vs Q E hr h => ?_)
  · obtain ⟨s, rfl, _⟩ := h
    rfl
  · obtain ⟨s, rfl, hlen, h⟩ := h
    have nd := scRP.nd
    refine ⟨_, pss_cons (ps_set (i := 1) nd rfl (.inl rfl) (pe_cl RD hr (by decide) (by rfl) (pa_cons (pv 0) pa_nil)))
      (pss_one (ps_ret (pe_ifExp (pt_val (pe_cl IP hr (by decide) (by rfl) (pa_cons (pv 1) pa_nil))) (pv 1) pe_non))), ?_⟩
    refine ⟨_, rfl, s, rfl, by omega, ?_⟩
    rcases h with ⟨n, e, h0, h1, q⟩ | ⟨hb, q⟩
    · rw [e, decL_dT h0]
      have hp : placeB n = true := by unfold placeB; rw [decide_eq_true h0, decide_eq_true h1]; rfl
      refine ⟨_, rfl, .int n, rfl, .inl ⟨n, rfl, _, rfl, ?_⟩⟩
      rw [hp]
      exact iteT ⟨_, rfl, q⟩
    · rcases decL_bad hb with e | ⟨n, e, hp⟩
      · rw [e]
        exact ⟨_, rfl, .non, rfl, .inr ⟨"NoneType", false, false, .base .non, by decide +kernel, by decide +kernel, rfl, _, rfl, iteF q⟩⟩
      · rw [e]
        refine ⟨_, rfl, .int n, rfl, .inl ⟨n, rfl, _, rfl, ?_⟩⟩
        rw [hp]
        exact iteF q
end
end OR

namespace OR
open PySem PySem.Spec PyProof.Rows L2
open TL (tl numL)
section
variable {P : Program} {w : World} {K : PySem.W.Frag} {mg : Str → Option Value} {base : Heap}
theorem scPT : FnScope ["self", "first", "last"] ["self"] (defScope sPlText) := ⟨rfl, rfl, rfl, by decide +kernel, rfl, by decide +kernel, by decide +kernel⟩
theorem ok_ptext {f C : Addr} {fd : FuncData} (F : Fun K "text" "Places.text" sPlText f fd) (T : PTxt K mg C) (ST : Cl P w K mg base 1 "_stretch_text" ["first", "last"] spSText) : FnOk P w K mg base CX0 2 f fd ["self"] (spPText C) := by
  refine F.ok scPT (fun vs H Q E h => ?_) (fun cdv A outer s H vs Q E hr h => ?_)
  · obtain ⟨x, l, rfl, _⟩ := h
    rfl
  · obtain ⟨x, l, rfl, hp, hok, hl, q⟩ := h
    have nd := scPT.nd
    obtain ⟨nf, dx, t, fi, b, M, e1, e2, e3, e4, e5, e6, e7⟩ := id hp
    refine ⟨_, pss_cons (ps_if (pt_not (pt_truth (pe_fld (pv 0) rfl) (by intro _; rfl))) (pss_one (ps_ret pe_str)) pss_nil)
      (pss_one (ps_ret (pe_join pe_str (pe_lc (own := [("first", 1), ("last", 2)]) (g := gTup K 2 (gCons (gName 1) (gCons (gName 2) gNil))) (tt := tYes) rfl nd (pi_tup (pe_fld (pv 0) rfl)) (blkOk_by (N := ["self", "first", "last"]) (sc := defScope sPlText) (by decide +kernel))
        (fun _ _ _ _ _ => pg_tup rfl (pgs_cons (pg_name (i := 1) nd rfl (.inl rfl)) (pgs_cons (pg_name (i := 2) nd rfl (.inl rfl)) pgs_nil))) (fun _ _ _ _ _ => pts_nil) (fun _ _ _ _ _ => pe_cl ST hr (by decide) (by rfl) (pa_cons (pv 1) (pa_cons (pv 2) pa_nil))))))), ?_⟩
    refine ⟨_, rfl, x, C, dx, _, _, rfl, e1, T.cl, T.nS, pFl_s _ _ _, !(refs M).isEmpty, .inr (.inl ⟨_, .inl (.inl e2), rfl⟩), ?_⟩
    cases hM : M with
    | nil =>
      rw [hM] at e4
      have el : l = [] := e4.symm
      have q1 := q H (Same.refl _)
      unfold textOf at q1
      rw [if_pos el] at q1
      exact iteT q1
    | cons m0 M0 =>
      rw [← hM]
      have hne : l ≠ [] := by
        rw [← e4, hM]
        simp [rws]
      have tru : (!(refs M).isEmpty) = true := by rw [hM]; rfl
      rw [tru]
      refine iteF ?_
      have lM : M.length = l.length := by rw [← e4, rws_len]
      refine ⟨⟨_, rfl⟩, _, rfl, x, C, dx, _, _, rfl, e1, T.cl, T.nS, pFl_s _ _ _, t, rfl, ⟨_, .inl (.inl e2)⟩, fun D hD => lc_tup (K := K) (a := t) (xs := refs M) (fun i G => G D = some (.lst ((((rws M).take i).map sT).map V.str)) ∧ Same H G)
        ⟨upd_same, same_lay hD⟩ (fun i G _ ⟨_, s⟩ => sameT s (.inl (.inl e2))) ?_ ?_⟩
      · rintro i y G hy ⟨hD2, sG⟩
        obtain ⟨z, hz, hzM, rfl⟩ := refs_get hy
        have hil : i < M.length := (List.getElem?_eq_some_iff.mp hz).1
        have ez := sG _ _ (e3 z hzM)
        have e1' : (rws M).take (i + 1) = (rws M).take i ++ [z.2] := by rw [List.take_add_one, rws_get hz]; rfl
        refine ⟨z.1, _, rfl, .inl (.inl ez), rfl, _, _, rfl, _, _, rfl, rfl, rfl, yesT ?_⟩
        refine ⟨_, rfl, _, rfl, z.2, rfl, hok z.2 (by rw [← e4]; exact mem_rws.mpr ⟨z.1, hzM⟩), ?_⟩
        refine ⟨_, hD2, small1000 ?_, ?_, same_upd sG hD⟩
        · rw [List.length_map, List.length_map, List.length_take]
          omega
        · rw [upd_same, e1', List.map_append, List.map_append]
          rfl
      · rintro G ⟨hD2, sG⟩
        rw [refs_len, List.take_of_length_le (by rw [rws_len]; exact Nat.le_refl _), e4] at hD2
        refine ⟨_, D, l.map sT, rfl, rfl, .inl (.inl (.inl hD2)), ?_, ?_⟩
        · have h1 := sum_le (l.map sT) 100 (fun w hw => by
            obtain ⟨r, hr', e⟩ := List.mem_map.mp hw
            rw [← e]
            exact Nat.le_trans (sT_len (hok r hr')) (by decide))
          have h2 : (" " : Str).length = 1 := by decide
          rw [List.length_map] at h1 ⊢
          rw [h2]
          omega
        · have q1 := q G sG
          unfold textOf at q1
          rw [if_neg hne] at q1
          exact q1
end
end OR

namespace OR
open PySem PySem.Spec PyProof.Rows L2
/-! ### xs[::-1] of a list of one item -/
section
variable {X : Cx} {e k : Expr} {te tk : TE} {pos p2 : Pos}
def tRev1 (K : PySem.W.Frag) (te tk : TE) : TE := fun σ H Q => te σ H fun x H1 => tk σ H1 fun y H2 => ∃ (a : Addr) (z : V), x = .ref a ∧ y = .int (-1) ∧ SqL K H2 a [z] ∧ ∀ q, H2 q = none → Q (.ref q) (upd H2 q (.lst [z]))
theorem pick1 (w : Value) : slicePick #[w] none none (some (-1)) = #[w] := by with_unfolding_all rfl
theorem pe_rev1 (he : PE X e te) (hk : PE X k tk) : PE X (.Subscript e (.Slice none none (some k) p2) pos) (tRev1 X.K te tk) := by
  refine ⟨fun pins s σ H Q I h => ?_⟩
  refine Subscript_ (thn (he.run pins s σ H _ I h) fun v s1 ⟨x, H1, I1, r1, q1⟩ => ?_)
  refine wpAny_Slice ?_
  rw [evalPart_none]
  refine wpAny_pure (wpAny_pure ?_)
  rw [evalPart_some]
  refine thn (hk.run pins s1 σ H1 _ I1 q1) fun u s2 ⟨y, H2, I2, r2, a, z, ex, ey, hL, q2⟩ => ?_
  subst ex
  subst ey
  obtain ⟨t, rfl⟩ := r2
  cases r1
  have I4 : Inv X pins σ H2 { s2 with heap := s2.heap.push { cls := .type "slice", data := .fields #[.none, .none, .int (-1) t] } } := I2.kept (t' := s2.toks) fun b ob q => Heap.get?_push_of_some _ q
  obtain ⟨its, r, ht, hz⟩ := I4.list hL
  obtain ⟨w, rfl, rw⟩ := r.one
  show wpAny (model X.prog X.w) X.A (subscriptTail e (.Slice none none (some k) p2) (.ref a) (.ref s2.heap.objs.size)) (EP X pins σ Q) X.xe { s2 with heap := s2.heap.push { cls := .type "slice", data := .fields #[.none, .none, .int (-1) t] } }
  refine tail_any (ops := [.ref a, .ref s2.heap.objs.size]) ht.isList.typeIs slot_list_getitem.lookup ?_ (by with_unfolding_all rfl)
  refine wpAny_getItem_list_slice (lo := none) (hi := none) (st := some (-1)) ht.isList (Heap.IsSliceOf.new ..) .none .none (.int _ _) (by decide) ?_ (by show 1 ≤ sizeLine; decide)
  rw [pick1]
  refine ⟨.ref _, _, I4.laid (t' := s2.toks) (o := .lst [z]) (fun b ob q => Heap.get?_push_of_some _ q) (Nat.le_refl _) ?_, rfl, q2 _ (I4.hok.fresh (Nat.le_refl _))⟩
  exact ⟨by show 1 ≤ sizeLine; decide, _, 0, r, Heap.get?_push_size _ rfl⟩
end
/-! ### a line as it stands -/
theorem kSH : ¬ (("slope" : Str) = "height") := by decide +kernel
def lFl (a b : Int) : List (Str × V) := putF "height" (.int b) (putF "slope" (.int a) [])
theorem lFl_slope (a b : Int) : (lFl a b).lookup ("slope" : Str) = some (.int a) := by
  unfold lFl
  rw [lookup_putF, if_neg kSH, lookup_putF, if_pos rfl]
theorem lFl_height (a b : Int) : (lFl a b).lookup ("height" : Str) = some (.int b) := by
  unfold lFl
  rw [lookup_putF, if_pos rfl]
theorem lFl_no (a b : Int) {m : Str} (h1 : ¬ m = "height") (h2 : ¬ m = "slope") : (lFl a b).lookup m = none := by
  unfold lFl
  rw [lookup_putF, if_neg h1, lookup_putF, if_neg h2]
  all_goals rfl
def IsL (C : Addr) (H : Hp) (x : Addr) (a b : Int) : Prop := ∃ dx, H x = some (.ins C dx (lFl a b))
theorem IsL.same {C : Addr} {H H' : Hp} {x : Addr} {a b : Int} (h : IsL C H x a b) (s : Same H H') : IsL C H' x a b := by
  obtain ⟨dx, e⟩ := h
  exact ⟨dx, s _ _ e⟩
theorem IsL.frm {C : Addr} {H H' : Hp} {x p : Addr} {a b : Int} {n : Nat} (h : IsL C H x a b) (s : Frm p H H') (P : Pen H p n) : IsL C H' x a b := by
  obtain ⟨dx, e⟩ := h
  obtain ⟨c, ns, k, l, hp, _⟩ := P
  exact ⟨dx, s _ _ e (ne_of e hp (by intro z; cases z))⟩
/-- what the text says of the class Line -/
structure LTxt (K : PySem.W.Frag) (mg : Str → Option Value) (C : Addr) : Prop where
  cl : Cls K C
  nS : NoAttr K C "slope"
  nH : NoAttr K C "height"
  mgC : mg "Line" = some (.ref C)
  sf : PySem.W.selfFirst K C = true
  isi : SlX.SIsi K C
  kLL : PySem.W.kitOne K (.ref C) (.ref C) = some true
  kIL : PySem.W.kitOne K (.type "int") (.ref C) = some false
  kTL : PySem.W.kitOne K (.type "tuple") (.ref C) = some false
  zIsi : mg "isinstance" = none
  zInt : mg "int" = none
  zBool : mg "bool" = none
def spLInit (C : Addr) : Sp := fun vs H Q _ => ∃ (p dx : Addr) (a b : Int), vs = [.ref p, .int a, .int b] ∧ H p = some (.ins C dx []) ∧ ∀ H', H' p = some (.ins C dx (lFl a b)) → (∀ c o, H c = some o → c ≠ p → H' c = some o) → Q .non H'
/-- == of a line and a line, or a line and a tuple -/
def spLEq (K : PySem.W.Frag) (C : Addr) : Sp := fun vs H Q _ => ∃ (x : Addr) (a b : Int) (y : V), vs = [.ref x, y] ∧ IsL C H x a b ∧ ((∃ (u : Addr) (c d : Int), y = .ref u ∧ IsL C H u c d ∧ Q (.bl (decide (a = c ∧ b = d))) H) ∨ (TyX K H y (.type "tuple") ∧ Q (.bl false) H))
section
variable {P : Program} {w : World} {K : PySem.W.Frag} {mg : Str → Option Value} {base : Heap}
theorem scLI : FnScope ["self", "slope", "height"] ["self", "slope", "height"] (defScope sLInit) := ⟨rfl, rfl, rfl, by decide +kernel, rfl, by decide +kernel, by decide +kernel⟩
theorem ok_linit {f C : Addr} {fd : FuncData} (F : Fun K "__init__" "Line.__init__" sLInit f fd) (T : LTxt K mg C) : FnOk P w K mg base CX0 1 f fd ["self", "slope", "height"] (spLInit C) := by
  refine F.ok scLI (fun vs H Q E h => ?_) (fun cdv A outer s H vs Q E hr h => ?_)
  · obtain ⟨p, dx, a, b, rfl, _⟩ := h
    rfl
  · obtain ⟨p, dx, a, b, rfl, hp, q⟩ := h
    refine ⟨_, pss_cons (ps_fld (pv 0) (pv 1) rfl) (pss_one (ps_fld (pv 0) (pv 2) rfl)), ?_⟩
    refine ⟨_, rfl, _, rfl, p, C, dx, [], rfl, hp, T.cl, T.nS, (by show 0 < 1000; decide), _, rfl, _, rfl, p, C, dx, _, rfl, upd_same, T.cl, T.nH, (by show 1 < 1000; decide), ?_⟩
    refine q _ upd_same fun c o e n => ?_
    rw [upd_ne n, upd_ne n]
    exact e
/-- Line(a, b) -/
def tMkL (C : Addr) (t : TA) : TE := fun σ H Q => t σ H fun vs H1 => ∃ a b, vs = [.int a, .int b] ∧ ∀ x H', H1 x = none → IsL C H' x a b → Same H1 H' → Q (.ref x) H'
end
/-- the class Line as it is made -/
structure LMk (P : Program) (w : World) (K : PySem.W.Frag) (mg : Str → Option Value) (base : Heap) (C : Addr) : Prop where
  T : LTxt K mg C
  made : ∃ f fd, Mk K C f ∧ FnOk P w K mg base CX0 1 f fd ["self", "slope", "height"] (spLInit C) ∧ Binds K fd ["self", "slope", "height"] []
theorem pe_mkL {X : Cx} {C : Addr} {j : Nat} {e : Expr} {es : List Expr} {t : TA} {p pos : Pos} (M : LMk X.prog X.w X.K X.mg X.base C) (hr : Room j X.A) (hj : 2 ≤ j) (hg : Gl X "Line") (ha : PA X (e :: es) t)
    (he : starEach (e :: es) X.env = (false, eval e X.env) :: starEach es X.env := by rfl) (hpl : (backTo pos (starEach es X.env)).any (·.1) = false := by rfl) : PE X (.Call (.Name "Line" p) (e :: es) [] pos) (tMkL C t) := by
  obtain ⟨f, fd, mk, F, hb⟩ := M.made
  refine ⟨fun pins s σ H Q I h => ?_⟩
  refine wpAny_Call_Name_kw (ld_glob I hg M.T.mgC ?_ (by decide))
  refine PySem.W.callWith_K (h₀ := X.base) I.ok.mod.kin mk.kp (thn (ha.run pos pins s σ H _ I h) fun us s1 ⟨vs, H1, I1, r, q⟩ => ⟨I1.kIn, ?_⟩) he hpl
  obtain ⟨a, b, rfl, q⟩ := q
  refine run_make mk F (hr.mono hj) hb .nil pass0 I1 r fun x dx nx ndx nex => ?_
  refine ⟨x, dx, a, b, rfl, upd_same, fun H' hx hs => ⟨rfl, q x H' nx ⟨dx, hx⟩ fun c o e => ?_⟩⟩
  have ncx : c ≠ x := ne_of_none e nx
  refine hs c o ?_ ncx
  rw [upd_ne ncx, upd_ne (ne_of_none e ndx)]
  exact e
section
variable {P : Program} {w : World} {K : PySem.W.Frag} {mg : Str → Option Value} {base : Heap}
theorem tyL {C : Addr} (T : LTxt K mg C) {H : Hp} {x dx : Addr} {fs : List (Str × V)} (hx : H x = some (.ins C dx fs)) : TyX K H (.ref x) (.ref C) := .base (.ins hx T.cl T.isi.ca T.isi.cn T.isi.ct T.isi.cm)
theorem scLEq : FnScope ["self", "other"] ["self", "other"] (defScope sLEq) := ⟨rfl, rfl, rfl, by decide +kernel, rfl, by decide +kernel, by decide +kernel⟩
theorem ok_leq {f C : Addr} {fd : FuncData} (F : Fun K "__eq__" "Line.__eq__" sLEq f fd) (T : LTxt K mg C) : FnOk P w K mg base CX0 1 f fd ["self", "other"] (spLEq K C) := by
  refine F.ok scLEq (fun vs H Q E h => ?_) (fun cdv A outer s H vs Q E hr h => ?_)
  · obtain ⟨x, a, b, y, rfl, _⟩ := h; rfl
  · obtain ⟨x, a, b, y, rfl, ⟨dx, hx⟩, h⟩ := h
    refine ⟨_, pss_one (ps_ret (pe_and (pe_callB call_isi (by rfl) T.zIsi bt_isi (pa_cons (pv 1) (pa_cons (pe_glob (v := .ref C) (by rfl) T.mgC rfl) pa_nil)))
      (pe_and (pe_cmpR op_eq (pe_fld (pv 0) rfl) (pe_fld (pv 1) rfl) (nomark _)) (pe_one (pe_cmpR op_eq (pe_fld (pv 0) rfl) (pe_fld (pv 1) rfl) (nomark _)))))), ?_⟩
    rcases h with ⟨u, c, d, rfl, ⟨du, hu⟩, q⟩ | ⟨ty, q⟩
    · refine ⟨_, rfl, .ref u, .ref C, _, _, true, rfl, .own C, tyL T hu, T.kLL, true, rfl, iteT ?_⟩
      refine ⟨_, rfl, x, C, dx, _, _, rfl, hx, T.cl, T.nS, lFl_slope a b, _, rfl, u, C, du, _, _, rfl, hu, T.cl, T.nS, lFl_slope c d, rfl, _, rfl, ite2 (fun e => ?_) (fun e => ?_)⟩
      · have e1 : a = c := by have := of_decide_eq_true e; cases this; rfl
        refine ⟨_, rfl, x, C, dx, _, _, rfl, hx, T.cl, T.nH, lFl_height a b, _, rfl, u, C, du, _, _, rfl, hu, T.cl, T.nH, lFl_height c d, rfl, ?_⟩
        have : decide (V.int b = V.int d) = decide (a = c ∧ b = d) := by
          by_cases h : b = d <;> simp [h, e1]
        rw [this]; exact q
      · have e1 : ¬ a = c := fun z => e (decide_eq_true (by rw [z]))
        have : decide (a = c ∧ b = d) = false := by
          simp [e1]
        rw [this] at q; exact q
    · exact ⟨_, rfl, y, .ref C, _, _, false, rfl, .own C, ty, T.kTL, false, rfl, iteF q⟩
end
/-! ### the texts of integers and lines -/
theorem str_extC {a b : Str} (h : a.cps.toList = b.cps.toList) : a = b := by
  cases a; cases b
  simp only at h
  rw [Array.toList_inj.mp h]
theorem cps_app (a b : Str) : (a ++ b).cps.toList = a.cps.toList ++ b.cps.toList := by
  show (a.cps ++ b.cps).toList = _
  rw [Array.toList_append]
theorem ofS_app (a b : String) : Str.ofString (a ++ b) = Str.ofString a ++ Str.ofString b := str_extC (by
  rw [cps_app, Str.ofString_eq_toList, Str.ofString_eq_toList, Str.ofString_eq_toList]
  simp)
theorem dT_neg {n : Int} (h : n < 0) : dT n = ("-" : Str) ++ dT (-n) := by
  cases n with
  | ofNat m => exact absurd h (Int.not_lt.mpr (Int.natCast_nonneg m))
  | negSucc m =>
    show Str.ofString (toString (Int.negSucc m)) = Str.ofString "-" ++ Str.ofString (toString (-(Int.negSucc m)))
    rw [← ofS_app]
    rfl
theorem dTl {n : Int} {k : Nat} (hk : 0 < k) (h : n.natAbs < 10 ^ k) : (dT n).length ≤ k + 1 := by
  unfold dT
  rw [PySem.ofString_length]
  exact int_text_length_le10 hk h
theorem dT_log {n : Int} (h : n.natAbs < 10 ^ 60) : n.natAbs.log2 < 1920 := PySem.Flt.log2_lt_of (by decide) (Nat.lt_of_lt_of_le h (by decide))
def absI (n : Int) : Int := if n < 0 then -n else n
theorem absI_nat (n : Int) : (absI n).natAbs = n.natAbs := by unfold absI; split <;> omega
theorem absI_nn (n : Int) : 0 ≤ absI n := by unfold absI; split <;> omega
def riseT (a : Int) : Str := if a = 1 then "x" else if a = -1 then "-x" else dT a ++ (" x" : Str)
def lineT (a b : Int) : Str := if a = 0 then dT b else if b = 0 then riseT a else (riseT a ++ (if 0 < b then (" + " : Str) else (" - " : Str))) ++ dT (absI b)
structure TTxt (mg : Str → Option Value) : Prop where
  zAbs : mg "abs" = none
  zStr : mg "str" = none
  zDiv : mg "divmod" = none
  blk : ∃ t, mg "_BLOCK" = some (.int (10 ^ 60) t)
def spDec : Sp := fun vs H Q _ => ∃ n : Int, vs = [.int n] ∧ n.natAbs < 10 ^ 60 ∧ ∀ H', Same H H' → Q (.str (dT n)) H'
def spRise : Sp := fun vs H Q _ => ∃ n : Int, vs = [.int n] ∧ n.natAbs < 10 ^ 40 ∧ ∀ H', Same H H' → Q (.str (riseT n)) H'
def spText (C : Addr) : Sp := fun vs H Q _ => ∃ (x : Addr) (a b : Int), vs = [.ref x] ∧ IsL C H x a b ∧ a.natAbs < 10 ^ 40 ∧ b.natAbs < 10 ^ 40 ∧ ∀ H', Same H H' → Q (.str (lineT a b)) H'
def spLTx : Sp := fun vs H Q _ => ∃ (x : Addr) (a b : Int), vs = [.ref x] ∧ H x = some (.tup [.int a, .int b]) ∧ a.natAbs < 10 ^ 40 ∧ b.natAbs < 10 ^ 40 ∧ Q (.str (lineT a b)) H
theorem join1 (y : Str) : Txt.join ("" : Str) [y] = y := by with_unfolding_all rfl
theorem szk {n : Nat} (h : n ≤ 1000) : n ≤ sizeLine := Nat.le_trans h (by decide)
section
variable {P : Program} {w : World} {K : PySem.W.Frag} {mg : Str → Option Value} {base : Heap}
theorem scDe : FnScope ["number", "rest", "blocks", "block", "digits"] ["number"] (defScope sDec) := ⟨rfl, rfl, rfl, by decide +kernel, rfl, by decide +kernel, by decide +kernel⟩
theorem ok_dec {f : Addr} {fd : FuncData} (F : Fun K "decimal" "decimal" sDec f fd) (T : TTxt mg) : FnOk P w K mg base CX0 1 f fd ["number"] spDec := by
  obtain ⟨tk, hblk⟩ := T.blk
  refine F.ok scDe (fun vs H Q E h => ?_) (fun cdv A outer s H vs Q E hr h => ?_)
  · obtain ⟨n, rfl, _⟩ := h; rfl
  · obtain ⟨n, rfl, hb, q⟩ := h
    have nd := scDe.nd
    refine ⟨_, pss_cons (ps_set (i := 1) nd rfl (.inl rfl) (pe_callB call_abs (by rfl) T.zAbs boot_absO (pa_cons (pv 0) pa_nil)))
      (pss_cons (ps_set (i := 2) nd rfl (.inl rfl) (pe_lst pa_nil))
      (pss_cons (ps_while PassesOwn.never (pt_cmpR op_ge (pv 1) (pe_glob (v := .int (10 ^ 60)) (by rfl) hblk ⟨_, rfl⟩) (nomark _)) (pss_cons ps_never (pss_one ps_never)))
      (pss_cons (ps_expr (pe_bm PySem.F.plainAttrs_list PySem.F.slot_list_append PySem.F.type_list_append mt_append (pv 2) (pa_cons (pe_callTy call_str_int (by rfl) T.zStr boot_strT (pa_cons (pv 1) pa_nil)) pa_nil)))
      (pss_cons (ps_set (i := 4) nd rfl (.inl rfl) (pe_join pe_str (pe_rev1 (pv 2) (pe_un un_neg pe_int))))
      (pss_one (ps_ret (pe_ifExp (pt_cmpR op_ge (pv 0) pe_int (nomark _)) (pv 4) (pe_op op_add_str pe_str (pv 4))))))))), ?_⟩
    refine ⟨_, rfl, n, rfl, by show 0 ≤ sizeLine; decide, fun l hl => ?_⟩
    have ea : (if n < 0 then -n else n) = absI n := rfl
    rw [ea]
    have h60 : absI n < 10 ^ 60 := by
      have := absI_nat n
      have := absI_nn n
      omega
    refine ⟨fun m σ' H' => m = 0 ∧ σ' = _ ∧ H' = _, ⟨0, rfl, rfl, rfl⟩, ?_⟩
    rintro m σ' H' ⟨_, rfl, rfl⟩
    refine ⟨_, rfl, _, _, rfl, rfl, _, rfl, ?_⟩
    rw [decide_eq_false (by show ¬ (10 ^ 60 ≤ absI n); omega)]
    refine iteF ?_
    have hl1 : (upd H l (.lst [])) l = some (.lst []) := upd_same
    refine ⟨_, rfl, .inl ⟨rfl, _, .inl (.inl hl1)⟩, _, rfl, absI n, rfl, dT_log (by rw [absI_nat]; exact hb), l, _, _, rfl, rfl, hl1, by show 0 < sizeLine; decide, ?_⟩
    have hl2 : (upd (upd H l (.lst [])) l (.lst ([] ++ [V.str (dT (absI n))]))) l = some (.lst [V.str (dT (absI n))]) := upd_same
    refine ⟨⟨_, rfl⟩, _, rfl, 1, rfl, l, _, rfl, rfl, .inl (.inl hl2), fun r hr1 => ?_⟩
    have hr2 : (upd (upd (upd H l (.lst [])) l (.lst ([] ++ [V.str (dT (absI n))]))) r (.lst [V.str (dT (absI n))])) r = some (.lst [V.str (dT (absI n))]) := upd_same
    have hlen : (dT (absI n)).length ≤ 61 := dTl (by decide) (by rw [absI_nat]; exact hb)
    refine ⟨_, r, [dT (absI n)], rfl, rfl, .inl (.inl (.inl hr2)), ?_, ?_⟩
    · have e0 : (Str.ofString "").length = 0 := by rfl
      simp only [List.map, List.sum_cons, List.sum_nil, List.length, e0]
      omega
    have S : Same H (upd (upd (upd H l (.lst [])) l (.lst ([] ++ [V.str (dT (absI n))]))) r (.lst [V.str (dT (absI n))])) := fun b o e => by
      have n1 : b ≠ l := ne_of_none e hl
      have e2 : (upd (upd H l (.lst [])) l (.lst ([] ++ [V.str (dT (absI n))]))) b = some o := by rw [upd_ne n1, upd_ne n1]; exact e
      rw [upd_ne (ne_of_none e2 hr1)]
      exact e2
    refine ⟨_, rfl, _, _, rfl, rfl, _, rfl, ite2 (fun e => ?_) (fun e => ?_)⟩
    · have h0 : 0 ≤ n := of_decide_eq_true e
      refine ⟨_, rfl, ?_⟩
      have e1 : absI n = n := by unfold absI; rw [if_neg (by omega)]
      have q1 := q _ S
      have e2 : dT n = dT (absI n) := by rw [e1]
      show Q (.str (Txt.join (Str.ofString "") [dT (absI n)])) _
      rw [join1]
      rw [e2] at q1
      exact q1
    · have h0 : n < 0 := by
        have : ¬ (0 ≤ n) := fun z => e (decide_eq_true z)
        omega
      have e1 : absI n = -n := by unfold absI; rw [if_pos h0]
      have q1 := q _ S
      rw [dT_neg h0, ← e1] at q1
      refine ⟨_, rfl, _, _, rfl, rfl, szk ?_, ?_⟩
      · show 1 + (Txt.join (Str.ofString "") [dT (absI n)]).length ≤ 1000
        rw [join1]
        omega
      · show Q (.str (Str.ofString "-" ++ Txt.join (Str.ofString "") [dT (absI n)])) _
        rw [join1]
        exact q1
theorem scRi : FnScope ["slope"] ["slope"] (defScope sRise) := ⟨rfl, rfl, rfl, by decide +kernel, rfl, by decide +kernel, by decide +kernel⟩
theorem ok_rise {f : Addr} {fd : FuncData} (F : Fun K "_rising_text" "_rising_text" sRise f fd) (D : Cl P w K mg base 1 "decimal" ["number"] spDec) : FnOk P w K mg base CX0 2 f fd ["slope"] spRise := by
  refine F.ok scRi (fun vs H Q E h => ?_) (fun cdv A outer s H vs Q E hr h => ?_)
  · obtain ⟨n, rfl, _⟩ := h; rfl
  · obtain ⟨n, rfl, hb, q⟩ := h
    refine ⟨_, pss_cons (ps_if (pt_cmpR op_eq (pv 0) pe_int (nomark _)) (pss_one (ps_ret pe_str)) pss_nil)
      (pss_cons (ps_if (pt_cmpR op_eq (pv 0) (pe_un un_neg pe_int) (nomark _)) (pss_one (ps_ret pe_str)) pss_nil)
      (pss_one (ps_ret (pe_joined (.cons (pe_fmt (pe_cl D hr (by decide) (by rfl) (pa_cons (pv 0) pa_nil))) (.cons pe_str .nil)))))), ?_⟩
    refine ⟨_, rfl, rfl, _, rfl, ite2 (fun e => ?_) (fun e => ?_)⟩
    · have e1 : n = 1 := V.int.inj (of_decide_eq_true e)
      have q1 := q H fun _ _ z => z
      unfold riseT at q1
      rw [if_pos e1] at q1
      exact q1
    · have e1 : ¬ n = 1 := fun z => e (decide_eq_true (by rw [z]))
      refine ⟨_, rfl, 1, rfl, rfl, _, rfl, ite2 (fun e2 => ?_) (fun e2 => ?_)⟩
      · have e3 : n = -1 := V.int.inj (of_decide_eq_true e2)
        have q1 := q H fun _ _ z => z
        unfold riseT at q1
        rw [if_neg e1, if_pos e3] at q1
        exact q1
      · have e3 : ¬ n = -1 := fun z => e2 (decide_eq_true (by rw [z]))
        have hlen : (dT n).length ≤ 41 := dTl (by decide) hb
        refine ⟨_, rfl, n, rfl, Nat.lt_of_lt_of_le hb (by decide), fun H1 S1 => ?_⟩
        refine .inl ⟨_, rfl, szk (by omega), _, rfl, szk (by rw [emp_app]; omega), _, rfl, szk ?_, ?_⟩
        · rw [emp_app, len_app]
          show (dT n).length + 2 ≤ 1000
          omega
        · have q1 := q H1 S1
          unfold riseT at q1
          rw [if_neg e1, if_neg e3] at q1
          rw [emp_app]
          exact q1
theorem rise_len {a : Int} (h : a.natAbs < 10 ^ 40) : (riseT a).length ≤ 50 := by
  unfold riseT
  split
  · decide
  · split
    · decide
    · rw [len_app]
      have := dTl (k := 40) (by decide) h
      show (dT a).length + 2 ≤ 50
      omega
theorem scTe : FnScope ["self", "rising", "sign"] ["self"] (defScope sLText) := ⟨rfl, rfl, rfl, by decide +kernel, rfl, by decide +kernel, by decide +kernel⟩
theorem ok_text {f C : Addr} {fd : FuncData} (F : Fun K "text" "Line.text" sLText f fd) (T : LTxt K mg C) (TT : TTxt mg) (D : Cl P w K mg base 1 "decimal" ["number"] spDec) (R : Cl P w K mg base 2 "_rising_text" ["slope"] spRise) : FnOk P w K mg base CX0 3 f fd ["self"] (spText C) := by
  refine F.ok scTe (fun vs H Q E h => ?_) (fun cdv A outer s H vs Q E hr h => ?_)
  · obtain ⟨x, a, b, rfl, _⟩ := h; rfl
  · obtain ⟨x, a, b, rfl, hx, ha, hb, q⟩ := h
    have nd := scTe.nd
    refine ⟨_, pss_cons (ps_if (pt_cmpR op_eq (pe_fld (pv 0) rfl) pe_int (nomark _)) (pss_one (ps_ret (pe_cl D hr (by decide) (by rfl) (pa_cons (pe_fld (pv 0) rfl) pa_nil)))) pss_nil)
      (pss_cons (ps_set (i := 1) nd rfl (.inl rfl) (pe_cl R hr (by decide) (by rfl) (pa_cons (pe_fld (pv 0) rfl) pa_nil)))
      (pss_cons (ps_if (pt_cmpR op_eq (pe_fld (pv 0) rfl) pe_int (nomark _)) (pss_one (ps_ret (pv 1))) pss_nil)
      (pss_cons (ps_set (i := 2) nd rfl (.inl rfl) (pe_ifExp (pt_cmpR op_gt (pe_fld (pv 0) rfl) pe_int (nomark _)) pe_str pe_str))
      (pss_one (ps_ret (pe_joined (.cons (pe_fmt (pv 1)) (.cons pe_str (.cons (pe_fmt (pv 2)) (.cons pe_str (.cons (pe_fmt (pe_cl D hr (by decide) (by rfl) (pa_cons (pe_callB call_abs (by rfl) TT.zAbs boot_absO (pa_cons (pe_fld (pv 0) rfl) pa_nil)) pa_nil))) .nil))))))))))), ?_⟩
    obtain ⟨dx, hx'⟩ := hx
    have p60 : ∀ {z : Int}, z.natAbs < 10 ^ 40 → z.natAbs < 10 ^ 60 := fun h => Nat.lt_of_lt_of_le h (by decide)
    refine ⟨_, rfl, x, C, dx, _, _, rfl, hx', T.cl, T.nS, lFl_slope a b, rfl, _, rfl, ite2 (fun e => ?_) (fun e => ?_)⟩
    · have e1 : a = 0 := V.int.inj (of_decide_eq_true e)
      refine ⟨_, rfl, x, C, dx, _, _, rfl, hx', T.cl, T.nH, lFl_height a b, b, rfl, p60 hb, fun H1 S1 => ?_⟩
      have q1 := q H1 S1
      unfold lineT at q1
      rw [if_pos e1] at q1
      exact q1
    · have e1 : ¬ a = 0 := fun z => e (decide_eq_true (by rw [z]))
      refine ⟨_, rfl, x, C, dx, _, _, rfl, hx', T.cl, T.nS, lFl_slope a b, a, rfl, ha, fun H1 S1 => ?_⟩
      have hx1 := S1 _ _ hx'
      refine ⟨_, rfl, x, C, dx, _, _, rfl, hx1, T.cl, T.nH, lFl_height a b, rfl, _, rfl, ite2 (fun e2 => ?_) (fun e2 => ?_)⟩
      · have e3 : b = 0 := V.int.inj (of_decide_eq_true e2)
        have q1 := q H1 S1
        unfold lineT at q1
        rw [if_neg e1, if_pos e3] at q1
        exact ⟨_, rfl, q1⟩
      · have e3 : ¬ b = 0 := fun z => e2 (decide_eq_true (by rw [z]))
        have hR := rise_len ha
        have hD : (dT (absI b)).length ≤ 41 := dTl (by decide) (by rw [absI_nat]; exact hb)
        have fin : ∀ (sg sg2 : Str), sg.length = 1 → ((" " : Str) ++ sg) ++ (" " : Str) = sg2 → (if 0 < b then (" + " : Str) else (" - " : Str)) = sg2 → ∀ H2, Same H H2 → 
            (((((Str.empty ++ riseT a) ++ (" " : Str)) ++ sg) ++ (" " : Str)) ++ dT (absI b)) = lineT a b ∧ ((((Str.empty ++ riseT a) ++ (" " : Str)) ++ sg) ++ (" " : Str)).length ≤ 100 := fun sg sg2 h1 h2 h3 H2 S2 => by
          constructor
          · unfold lineT
            rw [if_neg e1, if_neg e3, h3, ← h2, emp_app]
            simp only [app_assoc]
          · rw [emp_app, len_app, len_app, len_app, h1]
            show (riseT a).length + 1 + 1 + 1 ≤ 100
            omega
        have tail : ∀ (sg sg2 : Str), sg.length = 1 → ((" " : Str) ++ sg) ++ (" " : Str) = sg2 → (if 0 < b then (" + " : Str) else (" - " : Str)) = sg2 → ∀ H2, Same H H2 → ((((((Str.empty ++ riseT a) ++ (" " : Str)) ++ sg) ++ (" " : Str)) ++ dT (absI b)).length ≤ sizeLine ∧ Q (.str (((((Str.empty ++ riseT a) ++ (" " : Str)) ++ sg) ++ (" " : Str)) ++ dT (absI b))) H2) := fun sg sg2 h1 h2 h3 H2 S2 => by
          have L := fin sg sg2 h1 h2 h3 H2 S2
          refine ⟨szk ?_, by rw [L.1]; exact q H2 S2⟩
          rw [len_app]
          have := L.2
          omega
        have pre : ∀ (sg : Str), sg.length = 1 → (Str.empty ++ riseT a).length ≤ 1000 ∧ ((Str.empty ++ riseT a) ++ (" " : Str)).length ≤ 1000 ∧ (((Str.empty ++ riseT a) ++ (" " : Str)) ++ sg).length ≤ 1000 ∧ ((((Str.empty ++ riseT a) ++ (" " : Str)) ++ sg) ++ (" " : Str)).length ≤ 1000 := fun sg h1 => by
          have e0 : (Str.empty ++ riseT a).length = (riseT a).length := by rw [emp_app]
          have e1 : ((Str.empty ++ riseT a) ++ (" " : Str)).length = (riseT a).length + 1 := by rw [len_app, e0]; rfl
          have e2 : (((Str.empty ++ riseT a) ++ (" " : Str)) ++ sg).length = (riseT a).length + 2 := by rw [len_app, e1, h1]
          have e3 : ((((Str.empty ++ riseT a) ++ (" " : Str)) ++ sg) ++ (" " : Str)).length = (riseT a).length + 3 := by rw [len_app, e2]; rfl
          rw [e0, e1, e2, e3]
          omega
        have dB : (absI b).natAbs < 10 ^ 60 := by rw [absI_nat]; exact p60 hb
        refine ⟨_, rfl, x, C, dx, _, _, rfl, hx1, T.cl, T.nH, lFl_height a b, _, _, rfl, rfl, _, rfl, ite2 (fun e4 => ?_) (fun e4 => ?_)⟩
        · have hb0 : 0 < b := of_decide_eq_true e4
          obtain ⟨l1, l2, l3, l4⟩ := pre ("+" : Str) (by decide)
          refine ⟨_, rfl, .inl ⟨_, rfl, szk (by omega), _, rfl, szk l1, _, rfl, szk l2, _, rfl, .inl ⟨_, rfl, by decide, _, rfl, szk l3, _, rfl, szk l4, _, rfl, x, C, dx, _, _, rfl, hx1, T.cl, T.nH, lFl_height a b, b, rfl, absI b, rfl, dB, fun H2 S2 => .inl ⟨_, rfl, szk (by omega), _, rfl, ?_⟩⟩⟩⟩
          exact tail ("+" : Str) (" + " : Str) (by decide) (by decide) (if_pos hb0) H2 (S1.trans S2)
        · have hb0 : ¬ 0 < b := fun z => e4 (decide_eq_true z)
          obtain ⟨l1, l2, l3, l4⟩ := pre ("-" : Str) (by decide)
          refine ⟨_, rfl, .inl ⟨_, rfl, szk (by omega), _, rfl, szk l1, _, rfl, szk l2, _, rfl, .inl ⟨_, rfl, by decide, _, rfl, szk l3, _, rfl, szk l4, _, rfl, x, C, dx, _, _, rfl, hx1, T.cl, T.nH, lFl_height a b, b, rfl, absI b, rfl, dB, fun H2 S2 => .inl ⟨_, rfl, szk (by omega), _, rfl, ?_⟩⟩⟩⟩
          exact tail ("-" : Str) (" - " : Str) (by decide) (by decide) (if_neg hb0) H2 (S1.trans S2)
theorem scLX : FnScope ["_law_line_here", "_law_slope", "_law_height", "_law_head"] ["_law_line_here"] (defScope sLTx) := ⟨rfl, rfl, rfl, by decide +kernel, rfl, by decide +kernel, by decide +kernel⟩
theorem ok_ltx {f : Addr} {fd : FuncData} (F : Fun K "_law_line_text" "_law_line_text" sLTx f fd) (TT : TTxt mg) : FnOk P w K mg base CX0 1 f fd ["_law_line_here"] spLTx := by
  refine F.ok scLX (fun vs H Q E h => ?_) (fun cdv A outer s H vs Q E hr h => ?_)
  · obtain ⟨x, a, b, rfl, _⟩ := h; rfl
  · obtain ⟨x, a, b, rfl, hx, ha, hb, q⟩ := h
    have nd := scLX.nd
    refine ⟨_, pss_cons (ps_asg (pv 0) (pg_tup rfl (pgs_cons (pg_name (i := 1) nd rfl (.inl rfl)) (pgs_cons (pg_name (i := 2) nd rfl (.inl rfl)) pgs_nil))))
      (pss_cons (ps_if (pt_cmpR op_eq (pv 1) pe_int (nomark _)) (pss_one (ps_ret (pe_callTy call_str_int (by rfl) TT.zStr boot_strT (pa_cons (pv 2) pa_nil)))) pss_nil)
      (pss_cons (ps_set (i := 3) nd rfl (.inl rfl) (pe_op op_add_str (pe_callTy call_str_int (by rfl) TT.zStr boot_strT (pa_cons (pv 1) pa_nil)) pe_str))
      (Evl.pss_cut (ps_if (PW.pt (pw_or (pt_cmpR op_eq (pv 1) pe_int (nomark _)) (pw_or1 (pt_cmpR op_eq (pv 1) (pe_un un_neg pe_int) (nomark _)))))
        (pss_one (ps_set (i := 3) nd rfl (.inl rfl) (pe_ifExp (pt_cmpR op_eq (pv 1) pe_int (nomark _)) pe_str pe_str))) pss_nil)
      (pss_cons (ps_if (pt_cmpR op_eq (pv 2) pe_int (nomark _)) (pss_one (ps_ret (pv 3))) pss_nil)
      (pss_one (ps_ret (pe_op op_add_str (pe_op op_add_str (pv 3) (pe_ifExp (pt_cmpR op_gt (pv 2) pe_int (nomark _)) pe_str pe_str)) (pe_callTy call_str_int (by rfl) TT.zStr boot_strT (pa_cons (pe_callB call_abs (by rfl) TT.zAbs boot_absO (pa_cons (pv 2) pa_nil)) pa_nil))))))))), ?_⟩
    have lg : ∀ {z : Int}, z.natAbs < 10 ^ 40 → z.natAbs.log2 < 1920 := fun h => dT_log (Nat.lt_of_lt_of_le h (by decide))
    refine ⟨_, rfl, x, _, rfl, .inl (.inl hx), rfl, _, _, rfl, _, _, rfl, rfl, ?_⟩
    refine ⟨_, rfl, rfl, _, rfl, ite2 (fun e => ?_) (fun e => ?_)⟩
    · have e1 : a = 0 := V.int.inj (of_decide_eq_true e)
      unfold lineT at q
      rw [if_pos e1] at q
      exact ⟨_, rfl, b, rfl, lg hb, q⟩
    · have e1 : ¬ a = 0 := fun z => e (decide_eq_true (by rw [z]))
      have hA : (dT a).length ≤ 41 := dTl (by decide) ha
      have hD : (dT (absI b)).length ≤ 41 := dTl (by decide) (by rw [absI_nat]; exact hb)
      have hR := rise_len ha
      refine ⟨_, rfl, a, rfl, lg ha, _, _, rfl, rfl, szk (by show (dT a).length + 2 ≤ 1000; omega), ?_⟩
      refine ⟨fun σ' H' => σ' = [some (.ref x), some (.int a), some (.int b), some (.str (riseT a))] ∧ H' = H, ?_, ?_⟩
      · refine ⟨_, rfl, rfl, _, rfl, ite2 (fun e2 => ?_) (fun e2 => ?_)⟩
        · have e3 : a = 1 := V.int.inj (of_decide_eq_true e2)
          refine ⟨_, rfl, rfl, _, rfl, ite2 (fun _ => ?_) (fun z => absurd e2 z)⟩
          refine ⟨?_, rfl⟩
          unfold riseT
          rw [if_pos e3]
          rfl
        · have e3 : ¬ a = 1 := fun z => e2 (decide_eq_true (by rw [z]))
          refine ⟨_, rfl, 1, rfl, rfl, _, rfl, ite2 (fun e4 => ?_) (fun e4 => ?_)⟩
          · have e5 : a = -1 := V.int.inj (of_decide_eq_true e4)
            refine ⟨_, rfl, rfl, _, rfl, ite2 (fun z => absurd z e2) (fun _ => ?_)⟩
            refine ⟨?_, rfl⟩
            unfold riseT
            rw [if_neg e3, if_pos e5]
            rfl
          · have e5 : ¬ a = -1 := fun z => e4 (decide_eq_true (by rw [z]))
            refine ⟨?_, rfl⟩
            unfold riseT
            rw [if_neg e3, if_neg e5]
            rfl
      · rintro σ' H' ⟨rfl, rfl⟩
        refine ⟨_, rfl, rfl, _, rfl, ite2 (fun e2 => ?_) (fun e2 => ?_)⟩
        · have e3 : b = 0 := V.int.inj (of_decide_eq_true e2)
          unfold lineT at q
          rw [if_neg e1, if_pos e3] at q
          exact ⟨_, rfl, q⟩
        · have e3 : ¬ b = 0 := fun z => e2 (decide_eq_true (by rw [z]))
          unfold lineT at q
          rw [if_neg e1, if_neg e3] at q
          have lB : (absI b).natAbs.log2 < 1920 := lg (by rw [absI_nat]; exact hb)
          refine ⟨_, rfl, _, rfl, _, _, rfl, rfl, _, rfl, ite2 (fun e4 => ?_) (fun e4 => ?_)⟩
          · rw [if_pos (of_decide_eq_true e4)] at q
            refine ⟨_, _, rfl, rfl, szk (by show (riseT a).length + 3 ≤ 1000; omega), _, rfl, b, rfl, absI b, rfl, lB, _, _, rfl, rfl, szk ?_, q⟩
            rw [len_app]
            show (riseT a).length + 3 + (dT (absI b)).length ≤ 1000
            omega
          · rw [if_neg (fun z => e4 (decide_eq_true z))] at q
            refine ⟨_, _, rfl, rfl, szk (by show (riseT a).length + 3 ≤ 1000; omega), _, rfl, b, rfl, absI b, rfl, lB, _, _, rfl, rfl, szk ?_, q⟩
            rw [len_app]
            show (riseT a).length + 3 + (dT (absI b)).length ≤ 1000
            omega
end
end OR

namespace OR
open PySem PySem.Spec PyProof.Rows L2
open TL (tl numL)
/-! ### words, signs -/
def letters : Str := "abcdefghijklmnopqrstuvwxyz"
structure Word (s : Str) : Prop where
  pos : 1 ≤ s.length
  len : s.length ≤ 8
  az : ∀ c ∈ tl s, 97 ≤ c ∧ c ≤ 122
theorem az_in {c : Nat} (h0 : 97 ≤ c) (h1 : c ≤ 122) : c ∈ tl letters := by
  have e : tl letters = (List.range 26).map (· + 97) := by decide +kernel
  rw [e]
  exact List.mem_map.mpr ⟨c - 97, List.mem_range.mpr (by omega), by omega⟩
structure WTxt (K : PySem.W.Frag) (mg : Str → Option Value) (ts tw : Addr) : Prop where
  zIsi : mg "isinstance" = none
  zStr : mg "str" = none
  zLen : mg "len" = none
  zAll : mg "all" = none
  let_ : ∃ t, mg "_LETTERS" = some (.str letters t)
  most : ∃ t, mg "_MOST_LETTERS" = some (.int 8 t)
  gS : mg "SIGNS" = some (.ref ts)
  gW : mg "WAYS" = some (.ref tw)
  hS : ∀ H : Hp, SqT K H ts [.str ("<=" : Str), .str (">=" : Str), .str ("=" : Str)]
  hW : ∀ H : Hp, SqT K H tw [.str ("up" : Str), .str ("down" : Str)]
def spIsWord : Sp := fun vs H Q _ => ∃ s : Str, vs = [.str s] ∧ Word s ∧ ∀ H', Same H H' → Q (.bl true) H'
def spChkW : Sp := fun vs H Q _ => ∃ s : Str, vs = [.str s] ∧ Word s ∧ ∀ H', Same H H' → Q .non H'
def spChkTwo : Sp := fun vs H Q _ => ∃ s t : Str, vs = [.str s, .str t] ∧ Word s ∧ Word t ∧ s ≠ t ∧ ∀ H', Same H H' → Q .non H'
def isSign (s : Str) : Prop := s = "<=" ∨ s = ">=" ∨ s = "="
def isWay (s : Str) : Prop := s = "up" ∨ s = "down"
def spChkS (K : PySem.W.Frag) : Sp := fun vs H Q _ => ∃ (s : Str) (a : Addr) (xs : List Str), vs = [.str s, .ref a] ∧ SqT K H a (xs.map V.str) ∧ s ∈ xs ∧ Q .non H
theorem bt_all : bootBuiltins ("all" : Str) = some (.builtin "all") := by decide +kernel
theorem lc_str {x : Str} {g : TG} {tt : TT} {te : TE} {vs : List Nat} {σ : L2.St} {H1 : Hp} {D : Addr} {Qd : Hp → Prop} (Pv : Nat → Hp → Prop) (h0 : Pv 0 (upd H1 D (.lst [])))
    (hs : ∀ i c H, (tl x)[i]? = some c → Pv i H → g (.str ⟨#[c]⟩) (wipe σ vs) H fun σ2 H2 => wipe σ2 vs = wipe σ vs ∧ tt σ2 H2 fun b H3 =>
      if b = true then te σ2 H3 fun y H4 => ∃ acc, H4 D = some (.lst acc) ∧ acc.length < sizeLine ∧ Pv (i + 1) (upd H4 D (.lst (acc ++ [y]))) else Pv (i + 1) H3) (hd : ∀ H, Pv x.length H → Qd H) :
    ∃ W : Nat → Nat → Hp → Prop, (∃ m, W 0 m (upd H1 D (.lst []))) ∧ ∀ i m H, W i m H →
      ((Its x).stop i H ∧ Qd H) ∨ ((Its x).go i H ∧ ∃ Nx : Hp → Prop, (∀ H', Nx H' → ∃ m', m' < m ∧ W (i + 1) m' H') ∧ ∀ y H', (Its x).yld i H y H' → g y (wipe σ vs) H' fun σ2 H2 => wipe σ2 vs = wipe σ vs ∧ tt σ2 H2 fun b H3 =>
        if b = true then te σ2 H3 fun y H4 => ∃ acc, H4 D = some (.lst acc) ∧ acc.length < sizeLine ∧ Nx (upd H4 D (.lst (acc ++ [y]))) else Nx H3) := by
  have hl : x.length = x.cps.size := rfl
  refine ⟨fun i m H => m = x.length - i ∧ i ≤ x.length ∧ Pv i H, ⟨x.length, by simp, Nat.zero_le _, h0⟩, ?_⟩
  rintro i m H ⟨rfl, hi, p⟩
  by_cases hlt : i < x.length
  · refine .inr ⟨hlt, Pv (i + 1), fun H' p' => ⟨x.length - (i + 1), by omega, rfl, hlt, p'⟩, fun y H' hy => ?_⟩
    obtain ⟨e, c, hc, e2⟩ := hy
    subst e e2
    refine hs i c _ ?_ p
    show x.cps.toList[i]? = some c
    rw [Array.getElem?_toList]
    exact hc
  · have e : i = x.length := by omega
    subst e
    exact .inl ⟨Nat.le_refl _, hd H p⟩
section
variable {P : Program} {w : World} {K : PySem.W.Frag} {mg : Str → Option Value} {base : Heap} {ts tw : Addr}
theorem scIW : FnScope ["value", "letter"] ["value"] (defScope sIsWord) := ⟨rfl, rfl, rfl, by decide +kernel, rfl, by decide +kernel, by decide +kernel⟩
theorem ok_isword {f : Addr} {fd : FuncData} (F : Fun K "is_word" "is_word" sIsWord f fd) (T : WTxt K mg ts tw) : FnOk P w K mg base CX0 1 f fd ["value"] spIsWord := by
  obtain ⟨t1, hl⟩ := T.let_
  obtain ⟨t2, hm⟩ := T.most
  refine F.ok scIW (fun vs H Q E h => ?_) (fun cdv A outer s H vs Q E hr h => ?_)
  · obtain ⟨s, rfl, _⟩ := h
    rfl
  · obtain ⟨x, rfl, hw, q⟩ := h
    have nd := scIW.nd
    refine ⟨_, pss_cons (ps_if (PW.pt (pw_or (pt_not (pt_val (pe_callB call_isi (by rfl) T.zIsi bt_isi (pa_cons (pv 0) (pa_cons (pe_bltn (v := .ty "str") (by rfl) T.zStr boot_strT rfl) pa_nil)))))
          (pw_or1 (pt_not (pt_chain op_le op_le pe_int (pe_callB call_len_str (by rfl) T.zLen PySem.boot_len (pa_cons (pv 0) pa_nil)) (pe_glob (v := .int 8) (by rfl) hm ⟨_, rfl⟩)))))) (pss_one (ps_ret pe_bl)) pss_nil)
      (pss_one (ps_ret (pe_callB (cr_all rfl) (by rfl) T.zAll bt_all (pa_cons
        (pe_lc (own := [("letter", 1)]) (g := gName 1) (tt := tYes) rfl nd (pi_str (pv 0)) (blkOk_by (N := ["value", "letter"]) (sc := defScope sIsWord) (by decide +kernel))
          (fun _ _ _ _ _ => pg_name (i := 1) nd rfl (.inl rfl)) (fun _ _ _ _ _ => pts_nil) (fun _ _ _ _ _ => pe_cmpR op_in_sign (pv 1) (pe_glob (v := .str letters) (by rfl) hl ⟨_, rfl⟩) (by rfl))) pa_nil)))), ?_⟩
    have hp := hw.pos
    have hq := hw.len
    refine ⟨_, rfl, _, .ty "str", _, _, true, rfl, .ty "str", .base (.str _), kit_ty (by decide +kernel), _, rfl, iteF ?_⟩
    refine ⟨_, rfl, x, rfl, sz1 (by omega), _, _, rfl, rfl, _, rfl, ite2 (fun _ => ?_) (fun z => absurd (decide_eq_true (show (1 : Int) ≤ (x.length : Nat) by omega)) z)⟩
    refine ⟨_, _, rfl, rfl, _, rfl, ite2 (fun z => ?_) (fun _ => ?_)⟩
    · exfalso
      have h8 : decide (((x.length : Nat) : Int) ≤ 8) = true := decide_eq_true (by omega)
      rw [h8] at z
      exact absurd z (by decide)
    · refine ⟨_, rfl, x, rfl, fun D hD => lc_str (x := x) (fun i G => G D = some (.lst ((List.replicate i true).map V.bl)) ∧ Same H G) ⟨upd_same, same_lay hD⟩ ?_ ?_⟩
      · rintro i c G hc ⟨hd, s⟩
        have hz := hw.az c (List.mem_of_getElem? hc)
        have hi : i < x.length := by
          have := (List.getElem?_eq_some_iff.mp hc).1
          rw [TL.len_tl]
          exact this
        refine ⟨rfl, yesT ?_⟩
        refine ⟨_, rfl, c, letters, rfl, rfl, _, hd, small1000 (by rw [List.length_map, List.length_replicate]; omega), ?_, same_upd s hD⟩
        rw [upd_same, List.replicate_succ', List.map_append, show decide (c ∈ letters.cps.toList) = true from decide_eq_true (az_in hz.1 hz.2)]
        rfl
      · rintro G ⟨hd, s⟩
        refine ⟨D, _, rfl, .inl (.inl hd), ?_⟩
        have e : (List.replicate x.length true).all id = true := by
          rw [List.all_eq_true]
          intro b hb
          exact (List.mem_replicate.mp hb).2
        rw [e]
        exact q G s
theorem scKW : FnScope ["value"] ["value"] (defScope sChkW) := ⟨rfl, rfl, rfl, by decide +kernel, rfl, by decide +kernel, by decide +kernel⟩
theorem ok_chkw {f : Addr} {fd : FuncData} (F : Fun K "check_word" "check_word" sChkW f fd) (IW : Cl P w K mg base 1 "is_word" ["value"] spIsWord) : FnOk P w K mg base CX0 2 f fd ["value"] spChkW := by
  refine F.ok scKW (fun vs H Q E h => ?_) (fun cdv A outer s H vs Q E hr h => ?_)
  · obtain ⟨s, rfl, _⟩ := h
    rfl
  · obtain ⟨x, rfl, hw, q⟩ := h
    refine ⟨_, pss_one (ps_if (pt_not (pt_val (pe_cl IW hr (by decide) (by rfl) (pa_cons (pv 0) pa_nil)))) (pss_one ps_never) pss_nil), ?_⟩
    exact ⟨_, rfl, x, rfl, hw, fun H' s => ⟨_, rfl, iteF (q H' s)⟩⟩
theorem scKT : FnScope ["function", "other"] ["function", "other"] (defScope sChkTwo) := ⟨rfl, rfl, rfl, by decide +kernel, rfl, by decide +kernel, by decide +kernel⟩
theorem ok_chktwo {f : Addr} {fd : FuncData} (F : Fun K "check_two_words" "check_two_words" sChkTwo f fd) (CW : Cl P w K mg base 2 "check_word" ["value"] spChkW) : FnOk P w K mg base CX0 3 f fd ["function", "other"] spChkTwo := by
  refine F.ok scKT (fun vs H Q E h => ?_) (fun cdv A outer s H vs Q E hr h => ?_)
  · obtain ⟨s, t, rfl, _⟩ := h
    rfl
  · obtain ⟨x, y, rfl, hx, hy, ne, q⟩ := h
    refine ⟨_, pss_cons (ps_expr (pe_cl CW hr (by decide) (by rfl) (pa_cons (pv 0) pa_nil))) (pss_cons (ps_expr (pe_cl CW hr (by decide) (by rfl) (pa_cons (pv 1) pa_nil))) (pss_one (ps_if (pt_cmpR op_eq (pv 0) (pv 1) (nomark _)) (pss_one ps_never) pss_nil))), ?_⟩
    refine ⟨_, rfl, x, rfl, hx, fun H1 s1 => ⟨_, rfl, y, rfl, hy, fun H2 s2 => ⟨_, rfl, _, rfl, rfl, _, rfl, ite2 (fun z => absurd (V.str.inj (of_decide_eq_true z)) ne) (fun _ => q H2 (s1.trans s2))⟩⟩⟩
theorem scKS : FnScope ["value", "allowed"] ["value", "allowed"] (defScope sChkSign) := ⟨rfl, rfl, rfl, by decide +kernel, rfl, by decide +kernel, by decide +kernel⟩
theorem op_notIn_seqK {X : Cx} (K : PySem.W.Frag) (hK : X.K = K) : OpR X (compareOp .NotIn) (rIn K true) := by
  subst hK
  exact op_notIn_seq
theorem in_strs {s : Str} {xs : List Str} (h : s ∈ xs) : inV (.str s) (xs.map V.str) = true := by
  unfold inV
  rw [List.any_eq_true]
  exact ⟨.str s, List.mem_map.mpr ⟨s, h, rfl⟩, by simp [eqV]⟩
theorem notin_strs {s : Str} {xs : List Str} (h : s ∉ xs) : inV (.str s) (xs.map V.str) = false := by
  unfold inV
  rw [List.any_eq_false]
  intro v hv
  obtain ⟨t, ht, rfl⟩ := List.mem_map.mp hv
  have : t ≠ s := fun e => h (e ▸ ht)
  simp [eqV, this]
theorem flat_strs (xs : List Str) : (xs.map V.str).all flatV = true := by
  rw [List.all_eq_true]
  intro v hv
  obtain ⟨t, ht, rfl⟩ := List.mem_map.mp hv
  rfl
theorem ok_chks {f : Addr} {fd : FuncData} (F : Fun K "check_sign" "check_sign" sChkSign f fd) : FnOk P w K mg base CX0 1 f fd ["value", "allowed"] (spChkS K) := by
  refine F.ok scKS (fun vs H Q E h => ?_) (fun cdv A outer s H vs Q E hr h => ?_)
  · obtain ⟨s, a, xs, rfl, _⟩ := h
    rfl
  · obtain ⟨x, a, xs, rfl, hS, hx, q⟩ := h
    refine ⟨_, pss_one (ps_if (pt_cmpR (op_notIn_seqK K rfl) (pv 0) (pv 1) (by rfl)) (pss_one ps_never) pss_nil), ?_⟩
    refine ⟨_, rfl, _, rfl, a, _, rfl, .inr hS, rfl, flat_strs xs, _, rfl, ?_⟩
    rw [in_strs hx]
    exact iteF q
end
end OR

namespace OR
open PySem PySem.Spec PyProof.Rows L2
open TL (tl numL)
theorem nf_self {K : PySem.W.Frag} {C : Addr} : PySem.W.notFirst K C (.ref C) = true := by simp [PySem.W.notFirst]
theorem ne_q {K : PySem.W.Frag} {mg : Str → Option Value} {C : Addr} (T : PTxt K mg C) {H : Hp} {x y : Addr} {l m : List Row} {Q : VK} (hx : IsP C H x l) (hy : IsP C H y m) (k : Q (.bl (!decide (l = m))) H) : rNeO K C (spPlEq K C) (.ref x) (.ref y) H Q := by
  obtain ⟨_, dx, _, _, _, _, e1, _⟩ := id hx
  obtain ⟨_, dy, _, _, _, _, e2, _⟩ := id hy
  exact ⟨x, dx, _, rfl, e1, ⟨.ref C, tyP T e2, nf_self⟩, x, l, .ref y, rfl, hx, .inl ⟨y, m, rfl, hy, _, rfl, k⟩⟩
theorem eq_q {K : PySem.W.Frag} {mg : Str → Option Value} {C : Addr} (T : PTxt K mg C) {H : Hp} {x y : Addr} {l m : List Row} {Q : VK} (hx : IsP C H x l) (hy : IsP C H y m) (k : Q (.bl (decide (l = m))) H) : rEqO K C (spPlEq K C) (.ref x) (.ref y) H Q := by
  obtain ⟨_, dx, _, _, _, _, e1, _⟩ := id hx
  obtain ⟨_, dy, _, _, _, _, e2, _⟩ := id hy
  exact ⟨x, dx, _, rfl, e1, ⟨.ref C, tyP T e2, nf_self⟩, x, l, .ref y, rfl, hx, .inl ⟨y, m, rfl, hy, k⟩⟩
structure Mt (P : Program) (w : World) (K : PySem.W.Frag) (mg : Str → Option Value) (base : Heap) (k : Nat) (C : Addr) (m : Str) (ps : List Str) (sp : Sp) : Prop where
  ex : ∃ (f : Addr) (fd : FuncData), Meth K C m f ∧ FnOk P w K mg base CX0 k f fd ps sp ∧ Binds K fd ps []
theorem pe_mt {X : Cx} {k j : Nat} {C : Addr} {m : Str} {ps : List Str} {sp : Sp} {o e : Expr} {es : List Expr} {ta : TE} {t : TA} {apos pos : Pos} {pl : Sem Bool} (M : Mt X.prog X.w X.K X.mg X.base k C m ps sp) (c : Cls X.K C) (hr : Room j X.A) (hk : k ≤ j) (he : PE X o ta) (ha : PA X (e :: es) t)
    (hst : starEach (e :: es) X.env = (false, eval e X.env) :: starEach es X.env := by rfl) (hpl : (backTo pos (starEach es X.env)).any (·.1) = false := by rfl)
    (ht : eval (.Call (.Attribute o m apos) (e :: es) [] pos) X.env = (do
      let ov ← eval o X.env
      standAt apos.atName
      let (f, first) ← holding [ov] (getMethod ov m pl)
      callWith pos f first (backTo pos (starEach (e :: es) X.env)) (backToKw pos (keywordEach [] X.env))) := by rfl) : PE X (.Call (.Attribute o m apos) (e :: es) [] pos) (tMeth C m sp [] E0 ta t) := by
  obtain ⟨f, fd, hm, F, hb⟩ := M.ex
  exact pe_meth he c hm F (hr.mono hk) hb .nil pass0 ha hst hpl ht
theorem mt_of {P : Program} {w : World} {K : PySem.W.Frag} {mg : Str → Option Value} {base : Heap} {C : Addr} {m m' qual : Str} {st : Stmt} {k : Nat} {ps : List Str} {sp : Sp} (a : MtAt K C m m' qual st)
    (hb : ∀ (kV doc pm : Value) (an : Option Addr) (cdv ct : Value) (us : List Value), us.length = ps.length → bindArgs (PySem.W.fnOf m qual (defArgs st) (defBody st) (defScope st) .none kV doc pm an cdv ct) ⟨us, []⟩ = pure (ps.zip us))
    (ok : ∀ f fd, Fun K m qual st f fd → FnOk P w K mg base CX0 k f fd ps sp) : Mt P w K mg base k C m' ps sp := by
  obtain ⟨f, fd, F, e, i, n⟩ := a.ex
  exact ⟨f, fd, ⟨e, i, F.kp⟩, ok f fd F, F.binds hb⟩
theorem pe_mt0 {X : Cx} {k j : Nat} {C : Addr} {m : Str} {ps : List Str} {sp : Sp} {o : Expr} {ta : TE} {apos pos : Pos} {pl : Sem Bool} (M : Mt X.prog X.w X.K X.mg X.base k C m ps sp) (c : Cls X.K C) (hr : Room j X.A) (hk : k ≤ j) (he : PE X o ta)
    (ht : eval (.Call (.Attribute o m apos) [] [] pos) X.env = (do
      let ov ← eval o X.env
      standAt apos.atName
      let (f, first) ← holding [ov] (getMethod ov m pl)
      callWith pos f first (backTo pos (starEach [] X.env)) (backToKw pos (keywordEach [] X.env))) := by rfl) : PE X (.Call (.Attribute o m apos) [] [] pos) (tMeth C m sp [] E0 ta tNil) := by
  obtain ⟨f, fd, hm, F, hb⟩ := M.ex
  exact pe_meth0 he c hm F (hr.mono hk) hb .nil pass0 ht
theorem pe_fldK {X : Cx} {e : Expr} {f : Str} {pos : Pos} {ta : TE} (K : PySem.W.Frag) (hK : X.K = K) (he : PE X e ta) (hb : attributeBase e f X.env (eval e X.env) = eval e X.env) : PE X (.Attribute e f pos) (tFld K ta f) := by
  subst hK
  exact pe_fld he hb
/-! ### clauses as they stand -/
def kName : Nat → Str
  | 0 => "answers"
  | 1 => "refuses"
  | 2 => "needs"
  | 3 => "spreads"
  | 4 => "bound"
  | 5 => "pair"
  | _ => "step"
def clsName : Nat → Str
  | 0 => "Answers"
  | 1 => "Refuses"
  | 2 => "Needs"
  | 3 => "Spreads"
  | 4 => "Bound"
  | 5 => "Pair"
  | _ => "Step"
def xNames : Nat → List Str
  | 0 => []
  | 1 => []
  | 2 => ["other"]
  | 3 => ["way"]
  | 4 => ["sign", "slope", "height"]
  | 5 => ["sign", "other", "slope", "height"]
  | _ => ["sign", "height"]
def allNames (i : Nat) : List Str := "kind" :: "function" :: "places" :: xNames i
def cVals (i : Nat) (f : Str) (pl : Addr) (x : List V) : List V := .str (kName i) :: .str f :: .ref pl :: x
def putAll : List (Str × V) → List (Str × V) → List (Str × V)
  | [], acc => acc
  | (n, v) :: r, acc => putAll r (putF n v acc)
def cFl (i : Nat) (f : Str) (pl : Addr) (x : List V) : List (Str × V) := putAll ((allNames i).zip (cVals i f pl x)) []
theorem nodup_all : ∀ i, (allNames i).Nodup
  | 0 => by decide +kernel
  | 1 => by decide +kernel
  | 2 => by decide +kernel
  | 3 => by decide +kernel
  | 4 => by decide +kernel
  | 5 => by decide +kernel
  | _ + 6 => by
    show ("kind" :: "function" :: "places" :: ["sign", "height"] : List Str).Nodup
    decide +kernel
theorem lookup_none {m : Str} : ∀ {l : List (Str × V)}, (∀ p ∈ l, p.1 ≠ m) → l.lookup m = none
  | [], _ => rfl
  | (n, v) :: r, h => by
    have h1 : (m == n) = false := beq_eq_false_iff_ne.mpr fun e => h (n, v) List.mem_cons_self e.symm
    rw [List.lookup_cons, h1]
    exact lookup_none fun p hp => h p (List.mem_cons_of_mem _ hp)
theorem putAll_lookup {m : Str} : ∀ (l acc : List (Str × V)), (l.map (·.1)).Nodup → (putAll l acc).lookup m = ((l.lookup m).or (acc.lookup m))
  | [], acc, _ => by simp [putAll]
  | (n, v) :: r, acc, h => by
    rw [List.map_cons, List.nodup_cons] at h
    show (putAll r (putF n v acc)).lookup m = _
    rw [putAll_lookup r _ h.2, lookup_putF, List.lookup_cons]
    by_cases e : m = n
    · subst e
      rw [if_pos rfl, lookup_none (l := r) (fun p hp ep => h.1 (List.mem_map.mpr ⟨p, hp, ep⟩))]
      simp
    · rw [if_neg e, beq_eq_false_iff_ne.mpr e]
theorem zip_lookup {n : Str} {v : V} : ∀ {ns : List Str} {vs : List V} {j : Nat}, ns.Nodup → ns[j]? = some n → vs[j]? = some v → (ns.zip vs).lookup n = some v
  | [], _, _, _, h, _ => by simp at h
  | _ :: _, [], _, _, _, h => by simp at h
  | a :: ns, b :: vs, 0, _, h1, h2 => by
    have e1 : a = n := Option.some.inj h1
    have e2 : b = v := Option.some.inj h2
    subst e1 e2
    rw [List.zip_cons_cons, List.lookup_cons, beq_self_eq_true]
  | a :: ns, b :: vs, j + 1, hd, h1, h2 => by
    have hd' := List.nodup_cons.mp hd
    have hm : n ∈ ns := List.mem_of_getElem? (show ns[j]? = some n from h1)
    have ne : n ≠ a := fun e => hd'.1 (e ▸ hm)
    rw [List.zip_cons_cons, List.lookup_cons, beq_eq_false_iff_ne.mpr ne]
    exact zip_lookup hd'.2 (show ns[j]? = some n from h1) (show vs[j]? = some v from h2)
theorem zip_fst_sub {ns : List Str} {vs : List V} : ∀ {p : Str × V}, p ∈ ns.zip vs → p.1 ∈ ns := fun h => (List.of_mem_zip h).1
theorem zip_nodup : ∀ {ns : List Str} {vs : List V}, ns.Nodup → ((ns.zip vs).map (·.1)).Nodup
  | [], _, _ => by simp
  | _ :: _, [], _ => by simp
  | a :: ns, b :: vs, h => by
    have h' := List.nodup_cons.mp h
    rw [List.zip_cons_cons, List.map_cons, List.nodup_cons]
    refine ⟨fun hm => ?_, zip_nodup h'.2⟩
    obtain ⟨p, hp, e⟩ := List.mem_map.mp hm
    have e2 : p.1 = a := e
    exact h'.1 (by rw [← e2]; exact zip_fst_sub hp)
theorem cFl_at {i j : Nat} {f n : Str} {pl : Addr} {x : List V} {v : V} (hn : (allNames i)[j]? = some n) (hv : (cVals i f pl x)[j]? = some v) : (cFl i f pl x).lookup n = some v := by
  unfold cFl
  rw [putAll_lookup _ _ (zip_nodup (nodup_all i)), zip_lookup (nodup_all i) hn hv]
  rfl
theorem cFl_no {i : Nat} {f n : Str} {pl : Addr} {x : List V} (hn : n ∉ allNames i) : (cFl i f pl x).lookup n = none := by
  unfold cFl
  rw [putAll_lookup _ _ (zip_nodup (nodup_all i)), lookup_none (l := (allNames i).zip (cVals i f pl x)) (m := n) (fun p hp e => hn (by rw [← e]; exact zip_fst_sub hp))]
  rfl
def Num (a : Int) : Prop := a.natAbs < 10 ^ 40
def WF : Nat → Str → List V → Prop
  | 0, _, x => x = []
  | 1, _, x => x = []
  | 2, f, x => ∃ g, x = [.str g] ∧ Word g ∧ g ≠ f
  | 3, _, x => ∃ w, x = [.str w] ∧ isWay w
  | 4, _, x => ∃ s a b, x = [.str s, .int a, .int b] ∧ isSign s ∧ Num a ∧ Num b
  | 5, f, x => ∃ s g a b, x = [.str s, .str g, .int a, .int b] ∧ isSign s ∧ Word g ∧ g ≠ f ∧ Num a ∧ Num b
  | _, _, x => ∃ s b, x = [.str s, .int b] ∧ isSign s ∧ Num b
structure IsC (CP : Addr) (C : Nat → Addr) (H : Hp) (z : Addr) (i : Nat) (f : Str) (l : List Row) (x : List V) : Prop where
  ex : ∃ dx pl, H z = some (.ins (C i) dx (cFl i f pl x)) ∧ IsP CP H pl l
  lt : i < 7
  w : Word f
  wf : WF i f x
  ok : ∀ r ∈ l, okRow r = true
  len : l.length ≤ 20
theorem IsC.same {CP : Addr} {C : Nat → Addr} {H H' : Hp} {z : Addr} {i : Nat} {f : Str} {l : List Row} {x : List V} (h : IsC CP C H z i f l x) (s : Same H H') : IsC CP C H' z i f l x := by
  obtain ⟨⟨dx, pl, e, hp⟩, a, b, c, d, g⟩ := h
  exact ⟨⟨dx, pl, s _ _ e, hp.same s⟩, a, b, c, d, g⟩
def ceq (i : Nat) (f : Str) (l : List Row) (x : List V) (j : Nat) (g : Str) (m : List Row) (u : List V) : Bool := decide (i = j ∧ f = g ∧ l = m ∧ x = u)
structure CTxt (K : PySem.W.Frag) (mg : Str → Option Value) (C : Nat → Addr) : Prop where
  cl : ∀ i, i < 7 → Cls K (C i)
  no : ∀ i, i < 7 → ∀ n ∈ allNames i, NoAttr K (C i) n
  isi : ∀ i, i < 7 → SlX.SIsi K (C i)
  kk : ∀ i, i < 7 → ∀ j, j < 7 → PySem.W.kitOne K (.ref (C i)) (.ref (C j)) = some (decide (i = j))
  mgC : ∀ i, i < 7 → mg (clsName i) = some (.ref (C i))
  sf : ∀ i, i < 7 → PySem.W.selfFirst K (C i) = true
  ne : ∀ i, i < 7 → PySem.W.findIn K (.ref (C i)) "__ne__" = some (some (.builtin "object.__ne__"))
  kS : ∀ i, i < 7 → PySem.W.kitOne K (.type "str") (.ref (C i)) = some false
  kT : ∀ i, i < 7 → PySem.W.kitOne K (.type "tuple") (.ref (C i)) = some false
section
variable {P : Program} {w : World} {K : PySem.W.Frag} {mg : Str → Option Value} {base : Heap} {C : Nat → Addr} {CP : Addr}
theorem tyC (T : CTxt K mg C) {H : Hp} {z dx : Addr} {i : Nat} {fs : List (Str × V)} (hi : i < 7) (hz : H z = some (.ins (C i) dx fs)) : TyX K H (.ref z) (.ref (C i)) := .base (.ins hz (T.cl i hi) (T.isi i hi).ca (T.isi i hi).cn (T.isi i hi).ct (T.isi i hi).cm)
/-- a field is read -/
theorem fld (T : CTxt K mg C) {H : Hp} {z dx pl : Addr} {i j : Nat} {f n : Str} {x : List V} {v : V} {Q : V → Prop} (hz : H z = some (.ins (C i) dx (cFl i f pl x))) (hi : i < 7) (hn : (allNames i)[j]? = some n) (hv : (cVals i f pl x)[j]? = some v) (q : Q v) :
    ∃ a C' dx fs v', V.ref z = .ref a ∧ H a = some (.ins C' dx fs) ∧ Cls K C' ∧ NoAttr K C' n ∧ fs.lookup n = some v' ∧ Q v' :=
  ⟨z, C i, dx, _, v, rfl, hz, T.cl i hi, T.no i hi n (List.mem_of_getElem? hn), cFl_at hn hv, q⟩
def spCInit (C : Nat → Addr) (i : Nat) : Sp := fun vs H Q _ => ∃ (p dx : Addr) (f : Str) (pl : Addr) (x : List V), vs = .ref p :: .str f :: .ref pl :: x ∧ Word f ∧ WF i f x ∧ H p = some (.ins (C i) dx []) ∧
  ∀ H', H' p = some (.ins (C i) dx (cFl i f pl x)) → (∀ c o, H c = some o → c ≠ p → H' c = some o) → Q .non H'
def spCEq (K : PySem.W.Frag) (CP : Addr) (C : Nat → Addr) (i : Nat) : Sp := fun vs H Q _ => ∃ (a : Addr) (y : V) (f : Str) (l : List Row) (x : List V), vs = [.ref a, y] ∧ IsC CP C H a i f l x ∧
  ((∃ b j g m u, y = .ref b ∧ IsC CP C H b j g m u ∧ Q (.bl (ceq i f l x j g m u)) H) ∨ (∃ T : String, TyX K H y (.type T) ∧ PySem.W.kitOne K (.type T) (.ref (C i)) = some false ∧ Q (.bl false) H))
def told : Nat → Str → List V → List V
  | 2, f, [g] => [.str f, g]
  | 5, f, [_, g, _, _] => [.str f, g]
  | _, f, _ => [.str f]
def spCTold (CP : Addr) (C : Nat → Addr) (i : Nat) : Sp := fun vs H Q _ => ∃ (z : Addr) (f : Str) (l : List Row) (x : List V), vs = [.ref z] ∧ IsC CP C H z i f l x ∧ ∀ t, H t = none → Q (.ref t) (upd H t (.tup (told i f x)))
def addT (t : Str) : Str := if t = ("0" : Str) then ("" : Str) else if Txt.startswith t ("-" : Str) = true then (" - " : Str) ++ cutS t (some 1) none else (" + " : Str) ++ t
def begT (i : Nat) (f : Str) (l : List Row) : Str := (((kName i ++ (" " : Str)) ++ f) ++ (" " : Str)) ++ textOf l
def cText : Nat → Str → List Row → List V → Str
  | 2, f, l, [.str g] => (begT 2 f l ++ (" " : Str)) ++ g
  | 3, f, l, [.str g] => (begT 3 f l ++ (" " : Str)) ++ g
  | 4, f, l, [.str s, .int a, .int b] => (((begT 4 f l ++ (" " : Str)) ++ s) ++ (" " : Str)) ++ lineT a b
  | 5, f, l, [.str s, .str g, .int a, .int b] => ((((begT 5 f l ++ (" " : Str)) ++ s) ++ (" " : Str)) ++ g) ++ addT (lineT a b)
  | 6, f, l, [.str s, .int b] => (((begT 6 f l ++ (" " : Str)) ++ s) ++ (" " : Str)) ++ dT b
  | i, f, l, _ => begT i f l
def spCText (CP : Addr) (C : Nat → Addr) (i : Nat) : Sp := fun vs H Q _ => ∃ (z : Addr) (f : Str) (l : List Row) (x : List V), vs = [.ref z] ∧ IsC CP C H z i f l x ∧ ∀ H', Same H H' → Q (.str (cText i f l x)) H'
def spBegin (CP : Addr) (C : Nat → Addr) : Sp := fun vs H Q _ => ∃ (z : Addr) (i : Nat) (f : Str) (l : List Row) (x : List V), vs = [.ref z] ∧ IsC CP C H z i f l x ∧ ∀ H', Same H H' → Q (.str (begT i f l)) H'
def spAdded (CL : Addr) : Sp := fun vs H Q _ => ∃ (x : Addr) (a b : Int), vs = [.ref x] ∧ IsL CL H x a b ∧ Num a ∧ Num b ∧ ∀ H', Same H H' → Q (.str (addT (lineT a b))) H'
def spCLine (CP CL : Addr) (C : Nat → Addr) (i : Nat) : Sp := fun vs H Q _ => ∃ (z : Addr) (f : Str) (l : List Row) (x : List V) (a b : Int), vs = [.ref z] ∧ IsC CP C H z i f l x ∧ ((∃ s, x = [.str s, .int a, .int b]) ∨ (∃ s g, x = [.str s, .str g, .int a, .int b])) ∧ ∀ y H', H y = none → IsL CL H' y a b → Same H H' → Q (.ref y) H'
end
end OR

namespace OR
open PySem PySem.Spec PyProof.Rows L2
open TL (tl numL)
theorem sign_in {s : Str} (h : isSign s) : s ∈ (["<=", ">=", "="] : List Str) := by
  rcases h with e | e | e <;> subst e <;> simp
theorem way_in {s : Str} (h : isWay s) : s ∈ (["up", "down"] : List Str) := by
  rcases h with e | e <;> subst e <;> simp
section
variable {P : Program} {w : World} {K : PySem.W.Frag} {mg : Str → Option Value} {base : Heap} {C : Nat → Addr} {CP : Addr} {ts tw : Addr}
theorem scAnsI : FnScope ["self", "function", "places"] ["self", "function", "places"] (defScope sAnsInit) := ⟨rfl, rfl, rfl, by decide +kernel, rfl, by decide +kernel, by decide +kernel⟩
theorem ok_AnsI {f : Addr} {fd : FuncData} (F : Fun K "__init__" "Answers.__init__" sAnsInit f fd) (T : CTxt K mg C) (CW : Cl P w K mg base 2 "check_word" ["value"] spChkW) : FnOk P w K mg base CX0 4 f fd ["self", "function", "places"] (spCInit C 0) := by
  refine F.ok scAnsI (fun vs H Q E h => ?_) (fun cdv A outer s0 H vs Q E hr h => ?_)
  · obtain ⟨p, dx, f', pl, x, rfl, _, rfl, _⟩ := h
    rfl
  · obtain ⟨p, dx, f', pl, x, rfl, hw, rfl, hp, q⟩ := h
    have hi : 0 < 7 := by decide
    refine ⟨_, pss_cons (ps_expr (pe_cl CW hr (by decide) (by rfl) (pa_cons (pv 1) pa_nil)))
      (pss_cons (ps_fld (pv 0) pe_str rfl)
      (pss_cons (ps_fld (pv 0) (pv 1) rfl)
      (pss_one (ps_fld (pv 0) (pv 2) rfl)))), ?_⟩
    refine ⟨_, rfl, f', rfl, hw, fun H1 S1 => ⟨_, rfl, p, C 0, dx, [], rfl, S1 _ _ hp, T.cl 0 hi, T.no 0 hi _ (List.mem_of_getElem? (i := 0) rfl), (by show 0 < 1000; decide), _, rfl, _, rfl, p, C 0, dx, _, rfl, upd_same, T.cl 0 hi, T.no 0 hi _ (List.mem_of_getElem? (i := 1) rfl), (by show 1 < 1000; decide), _, rfl, _, rfl, p, C 0, dx, _, rfl, upd_same, T.cl 0 hi, T.no 0 hi _ (List.mem_of_getElem? (i := 2) rfl), (by show 2 < 1000; decide), ?_⟩⟩
    refine q _ upd_same fun c o e n => ?_
    simp only [upd_ne n]
    exact S1 _ _ e
theorem scRefI : FnScope ["self", "function", "places"] ["self", "function", "places"] (defScope sRefInit) := ⟨rfl, rfl, rfl, by decide +kernel, rfl, by decide +kernel, by decide +kernel⟩
theorem ok_RefI {f : Addr} {fd : FuncData} (F : Fun K "__init__" "Refuses.__init__" sRefInit f fd) (T : CTxt K mg C) (CW : Cl P w K mg base 2 "check_word" ["value"] spChkW) : FnOk P w K mg base CX0 4 f fd ["self", "function", "places"] (spCInit C 1) := by
  refine F.ok scRefI (fun vs H Q E h => ?_) (fun cdv A outer s0 H vs Q E hr h => ?_)
  · obtain ⟨p, dx, f', pl, x, rfl, _, rfl, _⟩ := h
    rfl
  · obtain ⟨p, dx, f', pl, x, rfl, hw, rfl, hp, q⟩ := h
    have hi : 1 < 7 := by decide
    refine ⟨_, pss_cons (ps_expr (pe_cl CW hr (by decide) (by rfl) (pa_cons (pv 1) pa_nil)))
      (pss_cons (ps_fld (pv 0) pe_str rfl)
      (pss_cons (ps_fld (pv 0) (pv 1) rfl)
      (pss_one (ps_fld (pv 0) (pv 2) rfl)))), ?_⟩
    refine ⟨_, rfl, f', rfl, hw, fun H1 S1 => ⟨_, rfl, p, C 1, dx, [], rfl, S1 _ _ hp, T.cl 1 hi, T.no 1 hi _ (List.mem_of_getElem? (i := 0) rfl), (by show 0 < 1000; decide), _, rfl, _, rfl, p, C 1, dx, _, rfl, upd_same, T.cl 1 hi, T.no 1 hi _ (List.mem_of_getElem? (i := 1) rfl), (by show 1 < 1000; decide), _, rfl, _, rfl, p, C 1, dx, _, rfl, upd_same, T.cl 1 hi, T.no 1 hi _ (List.mem_of_getElem? (i := 2) rfl), (by show 2 < 1000; decide), ?_⟩⟩
    refine q _ upd_same fun c o e n => ?_
    simp only [upd_ne n]
    exact S1 _ _ e
theorem scNeeI : FnScope ["self", "function", "places", "other"] ["self", "function", "places", "other"] (defScope sNeeInit) := ⟨rfl, rfl, rfl, by decide +kernel, rfl, by decide +kernel, by decide +kernel⟩
theorem ok_NeeI {f : Addr} {fd : FuncData} (F : Fun K "__init__" "Needs.__init__" sNeeInit f fd) (T : CTxt K mg C) (CT : Cl P w K mg base 3 "check_two_words" ["function", "other"] spChkTwo) : FnOk P w K mg base CX0 4 f fd ["self", "function", "places", "other"] (spCInit C 2) := by
  refine F.ok scNeeI (fun vs H Q E h => ?_) (fun cdv A outer s0 H vs Q E hr h => ?_)
  · obtain ⟨p, dx, f', pl, x, rfl, _, ⟨g, rfl, hg, ng⟩, _⟩ := h
    rfl
  · obtain ⟨p, dx, f', pl, x, rfl, hw, ⟨g, rfl, hg, ng⟩, hp, q⟩ := h
    have hi : 2 < 7 := by decide
    refine ⟨_, pss_cons (ps_expr (pe_cl CT hr (by decide) (by rfl) (pa_cons (pv 1) (pa_cons (pv 3) pa_nil))))
      (pss_cons (ps_fld (pv 0) pe_str rfl)
      (pss_cons (ps_fld (pv 0) (pv 1) rfl)
      (pss_cons (ps_fld (pv 0) (pv 2) rfl)
      (pss_one (ps_fld (pv 0) (pv 3) rfl))))), ?_⟩
    refine ⟨_, rfl, _, rfl, f', g, rfl, hw, hg, ng.symm, fun H1 S1 => ⟨_, rfl, p, C 2, dx, [], rfl, S1 _ _ hp, T.cl 2 hi, T.no 2 hi _ (List.mem_of_getElem? (i := 0) rfl), (by show 0 < 1000; decide), _, rfl, _, rfl, p, C 2, dx, _, rfl, upd_same, T.cl 2 hi, T.no 2 hi _ (List.mem_of_getElem? (i := 1) rfl), (by show 1 < 1000; decide), _, rfl, _, rfl, p, C 2, dx, _, rfl, upd_same, T.cl 2 hi, T.no 2 hi _ (List.mem_of_getElem? (i := 2) rfl), (by show 2 < 1000; decide), _, rfl, _, rfl, p, C 2, dx, _, rfl, upd_same, T.cl 2 hi, T.no 2 hi _ (List.mem_of_getElem? (i := 3) rfl), (by show 3 < 1000; decide), ?_⟩⟩
    refine q _ upd_same fun c o e n => ?_
    simp only [upd_ne n]
    exact S1 _ _ e
theorem scSprI : FnScope ["self", "function", "places", "way"] ["self", "function", "places", "way"] (defScope sSprInit) := ⟨rfl, rfl, rfl, by decide +kernel, rfl, by decide +kernel, by decide +kernel⟩
theorem ok_SprI {f : Addr} {fd : FuncData} (F : Fun K "__init__" "Spreads.__init__" sSprInit f fd) (T : CTxt K mg C) (CW : Cl P w K mg base 2 "check_word" ["value"] spChkW) (CS : Cl P w K mg base 1 "check_sign" ["value", "allowed"] (spChkS K)) (WT : WTxt K mg ts tw) : FnOk P w K mg base CX0 4 f fd ["self", "function", "places", "way"] (spCInit C 3) := by
  refine F.ok scSprI (fun vs H Q E h => ?_) (fun cdv A outer s0 H vs Q E hr h => ?_)
  · obtain ⟨p, dx, f', pl, x, rfl, _, ⟨w, rfl, hs⟩, _⟩ := h
    rfl
  · obtain ⟨p, dx, f', pl, x, rfl, hw, ⟨w, rfl, hs⟩, hp, q⟩ := h
    have hi : 3 < 7 := by decide
    refine ⟨_, pss_cons (ps_expr (pe_cl CW hr (by decide) (by rfl) (pa_cons (pv 1) pa_nil)))
      (pss_cons (ps_expr (pe_cl CS hr (by decide) (by rfl) (pa_cons (pv 3) (pa_cons (pe_glob (v := .ref tw) (by rfl) WT.gW rfl) pa_nil))))
      (pss_cons (ps_fld (pv 0) pe_str rfl)
      (pss_cons (ps_fld (pv 0) (pv 1) rfl)
      (pss_cons (ps_fld (pv 0) (pv 2) rfl)
      (pss_one (ps_fld (pv 0) (pv 3) rfl)))))), ?_⟩
    refine ⟨_, rfl, f', rfl, hw, fun H1 S1 => ⟨_, rfl, w, tw, ["up", "down"], rfl, WT.hW _, way_in hs, _, rfl, p, C 3, dx, [], rfl, S1 _ _ hp, T.cl 3 hi, T.no 3 hi _ (List.mem_of_getElem? (i := 0) rfl), (by show 0 < 1000; decide), _, rfl, _, rfl, p, C 3, dx, _, rfl, upd_same, T.cl 3 hi, T.no 3 hi _ (List.mem_of_getElem? (i := 1) rfl), (by show 1 < 1000; decide), _, rfl, _, rfl, p, C 3, dx, _, rfl, upd_same, T.cl 3 hi, T.no 3 hi _ (List.mem_of_getElem? (i := 2) rfl), (by show 2 < 1000; decide), _, rfl, _, rfl, p, C 3, dx, _, rfl, upd_same, T.cl 3 hi, T.no 3 hi _ (List.mem_of_getElem? (i := 3) rfl), (by show 3 < 1000; decide), ?_⟩⟩
    refine q _ upd_same fun c o e n => ?_
    simp only [upd_ne n]
    exact S1 _ _ e
theorem scBouI : FnScope ["self", "function", "places", "sign", "slope", "height"] ["self", "function", "places", "sign", "slope", "height"] (defScope sBouInit) := ⟨rfl, rfl, rfl, by decide +kernel, rfl, by decide +kernel, by decide +kernel⟩
theorem ok_BouI {f : Addr} {fd : FuncData} (F : Fun K "__init__" "Bound.__init__" sBouInit f fd) (T : CTxt K mg C) (CW : Cl P w K mg base 2 "check_word" ["value"] spChkW) (CS : Cl P w K mg base 1 "check_sign" ["value", "allowed"] (spChkS K)) (WT : WTxt K mg ts tw) : FnOk P w K mg base CX0 4 f fd ["self", "function", "places", "sign", "slope", "height"] (spCInit C 4) := by
  refine F.ok scBouI (fun vs H Q E h => ?_) (fun cdv A outer s0 H vs Q E hr h => ?_)
  · obtain ⟨p, dx, f', pl, x, rfl, _, ⟨s, a, b, rfl, hs, na, nb⟩, _⟩ := h
    rfl
  · obtain ⟨p, dx, f', pl, x, rfl, hw, ⟨s, a, b, rfl, hs, na, nb⟩, hp, q⟩ := h
    have hi : 4 < 7 := by decide
    refine ⟨_, pss_cons (ps_expr (pe_cl CW hr (by decide) (by rfl) (pa_cons (pv 1) pa_nil)))
      (pss_cons (ps_expr (pe_cl CS hr (by decide) (by rfl) (pa_cons (pv 3) (pa_cons (pe_glob (v := .ref ts) (by rfl) WT.gS rfl) pa_nil))))
      (pss_cons (ps_fld (pv 0) pe_str rfl)
      (pss_cons (ps_fld (pv 0) (pv 1) rfl)
      (pss_cons (ps_fld (pv 0) (pv 2) rfl)
      (pss_cons (ps_fld (pv 0) (pv 3) rfl)
      (pss_cons (ps_fld (pv 0) (pv 4) rfl)
      (pss_one (ps_fld (pv 0) (pv 5) rfl)))))))), ?_⟩
    refine ⟨_, rfl, f', rfl, hw, fun H1 S1 => ⟨_, rfl, s, ts, ["<=", ">=", "="], rfl, WT.hS _, sign_in hs, _, rfl, p, C 4, dx, [], rfl, S1 _ _ hp, T.cl 4 hi, T.no 4 hi _ (List.mem_of_getElem? (i := 0) rfl), (by show 0 < 1000; decide), _, rfl, _, rfl, p, C 4, dx, _, rfl, upd_same, T.cl 4 hi, T.no 4 hi _ (List.mem_of_getElem? (i := 1) rfl), (by show 1 < 1000; decide), _, rfl, _, rfl, p, C 4, dx, _, rfl, upd_same, T.cl 4 hi, T.no 4 hi _ (List.mem_of_getElem? (i := 2) rfl), (by show 2 < 1000; decide), _, rfl, _, rfl, p, C 4, dx, _, rfl, upd_same, T.cl 4 hi, T.no 4 hi _ (List.mem_of_getElem? (i := 3) rfl), (by show 3 < 1000; decide), _, rfl, _, rfl, p, C 4, dx, _, rfl, upd_same, T.cl 4 hi, T.no 4 hi _ (List.mem_of_getElem? (i := 4) rfl), (by show 4 < 1000; decide), _, rfl, _, rfl, p, C 4, dx, _, rfl, upd_same, T.cl 4 hi, T.no 4 hi _ (List.mem_of_getElem? (i := 5) rfl), (by show 5 < 1000; decide), ?_⟩⟩
    refine q _ upd_same fun c o e n => ?_
    simp only [upd_ne n]
    exact S1 _ _ e
theorem scPaiI : FnScope ["self", "function", "places", "sign", "other", "slope", "height"] ["self", "function", "places", "sign", "other", "slope", "height"] (defScope sPaiInit) := ⟨rfl, rfl, rfl, by decide +kernel, rfl, by decide +kernel, by decide +kernel⟩
theorem ok_PaiI {f : Addr} {fd : FuncData} (F : Fun K "__init__" "Pair.__init__" sPaiInit f fd) (T : CTxt K mg C) (CT : Cl P w K mg base 3 "check_two_words" ["function", "other"] spChkTwo) (CS : Cl P w K mg base 1 "check_sign" ["value", "allowed"] (spChkS K)) (WT : WTxt K mg ts tw) : FnOk P w K mg base CX0 4 f fd ["self", "function", "places", "sign", "other", "slope", "height"] (spCInit C 5) := by
  refine F.ok scPaiI (fun vs H Q E h => ?_) (fun cdv A outer s0 H vs Q E hr h => ?_)
  · obtain ⟨p, dx, f', pl, x, rfl, _, ⟨s, g, a, b, rfl, hs, hg, ng, na, nb⟩, _⟩ := h
    rfl
  · obtain ⟨p, dx, f', pl, x, rfl, hw, ⟨s, g, a, b, rfl, hs, hg, ng, na, nb⟩, hp, q⟩ := h
    have hi : 5 < 7 := by decide
    refine ⟨_, pss_cons (ps_expr (pe_cl CT hr (by decide) (by rfl) (pa_cons (pv 1) (pa_cons (pv 4) pa_nil))))
      (pss_cons (ps_expr (pe_cl CS hr (by decide) (by rfl) (pa_cons (pv 3) (pa_cons (pe_glob (v := .ref ts) (by rfl) WT.gS rfl) pa_nil))))
      (pss_cons (ps_fld (pv 0) pe_str rfl)
      (pss_cons (ps_fld (pv 0) (pv 1) rfl)
      (pss_cons (ps_fld (pv 0) (pv 2) rfl)
      (pss_cons (ps_fld (pv 0) (pv 3) rfl)
      (pss_cons (ps_fld (pv 0) (pv 4) rfl)
      (pss_cons (ps_fld (pv 0) (pv 5) rfl)
      (pss_one (ps_fld (pv 0) (pv 6) rfl))))))))), ?_⟩
    refine ⟨_, rfl, _, rfl, f', g, rfl, hw, hg, ng.symm, fun H1 S1 => ⟨_, rfl, s, ts, ["<=", ">=", "="], rfl, WT.hS _, sign_in hs, _, rfl, p, C 5, dx, [], rfl, S1 _ _ hp, T.cl 5 hi, T.no 5 hi _ (List.mem_of_getElem? (i := 0) rfl), (by show 0 < 1000; decide), _, rfl, _, rfl, p, C 5, dx, _, rfl, upd_same, T.cl 5 hi, T.no 5 hi _ (List.mem_of_getElem? (i := 1) rfl), (by show 1 < 1000; decide), _, rfl, _, rfl, p, C 5, dx, _, rfl, upd_same, T.cl 5 hi, T.no 5 hi _ (List.mem_of_getElem? (i := 2) rfl), (by show 2 < 1000; decide), _, rfl, _, rfl, p, C 5, dx, _, rfl, upd_same, T.cl 5 hi, T.no 5 hi _ (List.mem_of_getElem? (i := 3) rfl), (by show 3 < 1000; decide), _, rfl, _, rfl, p, C 5, dx, _, rfl, upd_same, T.cl 5 hi, T.no 5 hi _ (List.mem_of_getElem? (i := 4) rfl), (by show 4 < 1000; decide), _, rfl, _, rfl, p, C 5, dx, _, rfl, upd_same, T.cl 5 hi, T.no 5 hi _ (List.mem_of_getElem? (i := 5) rfl), (by show 5 < 1000; decide), _, rfl, _, rfl, p, C 5, dx, _, rfl, upd_same, T.cl 5 hi, T.no 5 hi _ (List.mem_of_getElem? (i := 6) rfl), (by show 6 < 1000; decide), ?_⟩⟩
    refine q _ upd_same fun c o e n => ?_
    simp only [upd_ne n]
    exact S1 _ _ e
theorem scSteI : FnScope ["self", "function", "places", "sign", "height"] ["self", "function", "places", "sign", "height"] (defScope sSteInit) := ⟨rfl, rfl, rfl, by decide +kernel, rfl, by decide +kernel, by decide +kernel⟩
theorem ok_SteI {f : Addr} {fd : FuncData} (F : Fun K "__init__" "Step.__init__" sSteInit f fd) (T : CTxt K mg C) (CW : Cl P w K mg base 2 "check_word" ["value"] spChkW) (CS : Cl P w K mg base 1 "check_sign" ["value", "allowed"] (spChkS K)) (WT : WTxt K mg ts tw) : FnOk P w K mg base CX0 4 f fd ["self", "function", "places", "sign", "height"] (spCInit C 6) := by
  refine F.ok scSteI (fun vs H Q E h => ?_) (fun cdv A outer s0 H vs Q E hr h => ?_)
  · obtain ⟨p, dx, f', pl, x, rfl, _, ⟨s, b, rfl, hs, nb⟩, _⟩ := h
    rfl
  · obtain ⟨p, dx, f', pl, x, rfl, hw, ⟨s, b, rfl, hs, nb⟩, hp, q⟩ := h
    have hi : 6 < 7 := by decide
    refine ⟨_, pss_cons (ps_expr (pe_cl CW hr (by decide) (by rfl) (pa_cons (pv 1) pa_nil)))
      (pss_cons (ps_expr (pe_cl CS hr (by decide) (by rfl) (pa_cons (pv 3) (pa_cons (pe_glob (v := .ref ts) (by rfl) WT.gS rfl) pa_nil))))
      (pss_cons (ps_fld (pv 0) pe_str rfl)
      (pss_cons (ps_fld (pv 0) (pv 1) rfl)
      (pss_cons (ps_fld (pv 0) (pv 2) rfl)
      (pss_cons (ps_fld (pv 0) (pv 3) rfl)
      (pss_one (ps_fld (pv 0) (pv 4) rfl))))))), ?_⟩
    refine ⟨_, rfl, f', rfl, hw, fun H1 S1 => ⟨_, rfl, s, ts, ["<=", ">=", "="], rfl, WT.hS _, sign_in hs, _, rfl, p, C 6, dx, [], rfl, S1 _ _ hp, T.cl 6 hi, T.no 6 hi _ (List.mem_of_getElem? (i := 0) rfl), (by show 0 < 1000; decide), _, rfl, _, rfl, p, C 6, dx, _, rfl, upd_same, T.cl 6 hi, T.no 6 hi _ (List.mem_of_getElem? (i := 1) rfl), (by show 1 < 1000; decide), _, rfl, _, rfl, p, C 6, dx, _, rfl, upd_same, T.cl 6 hi, T.no 6 hi _ (List.mem_of_getElem? (i := 2) rfl), (by show 2 < 1000; decide), _, rfl, _, rfl, p, C 6, dx, _, rfl, upd_same, T.cl 6 hi, T.no 6 hi _ (List.mem_of_getElem? (i := 3) rfl), (by show 3 < 1000; decide), _, rfl, _, rfl, p, C 6, dx, _, rfl, upd_same, T.cl 6 hi, T.no 6 hi _ (List.mem_of_getElem? (i := 4) rfl), (by show 4 < 1000; decide), ?_⟩⟩
    refine q _ upd_same fun c o e n => ?_
    simp only [upd_ne n]
    exact S1 _ _ e
end
end OR

namespace OR
open PySem PySem.Spec PyProof.Rows L2
open TL (tl numL)
section
variable {P : Program} {w : World} {K : PySem.W.Frag} {mg : Str → Option Value} {base : Heap} {C : Nat → Addr} {CP : Addr} {ts tw : Addr}
theorem scAnsE : FnScope ["self", "other"] ["self", "other"] (defScope sAnsEq) := ⟨rfl, rfl, rfl, by decide +kernel, rfl, by decide +kernel, by decide +kernel⟩
theorem ok_AnsE {f : Addr} {fd : FuncData} (F : Fun K "__eq__" "Answers.__eq__" sAnsEq f fd) (T : CTxt K mg C) (PT : PTxt K mg CP) (EQ : Md P w K mg base 1 CP "__eq__" (spPlEq K CP)) : FnOk P w K mg base CX0 2 f fd ["self", "other"] (spCEq K CP C 0) := by
  refine F.ok scAnsE (fun vs H Q E h => ?_) (fun cdv A outer s0 H vs Q E hr h => ?_)
  · obtain ⟨p, y, f1, l, x, rfl, _⟩ := h
    rfl
  · obtain ⟨p, y, f1, l, x, rfl, hA, h⟩ := h
    have hi : 0 < 7 := by decide
    have nd := scAnsE.nd
    refine ⟨_, pss_one (ps_ret (pe_and (pe_callB call_isi (by rfl) PT.zIsi bt_isi (pa_cons (pv 1) (pa_cons (pe_glob (v := .ref (C 0)) (by rfl) (T.mgC 0 hi) rfl) pa_nil))) (pe_and (pe_cmpR op_eq (pe_fld (pv 0) rfl) (pe_fld (pv 1) rfl) (nomark _)) (pe_one (pe_cmpR (op_eqO K rfl EQ (hr.mono (by decide))) (pe_fld (pv 0) rfl) (pe_fld (pv 1) rfl) (nomark _)))))), ?_⟩
    obtain ⟨⟨dx, pl, hz, hp⟩, _, _, wf, _, _⟩ := hA
    rcases h with ⟨z2, j, f2, m, u, rfl, hB, q⟩ | ⟨Ty, hT, hk, q⟩
    · by_cases e : j = 0
      · subst e
        obtain ⟨⟨dy, pm, hy, hpm⟩, _, _, wf2, _, _⟩ := hB
        cases (show x = [] from wf)
        cases (show u = [] from wf2)
        have key : ceq 0 f1 l [] 0 f2 m [] = decide (f1 = f2 ∧ l = m) := by
          unfold ceq
          exact decide_eq_decide.mpr (by simp)
        rw [key] at q
        have no : ¬ (f1 = f2 ∧ l = m) → Q (.bl false) H := fun h => by
          rw [decide_eq_false h] at q
          exact q
        clear key
        refine ⟨_, rfl, .ref z2, .ref (C 0), _, _, true, rfl, .own (C 0), tyC T hi hy, T.kk 0 hi 0 hi, _, rfl, iteT ?_⟩
        refine ⟨_, rfl, fld T hz hi (j := 1) rfl rfl ⟨_, rfl, fld T hy hi (j := 1) rfl rfl ⟨rfl, _, rfl, ite2 (fun e1 => ?_) (fun e1 => (no fun z => e1 (decide_eq_true (by rw [z.1]))))⟩⟩⟩
        have E_function := V.str.inj (of_decide_eq_true e1)
        exact ⟨_, rfl, fld T hz hi (j := 2) rfl rfl ⟨_, rfl, fld T hy hi (j := 2) rfl rfl (eq_q PT hp hpm (by rw [show decide (f1 = f2 ∧ l = m) = decide (l = m) from decide_eq_decide.mpr ⟨fun z => z.2, fun zz => ⟨E_function, zz⟩⟩] at q; exact q))⟩⟩
      · have kf : PySem.W.kitOne K (.ref (C j)) (.ref (C 0)) = some false := by
          rw [T.kk j hB.lt 0 hi, decide_eq_false e]
        rw [show ceq 0 f1 l x j f2 m u = false from decide_eq_false fun z => e z.1.symm] at q
        obtain ⟨dy, pm, hy, _⟩ := hB.ex
        exact ⟨_, rfl, .ref z2, .ref (C 0), _, _, false, rfl, .own (C 0), tyC T hB.lt hy, kf, _, rfl, iteF q⟩
    · exact ⟨_, rfl, y, .ref (C 0), _, _, false, rfl, .own (C 0), hT, hk, _, rfl, iteF q⟩
theorem scRefE : FnScope ["self", "other"] ["self", "other"] (defScope sRefEq) := ⟨rfl, rfl, rfl, by decide +kernel, rfl, by decide +kernel, by decide +kernel⟩
theorem ok_RefE {f : Addr} {fd : FuncData} (F : Fun K "__eq__" "Refuses.__eq__" sRefEq f fd) (T : CTxt K mg C) (PT : PTxt K mg CP) (EQ : Md P w K mg base 1 CP "__eq__" (spPlEq K CP)) : FnOk P w K mg base CX0 2 f fd ["self", "other"] (spCEq K CP C 1) := by
  refine F.ok scRefE (fun vs H Q E h => ?_) (fun cdv A outer s0 H vs Q E hr h => ?_)
  · obtain ⟨p, y, f1, l, x, rfl, _⟩ := h
    rfl
  · obtain ⟨p, y, f1, l, x, rfl, hA, h⟩ := h
    have hi : 1 < 7 := by decide
    have nd := scRefE.nd
    refine ⟨_, pss_one (ps_ret (pe_and (pe_callB call_isi (by rfl) PT.zIsi bt_isi (pa_cons (pv 1) (pa_cons (pe_glob (v := .ref (C 1)) (by rfl) (T.mgC 1 hi) rfl) pa_nil))) (pe_and (pe_cmpR op_eq (pe_fld (pv 0) rfl) (pe_fld (pv 1) rfl) (nomark _)) (pe_one (pe_cmpR (op_eqO K rfl EQ (hr.mono (by decide))) (pe_fld (pv 0) rfl) (pe_fld (pv 1) rfl) (nomark _)))))), ?_⟩
    obtain ⟨⟨dx, pl, hz, hp⟩, _, _, wf, _, _⟩ := hA
    rcases h with ⟨z2, j, f2, m, u, rfl, hB, q⟩ | ⟨Ty, hT, hk, q⟩
    · by_cases e : j = 1
      · subst e
        obtain ⟨⟨dy, pm, hy, hpm⟩, _, _, wf2, _, _⟩ := hB
        cases (show x = [] from wf)
        cases (show u = [] from wf2)
        have key : ceq 1 f1 l [] 1 f2 m [] = decide (f1 = f2 ∧ l = m) := by
          unfold ceq
          exact decide_eq_decide.mpr (by simp)
        rw [key] at q
        have no : ¬ (f1 = f2 ∧ l = m) → Q (.bl false) H := fun h => by
          rw [decide_eq_false h] at q
          exact q
        clear key
        refine ⟨_, rfl, .ref z2, .ref (C 1), _, _, true, rfl, .own (C 1), tyC T hi hy, T.kk 1 hi 1 hi, _, rfl, iteT ?_⟩
        refine ⟨_, rfl, fld T hz hi (j := 1) rfl rfl ⟨_, rfl, fld T hy hi (j := 1) rfl rfl ⟨rfl, _, rfl, ite2 (fun e1 => ?_) (fun e1 => (no fun z => e1 (decide_eq_true (by rw [z.1]))))⟩⟩⟩
        have E_function := V.str.inj (of_decide_eq_true e1)
        exact ⟨_, rfl, fld T hz hi (j := 2) rfl rfl ⟨_, rfl, fld T hy hi (j := 2) rfl rfl (eq_q PT hp hpm (by rw [show decide (f1 = f2 ∧ l = m) = decide (l = m) from decide_eq_decide.mpr ⟨fun z => z.2, fun zz => ⟨E_function, zz⟩⟩] at q; exact q))⟩⟩
      · have kf : PySem.W.kitOne K (.ref (C j)) (.ref (C 1)) = some false := by
          rw [T.kk j hB.lt 1 hi, decide_eq_false e]
        rw [show ceq 1 f1 l x j f2 m u = false from decide_eq_false fun z => e z.1.symm] at q
        obtain ⟨dy, pm, hy, _⟩ := hB.ex
        exact ⟨_, rfl, .ref z2, .ref (C 1), _, _, false, rfl, .own (C 1), tyC T hB.lt hy, kf, _, rfl, iteF q⟩
    · exact ⟨_, rfl, y, .ref (C 1), _, _, false, rfl, .own (C 1), hT, hk, _, rfl, iteF q⟩
theorem scNeeE : FnScope ["self", "other"] ["self", "other"] (defScope sNeeEq) := ⟨rfl, rfl, rfl, by decide +kernel, rfl, by decide +kernel, by decide +kernel⟩
theorem ok_NeeE {f : Addr} {fd : FuncData} (F : Fun K "__eq__" "Needs.__eq__" sNeeEq f fd) (T : CTxt K mg C) (PT : PTxt K mg CP) (EQ : Md P w K mg base 1 CP "__eq__" (spPlEq K CP)) : FnOk P w K mg base CX0 2 f fd ["self", "other"] (spCEq K CP C 2) := by
  refine F.ok scNeeE (fun vs H Q E h => ?_) (fun cdv A outer s0 H vs Q E hr h => ?_)
  · obtain ⟨p, y, f1, l, x, rfl, _⟩ := h
    rfl
  · obtain ⟨p, y, f1, l, x, rfl, hA, h⟩ := h
    have hi : 2 < 7 := by decide
    have nd := scNeeE.nd
    refine ⟨_, pss_cons (ps_if (pt_not (pt_val (pe_callB call_isi (by rfl) PT.zIsi bt_isi (pa_cons (pv 1) (pa_cons (pe_glob (v := .ref (C 2)) (by rfl) (T.mgC 2 hi) rfl) pa_nil))))) (pss_one (ps_ret pe_bl)) pss_nil)
      (pss_one (ps_ret (pe_and (pe_cmpR op_eq (pe_fld (pv 0) rfl) (pe_fld (pv 1) rfl) (nomark _)) (pe_and (pe_cmpR (op_eqO K rfl EQ (hr.mono (by decide))) (pe_fld (pv 0) rfl) (pe_fld (pv 1) rfl) (nomark _)) (pe_one (pe_cmpR op_eq (pe_fld (pv 0) rfl) (pe_fld (pv 1) rfl) (nomark _))))))), ?_⟩
    obtain ⟨⟨dx, pl, hz, hp⟩, _, _, wf, _, _⟩ := hA
    rcases h with ⟨z2, j, f2, m, u, rfl, hB, q⟩ | ⟨Ty, hT, hk, q⟩
    · by_cases e : j = 2
      · subst e
        obtain ⟨⟨dy, pm, hy, hpm⟩, _, _, wf2, _, _⟩ := hB
        obtain ⟨g, rfl, hg, ng⟩ := wf
        obtain ⟨g', rfl, _, _⟩ := wf2
        have key : ceq 2 f1 l [.str g] 2 f2 m [.str g'] = decide (f1 = f2 ∧ l = m ∧ g = g') := by
          unfold ceq
          exact decide_eq_decide.mpr (by simp)
        rw [key] at q
        have no : ¬ (f1 = f2 ∧ l = m ∧ g = g') → Q (.bl false) H := fun h => by
          rw [decide_eq_false h] at q
          exact q
        clear key
        refine ⟨_, rfl, .ref z2, .ref (C 2), _, _, true, rfl, .own (C 2), tyC T hi hy, T.kk 2 hi 2 hi, _, rfl, iteF ?_⟩
        refine ⟨_, rfl, fld T hz hi (j := 1) rfl rfl ⟨_, rfl, fld T hy hi (j := 1) rfl rfl ⟨rfl, _, rfl, ite2 (fun e1 => ?_) (fun e1 => (no fun z => e1 (decide_eq_true (by rw [z.1]))))⟩⟩⟩
        have E_function := V.str.inj (of_decide_eq_true e1)
        refine ⟨_, rfl, fld T hz hi (j := 2) rfl rfl ⟨_, rfl, fld T hy hi (j := 2) rfl rfl (eq_q PT hp hpm ⟨_, rfl, ite2 (fun e2 => ?_) (fun e2 => no fun z => e2 (decide_eq_true z.2.1))⟩)⟩⟩
        have E_places : l = m := of_decide_eq_true e2
        exact ⟨_, rfl, fld T hz hi (j := 3) rfl rfl ⟨_, rfl, fld T hy hi (j := 3) rfl rfl ⟨rfl, (by rw [show decide (f1 = f2 ∧ l = m ∧ g = g') = decide (V.str g = V.str g') from decide_eq_decide.mpr ⟨fun z => by rw [z.2.2], fun zz => ⟨E_function, E_places, V.str.inj zz⟩⟩] at q; exact q)⟩⟩⟩
      · have kf : PySem.W.kitOne K (.ref (C j)) (.ref (C 2)) = some false := by
          rw [T.kk j hB.lt 2 hi, decide_eq_false e]
        rw [show ceq 2 f1 l x j f2 m u = false from decide_eq_false fun z => e z.1.symm] at q
        obtain ⟨dy, pm, hy, _⟩ := hB.ex
        exact ⟨_, rfl, .ref z2, .ref (C 2), _, _, false, rfl, .own (C 2), tyC T hB.lt hy, kf, _, rfl, iteT q⟩
    · exact ⟨_, rfl, y, .ref (C 2), _, _, false, rfl, .own (C 2), hT, hk, _, rfl, iteT q⟩
theorem scSprE : FnScope ["self", "other"] ["self", "other"] (defScope sSprEq) := ⟨rfl, rfl, rfl, by decide +kernel, rfl, by decide +kernel, by decide +kernel⟩
theorem ok_SprE {f : Addr} {fd : FuncData} (F : Fun K "__eq__" "Spreads.__eq__" sSprEq f fd) (T : CTxt K mg C) (PT : PTxt K mg CP) (EQ : Md P w K mg base 1 CP "__eq__" (spPlEq K CP)) : FnOk P w K mg base CX0 2 f fd ["self", "other"] (spCEq K CP C 3) := by
  refine F.ok scSprE (fun vs H Q E h => ?_) (fun cdv A outer s0 H vs Q E hr h => ?_)
  · obtain ⟨p, y, f1, l, x, rfl, _⟩ := h
    rfl
  · obtain ⟨p, y, f1, l, x, rfl, hA, h⟩ := h
    have hi : 3 < 7 := by decide
    have nd := scSprE.nd
    refine ⟨_, pss_cons (ps_if (pt_not (pt_val (pe_callB call_isi (by rfl) PT.zIsi bt_isi (pa_cons (pv 1) (pa_cons (pe_glob (v := .ref (C 3)) (by rfl) (T.mgC 3 hi) rfl) pa_nil))))) (pss_one (ps_ret pe_bl)) pss_nil)
      (pss_one (ps_ret (pe_and (pe_cmpR op_eq (pe_fld (pv 0) rfl) (pe_fld (pv 1) rfl) (nomark _)) (pe_and (pe_cmpR (op_eqO K rfl EQ (hr.mono (by decide))) (pe_fld (pv 0) rfl) (pe_fld (pv 1) rfl) (nomark _)) (pe_one (pe_cmpR op_eq (pe_fld (pv 0) rfl) (pe_fld (pv 1) rfl) (nomark _))))))), ?_⟩
    obtain ⟨⟨dx, pl, hz, hp⟩, _, _, wf, _, _⟩ := hA
    rcases h with ⟨z2, j, f2, m, u, rfl, hB, q⟩ | ⟨Ty, hT, hk, q⟩
    · by_cases e : j = 3
      · subst e
        obtain ⟨⟨dy, pm, hy, hpm⟩, _, _, wf2, _, _⟩ := hB
        obtain ⟨w, rfl, hs⟩ := wf
        obtain ⟨w', rfl, _⟩ := wf2
        have key : ceq 3 f1 l [.str w] 3 f2 m [.str w'] = decide (f1 = f2 ∧ l = m ∧ w = w') := by
          unfold ceq
          exact decide_eq_decide.mpr (by simp)
        rw [key] at q
        have no : ¬ (f1 = f2 ∧ l = m ∧ w = w') → Q (.bl false) H := fun h => by
          rw [decide_eq_false h] at q
          exact q
        clear key
        refine ⟨_, rfl, .ref z2, .ref (C 3), _, _, true, rfl, .own (C 3), tyC T hi hy, T.kk 3 hi 3 hi, _, rfl, iteF ?_⟩
        refine ⟨_, rfl, fld T hz hi (j := 1) rfl rfl ⟨_, rfl, fld T hy hi (j := 1) rfl rfl ⟨rfl, _, rfl, ite2 (fun e1 => ?_) (fun e1 => (no fun z => e1 (decide_eq_true (by rw [z.1]))))⟩⟩⟩
        have E_function := V.str.inj (of_decide_eq_true e1)
        refine ⟨_, rfl, fld T hz hi (j := 2) rfl rfl ⟨_, rfl, fld T hy hi (j := 2) rfl rfl (eq_q PT hp hpm ⟨_, rfl, ite2 (fun e2 => ?_) (fun e2 => no fun z => e2 (decide_eq_true z.2.1))⟩)⟩⟩
        have E_places : l = m := of_decide_eq_true e2
        exact ⟨_, rfl, fld T hz hi (j := 3) rfl rfl ⟨_, rfl, fld T hy hi (j := 3) rfl rfl ⟨rfl, (by rw [show decide (f1 = f2 ∧ l = m ∧ w = w') = decide (V.str w = V.str w') from decide_eq_decide.mpr ⟨fun z => by rw [z.2.2], fun zz => ⟨E_function, E_places, V.str.inj zz⟩⟩] at q; exact q)⟩⟩⟩
      · have kf : PySem.W.kitOne K (.ref (C j)) (.ref (C 3)) = some false := by
          rw [T.kk j hB.lt 3 hi, decide_eq_false e]
        rw [show ceq 3 f1 l x j f2 m u = false from decide_eq_false fun z => e z.1.symm] at q
        obtain ⟨dy, pm, hy, _⟩ := hB.ex
        exact ⟨_, rfl, .ref z2, .ref (C 3), _, _, false, rfl, .own (C 3), tyC T hB.lt hy, kf, _, rfl, iteT q⟩
    · exact ⟨_, rfl, y, .ref (C 3), _, _, false, rfl, .own (C 3), hT, hk, _, rfl, iteT q⟩
theorem scBouE : FnScope ["self", "other", "same_line"] ["self", "other"] (defScope sBouEq) := ⟨rfl, rfl, rfl, by decide +kernel, rfl, by decide +kernel, by decide +kernel⟩
theorem ok_BouE {f : Addr} {fd : FuncData} (F : Fun K "__eq__" "Bound.__eq__" sBouEq f fd) (T : CTxt K mg C) (PT : PTxt K mg CP) (EQ : Md P w K mg base 1 CP "__eq__" (spPlEq K CP)) : FnOk P w K mg base CX0 2 f fd ["self", "other"] (spCEq K CP C 4) := by
  refine F.ok scBouE (fun vs H Q E h => ?_) (fun cdv A outer s0 H vs Q E hr h => ?_)
  · obtain ⟨p, y, f1, l, x, rfl, _⟩ := h
    rfl
  · obtain ⟨p, y, f1, l, x, rfl, hA, h⟩ := h
    have hi : 4 < 7 := by decide
    have nd := scBouE.nd
    refine ⟨_, pss_cons (ps_if (PW.pt (pw_or (pt_not (pt_val (pe_callB call_isi (by rfl) PT.zIsi bt_isi (pa_cons (pv 1) (pa_cons (pe_glob (v := .ref (C 4)) (by rfl) (T.mgC 4 hi) rfl) pa_nil))))) (pw_or1 (pt_cmpR op_ne (pe_fld (pv 0) rfl) (pe_fld (pv 1) rfl) (nomark _))))) (pss_one (ps_ret pe_bl)) pss_nil)
      (Evl.pss_cut (ps_set (i := 2) nd rfl (.inl rfl) (pe_and (pe_cmpR op_eq (pe_fld (pv 0) rfl) (pe_fld (pv 1) rfl) (nomark _)) (pe_one (pe_cmpR op_eq (pe_fld (pv 0) rfl) (pe_fld (pv 1) rfl) (nomark _)))))
      (pss_one (ps_ret (pe_and (pv 2) (pe_and (pe_cmpR op_eq (pe_fld (pv 0) rfl) (pe_fld (pv 1) rfl) (nomark _)) (pe_one (pe_cmpR (op_eqO K rfl EQ (hr.mono (by decide))) (pe_fld (pv 0) rfl) (pe_fld (pv 1) rfl) (nomark _)))))))), ?_⟩
    obtain ⟨⟨dx, pl, hz, hp⟩, _, _, wf, _, _⟩ := hA
    rcases h with ⟨z2, j, f2, m, u, rfl, hB, q⟩ | ⟨Ty, hT, hk, q⟩
    · by_cases e : j = 4
      · subst e
        obtain ⟨⟨dy, pm, hy, hpm⟩, _, _, wf2, _, _⟩ := hB
        obtain ⟨s, a, b, rfl, hs, na, nb⟩ := wf
        obtain ⟨s', a', b', rfl, _, _, _⟩ := wf2
        have key : ceq 4 f1 l [.str s, .int a, .int b] 4 f2 m [.str s', .int a', .int b'] = decide (f1 = f2 ∧ l = m ∧ s = s' ∧ a = a' ∧ b = b') := by
          unfold ceq
          exact decide_eq_decide.mpr (by simp)
        rw [key] at q
        have no : ¬ (f1 = f2 ∧ l = m ∧ s = s' ∧ a = a' ∧ b = b') → Q (.bl false) H := fun h => by
          rw [decide_eq_false h] at q
          exact q
        clear key
        refine ⟨_, rfl, .ref z2, .ref (C 4), _, _, true, rfl, .own (C 4), tyC T hi hy, T.kk 4 hi 4 hi, _, rfl, iteF ?_⟩
        refine ⟨_, rfl, fld T hz hi (j := 3) rfl rfl ⟨_, rfl, fld T hy hi (j := 3) rfl rfl ⟨rfl, _, rfl, ?_⟩⟩⟩
        by_cases e0 : V.str s = V.str s'
        · have E_sign := V.str.inj e0
          refine iteNS e0 ?_
          refine ⟨fun σ' H' => σ' = [some (V.ref p), some (.ref z2), some (.bl (decide (a = a' ∧ b = b')))] ∧ H' = H, ?_, ?_⟩
          · refine ⟨_, rfl, fld T hz hi (j := 4) rfl rfl ⟨_, rfl, fld T hy hi (j := 4) rfl rfl ⟨rfl, _, rfl, ite2 (fun e1 => ?_) (fun e1 => ?_)⟩⟩⟩
            · refine ⟨_, rfl, fld T hz hi (j := 5) rfl rfl ⟨_, rfl, fld T hy hi (j := 5) rfl rfl ⟨rfl, ?_, rfl⟩⟩⟩
              rw [show decide (a = a' ∧ b = b') = decide (V.int b = V.int b') from decide_eq_decide.mpr ⟨fun z => by rw [z.2], fun zz => ⟨V.int.inj (of_decide_eq_true e1), V.int.inj zz⟩⟩]
              rfl
            · refine ⟨?_, rfl⟩
              rw [decide_eq_false (fun z : a = a' ∧ b = b' => e1 (decide_eq_true (by rw [z.1])))]
              rfl
          rintro σ' H' ⟨rfl, rfl⟩
          refine ⟨_, rfl, _, rfl, ite2 (fun e1 => ?_) (fun e1 => no fun z => e1 (decide_eq_true ⟨z.2.2.2.1, z.2.2.2.2⟩))⟩
          obtain ⟨E_slope, E_height⟩ := of_decide_eq_true e1
          refine ⟨_, rfl, fld T hz hi (j := 1) rfl rfl ⟨_, rfl, fld T hy hi (j := 1) rfl rfl ⟨rfl, _, rfl, ite2 (fun e2 => ?_) (fun e2 => (no fun z => e2 (decide_eq_true (by rw [z.1]))))⟩⟩⟩
          have E_function := V.str.inj (of_decide_eq_true e2)
          exact ⟨_, rfl, fld T hz hi (j := 2) rfl rfl ⟨_, rfl, fld T hy hi (j := 2) rfl rfl (eq_q PT hp hpm (by rw [show decide (f1 = f2 ∧ l = m ∧ s = s' ∧ a = a' ∧ b = b') = decide (l = m) from decide_eq_decide.mpr ⟨fun z => z.2.1, fun zz => ⟨E_function, zz, E_sign, E_slope, E_height⟩⟩] at q; exact q))⟩⟩
        · rw [decide_eq_false e0]
          exact iteT (no fun z => e0 (by rw [z.2.2.1]))
      · have kf : PySem.W.kitOne K (.ref (C j)) (.ref (C 4)) = some false := by
          rw [T.kk j hB.lt 4 hi, decide_eq_false e]
        rw [show ceq 4 f1 l x j f2 m u = false from decide_eq_false fun z => e z.1.symm] at q
        obtain ⟨dy, pm, hy, _⟩ := hB.ex
        exact ⟨_, rfl, .ref z2, .ref (C 4), _, _, false, rfl, .own (C 4), tyC T hB.lt hy, kf, _, rfl, iteT q⟩
    · exact ⟨_, rfl, y, .ref (C 4), _, _, false, rfl, .own (C 4), hT, hk, _, rfl, iteT q⟩
theorem scPaiE : FnScope ["self", "other", "same_functions", "same_line"] ["self", "other"] (defScope sPaiEq) := ⟨rfl, rfl, rfl, by decide +kernel, rfl, by decide +kernel, by decide +kernel⟩
theorem ok_PaiE {f : Addr} {fd : FuncData} (F : Fun K "__eq__" "Pair.__eq__" sPaiEq f fd) (T : CTxt K mg C) (PT : PTxt K mg CP) (EQ : Md P w K mg base 1 CP "__eq__" (spPlEq K CP)) : FnOk P w K mg base CX0 2 f fd ["self", "other"] (spCEq K CP C 5) := by
  refine F.ok scPaiE (fun vs H Q E h => ?_) (fun cdv A outer s0 H vs Q E hr h => ?_)
  · obtain ⟨p, y, f1, l, x, rfl, _⟩ := h
    rfl
  · obtain ⟨p, y, f1, l, x, rfl, hA, h⟩ := h
    have hi : 5 < 7 := by decide
    have nd := scPaiE.nd
    refine ⟨_, pss_cons (ps_if (PW.pt (pw_or (pt_not (pt_val (pe_callB call_isi (by rfl) PT.zIsi bt_isi (pa_cons (pv 1) (pa_cons (pe_glob (v := .ref (C 5)) (by rfl) (T.mgC 5 hi) rfl) pa_nil))))) (pw_or1 (pt_cmpR op_ne (pe_fld (pv 0) rfl) (pe_fld (pv 1) rfl) (nomark _))))) (pss_one (ps_ret pe_bl)) pss_nil)
      (Evl.pss_cut (ps_set (i := 2) nd rfl (.inl rfl) (pe_and (pe_cmpR op_eq (pe_fld (pv 0) rfl) (pe_fld (pv 1) rfl) (nomark _)) (pe_one (pe_cmpR op_eq (pe_fld (pv 0) rfl) (pe_fld (pv 1) rfl) (nomark _)))))
      (Evl.pss_cut (ps_set (i := 3) nd rfl (.inl rfl) (pe_and (pe_cmpR op_eq (pe_fld (pv 0) rfl) (pe_fld (pv 1) rfl) (nomark _)) (pe_one (pe_cmpR op_eq (pe_fld (pv 0) rfl) (pe_fld (pv 1) rfl) (nomark _)))))
      (pss_one (ps_ret (pe_and (pv 2) (pe_and (pv 3) (pe_one (pe_cmpR (op_eqO K rfl EQ (hr.mono (by decide))) (pe_fld (pv 0) rfl) (pe_fld (pv 1) rfl) (nomark _))))))))), ?_⟩
    obtain ⟨⟨dx, pl, hz, hp⟩, _, _, wf, _, _⟩ := hA
    rcases h with ⟨z2, j, f2, m, u, rfl, hB, q⟩ | ⟨Ty, hT, hk, q⟩
    · by_cases e : j = 5
      · subst e
        obtain ⟨⟨dy, pm, hy, hpm⟩, _, _, wf2, _, _⟩ := hB
        obtain ⟨s, g, a, b, rfl, hs, hg, ng, na, nb⟩ := wf
        obtain ⟨s', g', a', b', rfl, _, _, _, _, _⟩ := wf2
        have key : ceq 5 f1 l [.str s, .str g, .int a, .int b] 5 f2 m [.str s', .str g', .int a', .int b'] = decide (f1 = f2 ∧ l = m ∧ s = s' ∧ g = g' ∧ a = a' ∧ b = b') := by
          unfold ceq
          exact decide_eq_decide.mpr (by simp)
        rw [key] at q
        have no : ¬ (f1 = f2 ∧ l = m ∧ s = s' ∧ g = g' ∧ a = a' ∧ b = b') → Q (.bl false) H := fun h => by
          rw [decide_eq_false h] at q
          exact q
        clear key
        refine ⟨_, rfl, .ref z2, .ref (C 5), _, _, true, rfl, .own (C 5), tyC T hi hy, T.kk 5 hi 5 hi, _, rfl, iteF ?_⟩
        refine ⟨_, rfl, fld T hz hi (j := 3) rfl rfl ⟨_, rfl, fld T hy hi (j := 3) rfl rfl ⟨rfl, _, rfl, ?_⟩⟩⟩
        by_cases e0 : V.str s = V.str s'
        · have E_sign := V.str.inj e0
          refine iteNS e0 ?_
          refine ⟨fun σ' H' => σ' = [some (V.ref p), some (.ref z2), some (.bl (decide (f1 = f2 ∧ g = g'))), none] ∧ H' = H, ?_, ?_⟩
          · refine ⟨_, rfl, fld T hz hi (j := 1) rfl rfl ⟨_, rfl, fld T hy hi (j := 1) rfl rfl ⟨rfl, _, rfl, ite2 (fun e1 => ?_) (fun e1 => ?_)⟩⟩⟩
            · refine ⟨_, rfl, fld T hz hi (j := 4) rfl rfl ⟨_, rfl, fld T hy hi (j := 4) rfl rfl ⟨rfl, ?_, rfl⟩⟩⟩
              rw [show decide (f1 = f2 ∧ g = g') = decide (V.str g = V.str g') from decide_eq_decide.mpr ⟨fun z => by rw [z.2], fun zz => ⟨V.str.inj (of_decide_eq_true e1), V.str.inj zz⟩⟩]
              rfl
            · refine ⟨?_, rfl⟩
              rw [decide_eq_false (fun z : f1 = f2 ∧ g = g' => e1 (decide_eq_true (by rw [z.1])))]
              rfl
          rintro σ' H' ⟨rfl, rfl⟩
          refine ⟨fun σ' H'' => σ' = [some (V.ref p), some (.ref z2), some (.bl (decide (f1 = f2 ∧ g = g'))), some (.bl (decide (a = a' ∧ b = b')))] ∧ H'' = H', ?_, ?_⟩
          · refine ⟨_, rfl, fld T hz hi (j := 5) rfl rfl ⟨_, rfl, fld T hy hi (j := 5) rfl rfl ⟨rfl, _, rfl, ite2 (fun e1 => ?_) (fun e1 => ?_)⟩⟩⟩
            · refine ⟨_, rfl, fld T hz hi (j := 6) rfl rfl ⟨_, rfl, fld T hy hi (j := 6) rfl rfl ⟨rfl, ?_, rfl⟩⟩⟩
              rw [show decide (a = a' ∧ b = b') = decide (V.int b = V.int b') from decide_eq_decide.mpr ⟨fun z => by rw [z.2], fun zz => ⟨V.int.inj (of_decide_eq_true e1), V.int.inj zz⟩⟩]
              rfl
            · refine ⟨?_, rfl⟩
              rw [decide_eq_false (fun z : a = a' ∧ b = b' => e1 (decide_eq_true (by rw [z.1])))]
              rfl
          rintro σ' H' ⟨rfl, rfl⟩
          refine ⟨_, rfl, _, rfl, ite2 (fun e1 => ?_) (fun e1 => no fun z => e1 (decide_eq_true ⟨z.1, z.2.2.2.1⟩))⟩
          obtain ⟨E_function, E_other⟩ := of_decide_eq_true e1
          refine ⟨_, rfl, _, rfl, ite2 (fun e2 => ?_) (fun e2 => no fun z => e2 (decide_eq_true ⟨z.2.2.2.2.1, z.2.2.2.2.2⟩))⟩
          obtain ⟨E_slope, E_height⟩ := of_decide_eq_true e2
          exact ⟨_, rfl, fld T hz hi (j := 2) rfl rfl ⟨_, rfl, fld T hy hi (j := 2) rfl rfl (eq_q PT hp hpm (by rw [show decide (f1 = f2 ∧ l = m ∧ s = s' ∧ g = g' ∧ a = a' ∧ b = b') = decide (l = m) from decide_eq_decide.mpr ⟨fun z => z.2.1, fun zz => ⟨E_function, zz, E_sign, E_other, E_slope, E_height⟩⟩] at q; exact q))⟩⟩
        · rw [decide_eq_false e0]
          exact iteT (no fun z => e0 (by rw [z.2.2.1]))
      · have kf : PySem.W.kitOne K (.ref (C j)) (.ref (C 5)) = some false := by
          rw [T.kk j hB.lt 5 hi, decide_eq_false e]
        rw [show ceq 5 f1 l x j f2 m u = false from decide_eq_false fun z => e z.1.symm] at q
        obtain ⟨dy, pm, hy, _⟩ := hB.ex
        exact ⟨_, rfl, .ref z2, .ref (C 5), _, _, false, rfl, .own (C 5), tyC T hB.lt hy, kf, _, rfl, iteT q⟩
    · exact ⟨_, rfl, y, .ref (C 5), _, _, false, rfl, .own (C 5), hT, hk, _, rfl, iteT q⟩
theorem scSteE : FnScope ["self", "other"] ["self", "other"] (defScope sSteEq) := ⟨rfl, rfl, rfl, by decide +kernel, rfl, by decide +kernel, by decide +kernel⟩
theorem ok_SteE {f : Addr} {fd : FuncData} (F : Fun K "__eq__" "Step.__eq__" sSteEq f fd) (T : CTxt K mg C) (PT : PTxt K mg CP) (EQ : Md P w K mg base 1 CP "__eq__" (spPlEq K CP)) : FnOk P w K mg base CX0 2 f fd ["self", "other"] (spCEq K CP C 6) := by
  refine F.ok scSteE (fun vs H Q E h => ?_) (fun cdv A outer s0 H vs Q E hr h => ?_)
  · obtain ⟨p, y, f1, l, x, rfl, _⟩ := h
    rfl
  · obtain ⟨p, y, f1, l, x, rfl, hA, h⟩ := h
    have hi : 6 < 7 := by decide
    have nd := scSteE.nd
    refine ⟨_, pss_cons (ps_if (PW.pt (pw_or (pt_not (pt_val (pe_callB call_isi (by rfl) PT.zIsi bt_isi (pa_cons (pv 1) (pa_cons (pe_glob (v := .ref (C 6)) (by rfl) (T.mgC 6 hi) rfl) pa_nil))))) (pw_or1 (pt_cmpR op_ne (pe_fld (pv 0) rfl) (pe_fld (pv 1) rfl) (nomark _))))) (pss_one (ps_ret pe_bl)) pss_nil)
      (pss_one (ps_ret (pe_and (pe_cmpR op_eq (pe_fld (pv 0) rfl) (pe_fld (pv 1) rfl) (nomark _)) (pe_and (pe_cmpR (op_eqO K rfl EQ (hr.mono (by decide))) (pe_fld (pv 0) rfl) (pe_fld (pv 1) rfl) (nomark _)) (pe_one (pe_cmpR op_eq (pe_fld (pv 0) rfl) (pe_fld (pv 1) rfl) (nomark _))))))), ?_⟩
    obtain ⟨⟨dx, pl, hz, hp⟩, _, _, wf, _, _⟩ := hA
    rcases h with ⟨z2, j, f2, m, u, rfl, hB, q⟩ | ⟨Ty, hT, hk, q⟩
    · by_cases e : j = 6
      · subst e
        obtain ⟨⟨dy, pm, hy, hpm⟩, _, _, wf2, _, _⟩ := hB
        obtain ⟨s, b, rfl, hs, nb⟩ := wf
        obtain ⟨s', b', rfl, _, _⟩ := wf2
        have key : ceq 6 f1 l [.str s, .int b] 6 f2 m [.str s', .int b'] = decide (f1 = f2 ∧ l = m ∧ s = s' ∧ b = b') := by
          unfold ceq
          exact decide_eq_decide.mpr (by simp)
        rw [key] at q
        have no : ¬ (f1 = f2 ∧ l = m ∧ s = s' ∧ b = b') → Q (.bl false) H := fun h => by
          rw [decide_eq_false h] at q
          exact q
        clear key
        refine ⟨_, rfl, .ref z2, .ref (C 6), _, _, true, rfl, .own (C 6), tyC T hi hy, T.kk 6 hi 6 hi, _, rfl, iteF ?_⟩
        refine ⟨_, rfl, fld T hz hi (j := 3) rfl rfl ⟨_, rfl, fld T hy hi (j := 3) rfl rfl ⟨rfl, _, rfl, ?_⟩⟩⟩
        by_cases e0 : V.str s = V.str s'
        · have E_sign := V.str.inj e0
          refine iteNS e0 ?_
          refine ⟨_, rfl, fld T hz hi (j := 1) rfl rfl ⟨_, rfl, fld T hy hi (j := 1) rfl rfl ⟨rfl, _, rfl, ite2 (fun e1 => ?_) (fun e1 => (no fun z => e1 (decide_eq_true (by rw [z.1]))))⟩⟩⟩
          have E_function := V.str.inj (of_decide_eq_true e1)
          refine ⟨_, rfl, fld T hz hi (j := 2) rfl rfl ⟨_, rfl, fld T hy hi (j := 2) rfl rfl (eq_q PT hp hpm ⟨_, rfl, ite2 (fun e2 => ?_) (fun e2 => no fun z => e2 (decide_eq_true z.2.1))⟩)⟩⟩
          have E_places : l = m := of_decide_eq_true e2
          exact ⟨_, rfl, fld T hz hi (j := 4) rfl rfl ⟨_, rfl, fld T hy hi (j := 4) rfl rfl ⟨rfl, (by rw [show decide (f1 = f2 ∧ l = m ∧ s = s' ∧ b = b') = decide (V.int b = V.int b') from decide_eq_decide.mpr ⟨fun z => by rw [z.2.2.2], fun zz => ⟨E_function, E_places, E_sign, V.int.inj zz⟩⟩] at q; exact q)⟩⟩⟩
        · rw [decide_eq_false e0]
          exact iteT (no fun z => e0 (by rw [z.2.2.1]))
      · have kf : PySem.W.kitOne K (.ref (C j)) (.ref (C 6)) = some false := by
          rw [T.kk j hB.lt 6 hi, decide_eq_false e]
        rw [show ceq 6 f1 l x j f2 m u = false from decide_eq_false fun z => e z.1.symm] at q
        obtain ⟨dy, pm, hy, _⟩ := hB.ex
        exact ⟨_, rfl, .ref z2, .ref (C 6), _, _, false, rfl, .own (C 6), tyC T hB.lt hy, kf, _, rfl, iteT q⟩
    · exact ⟨_, rfl, y, .ref (C 6), _, _, false, rfl, .own (C 6), hT, hk, _, rfl, iteT q⟩
end
end OR

namespace OR
open PySem PySem.Spec PyProof.Rows L2
open TL (tl numL)
theorem lineT_len {a b : Int} (ha : Num a) (hb : Num b) : (lineT a b).length ≤ 100 := by
  unfold lineT
  have h1 := dTl (n := b) (k := 40) (by decide) hb
  have h2 := dTl (n := absI b) (k := 40) (by decide) (by rw [absI_nat]; exact hb)
  have h3 := rise_len ha
  split
  · omega
  · split
    · omega
    · rw [len_app, len_app]
      have : (if 0 < b then (" + " : Str) else (" - " : Str)).length = 3 := by split <;> decide
      omega
theorem kName_len : ∀ i, (kName i).length ≤ 8
  | 0 => by decide
  | 1 => by decide
  | 2 => by decide
  | 3 => by decide
  | 4 => by decide
  | 5 => by decide
  | _ + 6 => by show ("step" : Str).length ≤ 8; decide
theorem textOf_len {l : List Row} (ok : ∀ r ∈ l, okRow r = true) (hl : l.length ≤ 20) : (textOf l).length ≤ 2020 := by
  unfold textOf
  split
  · decide
  · have := jn_len (l.map sT) (fun w hw => by
      obtain ⟨r, hr, rfl⟩ := List.mem_map.mp hw
      exact Nat.le_trans (sT_len (ok r hr)) (by decide))
    rw [List.length_map] at this
    omega
theorem begT_len {i : Nat} {f : Str} {l : List Row} (hw : Word f) (ok : ∀ r ∈ l, okRow r = true) (hl : l.length ≤ 20) : (begT i f l).length ≤ 2100 := by
  unfold begT
  rw [len_app, len_app, len_app, len_app]
  have h1 := kName_len i
  have h2 := hw.len
  have h3 := textOf_len ok hl
  have : (" " : Str).length = 1 := by decide
  omega
theorem sign_len {s : Str} (h : isSign s) : s.length ≤ 2 := by
  rcases h with e | e | e <;> subst e <;> decide
theorem way_len {s : Str} (h : isWay s) : s.length ≤ 4 := by
  rcases h with e | e <;> subst e <;> decide
theorem cutS_len (t : Str) : (cutS t (some 1) none).length ≤ t.length := by
  show (((t.cps.toList.drop (HT.sIx t.length 0 (some 1))).take (HT.sIx t.length t.length none - HT.sIx t.length 0 (some 1))).toArray).size ≤ t.cps.size
  rw [List.size_toArray, List.length_take, List.length_drop, Array.length_toList]
  omega

theorem addT_len {a b : Int} (ha : Num a) (hb : Num b) : (addT (lineT a b)).length ≤ 120 := by
  have h1 := lineT_len ha hb
  have h2 := cutS_len (lineT a b)
  unfold addT
  split
  · decide
  · split
    · rw [len_app]
      show 3 + (cutS (lineT a b) (some 1) none).length ≤ 120
      omega
    · rw [len_app]
      show 3 + (lineT a b).length ≤ 120
      omega
theorem b1l : (" " : Str).length = 1 := by decide
section
variable {P : Program} {w : World} {K : PySem.W.Frag} {mg : Str → Option Value} {base : Heap} {C : Nat → Addr} {CP CL : Addr} {ts tw : Addr}
theorem scBeg : FnScope ["clause"] ["clause"] (defScope sBegin) := ⟨rfl, rfl, rfl, by decide +kernel, rfl, by decide +kernel, by decide +kernel⟩
theorem ok_begin {f : Addr} {fd : FuncData} (F : Fun K "_beginning" "_beginning" sBegin f fd) (T : CTxt K mg C) (PT : PTxt K mg CP) (TE : Mt P w K mg base 2 CP "text" ["self"] (spPText CP)) : FnOk P w K mg base CX0 3 f fd ["clause"] (spBegin CP C) := by
  refine F.ok scBeg (fun vs H Q E h => ?_) (fun cdv A outer s0 H vs Q E hr h => ?_)
  · obtain ⟨z, i, f', l, x, rfl, _⟩ := h
    rfl
  · obtain ⟨z, i, f1, l, x, rfl, hA, q⟩ := h
    refine ⟨_, pss_one (ps_ret (pe_joined (.cons (pe_fmt (pe_fld (pv 0) rfl)) (.cons pe_str (.cons (pe_fmt (pe_fld (pv 0) rfl)) (.cons pe_str (.cons (pe_fmt (pe_mt0 TE PT.cl hr (by decide) (pe_fld (pv 0) rfl))) .nil))))))), ?_⟩
    obtain ⟨⟨dx, pl, hz, hp⟩, hi, hw, wf, ok, hl⟩ := hA
    have h1 := kName_len i
    have h2 := hw.len
    have h3 := textOf_len ok hl
    have kT : ∀ t f b : Addr, (pFl t f b).lookup ("text" : Str) = none := fun _ _ _ => pFl_no _ _ _ (by decide +kernel) (by decide +kernel) (by decide +kernel)
    obtain ⟨_, dp, t6, f6, b6, M6, hp6, _⟩ := id hp
    have e0 : (Str.empty ++ kName i).length = (kName i).length := by rw [emp_app]
    have l1 : ((Str.empty ++ kName i) ++ (" " : Str)).length ≤ 20 := by rw [len_app, e0, b1l]; omega
    have l2 : (((Str.empty ++ kName i) ++ (" " : Str)) ++ f1).length ≤ 30 := by rw [len_app]; omega
    have l3 : ((((Str.empty ++ kName i) ++ (" " : Str)) ++ f1) ++ (" " : Str)).length ≤ 40 := by rw [len_app, b1l]; omega
    refine ⟨_, rfl, fld T hz hi (j := 0) rfl rfl (.inl ⟨_, rfl, sz1 (by omega), _, rfl, sz1 (by omega), _, rfl, sz1 (by omega), ?_⟩)⟩
    refine ⟨_, rfl, fld T hz hi (j := 1) rfl rfl (.inl ⟨_, rfl, sz1 (by omega), _, rfl, sz1 (by omega), _, rfl, sz1 (by omega), ?_⟩)⟩
    refine ⟨_, rfl, fld T hz hi (j := 2) rfl rfl ⟨pl, dp, _, rfl, hp6, kT _ _ _, pl, l, rfl, hp, ok, by omega, fun H1 S1 => .inl ⟨_, rfl, sz1 (by omega), _, rfl, sz1 ?_, ?_⟩⟩⟩
    · rw [len_app]
      omega
    · have q1 := q H1 S1
      unfold begT at q1
      rw [emp_app]
      exact q1
theorem scAd : FnScope ["line", "text"] ["line"] (defScope sAdded) := ⟨rfl, rfl, rfl, by decide +kernel, rfl, by decide +kernel, by decide +kernel⟩
theorem ok_added {f : Addr} {fd : FuncData} (F : Fun K "_added_text" "_added_text" sAdded f fd) (LT : LTxt K mg CL) (TE : Mt P w K mg base 3 CL "text" ["self"] (spText CL)) : FnOk P w K mg base CX0 4 f fd ["line"] (spAdded CL) := by
  refine F.ok scAd (fun vs H Q E h => ?_) (fun cdv A outer s0 H vs Q E hr h => ?_)
  · obtain ⟨x, a, b, rfl, _⟩ := h
    rfl
  · obtain ⟨x, a, b, rfl, hx, ha, hb, q⟩ := h
    have nd := scAd.nd
    refine ⟨_, pss_cons (ps_set (i := 1) nd rfl (.inl rfl) (pe_mt0 TE LT.cl hr (by decide) (pv 0)))
      (pss_cons (ps_if (pt_cmpR op_eq (pv 1) pe_str (nomark _)) (pss_one (ps_ret pe_str)) pss_nil)
      (pss_one (ps_ret (pe_ifExp (pt_val (pe_m1 PySem.F.slot_str_startswith PySem.F.type_str_startswith mt_startswith (pv 1) pe_str))
        (pe_joined (.cons pe_str (.cons (pe_fmt (pe_slice sl_str (pv 1) (po_some pe_int) po_none)) .nil))) (pe_joined (.cons pe_str (.cons (pe_fmt (pv 1)) .nil))))))), ?_⟩
    have ll := lineT_len ha hb
    have lc := cutS_len (lineT a b)
    obtain ⟨dx, hx'⟩ := id hx
    refine ⟨_, rfl, x, dx, _, rfl, hx', lFl_no a b (by decide +kernel) (by decide +kernel), x, a, b, rfl, hx, ha, hb, fun H1 S1 => ?_⟩
    have q1 := q H1 S1
    unfold addT at q1
    refine ⟨_, rfl, rfl, _, rfl, ite2 (fun e => ?_) (fun e => ?_)⟩
    · rw [if_pos (V.str.inj (of_decide_eq_true e))] at q1
      exact q1
    · rw [if_neg (fun z => e (decide_eq_true (by rw [z])))] at q1
      refine ⟨_, rfl, ⟨_, rfl⟩, _, _, rfl, rfl, _, rfl, ?_⟩
      by_cases hs : Txt.startswith (lineT a b) ("-" : Str) = true
      · rw [if_pos hs] at q1
        rw [hs]
        refine iteT ⟨_, rfl, by decide, _, rfl, _, rfl, _, rfl, sz1 (by omega), .inl ⟨_, rfl, sz1 (by omega), _, rfl, sz1 ?_, ?_⟩⟩
        · rw [emp_app, len_app]
          show 3 + (cutS (lineT a b) (some 1) none).length ≤ 20000
          omega
        · rw [emp_app]
          exact q1
      · rw [if_neg hs] at q1
        have hs' : Txt.startswith (lineT a b) ("-" : Str) = false := by simpa using hs
        rw [hs']
        refine iteF ⟨_, rfl, by decide, _, rfl, .inl ⟨_, rfl, sz1 (by omega), _, rfl, sz1 ?_, ?_⟩⟩
        · rw [emp_app, len_app]
          show 3 + (lineT a b).length ≤ 20000
          omega
        · rw [emp_app]
          exact q1
theorem scAnsF : FnScope ["self"] ["self"] (defScope sAnsTold) := ⟨rfl, rfl, rfl, by decide +kernel, rfl, by decide +kernel, by decide +kernel⟩
theorem ok_AnsF {f : Addr} {fd : FuncData} (F : Fun K "functions_told" "Answers.functions_told" sAnsTold f fd) (T : CTxt K mg C) : FnOk P w K mg base CX0 1 f fd ["self"] (spCTold CP C 0) := by
  refine F.ok scAnsF (fun vs H Q E h => ?_) (fun cdv A outer s0 H vs Q E hr h => ?_)
  · obtain ⟨z, f1, l, x, rfl, _⟩ := h
    rfl
  · obtain ⟨z, f1, l, x, rfl, hA, q⟩ := h
    obtain ⟨⟨dx, pl, hz, hp⟩, hi, hw, wf, ok, hl⟩ := hA
    cases (show x = [] from wf)
    exact ⟨_, pss_one (ps_ret (pe_tup (pa_cons (pe_fld (pv 0) rfl) pa_nil))), ⟨_, rfl, fld T hz hi (j := 1) rfl rfl ⟨by show 1 ≤ sizeLine; decide, fun t ht => q t ht⟩⟩⟩
theorem scAnsX : FnScope ["self"] ["self"] (defScope sAnsTxt) := ⟨rfl, rfl, rfl, by decide +kernel, rfl, by decide +kernel, by decide +kernel⟩
theorem ok_AnsX {f : Addr} {fd : FuncData} (F : Fun K "text" "Answers.text" sAnsTxt f fd) (T : CTxt K mg C) (BG : Cl P w K mg base 3 "_beginning" ["clause"] (spBegin CP C)) : FnOk P w K mg base CX0 5 f fd ["self"] (spCText CP C 0) := by
  refine F.ok scAnsX (fun vs H Q E h => ?_) (fun cdv A outer s0 H vs Q E hr h => ?_)
  · obtain ⟨z, f1, l, x, rfl, _⟩ := h
    rfl
  · obtain ⟨z, f1, l, x, rfl, hA, q⟩ := h
    refine ⟨_, pss_one (ps_ret (pe_cl BG hr (by decide) (by rfl) (pa_cons (pv 0) pa_nil))), ?_⟩
    have hA' := hA
    obtain ⟨⟨dx, pl, hz, hp⟩, hi, hw, wf, ok, hl⟩ := hA
    have lb := begT_len (i := 0) hw ok hl
    cases (show x = [] from wf)
    exact ⟨_, rfl, z, 0, f1, l, _, rfl, hA', q⟩
theorem scRefF : FnScope ["self"] ["self"] (defScope sRefTold) := ⟨rfl, rfl, rfl, by decide +kernel, rfl, by decide +kernel, by decide +kernel⟩
theorem ok_RefF {f : Addr} {fd : FuncData} (F : Fun K "functions_told" "Refuses.functions_told" sRefTold f fd) (T : CTxt K mg C) : FnOk P w K mg base CX0 1 f fd ["self"] (spCTold CP C 1) := by
  refine F.ok scRefF (fun vs H Q E h => ?_) (fun cdv A outer s0 H vs Q E hr h => ?_)
  · obtain ⟨z, f1, l, x, rfl, _⟩ := h
    rfl
  · obtain ⟨z, f1, l, x, rfl, hA, q⟩ := h
    obtain ⟨⟨dx, pl, hz, hp⟩, hi, hw, wf, ok, hl⟩ := hA
    cases (show x = [] from wf)
    exact ⟨_, pss_one (ps_ret (pe_tup (pa_cons (pe_fld (pv 0) rfl) pa_nil))), ⟨_, rfl, fld T hz hi (j := 1) rfl rfl ⟨by show 1 ≤ sizeLine; decide, fun t ht => q t ht⟩⟩⟩
theorem scRefX : FnScope ["self"] ["self"] (defScope sRefTxt) := ⟨rfl, rfl, rfl, by decide +kernel, rfl, by decide +kernel, by decide +kernel⟩
theorem ok_RefX {f : Addr} {fd : FuncData} (F : Fun K "text" "Refuses.text" sRefTxt f fd) (T : CTxt K mg C) (BG : Cl P w K mg base 3 "_beginning" ["clause"] (spBegin CP C)) : FnOk P w K mg base CX0 5 f fd ["self"] (spCText CP C 1) := by
  refine F.ok scRefX (fun vs H Q E h => ?_) (fun cdv A outer s0 H vs Q E hr h => ?_)
  · obtain ⟨z, f1, l, x, rfl, _⟩ := h
    rfl
  · obtain ⟨z, f1, l, x, rfl, hA, q⟩ := h
    refine ⟨_, pss_one (ps_ret (pe_cl BG hr (by decide) (by rfl) (pa_cons (pv 0) pa_nil))), ?_⟩
    have hA' := hA
    obtain ⟨⟨dx, pl, hz, hp⟩, hi, hw, wf, ok, hl⟩ := hA
    have lb := begT_len (i := 1) hw ok hl
    cases (show x = [] from wf)
    exact ⟨_, rfl, z, 1, f1, l, _, rfl, hA', q⟩
theorem scNeeF : FnScope ["self"] ["self"] (defScope sNeeTold) := ⟨rfl, rfl, rfl, by decide +kernel, rfl, by decide +kernel, by decide +kernel⟩
theorem ok_NeeF {f : Addr} {fd : FuncData} (F : Fun K "functions_told" "Needs.functions_told" sNeeTold f fd) (T : CTxt K mg C) : FnOk P w K mg base CX0 1 f fd ["self"] (spCTold CP C 2) := by
  refine F.ok scNeeF (fun vs H Q E h => ?_) (fun cdv A outer s0 H vs Q E hr h => ?_)
  · obtain ⟨z, f1, l, x, rfl, _⟩ := h
    rfl
  · obtain ⟨z, f1, l, x, rfl, hA, q⟩ := h
    obtain ⟨⟨dx, pl, hz, hp⟩, hi, hw, wf, ok, hl⟩ := hA
    obtain ⟨g, rfl, hg, ng⟩ := wf
    exact ⟨_, pss_one (ps_ret (pe_tup (pa_cons (pe_fld (pv 0) rfl) (pa_cons (pe_fld (pv 0) rfl) pa_nil)))), ⟨_, rfl, fld T hz hi (j := 1) rfl rfl ⟨_, rfl, fld T hz hi (j := 3) rfl rfl ⟨by show 2 ≤ sizeLine; decide, fun t ht => q t ht⟩⟩⟩⟩
theorem scNeeX : FnScope ["self"] ["self"] (defScope sNeeTxt) := ⟨rfl, rfl, rfl, by decide +kernel, rfl, by decide +kernel, by decide +kernel⟩
theorem ok_NeeX {f : Addr} {fd : FuncData} (F : Fun K "text" "Needs.text" sNeeTxt f fd) (T : CTxt K mg C) (BG : Cl P w K mg base 3 "_beginning" ["clause"] (spBegin CP C)) : FnOk P w K mg base CX0 5 f fd ["self"] (spCText CP C 2) := by
  refine F.ok scNeeX (fun vs H Q E h => ?_) (fun cdv A outer s0 H vs Q E hr h => ?_)
  · obtain ⟨z, f1, l, x, rfl, _⟩ := h
    rfl
  · obtain ⟨z, f1, l, x, rfl, hA, q⟩ := h
    refine ⟨_, pss_one (ps_ret (pe_joined (.cons (pe_fmt (pe_cl BG hr (by decide) (by rfl) (pa_cons (pv 0) pa_nil))) (.cons pe_str (.cons (pe_fmt (pe_fld (pv 0) rfl)) .nil))))), ?_⟩
    have hA' := hA
    obtain ⟨⟨dx, pl, hz, hp⟩, hi, hw, wf, ok, hl⟩ := hA
    have lb := begT_len (i := 2) hw ok hl
    obtain ⟨g, rfl, hg, ng⟩ := wf
    have e0 : (Str.empty ++ begT 2 f1 l).length = (begT 2 f1 l).length := by rw [emp_app]
    have l1 : ((Str.empty ++ begT 2 f1 l) ++ (" " : Str)).length ≤ 2200 := by rw [len_app, e0, b1l]; omega
    have lv := hg.len
    have l2 : (((Str.empty ++ begT 2 f1 l) ++ (" " : Str)) ++ g).length ≤ 2300 := by rw [len_app]; omega
    refine ⟨_, rfl, z, 2, f1, l, _, rfl, hA', fun H1 S1 => .inl ⟨_, rfl, sz1 (by omega), _, rfl, sz1 (by omega), _, rfl, sz1 (by omega), ?_⟩⟩
    have hz1 := S1 _ _ hz
    refine ⟨_, rfl, fld T hz1 hi (j := 3) rfl rfl (.inl ⟨_, rfl, sz1 (by omega), _, rfl, sz1 (by omega), ?_⟩)⟩
    have q1 := q H1 S1
    unfold cText at q1
    show Q (.str (((Str.empty ++ begT 2 f1 l) ++ (" " : Str)) ++ g)) H1
    rw [emp_app]
    exact q1
theorem scSprF : FnScope ["self"] ["self"] (defScope sSprTold) := ⟨rfl, rfl, rfl, by decide +kernel, rfl, by decide +kernel, by decide +kernel⟩
theorem ok_SprF {f : Addr} {fd : FuncData} (F : Fun K "functions_told" "Spreads.functions_told" sSprTold f fd) (T : CTxt K mg C) : FnOk P w K mg base CX0 1 f fd ["self"] (spCTold CP C 3) := by
  refine F.ok scSprF (fun vs H Q E h => ?_) (fun cdv A outer s0 H vs Q E hr h => ?_)
  · obtain ⟨z, f1, l, x, rfl, _⟩ := h
    rfl
  · obtain ⟨z, f1, l, x, rfl, hA, q⟩ := h
    obtain ⟨⟨dx, pl, hz, hp⟩, hi, hw, wf, ok, hl⟩ := hA
    obtain ⟨w, rfl, hs⟩ := wf
    exact ⟨_, pss_one (ps_ret (pe_tup (pa_cons (pe_fld (pv 0) rfl) pa_nil))), ⟨_, rfl, fld T hz hi (j := 1) rfl rfl ⟨by show 1 ≤ sizeLine; decide, fun t ht => q t ht⟩⟩⟩
theorem scSprX : FnScope ["self"] ["self"] (defScope sSprTxt) := ⟨rfl, rfl, rfl, by decide +kernel, rfl, by decide +kernel, by decide +kernel⟩
theorem ok_SprX {f : Addr} {fd : FuncData} (F : Fun K "text" "Spreads.text" sSprTxt f fd) (T : CTxt K mg C) (BG : Cl P w K mg base 3 "_beginning" ["clause"] (spBegin CP C)) : FnOk P w K mg base CX0 5 f fd ["self"] (spCText CP C 3) := by
  refine F.ok scSprX (fun vs H Q E h => ?_) (fun cdv A outer s0 H vs Q E hr h => ?_)
  · obtain ⟨z, f1, l, x, rfl, _⟩ := h
    rfl
  · obtain ⟨z, f1, l, x, rfl, hA, q⟩ := h
    refine ⟨_, pss_one (ps_ret (pe_joined (.cons (pe_fmt (pe_cl BG hr (by decide) (by rfl) (pa_cons (pv 0) pa_nil))) (.cons pe_str (.cons (pe_fmt (pe_fld (pv 0) rfl)) .nil))))), ?_⟩
    have hA' := hA
    obtain ⟨⟨dx, pl, hz, hp⟩, hi, hw, wf, ok, hl⟩ := hA
    have lb := begT_len (i := 3) hw ok hl
    obtain ⟨w, rfl, hs⟩ := wf
    have e0 : (Str.empty ++ begT 3 f1 l).length = (begT 3 f1 l).length := by rw [emp_app]
    have l1 : ((Str.empty ++ begT 3 f1 l) ++ (" " : Str)).length ≤ 2200 := by rw [len_app, e0, b1l]; omega
    have lv := way_len hs
    have l2 : (((Str.empty ++ begT 3 f1 l) ++ (" " : Str)) ++ w).length ≤ 2300 := by rw [len_app]; omega
    refine ⟨_, rfl, z, 3, f1, l, _, rfl, hA', fun H1 S1 => .inl ⟨_, rfl, sz1 (by omega), _, rfl, sz1 (by omega), _, rfl, sz1 (by omega), ?_⟩⟩
    have hz1 := S1 _ _ hz
    refine ⟨_, rfl, fld T hz1 hi (j := 3) rfl rfl (.inl ⟨_, rfl, sz1 (by omega), _, rfl, sz1 (by omega), ?_⟩)⟩
    have q1 := q H1 S1
    unfold cText at q1
    show Q (.str (((Str.empty ++ begT 3 f1 l) ++ (" " : Str)) ++ w)) H1
    rw [emp_app]
    exact q1
theorem scBouF : FnScope ["self"] ["self"] (defScope sBouTold) := ⟨rfl, rfl, rfl, by decide +kernel, rfl, by decide +kernel, by decide +kernel⟩
theorem ok_BouF {f : Addr} {fd : FuncData} (F : Fun K "functions_told" "Bound.functions_told" sBouTold f fd) (T : CTxt K mg C) : FnOk P w K mg base CX0 1 f fd ["self"] (spCTold CP C 4) := by
  refine F.ok scBouF (fun vs H Q E h => ?_) (fun cdv A outer s0 H vs Q E hr h => ?_)
  · obtain ⟨z, f1, l, x, rfl, _⟩ := h
    rfl
  · obtain ⟨z, f1, l, x, rfl, hA, q⟩ := h
    obtain ⟨⟨dx, pl, hz, hp⟩, hi, hw, wf, ok, hl⟩ := hA
    obtain ⟨s, a, b, rfl, hs, na, nb⟩ := wf
    exact ⟨_, pss_one (ps_ret (pe_tup (pa_cons (pe_fld (pv 0) rfl) pa_nil))), ⟨_, rfl, fld T hz hi (j := 1) rfl rfl ⟨by show 1 ≤ sizeLine; decide, fun t ht => q t ht⟩⟩⟩
theorem scBouL : FnScope ["self"] ["self"] (defScope sBouLine) := ⟨rfl, rfl, rfl, by decide +kernel, rfl, by decide +kernel, by decide +kernel⟩
theorem ok_BouL {f : Addr} {fd : FuncData} (F : Fun K "line" "Bound.line" sBouLine f fd) (T : CTxt K mg C) (LM : LMk P w K mg base CL) : FnOk P w K mg base CX0 3 f fd ["self"] (spCLine CP CL C 4) := by
  refine F.ok scBouL (fun vs H Q E h => ?_) (fun cdv A outer s0 H vs Q E hr h => ?_)
  · obtain ⟨z, f1, l, x, a, b, rfl, _⟩ := h
    rfl
  · obtain ⟨z, f1, l, x, a, b, rfl, hA, hx, q⟩ := h
    obtain ⟨⟨dx, pl, hz, hp⟩, hi, hw, wf, ok, hl⟩ := hA
    refine ⟨_, pss_one (ps_ret (pe_mkL LM hr (by decide) (by rfl) (pa_cons (pe_fld (pv 0) rfl) (pa_cons (pe_fld (pv 0) rfl) pa_nil)))), ?_⟩
    have hv : (cVals 4 f1 pl x)[4]? = some (.int a) ∧ (cVals 4 f1 pl x)[5]? = some (.int b) := by
      obtain ⟨s, a2, b2, rfl, hs, na, nb⟩ := wf
      rcases hx with ⟨s2, e⟩ | ⟨s2, g2, e⟩
      · injection e with e1 e2; injection e2 with e2 e3; injection e3 with e3 e4; cases e2; cases e3; exact ⟨rfl, rfl⟩
      · injection e with e1 e2; injection e2 with e2 e3; cases e2
    exact ⟨_, rfl, fld T hz hi (j := 4) rfl hv.1 ⟨_, rfl, fld T hz hi (j := 5) rfl hv.2 ⟨a, b, rfl, q⟩⟩⟩
theorem scBouX : FnScope ["self"] ["self"] (defScope sBouTxt) := ⟨rfl, rfl, rfl, by decide +kernel, rfl, by decide +kernel, by decide +kernel⟩
theorem ok_BouX {f : Addr} {fd : FuncData} (F : Fun K "text" "Bound.text" sBouTxt f fd) (T : CTxt K mg C) (BG : Cl P w K mg base 3 "_beginning" ["clause"] (spBegin CP C)) (LI : Mt P w K mg base 3 (C 4) "line" ["self"] (spCLine CP CL C 4)) (LT : LTxt K mg CL) (LX : Mt P w K mg base 3 CL "text" ["self"] (spText CL)) : FnOk P w K mg base CX0 5 f fd ["self"] (spCText CP C 4) := by
  refine F.ok scBouX (fun vs H Q E h => ?_) (fun cdv A outer s0 H vs Q E hr h => ?_)
  · obtain ⟨z, f1, l, x, rfl, _⟩ := h
    rfl
  · obtain ⟨z, f1, l, x, rfl, hA, q⟩ := h
    refine ⟨_, pss_one (ps_ret (pe_joined (.cons (pe_fmt (pe_cl BG hr (by decide) (by rfl) (pa_cons (pv 0) pa_nil))) (.cons pe_str (.cons (pe_fmt (pe_fld (pv 0) rfl)) (.cons pe_str (.cons (pe_fmt (pe_mt0 LX LT.cl hr (by decide) (pe_mt0 LI (T.cl 4 (by decide)) hr (by decide) (pv 0)))) .nil))))))), ?_⟩
    have hA' := hA
    obtain ⟨⟨dx, pl, hz, hp⟩, hi, hw, wf, ok, hl⟩ := hA
    have lb := begT_len (i := 4) hw ok hl
    obtain ⟨s, a, b, rfl, hs, na, nb⟩ := wf
    have e0 : (Str.empty ++ begT 4 f1 l).length = (begT 4 f1 l).length := by rw [emp_app]
    have l1 : ((Str.empty ++ begT 4 f1 l) ++ (" " : Str)).length ≤ 2200 := by rw [len_app, e0, b1l]; omega
    have lv := sign_len hs
    have l2 : (((Str.empty ++ begT 4 f1 l) ++ (" " : Str)) ++ s).length ≤ 2300 := by rw [len_app]; omega
    refine ⟨_, rfl, z, 4, f1, l, _, rfl, hA', fun H1 S1 => .inl ⟨_, rfl, sz1 (by omega), _, rfl, sz1 (by omega), _, rfl, sz1 (by omega), ?_⟩⟩
    have hz1 := S1 _ _ hz
    have l3 : ((((Str.empty ++ begT 4 f1 l) ++ (" " : Str)) ++ s) ++ (" " : Str)).length ≤ 2400 := by rw [len_app, b1l]; omega
    refine ⟨_, rfl, fld T hz1 hi (j := 3) rfl rfl (.inl ⟨_, rfl, sz1 (by omega), _, rfl, sz1 (by omega), _, rfl, sz1 (by omega), ?_⟩)⟩
    have ll := lineT_len na nb
    refine ⟨_, rfl, z, dx, _, rfl, hz1, cFl_no (by decide +kernel), z, f1, l, _, a, b, rfl, hA'.same S1, .inl ⟨s, rfl⟩, fun y H2 _ hy S2 => ?_⟩
    obtain ⟨dy, hy'⟩ := id hy
    refine ⟨y, dy, _, rfl, hy', lFl_no a b (by decide +kernel) (by decide +kernel), y, a, b, rfl, hy, na, nb, fun H3 S3 => .inl ⟨_, rfl, sz1 (by omega), _, rfl, sz1 ?_, ?_⟩⟩
    · rw [len_app]; omega
    · have q1 := q H3 ((S1.trans S2).trans S3)
      unfold cText at q1
      show Q (.str (((((Str.empty ++ begT 4 f1 l) ++ (" " : Str)) ++ s) ++ (" " : Str)) ++ lineT a b)) H3
      rw [emp_app]
      exact q1
theorem scPaiF : FnScope ["self"] ["self"] (defScope sPaiTold) := ⟨rfl, rfl, rfl, by decide +kernel, rfl, by decide +kernel, by decide +kernel⟩
theorem ok_PaiF {f : Addr} {fd : FuncData} (F : Fun K "functions_told" "Pair.functions_told" sPaiTold f fd) (T : CTxt K mg C) : FnOk P w K mg base CX0 1 f fd ["self"] (spCTold CP C 5) := by
  refine F.ok scPaiF (fun vs H Q E h => ?_) (fun cdv A outer s0 H vs Q E hr h => ?_)
  · obtain ⟨z, f1, l, x, rfl, _⟩ := h
    rfl
  · obtain ⟨z, f1, l, x, rfl, hA, q⟩ := h
    obtain ⟨⟨dx, pl, hz, hp⟩, hi, hw, wf, ok, hl⟩ := hA
    obtain ⟨s, g, a, b, rfl, hs, hg, ng, na, nb⟩ := wf
    exact ⟨_, pss_one (ps_ret (pe_tup (pa_cons (pe_fld (pv 0) rfl) (pa_cons (pe_fld (pv 0) rfl) pa_nil)))), ⟨_, rfl, fld T hz hi (j := 1) rfl rfl ⟨_, rfl, fld T hz hi (j := 4) rfl rfl ⟨by show 2 ≤ sizeLine; decide, fun t ht => q t ht⟩⟩⟩⟩
theorem scPaiL : FnScope ["self"] ["self"] (defScope sPaiLine) := ⟨rfl, rfl, rfl, by decide +kernel, rfl, by decide +kernel, by decide +kernel⟩
theorem ok_PaiL {f : Addr} {fd : FuncData} (F : Fun K "line" "Pair.line" sPaiLine f fd) (T : CTxt K mg C) (LM : LMk P w K mg base CL) : FnOk P w K mg base CX0 3 f fd ["self"] (spCLine CP CL C 5) := by
  refine F.ok scPaiL (fun vs H Q E h => ?_) (fun cdv A outer s0 H vs Q E hr h => ?_)
  · obtain ⟨z, f1, l, x, a, b, rfl, _⟩ := h
    rfl
  · obtain ⟨z, f1, l, x, a, b, rfl, hA, hx, q⟩ := h
    obtain ⟨⟨dx, pl, hz, hp⟩, hi, hw, wf, ok, hl⟩ := hA
    refine ⟨_, pss_one (ps_ret (pe_mkL LM hr (by decide) (by rfl) (pa_cons (pe_fld (pv 0) rfl) (pa_cons (pe_fld (pv 0) rfl) pa_nil)))), ?_⟩
    have hv : (cVals 5 f1 pl x)[5]? = some (.int a) ∧ (cVals 5 f1 pl x)[6]? = some (.int b) := by
      obtain ⟨s, g, a2, b2, rfl, hs, hg, ng, na, nb⟩ := wf
      rcases hx with ⟨s2, e⟩ | ⟨s2, g2, e⟩
      · injection e with e1 e2; injection e2 with e2 e3; cases e2
      · injection e with e1 e2; injection e2 with e2 e3; injection e3 with e3 e4; injection e4 with e4 e5; cases e3; cases e4; exact ⟨rfl, rfl⟩
    exact ⟨_, rfl, fld T hz hi (j := 5) rfl hv.1 ⟨_, rfl, fld T hz hi (j := 6) rfl hv.2 ⟨a, b, rfl, q⟩⟩⟩
theorem scPaiX : FnScope ["self"] ["self"] (defScope sPaiTxt) := ⟨rfl, rfl, rfl, by decide +kernel, rfl, by decide +kernel, by decide +kernel⟩
theorem ok_PaiX {f : Addr} {fd : FuncData} (F : Fun K "text" "Pair.text" sPaiTxt f fd) (T : CTxt K mg C) (BG : Cl P w K mg base 3 "_beginning" ["clause"] (spBegin CP C)) (LI : Mt P w K mg base 3 (C 5) "line" ["self"] (spCLine CP CL C 5)) (AD : Cl P w K mg base 4 "_added_text" ["line"] (spAdded CL)) : FnOk P w K mg base CX0 5 f fd ["self"] (spCText CP C 5) := by
  refine F.ok scPaiX (fun vs H Q E h => ?_) (fun cdv A outer s0 H vs Q E hr h => ?_)
  · obtain ⟨z, f1, l, x, rfl, _⟩ := h
    rfl
  · obtain ⟨z, f1, l, x, rfl, hA, q⟩ := h
    refine ⟨_, pss_one (ps_ret (pe_joined (.cons (pe_fmt (pe_cl BG hr (by decide) (by rfl) (pa_cons (pv 0) pa_nil))) (.cons pe_str (.cons (pe_fmt (pe_fld (pv 0) rfl)) (.cons pe_str (.cons (pe_fmt (pe_fld (pv 0) rfl)) (.cons (pe_fmt (pe_cl AD hr (by decide) (by rfl) (pa_cons (pe_mt0 LI (T.cl 5 (by decide)) hr (by decide) (pv 0)) pa_nil))) .nil)))))))), ?_⟩
    have hA' := hA
    obtain ⟨⟨dx, pl, hz, hp⟩, hi, hw, wf, ok, hl⟩ := hA
    have lb := begT_len (i := 5) hw ok hl
    obtain ⟨s, g, a, b, rfl, hs, hg, ng, na, nb⟩ := wf
    have e0 : (Str.empty ++ begT 5 f1 l).length = (begT 5 f1 l).length := by rw [emp_app]
    have l1 : ((Str.empty ++ begT 5 f1 l) ++ (" " : Str)).length ≤ 2200 := by rw [len_app, e0, b1l]; omega
    have lv := sign_len hs
    have l2 : (((Str.empty ++ begT 5 f1 l) ++ (" " : Str)) ++ s).length ≤ 2300 := by rw [len_app]; omega
    refine ⟨_, rfl, z, 5, f1, l, _, rfl, hA', fun H1 S1 => .inl ⟨_, rfl, sz1 (by omega), _, rfl, sz1 (by omega), _, rfl, sz1 (by omega), ?_⟩⟩
    have hz1 := S1 _ _ hz
    have l3 : ((((Str.empty ++ begT 5 f1 l) ++ (" " : Str)) ++ s) ++ (" " : Str)).length ≤ 2400 := by rw [len_app, b1l]; omega
    refine ⟨_, rfl, fld T hz1 hi (j := 3) rfl rfl (.inl ⟨_, rfl, sz1 (by omega), _, rfl, sz1 (by omega), _, rfl, sz1 (by omega), ?_⟩)⟩
    have lg := hg.len
    have l4 : (((((Str.empty ++ begT 5 f1 l) ++ (" " : Str)) ++ s) ++ (" " : Str)) ++ g).length ≤ 2500 := by rw [len_app]; omega
    refine ⟨_, rfl, fld T hz1 hi (j := 4) rfl rfl (.inl ⟨_, rfl, sz1 (by omega), _, rfl, sz1 (by omega), ?_⟩)⟩
    refine ⟨_, rfl, z, dx, _, rfl, hz1, cFl_no (by decide +kernel), z, f1, l, _, a, b, rfl, hA'.same S1, .inr ⟨s, g, rfl⟩, fun y H2 _ hy S2 => ?_⟩
    have la := addT_len na nb
    refine ⟨y, a, b, rfl, hy, na, nb, fun H3 S3 => .inl ⟨_, rfl, sz1 (by omega), _, rfl, sz1 ?_, ?_⟩⟩
    · rw [len_app]; omega
    · have q1 := q H3 ((S1.trans S2).trans S3)
      unfold cText at q1
      show Q (.str ((((((Str.empty ++ begT 5 f1 l) ++ (" " : Str)) ++ s) ++ (" " : Str)) ++ g) ++ addT (lineT a b))) H3
      rw [emp_app]
      exact q1
theorem scSteF : FnScope ["self"] ["self"] (defScope sSteTold) := ⟨rfl, rfl, rfl, by decide +kernel, rfl, by decide +kernel, by decide +kernel⟩
theorem ok_SteF {f : Addr} {fd : FuncData} (F : Fun K "functions_told" "Step.functions_told" sSteTold f fd) (T : CTxt K mg C) : FnOk P w K mg base CX0 1 f fd ["self"] (spCTold CP C 6) := by
  refine F.ok scSteF (fun vs H Q E h => ?_) (fun cdv A outer s0 H vs Q E hr h => ?_)
  · obtain ⟨z, f1, l, x, rfl, _⟩ := h
    rfl
  · obtain ⟨z, f1, l, x, rfl, hA, q⟩ := h
    obtain ⟨⟨dx, pl, hz, hp⟩, hi, hw, wf, ok, hl⟩ := hA
    obtain ⟨s, b, rfl, hs, nb⟩ := wf
    exact ⟨_, pss_one (ps_ret (pe_tup (pa_cons (pe_fld (pv 0) rfl) pa_nil))), ⟨_, rfl, fld T hz hi (j := 1) rfl rfl ⟨by show 1 ≤ sizeLine; decide, fun t ht => q t ht⟩⟩⟩
theorem scSteX : FnScope ["self"] ["self"] (defScope sSteTxt) := ⟨rfl, rfl, rfl, by decide +kernel, rfl, by decide +kernel, by decide +kernel⟩
theorem ok_SteX {f : Addr} {fd : FuncData} (F : Fun K "text" "Step.text" sSteTxt f fd) (T : CTxt K mg C) (BG : Cl P w K mg base 3 "_beginning" ["clause"] (spBegin CP C)) (DE : Cl P w K mg base 1 "decimal" ["number"] spDec) : FnOk P w K mg base CX0 5 f fd ["self"] (spCText CP C 6) := by
  refine F.ok scSteX (fun vs H Q E h => ?_) (fun cdv A outer s0 H vs Q E hr h => ?_)
  · obtain ⟨z, f1, l, x, rfl, _⟩ := h
    rfl
  · obtain ⟨z, f1, l, x, rfl, hA, q⟩ := h
    refine ⟨_, pss_one (ps_ret (pe_joined (.cons (pe_fmt (pe_cl BG hr (by decide) (by rfl) (pa_cons (pv 0) pa_nil))) (.cons pe_str (.cons (pe_fmt (pe_fld (pv 0) rfl)) (.cons pe_str (.cons (pe_fmt (pe_cl DE hr (by decide) (by rfl) (pa_cons (pe_fld (pv 0) rfl) pa_nil))) .nil))))))), ?_⟩
    have hA' := hA
    obtain ⟨⟨dx, pl, hz, hp⟩, hi, hw, wf, ok, hl⟩ := hA
    have lb := begT_len (i := 6) hw ok hl
    obtain ⟨s, b, rfl, hs, nb⟩ := wf
    have e0 : (Str.empty ++ begT 6 f1 l).length = (begT 6 f1 l).length := by rw [emp_app]
    have l1 : ((Str.empty ++ begT 6 f1 l) ++ (" " : Str)).length ≤ 2200 := by rw [len_app, e0, b1l]; omega
    have lv := sign_len hs
    have l2 : (((Str.empty ++ begT 6 f1 l) ++ (" " : Str)) ++ s).length ≤ 2300 := by rw [len_app]; omega
    refine ⟨_, rfl, z, 6, f1, l, _, rfl, hA', fun H1 S1 => .inl ⟨_, rfl, sz1 (by omega), _, rfl, sz1 (by omega), _, rfl, sz1 (by omega), ?_⟩⟩
    have hz1 := S1 _ _ hz
    have l3 : ((((Str.empty ++ begT 6 f1 l) ++ (" " : Str)) ++ s) ++ (" " : Str)).length ≤ 2400 := by rw [len_app, b1l]; omega
    refine ⟨_, rfl, fld T hz1 hi (j := 3) rfl rfl (.inl ⟨_, rfl, sz1 (by omega), _, rfl, sz1 (by omega), _, rfl, sz1 (by omega), ?_⟩)⟩
    have ld := dTl (n := b) (k := 40) (by decide) nb
    refine ⟨_, rfl, fld T hz1 hi (j := 4) rfl rfl ⟨b, rfl, Nat.lt_of_lt_of_le nb (by decide), fun H2 S2 => .inl ⟨_, rfl, sz1 (by omega), _, rfl, sz1 ?_, ?_⟩⟩⟩
    · rw [len_app]; omega
    · have q1 := q H2 (S1.trans S2)
      unfold cText at q1
      show Q (.str (((((Str.empty ++ begT 6 f1 l) ++ (" " : Str)) ++ s) ++ (" " : Str)) ++ dT b)) H2
      rw [emp_app]
      exact q1
end
end OR

namespace OR
open PySem PySem.Spec PyProof.Rows L2
open TL (tl numL)
/-! ### lists of texts -/
def SmallS (w : Str) : Prop := ∀ c ∈ tl w, c < 200
theorem strOk_of {w : Str} (h : SmallS w) : PyData.strOk w = true := by
  unfold PyData.strOk
  rw [← Array.all_toList, List.all_eq_true]
  intro c hc
  have := h c hc
  exact decide_eq_true (by omega)
theorem lay_strs : ∀ {ws : List Str}, (∀ w ∈ ws, SmallS w) → PyData.canLayAll0 (ws.map PyData.str) = true
  | [], _ => rfl
  | w :: r, h => by
    show (PyData.strOk w && PyData.canLayAll0 (r.map PyData.str)) = true
    rw [lay_strs fun x hx => h x (List.mem_cons_of_mem _ hx), Bool.and_true]
    exact strOk_of (h w List.mem_cons_self)
theorem dep_strs : ∀ ws : List Str, PyData.depthAll (ws.map PyData.str) = 0
  | [] => rfl
  | w :: r => by
    show max (PyData.depth (.str w)) (PyData.depthAll (r.map PyData.str)) = 0
    rw [dep_strs r]
    rfl
theorem shp_strs {ws : List Str} (h : ∀ w ∈ ws, SmallS w) : SeqAt.shaped (.list (ws.map PyData.str)) = true := by
  unfold SeqAt.shaped
  rw [show PyData.canLay0 (.list (ws.map PyData.str)) = true from lay_strs h, Bool.true_and]
  refine decide_eq_true ?_
  show PyData.depthAll (ws.map PyData.str) + 1 ≤ 64
  rw [dep_strs]
  decide
theorem dp_strs {K : PySem.W.Frag} {H : Hp} : ∀ ws : List Str, DpAll K H (ws.map V.str) (ws.map PyData.str)
  | [] => .nil
  | w :: r => .cons (.str w) (dp_strs r)
def lenAt (l : Addr) (H : Hp) : Nat := match H l with
  | some (.lst xs) => xs.length
  | _ => 0
theorem lenAt_of {l : Addr} {H : Hp} {xs : List V} (h : H l = some (.lst xs)) : lenAt l H = xs.length := by
  unfold lenAt
  rw [h]
theorem ixN_in {n : Nat} {r : Int} (h0 : 0 ≤ r) (h1 : r < n) : ixN n r = some r.toNat := by
  unfold ixN
  rw [if_pos h0, if_pos h1]
theorem erase_permS : ∀ (L : List Str) (k : Nat) (h : k < L.length), (L[k] :: L.eraseIdx k).Perm L
  | p :: L, 0, _ => List.Perm.refl _
  | p :: L, k + 1, h => by
    have ih := erase_permS L k (Nat.lt_of_succ_lt_succ h)
    exact (List.Perm.swap p _ _).trans (ih.cons p)
theorem map_erase : ∀ (L : List Str) (k : Nat), (L.map V.str).eraseIdx k = (L.eraseIdx k).map V.str
  | [], _ => rfl
  | _ :: _, 0 => rfl
  | p :: L, k + 1 => by
    show V.str p :: (L.map V.str).eraseIdx k = V.str p :: (L.eraseIdx k).map V.str
    rw [map_erase L k]
def spShufS (K : PySem.W.Frag) : Sp := fun vs H Q _ => ∃ (p a : Addr) (L : List Str) (n : Nat), vs = [.ref p, .ref a] ∧ SqL K H a (L.map V.str) ∧ (∀ w ∈ L, SmallS w) ∧ L.length ≤ 100 ∧ Pen H p n ∧ n ≤ 800000 ∧
  ∀ (o : Addr) (M : List Str) (H' : Hp), H o = none → H' o = some (.lst (M.map V.str)) → M.Perm L → Pen H' p (n + 300) → Frm p H H' → Q (.ref o) H'
section
variable {P : Program} {w : World} {K : PySem.W.Frag} {mg : Str → Option Value} {base : Heap}
theorem scSh : FnScope ["_law_pen_here", "_law_items", "_law_left", "_law_found"] ["_law_pen_here", "_law_items"] (defScope sShuffled) := ⟨rfl, rfl, rfl, by decide +kernel, rfl, by decide +kernel, by decide +kernel⟩
theorem ok_shufs {f : Addr} {fd : FuncData} (F : Fun K "_law_shuffled" "_law_shuffled" sShuffled f fd) (B : Bd mg) (D : Cl P w K mg base 1 "_law_draw" ["_law_pen_here", "_law_many"] spDraw) : FnOk P w K mg base CX0 2 f fd ["_law_pen_here", "_law_items"] (spShufS K) := by
  refine F.ok scSh (fun vs H Q E h => ?_) (fun cdv A outer s H vs Q E hr h => ?_)
  · obtain ⟨p, a, L, n, rfl, _⟩ := h
    rfl
  · obtain ⟨p, a, L, n, rfl, hS, hsm, hlen, hP, hn, q⟩ := h
    have nd := scSh.nd
    have hu64 : (A.deeper (envOfC "_law_shuffled" (defScope sShuffled) s.heap.objs.size f cdv)).units + 64 < cLine := hr.units
    obtain ⟨c0, hc0, hcn⟩ := hP.cells
    refine ⟨_, pss_cons (ps_par (i := 2) (j := 3) rfl nd rfl rfl (by decide) rfl rfl (pa_cons (pe_callTy call_list_of (by rfl) B.list bt_list (pa_cons (pv 1) pa_nil)) (pa_cons (pe_lst pa_nil) pa_nil)) rfl)
      (pss_cons (ps_while PassesOwn.never (pt_cmpR (op_neD hu64) (pv 2) (pe_lst pa_nil) (nomark _))
        (pss_one (ps_expr (pe_bm PySem.F.plainAttrs_list PySem.F.slot_list_append PySem.F.type_list_append mt_append (pv 3) (pa_cons
          (pe_bm PySem.F.plainAttrs_list PySem.F.slot_list_pop PySem.F.type_list_pop mt_popAt (pv 2) (pa_cons (pe_cl D hr (by decide) (by rfl) (pa_cons (pv 0) (pa_cons (pe_callB call_len_seq (by rfl) B.len PySem.boot_len (pa_cons (pv 2) pa_nil)) pa_nil))) pa_nil)) pa_nil)))))
      (pss_one (ps_ret (pv 3)))), ?_⟩
    refine ⟨_, rfl, a, _, rfl, .inl hS, fun l nl => ?_⟩
    have s1 := same_lay (o := .lst (L.map V.str)) nl
    refine ⟨Nat.zero_le _, fun o no => ⟨_, _, rfl, ?_⟩⟩
    have s2 := s1.trans (same_lay (o := .lst []) no)
    have nlo : l ≠ o := ne_of_none upd_same no
    have no0 : H o = none := s1.free no
    have ncl : c0 ≠ l := fun e => hcn (by rw [e]; exact nl)
    have nco : c0 ≠ o := fun e => hcn (by rw [e]; exact no0)
    refine while_by (fun σ H' => ∃ R F : List Str, σ = [some (.ref p), some (.ref a), some (.ref l), some (.ref o)] ∧ H' l = some (.lst (R.map V.str)) ∧ H' o = some (.lst (F.map V.str)) ∧ (F ++ R).Perm L ∧ Pen H' p (n + 2 * F.length) ∧ Frm p H H')
      (fun _ H' => lenAt l H') ⟨L, [], rfl, by rw [upd_ne nlo, upd_same], upd_same, List.Perm.refl _, hP.same' s2, frmS s2⟩ ?_ (fun σ H Q Q' hQ h => by
        obtain ⟨v, e, l1, fw⟩ := h
        exact ⟨v, e, l1, fun p hp => by
          obtain ⟨d, e', a1, a2, a3, a4, k, ek, q⟩ := fw p hp
          exact ⟨d, e', a1, a2, a3, a4, k, ek, hQ _ _ q⟩⟩)
    rintro σ H' ⟨R, F', rfl, hl, ho, hpm, hPn, hFr⟩
    have hlF : F'.length + R.length = L.length := by rw [← List.length_append, hpm.length_eq]
    have hRs : ∀ w ∈ R, SmallS w := fun w hw => hsm w (hpm.mem_iff.mp (List.mem_append_right _ hw))
    refine ⟨_, rfl, Nat.zero_le _, fun e ne => ?_⟩
    have se := same_lay (o := .lst []) ne
    have hl3 := se _ _ hl
    have ho3 := se _ _ ho
    have P3 := hPn.same' se
    have hFr3 := hFr.trans (frmS se)
    refine ⟨.list (R.map PyData.str), .list [], .lst (.inl (.inl hl3)) (dp_strs R), .lst (.inl (.inl upd_same)) .nil, shp_strs hRs, rfl, _, rfl, ite2 (fun hne => ?_) (fun hne => ?_)⟩
    · have hR0 : 0 < R.length := by
        cases R with
        | nil => exact absurd hne (by decide)
        | cons _ _ => exact Nat.succ_pos _
      have lm : (R.map V.str).length = R.length := List.length_map ..
      refine ⟨_, rfl, .inl ⟨rfl, _, .inl (.inl ho3)⟩, _, rfl, .inl ⟨rfl, _, .inl (.inl hl3)⟩, _, rfl, _, rfl, l, _, rfl, .inl (.inl (.inl hl3)), p, _, _, rfl, by rw [lm]; omega, ?_, P3, by omega, fun r H4 r0 r1 P4 F4 => ?_⟩
      · rw [lm]
        exact Nat.lt_of_le_of_lt (show ((R.length : Nat) : Int).natAbs ≤ 200 by omega) (by decide)
      rw [lm] at r1
      have hl4 := F4.lst P3 hl3
      have ho4 := F4.lst P3 ho3
      have hk : r.toNat < R.length := by omega
      have hix := (ixN_seq (ixN_in r0 (show r < ((R.map V.str).length : Nat) by rw [lm]; exact r1))).1
      have hget : (R.map V.str)[r.toNat]? = some (.str R[r.toNat]) := by
        rw [List.getElem?_map, List.getElem?_eq_getElem hk]
        rfl
      refine ⟨l, R.map V.str, r, r.toNat, _, rfl, rfl, hl4, by omega, by omega, hix, hget, ?_⟩
      have ho5 : (upd H4 l (.lst ((R.map V.str).eraseIdx r.toNat))) o = some (.lst (F'.map V.str)) := by rw [upd_ne nlo.symm]; exact ho4
      refine ⟨o, F'.map V.str, _, rfl, rfl, ho5, small1000 (by rw [List.length_map]; omega), ?_⟩
      have ce4 := (hFr3.trans F4).ce c0 hc0
      refine ⟨⟨R.eraseIdx r.toNat, F' ++ [R[r.toNat]], rfl, by rw [upd_ne nlo, upd_same, map_erase], by rw [upd_same, List.map_append]; rfl, ?_, ?_, ?_⟩, ?_⟩
      · rw [List.append_assoc]
        exact ((erase_permS R r.toNat hk).append_left F').trans hpm
      · have p5 := P4.put (o := .lst ((R.map V.str).eraseIdx r.toNat)) ce4 hl4 ncl
        have ce5 : cellsAt (upd H4 l (.lst ((R.map V.str).eraseIdx r.toNat))) p c0 := by
          obtain ⟨k1, k2, e⟩ := ce4
          exact ⟨k1, k2, by rw [upd_ne (ne_of e hl4 (by intro z; cases z))]; exact e⟩
        exact (p5.put ce5 ho5 nco).mono (by rw [List.length_append]; show _ ≤ n + 2 * (F'.length + 1); omega)
      · have fr4 := hFr3.trans F4
        refine ⟨fun b u eb nb => ?_, fun c hc => ?_⟩
        · have n1 : b ≠ l := ne_of_none eb nl
          have n2 : b ≠ o := ne_of_none eb no0
          rw [upd_ne n2, upd_ne n1]
          exact fr4 _ _ eb nb
        · obtain ⟨k1, k2, e⟩ := fr4.ce c hc
          exact ⟨k1, k2, by rw [upd_ne (ne_of e ho4 (by intro z; cases z)), upd_ne (ne_of e hl4 (by intro z; cases z))]; exact e⟩
      · show lenAt l _ < lenAt l H'
        rw [lenAt_of (xs := (R.map V.str).eraseIdx r.toNat) (by rw [upd_ne nlo, upd_same]), lenAt_of hl, map_erase, List.length_map, List.length_map, List.length_eraseIdx, if_pos hk]
        omega
    · have hR0 : R = [] := by
        cases R with
        | nil => rfl
        | cons _ _ => exact absurd rfl hne
      subst hR0
      rw [List.append_nil] at hpm
      exact ⟨_, rfl, q o F' _ no0 ho3 hpm (P3.mono (by rw [hpm.length_eq]; omega)) hFr3⟩
end
end OR

namespace OR
open PySem PySem.Spec PyProof.Rows L2
open TL (tl numL)
/-! ### drawn words -/
theorem tl_cutA (z : Str) (k : Nat) : tl (cutS z none (some (k : Int))) = (tl z).take k := by
  show ((z.cps.toList.drop (HT.sIx z.length 0 none)).take (HT.sIx z.length z.length (some (k : Int)) - HT.sIx z.length 0 none)).toArray.toList = z.cps.toList.take k
  rw [HT.sIx_none, HT.sIx_nat, List.drop_zero, Nat.sub_zero]
  have hl : z.length = z.cps.toList.length := by rw [Array.length_toList]; rfl
  rcases Nat.le_total k z.length with h | h
  · rw [Nat.min_eq_left h]
  · rw [Nat.min_eq_right h, List.take_of_length_le (by rw [hl]; exact Nat.le_refl _), List.take_of_length_le (by rw [← hl]; exact h)]
theorem tl_cutB (z : Str) (k : Nat) : tl (cutS z (some (k : Int)) none) = (tl z).drop k := by
  show ((z.cps.toList.drop (HT.sIx z.length 0 (some (k : Int)))).take (HT.sIx z.length z.length none - HT.sIx z.length 0 (some (k : Int)))).toArray.toList = z.cps.toList.drop k
  rw [HT.sIx_none, HT.sIx_nat]
  have hl : z.length = z.cps.toList.length := by rw [Array.length_toList]; rfl
  rcases Nat.le_total k z.length with h | h
  · rw [Nat.min_eq_left h, List.take_of_length_le (by rw [List.length_drop, hl]; exact Nat.le_refl _)]
  · rw [Nat.min_eq_right h, List.drop_of_length_le (by rw [hl]; exact Nat.le_refl _), List.drop_of_length_le (by rw [← hl]; exact h), List.take_nil]
def ch (c : Nat) : Str := ⟨#[c]⟩
theorem tl_ch (c : Nat) : tl (ch c) = [c] := rfl
theorem tl_join0 : ∀ cs : List Nat, tl (Txt.join ("" : Str) (cs.map ch)) = cs
  | [] => rfl
  | [c] => by rw [TL.join_eq]; rfl
  | c :: d :: r => by
    have ih := tl_join0 (d :: r)
    rw [TL.join_eq] at ih ⊢
    show tl ((ch c ++ ("" : Str)) ++ Str.join ("" : Str) ((d :: r).map ch)) = _
    rw [TL.tl_append, TL.tl_append, ih]
    rfl
theorem let_at {j : Nat} (h : j < 26) : (tl letters)[j]? = some (97 + j) := by
  have e : tl letters = (List.range 26).map (· + 97) := by decide +kernel
  rw [e, List.getElem?_map, List.getElem?_range h]
  show some (j + 97) = _
  rw [Nat.add_comm]
theorem let_len : letters.length = 26 := by decide
theorem let_az {c : Nat} (h : c ∈ tl letters) : 97 ≤ c ∧ c ≤ 122 := by
  have e : tl letters = (List.range 26).map (· + 97) := by decide +kernel
  rw [e] at h
  obtain ⟨j, hj, rfl⟩ := List.mem_map.mp h
  have := List.mem_range.mp hj
  omega
def stepsL : List Int := [1, 3, 5, 7, 9, 11, 15, 17]
/-- the letter of the k-th word -/
def own (front step : Int) (k : Nat) : Nat := 97 + ((front + step * (k : Int)) % 26).toNat
theorem own_ne {front step : Int} {k m : Nat} (h0 : 0 ≤ front) (hs : step ∈ stepsL) (hk : k < m) (hm : m < 4) : own front step k ≠ own front step m := by
  unfold own
  unfold stepsL at hs
  simp only [List.mem_cons, List.not_mem_nil, or_false] at hs
  rcases hs with e | e | e | e | e | e | e | e <;> subst e <;> omega
def wordAt (stem : Str) (at_ : Nat) (c : Nat) : Str := (cutS stem none (some (at_ : Int)) ++ ch c) ++ cutS stem (some (at_ : Int)) none
theorem tl_word (stem : Str) (a c : Nat) : tl (wordAt stem a c) = (tl stem).take a ++ c :: (tl stem).drop a := by
  unfold wordAt
  rw [TL.tl_append, TL.tl_append, tl_cutA, tl_cutB, tl_ch, List.append_assoc]
  rfl
theorem word_inj {stem : Str} {a c d : Nat} (h : wordAt stem a c = wordAt stem a d) : c = d := by
  have := congrArg tl h
  rw [tl_word, tl_word] at this
  exact (List.cons.inj (List.append_cancel_left this)).1
theorem word_ok {stem : Str} {a c : Nat} (hl : stem.length ≤ 7) (hs : ∀ x ∈ tl stem, 97 ≤ x ∧ x ≤ 122) (hc : 97 ≤ c ∧ c ≤ 122) : Word (wordAt stem a c) := by
  have len : (wordAt stem a c).length = stem.length + 1 := by
    rw [TL.len_tl, tl_word, TL.len_tl, List.length_append, List.length_cons]
    have := congrArg List.length (List.take_append_drop a (tl stem))
    rw [List.length_append] at this
    omega
  refine ⟨by omega, by omega, fun x hx => ?_⟩
  rw [tl_word] at hx
  rcases List.mem_append.mp hx with h | h
  · exact hs x (List.mem_of_mem_take h)
  · rcases List.mem_cons.mp h with h | h
    · rw [h]; exact hc
    · exact hs x (List.mem_of_mem_drop h)
theorem Frm.putNew {p d : Addr} {H H2 : Hp} {xs : List V} {o : HO} (f : Frm p H H2) (nd : H d = none) (h : H2 d = some (.lst xs)) : Frm p H (upd H2 d o) := ⟨fun b u e nb => by rw [upd_ne (ne_of_none e nd)]; exact f _ _ e nb, fun c hc => by
  obtain ⟨k, l', e⟩ := f.ce c hc
  exact ⟨k, l', by rw [upd_ne (ne_of e h (by intro z; cases z))]; exact e⟩⟩
def spPickS : Sp := fun vs H Q _ => ∃ (p : Addr) (s : Str) (n : Nat), vs = [.ref p, .str s] ∧ 0 < s.length ∧ s.length ≤ 1000 ∧ Pen H p n ∧ n ≤ 1000000 ∧ ∀ (c : Nat) (H' : Hp), c ∈ tl s → Pen H' p (n + 1) → Frm p H H' → Q (.str (ch c)) H'
def spWords : Sp := fun vs H Q _ => ∃ (p : Addr) (m n : Nat), vs = [.ref p, .int (m : Nat)] ∧ m ≤ 4 ∧ Pen H p n ∧ n ≤ 800000 ∧
  ∀ (a : Addr) (ws : List Str) (H' : Hp), H a = none → H' a = some (.lst (ws.map V.str)) → ws.length = m → (∀ w ∈ ws, Word w) → ws.Pairwise (· ≠ ·) → Pen H' p (n + 20) → Frm p H H' → Q (.ref a) H'
section
variable {P : Program} {w : World} {K : PySem.W.Frag} {mg : Str → Option Value} {base : Heap}
theorem ok_pickS {f : Addr} {fd : FuncData} (F : Fun K "_law_pick" "_law_pick" sPick f fd) (B : Bl mg) (D : Cl P w K mg base 1 "_law_draw" ["_law_pen_here", "_law_many"] spDraw) : FnOk P w K mg base CX0 2 f fd ["_law_pen_here", "_law_items"] spPickS := by
  refine F.ok scPick (fun vs H Q E h => ?_) (fun cdv A outer s H vs Q E hr h => ?_)
  · obtain ⟨p, s, n, rfl, _⟩ := h
    rfl
  · obtain ⟨p, x, n, rfl, h0, h1, hP, hn, q⟩ := h
    refine ⟨_, pss_one (ps_ret (pe_ix ix_str (pv 1) (pe_cl D hr (by decide) (by rfl) (pa_cons (pv 0) (pa_cons (pe_callB call_len_str (by rfl) B.len PySem.boot_len (pa_cons (pv 1) pa_nil)) pa_nil))) (fun _ _ => rfl))), ?_⟩
    refine ⟨_, rfl, _, rfl, _, rfl, x, rfl, sz1 (by omega), p, x.length, n, rfl, by omega, ?_, hP, hn, fun r H' hr0 hr1 hP' hF => ?_⟩
    · have : x.length < 2 ^ 200 := Nat.lt_of_le_of_lt h1 (by decide)
      simpa using this
    · have hj : r.toNat < (tl x).length := by rw [← TL.len_tl]; omega
      refine ⟨x, r, (tl x)[r.toNat], rfl, rfl, sz1 (by omega), ?_, q _ _ (List.getElem_mem hj) hP' hF⟩
      have := atI_nat (xs := tl x) (j := r.toNat) (v := (tl x)[r.toNat]) (List.getElem?_eq_getElem hj)
      rw [Int.toNat_of_nonneg hr0] at this
      exact this
abbrev wN : List Str := ["_law_pen_here", "_law_many", "_law_letters", "_law_stem", "_law_at", "_law_front", "_law_step", "_law_own", "_law_k", "_law_letter"]
theorem scWd : FnScope ["_law_pen_here", "_law_many", "_law_letters", "_law_stem", "_law_at", "_law_front", "_law_step", "_law_own", "_law_k", "_law_letter"] ["_law_pen_here", "_law_many"] (defScope sWords) := ⟨rfl, rfl, rfl, by decide +kernel, rfl, by decide +kernel, by decide +kernel⟩
theorem ok_words {f : Addr} {fd : FuncData} (F : Fun K "_law_words" "_law_words" sWords f fd) (B : Bd mg) (D : Cl P w K mg base 1 "_law_draw" ["_law_pen_here", "_law_many"] spDraw) (PI : Cl P w K mg base 2 "_law_pick" ["_law_pen_here", "_law_items"] (spPick K)) (PS : Cl P w K mg base 2 "_law_pick" ["_law_pen_here", "_law_items"] spPickS) :
    FnOk P w K mg base CX0 3 f fd ["_law_pen_here", "_law_many"] spWords := by
  refine F.ok scWd (fun vs H Q E h => ?_) (fun cdv A outer s H vs Q E hr h => ?_)
  · obtain ⟨p, m, n, rfl, _⟩ := h
    rfl
  · obtain ⟨p, m, n, rfl, hm, hP, hn, q⟩ := h
    have nd := scWd.nd
    refine ⟨_, pss_cons (ps_set (i := 2) nd rfl (.inr rfl) pe_str)
      (pss_cons (ps_set (i := 3) nd rfl (.inr rfl) (pe_join pe_str
        (pe_lc (own := [("_law_k", 8)]) (g := gName 8) (tt := tYes) rfl nd (pi_range1 (by rfl) B.range (pa_cons (pe_cl D hr (by decide) (by rfl) (pa_cons (pv 0) (pa_cons pe_int pa_nil))) pa_nil)) (blkOk_by (N := wN) (sc := defScope sWords) (by decide +kernel))
          (fun _ _ _ _ _ => pg_name (i := 8) nd rfl (.inl rfl)) (fun _ _ _ _ _ => pts_nil) (fun _ _ _ _ _ => pe_cl PS hr (by decide) (by rfl) (pa_cons (pv 0) (pa_cons (pv 2) pa_nil))))))
      (pss_cons (ps_asg (pe_tup (pa_cons (pe_cl D hr (by decide) (by rfl) (pa_cons (pv 0) (pa_cons (pe_op op_add (pe_callB call_len_str (by rfl) B.len PySem.boot_len (pa_cons (pv 3) pa_nil)) pe_int) pa_nil)))
          (pa_cons (pe_cl D hr (by decide) (by rfl) (pa_cons (pv 0) (pa_cons pe_int pa_nil))) (pa_cons (pe_cl PI hr (by decide) (by rfl) (pa_cons (pv 0) (pa_cons (pe_lst (pa_cons pe_int (pa_cons pe_int (pa_cons pe_int (pa_cons pe_int (pa_cons pe_int (pa_cons pe_int (pa_cons pe_int (pa_cons pe_int pa_nil))))))))) pa_nil))) pa_nil))))
          (pg_tup rfl (pgs_cons (pg_name (i := 4) nd rfl (.inr rfl)) (pgs_cons (pg_name (i := 5) nd rfl (.inr rfl)) (pgs_cons (pg_name (i := 6) nd rfl (.inr rfl)) pgs_nil)))))
      (pss_cons (ps_setLc (i := 7) (own := [("_law_k", 8)]) (g := gName 8) (tt := tYes) rfl nd rfl rfl (sw_true rfl rfl rfl (by decide +kernel)) (pi_range1 (by rfl) B.range (pa_cons (pv 1) pa_nil)) (blkOk_by (N := wN) (sc := defScope sWords) (by decide +kernel))
          (fun _ _ _ _ _ => pg_name (i := 8) nd rfl (.inl rfl)) (fun _ _ _ _ _ => pts_nil) (fun _ _ _ _ _ => pe_ix ix_str (pv 2) (pe_op op_mod (pe_callTy call_int1 (by rfl) B.int bt_int (pa_cons (pe_op op_add (pv 5) (pe_op op_mul (pv 6) (pv 8))) pa_nil)) pe_int) (fun _ _ => rfl)))
      (pss_one (ps_ret (pe_lc (own := [("_law_letter", 9)]) (g := gName 9) (tt := tYes) rfl nd (pi_list (pv 7)) (blkOk_by (N := wN) (sc := defScope sWords) (by decide +kernel))
          (fun _ _ _ _ _ => pg_name (i := 9) nd rfl (.inl rfl)) (fun _ _ _ _ _ => pts_nil) (fun _ _ _ _ _ => pe_op op_add_str (pe_op op_add_str (pe_slice sl_str (pv 3) po_none (po_some (pv 4))) (pv 9)) (pe_slice sl_str (pv 3) (po_some (pv 4)) po_none)))))))), ?_⟩
    obtain ⟨c0, hc0, hcn⟩ := hP.cells
    refine ⟨⟨_, rfl⟩, _, rfl, p, 8, n, rfl, by decide, by decide, hP, by omega, fun r H1 r0 r1 P1 F1 => ?_⟩
    have hc1 := F1.ce c0 hc0
    refine ⟨r, rfl, by omega, by omega, fun d hd => ?_⟩
    have ncd : c0 ≠ d := fun e => by
      cases hx : H c0 with
      | none => exact hcn hx
      | some o =>
        obtain ⟨kvs, hp⟩ := hP.dict
        obtain ⟨c1, ns1, k1, l1, hp1, hcs, _⟩ := hP
        obtain rfl := hc0.inj hp1
        have := F1 _ _ hcs (ne_of hcs hp1 (by intro z; cases z))
        rw [e, hd] at this
        cases this
    refine lc_range (lo := 0) (n := r.toNat) (fun i G => ∃ cs : List Nat, cs.length = i ∧ (∀ c ∈ cs, c ∈ tl letters) ∧ G d = some (.lst ((cs.map ch).map V.str)) ∧ Pen G p (n + 1 + i) ∧ Frm p H1 G)
      ⟨[], rfl, (fun _ z => nomatch z), upd_same, P1.new hd, Frm.new hd⟩ ?_ ?_
    · rintro i G hi ⟨cs, lc, hcs, hD, PG, FG⟩
      refine ⟨rfl, yesT ?_⟩
      refine ⟨_, rfl, _, rfl, p, letters, _, rfl, by decide, by decide, PG, by omega, fun c G2 hc P2 F2 => ?_⟩
      have hD2 := F2.lst PG hD
      have FF := FG.trans F2
      refine ⟨_, hD2, small1000 (by rw [List.length_map, List.length_map]; omega), cs ++ [c], by rw [List.length_append, lc]; rfl, fun x hx => ?_, ?_, (P2.put (FF.ce c0 hc1) hD2 ncd).mono (by omega), FF.putNew hd hD2⟩
      · rcases List.mem_append.mp hx with k | k
        · exact hcs x k
        · rw [List.mem_singleton.mp k]; exact hc
      · rw [upd_same, List.map_append, List.map_append]
        rfl
    · rintro G ⟨cs, lc, hcs, hD, PG, FG⟩
      have l0 : ("" : Str).length = 0 := by decide
      refine ⟨_, d, cs.map ch, rfl, rfl, .inl (.inl (.inl hD)), ?_, ?_⟩
      · have := sum_le (cs.map ch) 1 (fun w hw => by
          obtain ⟨c, _, rfl⟩ := List.mem_map.mp hw
          exact Nat.le_refl 1)
        rw [List.length_map] at this ⊢
        rw [l0]
        omega
      generalize hstem : Txt.join (Str.ofString "") (cs.map ch) = stem
      have tls : tl stem = cs := by rw [← hstem]; exact tl_join0 cs
      have lens : stem.length = cs.length := by rw [TL.len_tl, tls]
      have l7 : stem.length ≤ 7 := by omega
      have azs : ∀ x ∈ tl stem, 97 ≤ x ∧ x ≤ 122 := fun x hx => let_az (hcs x (by rw [← tls]; exact hx))
      have FH := F1.trans FG
      clear hD hd hstem tls FG
      refine ⟨_, rfl, _, rfl, stem, rfl, sz1 (by omega), _, _, rfl, rfl, p, _, _, rfl, by omega, ?_, PG, by omega, fun a0 H2 a00 a01 P2 F2 => ?_⟩
      · exact Nat.lt_of_le_of_lt (show (((stem.length : Nat) : Int) + 1).natAbs ≤ 20 by omega) (by decide)
      obtain ⟨a, rfl⟩ : ∃ a : Nat, a0 = (a : Int) := ⟨a0.toNat, by omega⟩
      refine ⟨_, rfl, p, 26, _, rfl, by decide, by decide, P2, by omega, fun front H3 f0 _ P3 F3 => ?_⟩
      refine ⟨_, rfl, by show 8 ≤ sizeLine; decide, fun l nl => ?_⟩
      refine ⟨p, l, stepsL.map V.int, _, rfl, .inl (.inl upd_same), by show 0 < 8; decide, by show 8 ≤ 1000; decide, P3.new nl, by omega, fun v H4 hv P4 F4 => ?_⟩
      obtain ⟨step, hs, rfl⟩ := List.mem_map.mp hv
      refine ⟨by show 3 ≤ sizeLine; decide, fun t nt => ?_⟩
      refine ⟨t, _, rfl, .inl (.inl upd_same), rfl, _, _, rfl, _, _, rfl, _, _, rfl, rfl, ?_⟩
      have st := same_lay (o := .tup [.int (a : Int), .int front, .int step]) nt
      have P5 := P4.same' st
      have FH5 := (((FH.trans F2).trans F3).trans ((Frm.new (o := .lst (stepsL.map V.int)) nl).trans F4)).trans (frmS st)
      generalize upd H4 t (.tup [.int (a : Int), .int front, .int step]) = H5 at P5 FH5 st
      clear st P4 F4 nt hv P3 F3 nl P2 F2 FH
      have sb : -200 ≤ step ∧ step ≤ 200 := by
        unfold stepsL at hs
        simp only [List.mem_cons, List.not_mem_nil, or_false] at hs
        omega
      -- the own letters
      refine ⟨_, rfl, m, rfl, by omega, by omega, fun d2 hd2 => lc_range (lo := 0) (n := ((m : Nat) : Int).toNat) (fun i G => G d2 = some (.lst (((List.range i).map fun k => ch (own front step k)).map V.str)) ∧ Same H5 G) ⟨upd_same, same_lay hd2⟩ ?_ ?_⟩
      · rintro i G hi ⟨hD, sG⟩
        have hi4 : i < 4 := by omega
        refine ⟨rfl, yesT ?_⟩
        have mb := mod_bd (front + step * (0 + (i : Int))) 26 (by decide)
        have hat : atI (tl letters) ((front + step * (0 + (i : Int))) % 26) = some (own front step i) := by
          have := atI_nat (let_at (j := ((front + step * (0 + (i : Int))) % 26).toNat) (by omega))
          rw [Int.toNat_of_nonneg mb.1] at this
          rw [this]
          unfold own
          rw [Int.zero_add]
        refine ⟨_, rfl, _, rfl, _, rfl, _, rfl, _, _, rfl, rfl, .inl (by constructor <;> omega), _, _, rfl, rfl, .inl ⟨_, rfl, _, _, rfl, rfl, (by show (0 : Int) < 26; decide), letters, _, own front step i, rfl, rfl, by decide, hat, _, hD, small1000 ?_, ?_, same_upd sG hd2⟩⟩
        · rw [List.length_map, List.length_map, List.length_range]; omega
        · rw [upd_same, List.range_succ, List.map_append, List.map_append]
          rfl
      · rintro G2 ⟨hD, sG⟩
        have em : ((m : Nat) : Int).toNat = m := Int.toNat_natCast m
        rw [em] at hD
        have P6 := P5.same' sG
        have F6 := FH5.trans (frmS sG)
        have lm : (((List.range m).map fun k => ch (own front step k)).map V.str).length = m := by rw [List.length_map, List.length_map, List.length_range]
        refine ⟨_, rfl, d2, rfl, ⟨_, .inl (.inl hD)⟩, fun d3 hd3 => lc_list (K := K) (a := d2) (xs := ((List.range m).map fun k => ch (own front step k)).map V.str) (fun i G => G d3 = some (.lst (((List.range i).map fun k => wordAt stem a (own front step k)).map V.str)) ∧ Same G2 G) ⟨upd_same, same_lay hd3⟩
          (fun i G _ ⟨_, s⟩ => .inl (.inl (s _ _ hD))) ?_ ?_⟩
        · rintro i y G3 hy ⟨hD3, sG3⟩
          have him : i < m := by
            have := (List.getElem?_eq_some_iff.mp hy).1
            rw [lm] at this
            exact this
          rw [List.getElem?_map, List.getElem?_map, List.getElem?_range him] at hy
          cases hy
          have la := cutS_length stem none (some (a : Int))
          have lb := cutS_length stem (some (a : Int)) none
          refine ⟨rfl, yesT ?_⟩
          refine ⟨_, rfl, _, rfl, _, rfl, stem, rfl, sz1 (by omega), _, rfl, _, _, rfl, rfl, sz1 ?_, _, rfl, _, rfl, _, rfl, stem, rfl, sz1 (by omega), _, _, rfl, rfl, sz1 ?_, _, hD3, small1000 ?_, ?_, same_upd sG3 hd3⟩
          · show (cutS stem none (some (a : Int))).length + 1 ≤ 20000
            omega
          · rw [len_app]
            show (cutS stem none (some (a : Int))).length + 1 + _ ≤ 20000
            omega
          · rw [List.length_map, List.length_map, List.length_range]; omega
          · rw [upd_same, List.range_succ, List.map_append, List.map_append]
            rfl
        · rintro G3 ⟨hD3, sG3⟩
          rw [lm] at hD3
          refine q d3 _ G3 ?_ hD3 (by rw [List.length_map, List.length_range]) (fun w hw => ?_) ?_ ((P6.same' sG3).mono (by omega)) (F6.trans (frmS sG3))
          · cases hx : H d3 with
            | none => rfl
            | some o =>
              exfalso
              by_cases ep : d3 = p
              · obtain ⟨kvs, hp⟩ := (P6).dict
                rw [ep, hp] at hd3
                cases hd3
              · have := F6 _ _ hx ep
                rw [this] at hd3
                cases hd3
          · obtain ⟨k, hk, rfl⟩ := List.mem_map.mp hw
            have mb := mod_bd (front + step * (k : Int)) 26 (by decide)
            exact word_ok l7 azs (by unfold own; omega)
          · refine List.pairwise_map.mpr ?_
            refine List.Pairwise.imp_of_mem (fun {x y} hx hy hxy e => ?_) (List.pairwise_lt_range (n := m))
            have hy4 := List.mem_range.mp hy
            exact own_ne f0 hs hxy (by omega) (word_inj e)
end
end OR

namespace OR
open PySem PySem.Spec PyProof.Rows L2
open TL (tl numL)
/-- an item of a list or a tuple -/
def rIxA (K : PySem.W.Frag) : R2 := fun x y H Q => ∃ p xs i v, x = .ref p ∧ y = .int i ∧ (SqL K H p xs ∨ SqT K H p xs) ∧ atI xs i = some v ∧ Q v H
theorem ix_any {X : Cx} (K : PySem.W.Frag) (hK : X.K = K) : IxR X (rIxA K) := by
  subst hK
  intro value slice pins s σ H x y v u Q I rx ry h hs
  obtain ⟨p, xs, i, z, hx, hy, hq | hq, he, q⟩ := h
  · exact ix_list value slice pins s σ H x y v u Q I rx ry ⟨p, xs, i, z, hx, hy, hq, he, q⟩ hs
  · exact ix_tup value slice pins s σ H x y v u Q I rx ry ⟨p, xs, i, z, hx, hy, hq, he, q⟩ hs
theorem dT_ok {n : Int} (h : 0 ≤ n) : ∀ c ∈ tl (dT n), c < 58 := fun c hc => Nat.lt_succ_of_le (dT_digits h c hc).2
theorem sT_small {r : Row} (h : okRow r = true) : ∀ c ∈ tl (sT r), c < 58 := by
  obtain ⟨h1, h2, h3⟩ := okRow_iff h
  intro c hc
  unfold sT at hc
  split at hc
  · exact dT_ok h1 c hc
  · rw [TL.tl_append, TL.tl_append] at hc
    rcases List.mem_append.mp hc with k | k
    · rcases List.mem_append.mp k with k | k
      · exact dT_ok h1 c k
      · rw [dash_tl] at k
        rw [List.mem_singleton.mp k]
        decide
    · exact dT_ok (by omega) c k
theorem szA {a b : Str} (ha : a.length ≤ 200) (hb : b.length ≤ 200) : a.length + b.length ≤ sizeLine := sz1 (by omega)
def spTextOf (K : PySem.W.Frag) : Sp := fun vs H Q _ => ∃ (a : Addr) (L : List ARow), vs = [.ref a] ∧ SqL K H a (refs L) ∧ AtR H L ∧ (∀ r ∈ rws L, okRow r = true) ∧ L.length ≤ 100 ∧ ∀ H', Same H H' → Q (.str (textOf (rws L))) H'
def IsT (H : Hp) (t : Addr) (a b : Int) : Prop := H t = some (.tup [.int a, .int b])
theorem IsT.frm {H H' : Hp} {t p : Addr} {a b : Int} {n : Nat} (h : IsT H t a b) (f : Frm p H H') (P : Pen H p n) : IsT H' t a b := by
  obtain ⟨c, ns, k, l, hp, _⟩ := P
  exact f _ _ h (ne_of h hp (by intro z; cases z))
theorem IsT.same {H H' : Hp} {t : Addr} {a b : Int} (h : IsT H t a b) (s : Same H H') : IsT H' t a b := s _ _ h
theorem same_new {H : Hp} {q : Addr} {o : HO} (h : H q = none) : Same H (upd H q o) := fun b x e => by rw [upd_ne (ne_of_none e h)]; exact e
theorem at0 {a b : V} : atI [a, b] 0 = some a := atI_nat (j := 0) rfl
theorem at1 {a b : V} : atI [a, b] 1 = some b := atI_nat (j := 1) rfl
def spLine : Sp := fun vs H Q _ => ∃ (p : Addr) (n : Nat), vs = [.ref p] ∧ Pen H p n ∧ n ≤ 800000 ∧
  ∀ (t : Addr) (H' : Hp) (a b : Int), H t = none → -(10 ^ 9) ≤ a → a ≤ 10 ^ 9 → -(10 ^ 30) < b → b < 10 ^ 30 → Pen H' p (n + 6) → IsT H' t a b → Frm p H H' → Q (.ref t) H'

/-! ### clauses as tuples -/
def spT (i : Nat) (f : Str) (r : Addr) (x : List V) : List V := .str (kName i) :: .str f :: .ref r :: x
structure RowsAt (H : Hp) (r : Addr) (L : List ARow) : Prop where
  at_ : H r = some (.lst (refs L))
  rw_ : AtR H L
  ok : ∀ q ∈ rws L, okRow q = true
  nf : Nf (rws L)
  few : L.length ≤ 20
theorem RowsAt.same {H H' : Hp} {r : Addr} {L : List ARow} (h : RowsAt H r L) (s : Same H H') : RowsAt H' r L := ⟨s _ _ h.at_, h.rw_.same s, h.ok, h.nf, h.few⟩
theorem RowsAt.frm {H H' : Hp} {r p : Addr} {n : Nat} {L : List ARow} (h : RowsAt H r L) (f : Frm p H H') (P : Pen H p n) : RowsAt H' r L := ⟨f.lst P h.at_, h.rw_.frm f P, h.ok, h.nf, h.few⟩
theorem Frm.tp {H H' : Hp} {p a : Addr} {n : Nat} {xs : List V} (f : Frm p H H') (P : Pen H p n) (h : H a = some (.tup xs)) : H' a = some (.tup xs) := by
  obtain ⟨kvs, hp⟩ := P.dict
  exact f _ _ h (ne_of h hp (by intro z; cases z))
/-- numbers that are not great -/
def Small30 (x : List V) : Prop := ∀ a : Int, V.int a ∈ x → a.natAbs < 10 ^ 31
/-- the other function, where there is one -/
def OtherIs (g : Str) : Nat → List V → Prop
  | 2, x => x = [.str g]
  | 5, x => ∃ s a b, x = [.str s, .str g, .int a, .int b]
  | _, _ => True
theorem kinds7 {i : Nat} (h : i < 7) : i = 0 ∨ i = 1 ∨ i = 2 ∨ i = 3 ∨ i = 4 ∨ i = 5 ∨ i = 6 := by omega
def spSpec (K : PySem.W.Frag) : Sp := fun vs H Q _ => ∃ (p wl r : Addr) (i : Nat) (f g : Str) (rest : List V) (n : Nat), vs = [.ref p, .ref wl, .ref r, .str (kName i)] ∧ i < 7 ∧ SqL K H wl (.str f :: .str g :: rest) ∧ Word f ∧ Word g ∧ g ≠ f ∧ Pen H p n ∧ n ≤ 700000 ∧
  ∀ (t : Addr) (x : List V) (H' : Hp), WF i f x → Small30 x → OtherIs g i x → H' t = some (.tup (spT i f r x)) → Pen H' p (n + 10) → Frm p H H' → Q (.ref t) H'
def spFuncs : Sp := fun vs H Q _ => ∃ (t : Addr) (i : Nat) (f : Str) (r : Addr) (x : List V), vs = [.ref t] ∧ H t = some (.tup (spT i f r x)) ∧ i < 7 ∧ WF i f x ∧ ∀ u, H u = none → Q (.ref u) (upd H u (.tup (told i f x)))
def spClause (CP : Addr) (C : Nat → Addr) : Sp := fun vs H Q _ => ∃ (t : Addr) (i : Nat) (f : Str) (r : Addr) (x : List V) (L : List ARow), vs = [.ref t] ∧ H t = some (.tup (spT i f r x)) ∧ i < 7 ∧ Word f ∧ WF i f x ∧ RowsAt H r L ∧
  ∀ (z : Addr) (H' : Hp), IsC CP C H' z i f (rws L) x → Same H H' → Q (.ref z) H'
def spParts (CP : Addr) (C : Nat → Addr) : Sp := fun vs H Q _ => ∃ (z : Addr) (i : Nat) (f : Str) (l : List Row) (x : List V), vs = [.ref z] ∧ IsC CP C H z i f l x ∧
  ∀ (t r : Addr) (M : List ARow) (H' : Hp), H' t = some (.tup (spT i f r x)) → H' r = some (.lst (refs M)) → AtR H' M → rws M = l → Same H H' → Q (.ref t) H'
def spCT (K : PySem.W.Frag) : Sp := fun vs H Q _ => ∃ (t : Addr) (i : Nat) (f : Str) (r : Addr) (x : List V) (L : List ARow), vs = [.ref t] ∧ H t = some (.tup (spT i f r x)) ∧ i < 7 ∧ Word f ∧ WF i f x ∧ RowsAt H r L ∧ ∀ H', Same H H' → Q (.str (cText i f (rws L) x)) H'
theorem sign_of {v : V} (h : v ∈ ([.str "<=", .str ">=", .str "="] : List V)) : ∃ s, v = .str s ∧ isSign s := by
  simp only [List.mem_cons, List.not_mem_nil, or_false] at h
  rcases h with e | e | e <;> subst e
  · exact ⟨_, rfl, .inl rfl⟩
  · exact ⟨_, rfl, .inr (.inl rfl)⟩
  · exact ⟨_, rfl, .inr (.inr rfl)⟩
theorem way_of {v : V} (h : v ∈ ([.str "up", .str "down"] : List V)) : ∃ s, v = .str s ∧ isWay s := by
  simp only [List.mem_cons, List.not_mem_nil, or_false] at h
  rcases h with e | e <;> subst e
  · exact ⟨_, rfl, .inl rfl⟩
  · exact ⟨_, rfl, .inr rfl⟩
/-- an own class of clauses is made -/
structure CMk (P : Program) (w : World) (K : PySem.W.Frag) (mg : Str → Option Value) (base : Heap) (C : Nat → Addr) (i : Nat) (ps : List Str) : Prop where
  made : ∃ f fd, Mk K (C i) f ∧ FnOk P w K mg base CX0 4 f fd ps (spCInit C i) ∧ Binds K fd ps []
  mgC : mg (clsName i) = some (.ref (C i))
def tMkC (C : Nat → Addr) (i : Nat) (t : TA) : TE := fun σ H Q => t σ H fun vs H1 => ∃ (f : Str) (pl : Addr) (x : List V), vs = .str f :: .ref pl :: x ∧ Word f ∧ WF i f x ∧ ∀ z dx H', H1 z = none → H' z = some (.ins (C i) dx (cFl i f pl x)) → Same H1 H' → Q (.ref z) H'
theorem pe_mkC {X : Cx} {C : Nat → Addr} {i j : Nat} {ps : List Str} {nm : Str} {e : Expr} {es : List Expr} {t : TA} {p pos : Pos} (M : CMk X.prog X.w X.K X.mg X.base C i ps) (hn : clsName i = nm) (hr : Room j X.A) (hj : 5 ≤ j) (hg : Gl X nm) (ha : PA X (e :: es) t) (hd : (nm == ("__debug__" : Str)) = false := by decide)
    (he : starEach (e :: es) X.env = (false, eval e X.env) :: starEach es X.env := by rfl) (hpl : (backTo pos (starEach es X.env)).any (·.1) = false := by rfl) : PE X (.Call (.Name nm p) (e :: es) [] pos) (tMkC C i t) := by
  subst hn
  obtain ⟨f, fd, mk, F, hb⟩ := M.made
  refine ⟨fun pins s σ H Q I h => ?_⟩
  refine wpAny_Call_Name_kw (ld_glob I hg M.mgC ?_ hd)
  refine PySem.W.callWith_K (h₀ := X.base) I.ok.mod.kin mk.kp (thn (ha.run pos pins s σ H _ I h) fun us s1 ⟨vs, H1, I1, r, q⟩ => ⟨I1.kIn, ?_⟩) he hpl
  obtain ⟨f1, pl, x, rfl, hw, wf, q⟩ := q
  refine run_make mk F (hr.mono hj) hb .nil pass0 I1 r fun z dx nz ndx nex => ?_
  refine ⟨z, dx, f1, pl, x, by rw [List.append_nil], hw, wf, upd_same, fun H' hx hs => ⟨rfl, q z dx H' nz hx fun c o e => ?_⟩⟩
  have ncz : c ≠ z := ne_of_none e nz
  refine hs c o ?_ ncz
  rw [upd_ne ncz, upd_ne (ne_of_none e ndx)]
  exact e
section
variable {P : Program} {w : World} {K : PySem.W.Frag} {mg : Str → Option Value} {base : Heap} {C : Nat → Addr} {CP CL : Addr} {ts tw : Addr}
theorem scTO : FnScope ["_law_rows", "_law_words_here", "_law_row"] ["_law_rows"] (defScope sTextOf) := ⟨rfl, rfl, rfl, by decide +kernel, rfl, by decide +kernel, by decide +kernel⟩
theorem ok_textof {f : Addr} {fd : FuncData} (F : Fun K "_law_text_of" "_law_text_of" sTextOf f fd) (zS : mg "str" = none) : FnOk P w K mg base CX0 1 f fd ["_law_rows"] (spTextOf K) := by
  refine F.ok scTO (fun vs H Q E h => ?_) (fun cdv A outer s H vs Q E hr h => ?_)
  · obtain ⟨a, L, rfl, _⟩ := h
    rfl
  · obtain ⟨a, L, rfl, hS, hL, hok, hlen, q⟩ := h
    have nd := scTO.nd
    have hu64 : (A.deeper (envOfC "_law_text_of" (defScope sTextOf) s.heap.objs.size f cdv)).units + 64 < cLine := hr.units
    refine ⟨_, pss_cons (ps_setLc (i := 1) (own := [("_law_row", 2)]) (g := gName 2) (tt := tYes) rfl nd rfl rfl (sw_true rfl rfl rfl (by decide +kernel)) (pi_list (pv 0)) (blkOk_by (N := ["_law_rows", "_law_words_here", "_law_row"]) (sc := defScope sTextOf) (by decide +kernel))
          (fun _ _ _ _ _ => pg_name (i := 2) nd rfl (.inl rfl)) (fun _ _ _ _ _ => pts_nil)
          (fun _ _ _ _ _ => pe_ifExp (pt_cmpR op_eq (pe_ix (ix_any K rfl) (pv 2) pe_int (fun _ _ => rfl)) (pe_ix (ix_any K rfl) (pv 2) pe_int (fun _ _ => rfl)) (nomark _)) (pe_callTy call_str_int (by rfl) zS boot_strT (pa_cons (pe_ix (ix_any K rfl) (pv 2) pe_int (fun _ _ => rfl)) pa_nil))
            (pe_op op_add_str (pe_op op_add_str (pe_callTy call_str_int (by rfl) zS boot_strT (pa_cons (pe_ix (ix_any K rfl) (pv 2) pe_int (fun _ _ => rfl)) pa_nil)) pe_str) (pe_callTy call_str_int (by rfl) zS boot_strT (pa_cons (pe_ix (ix_any K rfl) (pv 2) pe_int (fun _ _ => rfl)) pa_nil)))))
      (pss_one (ps_ret (pe_ifExp (pt_cmpR (op_neD hu64) (pv 1) (pe_lst pa_nil) (nomark _)) (pe_join pe_str (pv 1)) pe_str))), ?_⟩
    refine ⟨_, rfl, a, rfl, ⟨_, hS⟩, fun D hD => lc_list (K := K) (a := a) (xs := refs L) (fun i G => G D = some (.lst ((((rws L).take i).map sT).map V.str)) ∧ Same H G)
        ⟨upd_same, same_lay hD⟩ (fun i G _ ⟨_, s⟩ => s.seq hS) ?_ ?_⟩
    · rintro i y G hy ⟨hD2, sG⟩
      obtain ⟨z, hz, hzL, rfl⟩ := refs_get hy
      have hil : i < L.length := (List.getElem?_eq_some_iff.mp hz).1
      have ez := sG _ _ (hL z hzL)
      have okz := hok z.2 (mem_rws.mpr ⟨z.1, hzL⟩)
      obtain ⟨h1, h2, h3⟩ := okRow_iff okz
      have l1 := xl (x := z.2.1) (by omega) (by omega)
      have l2 := xl (x := z.2.2) (by omega) (by omega)
      have hq2 : SqT K G z.1 [.int z.2.1, .int z.2.2] := .inl (.inl ez)
      have g0 : atI [V.int z.2.1, .int z.2.2] 0 = some (.int z.2.1) := atI_nat (j := 0) rfl
      have g1 : atI [V.int z.2.1, .int z.2.2] 1 = some (.int z.2.2) := atI_nat (j := 1) rfl
      have e1' : (rws L).take (i + 1) = (rws L).take i ++ [z.2] := by rw [List.take_add_one, rws_get hz]; rfl
      have fin : ∃ acc, G D = some (.lst acc) ∧ acc.length < sizeLine ∧ (upd G D (.lst (acc ++ [.str (sT z.2)]))) D = some (.lst ((((rws L).take (i + 1)).map sT).map V.str)) ∧ Same H (upd G D (.lst (acc ++ [.str (sT z.2)]))) := by
        refine ⟨_, hD2, small1000 ?_, ?_, same_upd sG hD⟩
        · rw [List.length_map, List.length_map, List.length_take]
          omega
        · rw [upd_same, e1', List.map_append, List.map_append]
          rfl
      refine ⟨rfl, yesT ?_⟩
      refine ⟨_, rfl, z.1, _, 0, _, rfl, rfl, .inr hq2, g0, _, rfl, z.1, _, 1, _, rfl, rfl, .inr hq2, g1, rfl, _, rfl, ite2 (fun e => ?_) (fun e => ?_)⟩
      · have e1 : z.2.1 = z.2.2 := V.int.inj (of_decide_eq_true e)
        unfold sT at fin
        rw [if_pos e1] at fin
        exact ⟨_, rfl, z.1, _, 0, _, rfl, rfl, .inr hq2, g0, _, rfl, dlog (by omega) (by omega), fin⟩
      · have e1 : ¬ z.2.1 = z.2.2 := fun z' => e (decide_eq_true (by rw [z']))
        unfold sT at fin
        rw [if_neg e1] at fin
        refine ⟨_, rfl, z.1, _, 0, _, rfl, rfl, .inr hq2, g0, _, rfl, dlog (by omega) (by omega), _, _, rfl, rfl, szA (a := dT z.2.1) (by omega) (by decide), _, rfl, z.1, _, 1, _, rfl, rfl, .inr hq2, g1, _, rfl, dlog (by omega) (by omega), _, _, rfl, rfl, szA (a := dT z.2.1 ++ ("-" : Str)) (b := dT z.2.2) ?_ (by omega), fin⟩
        rw [len_app]
        show (dT z.2.1).length + 1 ≤ 200
        omega
    · rintro G ⟨hD2, sG⟩
      rw [refs_len, List.take_of_length_le (by rw [rws_len]; exact Nat.le_refl _)] at hD2
      have sml : ∀ w ∈ (rws L).map sT, ∀ c ∈ tl w, c < 58 := fun w hw => by
        obtain ⟨r, hr', e⟩ := List.mem_map.mp hw
        rw [← e]
        exact sT_small (hok r hr')
      refine ⟨_, rfl, Nat.zero_le _, fun u nu => ?_⟩
      have su := same_lay (o := .lst []) nu
      have hD3 := su _ _ hD2
      refine ⟨.list (((rws L).map sT).map PyData.str), .list [], .lst (.inl (.inl hD3)) (dp_strs _), .lst (.inl (.inl upd_same)) .nil, shp_strs (fun w hw c hc => Nat.lt_trans (sml w hw c hc) (by decide)), rfl, _, rfl, ?_⟩
      have q1 := q _ (sG.trans su)
      unfold textOf at q1
      cases hL0 : rws L with
      | nil =>
        rw [hL0, if_pos rfl] at q1
        exact iteF q1
      | cons r0 R0 =>
        rw [hL0, if_neg (by simp)] at q1
        rw [hL0] at hD3
        refine iteT ⟨⟨_, rfl⟩, _, rfl, _, D, (r0 :: R0).map sT, rfl, rfl, .inl (.inl (.inl hD3)), ?_, q1⟩
        have ll : (r0 :: R0).length ≤ 100 := by rw [← hL0, rws_len]; exact hlen
        have h1 := sum_le ((r0 :: R0).map sT) 100 (fun w hw => by
          obtain ⟨r, hr', e⟩ := List.mem_map.mp hw
          rw [← e]
          exact Nat.le_trans (sT_len (hok r (by rw [hL0]; exact hr'))) (by decide))
        have h2 : (" " : Str).length = 1 := by decide
        rw [List.length_map] at h1 ⊢
        rw [h2]
        omega
theorem scLn : FnScope ["_law_pen_here", "_law_slope"] ["_law_pen_here"] (defScope sLine) := ⟨rfl, rfl, rfl, by decide +kernel, rfl, by decide +kernel, by decide +kernel⟩
theorem ok_line {f : Addr} {fd : FuncData} (F : Fun K "_law_line" "_law_line" sLine f fd) (D : Cl P w K mg base 1 "_law_draw" ["_law_pen_here", "_law_many"] spDraw) (C : Cl P w K mg base 2 "_law_pick" ["_law_pen_here", "_law_items"] (spPick K)) (W : Cl P w K mg base 3 "_law_whole" ["_law_pen_here"] spWhole) :
    FnOk P w K mg base CX0 4 f fd ["_law_pen_here"] spLine := by
  refine F.ok scLn (fun vs H Q E h => ?_) (fun cdv A outer s H vs Q E hr h => ?_)
  · obtain ⟨p, n, rfl, _⟩ := h
    rfl
  · obtain ⟨p, n, rfl, hP, hn, q⟩ := h
    refine ⟨_, pss_cons (ps_set (i := 1) scLn.nd rfl (.inl rfl) (pe_cl C hr (by decide) (by rfl) (pa_cons (pv 0) (pa_cons (pe_lst (pa_cons pe_int (pa_cons pe_int (pa_cons (pe_un un_neg pe_int) (pa_cons pe_int (pa_cons (pe_un un_neg pe_int)
        (pa_cons (pe_cl D hr (by decide) (by rfl) (pa_cons (pv 0) (pa_cons (pe_op op_add (pe_op op_pow pe_int pe_int) pe_int) pa_nil)))
        (pa_cons (pe_un un_neg (pe_cl D hr (by decide) (by rfl) (pa_cons (pv 0) (pa_cons (pe_op op_add (pe_op op_pow pe_int pe_int) pe_int) pa_nil)))) pa_nil)))))))) pa_nil))))
      (pss_one (ps_ret (pe_tup (pa_cons (pv 1) (pa_cons (pe_cl W hr (by decide) (by rfl) (pa_cons (pv 0) pa_nil)) pa_nil))))), ?_⟩
    have hpow : CPow 10 9 := ⟨by decide, by decide, by decide⟩
    have hm0 : (0 : Int) < 10 ^ (9 : Int).toNat + 1 := by decide
    have hm1 : ((10 : Int) ^ (9 : Int).toNat + 1).natAbs < 2 ^ 200 := by decide
    refine ⟨_, rfl, 1, rfl, 3, rfl, _, rfl, _, _, rfl, rfl, hpow, _, _, rfl, rfl, p, _, n, rfl, hm0, hm1, hP, by omega, fun r1 H1 h10 h11 P1 F1 => ?_⟩
    refine ⟨_, rfl, _, _, rfl, rfl, hpow, _, _, rfl, rfl, p, _, n + 1, rfl, hm0, hm1, P1, by omega, fun r2 H2 h20 h21 P2 F2 => ?_⟩
    refine ⟨r2, rfl, by show 7 ≤ sizeLine; decide, fun q1 hq1 => ?_⟩
    refine ⟨p, q1, _, n + 2, rfl, .inl (.inl upd_same), by show 0 < 7; decide, by show 7 ≤ 1000; decide, P2.new hq1, by omega, fun v H3 hv P3 F3 => ?_⟩
    obtain ⟨a, rfl, ha1, ha2⟩ : ∃ a : Int, v = .int a ∧ -(10 ^ 9) ≤ a ∧ a ≤ 10 ^ 9 := by
      have h11' : r1 < 10 ^ 9 + 1 := h11
      have h21' : r2 < 10 ^ 9 + 1 := h21
      simp only [List.mem_cons, List.not_mem_nil, or_false] at hv
      rcases hv with e | e | e | e | e | e | e <;> subst e <;> exact ⟨_, rfl, by omega, by omega⟩
    refine ⟨_, rfl, _, rfl, p, n + 3, rfl, P3, by omega, fun b H4 hb1 hb2 P4 F4 => ?_⟩
    refine ⟨by show 2 ≤ sizeLine; decide, fun t ht => ?_⟩
    have FF : Frm p H H4 := ((F1.trans F2).trans ((Frm.new hq1).trans F3)).trans F4
    have nt : H t = none := by
      cases e : H t with
      | none => rfl
      | some o =>
        by_cases ep : t = p
        · subst ep
          obtain ⟨c, ns, k, l, hp, _⟩ := P4
          rw [hp] at ht
          cases ht
        · rw [FF t o e ep] at ht
          cases ht
    exact q t _ a b nt ha1 ha2 hb1 hb2 (P4.new ht) upd_same (FF.trans (Frm.new ht))
theorem scSpc : FnScope ["_law_pen_here", "_law_words_here", "_law_rows", "_law_kind", "_law_function", "_law_other", "_law_sign", "_law_line_here"] ["_law_pen_here", "_law_words_here", "_law_rows", "_law_kind"] (defScope sSpec) := ⟨rfl, rfl, rfl, by decide +kernel, rfl, by decide +kernel, by decide +kernel⟩
theorem ok_spec {f : Addr} {fd : FuncData} (F : Fun K "_law_spec" "_law_spec" sSpec f fd) (PI : Cl P w K mg base 2 "_law_pick" ["_law_pen_here", "_law_items"] (spPick K)) (LI : Cl P w K mg base 4 "_law_line" ["_law_pen_here"] spLine) : FnOk P w K mg base CX0 5 f fd ["_law_pen_here", "_law_words_here", "_law_rows", "_law_kind"] (spSpec K) := by
  refine F.ok scSpc (fun vs H Q E h => ?_) (fun cdv A outer s0 H vs Q E hr h => ?_)
  · obtain ⟨p, wl, r, i, f1, g, rest, n, rfl, _⟩ := h
    rfl
  · obtain ⟨p, wl, r, i, f1, g, rest, n, rfl, hi, hS, hf, hg, ne, hP, hn, q⟩ := h
    have nd := scSpc.nd
    refine ⟨_, pss_cons (ps_par (i := 4) (j := 5) rfl nd rfl rfl (by decide) rfl rfl (pa_cons (pe_ix ix_list (pv 1) pe_int (fun _ _ => rfl)) (pa_cons (pe_ix ix_list (pv 1) pe_int (fun _ _ => rfl)) pa_nil)) rfl)
      (pss_cons (ps_par (i := 6) (j := 7) rfl nd rfl rfl (by decide) rfl rfl (pa_cons (pe_cl PI hr (by decide) (by rfl) (pa_cons (pv 0) (pa_cons (pe_lst (pa_cons pe_str (pa_cons pe_str (pa_cons pe_str pa_nil)))) pa_nil))) (pa_cons (pe_cl LI hr (by decide) (by rfl) (pa_cons (pv 0) pa_nil)) pa_nil)) rfl)
      (pss_cons (ps_if (pt_cmpR op_eq (pv 3) pe_str (nomark _)) (pss_one (ps_ret (pe_tup (pa_cons (pv 3) (pa_cons (pv 4) (pa_cons (pv 2) (pa_cons (pv 5) pa_nil))))))) pss_nil)
      (pss_cons (ps_if (pt_cmpR op_eq (pv 3) pe_str (nomark _)) (pss_one (ps_ret (pe_tup (pa_cons (pv 3) (pa_cons (pv 4) (pa_cons (pv 2) (pa_cons (pe_cl PI hr (by decide) (by rfl) (pa_cons (pv 0) (pa_cons (pe_lst (pa_cons pe_str (pa_cons pe_str pa_nil))) pa_nil))) pa_nil))))))) pss_nil)
      (pss_cons (ps_if (pt_cmpR op_eq (pv 3) pe_str (nomark _)) (pss_one (ps_ret (pe_op op_catT (pe_tup (pa_cons (pv 3) (pa_cons (pv 4) (pa_cons (pv 2) (pa_cons (pv 6) pa_nil))))) (pv 7)))) pss_nil)
      (pss_cons (ps_if (pt_cmpR op_eq (pv 3) pe_str (nomark _)) (pss_one (ps_ret (pe_op op_catT (pe_tup (pa_cons (pv 3) (pa_cons (pv 4) (pa_cons (pv 2) (pa_cons (pv 6) (pa_cons (pv 5) pa_nil)))))) (pv 7)))) pss_nil)
      (pss_one (ps_ret (pe_ifExp (pt_cmpR op_eq (pv 3) pe_str (nomark _)) (pe_tup (pa_cons (pv 3) (pa_cons (pv 4) (pa_cons (pv 2) (pa_cons (pv 6) (pa_cons (pe_ix ix_tup (pv 7) pe_int (fun _ _ => rfl)) pa_nil)))))) (pe_tup (pa_cons (pv 3) (pa_cons (pv 4) (pa_cons (pv 2) pa_nil)))))))))))), ?_⟩
    refine ⟨_, rfl, wl, _, _, _, rfl, rfl, hS, atI_nat (j := 0) rfl, _, rfl, wl, _, _, _, rfl, rfl, hS, atI_nat (j := 1) rfl, _, _, rfl, ?_⟩
    refine ⟨_, rfl, by show 3 ≤ sizeLine; decide, fun l nl => ?_⟩
    refine ⟨p, l, _, _, rfl, .inl (.inl upd_same), by show 0 < 3; decide, by show 3 ≤ 1000; decide, hP.new nl, by omega, fun v H1 hv P1 F1 => ?_⟩
    obtain ⟨s, rfl, hs⟩ := sign_of hv
    have FF := (Frm.new (o := .lst [.str "<=", .str ">=", .str "="]) nl).trans F1
    clear hv
    refine ⟨_, rfl, p, _, rfl, P1, by omega, fun tl_ H2 a b _ a0 a1 b0 b1 P2 hT F2 => ⟨_, _, rfl, ?_⟩⟩
    have F3 := FF.trans F2
    have na : a.natAbs < 10 ^ 31 := by omega
    have nb : b.natAbs < 10 ^ 31 := by omega
    have na' : Num a := Nat.lt_of_lt_of_le na (by decide)
    have nb' : Num b := Nat.lt_of_lt_of_le nb (by decide)
    have two : 2 ≤ sizeLine := by decide
    have four : 4 ≤ sizeLine := by decide
    have five : 5 ≤ sizeLine := by decide
    have sm0 : Small30 [] := fun _ h => nomatch h
    clear P1 FF F1 F2 hS hP nl
    rcases kinds7 hi with e | e | e | e | e | e | e <;> subst e
    · refine ⟨_, rfl, rfl, _, rfl, ite2 (fun z => absurd (of_decide_eq_true z) (by decide +kernel)) (fun _ => ?_)⟩
      refine ⟨_, rfl, rfl, _, rfl, ite2 (fun z => absurd (of_decide_eq_true z) (by decide +kernel)) (fun _ => ?_)⟩
      refine ⟨_, rfl, rfl, _, rfl, ite2 (fun z => absurd (of_decide_eq_true z) (by decide +kernel)) (fun _ => ?_)⟩
      refine ⟨_, rfl, rfl, _, rfl, ite2 (fun z => absurd (of_decide_eq_true z) (by decide +kernel)) (fun _ => ?_)⟩
      refine ⟨_, rfl, rfl, _, rfl, ite2 (fun z => absurd (of_decide_eq_true z) (by decide +kernel)) (fun _ => ?_)⟩
      refine ⟨_, rfl, _, rfl, _, rfl, by show 3 ≤ sizeLine; decide, fun t nt => ?_⟩
      exact q t [] _ rfl sm0 trivial upd_same ((P2.new nt).mono (by omega)) (F3.trans (frmS (same_lay nt)))
    · refine ⟨_, rfl, rfl, _, rfl, ite2 (fun z => absurd (of_decide_eq_true z) (by decide +kernel)) (fun _ => ?_)⟩
      refine ⟨_, rfl, rfl, _, rfl, ite2 (fun z => absurd (of_decide_eq_true z) (by decide +kernel)) (fun _ => ?_)⟩
      refine ⟨_, rfl, rfl, _, rfl, ite2 (fun z => absurd (of_decide_eq_true z) (by decide +kernel)) (fun _ => ?_)⟩
      refine ⟨_, rfl, rfl, _, rfl, ite2 (fun z => absurd (of_decide_eq_true z) (by decide +kernel)) (fun _ => ?_)⟩
      refine ⟨_, rfl, rfl, _, rfl, ite2 (fun z => absurd (of_decide_eq_true z) (by decide +kernel)) (fun _ => ?_)⟩
      refine ⟨_, rfl, _, rfl, _, rfl, by show 3 ≤ sizeLine; decide, fun t nt => ?_⟩
      exact q t [] _ rfl sm0 trivial upd_same ((P2.new nt).mono (by omega)) (F3.trans (frmS (same_lay nt)))
    · refine ⟨_, rfl, rfl, _, rfl, ite2 (fun _ => ?_) (fun z => absurd (decide_eq_true rfl) z)⟩
      refine ⟨_, rfl, _, rfl, _, rfl, _, rfl, four, fun t nt => ?_⟩
      exact q t [.str g] _ ⟨g, rfl, hg, ne⟩ (fun a h => by simp at h) rfl upd_same ((P2.new nt).mono (by omega)) (F3.trans (frmS (same_lay nt)))
    · refine ⟨_, rfl, rfl, _, rfl, ite2 (fun z => absurd (of_decide_eq_true z) (by decide +kernel)) (fun _ => ?_)⟩
      refine ⟨_, rfl, rfl, _, rfl, ite2 (fun _ => ?_) (fun z => absurd (decide_eq_true rfl) z)⟩
      refine ⟨_, rfl, _, rfl, _, rfl, _, rfl, two, fun l2 nl2 => ?_⟩
      refine ⟨p, l2, _, _, rfl, .inl (.inl upd_same), by show 0 < 2; decide, by show 2 ≤ 1000; decide, P2.new nl2, by omega, fun v H4 hv P4 F4 => ?_⟩
      obtain ⟨w2, rfl, hw2⟩ := way_of hv
      refine ⟨four, fun t nt => ?_⟩
      exact q t [.str w2] _ ⟨w2, rfl, hw2⟩ (fun a h => by simp at h) trivial upd_same ((P4.new nt).mono (by omega)) ((F3.trans ((Frm.new (o := .lst [.str "up", .str "down"]) nl2).trans F4)).trans (frmS (same_lay nt)))
    · refine ⟨_, rfl, rfl, _, rfl, ite2 (fun z => absurd (of_decide_eq_true z) (by decide +kernel)) (fun _ => ?_)⟩
      refine ⟨_, rfl, rfl, _, rfl, ite2 (fun z => absurd (of_decide_eq_true z) (by decide +kernel)) (fun _ => ?_)⟩
      refine ⟨_, rfl, rfl, _, rfl, ite2 (fun _ => ?_) (fun z => absurd (decide_eq_true rfl) z)⟩
      refine ⟨_, rfl, _, rfl, _, rfl, _, rfl, four, fun t nt => ?_⟩
      have st := same_lay (o := .tup [.str "bound", .str f1, .ref r, .str s]) nt
      refine ⟨_, rfl, t, tl_, _, _, rfl, rfl, .inl (.inl upd_same), .inl (.inl (st _ _ hT)), by simp, by show 4 + 2 ≤ sizeLine; decide, (fun z => nomatch z), fun _ t2 nt2 => ?_⟩
      exact q t2 [.str s, .int a, .int b] _ ⟨s, a, b, rfl, hs, na', nb'⟩ (fun c h => by simp at h; rcases h with e | e <;> subst e <;> assumption) trivial upd_same (((P2.new nt).new nt2).mono (by omega)) ((F3.trans (frmS st)).trans (frmS (same_lay nt2)))
    · refine ⟨_, rfl, rfl, _, rfl, ite2 (fun z => absurd (of_decide_eq_true z) (by decide +kernel)) (fun _ => ?_)⟩
      refine ⟨_, rfl, rfl, _, rfl, ite2 (fun z => absurd (of_decide_eq_true z) (by decide +kernel)) (fun _ => ?_)⟩
      refine ⟨_, rfl, rfl, _, rfl, ite2 (fun z => absurd (of_decide_eq_true z) (by decide +kernel)) (fun _ => ?_)⟩
      refine ⟨_, rfl, rfl, _, rfl, ite2 (fun _ => ?_) (fun z => absurd (decide_eq_true rfl) z)⟩
      refine ⟨_, rfl, _, rfl, _, rfl, _, rfl, _, rfl, five, fun t nt => ?_⟩
      have st := same_lay (o := .tup [.str "pair", .str f1, .ref r, .str s, .str g]) nt
      refine ⟨_, rfl, t, tl_, _, _, rfl, rfl, .inl (.inl upd_same), .inl (.inl (st _ _ hT)), by simp, by show 5 + 2 ≤ sizeLine; decide, (fun z => nomatch z), fun _ t2 nt2 => ?_⟩
      exact q t2 [.str s, .str g, .int a, .int b] _ ⟨s, g, a, b, rfl, hs, hg, ne, na', nb'⟩ (fun c h => by simp at h; rcases h with e | e <;> subst e <;> assumption) ⟨s, a, b, rfl⟩ upd_same (((P2.new nt).new nt2).mono (by omega)) ((F3.trans (frmS st)).trans (frmS (same_lay nt2)))
    · refine ⟨_, rfl, rfl, _, rfl, ite2 (fun z => absurd (of_decide_eq_true z) (by decide +kernel)) (fun _ => ?_)⟩
      refine ⟨_, rfl, rfl, _, rfl, ite2 (fun z => absurd (of_decide_eq_true z) (by decide +kernel)) (fun _ => ?_)⟩
      refine ⟨_, rfl, rfl, _, rfl, ite2 (fun z => absurd (of_decide_eq_true z) (by decide +kernel)) (fun _ => ?_)⟩
      refine ⟨_, rfl, rfl, _, rfl, ite2 (fun z => absurd (of_decide_eq_true z) (by decide +kernel)) (fun _ => ?_)⟩
      refine ⟨_, rfl, rfl, _, rfl, ite2 (fun _ => ?_) (fun z => absurd (decide_eq_true rfl) z)⟩
      refine ⟨_, rfl, _, rfl, _, rfl, _, rfl, _, rfl, tl_, _, _, _, rfl, rfl, .inl (.inl hT), at1, five, fun t nt => ?_⟩
      exact q t [.str s, .int b] _ ⟨s, b, rfl, hs, nb'⟩ (fun c h => by simp at h; subst h; exact nb) trivial upd_same ((P2.new nt).mono (by omega)) (F3.trans (frmS (same_lay nt)))
end
end OR

namespace OR
open PySem PySem.Spec PyProof.Rows L2
open TL (tl numL)
theorem op_in_seqK {X : Cx} (K : PySem.W.Frag) (hK : X.K = K) : OpR X (compareOp .In) (rIn K false) := by
  subst hK
  exact op_in_seq
theorem dT_pos (n : Int) : 0 < (dT n).length := by
  rcases Int.lt_or_le n 0 with h | h
  · rw [dT_neg h, len_app]
    show 0 < 1 + _
    omega
  · rw [TL.len_tl, tl_dT h]
    exact List.length_pos_iff.mpr (TL.numL_ne _)
theorem riseT_pos (a : Int) : 0 < (riseT a).length := by
  unfold riseT
  split
  · decide
  · split
    · decide
    · rw [len_app]
      have := dT_pos a
      omega
theorem lineT_pos (a b : Int) : 0 < (lineT a b).length := by
  unfold lineT
  have h1 := dT_pos b
  have h2 := riseT_pos a
  split
  · exact h1
  · split
    · exact h2
    · rw [len_app, len_app]
      omega
theorem starts_dash {t : Str} {c : Nat} {r : List Nat} (h : tl t = c :: r) : Txt.startswith t ("-" : Str) = decide (c = 45) := by
  unfold Txt.startswith
  have hl : 1 ≤ t.length := by rw [TL.len_tl, h]; simp
  have e1 : ("-" : Str).length = 1 := by decide
  rw [e1, decide_eq_true (show 0 + 1 ≤ t.length by omega), Bool.true_and]
  unfold Builtin.Str.subAt
  have e2 : (t.cps.extract 0 (0 + ("-" : Str).length)).toList = [c] := by
    rw [Array.toList_extract, e1]
    have : t.cps.toList = c :: r := h
    rw [this]
    rfl
  have e3 : (("-" : Str).cps).toList = [45] := by decide
  by_cases hc : c = 45
  · rw [decide_eq_true hc, beq_iff_eq]
    apply Array.toList_inj.mp
    rw [e2, e3, hc]
  · rw [decide_eq_false hc, beq_eq_false_iff_ne]
    intro e
    have := congrArg Array.toList e
    rw [e2, e3] at this
    exact hc (List.cons.inj this).1
theorem szb {a b : Str} (ha : a.length ≤ 2100) (hb : b.length = 1) : a.length + b.length ≤ sizeLine := sz1 (by omega)
theorem szb2 {a b : Str} {k : Nat} (ha : a.length ≤ 2200) (hb : b.length ≤ k) (hk : k ≤ 100 := by decide) : a.length + b.length ≤ sizeLine := sz1 (by omega)
theorem szb3 {a b : Str} (ha : a.length ≤ 2300) (hb : b.length = 1) : a.length + b.length ≤ sizeLine := sz1 (by omega)
theorem szb4 {a b : Str} (ha : a.length ≤ 2400) (hb : b.length ≤ 8) : a.length + b.length ≤ sizeLine := sz1 (by omega)
theorem szb5 {a b : Str} (ha : a.length ≤ 2500) (hb : b.length ≤ 200) : a.length + b.length ≤ sizeLine := sz1 (by omega)

section
variable {P : Program} {w : World} {K : PySem.W.Frag} {mg : Str → Option Value} {base : Heap} {C : Nat → Addr} {CP CL : Addr} {ts tw : Addr}
theorem scCl : FnScope ["_law_spec_here", "_law_kind", "_law_function", "_law_places"] ["_law_spec_here"] (defScope sClause) := ⟨rfl, rfl, rfl, by decide +kernel, rfl, by decide +kernel, by decide +kernel⟩
theorem ok_clause {f : Addr} {fd : FuncData} (F : Fun K "_law_clause" "_law_clause" sClause f fd) (PM : PMk' P w K mg base CP) (M0 : CMk P w K mg base C 0 ["self", "function", "places"]) (M1 : CMk P w K mg base C 1 ["self", "function", "places"]) (M2 : CMk P w K mg base C 2 ["self", "function", "places", "other"]) (M3 : CMk P w K mg base C 3 ["self", "function", "places", "way"]) (M4 : CMk P w K mg base C 4 ["self", "function", "places", "sign", "slope", "height"]) (M5 : CMk P w K mg base C 5 ["self", "function", "places", "sign", "other", "slope", "height"]) (M6 : CMk P w K mg base C 6 ["self", "function", "places", "sign", "height"]) : FnOk P w K mg base CX0 6 f fd ["_law_spec_here"] (spClause CP C) := by
  refine F.ok scCl (fun vs H Q E h => ?_) (fun cdv A outer s0 H vs Q E hr h => ?_)
  · obtain ⟨t, i, f1, r, x, L, rfl, _⟩ := h
    rfl
  · obtain ⟨t, i, f1, r, x, L, rfl, ht, hi, hf, wf, hR, q⟩ := h
    have nd := scCl.nd
    refine ⟨_, pss_cons (ps_par3 (i := 1) (j := 2) (l := 3) rfl nd rfl rfl rfl (by decide) (by decide) (by decide) rfl rfl rfl (pa_cons (pe_ix ix_tup (pv 0) pe_int (fun _ _ => rfl)) (pa_cons (pe_ix ix_tup (pv 0) pe_int (fun _ _ => rfl)) (pa_cons (pe_mkP K rfl PM hr (by decide) (by rfl) (pa_cons (pe_ix ix_tup (pv 0) pe_int (fun _ _ => rfl)) pa_nil)) pa_nil))) rfl)
      (pss_cons (ps_if (pt_cmpR op_eq (pv 1) pe_str (nomark _)) (pss_one (ps_ret (pe_mkC M0 rfl hr (by decide) (by rfl) (pa_cons (pv 2) (pa_cons (pv 3) pa_nil))))) pss_nil)
      (pss_cons (ps_if (pt_cmpR op_eq (pv 1) pe_str (nomark _)) (pss_one (ps_ret (pe_mkC M1 rfl hr (by decide) (by rfl) (pa_cons (pv 2) (pa_cons (pv 3) pa_nil))))) pss_nil)
      (pss_cons (ps_if (pt_cmpR op_eq (pv 1) pe_str (nomark _)) (pss_one (ps_ret (pe_mkC M2 rfl hr (by decide) (by rfl) (pa_cons (pv 2) (pa_cons (pv 3) (pa_cons (pe_ix ix_tup (pv 0) pe_int (fun _ _ => rfl)) pa_nil)))))) pss_nil)
      (pss_cons (ps_if (pt_cmpR op_eq (pv 1) pe_str (nomark _)) (pss_one (ps_ret (pe_mkC M3 rfl hr (by decide) (by rfl) (pa_cons (pv 2) (pa_cons (pv 3) (pa_cons (pe_ix ix_tup (pv 0) pe_int (fun _ _ => rfl)) pa_nil)))))) pss_nil)
      (pss_cons (ps_if (pt_cmpR op_eq (pv 1) pe_str (nomark _)) (pss_one (ps_ret (pe_mkC M4 rfl hr (by decide) (by rfl) (pa_cons (pv 2) (pa_cons (pv 3) (pa_cons (pe_ix ix_tup (pv 0) pe_int (fun _ _ => rfl)) (pa_cons (pe_ix ix_tup (pv 0) pe_int (fun _ _ => rfl)) (pa_cons (pe_ix ix_tup (pv 0) pe_int (fun _ _ => rfl)) pa_nil)))))))) pss_nil)
      (pss_cons (ps_if (pt_cmpR op_eq (pv 1) pe_str (nomark _)) (pss_one (ps_ret (pe_mkC M5 rfl hr (by decide) (by rfl) (pa_cons (pv 2) (pa_cons (pv 3) (pa_cons (pe_ix ix_tup (pv 0) pe_int (fun _ _ => rfl)) (pa_cons (pe_ix ix_tup (pv 0) pe_int (fun _ _ => rfl)) (pa_cons (pe_ix ix_tup (pv 0) pe_int (fun _ _ => rfl)) (pa_cons (pe_ix ix_tup (pv 0) pe_int (fun _ _ => rfl)) pa_nil))))))))) pss_nil)
      (pss_one (ps_ret (pe_mkC M6 rfl hr (by decide) (by rfl) (pa_cons (pv 2) (pa_cons (pv 3) (pa_cons (pe_ix ix_tup (pv 0) pe_int (fun _ _ => rfl)) (pa_cons (pe_ix ix_tup (pv 0) pe_int (fun _ _ => rfl)) pa_nil))))))))))))), ?_⟩
    have fin : ∀ (z dx pl : Addr) (H1 H2 : Hp), IsP CP H1 pl (rws L) → H2 z = some (.ins (C i) dx (cFl i f1 pl x)) → Same H H1 → Same H1 H2 → Q (.ref z) H2 := fun z dx pl H1 H2 hp hz s1 s2 =>
      q z H2 ⟨⟨dx, pl, hz, hp.same s2⟩, hi, hf, wf, hR.ok, by rw [rws_len]; exact hR.few⟩ (s1.trans s2)
    refine ⟨_, rfl, t, _, _, _, rfl, rfl, .inl (.inl ht), atI_nat (j := 0) rfl, _, rfl, t, _, _, _, rfl, rfl, .inl (.inl ht), atI_nat (j := 1) rfl, _, rfl, t, _, _, _, rfl, rfl, .inl (.inl ht), atI_nat (j := 2) rfl, ?_⟩
    refine ⟨r, L, rfl, .inl (.inl (.inl hR.at_)), by have := hR.few; omega, hR.rw_.pairs, hR.ok, fun pl l1 H1 npl hp hm _ S1 => ⟨_, _, _, rfl, ?_⟩⟩
    obtain rfl : l1 = rws L := Nf.unique hp.nf hR.nf hm
    have ht1 := S1 _ _ ht
    rcases kinds7 hi with e | e | e | e | e | e | e <;> subst e
    · have wf0 := wf
      cases (show x = [] from wf0)
      refine ⟨_, rfl, rfl, _, rfl, ite2 (fun _ => ?_) (fun z => absurd (decide_eq_true rfl) z)⟩
      exact ⟨_, rfl, _, rfl, f1, pl, _, rfl, hf, wf, fun z dx H2 _ hz S2 => fin z dx pl H1 H2 hp hz S1 S2⟩
    · have wf0 := wf
      cases (show x = [] from wf0)
      refine ⟨_, rfl, rfl, _, rfl, ite2 (fun z => absurd (of_decide_eq_true z) (by decide +kernel)) (fun _ => ?_)⟩
      refine ⟨_, rfl, rfl, _, rfl, ite2 (fun _ => ?_) (fun z => absurd (decide_eq_true rfl) z)⟩
      exact ⟨_, rfl, _, rfl, f1, pl, _, rfl, hf, wf, fun z dx H2 _ hz S2 => fin z dx pl H1 H2 hp hz S1 S2⟩
    · have wf0 := wf
      obtain ⟨g, rfl, hg, ng⟩ := wf0
      refine ⟨_, rfl, rfl, _, rfl, ite2 (fun z => absurd (of_decide_eq_true z) (by decide +kernel)) (fun _ => ?_)⟩
      refine ⟨_, rfl, rfl, _, rfl, ite2 (fun z => absurd (of_decide_eq_true z) (by decide +kernel)) (fun _ => ?_)⟩
      refine ⟨_, rfl, rfl, _, rfl, ite2 (fun _ => ?_) (fun z => absurd (decide_eq_true rfl) z)⟩
      exact ⟨_, rfl, _, rfl, _, rfl, t, _, _, _, rfl, rfl, .inl (.inl ht1), atI_nat (j := 3) rfl, f1, pl, _, rfl, hf, wf, fun z dx H2 _ hz S2 => fin z dx pl H1 H2 hp hz S1 S2⟩
    · have wf0 := wf
      obtain ⟨w, rfl, hs⟩ := wf0
      refine ⟨_, rfl, rfl, _, rfl, ite2 (fun z => absurd (of_decide_eq_true z) (by decide +kernel)) (fun _ => ?_)⟩
      refine ⟨_, rfl, rfl, _, rfl, ite2 (fun z => absurd (of_decide_eq_true z) (by decide +kernel)) (fun _ => ?_)⟩
      refine ⟨_, rfl, rfl, _, rfl, ite2 (fun z => absurd (of_decide_eq_true z) (by decide +kernel)) (fun _ => ?_)⟩
      refine ⟨_, rfl, rfl, _, rfl, ite2 (fun _ => ?_) (fun z => absurd (decide_eq_true rfl) z)⟩
      exact ⟨_, rfl, _, rfl, _, rfl, t, _, _, _, rfl, rfl, .inl (.inl ht1), atI_nat (j := 3) rfl, f1, pl, _, rfl, hf, wf, fun z dx H2 _ hz S2 => fin z dx pl H1 H2 hp hz S1 S2⟩
    · have wf0 := wf
      obtain ⟨s, a, b, rfl, hs, na, nb⟩ := wf0
      refine ⟨_, rfl, rfl, _, rfl, ite2 (fun z => absurd (of_decide_eq_true z) (by decide +kernel)) (fun _ => ?_)⟩
      refine ⟨_, rfl, rfl, _, rfl, ite2 (fun z => absurd (of_decide_eq_true z) (by decide +kernel)) (fun _ => ?_)⟩
      refine ⟨_, rfl, rfl, _, rfl, ite2 (fun z => absurd (of_decide_eq_true z) (by decide +kernel)) (fun _ => ?_)⟩
      refine ⟨_, rfl, rfl, _, rfl, ite2 (fun z => absurd (of_decide_eq_true z) (by decide +kernel)) (fun _ => ?_)⟩
      refine ⟨_, rfl, rfl, _, rfl, ite2 (fun _ => ?_) (fun z => absurd (decide_eq_true rfl) z)⟩
      exact ⟨_, rfl, _, rfl, _, rfl, t, _, _, _, rfl, rfl, .inl (.inl ht1), atI_nat (j := 3) rfl, _, rfl, t, _, _, _, rfl, rfl, .inl (.inl ht1), atI_nat (j := 4) rfl, _, rfl, t, _, _, _, rfl, rfl, .inl (.inl ht1), atI_nat (j := 5) rfl, f1, pl, _, rfl, hf, wf, fun z dx H2 _ hz S2 => fin z dx pl H1 H2 hp hz S1 S2⟩
    · have wf0 := wf
      obtain ⟨s, g, a, b, rfl, hs, hg, ng, na, nb⟩ := wf0
      refine ⟨_, rfl, rfl, _, rfl, ite2 (fun z => absurd (of_decide_eq_true z) (by decide +kernel)) (fun _ => ?_)⟩
      refine ⟨_, rfl, rfl, _, rfl, ite2 (fun z => absurd (of_decide_eq_true z) (by decide +kernel)) (fun _ => ?_)⟩
      refine ⟨_, rfl, rfl, _, rfl, ite2 (fun z => absurd (of_decide_eq_true z) (by decide +kernel)) (fun _ => ?_)⟩
      refine ⟨_, rfl, rfl, _, rfl, ite2 (fun z => absurd (of_decide_eq_true z) (by decide +kernel)) (fun _ => ?_)⟩
      refine ⟨_, rfl, rfl, _, rfl, ite2 (fun z => absurd (of_decide_eq_true z) (by decide +kernel)) (fun _ => ?_)⟩
      refine ⟨_, rfl, rfl, _, rfl, ite2 (fun _ => ?_) (fun z => absurd (decide_eq_true rfl) z)⟩
      exact ⟨_, rfl, _, rfl, _, rfl, t, _, _, _, rfl, rfl, .inl (.inl ht1), atI_nat (j := 3) rfl, _, rfl, t, _, _, _, rfl, rfl, .inl (.inl ht1), atI_nat (j := 4) rfl, _, rfl, t, _, _, _, rfl, rfl, .inl (.inl ht1), atI_nat (j := 5) rfl, _, rfl, t, _, _, _, rfl, rfl, .inl (.inl ht1), atI_nat (j := 6) rfl, f1, pl, _, rfl, hf, wf, fun z dx H2 _ hz S2 => fin z dx pl H1 H2 hp hz S1 S2⟩
    · have wf0 := wf
      obtain ⟨s, b, rfl, hs, nb⟩ := wf0
      refine ⟨_, rfl, rfl, _, rfl, ite2 (fun z => absurd (of_decide_eq_true z) (by decide +kernel)) (fun _ => ?_)⟩
      refine ⟨_, rfl, rfl, _, rfl, ite2 (fun z => absurd (of_decide_eq_true z) (by decide +kernel)) (fun _ => ?_)⟩
      refine ⟨_, rfl, rfl, _, rfl, ite2 (fun z => absurd (of_decide_eq_true z) (by decide +kernel)) (fun _ => ?_)⟩
      refine ⟨_, rfl, rfl, _, rfl, ite2 (fun z => absurd (of_decide_eq_true z) (by decide +kernel)) (fun _ => ?_)⟩
      refine ⟨_, rfl, rfl, _, rfl, ite2 (fun z => absurd (of_decide_eq_true z) (by decide +kernel)) (fun _ => ?_)⟩
      refine ⟨_, rfl, rfl, _, rfl, ite2 (fun z => absurd (of_decide_eq_true z) (by decide +kernel)) (fun _ => ?_)⟩
      exact ⟨_, rfl, _, rfl, _, rfl, t, _, _, _, rfl, rfl, .inl (.inl ht1), atI_nat (j := 3) rfl, _, rfl, t, _, _, _, rfl, rfl, .inl (.inl ht1), atI_nat (j := 4) rfl, f1, pl, _, rfl, hf, wf, fun z dx H2 _ hz S2 => fin z dx pl H1 H2 hp hz S1 S2⟩
theorem scPa : FnScope ["_law_clause_here", "_law_kind", "_law_start"] ["_law_clause_here"] (defScope sParts) := ⟨rfl, rfl, rfl, by decide +kernel, rfl, by decide +kernel, by decide +kernel⟩
theorem ok_parts {f : Addr} {fd : FuncData} (F : Fun K "_law_parts" "_law_parts" sParts f fd) (B : Bd mg) (T : CTxt K mg C) (PT : PTxt K mg CP) : FnOk P w K mg base CX0 1 f fd ["_law_clause_here"] (spParts CP C) := by
  refine F.ok scPa (fun vs H Q E h => ?_) (fun cdv A outer s0 H vs Q E hr h => ?_)
  · obtain ⟨z, i, f1, l, x, rfl, _⟩ := h
    rfl
  · obtain ⟨z, i, f1, l, x, rfl, hA, q⟩ := h
    have nd := scPa.nd
    refine ⟨_, pss_cons (ps_par (i := 1) (j := 2) rfl nd rfl rfl (by decide) rfl rfl (pa_cons (pe_fld (pv 0) rfl) (pa_cons (pe_tup (pa_cons (pe_fld (pv 0) rfl) (pa_cons (pe_fld (pv 0) rfl) (pa_cons (pe_callTy call_list_of (by rfl) B.list bt_list (pa_cons (pe_fld (pe_fld (pv 0) rfl) rfl) pa_nil)) pa_nil)))) pa_nil)) rfl)
      (pss_cons (ps_if (pt_cmpR op_eq (pv 1) pe_str (nomark _)) (pss_one (ps_ret (pe_op op_catT (pv 2) (pe_tup (pa_cons (pe_fld (pv 0) rfl) pa_nil))))) pss_nil)
      (pss_cons (ps_if (pt_cmpR op_eq (pv 1) pe_str (nomark _)) (pss_one (ps_ret (pe_op op_catT (pv 2) (pe_tup (pa_cons (pe_fld (pv 0) rfl) pa_nil))))) pss_nil)
      (pss_cons (ps_if (pt_cmpR op_eq (pv 1) pe_str (nomark _)) (pss_one (ps_ret (pe_op op_catT (pv 2) (pe_tup (pa_cons (pe_fld (pv 0) rfl) (pa_cons (pe_fld (pv 0) rfl) (pa_cons (pe_fld (pv 0) rfl) pa_nil))))))) pss_nil)
      (pss_cons (ps_if (pt_cmpR op_eq (pv 1) pe_str (nomark _)) (pss_one (ps_ret (pe_op op_catT (pv 2) (pe_tup (pa_cons (pe_fld (pv 0) rfl) (pa_cons (pe_fld (pv 0) rfl) (pa_cons (pe_fld (pv 0) rfl) (pa_cons (pe_fld (pv 0) rfl) pa_nil)))))))) pss_nil)
      (pss_one (ps_ret (pe_ifExp (pt_cmpR op_eq (pv 1) pe_str (nomark _)) (pe_op op_catT (pv 2) (pe_tup (pa_cons (pe_fld (pv 0) rfl) (pa_cons (pe_fld (pv 0) rfl) pa_nil)))) (pv 2)))))))), ?_⟩
    obtain ⟨⟨dx, pl, hz, hp⟩, hi, hw, wf, ok, hl⟩ := hA
    obtain ⟨_, dp, t6, f6, b6, M6, hp6, ht6, hM6, e6, _⟩ := id hp
    refine ⟨_, rfl, fld T hz hi (j := 0) rfl rfl ⟨_, rfl, fld T hz hi (j := 0) rfl rfl ⟨_, rfl, fld T hz hi (j := 1) rfl rfl ⟨_, rfl, fld T hz hi (j := 2) rfl rfl ⟨pl, CP, dp, _, _, rfl, hp6, PT.cl, PT.nS, pFl_s _ _ _, t6, refs M6, rfl, .inr (.inl (.inl ht6)), fun r nr => ⟨by show 3 ≤ sizeLine; decide, fun t nt => ⟨_, _, rfl, ?_⟩⟩⟩⟩⟩⟩⟩
    have s1 := same_lay (o := .lst (refs M6)) nr
    have st := same_lay (o := .tup [.str (kName i), .str f1, .ref r]) nt
    have S2 := s1.trans st
    have hr2 : (upd (upd H r (.lst (refs M6))) t (.tup [.str (kName i), .str f1, .ref r])) r = some (.lst (refs M6)) := st _ _ upd_same
    have ht2 : (upd (upd H r (.lst (refs M6))) t (.tup [.str (kName i), .str f1, .ref r])) t = some (.tup [.str (kName i), .str f1, .ref r]) := upd_same
    generalize upd (upd H r (.lst (refs M6))) t (.tup [.str (kName i), .str f1, .ref r]) = H2 at S2 hr2 ht2
    have hz2 := S2 _ _ hz
    have hM2 := hM6.same S2
    rcases kinds7 hi with e | e | e | e | e | e | e <;> subst e
    · cases (show x = [] from wf)
      refine ⟨_, rfl, rfl, _, rfl, ite2 (fun z => absurd (of_decide_eq_true z) (by decide +kernel)) (fun _ => ?_)⟩
      refine ⟨_, rfl, rfl, _, rfl, ite2 (fun z => absurd (of_decide_eq_true z) (by decide +kernel)) (fun _ => ?_)⟩
      refine ⟨_, rfl, rfl, _, rfl, ite2 (fun z => absurd (of_decide_eq_true z) (by decide +kernel)) (fun _ => ?_)⟩
      refine ⟨_, rfl, rfl, _, rfl, ite2 (fun z => absurd (of_decide_eq_true z) (by decide +kernel)) (fun _ => ?_)⟩
      refine ⟨_, rfl, rfl, _, rfl, ite2 (fun z => absurd (of_decide_eq_true z) (by decide +kernel)) (fun _ => ?_)⟩
      exact ⟨_, rfl, q t r M6 H2 ht2 hr2 hM2 e6 S2⟩
    · cases (show x = [] from wf)
      refine ⟨_, rfl, rfl, _, rfl, ite2 (fun z => absurd (of_decide_eq_true z) (by decide +kernel)) (fun _ => ?_)⟩
      refine ⟨_, rfl, rfl, _, rfl, ite2 (fun z => absurd (of_decide_eq_true z) (by decide +kernel)) (fun _ => ?_)⟩
      refine ⟨_, rfl, rfl, _, rfl, ite2 (fun z => absurd (of_decide_eq_true z) (by decide +kernel)) (fun _ => ?_)⟩
      refine ⟨_, rfl, rfl, _, rfl, ite2 (fun z => absurd (of_decide_eq_true z) (by decide +kernel)) (fun _ => ?_)⟩
      refine ⟨_, rfl, rfl, _, rfl, ite2 (fun z => absurd (of_decide_eq_true z) (by decide +kernel)) (fun _ => ?_)⟩
      exact ⟨_, rfl, q t r M6 H2 ht2 hr2 hM2 e6 S2⟩
    · obtain ⟨g, rfl, hg, ng⟩ := wf
      refine ⟨_, rfl, rfl, _, rfl, ite2 (fun _ => ?_) (fun z => absurd (decide_eq_true rfl) z)⟩
      refine ⟨_, rfl, _, rfl, fld T hz2 hi (j := 3) rfl rfl ⟨by show 1 ≤ sizeLine; decide, fun u nu => ⟨t, u, _, _, rfl, rfl, .inl (.inl (same_lay nu _ _ ht2)), .inl (.inl upd_same), by simp, by show 3 + 1 ≤ sizeLine; decide, (fun z => nomatch z), fun _ t2 nt2 => ?_⟩⟩⟩
      have su := (same_lay (o := .tup [.str g]) nu).trans (same_lay (o := .tup ([.str (kName 2), .str f1, .ref r] ++ [.str g])) nt2)
      exact q t2 r M6 _ upd_same (su _ _ hr2) (hM2.same su) e6 (S2.trans su)
    · obtain ⟨w, rfl, hs⟩ := wf
      refine ⟨_, rfl, rfl, _, rfl, ite2 (fun z => absurd (of_decide_eq_true z) (by decide +kernel)) (fun _ => ?_)⟩
      refine ⟨_, rfl, rfl, _, rfl, ite2 (fun _ => ?_) (fun z => absurd (decide_eq_true rfl) z)⟩
      refine ⟨_, rfl, _, rfl, fld T hz2 hi (j := 3) rfl rfl ⟨by show 1 ≤ sizeLine; decide, fun u nu => ⟨t, u, _, _, rfl, rfl, .inl (.inl (same_lay nu _ _ ht2)), .inl (.inl upd_same), by simp, by show 3 + 1 ≤ sizeLine; decide, (fun z => nomatch z), fun _ t2 nt2 => ?_⟩⟩⟩
      have su := (same_lay (o := .tup [.str w]) nu).trans (same_lay (o := .tup ([.str (kName 3), .str f1, .ref r] ++ [.str w])) nt2)
      exact q t2 r M6 _ upd_same (su _ _ hr2) (hM2.same su) e6 (S2.trans su)
    · obtain ⟨s, a, b, rfl, hs, na, nb⟩ := wf
      refine ⟨_, rfl, rfl, _, rfl, ite2 (fun z => absurd (of_decide_eq_true z) (by decide +kernel)) (fun _ => ?_)⟩
      refine ⟨_, rfl, rfl, _, rfl, ite2 (fun z => absurd (of_decide_eq_true z) (by decide +kernel)) (fun _ => ?_)⟩
      refine ⟨_, rfl, rfl, _, rfl, ite2 (fun _ => ?_) (fun z => absurd (decide_eq_true rfl) z)⟩
      refine ⟨_, rfl, _, rfl, fld T hz2 hi (j := 3) rfl rfl ⟨_, rfl, fld T hz2 hi (j := 4) rfl rfl ⟨_, rfl, fld T hz2 hi (j := 5) rfl rfl ⟨by show 3 ≤ sizeLine; decide, fun u nu => ⟨t, u, _, _, rfl, rfl, .inl (.inl (same_lay nu _ _ ht2)), .inl (.inl upd_same), by simp, by show 3 + 3 ≤ sizeLine; decide, (fun z => nomatch z), fun _ t2 nt2 => ?_⟩⟩⟩⟩⟩
      have su := (same_lay (o := .tup [.str s, .int a, .int b]) nu).trans (same_lay (o := .tup ([.str (kName 4), .str f1, .ref r] ++ [.str s, .int a, .int b])) nt2)
      exact q t2 r M6 _ upd_same (su _ _ hr2) (hM2.same su) e6 (S2.trans su)
    · obtain ⟨s, g, a, b, rfl, hs, hg, ng, na, nb⟩ := wf
      refine ⟨_, rfl, rfl, _, rfl, ite2 (fun z => absurd (of_decide_eq_true z) (by decide +kernel)) (fun _ => ?_)⟩
      refine ⟨_, rfl, rfl, _, rfl, ite2 (fun z => absurd (of_decide_eq_true z) (by decide +kernel)) (fun _ => ?_)⟩
      refine ⟨_, rfl, rfl, _, rfl, ite2 (fun z => absurd (of_decide_eq_true z) (by decide +kernel)) (fun _ => ?_)⟩
      refine ⟨_, rfl, rfl, _, rfl, ite2 (fun _ => ?_) (fun z => absurd (decide_eq_true rfl) z)⟩
      refine ⟨_, rfl, _, rfl, fld T hz2 hi (j := 3) rfl rfl ⟨_, rfl, fld T hz2 hi (j := 4) rfl rfl ⟨_, rfl, fld T hz2 hi (j := 5) rfl rfl ⟨_, rfl, fld T hz2 hi (j := 6) rfl rfl ⟨by show 4 ≤ sizeLine; decide, fun u nu => ⟨t, u, _, _, rfl, rfl, .inl (.inl (same_lay nu _ _ ht2)), .inl (.inl upd_same), by simp, by show 3 + 4 ≤ sizeLine; decide, (fun z => nomatch z), fun _ t2 nt2 => ?_⟩⟩⟩⟩⟩⟩
      have su := (same_lay (o := .tup [.str s, .str g, .int a, .int b]) nu).trans (same_lay (o := .tup ([.str (kName 5), .str f1, .ref r] ++ [.str s, .str g, .int a, .int b])) nt2)
      exact q t2 r M6 _ upd_same (su _ _ hr2) (hM2.same su) e6 (S2.trans su)
    · obtain ⟨s, b, rfl, hs, nb⟩ := wf
      refine ⟨_, rfl, rfl, _, rfl, ite2 (fun z => absurd (of_decide_eq_true z) (by decide +kernel)) (fun _ => ?_)⟩
      refine ⟨_, rfl, rfl, _, rfl, ite2 (fun z => absurd (of_decide_eq_true z) (by decide +kernel)) (fun _ => ?_)⟩
      refine ⟨_, rfl, rfl, _, rfl, ite2 (fun z => absurd (of_decide_eq_true z) (by decide +kernel)) (fun _ => ?_)⟩
      refine ⟨_, rfl, rfl, _, rfl, ite2 (fun z => absurd (of_decide_eq_true z) (by decide +kernel)) (fun _ => ?_)⟩
      refine ⟨_, rfl, rfl, _, rfl, ite2 (fun _ => ?_) (fun z => absurd (decide_eq_true rfl) z)⟩
      refine ⟨_, rfl, _, rfl, fld T hz2 hi (j := 3) rfl rfl ⟨_, rfl, fld T hz2 hi (j := 4) rfl rfl ⟨by show 2 ≤ sizeLine; decide, fun u nu => ⟨t, u, _, _, rfl, rfl, .inl (.inl (same_lay nu _ _ ht2)), .inl (.inl upd_same), by simp, by show 3 + 2 ≤ sizeLine; decide, (fun z => nomatch z), fun _ t2 nt2 => ?_⟩⟩⟩⟩
      have su := (same_lay (o := .tup [.str s, .int b]) nu).trans (same_lay (o := .tup ([.str (kName 6), .str f1, .ref r] ++ [.str s, .int b])) nt2)
      exact q t2 r M6 _ upd_same (su _ _ hr2) (hM2.same su) e6 (S2.trans su)
theorem scFu : FnScope ["_law_spec_here"] ["_law_spec_here"] (defScope sFuncs) := ⟨rfl, rfl, rfl, by decide +kernel, rfl, by decide +kernel, by decide +kernel⟩
theorem ok_funcs {f : Addr} {fd : FuncData} (F : Fun K "_law_functions" "_law_functions" sFuncs f fd) : FnOk P w K mg base CX0 1 f fd ["_law_spec_here"] spFuncs := by
  refine F.ok scFu (fun vs H Q E h => ?_) (fun cdv A outer s0 H vs Q E hr h => ?_)
  · obtain ⟨t, i, f1, r, x, rfl, _⟩ := h
    rfl
  · obtain ⟨t, i, f1, r, x, rfl, ht, hi, wf, q⟩ := h
    refine ⟨_, pss_cons (ps_if (pt_cmpR op_eq (pe_ix ix_tup (pv 0) pe_int (fun _ _ => rfl)) pe_str (nomark _)) (pss_one (ps_ret (pe_tup (pa_cons (pe_ix ix_tup (pv 0) pe_int (fun _ _ => rfl)) (pa_cons (pe_ix ix_tup (pv 0) pe_int (fun _ _ => rfl)) pa_nil))))) pss_nil)
      (pss_one (ps_ret (pe_ifExp (pt_cmpR op_eq (pe_ix ix_tup (pv 0) pe_int (fun _ _ => rfl)) pe_str (nomark _)) (pe_tup (pa_cons (pe_ix ix_tup (pv 0) pe_int (fun _ _ => rfl)) (pa_cons (pe_ix ix_tup (pv 0) pe_int (fun _ _ => rfl)) pa_nil))) (pe_tup (pa_cons (pe_ix ix_tup (pv 0) pe_int (fun _ _ => rfl)) pa_nil))))), ?_⟩
    rcases kinds7 hi with e | e | e | e | e | e | e <;> subst e
    · cases (show x = [] from wf)
      refine ⟨_, rfl, t, _, _, _, rfl, rfl, .inl (.inl ht), atI_nat (j := 0) rfl, rfl, _, rfl, ite2 (fun z => absurd (of_decide_eq_true z) (by decide +kernel)) (fun _ => ?_)⟩
      refine ⟨_, rfl, t, _, _, _, rfl, rfl, .inl (.inl ht), atI_nat (j := 0) rfl, rfl, _, rfl, ite2 (fun z => absurd (of_decide_eq_true z) (by decide +kernel)) (fun _ => ?_)⟩
      exact ⟨_, rfl, t, _, _, _, rfl, rfl, .inl (.inl ht), atI_nat (j := 1) rfl, by show 1 ≤ sizeLine; decide, fun u nu => q u nu⟩
    · cases (show x = [] from wf)
      refine ⟨_, rfl, t, _, _, _, rfl, rfl, .inl (.inl ht), atI_nat (j := 0) rfl, rfl, _, rfl, ite2 (fun z => absurd (of_decide_eq_true z) (by decide +kernel)) (fun _ => ?_)⟩
      refine ⟨_, rfl, t, _, _, _, rfl, rfl, .inl (.inl ht), atI_nat (j := 0) rfl, rfl, _, rfl, ite2 (fun z => absurd (of_decide_eq_true z) (by decide +kernel)) (fun _ => ?_)⟩
      exact ⟨_, rfl, t, _, _, _, rfl, rfl, .inl (.inl ht), atI_nat (j := 1) rfl, by show 1 ≤ sizeLine; decide, fun u nu => q u nu⟩
    · obtain ⟨g, rfl, hg, ng⟩ := wf
      refine ⟨_, rfl, t, _, _, _, rfl, rfl, .inl (.inl ht), atI_nat (j := 0) rfl, rfl, _, rfl, ite2 (fun _ => ?_) (fun z => absurd (decide_eq_true rfl) z)⟩
      exact ⟨_, rfl, t, _, _, _, rfl, rfl, .inl (.inl ht), atI_nat (j := 1) rfl, _, rfl, t, _, _, _, rfl, rfl, .inl (.inl ht), atI_nat (j := 3) rfl, by show 2 ≤ sizeLine; decide, fun u nu => q u nu⟩
    · obtain ⟨w, rfl, hs⟩ := wf
      refine ⟨_, rfl, t, _, _, _, rfl, rfl, .inl (.inl ht), atI_nat (j := 0) rfl, rfl, _, rfl, ite2 (fun z => absurd (of_decide_eq_true z) (by decide +kernel)) (fun _ => ?_)⟩
      refine ⟨_, rfl, t, _, _, _, rfl, rfl, .inl (.inl ht), atI_nat (j := 0) rfl, rfl, _, rfl, ite2 (fun z => absurd (of_decide_eq_true z) (by decide +kernel)) (fun _ => ?_)⟩
      exact ⟨_, rfl, t, _, _, _, rfl, rfl, .inl (.inl ht), atI_nat (j := 1) rfl, by show 1 ≤ sizeLine; decide, fun u nu => q u nu⟩
    · obtain ⟨s, a, b, rfl, hs, na, nb⟩ := wf
      refine ⟨_, rfl, t, _, _, _, rfl, rfl, .inl (.inl ht), atI_nat (j := 0) rfl, rfl, _, rfl, ite2 (fun z => absurd (of_decide_eq_true z) (by decide +kernel)) (fun _ => ?_)⟩
      refine ⟨_, rfl, t, _, _, _, rfl, rfl, .inl (.inl ht), atI_nat (j := 0) rfl, rfl, _, rfl, ite2 (fun z => absurd (of_decide_eq_true z) (by decide +kernel)) (fun _ => ?_)⟩
      exact ⟨_, rfl, t, _, _, _, rfl, rfl, .inl (.inl ht), atI_nat (j := 1) rfl, by show 1 ≤ sizeLine; decide, fun u nu => q u nu⟩
    · obtain ⟨s, g, a, b, rfl, hs, hg, ng, na, nb⟩ := wf
      refine ⟨_, rfl, t, _, _, _, rfl, rfl, .inl (.inl ht), atI_nat (j := 0) rfl, rfl, _, rfl, ite2 (fun z => absurd (of_decide_eq_true z) (by decide +kernel)) (fun _ => ?_)⟩
      refine ⟨_, rfl, t, _, _, _, rfl, rfl, .inl (.inl ht), atI_nat (j := 0) rfl, rfl, _, rfl, ite2 (fun _ => ?_) (fun z => absurd (decide_eq_true rfl) z)⟩
      exact ⟨_, rfl, t, _, _, _, rfl, rfl, .inl (.inl ht), atI_nat (j := 1) rfl, _, rfl, t, _, _, _, rfl, rfl, .inl (.inl ht), atI_nat (j := 4) rfl, by show 2 ≤ sizeLine; decide, fun u nu => q u nu⟩
    · obtain ⟨s, b, rfl, hs, nb⟩ := wf
      refine ⟨_, rfl, t, _, _, _, rfl, rfl, .inl (.inl ht), atI_nat (j := 0) rfl, rfl, _, rfl, ite2 (fun z => absurd (of_decide_eq_true z) (by decide +kernel)) (fun _ => ?_)⟩
      refine ⟨_, rfl, t, _, _, _, rfl, rfl, .inl (.inl ht), atI_nat (j := 0) rfl, rfl, _, rfl, ite2 (fun z => absurd (of_decide_eq_true z) (by decide +kernel)) (fun _ => ?_)⟩
      exact ⟨_, rfl, t, _, _, _, rfl, rfl, .inl (.inl ht), atI_nat (j := 1) rfl, by show 1 ≤ sizeLine; decide, fun u nu => q u nu⟩
theorem scCT : FnScope ["_law_spec_here", "_law_start", "_law_line_here", "_law_behind"] ["_law_spec_here"] (defScope sCText) := ⟨rfl, rfl, rfl, by decide +kernel, rfl, by decide +kernel, by decide +kernel⟩
theorem ok_ct {f : Addr} {fd : FuncData} (F : Fun K "_law_clause_text" "_law_clause_text" sCText f fd) (zS : mg "str" = none) (TO : Cl P w K mg base 1 "_law_text_of" ["_law_rows"] (spTextOf K)) (LX : Cl P w K mg base 1 "_law_line_text" ["_law_line_here"] spLTx) : FnOk P w K mg base CX0 2 f fd ["_law_spec_here"] (spCT K) := by
  refine F.ok scCT (fun vs H Q E h => ?_) (fun cdv A outer s0 H vs Q E hr h => ?_)
  · obtain ⟨t, i, f1, r, x, L, rfl, _⟩ := h
    rfl
  · obtain ⟨t, i, f1, r, x, L, rfl, ht, hi, hw, wf, hR, q⟩ := h
    have nd := scCT.nd
    refine ⟨_, pss_cons (ps_set (i := 1) nd rfl (.inl rfl) (pe_op op_add_str (pe_op op_add_str (pe_op op_add_str (pe_op op_add_str (pe_ix ix_tup (pv 0) pe_int (fun _ _ => rfl)) pe_str) (pe_ix ix_tup (pv 0) pe_int (fun _ _ => rfl))) pe_str) (pe_cl TO hr (by decide) (by rfl) (pa_cons (pe_ix ix_tup (pv 0) pe_int (fun _ _ => rfl)) pa_nil))))
      (pss_cons (ps_if (pt_cmpR (op_in_seqK K rfl) (pe_ix ix_tup (pv 0) pe_int (fun _ _ => rfl)) (pe_tup (pa_cons pe_str (pa_cons pe_str pa_nil))) (by rfl)) (pss_one (ps_ret (pv 1))) pss_nil)
      (pss_cons (ps_if (pt_cmpR (op_in_seqK K rfl) (pe_ix ix_tup (pv 0) pe_int (fun _ _ => rfl)) (pe_tup (pa_cons pe_str (pa_cons pe_str pa_nil))) (by rfl)) (pss_one (ps_ret (pe_op op_add_str (pe_op op_add_str (pv 1) pe_str) (pe_ix ix_tup (pv 0) pe_int (fun _ _ => rfl))))) pss_nil)
      (pss_cons (ps_if (pt_cmpR op_eq (pe_ix ix_tup (pv 0) pe_int (fun _ _ => rfl)) pe_str (nomark _)) (pss_one (ps_ret (pe_op op_add_str (pe_op op_add_str (pe_op op_add_str (pe_op op_add_str (pv 1) pe_str) (pe_ix ix_tup (pv 0) pe_int (fun _ _ => rfl))) pe_str) (pe_cl LX hr (by decide) (by rfl) (pa_cons (pe_tup (pa_cons (pe_ix ix_tup (pv 0) pe_int (fun _ _ => rfl)) (pa_cons (pe_ix ix_tup (pv 0) pe_int (fun _ _ => rfl)) pa_nil))) pa_nil))))) pss_nil)
      (pss_cons (ps_if (pt_cmpR op_eq (pe_ix ix_tup (pv 0) pe_int (fun _ _ => rfl)) pe_str (nomark _)) (pss_one (ps_ret (pe_op op_add_str (pe_op op_add_str (pe_op op_add_str (pe_op op_add_str (pv 1) pe_str) (pe_ix ix_tup (pv 0) pe_int (fun _ _ => rfl))) pe_str) (pe_callTy call_str_int (by rfl) zS boot_strT (pa_cons (pe_ix ix_tup (pv 0) pe_int (fun _ _ => rfl)) pa_nil))))) pss_nil)
      (pss_cons (ps_set (i := 2) nd rfl (.inl rfl) (pe_cl LX hr (by decide) (by rfl) (pa_cons (pe_tup (pa_cons (pe_ix ix_tup (pv 0) pe_int (fun _ _ => rfl)) (pa_cons (pe_ix ix_tup (pv 0) pe_int (fun _ _ => rfl)) pa_nil))) pa_nil)))
      (pss_cons (ps_set (i := 3) nd rfl (.inl rfl) (pe_ifExp (pt_cmpR op_eq (pe_ix ix_str (pv 2) pe_int (fun _ _ => rfl)) pe_str (nomark _)) (pe_op op_add_str pe_str (pe_slice sl_str (pv 2) (po_some pe_int) po_none)) (pe_op op_add_str pe_str (pv 2))))
      (pss_one (ps_ret (pe_op op_add_str (pe_op op_add_str (pe_op op_add_str (pe_op op_add_str (pe_op op_add_str (pv 1) pe_str) (pe_ix ix_tup (pv 0) pe_int (fun _ _ => rfl))) pe_str) (pe_ix ix_tup (pv 0) pe_int (fun _ _ => rfl))) (pe_ifExp (pt_cmpR op_ne (pv 2) pe_str (nomark _)) (pv 3) pe_str)))))))))), ?_⟩
    have b1 := b1l
    have h1 := kName_len i
    have h2 := hw.len
    have h3 := textOf_len hR.ok (by rw [rws_len]; exact hR.few)
    have l1 : (kName i ++ (" " : Str)).length ≤ 20 := by rw [len_app, b1l]; omega
    have l2 : ((kName i ++ (" " : Str)) ++ f1).length ≤ 40 := by rw [len_app]; omega
    have l3 : (((kName i ++ (" " : Str)) ++ f1) ++ (" " : Str)).length ≤ 50 := by rw [len_app, b1l]; omega
    have lb := begT_len (i := i) hw hR.ok (by rw [rws_len]; exact hR.few)
    refine ⟨_, rfl, t, _, _, _, rfl, rfl, .inl (.inl ht), atI_nat (j := 0) rfl, _, _, rfl, rfl, sz1 (by omega), _, rfl, t, _, _, _, rfl, rfl, .inl (.inl ht), atI_nat (j := 1) rfl, _, _, rfl, rfl, sz1 (by omega), _, _, rfl, rfl, sz1 (by omega), _, rfl, t, _, _, _, rfl, rfl, .inl (.inl ht), atI_nat (j := 2) rfl, r, L, rfl, .inl (.inl hR.at_), hR.rw_, hR.ok, by have := hR.few; omega, fun H1 S1 => ⟨_, _, rfl, rfl, sz1 (by omega), ?_⟩⟩
    have ht1 := S1 _ _ ht
    have two : 2 ≤ sizeLine := by decide
    have l4 : (begT i f1 (rws L) ++ (" " : Str)).length ≤ 2200 := by rw [len_app, b1l]; omega
    rcases kinds7 hi with e | e | e | e | e | e | e <;> subst e
    · cases (show x = [] from wf)
      refine ⟨_, rfl, t, _, _, _, rfl, rfl, .inl (.inl ht1), atI_nat (j := 0) rfl, two, fun u1 nu1 => ?_⟩
      have su1 := same_lay (o := .tup [.str "answers", .str "refuses"]) nu1
      refine ⟨u1, _, rfl, .inr (.inl (.inl upd_same)), rfl, rfl, _, rfl, ?_⟩
      rw [show inV (.str (kName 0)) [.str "answers", .str "refuses"] = true from by decide +kernel]
      refine iteT ?_
      exact ⟨_, rfl, q _ (S1.trans su1)⟩
    · cases (show x = [] from wf)
      refine ⟨_, rfl, t, _, _, _, rfl, rfl, .inl (.inl ht1), atI_nat (j := 0) rfl, two, fun u1 nu1 => ?_⟩
      have su1 := same_lay (o := .tup [.str "answers", .str "refuses"]) nu1
      refine ⟨u1, _, rfl, .inr (.inl (.inl upd_same)), rfl, rfl, _, rfl, ?_⟩
      rw [show inV (.str (kName 1)) [.str "answers", .str "refuses"] = true from by decide +kernel]
      refine iteT ?_
      exact ⟨_, rfl, q _ (S1.trans su1)⟩
    · obtain ⟨g, rfl, hg, ng⟩ := wf
      refine ⟨_, rfl, t, _, _, _, rfl, rfl, .inl (.inl ht1), atI_nat (j := 0) rfl, two, fun u1 nu1 => ?_⟩
      have su1 := same_lay (o := .tup [.str "answers", .str "refuses"]) nu1
      refine ⟨u1, _, rfl, .inr (.inl (.inl upd_same)), rfl, rfl, _, rfl, ?_⟩
      rw [show inV (.str (kName 2)) [.str "answers", .str "refuses"] = false from by decide +kernel]
      refine iteF ?_
      have ht2 := su1 _ _ ht1
      refine ⟨_, rfl, t, _, _, _, rfl, rfl, .inl (.inl ht2), atI_nat (j := 0) rfl, two, fun u2 nu2 => ?_⟩
      have su2 := same_lay (o := .tup [.str "needs", .str "spreads"]) nu2
      refine ⟨u2, _, rfl, .inr (.inl (.inl upd_same)), rfl, rfl, _, rfl, ?_⟩
      rw [show inV (.str (kName 2)) [.str "needs", .str "spreads"] = true from by decide +kernel]
      refine iteT ?_
      have ht3 := su2 _ _ ht2
      have S3 := (S1.trans su1).trans su2
      have lv := hg.len
      have l5 : ((begT 2 f1 (rws L) ++ (" " : Str)) ++ g).length ≤ 2300 := by rw [len_app]; omega
      exact ⟨_, rfl, _, _, rfl, rfl, szb lb b1l, _, rfl, t, _, _, _, rfl, rfl, .inl (.inl ht3), atI_nat (j := 3) rfl, _, _, rfl, rfl, szb2 l4 lv, q _ S3⟩
    · obtain ⟨w, rfl, hs⟩ := wf
      refine ⟨_, rfl, t, _, _, _, rfl, rfl, .inl (.inl ht1), atI_nat (j := 0) rfl, two, fun u1 nu1 => ?_⟩
      have su1 := same_lay (o := .tup [.str "answers", .str "refuses"]) nu1
      refine ⟨u1, _, rfl, .inr (.inl (.inl upd_same)), rfl, rfl, _, rfl, ?_⟩
      rw [show inV (.str (kName 3)) [.str "answers", .str "refuses"] = false from by decide +kernel]
      refine iteF ?_
      have ht2 := su1 _ _ ht1
      refine ⟨_, rfl, t, _, _, _, rfl, rfl, .inl (.inl ht2), atI_nat (j := 0) rfl, two, fun u2 nu2 => ?_⟩
      have su2 := same_lay (o := .tup [.str "needs", .str "spreads"]) nu2
      refine ⟨u2, _, rfl, .inr (.inl (.inl upd_same)), rfl, rfl, _, rfl, ?_⟩
      rw [show inV (.str (kName 3)) [.str "needs", .str "spreads"] = true from by decide +kernel]
      refine iteT ?_
      have ht3 := su2 _ _ ht2
      have S3 := (S1.trans su1).trans su2
      have lv := way_len hs
      have l5 : ((begT 3 f1 (rws L) ++ (" " : Str)) ++ w).length ≤ 2300 := by rw [len_app]; omega
      exact ⟨_, rfl, _, _, rfl, rfl, szb lb b1l, _, rfl, t, _, _, _, rfl, rfl, .inl (.inl ht3), atI_nat (j := 3) rfl, _, _, rfl, rfl, szb2 l4 lv, q _ S3⟩
    · obtain ⟨s, a, b, rfl, hs, na, nb⟩ := wf
      refine ⟨_, rfl, t, _, _, _, rfl, rfl, .inl (.inl ht1), atI_nat (j := 0) rfl, two, fun u1 nu1 => ?_⟩
      have su1 := same_lay (o := .tup [.str "answers", .str "refuses"]) nu1
      refine ⟨u1, _, rfl, .inr (.inl (.inl upd_same)), rfl, rfl, _, rfl, ?_⟩
      rw [show inV (.str (kName 4)) [.str "answers", .str "refuses"] = false from by decide +kernel]
      refine iteF ?_
      have ht2 := su1 _ _ ht1
      refine ⟨_, rfl, t, _, _, _, rfl, rfl, .inl (.inl ht2), atI_nat (j := 0) rfl, two, fun u2 nu2 => ?_⟩
      have su2 := same_lay (o := .tup [.str "needs", .str "spreads"]) nu2
      refine ⟨u2, _, rfl, .inr (.inl (.inl upd_same)), rfl, rfl, _, rfl, ?_⟩
      rw [show inV (.str (kName 4)) [.str "needs", .str "spreads"] = false from by decide +kernel]
      refine iteF ?_
      have ht3 := su2 _ _ ht2
      have S3 := (S1.trans su1).trans su2
      have lv := sign_len hs
      have l5 : ((begT 4 f1 (rws L) ++ (" " : Str)) ++ s).length ≤ 2300 := by rw [len_app]; omega
      have l6 : (((begT 4 f1 (rws L) ++ (" " : Str)) ++ s) ++ (" " : Str)).length ≤ 2400 := by rw [len_app, b1l]; omega
      refine ⟨_, rfl, t, _, _, _, rfl, rfl, .inl (.inl ht3), atI_nat (j := 0) rfl, rfl, _, rfl, ite2 (fun _ => ?_) (fun z => absurd (decide_eq_true rfl) z)⟩
      have ll := lineT_len na nb
      refine ⟨_, rfl, _, _, rfl, rfl, szb lb b1l, _, rfl, t, _, _, _, rfl, rfl, .inl (.inl ht3), atI_nat (j := 3) rfl, _, _, rfl, rfl, szb2 l4 lv, _, _, rfl, rfl, szb3 l5 b1l, _, rfl, t, _, _, _, rfl, rfl, .inl (.inl ht3), atI_nat (j := 4) rfl, _, rfl, t, _, _, _, rfl, rfl, .inl (.inl ht3), atI_nat (j := 5) rfl, two, fun u3 nu3 => ?_⟩
      refine ⟨u3, a, b, rfl, upd_same, na, nb, _, _, rfl, rfl, sz1 ?_, q _ (S3.trans (same_lay nu3))⟩
      show ((((begT 4 f1 (rws L) ++ (" " : Str)) ++ s) ++ (" " : Str)).length) + (lineT a b).length ≤ 20000
      omega
    · obtain ⟨s, g, a, b, rfl, hs, hg, ng, na, nb⟩ := wf
      refine ⟨_, rfl, t, _, _, _, rfl, rfl, .inl (.inl ht1), atI_nat (j := 0) rfl, two, fun u1 nu1 => ?_⟩
      have su1 := same_lay (o := .tup [.str "answers", .str "refuses"]) nu1
      refine ⟨u1, _, rfl, .inr (.inl (.inl upd_same)), rfl, rfl, _, rfl, ?_⟩
      rw [show inV (.str (kName 5)) [.str "answers", .str "refuses"] = false from by decide +kernel]
      refine iteF ?_
      have ht2 := su1 _ _ ht1
      refine ⟨_, rfl, t, _, _, _, rfl, rfl, .inl (.inl ht2), atI_nat (j := 0) rfl, two, fun u2 nu2 => ?_⟩
      have su2 := same_lay (o := .tup [.str "needs", .str "spreads"]) nu2
      refine ⟨u2, _, rfl, .inr (.inl (.inl upd_same)), rfl, rfl, _, rfl, ?_⟩
      rw [show inV (.str (kName 5)) [.str "needs", .str "spreads"] = false from by decide +kernel]
      refine iteF ?_
      have ht3 := su2 _ _ ht2
      have S3 := (S1.trans su1).trans su2
      have lv := sign_len hs
      have l5 : ((begT 5 f1 (rws L) ++ (" " : Str)) ++ s).length ≤ 2300 := by rw [len_app]; omega
      have l6 : (((begT 5 f1 (rws L) ++ (" " : Str)) ++ s) ++ (" " : Str)).length ≤ 2400 := by rw [len_app, b1l]; omega
      refine ⟨_, rfl, t, _, _, _, rfl, rfl, .inl (.inl ht3), atI_nat (j := 0) rfl, rfl, _, rfl, ite2 (fun z => absurd (of_decide_eq_true z) (by decide +kernel)) (fun _ => ?_)⟩
      refine ⟨_, rfl, t, _, _, _, rfl, rfl, .inl (.inl ht3), atI_nat (j := 0) rfl, rfl, _, rfl, ite2 (fun z => absurd (of_decide_eq_true z) (by decide +kernel)) (fun _ => ?_)⟩
      have ll := lineT_len na nb
      have lc := cutS_len (lineT a b)
      have lg := hg.len
      have la := addT_len na nb
      refine ⟨_, rfl, t, _, _, _, rfl, rfl, .inl (.inl ht3), atI_nat (j := 5) rfl, _, rfl, t, _, _, _, rfl, rfl, .inl (.inl ht3), atI_nat (j := 6) rfl, two, fun u3 nu3 => ?_⟩
      refine ⟨u3, a, b, rfl, upd_same, na, nb, ?_⟩
      have ht4 := same_lay (o := .tup [.int a, .int b]) nu3 _ _ ht3
      have S4 := S3.trans (same_lay (o := .tup [.int a, .int b]) nu3)
      generalize upd (upd (upd H1 u1 _) u2 _) u3 _ = H4 at ht4 S4
      obtain ⟨c, rest, hc⟩ : ∃ c rest, tl (lineT a b) = c :: rest := by
        have := lineT_pos a b
        rw [TL.len_tl] at this
        cases e : tl (lineT a b) with
        | nil => rw [e] at this; exact absurd this (by decide)
        | cons c rest => exact ⟨c, rest, rfl⟩
      have hst := starts_dash hc
      have hat : atI (lineT a b).cps.toList 0 = some c := by
        show atI (tl (lineT a b)) 0 = some c
        rw [hc]
        exact atI_nat (j := 0) rfl
      have l7 : ((((begT 5 f1 (rws L) ++ (" " : Str)) ++ s) ++ (" " : Str)) ++ g).length ≤ 2500 := by rw [len_app]; omega
      refine ⟨_, rfl, lineT a b, 0, c, rfl, rfl, sz1 (by omega), hat, rfl, _, rfl, ?_⟩
      by_cases h45 : c = 45
      · subst h45
        refine ite2 (fun _ => ?_) (fun z => absurd (decide_eq_true rfl) z)
        refine ⟨_, rfl, _, rfl, lineT a b, rfl, sz1 (by omega), _, _, rfl, rfl, sz1 (by show 3 + (cutS (lineT a b) (some 1) none).length ≤ 20000; omega), ?_⟩
        refine ⟨_, rfl, _, _, rfl, rfl, szb lb b1l, _, rfl, t, _, _, _, rfl, rfl, .inl (.inl ht4), atI_nat (j := 3) rfl, _, _, rfl, rfl, szb2 l4 lv, _, _, rfl, rfl, szb3 l5 b1l, _, rfl, t, _, _, _, rfl, rfl, .inl (.inl ht4), atI_nat (j := 4) rfl, _, _, rfl, rfl, szb4 l6 lg, _, rfl, rfl, _, rfl, ?_⟩
        by_cases h0 : lineT a b = ("0" : Str)
        · rw [show (!decide (V.str (lineT a b) = V.str ("0" : Str))) = false from by rw [h0]; simp]
          refine iteF ⟨_, _, rfl, rfl, szb5 l7 (by decide), ?_⟩
          have q1 : Q (.str (((((begT 5 f1 (rws L) ++ (" " : Str)) ++ s) ++ (" " : Str)) ++ g) ++ addT (lineT a b))) H4 := q _ S4
          unfold addT at q1
          rw [if_pos h0] at q1
          exact q1
        · rw [show (!decide (V.str (lineT a b) = V.str ("0" : Str))) = true from by simp [h0]]
          refine iteT ⟨_, rfl, _, _, rfl, rfl, szb5 (b := (" - " : Str) ++ cutS (lineT a b) (some 1) none) l7 ?_, ?_⟩
          · rw [len_app]
            have : ((" - " : Str).length = 3 ∧ (" + " : Str).length = 3) := by decide
            omega
          · have q1 : Q (.str (((((begT 5 f1 (rws L) ++ (" " : Str)) ++ s) ++ (" " : Str)) ++ g) ++ addT (lineT a b))) H4 := q _ S4
            unfold addT at q1
            rw [if_neg h0, hst] at q1
            rw [show decide ((45 : Nat) = 45) = true from rfl, if_pos rfl] at q1
            exact q1
      · refine ite2 (fun z => absurd (of_decide_eq_true z) (fun e => h45 (by have := congrArg tl (V.str.inj e); exact (List.cons.inj this).1))) (fun _ => ?_)
        refine ⟨_, rfl, _, _, rfl, rfl, sz1 (by show 3 + (lineT a b).length ≤ 20000; omega), ?_⟩
        refine ⟨_, rfl, _, _, rfl, rfl, szb lb b1l, _, rfl, t, _, _, _, rfl, rfl, .inl (.inl ht4), atI_nat (j := 3) rfl, _, _, rfl, rfl, szb2 l4 lv, _, _, rfl, rfl, szb3 l5 b1l, _, rfl, t, _, _, _, rfl, rfl, .inl (.inl ht4), atI_nat (j := 4) rfl, _, _, rfl, rfl, szb4 l6 lg, _, rfl, rfl, _, rfl, ?_⟩
        by_cases h0 : lineT a b = ("0" : Str)
        · rw [show (!decide (V.str (lineT a b) = V.str ("0" : Str))) = false from by rw [h0]; simp]
          refine iteF ⟨_, _, rfl, rfl, szb5 l7 (by decide), ?_⟩
          have q1 : Q (.str (((((begT 5 f1 (rws L) ++ (" " : Str)) ++ s) ++ (" " : Str)) ++ g) ++ addT (lineT a b))) H4 := q _ S4
          unfold addT at q1
          rw [if_pos h0] at q1
          exact q1
        · rw [show (!decide (V.str (lineT a b) = V.str ("0" : Str))) = true from by simp [h0]]
          refine iteT ⟨_, rfl, _, _, rfl, rfl, szb5 (b := (" + " : Str) ++ lineT a b) l7 ?_, ?_⟩
          · rw [len_app]
            have : ((" - " : Str).length = 3 ∧ (" + " : Str).length = 3) := by decide
            omega
          · have q1 : Q (.str (((((begT 5 f1 (rws L) ++ (" " : Str)) ++ s) ++ (" " : Str)) ++ g) ++ addT (lineT a b))) H4 := q _ S4
            unfold addT at q1
            rw [if_neg h0, hst] at q1
            rw [decide_eq_false h45, if_neg (by decide)] at q1
            exact q1
    · obtain ⟨s, b, rfl, hs, nb⟩ := wf
      refine ⟨_, rfl, t, _, _, _, rfl, rfl, .inl (.inl ht1), atI_nat (j := 0) rfl, two, fun u1 nu1 => ?_⟩
      have su1 := same_lay (o := .tup [.str "answers", .str "refuses"]) nu1
      refine ⟨u1, _, rfl, .inr (.inl (.inl upd_same)), rfl, rfl, _, rfl, ?_⟩
      rw [show inV (.str (kName 6)) [.str "answers", .str "refuses"] = false from by decide +kernel]
      refine iteF ?_
      have ht2 := su1 _ _ ht1
      refine ⟨_, rfl, t, _, _, _, rfl, rfl, .inl (.inl ht2), atI_nat (j := 0) rfl, two, fun u2 nu2 => ?_⟩
      have su2 := same_lay (o := .tup [.str "needs", .str "spreads"]) nu2
      refine ⟨u2, _, rfl, .inr (.inl (.inl upd_same)), rfl, rfl, _, rfl, ?_⟩
      rw [show inV (.str (kName 6)) [.str "needs", .str "spreads"] = false from by decide +kernel]
      refine iteF ?_
      have ht3 := su2 _ _ ht2
      have S3 := (S1.trans su1).trans su2
      have lv := sign_len hs
      have l5 : ((begT 6 f1 (rws L) ++ (" " : Str)) ++ s).length ≤ 2300 := by rw [len_app]; omega
      have l6 : (((begT 6 f1 (rws L) ++ (" " : Str)) ++ s) ++ (" " : Str)).length ≤ 2400 := by rw [len_app, b1l]; omega
      refine ⟨_, rfl, t, _, _, _, rfl, rfl, .inl (.inl ht3), atI_nat (j := 0) rfl, rfl, _, rfl, ite2 (fun z => absurd (of_decide_eq_true z) (by decide +kernel)) (fun _ => ?_)⟩
      refine ⟨_, rfl, t, _, _, _, rfl, rfl, .inl (.inl ht3), atI_nat (j := 0) rfl, rfl, _, rfl, ite2 (fun _ => ?_) (fun z => absurd (decide_eq_true rfl) z)⟩
      have ld := dTl (n := b) (k := 40) (by decide) nb
      refine ⟨_, rfl, _, _, rfl, rfl, szb lb b1l, _, rfl, t, _, _, _, rfl, rfl, .inl (.inl ht3), atI_nat (j := 3) rfl, _, _, rfl, rfl, szb2 l4 lv, _, _, rfl, rfl, szb3 l5 b1l, _, rfl, t, _, _, _, rfl, rfl, .inl (.inl ht3), atI_nat (j := 4) rfl, _, rfl, dT_log (Nat.lt_of_lt_of_le nb (by decide)), _, _, rfl, rfl, sz1 ?_, q _ S3⟩
      show ((((begT 6 f1 (rws L) ++ (" " : Str)) ++ s) ++ (" " : Str)).length) + (dT b).length ≤ 20000
      omega
end
end OR

namespace OR
open PySem PySem.Spec PyProof.Rows L2
open TL (tl numL)
/-! ### clauses told otherwise -/
theorem cutA (xs : List V) (n : Nat) : cutV xs none (some (n : Int)) = xs.take n := by
  unfold cutV
  rw [HT.sIx_none, show HT.sIx xs.length xs.length (some (n : Int)) = min n xs.length from HT.sIx_nat _ _ n, List.drop_zero, Nat.sub_zero]
  rcases Nat.le_total n xs.length with h | h
  · rw [Nat.min_eq_left h]
  · rw [Nat.min_eq_right h, List.take_of_length_le (Nat.le_refl _), List.take_of_length_le h]
theorem cutB (xs : List V) (n : Nat) : cutV xs (some (n : Int)) none = xs.drop n := by
  unfold cutV
  rw [HT.sIx_none, show HT.sIx xs.length 0 (some (n : Int)) = min n xs.length from HT.sIx_nat _ _ n]
  rcases Nat.le_total n xs.length with h | h
  · rw [Nat.min_eq_left h, List.take_of_length_le (by rw [List.length_drop]; exact Nat.le_refl _)]
  · rw [Nat.min_eq_right h, List.drop_of_length_le (Nat.le_refl _), List.drop_of_length_le h, List.take_nil]
theorem nwA {xs : List V} {n : Nat} (h : n < xs.length) : ¬ (HT.sIx xs.length 0 none = 0 ∧ HT.sIx xs.length xs.length (some (n : Int)) = xs.length) := by
  rw [show HT.sIx xs.length xs.length (some (n : Int)) = min n xs.length from HT.sIx_nat _ _ n]
  omega
theorem nwB {xs : List V} {n : Nat} (h : 0 < n) (h2 : 0 < xs.length) : ¬ (HT.sIx xs.length 0 (some (n : Int)) = 0 ∧ HT.sIx xs.length xs.length none = xs.length) := by
  rw [show HT.sIx xs.length 0 (some (n : Int)) = min n xs.length from HT.sIx_nat _ _ n]
  omega
/-- a clause of this kind that is told otherwise, at u; not at o -/
def Chg (o : Addr) (i : Nat) (f : Str) (l : List Row) (x : List V) (H : Hp) (u : Addr) : Prop := ∃ (f2 : Str) (r2 : Addr) (x2 : List V) (L2 : List ARow), r2 ≠ o ∧ H u = some (.tup (spT i f2 r2 x2)) ∧ Word f2 ∧ WF i f2 x2 ∧ RowsAt H r2 L2 ∧ ¬ (f2 = f ∧ rws L2 = l ∧ x2 = x)
theorem Chg.same {o : Addr} {i : Nat} {f : Str} {l : List Row} {x : List V} {H H' : Hp} {u : Addr} (h : Chg o i f l x H u) (s : Same H H') : Chg o i f l x H' u := by
  obtain ⟨f2, r2, x2, L2, a, b, c, d, e, g⟩ := h
  exact ⟨f2, r2, x2, L2, a, s _ _ b, c, d, e.same s, g⟩
theorem Chg.put {o : Addr} {i : Nat} {f : Str} {l : List Row} {x : List V} {H : Hp} {u : Addr} {xs ys : List V} (h : Chg o i f l x H u) (ho : H o = some (.lst xs)) : Chg o i f l x (upd H o (.lst ys)) u := by
  obtain ⟨f2, r2, x2, L2, a, b, c, d, e, g⟩ := h
  exact ⟨f2, r2, x2, L2, a, by rw [upd_ne (ne_of b ho (by intro z; cases z))]; exact b, c, d, ⟨by rw [upd_ne a]; exact e.at_, fun q hq => by rw [upd_ne (ne_of (e.rw_ q hq) ho (by intro z; cases z))]; exact e.rw_ q hq, e.ok, e.nf, e.few⟩, g⟩
structure OI (o : Addr) (i : Nat) (f : Str) (l : List Row) (x : List V) (H0 H : Hp) (us : List Addr) : Prop where
  ho : H o = some (.lst (us.map V.ref))
  chg : ∀ u ∈ us, Chg o i f l x H u
  same : Same H0 H
  no : H0 o = none
theorem OI.step {o : Addr} {i : Nat} {f : Str} {l : List Row} {x : List V} {H0 H H1 : Hp} {us : List Addr} {u : Addr} (I : OI o i f l x H0 H us) (s : Same H H1) (c : Chg o i f l x H1 u) : OI o i f l x H0 (upd H1 o (.lst (us.map V.ref ++ [.ref u]))) (us ++ [u]) := by
  have h1 := s _ _ I.ho
  refine ⟨by rw [upd_same, List.map_append]; rfl, fun v hv => ?_, same_upd (I.same.trans s) I.no, I.no⟩
  rcases List.mem_append.mp hv with k | k
  · exact ((I.chg v k).same s).put h1
  · rw [List.mem_singleton.mp k]
    exact c.put h1
def withN : Nat → List V → Int → Int → List V
  | 4, [s, _, _], a, b => [s, .int a, .int b]
  | 5, [s, g, _, _], a, b => [s, g, .int a, .int b]
  | 6, [s, _], _, b => [s, .int b]
  | _, x, _, _ => x
def numsOf : Nat → List V → List V
  | 4, [_, a, b] => [a, b]
  | 5, [_, _, a, b] => [a, b]
  | 6, [_, b] => [.int 0, b]
  | _, x => x
def spWithN : Sp := fun vs H Q _ => ∃ (t : Addr) (i : Nat) (f : Str) (r : Addr) (x : List V) (a b : Int), vs = [.ref t, .int a, .int b] ∧ H t = some (.tup (spT i f r x)) ∧ (i = 4 ∨ i = 5 ∨ i = 6) ∧ WF i f x ∧ ∀ u H', H' u = some (.tup (spT i f r (withN i x a b))) → Same H H' → Q (.ref u) H'
def spNums : Sp := fun vs H Q _ => ∃ (t : Addr) (i : Nat) (f : Str) (r : Addr) (x : List V), vs = [.ref t] ∧ H t = some (.tup (spT i f r x)) ∧ (i = 4 ∨ i = 5 ∨ i = 6) ∧ WF i f x ∧ ∀ u, H u = none → Q (.ref u) (upd H u (.tup (numsOf i x)))
def spOfN : Sp := fun vs H Q _ => ∃ (t : Addr) (i : Nat) (f : Str) (r : Addr) (x : List V), vs = [.ref t] ∧ H t = some (.tup (spT i f r x)) ∧ i < 7 ∧ ∀ H', Same H H' → Q (.bl (decide (4 ≤ i))) H'
theorem nf_one {a b : Int} (h : a ≤ b) : Nf [(a, b)] := ⟨fun r hr => by rw [List.mem_singleton.mp hr]; exact h, List.pairwise_singleton _ _⟩
section
variable {P : Program} {w : World} {K : PySem.W.Frag} {mg : Str → Option Value} {base : Heap} {C : Nat → Addr} {CP CL : Addr} {ts tw : Addr}
theorem scWN : FnScope ["_law_spec_here", "_law_slope", "_law_height"] ["_law_spec_here", "_law_slope", "_law_height"] (defScope sWithN) := ⟨rfl, rfl, rfl, by decide +kernel, rfl, by decide +kernel, by decide +kernel⟩
theorem ok_withn {f : Addr} {fd : FuncData} (F : Fun K "_law_with_numbers" "_law_with_numbers" sWithN f fd) : FnOk P w K mg base CX0 1 f fd ["_law_spec_here", "_law_slope", "_law_height"] spWithN := by
  refine F.ok scWN (fun vs H Q E h => ?_) (fun cdv A outer s0 H vs Q E hr h => ?_)
  · obtain ⟨t, i, f1, r, x, a, b, rfl, _⟩ := h
    rfl
  · obtain ⟨t, i, f1, r, x, a', b', rfl, ht, hi, wf, q⟩ := h
    refine ⟨_, pss_cons (ps_if (pt_cmpR op_eq (pe_ix ix_tup (pv 0) pe_int (fun _ _ => rfl)) pe_str (nomark _)) (pss_one (ps_ret (pe_op op_catT (pe_slice sl_tup (pv 0) po_none (po_some pe_int)) (pe_tup (pa_cons (pv 1) (pa_cons (pv 2) pa_nil)))))) pss_nil)
      (pss_one (ps_ret (pe_ifExp (pt_cmpR op_eq (pe_ix ix_tup (pv 0) pe_int (fun _ _ => rfl)) pe_str (nomark _)) (pe_op op_catT (pe_slice sl_tup (pv 0) po_none (po_some pe_int)) (pe_tup (pa_cons (pv 1) (pa_cons (pv 2) pa_nil)))) (pe_op op_catT (pe_slice sl_tup (pv 0) po_none (po_some pe_int)) (pe_tup (pa_cons (pv 2) pa_nil)))))), ?_⟩
    rcases hi with e | e | e <;> subst e
    · obtain ⟨s, a, b, rfl, hs, na, nb⟩ := wf
      refine ⟨_, rfl, t, _, _, _, rfl, rfl, .inl (.inl ht), atI_nat (j := 0) rfl, rfl, _, rfl, ite2 (fun _ => ?_) (fun z => absurd (decide_eq_true rfl) z)⟩
      refine ⟨_, rfl, _, rfl, t, _, rfl, .inl (.inl ht), nwA (n := 4) (show 4 < 6 by decide), fun u1 n1 => ?_⟩
      refine ⟨_, rfl, _, rfl, by show 2 ≤ sizeLine; decide, fun u2 n2 => ?_⟩
      refine ⟨u1, u2, _, _, rfl, rfl, .inl (.inl (same_lay n2 _ _ upd_same)), .inl (.inl upd_same), (fun z => nomatch z), by show 4 + 2 ≤ sizeLine; decide, (fun z => nomatch z), fun _ u3 n3 => ?_⟩
      exact q u3 _ upd_same (((same_lay n1).trans (same_lay n2)).trans (same_lay n3))
    · obtain ⟨s, g, a, b, rfl, hs, hg, ng, na, nb⟩ := wf
      refine ⟨_, rfl, t, _, _, _, rfl, rfl, .inl (.inl ht), atI_nat (j := 0) rfl, rfl, _, rfl, ite2 (fun z => absurd (of_decide_eq_true z) (by decide +kernel)) (fun _ => ?_)⟩
      refine ⟨_, rfl, t, _, _, _, rfl, rfl, .inl (.inl ht), atI_nat (j := 0) rfl, rfl, _, rfl, ite2 (fun _ => ?_) (fun z => absurd (decide_eq_true rfl) z)⟩
      refine ⟨_, rfl, _, rfl, t, _, rfl, .inl (.inl ht), nwA (n := 5) (show 5 < 7 by decide), fun u1 n1 => ?_⟩
      refine ⟨_, rfl, _, rfl, by show 2 ≤ sizeLine; decide, fun u2 n2 => ?_⟩
      refine ⟨u1, u2, _, _, rfl, rfl, .inl (.inl (same_lay n2 _ _ upd_same)), .inl (.inl upd_same), (fun z => nomatch z), by show 5 + 2 ≤ sizeLine; decide, (fun z => nomatch z), fun _ u3 n3 => ?_⟩
      exact q u3 _ upd_same (((same_lay n1).trans (same_lay n2)).trans (same_lay n3))
    · obtain ⟨s, b, rfl, hs, nb⟩ := wf
      refine ⟨_, rfl, t, _, _, _, rfl, rfl, .inl (.inl ht), atI_nat (j := 0) rfl, rfl, _, rfl, ite2 (fun z => absurd (of_decide_eq_true z) (by decide +kernel)) (fun _ => ?_)⟩
      refine ⟨_, rfl, t, _, _, _, rfl, rfl, .inl (.inl ht), atI_nat (j := 0) rfl, rfl, _, rfl, ite2 (fun z => absurd (of_decide_eq_true z) (by decide +kernel)) (fun _ => ?_)⟩
      refine ⟨_, rfl, _, rfl, t, _, rfl, .inl (.inl ht), nwA (n := 4) (show 4 < 5 by decide), fun u1 n1 => ?_⟩
      refine ⟨_, rfl, by show 1 ≤ sizeLine; decide, fun u2 n2 => ?_⟩
      refine ⟨u1, u2, _, _, rfl, rfl, .inl (.inl (same_lay n2 _ _ upd_same)), .inl (.inl upd_same), (fun z => nomatch z), by show 4 + 1 ≤ sizeLine; decide, (fun z => nomatch z), fun _ u3 n3 => ?_⟩
      exact q u3 _ upd_same (((same_lay n1).trans (same_lay n2)).trans (same_lay n3))
theorem scNu : FnScope ["_law_spec_here"] ["_law_spec_here"] (defScope sNumbers) := ⟨rfl, rfl, rfl, by decide +kernel, rfl, by decide +kernel, by decide +kernel⟩
theorem ok_nums {f : Addr} {fd : FuncData} (F : Fun K "_law_numbers" "_law_numbers" sNumbers f fd) : FnOk P w K mg base CX0 1 f fd ["_law_spec_here"] spNums := by
  refine F.ok scNu (fun vs H Q E h => ?_) (fun cdv A outer s0 H vs Q E hr h => ?_)
  · obtain ⟨t, i, f1, r, x, rfl, _⟩ := h
    rfl
  · obtain ⟨t, i, f1, r, x, rfl, ht, hi, wf, q⟩ := h
    refine ⟨_, pss_one (ps_ret (pe_ifExp (pt_cmpR op_eq (pe_ix ix_tup (pv 0) pe_int (fun _ _ => rfl)) pe_str (nomark _)) (pe_tup (pa_cons pe_int (pa_cons (pe_ix ix_tup (pv 0) pe_int (fun _ _ => rfl)) pa_nil))) (pe_tup (pa_cons (pe_ix ix_tup (pv 0) (pe_un un_neg pe_int) (fun _ _ => rfl)) (pa_cons (pe_ix ix_tup (pv 0) (pe_un un_neg pe_int) (fun _ _ => rfl)) pa_nil))))), ?_⟩
    rcases hi with e | e | e <;> subst e
    · obtain ⟨s, a, b, rfl, hs, na, nb⟩ := wf
      refine ⟨_, rfl, t, _, _, _, rfl, rfl, .inl (.inl ht), atI_nat (j := 0) rfl, rfl, _, rfl, ite2 (fun z => absurd (of_decide_eq_true z) (by decide +kernel)) (fun _ => ?_)⟩
      exact ⟨_, rfl, 2, rfl, t, _, -2, _, rfl, rfl, .inl (.inl ht), rfl, _, rfl, 1, rfl, t, _, -1, _, rfl, rfl, .inl (.inl ht), rfl, by show 2 ≤ sizeLine; decide, fun u nu => q u nu⟩
    · obtain ⟨s, g, a, b, rfl, hs, hg, ng, na, nb⟩ := wf
      refine ⟨_, rfl, t, _, _, _, rfl, rfl, .inl (.inl ht), atI_nat (j := 0) rfl, rfl, _, rfl, ite2 (fun z => absurd (of_decide_eq_true z) (by decide +kernel)) (fun _ => ?_)⟩
      exact ⟨_, rfl, 2, rfl, t, _, -2, _, rfl, rfl, .inl (.inl ht), rfl, _, rfl, 1, rfl, t, _, -1, _, rfl, rfl, .inl (.inl ht), rfl, by show 2 ≤ sizeLine; decide, fun u nu => q u nu⟩
    · obtain ⟨s, b, rfl, hs, nb⟩ := wf
      refine ⟨_, rfl, t, _, _, _, rfl, rfl, .inl (.inl ht), atI_nat (j := 0) rfl, rfl, _, rfl, ite2 (fun _ => ?_) (fun z => absurd (decide_eq_true rfl) z)⟩
      exact ⟨_, rfl, t, _, _, _, rfl, rfl, .inl (.inl ht), atI_nat (j := 4) rfl, by show 2 ≤ sizeLine; decide, fun u nu => q u nu⟩
theorem scON : FnScope ["_law_spec_here"] ["_law_spec_here"] (defScope sOfNum) := ⟨rfl, rfl, rfl, by decide +kernel, rfl, by decide +kernel, by decide +kernel⟩
theorem ok_ofn {f : Addr} {fd : FuncData} (F : Fun K "_law_is_of_numbers" "_law_is_of_numbers" sOfNum f fd) : FnOk P w K mg base CX0 1 f fd ["_law_spec_here"] spOfN := by
  refine F.ok scON (fun vs H Q E h => ?_) (fun cdv A outer s0 H vs Q E hr h => ?_)
  · obtain ⟨t, i, f1, r, x, rfl, _⟩ := h
    rfl
  · obtain ⟨t, i, f1, r, x, rfl, ht, hi, q⟩ := h
    refine ⟨_, pss_one (ps_ret (pe_cmpR (op_in_seqK K rfl) (pe_ix ix_tup (pv 0) pe_int (fun _ _ => rfl)) (pe_tup (pa_cons pe_str (pa_cons pe_str (pa_cons pe_str pa_nil)))) (by rfl))), ?_⟩
    refine ⟨_, rfl, t, _, _, _, rfl, rfl, .inl (.inl ht), atI_nat (j := 0) rfl, by show 3 ≤ sizeLine; decide, fun u nu => ⟨u, _, rfl, .inr (.inl (.inl upd_same)), rfl, rfl, ?_⟩⟩
    have e : inV (.str (kName i)) [.str "bound", .str "pair", .str "step"] = decide (4 ≤ i) := by
      rcases kinds7 hi with e | e | e | e | e | e | e <;> subst e <;> decide +kernel
    show Q (.bl (inV (.str (kName i)) [.str "bound", .str "pair", .str "step"])) _
    rw [e]
    exact q _ (same_lay nu)
end
end OR

namespace OR
open PySem PySem.Spec PyProof.Rows L2
open TL (tl numL)
theorem sl_tupK {X : Cx} (K : PySem.W.Frag) (hK : X.K = K) : SlR X (rSlT K) := by
  subst hK
  exact sl_tup
theorem op_catTK {X : Cx} (K : PySem.W.Frag) (hK : X.K = K) : OpR X (binaryOp .Add) (rCatT K) := by
  subst hK
  exact op_catT
theorem eqvL (l m : List Row) : PyData.eqv (.list (l.map rowD)) (.list (m.map rowD)) = decide (l = m) := eqv_rows l m
theorem neqS {a b : Str} (h : a ≠ b) : (!decide (V.str a = V.str b)) = true := by simp [h]
theorem eqS (a : Str) : (!decide (V.str a = V.str a)) = false := by simp
theorem num1 {a : Int} (h : a.natAbs < 10 ^ 31) (b : Int) (hb : b.natAbs ≤ a.natAbs + 1) : Num b := Nat.lt_of_lt_of_le (show b.natAbs < 10 ^ 31 + 1 by omega) (by decide)
def signs3 : List Str := ["<=", ">=", "="]
def spOther (K : PySem.W.Frag) : Sp := fun vs H Q _ => ∃ (wl t : Addr) (i : Nat) (f g h : Str) (rest : List V) (r : Addr) (x : List V) (L : List ARow), vs = [.ref wl, .ref t] ∧ i < 7 ∧ SqL K H wl (.str f :: .str g :: .str h :: rest) ∧ Word f ∧ Word g ∧ Word h ∧ g ≠ f ∧ h ≠ f ∧ h ≠ g ∧
  H t = some (.tup (spT i f r x)) ∧ WF i f x ∧ Small30 x ∧ OtherIs g i x ∧ RowsAt H r L ∧
  ∀ (o : Addr) (us : List Addr) (H' : Hp), H' o = some (.lst (us.map V.ref)) → (∀ u ∈ us, ∃ o', Chg o' i f (rws L) x H' u) → us.length ≤ 20 → Same H H' → Q (.ref o) H'
def OInv (wl t o : Addr) (i : Nat) (f : Str) (l : List Row) (x : List V) (H : Hp) (s3 s4 : Option V) (n : Nat) : L2.St → Hp → Prop := fun σ H' => σ = [some (.ref wl), some (.ref t), some (.ref o), s3, s4, none, none] ∧ ∃ us, OI o i f l x H H' us ∧ us.length ≤ n
theorem OI.on {o : Addr} {i : Nat} {f : Str} {l : List Row} {x : List V} {H0 H H1 : Hp} {us : List Addr} (I : OI o i f l x H0 H us) (s : Same H H1) : OI o i f l x H0 H1 us := ⟨s _ _ I.ho, fun u hu => (I.chg u hu).same s, I.same.trans s, I.no⟩
theorem snoc_le {us : List Addr} {u : Addr} {n : Nat} (h : us.length ≤ n) : (us ++ [u]).length ≤ n + 1 := by
  rw [List.length_append]
  show us.length + 1 ≤ n + 1
  omega
section
variable {P : Program} {w : World} {K : PySem.W.Frag} {mg : Str → Option Value} {base : Heap} {C : Nat → Addr} {CP CL : Addr} {ts tw : Addr}
theorem scOt : FnScope ["_law_words_here", "_law_spec_here", "_law_found", "_law_slope", "_law_height", "_law_signs", "_law_sign"] ["_law_words_here", "_law_spec_here"] (defScope sOther) := ⟨rfl, rfl, rfl, by decide +kernel, rfl, by decide +kernel, by decide +kernel⟩
theorem ok_other {f : Addr} {fd : FuncData} (F : Fun K "_law_otherwise" "_law_otherwise" sOther f fd) (MG : Cl P w K mg base 1 "_law_merged" ["_law_rows"] (spMerged K)) (ON : Cl P w K mg base 1 "_law_is_of_numbers" ["_law_spec_here"] spOfN)
    (NU : Cl P w K mg base 1 "_law_numbers" ["_law_spec_here"] spNums) (WN : Cl P w K mg base 1 "_law_with_numbers" ["_law_spec_here", "_law_slope", "_law_height"] spWithN) : FnOk P w K mg base CX0 2 f fd ["_law_words_here", "_law_spec_here"] (spOther K) := by
  refine F.ok scOt (fun vs H Q E h => ?_) (fun cdv A outer s0 H vs Q E hr h => ?_)
  · obtain ⟨wl, t, i, f1, g, h, rest, r, x, L, rfl, _⟩ := h
    rfl
  · obtain ⟨wl, t, i, f1, g, hh, rest, r, x, L, rfl, hi, hS, wf1, wg1, wh1, ngf, nhf, nhg, ht, wf, sm, ot, hR, q⟩ := h
    have nd := scOt.nd
    have hu64 : (A.deeper (envOfC "_law_otherwise" (defScope sOther) s0.heap.objs.size f cdv)).units + 64 < cLine := hr.units
    refine ⟨_, pss_cons (ps_set (i := 2) nd rfl (.inl rfl) (pe_lst (pa_cons (pe_op op_catT (pe_tup (pa_cons (pe_ix ix_tup (pv 1) pe_int (fun _ _ => rfl)) (pa_cons (pe_ix ix_list (pv 0) pe_int (fun _ _ => rfl)) pa_nil))) (pe_slice sl_tup (pv 1) (po_some pe_int) po_none)) pa_nil)))
      (Evl.pss_cut (ps_expr (pe_bm PySem.F.plainAttrs_list PySem.F.slot_list_append PySem.F.type_list_append mt_append (pv 2) (pa_cons (pe_op op_catT (pe_op op_catT (pe_slice sl_tup (pv 1) po_none (po_some pe_int)) (pe_tup (pa_cons (pe_cl MG hr (by decide) (by rfl) (pa_cons (pe_ifExp (pt_cmpR (op_neD hu64) (pe_ix ix_tup (pv 1) pe_int (fun _ _ => rfl)) (pe_lst (pa_cons (pe_tup (pa_cons pe_int (pa_cons pe_int pa_nil))) pa_nil)) (nomark _)) (pe_lst (pa_cons (pe_tup (pa_cons pe_int (pa_cons pe_int pa_nil))) pa_nil)) (pe_lst (pa_cons (pe_tup (pa_cons pe_int (pa_cons pe_int pa_nil))) pa_nil))) pa_nil)) pa_nil))) (pe_slice sl_tup (pv 1) (po_some pe_int) po_none)) pa_nil)))
      (Evl.pss_cut (ps_if (pt_cmpR op_eq (pe_ix ix_tup (pv 1) pe_int (fun _ _ => rfl)) pe_str (nomark _)) (pss_one (ps_expr (pe_bm PySem.F.plainAttrs_list PySem.F.slot_list_append PySem.F.type_list_append mt_append (pv 2) (pa_cons (pe_op op_catT (pe_slice sl_tup (pv 1) po_none (po_some pe_int)) (pe_tup (pa_cons (pe_ix ix_list (pv 0) pe_int (fun _ _ => rfl)) pa_nil))) pa_nil)))) pss_nil)
      (Evl.pss_cut (ps_if (pt_cmpR op_eq (pe_ix ix_tup (pv 1) pe_int (fun _ _ => rfl)) pe_str (nomark _)) (pss_one (ps_expr (pe_bm PySem.F.plainAttrs_list PySem.F.slot_list_append PySem.F.type_list_append mt_append (pv 2) (pa_cons (pe_op op_catT (pe_slice sl_tup (pv 1) po_none (po_some pe_int)) (pe_tup (pa_cons (pe_ifExp (pt_cmpR op_eq (pe_ix ix_tup (pv 1) pe_int (fun _ _ => rfl)) pe_str (nomark _)) pe_str pe_str) pa_nil))) pa_nil)))) pss_nil)
      (Evl.pss_cut (ps_if (pt_cmpR op_eq (pe_ix ix_tup (pv 1) pe_int (fun _ _ => rfl)) pe_str (nomark _)) (pss_one (ps_expr (pe_bm PySem.F.plainAttrs_list PySem.F.slot_list_append PySem.F.type_list_append mt_append (pv 2) (pa_cons (pe_op op_catT (pe_op op_catT (pe_slice sl_tup (pv 1) po_none (po_some pe_int)) (pe_tup (pa_cons (pe_ix ix_list (pv 0) pe_int (fun _ _ => rfl)) pa_nil))) (pe_slice sl_tup (pv 1) (po_some pe_int) po_none)) pa_nil)))) pss_nil)
      (pss_cons (ps_if (pt_not (pt_val (pe_cl ON hr (by decide) (by rfl) (pa_cons (pv 1) pa_nil)))) (pss_one (ps_ret (pv 2))) pss_nil)
      (pss_cons (ps_asg (pe_cl NU hr (by decide) (by rfl) (pa_cons (pv 1) pa_nil)) (pg_tup rfl (pgs_cons (pg_name (i := 3) nd rfl (.inl rfl)) (pgs_cons (pg_name (i := 4) nd rfl (.inl rfl)) pgs_nil))))
      (Evl.pss_cut (ps_expr (pe_bm PySem.F.plainAttrs_list PySem.F.slot_list_append PySem.F.type_list_append mt_append (pv 2) (pa_cons (pe_cl WN hr (by decide) (by rfl) (pa_cons (pv 1) (pa_cons (pv 3) (pa_cons (pe_op op_add (pv 4) pe_int) pa_nil)))) pa_nil)))
      (Evl.pss_cut (ps_expr (pe_bm PySem.F.plainAttrs_list PySem.F.slot_list_append PySem.F.type_list_append mt_append (pv 2) (pa_cons (pe_cl WN hr (by decide) (by rfl) (pa_cons (pv 1) (pa_cons (pv 3) (pa_cons (pe_op op_sub (pe_un un_neg (pv 4)) pe_int) pa_nil)))) pa_nil)))
      (Evl.pss_cut (ps_if (pt_cmpR op_ne (pe_ix ix_tup (pv 1) pe_int (fun _ _ => rfl)) pe_str (nomark _)) (pss_cons (ps_expr (pe_bm PySem.F.plainAttrs_list PySem.F.slot_list_append PySem.F.type_list_append mt_append (pv 2) (pa_cons (pe_cl WN hr (by decide) (by rfl) (pa_cons (pv 1) (pa_cons (pe_op op_add (pv 3) pe_int) (pa_cons (pv 4) pa_nil)))) pa_nil))) (pss_one (ps_expr (pe_bm PySem.F.plainAttrs_list PySem.F.slot_list_append PySem.F.type_list_append mt_append (pv 2) (pa_cons (pe_cl WN hr (by decide) (by rfl) (pa_cons (pv 1) (pa_cons (pe_op op_sub (pe_un un_neg (pv 3)) pe_int) (pa_cons (pv 4) pa_nil)))) pa_nil))))) pss_nil)
      (pss_cons (ps_setLc (i := 5) (own := [("_law_sign", 6)]) (g := gName 6) rfl nd rfl rfl (sw_true rfl rfl rfl (by decide +kernel)) (pi_list (pe_lst (pa_cons pe_str (pa_cons pe_str (pa_cons pe_str pa_nil))))) (blkOk_by (N := ["_law_words_here", "_law_spec_here", "_law_found", "_law_slope", "_law_height", "_law_signs", "_law_sign"]) (sc := defScope sOther) (by decide +kernel)) (fun _ _ _ _ _ => pg_name (i := 6) nd rfl (.inl rfl)) (fun _ _ _ _ _ => pts_one (pt_cmpR op_ne (pv 6) (pe_ix (ix_any K rfl) (pv 1) pe_int (fun _ _ => rfl)) (nomark _))) (fun _ _ _ _ _ => pv 6))
      (pss_one (ps_ret (pe_op op_cat (pv 2) (pe_lc (own := [("_law_sign", 6)]) (g := gName 6) (tt := tYes) rfl nd (pi_list (pv 5)) (blkOk_by (N := ["_law_words_here", "_law_spec_here", "_law_found", "_law_slope", "_law_height", "_law_signs", "_law_sign"]) (sc := defScope sOther) (by decide +kernel)) (fun _ _ _ _ _ => pg_name (i := 6) nd rfl (.inl rfl)) (fun _ _ _ _ _ => pts_nil) (fun _ _ _ _ _ => (pe_op (op_catTK K rfl) (pe_op (op_catTK K rfl) (pe_slice (sl_tupK K rfl) (pv 1) po_none (po_some pe_int)) (pe_tup (pa_cons (pv 6) pa_nil))) (pe_slice (sl_tupK K rfl) (pv 1) (po_some pe_int) po_none))))))))))))))))), ?_⟩
    have one : 1 ≤ sizeLine := by decide
    have two : 2 ≤ sizeLine := by decide
    rcases kinds7 hi with e | e | e | e | e | e | e <;> subst e
    · have wf0 := wf
      cases (show x = [] from wf0)
      skip
      refine ⟨_, rfl, t, _, _, _, rfl, rfl, .inl (.inl (ht)), atI_nat (j := 0) rfl, _, rfl, wl, _, _, _, rfl, rfl, hS, atI_nat (j := 2) rfl, two, fun u1 n1 => ?_⟩
      generalize eG1 : upd H u1 _ = G1
      have s2 : Same H G1 := by rw [← eG1]; exact same_lay n1
      have k1 : G1 u1 = some (.tup [.str (kName 0), .str hh]) := by rw [← eG1]; exact upd_same
      refine ⟨_, rfl, _, rfl, t, _, rfl, .inl (.inl (s2 _ _ ht)), nwB (n := 2) (by decide) (show 0 < 3 by decide), fun u2 n2 => ?_⟩
      generalize eG3 : upd G1 u2 _ = G3
      have s4 : Same G1 G3 := by rw [← eG3]; exact same_lay n2
      have k2 : G3 u2 = some (.tup (.ref r :: [])) := by rw [← eG3]; exact upd_same
      refine ⟨u1, u2, _, _, rfl, rfl, .inl (.inl (s4 _ _ k1)), .inl (.inl k2), (fun z => nomatch z), by show 2 + 1 ≤ sizeLine; decide, (fun z => nomatch z), fun _ u3 n3 => ?_⟩
      generalize eG5 : upd G3 u3 _ = G5
      have s6 : Same G3 G5 := by rw [← eG5]; exact same_lay n3
      have k3 : G5 u3 = some (.tup (spT 0 hh r [])) := by rw [← eG5]; exact upd_same
      refine ⟨one, fun o no => ?_⟩
      have S3 := (s2.trans s4).trans s6
      have noH : H o = none := S3.free no
      have nro : r ≠ o := fun e => by rw [← e] at noH; rw [hR.at_] at noH; cases noH
      have cg0 : Chg o 0 f1 (rws L) [] G5 u3 := ⟨hh, r, [], L, nro, k3, wh1, rfl, hR.same S3, fun z => nhf z.1⟩
      have I0 : OI o 0 f1 (rws L) [] H (upd G5 o (.lst [])) [] := ⟨upd_same, fun _ hu => (nomatch hu), S3.trans (same_lay no), noH⟩
      have I := I0.step (Same.refl _) (cg0.same (same_lay no))
      rw [upd_upd] at I
      have I : OI o 0 f1 (rws L) [] H (upd G5 o (.lst [.ref u3])) [u3] := I
      generalize upd G5 o (.lst [.ref u3]) = J0 at I
      have lus : ([u3] : List Addr).length ≤ 1 := Nat.le_refl 1
      generalize ([u3] : List Addr) = us at I lus
      clear I0 cg0 k1 k2 k3 S3 s2 s4 s6 eG1 eG3 eG5 n1 n2 n3 no
      refine ⟨OInv wl t o 0 f1 (rws L) [] H none none 2, ?_, ?_⟩
      · have ht1 := I.same _ _ ht
        have hR1 := hR.same I.same
        have hS1 := I.same.seq hS
        refine ⟨_, rfl, .inl ⟨rfl, _, .inl (.inl I.ho)⟩, _, rfl, _, rfl, t, _, rfl, .inl (.inl (ht1)), nwA (n := 2) (show 2 < 3 by decide), fun v1 m1 => ?_⟩
        generalize eG7 : upd J0 v1 _ = G7
        have s8 : Same J0 G7 := by rw [← eG7]; exact same_lay m1
        have kv1 : G7 v1 = some (.tup [.str (kName 0), .str f1]) := by rw [← eG7]; exact upd_same
        refine ⟨_, rfl, t, _, _, _, rfl, rfl, .inl (.inl (s8 _ _ ht1)), atI_nat (j := 2) rfl, two, fun v2 m2 => ?_⟩
        generalize eG9 : upd G7 v2 _ = G9
        have s10 : Same G7 G9 := by rw [← eG9]; exact same_lay m2
        have kv2 : G9 v2 = some (.tup [.int 0, .int 4]) := by rw [← eG9]; exact upd_same
        refine ⟨one, fun v3 m3 => ?_⟩
        generalize eG11 : upd G9 v3 _ = G11
        have s12 : Same G9 G11 := by rw [← eG11]; exact same_lay m3
        have kv3 : G11 v3 = some (.lst [.ref v2]) := by rw [← eG11]; exact upd_same
        have T3 := (s8.trans s10).trans s12
        have hR3 := hR1.same T3
        refine ⟨.list ((rws L).map rowD), .list ([(0, 4)].map rowD), .lst (.inl (.inl hR3.at_)) (dp_rows hR3.rw_), .lst (.inl (.inl kv3)) (dp_rows (L := [(v2, (0, 4))]) (fun q hq => by rw [List.mem_singleton.mp hq]; exact s12 _ _ kv2)), shp_lst _, shp_lst _, _, rfl, ?_⟩
        rw [eqvL]
        by_cases cc : rws L = [(0, 4)]
        · rw [decide_eq_true cc]
          refine iteF ⟨two, fun v4 m4 => ?_⟩
          generalize eG13 : upd G11 v4 _ = G13
          have s14 : Same G11 G13 := by rw [← eG13]; exact same_lay m4
          have kv4 : G13 v4 = some (.tup [.int 0, .int 5]) := by rw [← eG13]; exact upd_same
          refine ⟨one, fun v5 m5 => ?_⟩
          generalize eG15 : upd G13 v5 _ = G15
          have s16 : Same G13 G15 := by rw [← eG15]; exact same_lay m5
          have kv5 : G15 v5 = some (.lst [.ref v4]) := by rw [← eG15]; exact upd_same
          refine ⟨v5, [(v4, (0, 5))], rfl, .inl (.inl kv5), (fun q hq => by rw [List.mem_singleton.mp hq]; exact s16 _ _ kv4), (fun q hq => by rw [List.mem_singleton.mp hq]; exact okRow_of (by decide) (by decide) (by decide)), by show 1 < 64; decide, fun m M A6 t6 nm hm hM nfM meM lenM _ => ?_⟩
          have eM : rws M = [(0, 5)] := Nf.unique nfM (nf_one (by decide)) meM
          refine ⟨one, fun v6 m6 => ?_⟩
          generalize eG17 : upd A6 v6 _ = G17
          have s18 : Same A6 G17 := by rw [← eG17]; exact same_lay m6
          have kv6 : G17 v6 = some (.tup [.ref m]) := by rw [← eG17]; exact upd_same
          have T7 := ((s14.trans s16).trans t6).trans s18
          have T8 := T3.trans T7
          refine ⟨v1, v6, _, _, rfl, rfl, .inl (.inl (T7 _ _ (s12 _ _ (s10 _ _ kv1)))), .inl (.inl kv6), (fun z => nomatch z), by show 2 + 1 ≤ sizeLine; decide, (fun z => nomatch z), fun _ v7 m7 => ?_⟩
          generalize eG19 : upd G17 v7 _ = G19
          have s20 : Same G17 G19 := by rw [← eG19]; exact same_lay m7
          have kv7 : G19 v7 = some (.tup [.str (kName 0), .str f1, .ref m]) := by rw [← eG19]; exact upd_same
          have T9 := T8.trans s20
          refine ⟨_, rfl, _, rfl, t, _, rfl, .inl (.inl (T9 _ _ ht1)), nwB (n := 3) (by decide) (show 0 < 3 by decide), fun v8 m8 => ?_⟩
          generalize eG21 : upd G19 v8 _ = G21
          have s22 : Same G19 G21 := by rw [← eG21]; exact same_lay m8
          have kv8 : G21 v8 = some (.tup []) := by rw [← eG21]; exact upd_same
          have nmo : m ≠ o := fun e => by
            have h2 := s16 _ _ (s14 _ _ (T3 _ _ I.ho))
            rw [e] at nm
            rw [nm] at h2
            cases h2
          refine ⟨v7, v8, _, _, rfl, rfl, .inl (.inl (s22 _ _ kv7)), .inl (.inl kv8), (fun z => nomatch z), by show 3 + 0 ≤ sizeLine; decide, (fun _ => ?_), (fun z => absurd rfl z)⟩
          have Tf := T9.trans s22
          have kf := s22 _ _ kv7
          have rowsM := (show RowsAt A6 m M from ⟨hm, hM, (fun q hq => by rw [eM] at hq; rw [List.mem_singleton.mp hq]; decide +kernel), nfM, by rw [← rws_len, eM]; decide⟩).same ((s18.trans s20).trans s22)
          have cg : Chg o 0 f1 (rws L) [] G21 v7 := ⟨f1, m, [], M, nmo, kf, wf1, wf, rowsM, fun z => absurd z.2.1 (by rw [eM, cc]; decide)⟩
          exact ⟨o, _, _, rfl, rfl, Tf _ _ I.ho, small1000 (by rw [List.length_map]; omega), rfl, _, I.step Tf cg, snoc_le lus⟩
        · rw [decide_eq_false cc]
          refine iteT ⟨two, fun v4 m4 => ?_⟩
          generalize eG23 : upd G11 v4 _ = G23
          have s24 : Same G11 G23 := by rw [← eG23]; exact same_lay m4
          have kv4 : G23 v4 = some (.tup [.int 0, .int 4]) := by rw [← eG23]; exact upd_same
          refine ⟨one, fun v5 m5 => ?_⟩
          generalize eG25 : upd G23 v5 _ = G25
          have s26 : Same G23 G25 := by rw [← eG25]; exact same_lay m5
          have kv5 : G25 v5 = some (.lst [.ref v4]) := by rw [← eG25]; exact upd_same
          refine ⟨v5, [(v4, (0, 4))], rfl, .inl (.inl kv5), (fun q hq => by rw [List.mem_singleton.mp hq]; exact s26 _ _ kv4), (fun q hq => by rw [List.mem_singleton.mp hq]; exact okRow_of (by decide) (by decide) (by decide)), by show 1 < 64; decide, fun m M A6 t6 nm hm hM nfM meM lenM _ => ?_⟩
          have eM : rws M = [(0, 4)] := Nf.unique nfM (nf_one (by decide)) meM
          refine ⟨one, fun v6 m6 => ?_⟩
          generalize eG27 : upd A6 v6 _ = G27
          have s28 : Same A6 G27 := by rw [← eG27]; exact same_lay m6
          have kv6 : G27 v6 = some (.tup [.ref m]) := by rw [← eG27]; exact upd_same
          have T7 := ((s24.trans s26).trans t6).trans s28
          have T8 := T3.trans T7
          refine ⟨v1, v6, _, _, rfl, rfl, .inl (.inl (T7 _ _ (s12 _ _ (s10 _ _ kv1)))), .inl (.inl kv6), (fun z => nomatch z), by show 2 + 1 ≤ sizeLine; decide, (fun z => nomatch z), fun _ v7 m7 => ?_⟩
          generalize eG29 : upd G27 v7 _ = G29
          have s30 : Same G27 G29 := by rw [← eG29]; exact same_lay m7
          have kv7 : G29 v7 = some (.tup [.str (kName 0), .str f1, .ref m]) := by rw [← eG29]; exact upd_same
          have T9 := T8.trans s30
          refine ⟨_, rfl, _, rfl, t, _, rfl, .inl (.inl (T9 _ _ ht1)), nwB (n := 3) (by decide) (show 0 < 3 by decide), fun v8 m8 => ?_⟩
          generalize eG31 : upd G29 v8 _ = G31
          have s32 : Same G29 G31 := by rw [← eG31]; exact same_lay m8
          have kv8 : G31 v8 = some (.tup []) := by rw [← eG31]; exact upd_same
          have nmo : m ≠ o := fun e => by
            have h2 := s26 _ _ (s24 _ _ (T3 _ _ I.ho))
            rw [e] at nm
            rw [nm] at h2
            cases h2
          refine ⟨v7, v8, _, _, rfl, rfl, .inl (.inl (s32 _ _ kv7)), .inl (.inl kv8), (fun z => nomatch z), by show 3 + 0 ≤ sizeLine; decide, (fun _ => ?_), (fun z => absurd rfl z)⟩
          have Tf := T9.trans s32
          have kf := s32 _ _ kv7
          have rowsM := (show RowsAt A6 m M from ⟨hm, hM, (fun q hq => by rw [eM] at hq; rw [List.mem_singleton.mp hq]; decide +kernel), nfM, by rw [← rws_len, eM]; decide⟩).same ((s28.trans s30).trans s32)
          have cg : Chg o 0 f1 (rws L) [] G31 v7 := ⟨f1, m, [], M, nmo, kf, wf1, wf, rowsM, fun z => cc (by rw [← z.2.1, eM])⟩
          exact ⟨o, _, _, rfl, rfl, Tf _ _ I.ho, small1000 (by rw [List.length_map]; omega), rfl, _, I.step Tf cg, snoc_le lus⟩
      rintro σ' J1 ⟨rfl, us, I, lus⟩
      refine ⟨OInv wl t o 0 f1 (rws L) [] H none none 2, ?_, ?_⟩
      · have ht1 := I.same _ _ ht
        have hR1 := hR.same I.same
        have hS1 := I.same.seq hS
        exact ⟨_, rfl, t, _, _, _, rfl, rfl, .inl (.inl (ht1)), atI_nat (j := 0) rfl, rfl, _, rfl, ite2 (fun z => absurd (of_decide_eq_true z) (by decide +kernel)) (fun _ => ⟨rfl, us, I, lus⟩)⟩
      rintro σ' J2 ⟨rfl, us, I, lus⟩
      refine ⟨OInv wl t o 0 f1 (rws L) [] H none none 2, ?_, ?_⟩
      · have ht1 := I.same _ _ ht
        have hR1 := hR.same I.same
        have hS1 := I.same.seq hS
        exact ⟨_, rfl, t, _, _, _, rfl, rfl, .inl (.inl (ht1)), atI_nat (j := 0) rfl, rfl, _, rfl, ite2 (fun z => absurd (of_decide_eq_true z) (by decide +kernel)) (fun _ => ⟨rfl, us, I, lus⟩)⟩
      rintro σ' J3 ⟨rfl, us, I, lus⟩
      refine ⟨OInv wl t o 0 f1 (rws L) [] H none none 2, ?_, ?_⟩
      · have ht1 := I.same _ _ ht
        have hR1 := hR.same I.same
        have hS1 := I.same.seq hS
        exact ⟨_, rfl, t, _, _, _, rfl, rfl, .inl (.inl (ht1)), atI_nat (j := 0) rfl, rfl, _, rfl, ite2 (fun z => absurd (of_decide_eq_true z) (by decide +kernel)) (fun _ => ⟨rfl, us, I, lus⟩)⟩
      rintro σ' J4 ⟨rfl, us, I, lus⟩
      have ht1 := I.same _ _ ht
      have hR1 := hR.same I.same
      have hS1 := I.same.seq hS
      refine ⟨_, rfl, t, 0, f1, r, _, rfl, ht1, by decide, fun J5 S5 => ⟨_, rfl, ?_⟩⟩
      refine iteT ⟨_, rfl, ?_⟩
      have I := I.on S5
      exact q o us J5 I.ho (fun u hu => ⟨o, I.chg u hu⟩) (by omega) I.same
    · have wf0 := wf
      cases (show x = [] from wf0)
      skip
      refine ⟨_, rfl, t, _, _, _, rfl, rfl, .inl (.inl (ht)), atI_nat (j := 0) rfl, _, rfl, wl, _, _, _, rfl, rfl, hS, atI_nat (j := 2) rfl, two, fun u1 n1 => ?_⟩
      generalize eG1 : upd H u1 _ = G1
      have s2 : Same H G1 := by rw [← eG1]; exact same_lay n1
      have k1 : G1 u1 = some (.tup [.str (kName 1), .str hh]) := by rw [← eG1]; exact upd_same
      refine ⟨_, rfl, _, rfl, t, _, rfl, .inl (.inl (s2 _ _ ht)), nwB (n := 2) (by decide) (show 0 < 3 by decide), fun u2 n2 => ?_⟩
      generalize eG3 : upd G1 u2 _ = G3
      have s4 : Same G1 G3 := by rw [← eG3]; exact same_lay n2
      have k2 : G3 u2 = some (.tup (.ref r :: [])) := by rw [← eG3]; exact upd_same
      refine ⟨u1, u2, _, _, rfl, rfl, .inl (.inl (s4 _ _ k1)), .inl (.inl k2), (fun z => nomatch z), by show 2 + 1 ≤ sizeLine; decide, (fun z => nomatch z), fun _ u3 n3 => ?_⟩
      generalize eG5 : upd G3 u3 _ = G5
      have s6 : Same G3 G5 := by rw [← eG5]; exact same_lay n3
      have k3 : G5 u3 = some (.tup (spT 1 hh r [])) := by rw [← eG5]; exact upd_same
      refine ⟨one, fun o no => ?_⟩
      have S3 := (s2.trans s4).trans s6
      have noH : H o = none := S3.free no
      have nro : r ≠ o := fun e => by rw [← e] at noH; rw [hR.at_] at noH; cases noH
      have cg0 : Chg o 1 f1 (rws L) [] G5 u3 := ⟨hh, r, [], L, nro, k3, wh1, rfl, hR.same S3, fun z => nhf z.1⟩
      have I0 : OI o 1 f1 (rws L) [] H (upd G5 o (.lst [])) [] := ⟨upd_same, fun _ hu => (nomatch hu), S3.trans (same_lay no), noH⟩
      have I := I0.step (Same.refl _) (cg0.same (same_lay no))
      rw [upd_upd] at I
      have I : OI o 1 f1 (rws L) [] H (upd G5 o (.lst [.ref u3])) [u3] := I
      generalize upd G5 o (.lst [.ref u3]) = J0 at I
      have lus : ([u3] : List Addr).length ≤ 1 := Nat.le_refl 1
      generalize ([u3] : List Addr) = us at I lus
      clear I0 cg0 k1 k2 k3 S3 s2 s4 s6 eG1 eG3 eG5 n1 n2 n3 no
      refine ⟨OInv wl t o 1 f1 (rws L) [] H none none 2, ?_, ?_⟩
      · have ht1 := I.same _ _ ht
        have hR1 := hR.same I.same
        have hS1 := I.same.seq hS
        refine ⟨_, rfl, .inl ⟨rfl, _, .inl (.inl I.ho)⟩, _, rfl, _, rfl, t, _, rfl, .inl (.inl (ht1)), nwA (n := 2) (show 2 < 3 by decide), fun v1 m1 => ?_⟩
        generalize eG7 : upd J0 v1 _ = G7
        have s8 : Same J0 G7 := by rw [← eG7]; exact same_lay m1
        have kv1 : G7 v1 = some (.tup [.str (kName 1), .str f1]) := by rw [← eG7]; exact upd_same
        refine ⟨_, rfl, t, _, _, _, rfl, rfl, .inl (.inl (s8 _ _ ht1)), atI_nat (j := 2) rfl, two, fun v2 m2 => ?_⟩
        generalize eG9 : upd G7 v2 _ = G9
        have s10 : Same G7 G9 := by rw [← eG9]; exact same_lay m2
        have kv2 : G9 v2 = some (.tup [.int 0, .int 4]) := by rw [← eG9]; exact upd_same
        refine ⟨one, fun v3 m3 => ?_⟩
        generalize eG11 : upd G9 v3 _ = G11
        have s12 : Same G9 G11 := by rw [← eG11]; exact same_lay m3
        have kv3 : G11 v3 = some (.lst [.ref v2]) := by rw [← eG11]; exact upd_same
        have T3 := (s8.trans s10).trans s12
        have hR3 := hR1.same T3
        refine ⟨.list ((rws L).map rowD), .list ([(0, 4)].map rowD), .lst (.inl (.inl hR3.at_)) (dp_rows hR3.rw_), .lst (.inl (.inl kv3)) (dp_rows (L := [(v2, (0, 4))]) (fun q hq => by rw [List.mem_singleton.mp hq]; exact s12 _ _ kv2)), shp_lst _, shp_lst _, _, rfl, ?_⟩
        rw [eqvL]
        by_cases cc : rws L = [(0, 4)]
        · rw [decide_eq_true cc]
          refine iteF ⟨two, fun v4 m4 => ?_⟩
          generalize eG13 : upd G11 v4 _ = G13
          have s14 : Same G11 G13 := by rw [← eG13]; exact same_lay m4
          have kv4 : G13 v4 = some (.tup [.int 0, .int 5]) := by rw [← eG13]; exact upd_same
          refine ⟨one, fun v5 m5 => ?_⟩
          generalize eG15 : upd G13 v5 _ = G15
          have s16 : Same G13 G15 := by rw [← eG15]; exact same_lay m5
          have kv5 : G15 v5 = some (.lst [.ref v4]) := by rw [← eG15]; exact upd_same
          refine ⟨v5, [(v4, (0, 5))], rfl, .inl (.inl kv5), (fun q hq => by rw [List.mem_singleton.mp hq]; exact s16 _ _ kv4), (fun q hq => by rw [List.mem_singleton.mp hq]; exact okRow_of (by decide) (by decide) (by decide)), by show 1 < 64; decide, fun m M A6 t6 nm hm hM nfM meM lenM _ => ?_⟩
          have eM : rws M = [(0, 5)] := Nf.unique nfM (nf_one (by decide)) meM
          refine ⟨one, fun v6 m6 => ?_⟩
          generalize eG17 : upd A6 v6 _ = G17
          have s18 : Same A6 G17 := by rw [← eG17]; exact same_lay m6
          have kv6 : G17 v6 = some (.tup [.ref m]) := by rw [← eG17]; exact upd_same
          have T7 := ((s14.trans s16).trans t6).trans s18
          have T8 := T3.trans T7
          refine ⟨v1, v6, _, _, rfl, rfl, .inl (.inl (T7 _ _ (s12 _ _ (s10 _ _ kv1)))), .inl (.inl kv6), (fun z => nomatch z), by show 2 + 1 ≤ sizeLine; decide, (fun z => nomatch z), fun _ v7 m7 => ?_⟩
          generalize eG19 : upd G17 v7 _ = G19
          have s20 : Same G17 G19 := by rw [← eG19]; exact same_lay m7
          have kv7 : G19 v7 = some (.tup [.str (kName 1), .str f1, .ref m]) := by rw [← eG19]; exact upd_same
          have T9 := T8.trans s20
          refine ⟨_, rfl, _, rfl, t, _, rfl, .inl (.inl (T9 _ _ ht1)), nwB (n := 3) (by decide) (show 0 < 3 by decide), fun v8 m8 => ?_⟩
          generalize eG21 : upd G19 v8 _ = G21
          have s22 : Same G19 G21 := by rw [← eG21]; exact same_lay m8
          have kv8 : G21 v8 = some (.tup []) := by rw [← eG21]; exact upd_same
          have nmo : m ≠ o := fun e => by
            have h2 := s16 _ _ (s14 _ _ (T3 _ _ I.ho))
            rw [e] at nm
            rw [nm] at h2
            cases h2
          refine ⟨v7, v8, _, _, rfl, rfl, .inl (.inl (s22 _ _ kv7)), .inl (.inl kv8), (fun z => nomatch z), by show 3 + 0 ≤ sizeLine; decide, (fun _ => ?_), (fun z => absurd rfl z)⟩
          have Tf := T9.trans s22
          have kf := s22 _ _ kv7
          have rowsM := (show RowsAt A6 m M from ⟨hm, hM, (fun q hq => by rw [eM] at hq; rw [List.mem_singleton.mp hq]; decide +kernel), nfM, by rw [← rws_len, eM]; decide⟩).same ((s18.trans s20).trans s22)
          have cg : Chg o 1 f1 (rws L) [] G21 v7 := ⟨f1, m, [], M, nmo, kf, wf1, wf, rowsM, fun z => absurd z.2.1 (by rw [eM, cc]; decide)⟩
          exact ⟨o, _, _, rfl, rfl, Tf _ _ I.ho, small1000 (by rw [List.length_map]; omega), rfl, _, I.step Tf cg, snoc_le lus⟩
        · rw [decide_eq_false cc]
          refine iteT ⟨two, fun v4 m4 => ?_⟩
          generalize eG23 : upd G11 v4 _ = G23
          have s24 : Same G11 G23 := by rw [← eG23]; exact same_lay m4
          have kv4 : G23 v4 = some (.tup [.int 0, .int 4]) := by rw [← eG23]; exact upd_same
          refine ⟨one, fun v5 m5 => ?_⟩
          generalize eG25 : upd G23 v5 _ = G25
          have s26 : Same G23 G25 := by rw [← eG25]; exact same_lay m5
          have kv5 : G25 v5 = some (.lst [.ref v4]) := by rw [← eG25]; exact upd_same
          refine ⟨v5, [(v4, (0, 4))], rfl, .inl (.inl kv5), (fun q hq => by rw [List.mem_singleton.mp hq]; exact s26 _ _ kv4), (fun q hq => by rw [List.mem_singleton.mp hq]; exact okRow_of (by decide) (by decide) (by decide)), by show 1 < 64; decide, fun m M A6 t6 nm hm hM nfM meM lenM _ => ?_⟩
          have eM : rws M = [(0, 4)] := Nf.unique nfM (nf_one (by decide)) meM
          refine ⟨one, fun v6 m6 => ?_⟩
          generalize eG27 : upd A6 v6 _ = G27
          have s28 : Same A6 G27 := by rw [← eG27]; exact same_lay m6
          have kv6 : G27 v6 = some (.tup [.ref m]) := by rw [← eG27]; exact upd_same
          have T7 := ((s24.trans s26).trans t6).trans s28
          have T8 := T3.trans T7
          refine ⟨v1, v6, _, _, rfl, rfl, .inl (.inl (T7 _ _ (s12 _ _ (s10 _ _ kv1)))), .inl (.inl kv6), (fun z => nomatch z), by show 2 + 1 ≤ sizeLine; decide, (fun z => nomatch z), fun _ v7 m7 => ?_⟩
          generalize eG29 : upd G27 v7 _ = G29
          have s30 : Same G27 G29 := by rw [← eG29]; exact same_lay m7
          have kv7 : G29 v7 = some (.tup [.str (kName 1), .str f1, .ref m]) := by rw [← eG29]; exact upd_same
          have T9 := T8.trans s30
          refine ⟨_, rfl, _, rfl, t, _, rfl, .inl (.inl (T9 _ _ ht1)), nwB (n := 3) (by decide) (show 0 < 3 by decide), fun v8 m8 => ?_⟩
          generalize eG31 : upd G29 v8 _ = G31
          have s32 : Same G29 G31 := by rw [← eG31]; exact same_lay m8
          have kv8 : G31 v8 = some (.tup []) := by rw [← eG31]; exact upd_same
          have nmo : m ≠ o := fun e => by
            have h2 := s26 _ _ (s24 _ _ (T3 _ _ I.ho))
            rw [e] at nm
            rw [nm] at h2
            cases h2
          refine ⟨v7, v8, _, _, rfl, rfl, .inl (.inl (s32 _ _ kv7)), .inl (.inl kv8), (fun z => nomatch z), by show 3 + 0 ≤ sizeLine; decide, (fun _ => ?_), (fun z => absurd rfl z)⟩
          have Tf := T9.trans s32
          have kf := s32 _ _ kv7
          have rowsM := (show RowsAt A6 m M from ⟨hm, hM, (fun q hq => by rw [eM] at hq; rw [List.mem_singleton.mp hq]; decide +kernel), nfM, by rw [← rws_len, eM]; decide⟩).same ((s28.trans s30).trans s32)
          have cg : Chg o 1 f1 (rws L) [] G31 v7 := ⟨f1, m, [], M, nmo, kf, wf1, wf, rowsM, fun z => cc (by rw [← z.2.1, eM])⟩
          exact ⟨o, _, _, rfl, rfl, Tf _ _ I.ho, small1000 (by rw [List.length_map]; omega), rfl, _, I.step Tf cg, snoc_le lus⟩
      rintro σ' J1 ⟨rfl, us, I, lus⟩
      refine ⟨OInv wl t o 1 f1 (rws L) [] H none none 2, ?_, ?_⟩
      · have ht1 := I.same _ _ ht
        have hR1 := hR.same I.same
        have hS1 := I.same.seq hS
        exact ⟨_, rfl, t, _, _, _, rfl, rfl, .inl (.inl (ht1)), atI_nat (j := 0) rfl, rfl, _, rfl, ite2 (fun z => absurd (of_decide_eq_true z) (by decide +kernel)) (fun _ => ⟨rfl, us, I, lus⟩)⟩
      rintro σ' J2 ⟨rfl, us, I, lus⟩
      refine ⟨OInv wl t o 1 f1 (rws L) [] H none none 2, ?_, ?_⟩
      · have ht1 := I.same _ _ ht
        have hR1 := hR.same I.same
        have hS1 := I.same.seq hS
        exact ⟨_, rfl, t, _, _, _, rfl, rfl, .inl (.inl (ht1)), atI_nat (j := 0) rfl, rfl, _, rfl, ite2 (fun z => absurd (of_decide_eq_true z) (by decide +kernel)) (fun _ => ⟨rfl, us, I, lus⟩)⟩
      rintro σ' J3 ⟨rfl, us, I, lus⟩
      refine ⟨OInv wl t o 1 f1 (rws L) [] H none none 2, ?_, ?_⟩
      · have ht1 := I.same _ _ ht
        have hR1 := hR.same I.same
        have hS1 := I.same.seq hS
        exact ⟨_, rfl, t, _, _, _, rfl, rfl, .inl (.inl (ht1)), atI_nat (j := 0) rfl, rfl, _, rfl, ite2 (fun z => absurd (of_decide_eq_true z) (by decide +kernel)) (fun _ => ⟨rfl, us, I, lus⟩)⟩
      rintro σ' J4 ⟨rfl, us, I, lus⟩
      have ht1 := I.same _ _ ht
      have hR1 := hR.same I.same
      have hS1 := I.same.seq hS
      refine ⟨_, rfl, t, 1, f1, r, _, rfl, ht1, by decide, fun J5 S5 => ⟨_, rfl, ?_⟩⟩
      refine iteT ⟨_, rfl, ?_⟩
      have I := I.on S5
      exact q o us J5 I.ho (fun u hu => ⟨o, I.chg u hu⟩) (by omega) I.same
    · have wf0 := wf
      obtain ⟨g0, rfl, hg, ng⟩ := wf0
      have eg : _ = g := V.str.inj (List.cons.inj (show _ = ([V.str g] : List V) from ot)).1
      subst eg
      skip
      refine ⟨_, rfl, t, _, _, _, rfl, rfl, .inl (.inl (ht)), atI_nat (j := 0) rfl, _, rfl, wl, _, _, _, rfl, rfl, hS, atI_nat (j := 2) rfl, two, fun u1 n1 => ?_⟩
      generalize eG1 : upd H u1 _ = G1
      have s2 : Same H G1 := by rw [← eG1]; exact same_lay n1
      have k1 : G1 u1 = some (.tup [.str (kName 2), .str hh]) := by rw [← eG1]; exact upd_same
      refine ⟨_, rfl, _, rfl, t, _, rfl, .inl (.inl (s2 _ _ ht)), nwB (n := 2) (by decide) (show 0 < 4 by decide), fun u2 n2 => ?_⟩
      generalize eG3 : upd G1 u2 _ = G3
      have s4 : Same G1 G3 := by rw [← eG3]; exact same_lay n2
      have k2 : G3 u2 = some (.tup (.ref r :: [.str g0])) := by rw [← eG3]; exact upd_same
      refine ⟨u1, u2, _, _, rfl, rfl, .inl (.inl (s4 _ _ k1)), .inl (.inl k2), (fun z => nomatch z), by show 2 + 2 ≤ sizeLine; decide, (fun z => nomatch z), fun _ u3 n3 => ?_⟩
      generalize eG5 : upd G3 u3 _ = G5
      have s6 : Same G3 G5 := by rw [← eG5]; exact same_lay n3
      have k3 : G5 u3 = some (.tup (spT 2 hh r [.str g0])) := by rw [← eG5]; exact upd_same
      refine ⟨one, fun o no => ?_⟩
      have S3 := (s2.trans s4).trans s6
      have noH : H o = none := S3.free no
      have nro : r ≠ o := fun e => by rw [← e] at noH; rw [hR.at_] at noH; cases noH
      have cg0 : Chg o 2 f1 (rws L) [.str g0] G5 u3 := ⟨hh, r, [.str g0], L, nro, k3, wh1, ⟨_, rfl, wg1, nhg.symm⟩, hR.same S3, fun z => nhf z.1⟩
      have I0 : OI o 2 f1 (rws L) [.str g0] H (upd G5 o (.lst [])) [] := ⟨upd_same, fun _ hu => (nomatch hu), S3.trans (same_lay no), noH⟩
      have I := I0.step (Same.refl _) (cg0.same (same_lay no))
      rw [upd_upd] at I
      have I : OI o 2 f1 (rws L) [.str g0] H (upd G5 o (.lst [.ref u3])) [u3] := I
      generalize upd G5 o (.lst [.ref u3]) = J0 at I
      have lus : ([u3] : List Addr).length ≤ 1 := Nat.le_refl 1
      generalize ([u3] : List Addr) = us at I lus
      clear I0 cg0 k1 k2 k3 S3 s2 s4 s6 eG1 eG3 eG5 n1 n2 n3 no
      refine ⟨OInv wl t o 2 f1 (rws L) [.str g0] H none none 2, ?_, ?_⟩
      · have ht1 := I.same _ _ ht
        have hR1 := hR.same I.same
        have hS1 := I.same.seq hS
        refine ⟨_, rfl, .inl ⟨rfl, _, .inl (.inl I.ho)⟩, _, rfl, _, rfl, t, _, rfl, .inl (.inl (ht1)), nwA (n := 2) (show 2 < 4 by decide), fun v1 m1 => ?_⟩
        generalize eG7 : upd J0 v1 _ = G7
        have s8 : Same J0 G7 := by rw [← eG7]; exact same_lay m1
        have kv1 : G7 v1 = some (.tup [.str (kName 2), .str f1]) := by rw [← eG7]; exact upd_same
        refine ⟨_, rfl, t, _, _, _, rfl, rfl, .inl (.inl (s8 _ _ ht1)), atI_nat (j := 2) rfl, two, fun v2 m2 => ?_⟩
        generalize eG9 : upd G7 v2 _ = G9
        have s10 : Same G7 G9 := by rw [← eG9]; exact same_lay m2
        have kv2 : G9 v2 = some (.tup [.int 0, .int 4]) := by rw [← eG9]; exact upd_same
        refine ⟨one, fun v3 m3 => ?_⟩
        generalize eG11 : upd G9 v3 _ = G11
        have s12 : Same G9 G11 := by rw [← eG11]; exact same_lay m3
        have kv3 : G11 v3 = some (.lst [.ref v2]) := by rw [← eG11]; exact upd_same
        have T3 := (s8.trans s10).trans s12
        have hR3 := hR1.same T3
        refine ⟨.list ((rws L).map rowD), .list ([(0, 4)].map rowD), .lst (.inl (.inl hR3.at_)) (dp_rows hR3.rw_), .lst (.inl (.inl kv3)) (dp_rows (L := [(v2, (0, 4))]) (fun q hq => by rw [List.mem_singleton.mp hq]; exact s12 _ _ kv2)), shp_lst _, shp_lst _, _, rfl, ?_⟩
        rw [eqvL]
        by_cases cc : rws L = [(0, 4)]
        · rw [decide_eq_true cc]
          refine iteF ⟨two, fun v4 m4 => ?_⟩
          generalize eG13 : upd G11 v4 _ = G13
          have s14 : Same G11 G13 := by rw [← eG13]; exact same_lay m4
          have kv4 : G13 v4 = some (.tup [.int 0, .int 5]) := by rw [← eG13]; exact upd_same
          refine ⟨one, fun v5 m5 => ?_⟩
          generalize eG15 : upd G13 v5 _ = G15
          have s16 : Same G13 G15 := by rw [← eG15]; exact same_lay m5
          have kv5 : G15 v5 = some (.lst [.ref v4]) := by rw [← eG15]; exact upd_same
          refine ⟨v5, [(v4, (0, 5))], rfl, .inl (.inl kv5), (fun q hq => by rw [List.mem_singleton.mp hq]; exact s16 _ _ kv4), (fun q hq => by rw [List.mem_singleton.mp hq]; exact okRow_of (by decide) (by decide) (by decide)), by show 1 < 64; decide, fun m M A6 t6 nm hm hM nfM meM lenM _ => ?_⟩
          have eM : rws M = [(0, 5)] := Nf.unique nfM (nf_one (by decide)) meM
          refine ⟨one, fun v6 m6 => ?_⟩
          generalize eG17 : upd A6 v6 _ = G17
          have s18 : Same A6 G17 := by rw [← eG17]; exact same_lay m6
          have kv6 : G17 v6 = some (.tup [.ref m]) := by rw [← eG17]; exact upd_same
          have T7 := ((s14.trans s16).trans t6).trans s18
          have T8 := T3.trans T7
          refine ⟨v1, v6, _, _, rfl, rfl, .inl (.inl (T7 _ _ (s12 _ _ (s10 _ _ kv1)))), .inl (.inl kv6), (fun z => nomatch z), by show 2 + 1 ≤ sizeLine; decide, (fun z => nomatch z), fun _ v7 m7 => ?_⟩
          generalize eG19 : upd G17 v7 _ = G19
          have s20 : Same G17 G19 := by rw [← eG19]; exact same_lay m7
          have kv7 : G19 v7 = some (.tup [.str (kName 2), .str f1, .ref m]) := by rw [← eG19]; exact upd_same
          have T9 := T8.trans s20
          refine ⟨_, rfl, _, rfl, t, _, rfl, .inl (.inl (T9 _ _ ht1)), nwB (n := 3) (by decide) (show 0 < 4 by decide), fun v8 m8 => ?_⟩
          generalize eG21 : upd G19 v8 _ = G21
          have s22 : Same G19 G21 := by rw [← eG21]; exact same_lay m8
          have kv8 : G21 v8 = some (.tup [.str g0]) := by rw [← eG21]; exact upd_same
          have nmo : m ≠ o := fun e => by
            have h2 := s16 _ _ (s14 _ _ (T3 _ _ I.ho))
            rw [e] at nm
            rw [nm] at h2
            cases h2
          refine ⟨v7, v8, _, _, rfl, rfl, .inl (.inl (s22 _ _ kv7)), .inl (.inl kv8), (fun z => nomatch z), by show 3 + 1 ≤ sizeLine; decide, (fun z => nomatch z), fun _ v9 m9 => ?_⟩
          generalize eG23 : upd G21 v9 _ = G23
          have s24 : Same G21 G23 := by rw [← eG23]; exact same_lay m9
          have kf : G23 v9 = some (.tup (spT 2 f1 m [.str g0])) := by rw [← eG23]; exact upd_same
          have Tf := (T9.trans s22).trans s24
          have rowsM := (show RowsAt A6 m M from ⟨hm, hM, (fun q hq => by rw [eM] at hq; rw [List.mem_singleton.mp hq]; decide +kernel), nfM, by rw [← rws_len, eM]; decide⟩).same (((s18.trans s20).trans s22).trans s24)
          have cg : Chg o 2 f1 (rws L) [.str g0] G23 v9 := ⟨f1, m, [.str g0], M, nmo, kf, wf1, wf, rowsM, fun z => absurd z.2.1 (by rw [eM, cc]; decide)⟩
          exact ⟨o, _, _, rfl, rfl, Tf _ _ I.ho, small1000 (by rw [List.length_map]; omega), rfl, _, I.step Tf cg, snoc_le lus⟩
        · rw [decide_eq_false cc]
          refine iteT ⟨two, fun v4 m4 => ?_⟩
          generalize eG25 : upd G11 v4 _ = G25
          have s26 : Same G11 G25 := by rw [← eG25]; exact same_lay m4
          have kv4 : G25 v4 = some (.tup [.int 0, .int 4]) := by rw [← eG25]; exact upd_same
          refine ⟨one, fun v5 m5 => ?_⟩
          generalize eG27 : upd G25 v5 _ = G27
          have s28 : Same G25 G27 := by rw [← eG27]; exact same_lay m5
          have kv5 : G27 v5 = some (.lst [.ref v4]) := by rw [← eG27]; exact upd_same
          refine ⟨v5, [(v4, (0, 4))], rfl, .inl (.inl kv5), (fun q hq => by rw [List.mem_singleton.mp hq]; exact s28 _ _ kv4), (fun q hq => by rw [List.mem_singleton.mp hq]; exact okRow_of (by decide) (by decide) (by decide)), by show 1 < 64; decide, fun m M A6 t6 nm hm hM nfM meM lenM _ => ?_⟩
          have eM : rws M = [(0, 4)] := Nf.unique nfM (nf_one (by decide)) meM
          refine ⟨one, fun v6 m6 => ?_⟩
          generalize eG29 : upd A6 v6 _ = G29
          have s30 : Same A6 G29 := by rw [← eG29]; exact same_lay m6
          have kv6 : G29 v6 = some (.tup [.ref m]) := by rw [← eG29]; exact upd_same
          have T7 := ((s26.trans s28).trans t6).trans s30
          have T8 := T3.trans T7
          refine ⟨v1, v6, _, _, rfl, rfl, .inl (.inl (T7 _ _ (s12 _ _ (s10 _ _ kv1)))), .inl (.inl kv6), (fun z => nomatch z), by show 2 + 1 ≤ sizeLine; decide, (fun z => nomatch z), fun _ v7 m7 => ?_⟩
          generalize eG31 : upd G29 v7 _ = G31
          have s32 : Same G29 G31 := by rw [← eG31]; exact same_lay m7
          have kv7 : G31 v7 = some (.tup [.str (kName 2), .str f1, .ref m]) := by rw [← eG31]; exact upd_same
          have T9 := T8.trans s32
          refine ⟨_, rfl, _, rfl, t, _, rfl, .inl (.inl (T9 _ _ ht1)), nwB (n := 3) (by decide) (show 0 < 4 by decide), fun v8 m8 => ?_⟩
          generalize eG33 : upd G31 v8 _ = G33
          have s34 : Same G31 G33 := by rw [← eG33]; exact same_lay m8
          have kv8 : G33 v8 = some (.tup [.str g0]) := by rw [← eG33]; exact upd_same
          have nmo : m ≠ o := fun e => by
            have h2 := s28 _ _ (s26 _ _ (T3 _ _ I.ho))
            rw [e] at nm
            rw [nm] at h2
            cases h2
          refine ⟨v7, v8, _, _, rfl, rfl, .inl (.inl (s34 _ _ kv7)), .inl (.inl kv8), (fun z => nomatch z), by show 3 + 1 ≤ sizeLine; decide, (fun z => nomatch z), fun _ v9 m9 => ?_⟩
          generalize eG35 : upd G33 v9 _ = G35
          have s36 : Same G33 G35 := by rw [← eG35]; exact same_lay m9
          have kf : G35 v9 = some (.tup (spT 2 f1 m [.str g0])) := by rw [← eG35]; exact upd_same
          have Tf := (T9.trans s34).trans s36
          have rowsM := (show RowsAt A6 m M from ⟨hm, hM, (fun q hq => by rw [eM] at hq; rw [List.mem_singleton.mp hq]; decide +kernel), nfM, by rw [← rws_len, eM]; decide⟩).same (((s30.trans s32).trans s34).trans s36)
          have cg : Chg o 2 f1 (rws L) [.str g0] G35 v9 := ⟨f1, m, [.str g0], M, nmo, kf, wf1, wf, rowsM, fun z => cc (by rw [← z.2.1, eM])⟩
          exact ⟨o, _, _, rfl, rfl, Tf _ _ I.ho, small1000 (by rw [List.length_map]; omega), rfl, _, I.step Tf cg, snoc_le lus⟩
      rintro σ' J1 ⟨rfl, us, I, lus⟩
      refine ⟨OInv wl t o 2 f1 (rws L) [.str g0] H none none 3, ?_, ?_⟩
      · have ht1 := I.same _ _ ht
        have hR1 := hR.same I.same
        have hS1 := I.same.seq hS
        refine ⟨_, rfl, t, _, _, _, rfl, rfl, .inl (.inl (ht1)), atI_nat (j := 0) rfl, rfl, _, rfl, ite2 (fun _ => ?_) (fun z => absurd (decide_eq_true rfl) z)⟩
        refine ⟨_, rfl, .inl ⟨rfl, _, .inl (.inl I.ho)⟩, _, rfl, _, rfl, t, _, rfl, .inl (.inl (ht1)), nwA (n := 3) (show 3 < 4 by decide), fun v1 m1 => ?_⟩
        generalize eG37 : upd J1 v1 _ = G37
        have s38 : Same J1 G37 := by rw [← eG37]; exact same_lay m1
        have kv1 : G37 v1 = some (.tup [.str (kName 2), .str f1, .ref r]) := by rw [← eG37]; exact upd_same
        refine ⟨_, rfl, wl, _, _, _, rfl, rfl, s38.seq hS1, atI_nat (j := 2) rfl, one, fun v2 m2 => ?_⟩
        generalize eG39 : upd G37 v2 _ = G39
        have s40 : Same G37 G39 := by rw [← eG39]; exact same_lay m2
        have kv2 : G39 v2 = some (.tup [.str hh]) := by rw [← eG39]; exact upd_same
        refine ⟨v1, v2, _, _, rfl, rfl, .inl (.inl (s40 _ _ kv1)), .inl (.inl kv2), (fun z => nomatch z), by show 3 + 1 ≤ sizeLine; decide, (fun z => nomatch z), fun _ v3 m3 => ?_⟩
        generalize eG41 : upd G39 v3 _ = G41
        have s42 : Same G39 G41 := by rw [← eG41]; exact same_lay m3
        have kf : G41 v3 = some (.tup (spT 2 f1 r [.str hh])) := by rw [← eG41]; exact upd_same
        have Tf := (s38.trans s40).trans s42
        have cg : Chg o 2 f1 (rws L) [.str g0] G41 v3 := ⟨f1, r, [.str hh], L, nro, kf, wf1, ⟨hh, rfl, wh1, nhf⟩, hR1.same Tf, fun z => nhg (V.str.inj (List.cons.inj z.2.2).1)⟩
        exact ⟨o, _, _, rfl, rfl, Tf _ _ I.ho, small1000 (by rw [List.length_map]; omega), rfl, _, I.step Tf cg, snoc_le lus⟩
      rintro σ' J2 ⟨rfl, us, I, lus⟩
      refine ⟨OInv wl t o 2 f1 (rws L) [.str g0] H none none 3, ?_, ?_⟩
      · have ht1 := I.same _ _ ht
        have hR1 := hR.same I.same
        have hS1 := I.same.seq hS
        exact ⟨_, rfl, t, _, _, _, rfl, rfl, .inl (.inl (ht1)), atI_nat (j := 0) rfl, rfl, _, rfl, ite2 (fun z => absurd (of_decide_eq_true z) (by decide +kernel)) (fun _ => ⟨rfl, us, I, lus⟩)⟩
      rintro σ' J3 ⟨rfl, us, I, lus⟩
      refine ⟨OInv wl t o 2 f1 (rws L) [.str g0] H none none 3, ?_, ?_⟩
      · have ht1 := I.same _ _ ht
        have hR1 := hR.same I.same
        have hS1 := I.same.seq hS
        exact ⟨_, rfl, t, _, _, _, rfl, rfl, .inl (.inl (ht1)), atI_nat (j := 0) rfl, rfl, _, rfl, ite2 (fun z => absurd (of_decide_eq_true z) (by decide +kernel)) (fun _ => ⟨rfl, us, I, lus⟩)⟩
      rintro σ' J4 ⟨rfl, us, I, lus⟩
      have ht1 := I.same _ _ ht
      have hR1 := hR.same I.same
      have hS1 := I.same.seq hS
      refine ⟨_, rfl, t, 2, f1, r, _, rfl, ht1, by decide, fun J5 S5 => ⟨_, rfl, ?_⟩⟩
      refine iteT ⟨_, rfl, ?_⟩
      have I := I.on S5
      exact q o us J5 I.ho (fun u hu => ⟨o, I.chg u hu⟩) (by omega) I.same
    · have wf0 := wf
      obtain ⟨w, rfl, hs⟩ := wf0
      skip
      refine ⟨_, rfl, t, _, _, _, rfl, rfl, .inl (.inl (ht)), atI_nat (j := 0) rfl, _, rfl, wl, _, _, _, rfl, rfl, hS, atI_nat (j := 2) rfl, two, fun u1 n1 => ?_⟩
      generalize eG1 : upd H u1 _ = G1
      have s2 : Same H G1 := by rw [← eG1]; exact same_lay n1
      have k1 : G1 u1 = some (.tup [.str (kName 3), .str hh]) := by rw [← eG1]; exact upd_same
      refine ⟨_, rfl, _, rfl, t, _, rfl, .inl (.inl (s2 _ _ ht)), nwB (n := 2) (by decide) (show 0 < 4 by decide), fun u2 n2 => ?_⟩
      generalize eG3 : upd G1 u2 _ = G3
      have s4 : Same G1 G3 := by rw [← eG3]; exact same_lay n2
      have k2 : G3 u2 = some (.tup (.ref r :: [.str w])) := by rw [← eG3]; exact upd_same
      refine ⟨u1, u2, _, _, rfl, rfl, .inl (.inl (s4 _ _ k1)), .inl (.inl k2), (fun z => nomatch z), by show 2 + 2 ≤ sizeLine; decide, (fun z => nomatch z), fun _ u3 n3 => ?_⟩
      generalize eG5 : upd G3 u3 _ = G5
      have s6 : Same G3 G5 := by rw [← eG5]; exact same_lay n3
      have k3 : G5 u3 = some (.tup (spT 3 hh r [.str w])) := by rw [← eG5]; exact upd_same
      refine ⟨one, fun o no => ?_⟩
      have S3 := (s2.trans s4).trans s6
      have noH : H o = none := S3.free no
      have nro : r ≠ o := fun e => by rw [← e] at noH; rw [hR.at_] at noH; cases noH
      have cg0 : Chg o 3 f1 (rws L) [.str w] G5 u3 := ⟨hh, r, [.str w], L, nro, k3, wh1, wf, hR.same S3, fun z => nhf z.1⟩
      have I0 : OI o 3 f1 (rws L) [.str w] H (upd G5 o (.lst [])) [] := ⟨upd_same, fun _ hu => (nomatch hu), S3.trans (same_lay no), noH⟩
      have I := I0.step (Same.refl _) (cg0.same (same_lay no))
      rw [upd_upd] at I
      have I : OI o 3 f1 (rws L) [.str w] H (upd G5 o (.lst [.ref u3])) [u3] := I
      generalize upd G5 o (.lst [.ref u3]) = J0 at I
      have lus : ([u3] : List Addr).length ≤ 1 := Nat.le_refl 1
      generalize ([u3] : List Addr) = us at I lus
      clear I0 cg0 k1 k2 k3 S3 s2 s4 s6 eG1 eG3 eG5 n1 n2 n3 no
      refine ⟨OInv wl t o 3 f1 (rws L) [.str w] H none none 2, ?_, ?_⟩
      · have ht1 := I.same _ _ ht
        have hR1 := hR.same I.same
        have hS1 := I.same.seq hS
        refine ⟨_, rfl, .inl ⟨rfl, _, .inl (.inl I.ho)⟩, _, rfl, _, rfl, t, _, rfl, .inl (.inl (ht1)), nwA (n := 2) (show 2 < 4 by decide), fun v1 m1 => ?_⟩
        generalize eG7 : upd J0 v1 _ = G7
        have s8 : Same J0 G7 := by rw [← eG7]; exact same_lay m1
        have kv1 : G7 v1 = some (.tup [.str (kName 3), .str f1]) := by rw [← eG7]; exact upd_same
        refine ⟨_, rfl, t, _, _, _, rfl, rfl, .inl (.inl (s8 _ _ ht1)), atI_nat (j := 2) rfl, two, fun v2 m2 => ?_⟩
        generalize eG9 : upd G7 v2 _ = G9
        have s10 : Same G7 G9 := by rw [← eG9]; exact same_lay m2
        have kv2 : G9 v2 = some (.tup [.int 0, .int 4]) := by rw [← eG9]; exact upd_same
        refine ⟨one, fun v3 m3 => ?_⟩
        generalize eG11 : upd G9 v3 _ = G11
        have s12 : Same G9 G11 := by rw [← eG11]; exact same_lay m3
        have kv3 : G11 v3 = some (.lst [.ref v2]) := by rw [← eG11]; exact upd_same
        have T3 := (s8.trans s10).trans s12
        have hR3 := hR1.same T3
        refine ⟨.list ((rws L).map rowD), .list ([(0, 4)].map rowD), .lst (.inl (.inl hR3.at_)) (dp_rows hR3.rw_), .lst (.inl (.inl kv3)) (dp_rows (L := [(v2, (0, 4))]) (fun q hq => by rw [List.mem_singleton.mp hq]; exact s12 _ _ kv2)), shp_lst _, shp_lst _, _, rfl, ?_⟩
        rw [eqvL]
        by_cases cc : rws L = [(0, 4)]
        · rw [decide_eq_true cc]
          refine iteF ⟨two, fun v4 m4 => ?_⟩
          generalize eG13 : upd G11 v4 _ = G13
          have s14 : Same G11 G13 := by rw [← eG13]; exact same_lay m4
          have kv4 : G13 v4 = some (.tup [.int 0, .int 5]) := by rw [← eG13]; exact upd_same
          refine ⟨one, fun v5 m5 => ?_⟩
          generalize eG15 : upd G13 v5 _ = G15
          have s16 : Same G13 G15 := by rw [← eG15]; exact same_lay m5
          have kv5 : G15 v5 = some (.lst [.ref v4]) := by rw [← eG15]; exact upd_same
          refine ⟨v5, [(v4, (0, 5))], rfl, .inl (.inl kv5), (fun q hq => by rw [List.mem_singleton.mp hq]; exact s16 _ _ kv4), (fun q hq => by rw [List.mem_singleton.mp hq]; exact okRow_of (by decide) (by decide) (by decide)), by show 1 < 64; decide, fun m M A6 t6 nm hm hM nfM meM lenM _ => ?_⟩
          have eM : rws M = [(0, 5)] := Nf.unique nfM (nf_one (by decide)) meM
          refine ⟨one, fun v6 m6 => ?_⟩
          generalize eG17 : upd A6 v6 _ = G17
          have s18 : Same A6 G17 := by rw [← eG17]; exact same_lay m6
          have kv6 : G17 v6 = some (.tup [.ref m]) := by rw [← eG17]; exact upd_same
          have T7 := ((s14.trans s16).trans t6).trans s18
          have T8 := T3.trans T7
          refine ⟨v1, v6, _, _, rfl, rfl, .inl (.inl (T7 _ _ (s12 _ _ (s10 _ _ kv1)))), .inl (.inl kv6), (fun z => nomatch z), by show 2 + 1 ≤ sizeLine; decide, (fun z => nomatch z), fun _ v7 m7 => ?_⟩
          generalize eG19 : upd G17 v7 _ = G19
          have s20 : Same G17 G19 := by rw [← eG19]; exact same_lay m7
          have kv7 : G19 v7 = some (.tup [.str (kName 3), .str f1, .ref m]) := by rw [← eG19]; exact upd_same
          have T9 := T8.trans s20
          refine ⟨_, rfl, _, rfl, t, _, rfl, .inl (.inl (T9 _ _ ht1)), nwB (n := 3) (by decide) (show 0 < 4 by decide), fun v8 m8 => ?_⟩
          generalize eG21 : upd G19 v8 _ = G21
          have s22 : Same G19 G21 := by rw [← eG21]; exact same_lay m8
          have kv8 : G21 v8 = some (.tup [.str w]) := by rw [← eG21]; exact upd_same
          have nmo : m ≠ o := fun e => by
            have h2 := s16 _ _ (s14 _ _ (T3 _ _ I.ho))
            rw [e] at nm
            rw [nm] at h2
            cases h2
          refine ⟨v7, v8, _, _, rfl, rfl, .inl (.inl (s22 _ _ kv7)), .inl (.inl kv8), (fun z => nomatch z), by show 3 + 1 ≤ sizeLine; decide, (fun z => nomatch z), fun _ v9 m9 => ?_⟩
          generalize eG23 : upd G21 v9 _ = G23
          have s24 : Same G21 G23 := by rw [← eG23]; exact same_lay m9
          have kf : G23 v9 = some (.tup (spT 3 f1 m [.str w])) := by rw [← eG23]; exact upd_same
          have Tf := (T9.trans s22).trans s24
          have rowsM := (show RowsAt A6 m M from ⟨hm, hM, (fun q hq => by rw [eM] at hq; rw [List.mem_singleton.mp hq]; decide +kernel), nfM, by rw [← rws_len, eM]; decide⟩).same (((s18.trans s20).trans s22).trans s24)
          have cg : Chg o 3 f1 (rws L) [.str w] G23 v9 := ⟨f1, m, [.str w], M, nmo, kf, wf1, wf, rowsM, fun z => absurd z.2.1 (by rw [eM, cc]; decide)⟩
          exact ⟨o, _, _, rfl, rfl, Tf _ _ I.ho, small1000 (by rw [List.length_map]; omega), rfl, _, I.step Tf cg, snoc_le lus⟩
        · rw [decide_eq_false cc]
          refine iteT ⟨two, fun v4 m4 => ?_⟩
          generalize eG25 : upd G11 v4 _ = G25
          have s26 : Same G11 G25 := by rw [← eG25]; exact same_lay m4
          have kv4 : G25 v4 = some (.tup [.int 0, .int 4]) := by rw [← eG25]; exact upd_same
          refine ⟨one, fun v5 m5 => ?_⟩
          generalize eG27 : upd G25 v5 _ = G27
          have s28 : Same G25 G27 := by rw [← eG27]; exact same_lay m5
          have kv5 : G27 v5 = some (.lst [.ref v4]) := by rw [← eG27]; exact upd_same
          refine ⟨v5, [(v4, (0, 4))], rfl, .inl (.inl kv5), (fun q hq => by rw [List.mem_singleton.mp hq]; exact s28 _ _ kv4), (fun q hq => by rw [List.mem_singleton.mp hq]; exact okRow_of (by decide) (by decide) (by decide)), by show 1 < 64; decide, fun m M A6 t6 nm hm hM nfM meM lenM _ => ?_⟩
          have eM : rws M = [(0, 4)] := Nf.unique nfM (nf_one (by decide)) meM
          refine ⟨one, fun v6 m6 => ?_⟩
          generalize eG29 : upd A6 v6 _ = G29
          have s30 : Same A6 G29 := by rw [← eG29]; exact same_lay m6
          have kv6 : G29 v6 = some (.tup [.ref m]) := by rw [← eG29]; exact upd_same
          have T7 := ((s26.trans s28).trans t6).trans s30
          have T8 := T3.trans T7
          refine ⟨v1, v6, _, _, rfl, rfl, .inl (.inl (T7 _ _ (s12 _ _ (s10 _ _ kv1)))), .inl (.inl kv6), (fun z => nomatch z), by show 2 + 1 ≤ sizeLine; decide, (fun z => nomatch z), fun _ v7 m7 => ?_⟩
          generalize eG31 : upd G29 v7 _ = G31
          have s32 : Same G29 G31 := by rw [← eG31]; exact same_lay m7
          have kv7 : G31 v7 = some (.tup [.str (kName 3), .str f1, .ref m]) := by rw [← eG31]; exact upd_same
          have T9 := T8.trans s32
          refine ⟨_, rfl, _, rfl, t, _, rfl, .inl (.inl (T9 _ _ ht1)), nwB (n := 3) (by decide) (show 0 < 4 by decide), fun v8 m8 => ?_⟩
          generalize eG33 : upd G31 v8 _ = G33
          have s34 : Same G31 G33 := by rw [← eG33]; exact same_lay m8
          have kv8 : G33 v8 = some (.tup [.str w]) := by rw [← eG33]; exact upd_same
          have nmo : m ≠ o := fun e => by
            have h2 := s28 _ _ (s26 _ _ (T3 _ _ I.ho))
            rw [e] at nm
            rw [nm] at h2
            cases h2
          refine ⟨v7, v8, _, _, rfl, rfl, .inl (.inl (s34 _ _ kv7)), .inl (.inl kv8), (fun z => nomatch z), by show 3 + 1 ≤ sizeLine; decide, (fun z => nomatch z), fun _ v9 m9 => ?_⟩
          generalize eG35 : upd G33 v9 _ = G35
          have s36 : Same G33 G35 := by rw [← eG35]; exact same_lay m9
          have kf : G35 v9 = some (.tup (spT 3 f1 m [.str w])) := by rw [← eG35]; exact upd_same
          have Tf := (T9.trans s34).trans s36
          have rowsM := (show RowsAt A6 m M from ⟨hm, hM, (fun q hq => by rw [eM] at hq; rw [List.mem_singleton.mp hq]; decide +kernel), nfM, by rw [← rws_len, eM]; decide⟩).same (((s30.trans s32).trans s34).trans s36)
          have cg : Chg o 3 f1 (rws L) [.str w] G35 v9 := ⟨f1, m, [.str w], M, nmo, kf, wf1, wf, rowsM, fun z => cc (by rw [← z.2.1, eM])⟩
          exact ⟨o, _, _, rfl, rfl, Tf _ _ I.ho, small1000 (by rw [List.length_map]; omega), rfl, _, I.step Tf cg, snoc_le lus⟩
      rintro σ' J1 ⟨rfl, us, I, lus⟩
      refine ⟨OInv wl t o 3 f1 (rws L) [.str w] H none none 2, ?_, ?_⟩
      · have ht1 := I.same _ _ ht
        have hR1 := hR.same I.same
        have hS1 := I.same.seq hS
        exact ⟨_, rfl, t, _, _, _, rfl, rfl, .inl (.inl (ht1)), atI_nat (j := 0) rfl, rfl, _, rfl, ite2 (fun z => absurd (of_decide_eq_true z) (by decide +kernel)) (fun _ => ⟨rfl, us, I, lus⟩)⟩
      rintro σ' J2 ⟨rfl, us, I, lus⟩
      refine ⟨OInv wl t o 3 f1 (rws L) [.str w] H none none 3, ?_, ?_⟩
      · have ht1 := I.same _ _ ht
        have hR1 := hR.same I.same
        have hS1 := I.same.seq hS
        refine ⟨_, rfl, t, _, _, _, rfl, rfl, .inl (.inl (ht1)), atI_nat (j := 0) rfl, rfl, _, rfl, ite2 (fun _ => ?_) (fun z => absurd (decide_eq_true rfl) z)⟩
        refine ⟨_, rfl, .inl ⟨rfl, _, .inl (.inl I.ho)⟩, _, rfl, _, rfl, t, _, rfl, .inl (.inl (ht1)), nwA (n := 3) (show 3 < 4 by decide), fun v1 m1 => ?_⟩
        generalize eG37 : upd J2 v1 _ = G37
        have s38 : Same J2 G37 := by rw [← eG37]; exact same_lay m1
        have kv1 : G37 v1 = some (.tup [.str (kName 3), .str f1, .ref r]) := by rw [← eG37]; exact upd_same
        refine ⟨_, rfl, t, _, _, _, rfl, rfl, .inl (.inl (s38 _ _ ht1)), atI_nat (j := 3) rfl, rfl, _, rfl, ?_⟩
        by_cases cd : V.str w = V.str ("down" : Str)
        · rw [decide_eq_true cd]
          refine iteT ⟨one, fun v2 m2 => ?_⟩
          generalize eG39 : upd G37 v2 _ = G39
          have s40 : Same G37 G39 := by rw [← eG39]; exact same_lay m2
          have kv2 : G39 v2 = some (.tup [.str "up"]) := by rw [← eG39]; exact upd_same
          refine ⟨v1, v2, _, _, rfl, rfl, .inl (.inl (s40 _ _ kv1)), .inl (.inl kv2), (fun z => nomatch z), by show 3 + 1 ≤ sizeLine; decide, (fun z => nomatch z), fun _ v3 m3 => ?_⟩
          generalize eG41 : upd G39 v3 _ = G41
          have s42 : Same G39 G41 := by rw [← eG41]; exact same_lay m3
          have kf : G41 v3 = some (.tup (spT 3 f1 r [.str "up"])) := by rw [← eG41]; exact upd_same
          have Tf := (s38.trans s40).trans s42
          have cg : Chg o 3 f1 (rws L) [.str w] G41 v3 := ⟨f1, r, [.str "up"], L, nro, kf, wf1, ⟨_, rfl, .inl rfl⟩, hR1.same Tf, fun z => absurd (cd.symm.trans (List.cons.inj z.2.2).1.symm) (by decide +kernel)⟩
          exact ⟨o, _, _, rfl, rfl, Tf _ _ I.ho, small1000 (by rw [List.length_map]; omega), rfl, _, I.step Tf cg, snoc_le lus⟩
        · rw [decide_eq_false cd]
          refine iteF ⟨one, fun v2 m2 => ?_⟩
          generalize eG43 : upd G37 v2 _ = G43
          have s44 : Same G37 G43 := by rw [← eG43]; exact same_lay m2
          have kv2 : G43 v2 = some (.tup [.str "down"]) := by rw [← eG43]; exact upd_same
          refine ⟨v1, v2, _, _, rfl, rfl, .inl (.inl (s44 _ _ kv1)), .inl (.inl kv2), (fun z => nomatch z), by show 3 + 1 ≤ sizeLine; decide, (fun z => nomatch z), fun _ v3 m3 => ?_⟩
          generalize eG45 : upd G43 v3 _ = G45
          have s46 : Same G43 G45 := by rw [← eG45]; exact same_lay m3
          have kf : G45 v3 = some (.tup (spT 3 f1 r [.str "down"])) := by rw [← eG45]; exact upd_same
          have Tf := (s38.trans s44).trans s46
          have cg : Chg o 3 f1 (rws L) [.str w] G45 v3 := ⟨f1, r, [.str "down"], L, nro, kf, wf1, ⟨_, rfl, .inr rfl⟩, hR1.same Tf, fun z => cd ((List.cons.inj z.2.2).1.symm)⟩
          exact ⟨o, _, _, rfl, rfl, Tf _ _ I.ho, small1000 (by rw [List.length_map]; omega), rfl, _, I.step Tf cg, snoc_le lus⟩
      rintro σ' J3 ⟨rfl, us, I, lus⟩
      refine ⟨OInv wl t o 3 f1 (rws L) [.str w] H none none 3, ?_, ?_⟩
      · have ht1 := I.same _ _ ht
        have hR1 := hR.same I.same
        have hS1 := I.same.seq hS
        exact ⟨_, rfl, t, _, _, _, rfl, rfl, .inl (.inl (ht1)), atI_nat (j := 0) rfl, rfl, _, rfl, ite2 (fun z => absurd (of_decide_eq_true z) (by decide +kernel)) (fun _ => ⟨rfl, us, I, lus⟩)⟩
      rintro σ' J4 ⟨rfl, us, I, lus⟩
      have ht1 := I.same _ _ ht
      have hR1 := hR.same I.same
      have hS1 := I.same.seq hS
      refine ⟨_, rfl, t, 3, f1, r, _, rfl, ht1, by decide, fun J5 S5 => ⟨_, rfl, ?_⟩⟩
      refine iteT ⟨_, rfl, ?_⟩
      have I := I.on S5
      exact q o us J5 I.ho (fun u hu => ⟨o, I.chg u hu⟩) (by omega) I.same
    · have wf0 := wf
      obtain ⟨s, a, b, rfl, hs, na, nb⟩ := wf0
      skip
      refine ⟨_, rfl, t, _, _, _, rfl, rfl, .inl (.inl (ht)), atI_nat (j := 0) rfl, _, rfl, wl, _, _, _, rfl, rfl, hS, atI_nat (j := 2) rfl, two, fun u1 n1 => ?_⟩
      generalize eG1 : upd H u1 _ = G1
      have s2 : Same H G1 := by rw [← eG1]; exact same_lay n1
      have k1 : G1 u1 = some (.tup [.str (kName 4), .str hh]) := by rw [← eG1]; exact upd_same
      refine ⟨_, rfl, _, rfl, t, _, rfl, .inl (.inl (s2 _ _ ht)), nwB (n := 2) (by decide) (show 0 < 6 by decide), fun u2 n2 => ?_⟩
      generalize eG3 : upd G1 u2 _ = G3
      have s4 : Same G1 G3 := by rw [← eG3]; exact same_lay n2
      have k2 : G3 u2 = some (.tup (.ref r :: [.str s, .int a, .int b])) := by rw [← eG3]; exact upd_same
      refine ⟨u1, u2, _, _, rfl, rfl, .inl (.inl (s4 _ _ k1)), .inl (.inl k2), (fun z => nomatch z), by show 2 + 4 ≤ sizeLine; decide, (fun z => nomatch z), fun _ u3 n3 => ?_⟩
      generalize eG5 : upd G3 u3 _ = G5
      have s6 : Same G3 G5 := by rw [← eG5]; exact same_lay n3
      have k3 : G5 u3 = some (.tup (spT 4 hh r [.str s, .int a, .int b])) := by rw [← eG5]; exact upd_same
      refine ⟨one, fun o no => ?_⟩
      have S3 := (s2.trans s4).trans s6
      have noH : H o = none := S3.free no
      have nro : r ≠ o := fun e => by rw [← e] at noH; rw [hR.at_] at noH; cases noH
      have cg0 : Chg o 4 f1 (rws L) [.str s, .int a, .int b] G5 u3 := ⟨hh, r, [.str s, .int a, .int b], L, nro, k3, wh1, wf, hR.same S3, fun z => nhf z.1⟩
      have I0 : OI o 4 f1 (rws L) [.str s, .int a, .int b] H (upd G5 o (.lst [])) [] := ⟨upd_same, fun _ hu => (nomatch hu), S3.trans (same_lay no), noH⟩
      have I := I0.step (Same.refl _) (cg0.same (same_lay no))
      rw [upd_upd] at I
      have I : OI o 4 f1 (rws L) [.str s, .int a, .int b] H (upd G5 o (.lst [.ref u3])) [u3] := I
      generalize upd G5 o (.lst [.ref u3]) = J0 at I
      have lus : ([u3] : List Addr).length ≤ 1 := Nat.le_refl 1
      generalize ([u3] : List Addr) = us at I lus
      clear I0 cg0 k1 k2 k3 S3 s2 s4 s6 eG1 eG3 eG5 n1 n2 n3 no
      refine ⟨OInv wl t o 4 f1 (rws L) [.str s, .int a, .int b] H none none 2, ?_, ?_⟩
      · have ht1 := I.same _ _ ht
        have hR1 := hR.same I.same
        have hS1 := I.same.seq hS
        refine ⟨_, rfl, .inl ⟨rfl, _, .inl (.inl I.ho)⟩, _, rfl, _, rfl, t, _, rfl, .inl (.inl (ht1)), nwA (n := 2) (show 2 < 6 by decide), fun v1 m1 => ?_⟩
        generalize eG7 : upd J0 v1 _ = G7
        have s8 : Same J0 G7 := by rw [← eG7]; exact same_lay m1
        have kv1 : G7 v1 = some (.tup [.str (kName 4), .str f1]) := by rw [← eG7]; exact upd_same
        refine ⟨_, rfl, t, _, _, _, rfl, rfl, .inl (.inl (s8 _ _ ht1)), atI_nat (j := 2) rfl, two, fun v2 m2 => ?_⟩
        generalize eG9 : upd G7 v2 _ = G9
        have s10 : Same G7 G9 := by rw [← eG9]; exact same_lay m2
        have kv2 : G9 v2 = some (.tup [.int 0, .int 4]) := by rw [← eG9]; exact upd_same
        refine ⟨one, fun v3 m3 => ?_⟩
        generalize eG11 : upd G9 v3 _ = G11
        have s12 : Same G9 G11 := by rw [← eG11]; exact same_lay m3
        have kv3 : G11 v3 = some (.lst [.ref v2]) := by rw [← eG11]; exact upd_same
        have T3 := (s8.trans s10).trans s12
        have hR3 := hR1.same T3
        refine ⟨.list ((rws L).map rowD), .list ([(0, 4)].map rowD), .lst (.inl (.inl hR3.at_)) (dp_rows hR3.rw_), .lst (.inl (.inl kv3)) (dp_rows (L := [(v2, (0, 4))]) (fun q hq => by rw [List.mem_singleton.mp hq]; exact s12 _ _ kv2)), shp_lst _, shp_lst _, _, rfl, ?_⟩
        rw [eqvL]
        by_cases cc : rws L = [(0, 4)]
        · rw [decide_eq_true cc]
          refine iteF ⟨two, fun v4 m4 => ?_⟩
          generalize eG13 : upd G11 v4 _ = G13
          have s14 : Same G11 G13 := by rw [← eG13]; exact same_lay m4
          have kv4 : G13 v4 = some (.tup [.int 0, .int 5]) := by rw [← eG13]; exact upd_same
          refine ⟨one, fun v5 m5 => ?_⟩
          generalize eG15 : upd G13 v5 _ = G15
          have s16 : Same G13 G15 := by rw [← eG15]; exact same_lay m5
          have kv5 : G15 v5 = some (.lst [.ref v4]) := by rw [← eG15]; exact upd_same
          refine ⟨v5, [(v4, (0, 5))], rfl, .inl (.inl kv5), (fun q hq => by rw [List.mem_singleton.mp hq]; exact s16 _ _ kv4), (fun q hq => by rw [List.mem_singleton.mp hq]; exact okRow_of (by decide) (by decide) (by decide)), by show 1 < 64; decide, fun m M A6 t6 nm hm hM nfM meM lenM _ => ?_⟩
          have eM : rws M = [(0, 5)] := Nf.unique nfM (nf_one (by decide)) meM
          refine ⟨one, fun v6 m6 => ?_⟩
          generalize eG17 : upd A6 v6 _ = G17
          have s18 : Same A6 G17 := by rw [← eG17]; exact same_lay m6
          have kv6 : G17 v6 = some (.tup [.ref m]) := by rw [← eG17]; exact upd_same
          have T7 := ((s14.trans s16).trans t6).trans s18
          have T8 := T3.trans T7
          refine ⟨v1, v6, _, _, rfl, rfl, .inl (.inl (T7 _ _ (s12 _ _ (s10 _ _ kv1)))), .inl (.inl kv6), (fun z => nomatch z), by show 2 + 1 ≤ sizeLine; decide, (fun z => nomatch z), fun _ v7 m7 => ?_⟩
          generalize eG19 : upd G17 v7 _ = G19
          have s20 : Same G17 G19 := by rw [← eG19]; exact same_lay m7
          have kv7 : G19 v7 = some (.tup [.str (kName 4), .str f1, .ref m]) := by rw [← eG19]; exact upd_same
          have T9 := T8.trans s20
          refine ⟨_, rfl, _, rfl, t, _, rfl, .inl (.inl (T9 _ _ ht1)), nwB (n := 3) (by decide) (show 0 < 6 by decide), fun v8 m8 => ?_⟩
          generalize eG21 : upd G19 v8 _ = G21
          have s22 : Same G19 G21 := by rw [← eG21]; exact same_lay m8
          have kv8 : G21 v8 = some (.tup [.str s, .int a, .int b]) := by rw [← eG21]; exact upd_same
          have nmo : m ≠ o := fun e => by
            have h2 := s16 _ _ (s14 _ _ (T3 _ _ I.ho))
            rw [e] at nm
            rw [nm] at h2
            cases h2
          refine ⟨v7, v8, _, _, rfl, rfl, .inl (.inl (s22 _ _ kv7)), .inl (.inl kv8), (fun z => nomatch z), by show 3 + 3 ≤ sizeLine; decide, (fun z => nomatch z), fun _ v9 m9 => ?_⟩
          generalize eG23 : upd G21 v9 _ = G23
          have s24 : Same G21 G23 := by rw [← eG23]; exact same_lay m9
          have kf : G23 v9 = some (.tup (spT 4 f1 m [.str s, .int a, .int b])) := by rw [← eG23]; exact upd_same
          have Tf := (T9.trans s22).trans s24
          have rowsM := (show RowsAt A6 m M from ⟨hm, hM, (fun q hq => by rw [eM] at hq; rw [List.mem_singleton.mp hq]; decide +kernel), nfM, by rw [← rws_len, eM]; decide⟩).same (((s18.trans s20).trans s22).trans s24)
          have cg : Chg o 4 f1 (rws L) [.str s, .int a, .int b] G23 v9 := ⟨f1, m, [.str s, .int a, .int b], M, nmo, kf, wf1, wf, rowsM, fun z => absurd z.2.1 (by rw [eM, cc]; decide)⟩
          exact ⟨o, _, _, rfl, rfl, Tf _ _ I.ho, small1000 (by rw [List.length_map]; omega), rfl, _, I.step Tf cg, snoc_le lus⟩
        · rw [decide_eq_false cc]
          refine iteT ⟨two, fun v4 m4 => ?_⟩
          generalize eG25 : upd G11 v4 _ = G25
          have s26 : Same G11 G25 := by rw [← eG25]; exact same_lay m4
          have kv4 : G25 v4 = some (.tup [.int 0, .int 4]) := by rw [← eG25]; exact upd_same
          refine ⟨one, fun v5 m5 => ?_⟩
          generalize eG27 : upd G25 v5 _ = G27
          have s28 : Same G25 G27 := by rw [← eG27]; exact same_lay m5
          have kv5 : G27 v5 = some (.lst [.ref v4]) := by rw [← eG27]; exact upd_same
          refine ⟨v5, [(v4, (0, 4))], rfl, .inl (.inl kv5), (fun q hq => by rw [List.mem_singleton.mp hq]; exact s28 _ _ kv4), (fun q hq => by rw [List.mem_singleton.mp hq]; exact okRow_of (by decide) (by decide) (by decide)), by show 1 < 64; decide, fun m M A6 t6 nm hm hM nfM meM lenM _ => ?_⟩
          have eM : rws M = [(0, 4)] := Nf.unique nfM (nf_one (by decide)) meM
          refine ⟨one, fun v6 m6 => ?_⟩
          generalize eG29 : upd A6 v6 _ = G29
          have s30 : Same A6 G29 := by rw [← eG29]; exact same_lay m6
          have kv6 : G29 v6 = some (.tup [.ref m]) := by rw [← eG29]; exact upd_same
          have T7 := ((s26.trans s28).trans t6).trans s30
          have T8 := T3.trans T7
          refine ⟨v1, v6, _, _, rfl, rfl, .inl (.inl (T7 _ _ (s12 _ _ (s10 _ _ kv1)))), .inl (.inl kv6), (fun z => nomatch z), by show 2 + 1 ≤ sizeLine; decide, (fun z => nomatch z), fun _ v7 m7 => ?_⟩
          generalize eG31 : upd G29 v7 _ = G31
          have s32 : Same G29 G31 := by rw [← eG31]; exact same_lay m7
          have kv7 : G31 v7 = some (.tup [.str (kName 4), .str f1, .ref m]) := by rw [← eG31]; exact upd_same
          have T9 := T8.trans s32
          refine ⟨_, rfl, _, rfl, t, _, rfl, .inl (.inl (T9 _ _ ht1)), nwB (n := 3) (by decide) (show 0 < 6 by decide), fun v8 m8 => ?_⟩
          generalize eG33 : upd G31 v8 _ = G33
          have s34 : Same G31 G33 := by rw [← eG33]; exact same_lay m8
          have kv8 : G33 v8 = some (.tup [.str s, .int a, .int b]) := by rw [← eG33]; exact upd_same
          have nmo : m ≠ o := fun e => by
            have h2 := s28 _ _ (s26 _ _ (T3 _ _ I.ho))
            rw [e] at nm
            rw [nm] at h2
            cases h2
          refine ⟨v7, v8, _, _, rfl, rfl, .inl (.inl (s34 _ _ kv7)), .inl (.inl kv8), (fun z => nomatch z), by show 3 + 3 ≤ sizeLine; decide, (fun z => nomatch z), fun _ v9 m9 => ?_⟩
          generalize eG35 : upd G33 v9 _ = G35
          have s36 : Same G33 G35 := by rw [← eG35]; exact same_lay m9
          have kf : G35 v9 = some (.tup (spT 4 f1 m [.str s, .int a, .int b])) := by rw [← eG35]; exact upd_same
          have Tf := (T9.trans s34).trans s36
          have rowsM := (show RowsAt A6 m M from ⟨hm, hM, (fun q hq => by rw [eM] at hq; rw [List.mem_singleton.mp hq]; decide +kernel), nfM, by rw [← rws_len, eM]; decide⟩).same (((s30.trans s32).trans s34).trans s36)
          have cg : Chg o 4 f1 (rws L) [.str s, .int a, .int b] G35 v9 := ⟨f1, m, [.str s, .int a, .int b], M, nmo, kf, wf1, wf, rowsM, fun z => cc (by rw [← z.2.1, eM])⟩
          exact ⟨o, _, _, rfl, rfl, Tf _ _ I.ho, small1000 (by rw [List.length_map]; omega), rfl, _, I.step Tf cg, snoc_le lus⟩
      rintro σ' J1 ⟨rfl, us, I, lus⟩
      refine ⟨OInv wl t o 4 f1 (rws L) [.str s, .int a, .int b] H none none 2, ?_, ?_⟩
      · have ht1 := I.same _ _ ht
        have hR1 := hR.same I.same
        have hS1 := I.same.seq hS
        exact ⟨_, rfl, t, _, _, _, rfl, rfl, .inl (.inl (ht1)), atI_nat (j := 0) rfl, rfl, _, rfl, ite2 (fun z => absurd (of_decide_eq_true z) (by decide +kernel)) (fun _ => ⟨rfl, us, I, lus⟩)⟩
      rintro σ' J2 ⟨rfl, us, I, lus⟩
      refine ⟨OInv wl t o 4 f1 (rws L) [.str s, .int a, .int b] H none none 2, ?_, ?_⟩
      · have ht1 := I.same _ _ ht
        have hR1 := hR.same I.same
        have hS1 := I.same.seq hS
        exact ⟨_, rfl, t, _, _, _, rfl, rfl, .inl (.inl (ht1)), atI_nat (j := 0) rfl, rfl, _, rfl, ite2 (fun z => absurd (of_decide_eq_true z) (by decide +kernel)) (fun _ => ⟨rfl, us, I, lus⟩)⟩
      rintro σ' J3 ⟨rfl, us, I, lus⟩
      refine ⟨OInv wl t o 4 f1 (rws L) [.str s, .int a, .int b] H none none 2, ?_, ?_⟩
      · have ht1 := I.same _ _ ht
        have hR1 := hR.same I.same
        have hS1 := I.same.seq hS
        exact ⟨_, rfl, t, _, _, _, rfl, rfl, .inl (.inl (ht1)), atI_nat (j := 0) rfl, rfl, _, rfl, ite2 (fun z => absurd (of_decide_eq_true z) (by decide +kernel)) (fun _ => ⟨rfl, us, I, lus⟩)⟩
      rintro σ' J4 ⟨rfl, us, I, lus⟩
      have ht1 := I.same _ _ ht
      have hR1 := hR.same I.same
      have hS1 := I.same.seq hS
      refine ⟨_, rfl, t, 4, f1, r, _, rfl, ht1, by decide, fun J5 S5 => ⟨_, rfl, ?_⟩⟩
      refine iteF ?_
      have I := I.on S5
      refine ⟨_, rfl, t, 4, f1, r, _, rfl, S5 _ _ ht1, .inl rfl, wf, fun nu nnu => ?_⟩
      refine ⟨nu, _, rfl, .inl (.inl upd_same), rfl, _, _, rfl, _, _, rfl, rfl, ?_⟩
      have I := I.on (same_lay (o := .tup (numsOf 4 [.str s, .int a, .int b])) nnu)
      generalize upd J5 nu _ = J6 at I
      clear ht1 hR1 hS1
      have sb := sm b (by simp)
      have sa := sm a (by simp)
      refine ⟨OInv wl t o 4 f1 (rws L) [.str s, .int a, .int b] H (some (.int a)) (some (.int b)) 3, ?_, ?_⟩
      · have ht1 := I.same _ _ ht
        have hR1 := hR.same I.same
        have hS1 := I.same.seq hS
        refine ⟨_, rfl, .inl ⟨rfl, _, .inl (.inl I.ho)⟩, ?_⟩
        refine ⟨_, rfl, _, rfl, _, rfl, _, _, rfl, rfl, t, 4, f1, r, _, _, _, rfl, ht1, .inl rfl, wf, fun v1 A1 kf Tf => ?_⟩
        have cg : Chg o 4 f1 (rws L) [.str s, .int a, .int b] A1 v1 := ⟨f1, r, [.str s, .int (a), .int (b + 1)], L, nro, kf, wf1, ⟨s, a, b + 1, rfl, hs, na, num1 sb _ (by omega)⟩, hR1.same Tf, fun z => by
            have e := z.2.2
            simp only [List.cons.injEq, V.int.injEq, and_true, true_and] at e
            omega⟩
        exact ⟨o, _, _, rfl, rfl, Tf _ _ I.ho, small1000 (by rw [List.length_map]; omega), rfl, _, I.step Tf cg, snoc_le lus⟩
      rintro σ' J7 ⟨rfl, us, I, lus⟩
      refine ⟨OInv wl t o 4 f1 (rws L) [.str s, .int a, .int b] H (some (.int a)) (some (.int b)) 4, ?_, ?_⟩
      · have ht1 := I.same _ _ ht
        have hR1 := hR.same I.same
        have hS1 := I.same.seq hS
        refine ⟨_, rfl, .inl ⟨rfl, _, .inl (.inl I.ho)⟩, ?_⟩
        refine ⟨_, rfl, _, rfl, _, rfl, b, rfl, _, _, rfl, rfl, t, 4, f1, r, _, _, _, rfl, ht1, .inl rfl, wf, fun v1 A1 kf Tf => ?_⟩
        have cg : Chg o 4 f1 (rws L) [.str s, .int a, .int b] A1 v1 := ⟨f1, r, [.str s, .int (a), .int (-b - 1)], L, nro, kf, wf1, ⟨s, a, -b - 1, rfl, hs, na, num1 sb _ (by omega)⟩, hR1.same Tf, fun z => by
            have e := z.2.2
            simp only [List.cons.injEq, V.int.injEq, and_true, true_and] at e
            omega⟩
        exact ⟨o, _, _, rfl, rfl, Tf _ _ I.ho, small1000 (by rw [List.length_map]; omega), rfl, _, I.step Tf cg, snoc_le lus⟩
      rintro σ' J8 ⟨rfl, us, I, lus⟩
      refine ⟨OInv wl t o 4 f1 (rws L) [.str s, .int a, .int b] H (some (.int a)) (some (.int b)) 6, ?_, ?_⟩
      · have ht1 := I.same _ _ ht
        have hR1 := hR.same I.same
        have hS1 := I.same.seq hS
        refine ⟨_, rfl, t, _, _, _, rfl, rfl, .inl (.inl (ht1)), atI_nat (j := 0) rfl, rfl, _, rfl, ?_⟩
        rw [neqS (show kName 4 ≠ "step" by decide +kernel)]
        refine iteT ⟨_, rfl, .inl ⟨rfl, _, .inl (.inl I.ho)⟩, ?_⟩
        refine ⟨_, rfl, _, rfl, _, _, rfl, rfl, _, rfl, t, 4, f1, r, _, _, _, rfl, ht1, .inl rfl, wf, fun v1 A1 kf Tf => ?_⟩
        have cg : Chg o 4 f1 (rws L) [.str s, .int a, .int b] A1 v1 := ⟨f1, r, [.str s, .int (a + 1), .int b], L, nro, kf, wf1, ⟨s, a + 1, b, rfl, hs, num1 sa _ (by omega), nb⟩, hR1.same Tf, fun z => by
            have e := z.2.2
            simp only [List.cons.injEq, V.int.injEq, and_true, true_and] at e
            omega⟩
        refine ⟨o, _, _, rfl, rfl, Tf _ _ I.ho, small1000 (by rw [List.length_map]; omega), ?_⟩
        have I := I.step Tf cg
        have lus := snoc_le (u := v1) lus
        generalize upd A1 o _ = A2 at I
        generalize us ++ [v1] = us2 at I lus
        clear ht1 hR1 hS1 cg kf Tf
        have ht1 := I.same _ _ ht
        have hR1 := hR.same I.same
        have hS1 := I.same.seq hS
        refine ⟨_, rfl, .inl ⟨rfl, _, .inl (.inl I.ho)⟩, ?_⟩
        refine ⟨_, rfl, _, rfl, a, rfl, _, _, rfl, rfl, _, rfl, t, 4, f1, r, _, _, _, rfl, ht1, .inl rfl, wf, fun v1 A1 kf Tf => ?_⟩
        have cg : Chg o 4 f1 (rws L) [.str s, .int a, .int b] A1 v1 := ⟨f1, r, [.str s, .int (-a - 1), .int b], L, nro, kf, wf1, ⟨s, -a - 1, b, rfl, hs, num1 sa _ (by omega), nb⟩, hR1.same Tf, fun z => by
            have e := z.2.2
            simp only [List.cons.injEq, V.int.injEq, and_true, true_and] at e
            omega⟩
        exact ⟨o, _, _, rfl, rfl, Tf _ _ I.ho, small1000 (by rw [List.length_map]; omega), rfl, _, I.step Tf cg, snoc_le lus⟩
      rintro σ' J9 ⟨rfl, us, I, lus⟩
      have ht1 := I.same _ _ ht
      have hR1 := hR.same I.same
      have hS1 := I.same.seq hS
      refine ⟨by show 3 ≤ sizeLine; decide, fun l nl => ?_⟩
      have sl := same_lay (o := .lst (signs3.map V.str)) nl
      have kl : (upd J9 l (.lst (signs3.map V.str))) l = some (.lst (signs3.map V.str)) := upd_same
      refine ⟨l, rfl, ⟨signs3.map V.str, .inl (.inl kl)⟩, ?_⟩
      generalize eB0 : upd J9 l _ = B0
      have sl : Same J9 B0 := by rw [← eB0]; exact same_lay nl
      have kl : B0 l = some (.lst (signs3.map V.str)) := by rw [← eB0]; exact upd_same
      intro d hd
      refine lc_list (K := K) (a := l) (xs := signs3.map V.str) (fun k G => G d = some (.lst (((signs3.take k).filter (fun y => decide (y ≠ s))).map V.str)) ∧ Same B0 G) ⟨upd_same, same_lay hd⟩ (fun k G _ ⟨_, sG⟩ => .inl (.inl (sG _ _ kl))) ?_ ?_
      · rintro k y G hy ⟨hD, sG⟩
        rw [List.getElem?_map] at hy
        cases hk : signs3[k]? with
        | none => rw [hk] at hy; cases hy
        | some y2 =>
        rw [hk] at hy
        cases hy
        have k3 : k < 3 := (List.getElem?_eq_some_iff.mp hk).1
        have e1 : signs3.take (k + 1) = signs3.take k ++ [y2] := by rw [List.take_add_one, hk]; rfl
        refine ⟨rfl, _, rfl, _, rfl, t, _, _, _, rfl, rfl, .inr (.inl (.inl (sG _ _ (sl _ _ ht1)))), atI_nat (j := 3) rfl, rfl, _, rfl, ?_⟩
        by_cases cy : y2 = s
        · subst cy
          rw [eqS]
          refine iteF ⟨?_, sG⟩
          rw [hD, e1, List.filter_append]
          simp
        · rw [neqS cy]
          refine iteT ⟨_, rfl, _, hD, small1000 ?_, ?_, same_upd sG hd⟩
          · rw [List.length_map]
            have := List.length_filter_le (fun y => decide (y ≠ s)) (signs3.take k)
            rw [List.length_take] at this
            omega
          · rw [upd_same, e1, List.filter_append, List.map_append]
            simp [cy]
      rintro B1 ⟨hD, sG⟩
      rw [List.length_map, List.take_of_length_le (Nat.le_refl _)] at hD
      generalize hss : signs3.filter (fun y => decide (y ≠ s)) = ss at hD
      have ssm : ∀ y ∈ ss, isSign y ∧ y ≠ s := fun y hy => by
        rw [← hss, List.mem_filter] at hy
        refine ⟨?_, of_decide_eq_true hy.2⟩
        have h1 := hy.1
        unfold signs3 at h1
        simp only [List.mem_cons, List.not_mem_nil, or_false] at h1
        exact h1
      have ssl : ss.length ≤ 3 := by rw [← hss]; exact List.length_filter_le _ _
      clear hss kl
      have I := (I.on sl).on sG
      clear ht1 hR1 hS1 sl sG eB0 nl
      have ht1 := I.same _ _ ht
      have hR1 := hR.same I.same
      have hS1 := I.same.seq hS
      refine ⟨_, rfl, _, rfl, d, rfl, ⟨_, .inl (.inl hD)⟩, fun d2 hd2 => ?_⟩
      have nrd : r ≠ d2 := fun e => by have := hR1.at_; rw [e, hd2] at this; cases this
      refine lc_list (K := K) (a := d) (xs := ss.map V.str) (fun k G => ∃ vs : List Addr, G d2 = some (.lst (vs.map V.ref)) ∧ vs.length = k ∧ (∀ u ∈ vs, Chg d2 4 f1 (rws L) [.str s, .int a, .int b] G u) ∧ Same B1 G) ⟨[], upd_same, rfl, (fun _ z => nomatch z), same_lay hd2⟩ (fun k G _ ⟨_, _, _, _, sG⟩ => .inl (.inl (sG _ _ hD))) ?_ ?_
      · rintro k y G hy ⟨vs, hd3, lv, cv, sG⟩
        rw [List.getElem?_map] at hy
        cases hk : ss[k]? with
        | none => rw [hk] at hy; cases hy
        | some y2 =>
        rw [hk] at hy
        cases hy
        have k3 : k < ss.length := (List.getElem?_eq_some_iff.mp hk).1
        obtain ⟨sy, ny⟩ := ssm y2 (List.mem_of_getElem? hk)
        have ht2 := sG _ _ ht1
        refine ⟨rfl, yesT ?_⟩
        refine ⟨_, rfl, _, rfl, t, _, rfl, .inl (.inl (ht2)), nwA (n := 3) (show 3 < 6 by decide), fun v1 m1 => ?_⟩
        generalize eG37 : upd G v1 _ = G37
        have s38 : Same G G37 := by rw [← eG37]; exact same_lay m1
        have kv1 : G37 v1 = some (.tup [.str (kName 4), .str f1, .ref r]) := by rw [← eG37]; exact upd_same
        refine ⟨_, rfl, one, fun v2 m2 => ?_⟩
        generalize eG39 : upd G37 v2 _ = G39
        have s40 : Same G37 G39 := by rw [← eG39]; exact same_lay m2
        have kv2 : G39 v2 = some (.tup [.str y2]) := by rw [← eG39]; exact upd_same
        refine ⟨v1, v2, _, _, rfl, rfl, .inl (.inl (s40 _ _ kv1)), .inl (.inl kv2), (fun z => nomatch z), by show 3 + 1 ≤ sizeLine; decide, (fun z => nomatch z), fun _ v3 m3 => ?_⟩
        generalize eG41 : upd G39 v3 _ = G41
        have s42 : Same G39 G41 := by rw [← eG41]; exact same_lay m3
        have kv3 : G41 v3 = some (.tup [.str (kName 4), .str f1, .ref r, .str y2]) := by rw [← eG41]; exact upd_same
        refine ⟨_, rfl, _, rfl, t, _, rfl, .inl (.inl (s42 _ _ (s40 _ _ (s38 _ _ ht2)))), nwB (n := 4) (by decide) (show 0 < 6 by decide), fun v4 m4 => ?_⟩
        generalize eG43 : upd G41 v4 _ = G43
        have s44 : Same G41 G43 := by rw [← eG43]; exact same_lay m4
        have kv4 : G43 v4 = some (.tup [.int a, .int b]) := by rw [← eG43]; exact upd_same
        refine ⟨v3, v4, _, _, rfl, rfl, .inl (.inl (s44 _ _ kv3)), .inl (.inl kv4), (fun z => nomatch z), by show 4 + 2 ≤ sizeLine; decide, (fun z => nomatch z), fun _ v5 m5 => ?_⟩
        generalize eG45 : upd G43 v5 _ = G45
        have s46 : Same G43 G45 := by rw [← eG45]; exact same_lay m5
        have kf : G45 v5 = some (.tup (spT 4 f1 r (.str y2 :: [.int a, .int b]))) := by rw [← eG45]; exact upd_same
        have Tf := (((s38.trans s40).trans s42).trans s44).trans s46
        have cg : Chg d2 4 f1 (rws L) [.str s, .int a, .int b] G45 v5 := ⟨f1, r, .str y2 :: [.int a, .int b], L, nrd, kf, wf1, ⟨y2, a, b, rfl, sy, na, nb⟩, (hR1.same sG).same Tf, fun z => ny (V.str.inj (List.cons.inj z.2.2).1)⟩
        have hd4 := Tf _ _ hd3
        refine ⟨_, hd4, small1000 (by rw [List.length_map]; omega), vs ++ [v5], by rw [upd_same, List.map_append]; rfl, by rw [List.length_append, lv]; rfl, fun u hu => ?_, same_upd (sG.trans Tf) hd2⟩
        rcases List.mem_append.mp hu with k0 | k0
        · exact ((cv u k0).same Tf).put hd4
        · rw [List.mem_singleton.mp k0]
          exact cg.put hd4
      rintro B2 ⟨vs, hd3, lv, cv, sG⟩
      rw [List.length_map] at lv
      refine ⟨o, d2, _, _, rfl, rfl, sG _ _ I.ho, hd3, ?_, fun p np => ?_⟩
      · rw [List.length_map, List.length_map]
        exact Nat.le_trans (show us.length + vs.length ≤ 1000 by omega) (by decide)
      · have sp := same_lay (o := .lst (us.map V.ref ++ vs.map V.ref)) np
        refine q p (us ++ vs) _ (by rw [upd_same, List.map_append]) (fun u hu => ?_) (by rw [List.length_append]; omega) ((I.same.trans sG).trans sp)
        rcases List.mem_append.mp hu with k0 | k0
        · exact ⟨o, ((I.chg u k0).same sG).same sp⟩
        · exact ⟨d2, (cv u k0).same sp⟩
    · have wf0 := wf
      obtain ⟨s, g0, a, b, rfl, hs, hg, ng, na, nb⟩ := wf0
      obtain ⟨s2, a2, b2, ex⟩ := ot
      have eg : _ = g := V.str.inj (List.cons.inj (List.cons.inj ex).2).1
      subst eg
      skip
      refine ⟨_, rfl, t, _, _, _, rfl, rfl, .inl (.inl (ht)), atI_nat (j := 0) rfl, _, rfl, wl, _, _, _, rfl, rfl, hS, atI_nat (j := 2) rfl, two, fun u1 n1 => ?_⟩
      generalize eG1 : upd H u1 _ = G1
      have s2 : Same H G1 := by rw [← eG1]; exact same_lay n1
      have k1 : G1 u1 = some (.tup [.str (kName 5), .str hh]) := by rw [← eG1]; exact upd_same
      refine ⟨_, rfl, _, rfl, t, _, rfl, .inl (.inl (s2 _ _ ht)), nwB (n := 2) (by decide) (show 0 < 7 by decide), fun u2 n2 => ?_⟩
      generalize eG3 : upd G1 u2 _ = G3
      have s4 : Same G1 G3 := by rw [← eG3]; exact same_lay n2
      have k2 : G3 u2 = some (.tup (.ref r :: [.str s, .str g0, .int a, .int b])) := by rw [← eG3]; exact upd_same
      refine ⟨u1, u2, _, _, rfl, rfl, .inl (.inl (s4 _ _ k1)), .inl (.inl k2), (fun z => nomatch z), by show 2 + 5 ≤ sizeLine; decide, (fun z => nomatch z), fun _ u3 n3 => ?_⟩
      generalize eG5 : upd G3 u3 _ = G5
      have s6 : Same G3 G5 := by rw [← eG5]; exact same_lay n3
      have k3 : G5 u3 = some (.tup (spT 5 hh r [.str s, .str g0, .int a, .int b])) := by rw [← eG5]; exact upd_same
      refine ⟨one, fun o no => ?_⟩
      have S3 := (s2.trans s4).trans s6
      have noH : H o = none := S3.free no
      have nro : r ≠ o := fun e => by rw [← e] at noH; rw [hR.at_] at noH; cases noH
      have cg0 : Chg o 5 f1 (rws L) [.str s, .str g0, .int a, .int b] G5 u3 := ⟨hh, r, [.str s, .str g0, .int a, .int b], L, nro, k3, wh1, ⟨s, _, a, b, rfl, hs, wg1, nhg.symm, na, nb⟩, hR.same S3, fun z => nhf z.1⟩
      have I0 : OI o 5 f1 (rws L) [.str s, .str g0, .int a, .int b] H (upd G5 o (.lst [])) [] := ⟨upd_same, fun _ hu => (nomatch hu), S3.trans (same_lay no), noH⟩
      have I := I0.step (Same.refl _) (cg0.same (same_lay no))
      rw [upd_upd] at I
      have I : OI o 5 f1 (rws L) [.str s, .str g0, .int a, .int b] H (upd G5 o (.lst [.ref u3])) [u3] := I
      generalize upd G5 o (.lst [.ref u3]) = J0 at I
      have lus : ([u3] : List Addr).length ≤ 1 := Nat.le_refl 1
      generalize ([u3] : List Addr) = us at I lus
      clear I0 cg0 k1 k2 k3 S3 s2 s4 s6 eG1 eG3 eG5 n1 n2 n3 no
      refine ⟨OInv wl t o 5 f1 (rws L) [.str s, .str g0, .int a, .int b] H none none 2, ?_, ?_⟩
      · have ht1 := I.same _ _ ht
        have hR1 := hR.same I.same
        have hS1 := I.same.seq hS
        refine ⟨_, rfl, .inl ⟨rfl, _, .inl (.inl I.ho)⟩, _, rfl, _, rfl, t, _, rfl, .inl (.inl (ht1)), nwA (n := 2) (show 2 < 7 by decide), fun v1 m1 => ?_⟩
        generalize eG7 : upd J0 v1 _ = G7
        have s8 : Same J0 G7 := by rw [← eG7]; exact same_lay m1
        have kv1 : G7 v1 = some (.tup [.str (kName 5), .str f1]) := by rw [← eG7]; exact upd_same
        refine ⟨_, rfl, t, _, _, _, rfl, rfl, .inl (.inl (s8 _ _ ht1)), atI_nat (j := 2) rfl, two, fun v2 m2 => ?_⟩
        generalize eG9 : upd G7 v2 _ = G9
        have s10 : Same G7 G9 := by rw [← eG9]; exact same_lay m2
        have kv2 : G9 v2 = some (.tup [.int 0, .int 4]) := by rw [← eG9]; exact upd_same
        refine ⟨one, fun v3 m3 => ?_⟩
        generalize eG11 : upd G9 v3 _ = G11
        have s12 : Same G9 G11 := by rw [← eG11]; exact same_lay m3
        have kv3 : G11 v3 = some (.lst [.ref v2]) := by rw [← eG11]; exact upd_same
        have T3 := (s8.trans s10).trans s12
        have hR3 := hR1.same T3
        refine ⟨.list ((rws L).map rowD), .list ([(0, 4)].map rowD), .lst (.inl (.inl hR3.at_)) (dp_rows hR3.rw_), .lst (.inl (.inl kv3)) (dp_rows (L := [(v2, (0, 4))]) (fun q hq => by rw [List.mem_singleton.mp hq]; exact s12 _ _ kv2)), shp_lst _, shp_lst _, _, rfl, ?_⟩
        rw [eqvL]
        by_cases cc : rws L = [(0, 4)]
        · rw [decide_eq_true cc]
          refine iteF ⟨two, fun v4 m4 => ?_⟩
          generalize eG13 : upd G11 v4 _ = G13
          have s14 : Same G11 G13 := by rw [← eG13]; exact same_lay m4
          have kv4 : G13 v4 = some (.tup [.int 0, .int 5]) := by rw [← eG13]; exact upd_same
          refine ⟨one, fun v5 m5 => ?_⟩
          generalize eG15 : upd G13 v5 _ = G15
          have s16 : Same G13 G15 := by rw [← eG15]; exact same_lay m5
          have kv5 : G15 v5 = some (.lst [.ref v4]) := by rw [← eG15]; exact upd_same
          refine ⟨v5, [(v4, (0, 5))], rfl, .inl (.inl kv5), (fun q hq => by rw [List.mem_singleton.mp hq]; exact s16 _ _ kv4), (fun q hq => by rw [List.mem_singleton.mp hq]; exact okRow_of (by decide) (by decide) (by decide)), by show 1 < 64; decide, fun m M A6 t6 nm hm hM nfM meM lenM _ => ?_⟩
          have eM : rws M = [(0, 5)] := Nf.unique nfM (nf_one (by decide)) meM
          refine ⟨one, fun v6 m6 => ?_⟩
          generalize eG17 : upd A6 v6 _ = G17
          have s18 : Same A6 G17 := by rw [← eG17]; exact same_lay m6
          have kv6 : G17 v6 = some (.tup [.ref m]) := by rw [← eG17]; exact upd_same
          have T7 := ((s14.trans s16).trans t6).trans s18
          have T8 := T3.trans T7
          refine ⟨v1, v6, _, _, rfl, rfl, .inl (.inl (T7 _ _ (s12 _ _ (s10 _ _ kv1)))), .inl (.inl kv6), (fun z => nomatch z), by show 2 + 1 ≤ sizeLine; decide, (fun z => nomatch z), fun _ v7 m7 => ?_⟩
          generalize eG19 : upd G17 v7 _ = G19
          have s20 : Same G17 G19 := by rw [← eG19]; exact same_lay m7
          have kv7 : G19 v7 = some (.tup [.str (kName 5), .str f1, .ref m]) := by rw [← eG19]; exact upd_same
          have T9 := T8.trans s20
          refine ⟨_, rfl, _, rfl, t, _, rfl, .inl (.inl (T9 _ _ ht1)), nwB (n := 3) (by decide) (show 0 < 7 by decide), fun v8 m8 => ?_⟩
          generalize eG21 : upd G19 v8 _ = G21
          have s22 : Same G19 G21 := by rw [← eG21]; exact same_lay m8
          have kv8 : G21 v8 = some (.tup [.str s, .str g0, .int a, .int b]) := by rw [← eG21]; exact upd_same
          have nmo : m ≠ o := fun e => by
            have h2 := s16 _ _ (s14 _ _ (T3 _ _ I.ho))
            rw [e] at nm
            rw [nm] at h2
            cases h2
          refine ⟨v7, v8, _, _, rfl, rfl, .inl (.inl (s22 _ _ kv7)), .inl (.inl kv8), (fun z => nomatch z), by show 3 + 4 ≤ sizeLine; decide, (fun z => nomatch z), fun _ v9 m9 => ?_⟩
          generalize eG23 : upd G21 v9 _ = G23
          have s24 : Same G21 G23 := by rw [← eG23]; exact same_lay m9
          have kf : G23 v9 = some (.tup (spT 5 f1 m [.str s, .str g0, .int a, .int b])) := by rw [← eG23]; exact upd_same
          have Tf := (T9.trans s22).trans s24
          have rowsM := (show RowsAt A6 m M from ⟨hm, hM, (fun q hq => by rw [eM] at hq; rw [List.mem_singleton.mp hq]; decide +kernel), nfM, by rw [← rws_len, eM]; decide⟩).same (((s18.trans s20).trans s22).trans s24)
          have cg : Chg o 5 f1 (rws L) [.str s, .str g0, .int a, .int b] G23 v9 := ⟨f1, m, [.str s, .str g0, .int a, .int b], M, nmo, kf, wf1, wf, rowsM, fun z => absurd z.2.1 (by rw [eM, cc]; decide)⟩
          exact ⟨o, _, _, rfl, rfl, Tf _ _ I.ho, small1000 (by rw [List.length_map]; omega), rfl, _, I.step Tf cg, snoc_le lus⟩
        · rw [decide_eq_false cc]
          refine iteT ⟨two, fun v4 m4 => ?_⟩
          generalize eG25 : upd G11 v4 _ = G25
          have s26 : Same G11 G25 := by rw [← eG25]; exact same_lay m4
          have kv4 : G25 v4 = some (.tup [.int 0, .int 4]) := by rw [← eG25]; exact upd_same
          refine ⟨one, fun v5 m5 => ?_⟩
          generalize eG27 : upd G25 v5 _ = G27
          have s28 : Same G25 G27 := by rw [← eG27]; exact same_lay m5
          have kv5 : G27 v5 = some (.lst [.ref v4]) := by rw [← eG27]; exact upd_same
          refine ⟨v5, [(v4, (0, 4))], rfl, .inl (.inl kv5), (fun q hq => by rw [List.mem_singleton.mp hq]; exact s28 _ _ kv4), (fun q hq => by rw [List.mem_singleton.mp hq]; exact okRow_of (by decide) (by decide) (by decide)), by show 1 < 64; decide, fun m M A6 t6 nm hm hM nfM meM lenM _ => ?_⟩
          have eM : rws M = [(0, 4)] := Nf.unique nfM (nf_one (by decide)) meM
          refine ⟨one, fun v6 m6 => ?_⟩
          generalize eG29 : upd A6 v6 _ = G29
          have s30 : Same A6 G29 := by rw [← eG29]; exact same_lay m6
          have kv6 : G29 v6 = some (.tup [.ref m]) := by rw [← eG29]; exact upd_same
          have T7 := ((s26.trans s28).trans t6).trans s30
          have T8 := T3.trans T7
          refine ⟨v1, v6, _, _, rfl, rfl, .inl (.inl (T7 _ _ (s12 _ _ (s10 _ _ kv1)))), .inl (.inl kv6), (fun z => nomatch z), by show 2 + 1 ≤ sizeLine; decide, (fun z => nomatch z), fun _ v7 m7 => ?_⟩
          generalize eG31 : upd G29 v7 _ = G31
          have s32 : Same G29 G31 := by rw [← eG31]; exact same_lay m7
          have kv7 : G31 v7 = some (.tup [.str (kName 5), .str f1, .ref m]) := by rw [← eG31]; exact upd_same
          have T9 := T8.trans s32
          refine ⟨_, rfl, _, rfl, t, _, rfl, .inl (.inl (T9 _ _ ht1)), nwB (n := 3) (by decide) (show 0 < 7 by decide), fun v8 m8 => ?_⟩
          generalize eG33 : upd G31 v8 _ = G33
          have s34 : Same G31 G33 := by rw [← eG33]; exact same_lay m8
          have kv8 : G33 v8 = some (.tup [.str s, .str g0, .int a, .int b]) := by rw [← eG33]; exact upd_same
          have nmo : m ≠ o := fun e => by
            have h2 := s28 _ _ (s26 _ _ (T3 _ _ I.ho))
            rw [e] at nm
            rw [nm] at h2
            cases h2
          refine ⟨v7, v8, _, _, rfl, rfl, .inl (.inl (s34 _ _ kv7)), .inl (.inl kv8), (fun z => nomatch z), by show 3 + 4 ≤ sizeLine; decide, (fun z => nomatch z), fun _ v9 m9 => ?_⟩
          generalize eG35 : upd G33 v9 _ = G35
          have s36 : Same G33 G35 := by rw [← eG35]; exact same_lay m9
          have kf : G35 v9 = some (.tup (spT 5 f1 m [.str s, .str g0, .int a, .int b])) := by rw [← eG35]; exact upd_same
          have Tf := (T9.trans s34).trans s36
          have rowsM := (show RowsAt A6 m M from ⟨hm, hM, (fun q hq => by rw [eM] at hq; rw [List.mem_singleton.mp hq]; decide +kernel), nfM, by rw [← rws_len, eM]; decide⟩).same (((s30.trans s32).trans s34).trans s36)
          have cg : Chg o 5 f1 (rws L) [.str s, .str g0, .int a, .int b] G35 v9 := ⟨f1, m, [.str s, .str g0, .int a, .int b], M, nmo, kf, wf1, wf, rowsM, fun z => cc (by rw [← z.2.1, eM])⟩
          exact ⟨o, _, _, rfl, rfl, Tf _ _ I.ho, small1000 (by rw [List.length_map]; omega), rfl, _, I.step Tf cg, snoc_le lus⟩
      rintro σ' J1 ⟨rfl, us, I, lus⟩
      refine ⟨OInv wl t o 5 f1 (rws L) [.str s, .str g0, .int a, .int b] H none none 2, ?_, ?_⟩
      · have ht1 := I.same _ _ ht
        have hR1 := hR.same I.same
        have hS1 := I.same.seq hS
        exact ⟨_, rfl, t, _, _, _, rfl, rfl, .inl (.inl (ht1)), atI_nat (j := 0) rfl, rfl, _, rfl, ite2 (fun z => absurd (of_decide_eq_true z) (by decide +kernel)) (fun _ => ⟨rfl, us, I, lus⟩)⟩
      rintro σ' J2 ⟨rfl, us, I, lus⟩
      refine ⟨OInv wl t o 5 f1 (rws L) [.str s, .str g0, .int a, .int b] H none none 2, ?_, ?_⟩
      · have ht1 := I.same _ _ ht
        have hR1 := hR.same I.same
        have hS1 := I.same.seq hS
        exact ⟨_, rfl, t, _, _, _, rfl, rfl, .inl (.inl (ht1)), atI_nat (j := 0) rfl, rfl, _, rfl, ite2 (fun z => absurd (of_decide_eq_true z) (by decide +kernel)) (fun _ => ⟨rfl, us, I, lus⟩)⟩
      rintro σ' J3 ⟨rfl, us, I, lus⟩
      refine ⟨OInv wl t o 5 f1 (rws L) [.str s, .str g0, .int a, .int b] H none none 3, ?_, ?_⟩
      · have ht1 := I.same _ _ ht
        have hR1 := hR.same I.same
        have hS1 := I.same.seq hS
        refine ⟨_, rfl, t, _, _, _, rfl, rfl, .inl (.inl (ht1)), atI_nat (j := 0) rfl, rfl, _, rfl, ite2 (fun _ => ?_) (fun z => absurd (decide_eq_true rfl) z)⟩
        refine ⟨_, rfl, .inl ⟨rfl, _, .inl (.inl I.ho)⟩, _, rfl, _, rfl, t, _, rfl, .inl (.inl (ht1)), nwA (n := 4) (show 4 < 7 by decide), fun v1 m1 => ?_⟩
        generalize eG37 : upd J3 v1 _ = G37
        have s38 : Same J3 G37 := by rw [← eG37]; exact same_lay m1
        have kv1 : G37 v1 = some (.tup [.str (kName 5), .str f1, .ref r, .str s]) := by rw [← eG37]; exact upd_same
        refine ⟨_, rfl, wl, _, _, _, rfl, rfl, s38.seq hS1, atI_nat (j := 2) rfl, one, fun v2 m2 => ?_⟩
        generalize eG39 : upd G37 v2 _ = G39
        have s40 : Same G37 G39 := by rw [← eG39]; exact same_lay m2
        have kv2 : G39 v2 = some (.tup [.str hh]) := by rw [← eG39]; exact upd_same
        refine ⟨v1, v2, _, _, rfl, rfl, .inl (.inl (s40 _ _ kv1)), .inl (.inl kv2), (fun z => nomatch z), by show 4 + 1 ≤ sizeLine; decide, (fun z => nomatch z), fun _ v3 m3 => ?_⟩
        generalize eG41 : upd G39 v3 _ = G41
        have s42 : Same G39 G41 := by rw [← eG41]; exact same_lay m3
        have kv3 : G41 v3 = some (.tup [.str (kName 5), .str f1, .ref r, .str s, .str hh]) := by rw [← eG41]; exact upd_same
        refine ⟨_, rfl, _, rfl, t, _, rfl, .inl (.inl (s42 _ _ (s40 _ _ (s38 _ _ ht1)))), nwB (n := 5) (by decide) (show 0 < 7 by decide), fun v4 m4 => ?_⟩
        generalize eG43 : upd G41 v4 _ = G43
        have s44 : Same G41 G43 := by rw [← eG43]; exact same_lay m4
        have kv4 : G43 v4 = some (.tup [.int a, .int b]) := by rw [← eG43]; exact upd_same
        refine ⟨v3, v4, _, _, rfl, rfl, .inl (.inl (s44 _ _ kv3)), .inl (.inl kv4), (fun z => nomatch z), by show 5 + 2 ≤ sizeLine; decide, (fun z => nomatch z), fun _ v5 m5 => ?_⟩
        generalize eG45 : upd G43 v5 _ = G45
        have s46 : Same G43 G45 := by rw [← eG45]; exact same_lay m5
        have kf : G45 v5 = some (.tup (spT 5 f1 r [.str s, .str hh, .int a, .int b])) := by rw [← eG45]; exact upd_same
        have Tf := (((s38.trans s40).trans s42).trans s44).trans s46
        have cg : Chg o 5 f1 (rws L) [.str s, .str g0, .int a, .int b] G45 v5 := ⟨f1, r, [.str s, .str hh, .int a, .int b], L, nro, kf, wf1, ⟨s, hh, a, b, rfl, hs, wh1, nhf, na, nb⟩, hR1.same Tf, fun z => nhg (V.str.inj (List.cons.inj (List.cons.inj z.2.2).2).1)⟩
        exact ⟨o, _, _, rfl, rfl, Tf _ _ I.ho, small1000 (by rw [List.length_map]; omega), rfl, _, I.step Tf cg, snoc_le lus⟩
      rintro σ' J4 ⟨rfl, us, I, lus⟩
      have ht1 := I.same _ _ ht
      have hR1 := hR.same I.same
      have hS1 := I.same.seq hS
      refine ⟨_, rfl, t, 5, f1, r, _, rfl, ht1, by decide, fun J5 S5 => ⟨_, rfl, ?_⟩⟩
      refine iteF ?_
      have I := I.on S5
      refine ⟨_, rfl, t, 5, f1, r, _, rfl, S5 _ _ ht1, .inr (.inl rfl), wf, fun nu nnu => ?_⟩
      refine ⟨nu, _, rfl, .inl (.inl upd_same), rfl, _, _, rfl, _, _, rfl, rfl, ?_⟩
      have I := I.on (same_lay (o := .tup (numsOf 5 [.str s, .str g0, .int a, .int b])) nnu)
      generalize upd J5 nu _ = J6 at I
      clear ht1 hR1 hS1
      have sb := sm b (by simp)
      have sa := sm a (by simp)
      refine ⟨OInv wl t o 5 f1 (rws L) [.str s, .str g0, .int a, .int b] H (some (.int a)) (some (.int b)) 4, ?_, ?_⟩
      · have ht1 := I.same _ _ ht
        have hR1 := hR.same I.same
        have hS1 := I.same.seq hS
        refine ⟨_, rfl, .inl ⟨rfl, _, .inl (.inl I.ho)⟩, ?_⟩
        refine ⟨_, rfl, _, rfl, _, rfl, _, _, rfl, rfl, t, 5, f1, r, _, _, _, rfl, ht1, .inr (.inl rfl), wf, fun v1 A1 kf Tf => ?_⟩
        have cg : Chg o 5 f1 (rws L) [.str s, .str g0, .int a, .int b] A1 v1 := ⟨f1, r, [.str s, .str g0, .int (a), .int (b + 1)], L, nro, kf, wf1, ⟨s, g0, a, b + 1, rfl, hs, hg, ng, na, num1 sb _ (by omega)⟩, hR1.same Tf, fun z => by
            have e := z.2.2
            simp only [List.cons.injEq, V.int.injEq, and_true, true_and] at e
            omega⟩
        exact ⟨o, _, _, rfl, rfl, Tf _ _ I.ho, small1000 (by rw [List.length_map]; omega), rfl, _, I.step Tf cg, snoc_le lus⟩
      rintro σ' J7 ⟨rfl, us, I, lus⟩
      refine ⟨OInv wl t o 5 f1 (rws L) [.str s, .str g0, .int a, .int b] H (some (.int a)) (some (.int b)) 5, ?_, ?_⟩
      · have ht1 := I.same _ _ ht
        have hR1 := hR.same I.same
        have hS1 := I.same.seq hS
        refine ⟨_, rfl, .inl ⟨rfl, _, .inl (.inl I.ho)⟩, ?_⟩
        refine ⟨_, rfl, _, rfl, _, rfl, b, rfl, _, _, rfl, rfl, t, 5, f1, r, _, _, _, rfl, ht1, .inr (.inl rfl), wf, fun v1 A1 kf Tf => ?_⟩
        have cg : Chg o 5 f1 (rws L) [.str s, .str g0, .int a, .int b] A1 v1 := ⟨f1, r, [.str s, .str g0, .int (a), .int (-b - 1)], L, nro, kf, wf1, ⟨s, g0, a, -b - 1, rfl, hs, hg, ng, na, num1 sb _ (by omega)⟩, hR1.same Tf, fun z => by
            have e := z.2.2
            simp only [List.cons.injEq, V.int.injEq, and_true, true_and] at e
            omega⟩
        exact ⟨o, _, _, rfl, rfl, Tf _ _ I.ho, small1000 (by rw [List.length_map]; omega), rfl, _, I.step Tf cg, snoc_le lus⟩
      rintro σ' J8 ⟨rfl, us, I, lus⟩
      refine ⟨OInv wl t o 5 f1 (rws L) [.str s, .str g0, .int a, .int b] H (some (.int a)) (some (.int b)) 7, ?_, ?_⟩
      · have ht1 := I.same _ _ ht
        have hR1 := hR.same I.same
        have hS1 := I.same.seq hS
        refine ⟨_, rfl, t, _, _, _, rfl, rfl, .inl (.inl (ht1)), atI_nat (j := 0) rfl, rfl, _, rfl, ?_⟩
        rw [neqS (show kName 5 ≠ "step" by decide +kernel)]
        refine iteT ⟨_, rfl, .inl ⟨rfl, _, .inl (.inl I.ho)⟩, ?_⟩
        refine ⟨_, rfl, _, rfl, _, _, rfl, rfl, _, rfl, t, 5, f1, r, _, _, _, rfl, ht1, .inr (.inl rfl), wf, fun v1 A1 kf Tf => ?_⟩
        have cg : Chg o 5 f1 (rws L) [.str s, .str g0, .int a, .int b] A1 v1 := ⟨f1, r, [.str s, .str g0, .int (a + 1), .int b], L, nro, kf, wf1, ⟨s, g0, a + 1, b, rfl, hs, hg, ng, num1 sa _ (by omega), nb⟩, hR1.same Tf, fun z => by
            have e := z.2.2
            simp only [List.cons.injEq, V.int.injEq, and_true, true_and] at e
            omega⟩
        refine ⟨o, _, _, rfl, rfl, Tf _ _ I.ho, small1000 (by rw [List.length_map]; omega), ?_⟩
        have I := I.step Tf cg
        have lus := snoc_le (u := v1) lus
        generalize upd A1 o _ = A2 at I
        generalize us ++ [v1] = us2 at I lus
        clear ht1 hR1 hS1 cg kf Tf
        have ht1 := I.same _ _ ht
        have hR1 := hR.same I.same
        have hS1 := I.same.seq hS
        refine ⟨_, rfl, .inl ⟨rfl, _, .inl (.inl I.ho)⟩, ?_⟩
        refine ⟨_, rfl, _, rfl, a, rfl, _, _, rfl, rfl, _, rfl, t, 5, f1, r, _, _, _, rfl, ht1, .inr (.inl rfl), wf, fun v1 A1 kf Tf => ?_⟩
        have cg : Chg o 5 f1 (rws L) [.str s, .str g0, .int a, .int b] A1 v1 := ⟨f1, r, [.str s, .str g0, .int (-a - 1), .int b], L, nro, kf, wf1, ⟨s, g0, -a - 1, b, rfl, hs, hg, ng, num1 sa _ (by omega), nb⟩, hR1.same Tf, fun z => by
            have e := z.2.2
            simp only [List.cons.injEq, V.int.injEq, and_true, true_and] at e
            omega⟩
        exact ⟨o, _, _, rfl, rfl, Tf _ _ I.ho, small1000 (by rw [List.length_map]; omega), rfl, _, I.step Tf cg, snoc_le lus⟩
      rintro σ' J9 ⟨rfl, us, I, lus⟩
      have ht1 := I.same _ _ ht
      have hR1 := hR.same I.same
      have hS1 := I.same.seq hS
      refine ⟨by show 3 ≤ sizeLine; decide, fun l nl => ?_⟩
      have sl := same_lay (o := .lst (signs3.map V.str)) nl
      have kl : (upd J9 l (.lst (signs3.map V.str))) l = some (.lst (signs3.map V.str)) := upd_same
      refine ⟨l, rfl, ⟨signs3.map V.str, .inl (.inl kl)⟩, ?_⟩
      generalize eB0 : upd J9 l _ = B0
      have sl : Same J9 B0 := by rw [← eB0]; exact same_lay nl
      have kl : B0 l = some (.lst (signs3.map V.str)) := by rw [← eB0]; exact upd_same
      intro d hd
      refine lc_list (K := K) (a := l) (xs := signs3.map V.str) (fun k G => G d = some (.lst (((signs3.take k).filter (fun y => decide (y ≠ s))).map V.str)) ∧ Same B0 G) ⟨upd_same, same_lay hd⟩ (fun k G _ ⟨_, sG⟩ => .inl (.inl (sG _ _ kl))) ?_ ?_
      · rintro k y G hy ⟨hD, sG⟩
        rw [List.getElem?_map] at hy
        cases hk : signs3[k]? with
        | none => rw [hk] at hy; cases hy
        | some y2 =>
        rw [hk] at hy
        cases hy
        have k3 : k < 3 := (List.getElem?_eq_some_iff.mp hk).1
        have e1 : signs3.take (k + 1) = signs3.take k ++ [y2] := by rw [List.take_add_one, hk]; rfl
        refine ⟨rfl, _, rfl, _, rfl, t, _, _, _, rfl, rfl, .inr (.inl (.inl (sG _ _ (sl _ _ ht1)))), atI_nat (j := 3) rfl, rfl, _, rfl, ?_⟩
        by_cases cy : y2 = s
        · subst cy
          rw [eqS]
          refine iteF ⟨?_, sG⟩
          rw [hD, e1, List.filter_append]
          simp
        · rw [neqS cy]
          refine iteT ⟨_, rfl, _, hD, small1000 ?_, ?_, same_upd sG hd⟩
          · rw [List.length_map]
            have := List.length_filter_le (fun y => decide (y ≠ s)) (signs3.take k)
            rw [List.length_take] at this
            omega
          · rw [upd_same, e1, List.filter_append, List.map_append]
            simp [cy]
      rintro B1 ⟨hD, sG⟩
      rw [List.length_map, List.take_of_length_le (Nat.le_refl _)] at hD
      generalize hss : signs3.filter (fun y => decide (y ≠ s)) = ss at hD
      have ssm : ∀ y ∈ ss, isSign y ∧ y ≠ s := fun y hy => by
        rw [← hss, List.mem_filter] at hy
        refine ⟨?_, of_decide_eq_true hy.2⟩
        have h1 := hy.1
        unfold signs3 at h1
        simp only [List.mem_cons, List.not_mem_nil, or_false] at h1
        exact h1
      have ssl : ss.length ≤ 3 := by rw [← hss]; exact List.length_filter_le _ _
      clear hss kl
      have I := (I.on sl).on sG
      clear ht1 hR1 hS1 sl sG eB0 nl
      have ht1 := I.same _ _ ht
      have hR1 := hR.same I.same
      have hS1 := I.same.seq hS
      refine ⟨_, rfl, _, rfl, d, rfl, ⟨_, .inl (.inl hD)⟩, fun d2 hd2 => ?_⟩
      have nrd : r ≠ d2 := fun e => by have := hR1.at_; rw [e, hd2] at this; cases this
      refine lc_list (K := K) (a := d) (xs := ss.map V.str) (fun k G => ∃ vs : List Addr, G d2 = some (.lst (vs.map V.ref)) ∧ vs.length = k ∧ (∀ u ∈ vs, Chg d2 5 f1 (rws L) [.str s, .str g0, .int a, .int b] G u) ∧ Same B1 G) ⟨[], upd_same, rfl, (fun _ z => nomatch z), same_lay hd2⟩ (fun k G _ ⟨_, _, _, _, sG⟩ => .inl (.inl (sG _ _ hD))) ?_ ?_
      · rintro k y G hy ⟨vs, hd3, lv, cv, sG⟩
        rw [List.getElem?_map] at hy
        cases hk : ss[k]? with
        | none => rw [hk] at hy; cases hy
        | some y2 =>
        rw [hk] at hy
        cases hy
        have k3 : k < ss.length := (List.getElem?_eq_some_iff.mp hk).1
        obtain ⟨sy, ny⟩ := ssm y2 (List.mem_of_getElem? hk)
        have ht2 := sG _ _ ht1
        refine ⟨rfl, yesT ?_⟩
        refine ⟨_, rfl, _, rfl, t, _, rfl, .inl (.inl (ht2)), nwA (n := 3) (show 3 < 7 by decide), fun v1 m1 => ?_⟩
        generalize eG47 : upd G v1 _ = G47
        have s48 : Same G G47 := by rw [← eG47]; exact same_lay m1
        have kv1 : G47 v1 = some (.tup [.str (kName 5), .str f1, .ref r]) := by rw [← eG47]; exact upd_same
        refine ⟨_, rfl, one, fun v2 m2 => ?_⟩
        generalize eG49 : upd G47 v2 _ = G49
        have s50 : Same G47 G49 := by rw [← eG49]; exact same_lay m2
        have kv2 : G49 v2 = some (.tup [.str y2]) := by rw [← eG49]; exact upd_same
        refine ⟨v1, v2, _, _, rfl, rfl, .inl (.inl (s50 _ _ kv1)), .inl (.inl kv2), (fun z => nomatch z), by show 3 + 1 ≤ sizeLine; decide, (fun z => nomatch z), fun _ v3 m3 => ?_⟩
        generalize eG51 : upd G49 v3 _ = G51
        have s52 : Same G49 G51 := by rw [← eG51]; exact same_lay m3
        have kv3 : G51 v3 = some (.tup [.str (kName 5), .str f1, .ref r, .str y2]) := by rw [← eG51]; exact upd_same
        refine ⟨_, rfl, _, rfl, t, _, rfl, .inl (.inl (s52 _ _ (s50 _ _ (s48 _ _ ht2)))), nwB (n := 4) (by decide) (show 0 < 7 by decide), fun v4 m4 => ?_⟩
        generalize eG53 : upd G51 v4 _ = G53
        have s54 : Same G51 G53 := by rw [← eG53]; exact same_lay m4
        have kv4 : G53 v4 = some (.tup [.str g0, .int a, .int b]) := by rw [← eG53]; exact upd_same
        refine ⟨v3, v4, _, _, rfl, rfl, .inl (.inl (s54 _ _ kv3)), .inl (.inl kv4), (fun z => nomatch z), by show 4 + 3 ≤ sizeLine; decide, (fun z => nomatch z), fun _ v5 m5 => ?_⟩
        generalize eG55 : upd G53 v5 _ = G55
        have s56 : Same G53 G55 := by rw [← eG55]; exact same_lay m5
        have kf : G55 v5 = some (.tup (spT 5 f1 r (.str y2 :: [.str g0, .int a, .int b]))) := by rw [← eG55]; exact upd_same
        have Tf := (((s48.trans s50).trans s52).trans s54).trans s56
        have cg : Chg d2 5 f1 (rws L) [.str s, .str g0, .int a, .int b] G55 v5 := ⟨f1, r, .str y2 :: [.str g0, .int a, .int b], L, nrd, kf, wf1, ⟨y2, g0, a, b, rfl, sy, hg, ng, na, nb⟩, (hR1.same sG).same Tf, fun z => ny (V.str.inj (List.cons.inj z.2.2).1)⟩
        have hd4 := Tf _ _ hd3
        refine ⟨_, hd4, small1000 (by rw [List.length_map]; omega), vs ++ [v5], by rw [upd_same, List.map_append]; rfl, by rw [List.length_append, lv]; rfl, fun u hu => ?_, same_upd (sG.trans Tf) hd2⟩
        rcases List.mem_append.mp hu with k0 | k0
        · exact ((cv u k0).same Tf).put hd4
        · rw [List.mem_singleton.mp k0]
          exact cg.put hd4
      rintro B2 ⟨vs, hd3, lv, cv, sG⟩
      rw [List.length_map] at lv
      refine ⟨o, d2, _, _, rfl, rfl, sG _ _ I.ho, hd3, ?_, fun p np => ?_⟩
      · rw [List.length_map, List.length_map]
        exact Nat.le_trans (show us.length + vs.length ≤ 1000 by omega) (by decide)
      · have sp := same_lay (o := .lst (us.map V.ref ++ vs.map V.ref)) np
        refine q p (us ++ vs) _ (by rw [upd_same, List.map_append]) (fun u hu => ?_) (by rw [List.length_append]; omega) ((I.same.trans sG).trans sp)
        rcases List.mem_append.mp hu with k0 | k0
        · exact ⟨o, ((I.chg u k0).same sG).same sp⟩
        · exact ⟨d2, (cv u k0).same sp⟩
    · have wf0 := wf
      obtain ⟨s, b, rfl, hs, nb⟩ := wf0
      skip
      refine ⟨_, rfl, t, _, _, _, rfl, rfl, .inl (.inl (ht)), atI_nat (j := 0) rfl, _, rfl, wl, _, _, _, rfl, rfl, hS, atI_nat (j := 2) rfl, two, fun u1 n1 => ?_⟩
      generalize eG1 : upd H u1 _ = G1
      have s2 : Same H G1 := by rw [← eG1]; exact same_lay n1
      have k1 : G1 u1 = some (.tup [.str (kName 6), .str hh]) := by rw [← eG1]; exact upd_same
      refine ⟨_, rfl, _, rfl, t, _, rfl, .inl (.inl (s2 _ _ ht)), nwB (n := 2) (by decide) (show 0 < 5 by decide), fun u2 n2 => ?_⟩
      generalize eG3 : upd G1 u2 _ = G3
      have s4 : Same G1 G3 := by rw [← eG3]; exact same_lay n2
      have k2 : G3 u2 = some (.tup (.ref r :: [.str s, .int b])) := by rw [← eG3]; exact upd_same
      refine ⟨u1, u2, _, _, rfl, rfl, .inl (.inl (s4 _ _ k1)), .inl (.inl k2), (fun z => nomatch z), by show 2 + 3 ≤ sizeLine; decide, (fun z => nomatch z), fun _ u3 n3 => ?_⟩
      generalize eG5 : upd G3 u3 _ = G5
      have s6 : Same G3 G5 := by rw [← eG5]; exact same_lay n3
      have k3 : G5 u3 = some (.tup (spT 6 hh r [.str s, .int b])) := by rw [← eG5]; exact upd_same
      refine ⟨one, fun o no => ?_⟩
      have S3 := (s2.trans s4).trans s6
      have noH : H o = none := S3.free no
      have nro : r ≠ o := fun e => by rw [← e] at noH; rw [hR.at_] at noH; cases noH
      have cg0 : Chg o 6 f1 (rws L) [.str s, .int b] G5 u3 := ⟨hh, r, [.str s, .int b], L, nro, k3, wh1, wf, hR.same S3, fun z => nhf z.1⟩
      have I0 : OI o 6 f1 (rws L) [.str s, .int b] H (upd G5 o (.lst [])) [] := ⟨upd_same, fun _ hu => (nomatch hu), S3.trans (same_lay no), noH⟩
      have I := I0.step (Same.refl _) (cg0.same (same_lay no))
      rw [upd_upd] at I
      have I : OI o 6 f1 (rws L) [.str s, .int b] H (upd G5 o (.lst [.ref u3])) [u3] := I
      generalize upd G5 o (.lst [.ref u3]) = J0 at I
      have lus : ([u3] : List Addr).length ≤ 1 := Nat.le_refl 1
      generalize ([u3] : List Addr) = us at I lus
      clear I0 cg0 k1 k2 k3 S3 s2 s4 s6 eG1 eG3 eG5 n1 n2 n3 no
      refine ⟨OInv wl t o 6 f1 (rws L) [.str s, .int b] H none none 2, ?_, ?_⟩
      · have ht1 := I.same _ _ ht
        have hR1 := hR.same I.same
        have hS1 := I.same.seq hS
        refine ⟨_, rfl, .inl ⟨rfl, _, .inl (.inl I.ho)⟩, _, rfl, _, rfl, t, _, rfl, .inl (.inl (ht1)), nwA (n := 2) (show 2 < 5 by decide), fun v1 m1 => ?_⟩
        generalize eG7 : upd J0 v1 _ = G7
        have s8 : Same J0 G7 := by rw [← eG7]; exact same_lay m1
        have kv1 : G7 v1 = some (.tup [.str (kName 6), .str f1]) := by rw [← eG7]; exact upd_same
        refine ⟨_, rfl, t, _, _, _, rfl, rfl, .inl (.inl (s8 _ _ ht1)), atI_nat (j := 2) rfl, two, fun v2 m2 => ?_⟩
        generalize eG9 : upd G7 v2 _ = G9
        have s10 : Same G7 G9 := by rw [← eG9]; exact same_lay m2
        have kv2 : G9 v2 = some (.tup [.int 0, .int 4]) := by rw [← eG9]; exact upd_same
        refine ⟨one, fun v3 m3 => ?_⟩
        generalize eG11 : upd G9 v3 _ = G11
        have s12 : Same G9 G11 := by rw [← eG11]; exact same_lay m3
        have kv3 : G11 v3 = some (.lst [.ref v2]) := by rw [← eG11]; exact upd_same
        have T3 := (s8.trans s10).trans s12
        have hR3 := hR1.same T3
        refine ⟨.list ((rws L).map rowD), .list ([(0, 4)].map rowD), .lst (.inl (.inl hR3.at_)) (dp_rows hR3.rw_), .lst (.inl (.inl kv3)) (dp_rows (L := [(v2, (0, 4))]) (fun q hq => by rw [List.mem_singleton.mp hq]; exact s12 _ _ kv2)), shp_lst _, shp_lst _, _, rfl, ?_⟩
        rw [eqvL]
        by_cases cc : rws L = [(0, 4)]
        · rw [decide_eq_true cc]
          refine iteF ⟨two, fun v4 m4 => ?_⟩
          generalize eG13 : upd G11 v4 _ = G13
          have s14 : Same G11 G13 := by rw [← eG13]; exact same_lay m4
          have kv4 : G13 v4 = some (.tup [.int 0, .int 5]) := by rw [← eG13]; exact upd_same
          refine ⟨one, fun v5 m5 => ?_⟩
          generalize eG15 : upd G13 v5 _ = G15
          have s16 : Same G13 G15 := by rw [← eG15]; exact same_lay m5
          have kv5 : G15 v5 = some (.lst [.ref v4]) := by rw [← eG15]; exact upd_same
          refine ⟨v5, [(v4, (0, 5))], rfl, .inl (.inl kv5), (fun q hq => by rw [List.mem_singleton.mp hq]; exact s16 _ _ kv4), (fun q hq => by rw [List.mem_singleton.mp hq]; exact okRow_of (by decide) (by decide) (by decide)), by show 1 < 64; decide, fun m M A6 t6 nm hm hM nfM meM lenM _ => ?_⟩
          have eM : rws M = [(0, 5)] := Nf.unique nfM (nf_one (by decide)) meM
          refine ⟨one, fun v6 m6 => ?_⟩
          generalize eG17 : upd A6 v6 _ = G17
          have s18 : Same A6 G17 := by rw [← eG17]; exact same_lay m6
          have kv6 : G17 v6 = some (.tup [.ref m]) := by rw [← eG17]; exact upd_same
          have T7 := ((s14.trans s16).trans t6).trans s18
          have T8 := T3.trans T7
          refine ⟨v1, v6, _, _, rfl, rfl, .inl (.inl (T7 _ _ (s12 _ _ (s10 _ _ kv1)))), .inl (.inl kv6), (fun z => nomatch z), by show 2 + 1 ≤ sizeLine; decide, (fun z => nomatch z), fun _ v7 m7 => ?_⟩
          generalize eG19 : upd G17 v7 _ = G19
          have s20 : Same G17 G19 := by rw [← eG19]; exact same_lay m7
          have kv7 : G19 v7 = some (.tup [.str (kName 6), .str f1, .ref m]) := by rw [← eG19]; exact upd_same
          have T9 := T8.trans s20
          refine ⟨_, rfl, _, rfl, t, _, rfl, .inl (.inl (T9 _ _ ht1)), nwB (n := 3) (by decide) (show 0 < 5 by decide), fun v8 m8 => ?_⟩
          generalize eG21 : upd G19 v8 _ = G21
          have s22 : Same G19 G21 := by rw [← eG21]; exact same_lay m8
          have kv8 : G21 v8 = some (.tup [.str s, .int b]) := by rw [← eG21]; exact upd_same
          have nmo : m ≠ o := fun e => by
            have h2 := s16 _ _ (s14 _ _ (T3 _ _ I.ho))
            rw [e] at nm
            rw [nm] at h2
            cases h2
          refine ⟨v7, v8, _, _, rfl, rfl, .inl (.inl (s22 _ _ kv7)), .inl (.inl kv8), (fun z => nomatch z), by show 3 + 2 ≤ sizeLine; decide, (fun z => nomatch z), fun _ v9 m9 => ?_⟩
          generalize eG23 : upd G21 v9 _ = G23
          have s24 : Same G21 G23 := by rw [← eG23]; exact same_lay m9
          have kf : G23 v9 = some (.tup (spT 6 f1 m [.str s, .int b])) := by rw [← eG23]; exact upd_same
          have Tf := (T9.trans s22).trans s24
          have rowsM := (show RowsAt A6 m M from ⟨hm, hM, (fun q hq => by rw [eM] at hq; rw [List.mem_singleton.mp hq]; decide +kernel), nfM, by rw [← rws_len, eM]; decide⟩).same (((s18.trans s20).trans s22).trans s24)
          have cg : Chg o 6 f1 (rws L) [.str s, .int b] G23 v9 := ⟨f1, m, [.str s, .int b], M, nmo, kf, wf1, wf, rowsM, fun z => absurd z.2.1 (by rw [eM, cc]; decide)⟩
          exact ⟨o, _, _, rfl, rfl, Tf _ _ I.ho, small1000 (by rw [List.length_map]; omega), rfl, _, I.step Tf cg, snoc_le lus⟩
        · rw [decide_eq_false cc]
          refine iteT ⟨two, fun v4 m4 => ?_⟩
          generalize eG25 : upd G11 v4 _ = G25
          have s26 : Same G11 G25 := by rw [← eG25]; exact same_lay m4
          have kv4 : G25 v4 = some (.tup [.int 0, .int 4]) := by rw [← eG25]; exact upd_same
          refine ⟨one, fun v5 m5 => ?_⟩
          generalize eG27 : upd G25 v5 _ = G27
          have s28 : Same G25 G27 := by rw [← eG27]; exact same_lay m5
          have kv5 : G27 v5 = some (.lst [.ref v4]) := by rw [← eG27]; exact upd_same
          refine ⟨v5, [(v4, (0, 4))], rfl, .inl (.inl kv5), (fun q hq => by rw [List.mem_singleton.mp hq]; exact s28 _ _ kv4), (fun q hq => by rw [List.mem_singleton.mp hq]; exact okRow_of (by decide) (by decide) (by decide)), by show 1 < 64; decide, fun m M A6 t6 nm hm hM nfM meM lenM _ => ?_⟩
          have eM : rws M = [(0, 4)] := Nf.unique nfM (nf_one (by decide)) meM
          refine ⟨one, fun v6 m6 => ?_⟩
          generalize eG29 : upd A6 v6 _ = G29
          have s30 : Same A6 G29 := by rw [← eG29]; exact same_lay m6
          have kv6 : G29 v6 = some (.tup [.ref m]) := by rw [← eG29]; exact upd_same
          have T7 := ((s26.trans s28).trans t6).trans s30
          have T8 := T3.trans T7
          refine ⟨v1, v6, _, _, rfl, rfl, .inl (.inl (T7 _ _ (s12 _ _ (s10 _ _ kv1)))), .inl (.inl kv6), (fun z => nomatch z), by show 2 + 1 ≤ sizeLine; decide, (fun z => nomatch z), fun _ v7 m7 => ?_⟩
          generalize eG31 : upd G29 v7 _ = G31
          have s32 : Same G29 G31 := by rw [← eG31]; exact same_lay m7
          have kv7 : G31 v7 = some (.tup [.str (kName 6), .str f1, .ref m]) := by rw [← eG31]; exact upd_same
          have T9 := T8.trans s32
          refine ⟨_, rfl, _, rfl, t, _, rfl, .inl (.inl (T9 _ _ ht1)), nwB (n := 3) (by decide) (show 0 < 5 by decide), fun v8 m8 => ?_⟩
          generalize eG33 : upd G31 v8 _ = G33
          have s34 : Same G31 G33 := by rw [← eG33]; exact same_lay m8
          have kv8 : G33 v8 = some (.tup [.str s, .int b]) := by rw [← eG33]; exact upd_same
          have nmo : m ≠ o := fun e => by
            have h2 := s28 _ _ (s26 _ _ (T3 _ _ I.ho))
            rw [e] at nm
            rw [nm] at h2
            cases h2
          refine ⟨v7, v8, _, _, rfl, rfl, .inl (.inl (s34 _ _ kv7)), .inl (.inl kv8), (fun z => nomatch z), by show 3 + 2 ≤ sizeLine; decide, (fun z => nomatch z), fun _ v9 m9 => ?_⟩
          generalize eG35 : upd G33 v9 _ = G35
          have s36 : Same G33 G35 := by rw [← eG35]; exact same_lay m9
          have kf : G35 v9 = some (.tup (spT 6 f1 m [.str s, .int b])) := by rw [← eG35]; exact upd_same
          have Tf := (T9.trans s34).trans s36
          have rowsM := (show RowsAt A6 m M from ⟨hm, hM, (fun q hq => by rw [eM] at hq; rw [List.mem_singleton.mp hq]; decide +kernel), nfM, by rw [← rws_len, eM]; decide⟩).same (((s30.trans s32).trans s34).trans s36)
          have cg : Chg o 6 f1 (rws L) [.str s, .int b] G35 v9 := ⟨f1, m, [.str s, .int b], M, nmo, kf, wf1, wf, rowsM, fun z => cc (by rw [← z.2.1, eM])⟩
          exact ⟨o, _, _, rfl, rfl, Tf _ _ I.ho, small1000 (by rw [List.length_map]; omega), rfl, _, I.step Tf cg, snoc_le lus⟩
      rintro σ' J1 ⟨rfl, us, I, lus⟩
      refine ⟨OInv wl t o 6 f1 (rws L) [.str s, .int b] H none none 2, ?_, ?_⟩
      · have ht1 := I.same _ _ ht
        have hR1 := hR.same I.same
        have hS1 := I.same.seq hS
        exact ⟨_, rfl, t, _, _, _, rfl, rfl, .inl (.inl (ht1)), atI_nat (j := 0) rfl, rfl, _, rfl, ite2 (fun z => absurd (of_decide_eq_true z) (by decide +kernel)) (fun _ => ⟨rfl, us, I, lus⟩)⟩
      rintro σ' J2 ⟨rfl, us, I, lus⟩
      refine ⟨OInv wl t o 6 f1 (rws L) [.str s, .int b] H none none 2, ?_, ?_⟩
      · have ht1 := I.same _ _ ht
        have hR1 := hR.same I.same
        have hS1 := I.same.seq hS
        exact ⟨_, rfl, t, _, _, _, rfl, rfl, .inl (.inl (ht1)), atI_nat (j := 0) rfl, rfl, _, rfl, ite2 (fun z => absurd (of_decide_eq_true z) (by decide +kernel)) (fun _ => ⟨rfl, us, I, lus⟩)⟩
      rintro σ' J3 ⟨rfl, us, I, lus⟩
      refine ⟨OInv wl t o 6 f1 (rws L) [.str s, .int b] H none none 2, ?_, ?_⟩
      · have ht1 := I.same _ _ ht
        have hR1 := hR.same I.same
        have hS1 := I.same.seq hS
        exact ⟨_, rfl, t, _, _, _, rfl, rfl, .inl (.inl (ht1)), atI_nat (j := 0) rfl, rfl, _, rfl, ite2 (fun z => absurd (of_decide_eq_true z) (by decide +kernel)) (fun _ => ⟨rfl, us, I, lus⟩)⟩
      rintro σ' J4 ⟨rfl, us, I, lus⟩
      have ht1 := I.same _ _ ht
      have hR1 := hR.same I.same
      have hS1 := I.same.seq hS
      refine ⟨_, rfl, t, 6, f1, r, _, rfl, ht1, by decide, fun J5 S5 => ⟨_, rfl, ?_⟩⟩
      refine iteF ?_
      have I := I.on S5
      refine ⟨_, rfl, t, 6, f1, r, _, rfl, S5 _ _ ht1, .inr (.inr rfl), wf, fun nu nnu => ?_⟩
      refine ⟨nu, _, rfl, .inl (.inl upd_same), rfl, _, _, rfl, _, _, rfl, rfl, ?_⟩
      have I := I.on (same_lay (o := .tup (numsOf 6 [.str s, .int b])) nnu)
      generalize upd J5 nu _ = J6 at I
      clear ht1 hR1 hS1
      have sb := sm b (by simp)
      refine ⟨OInv wl t o 6 f1 (rws L) [.str s, .int b] H (some (.int 0)) (some (.int b)) 3, ?_, ?_⟩
      · have ht1 := I.same _ _ ht
        have hR1 := hR.same I.same
        have hS1 := I.same.seq hS
        refine ⟨_, rfl, .inl ⟨rfl, _, .inl (.inl I.ho)⟩, ?_⟩
        refine ⟨_, rfl, _, rfl, _, rfl, _, _, rfl, rfl, t, 6, f1, r, _, _, _, rfl, ht1, .inr (.inr rfl), wf, fun v1 A1 kf Tf => ?_⟩
        have cg : Chg o 6 f1 (rws L) [.str s, .int b] A1 v1 := ⟨f1, r, [.str s, .int (b + 1)], L, nro, kf, wf1, ⟨s, b + 1, rfl, hs, num1 sb _ (by omega)⟩, hR1.same Tf, fun z => by
            have e := z.2.2
            simp only [List.cons.injEq, V.int.injEq, and_true, true_and] at e
            omega⟩
        exact ⟨o, _, _, rfl, rfl, Tf _ _ I.ho, small1000 (by rw [List.length_map]; omega), rfl, _, I.step Tf cg, snoc_le lus⟩
      rintro σ' J7 ⟨rfl, us, I, lus⟩
      refine ⟨OInv wl t o 6 f1 (rws L) [.str s, .int b] H (some (.int 0)) (some (.int b)) 4, ?_, ?_⟩
      · have ht1 := I.same _ _ ht
        have hR1 := hR.same I.same
        have hS1 := I.same.seq hS
        refine ⟨_, rfl, .inl ⟨rfl, _, .inl (.inl I.ho)⟩, ?_⟩
        refine ⟨_, rfl, _, rfl, _, rfl, b, rfl, _, _, rfl, rfl, t, 6, f1, r, _, _, _, rfl, ht1, .inr (.inr rfl), wf, fun v1 A1 kf Tf => ?_⟩
        have cg : Chg o 6 f1 (rws L) [.str s, .int b] A1 v1 := ⟨f1, r, [.str s, .int (-b - 1)], L, nro, kf, wf1, ⟨s, -b - 1, rfl, hs, num1 sb _ (by omega)⟩, hR1.same Tf, fun z => by
            have e := z.2.2
            simp only [List.cons.injEq, V.int.injEq, and_true, true_and] at e
            omega⟩
        exact ⟨o, _, _, rfl, rfl, Tf _ _ I.ho, small1000 (by rw [List.length_map]; omega), rfl, _, I.step Tf cg, snoc_le lus⟩
      rintro σ' J8 ⟨rfl, us, I, lus⟩
      refine ⟨OInv wl t o 6 f1 (rws L) [.str s, .int b] H (some (.int 0)) (some (.int b)) 4, ?_, ?_⟩
      · have ht1 := I.same _ _ ht
        have hR1 := hR.same I.same
        have hS1 := I.same.seq hS
        exact ⟨_, rfl, t, _, _, _, rfl, rfl, .inl (.inl (ht1)), atI_nat (j := 0) rfl, rfl, _, rfl, iteNS rfl ⟨rfl, us, I, lus⟩⟩
      rintro σ' J9 ⟨rfl, us, I, lus⟩
      have ht1 := I.same _ _ ht
      have hR1 := hR.same I.same
      have hS1 := I.same.seq hS
      refine ⟨by show 3 ≤ sizeLine; decide, fun l nl => ?_⟩
      have sl := same_lay (o := .lst (signs3.map V.str)) nl
      have kl : (upd J9 l (.lst (signs3.map V.str))) l = some (.lst (signs3.map V.str)) := upd_same
      refine ⟨l, rfl, ⟨signs3.map V.str, .inl (.inl kl)⟩, ?_⟩
      generalize eB0 : upd J9 l _ = B0
      have sl : Same J9 B0 := by rw [← eB0]; exact same_lay nl
      have kl : B0 l = some (.lst (signs3.map V.str)) := by rw [← eB0]; exact upd_same
      intro d hd
      refine lc_list (K := K) (a := l) (xs := signs3.map V.str) (fun k G => G d = some (.lst (((signs3.take k).filter (fun y => decide (y ≠ s))).map V.str)) ∧ Same B0 G) ⟨upd_same, same_lay hd⟩ (fun k G _ ⟨_, sG⟩ => .inl (.inl (sG _ _ kl))) ?_ ?_
      · rintro k y G hy ⟨hD, sG⟩
        rw [List.getElem?_map] at hy
        cases hk : signs3[k]? with
        | none => rw [hk] at hy; cases hy
        | some y2 =>
        rw [hk] at hy
        cases hy
        have k3 : k < 3 := (List.getElem?_eq_some_iff.mp hk).1
        have e1 : signs3.take (k + 1) = signs3.take k ++ [y2] := by rw [List.take_add_one, hk]; rfl
        refine ⟨rfl, _, rfl, _, rfl, t, _, _, _, rfl, rfl, .inr (.inl (.inl (sG _ _ (sl _ _ ht1)))), atI_nat (j := 3) rfl, rfl, _, rfl, ?_⟩
        by_cases cy : y2 = s
        · subst cy
          rw [eqS]
          refine iteF ⟨?_, sG⟩
          rw [hD, e1, List.filter_append]
          simp
        · rw [neqS cy]
          refine iteT ⟨_, rfl, _, hD, small1000 ?_, ?_, same_upd sG hd⟩
          · rw [List.length_map]
            have := List.length_filter_le (fun y => decide (y ≠ s)) (signs3.take k)
            rw [List.length_take] at this
            omega
          · rw [upd_same, e1, List.filter_append, List.map_append]
            simp [cy]
      rintro B1 ⟨hD, sG⟩
      rw [List.length_map, List.take_of_length_le (Nat.le_refl _)] at hD
      generalize hss : signs3.filter (fun y => decide (y ≠ s)) = ss at hD
      have ssm : ∀ y ∈ ss, isSign y ∧ y ≠ s := fun y hy => by
        rw [← hss, List.mem_filter] at hy
        refine ⟨?_, of_decide_eq_true hy.2⟩
        have h1 := hy.1
        unfold signs3 at h1
        simp only [List.mem_cons, List.not_mem_nil, or_false] at h1
        exact h1
      have ssl : ss.length ≤ 3 := by rw [← hss]; exact List.length_filter_le _ _
      clear hss kl
      have I := (I.on sl).on sG
      clear ht1 hR1 hS1 sl sG eB0 nl
      have ht1 := I.same _ _ ht
      have hR1 := hR.same I.same
      have hS1 := I.same.seq hS
      refine ⟨_, rfl, _, rfl, d, rfl, ⟨_, .inl (.inl hD)⟩, fun d2 hd2 => ?_⟩
      have nrd : r ≠ d2 := fun e => by have := hR1.at_; rw [e, hd2] at this; cases this
      refine lc_list (K := K) (a := d) (xs := ss.map V.str) (fun k G => ∃ vs : List Addr, G d2 = some (.lst (vs.map V.ref)) ∧ vs.length = k ∧ (∀ u ∈ vs, Chg d2 6 f1 (rws L) [.str s, .int b] G u) ∧ Same B1 G) ⟨[], upd_same, rfl, (fun _ z => nomatch z), same_lay hd2⟩ (fun k G _ ⟨_, _, _, _, sG⟩ => .inl (.inl (sG _ _ hD))) ?_ ?_
      · rintro k y G hy ⟨vs, hd3, lv, cv, sG⟩
        rw [List.getElem?_map] at hy
        cases hk : ss[k]? with
        | none => rw [hk] at hy; cases hy
        | some y2 =>
        rw [hk] at hy
        cases hy
        have k3 : k < ss.length := (List.getElem?_eq_some_iff.mp hk).1
        obtain ⟨sy, ny⟩ := ssm y2 (List.mem_of_getElem? hk)
        have ht2 := sG _ _ ht1
        refine ⟨rfl, yesT ?_⟩
        refine ⟨_, rfl, _, rfl, t, _, rfl, .inl (.inl (ht2)), nwA (n := 3) (show 3 < 5 by decide), fun v1 m1 => ?_⟩
        generalize eG37 : upd G v1 _ = G37
        have s38 : Same G G37 := by rw [← eG37]; exact same_lay m1
        have kv1 : G37 v1 = some (.tup [.str (kName 6), .str f1, .ref r]) := by rw [← eG37]; exact upd_same
        refine ⟨_, rfl, one, fun v2 m2 => ?_⟩
        generalize eG39 : upd G37 v2 _ = G39
        have s40 : Same G37 G39 := by rw [← eG39]; exact same_lay m2
        have kv2 : G39 v2 = some (.tup [.str y2]) := by rw [← eG39]; exact upd_same
        refine ⟨v1, v2, _, _, rfl, rfl, .inl (.inl (s40 _ _ kv1)), .inl (.inl kv2), (fun z => nomatch z), by show 3 + 1 ≤ sizeLine; decide, (fun z => nomatch z), fun _ v3 m3 => ?_⟩
        generalize eG41 : upd G39 v3 _ = G41
        have s42 : Same G39 G41 := by rw [← eG41]; exact same_lay m3
        have kv3 : G41 v3 = some (.tup [.str (kName 6), .str f1, .ref r, .str y2]) := by rw [← eG41]; exact upd_same
        refine ⟨_, rfl, _, rfl, t, _, rfl, .inl (.inl (s42 _ _ (s40 _ _ (s38 _ _ ht2)))), nwB (n := 4) (by decide) (show 0 < 5 by decide), fun v4 m4 => ?_⟩
        generalize eG43 : upd G41 v4 _ = G43
        have s44 : Same G41 G43 := by rw [← eG43]; exact same_lay m4
        have kv4 : G43 v4 = some (.tup [.int b]) := by rw [← eG43]; exact upd_same
        refine ⟨v3, v4, _, _, rfl, rfl, .inl (.inl (s44 _ _ kv3)), .inl (.inl kv4), (fun z => nomatch z), by show 4 + 1 ≤ sizeLine; decide, (fun z => nomatch z), fun _ v5 m5 => ?_⟩
        generalize eG45 : upd G43 v5 _ = G45
        have s46 : Same G43 G45 := by rw [← eG45]; exact same_lay m5
        have kf : G45 v5 = some (.tup (spT 6 f1 r (.str y2 :: [.int b]))) := by rw [← eG45]; exact upd_same
        have Tf := (((s38.trans s40).trans s42).trans s44).trans s46
        have cg : Chg d2 6 f1 (rws L) [.str s, .int b] G45 v5 := ⟨f1, r, .str y2 :: [.int b], L, nrd, kf, wf1, ⟨y2, b, rfl, sy, nb⟩, (hR1.same sG).same Tf, fun z => ny (V.str.inj (List.cons.inj z.2.2).1)⟩
        have hd4 := Tf _ _ hd3
        refine ⟨_, hd4, small1000 (by rw [List.length_map]; omega), vs ++ [v5], by rw [upd_same, List.map_append]; rfl, by rw [List.length_append, lv]; rfl, fun u hu => ?_, same_upd (sG.trans Tf) hd2⟩
        rcases List.mem_append.mp hu with k0 | k0
        · exact ((cv u k0).same Tf).put hd4
        · rw [List.mem_singleton.mp k0]
          exact cg.put hd4
      rintro B2 ⟨vs, hd3, lv, cv, sG⟩
      rw [List.length_map] at lv
      refine ⟨o, d2, _, _, rfl, rfl, sG _ _ I.ho, hd3, ?_, fun p np => ?_⟩
      · rw [List.length_map, List.length_map]
        exact Nat.le_trans (show us.length + vs.length ≤ 1000 by omega) (by decide)
      · have sp := same_lay (o := .lst (us.map V.ref ++ vs.map V.ref)) np
        refine q p (us ++ vs) _ (by rw [upd_same, List.map_append]) (fun u hu => ?_) (by rw [List.length_append]; omega) ((I.same.trans sG).trans sp)
        rcases List.mem_append.mp hu with k0 | k0
        · exact ⟨o, ((I.chg u k0).same sG).same sp⟩
        · exact ⟨d2, (cv u k0).same sp⟩
end
end OR

namespace OR
open PySem PySem.Spec PyProof.Rows L2
open TL (tl numL)
/-! ### the law -/
def vD : V → PyData
  | .str s => .str s
  | .int i => .int i
  | _ => .none
def SmV : V → Prop
  | .str s => SmallS s
  | .int _ => True
  | _ => False
theorem word_small {s : Str} (h : Word s) : SmallS s := fun c hc => by have := h.az c hc; omega
theorem sign_small {s : Str} (h : isSign s) : SmallS s := by
  rcases h with e | e | e <;> subst e <;> intro c hc <;> revert c <;> decide
theorem way_small {s : Str} (h : isWay s) : SmallS s := by
  rcases h with e | e <;> subst e <;> intro c hc <;> revert c <;> decide
theorem kName_small : ∀ i, SmallS (kName i)
  | 0 => by intro c hc; revert c; decide
  | 1 => by intro c hc; revert c; decide
  | 2 => by intro c hc; revert c; decide
  | 3 => by intro c hc; revert c; decide
  | 4 => by intro c hc; revert c; decide
  | 5 => by intro c hc; revert c; decide
  | _ + 6 => by
    show SmallS ("step" : Str)
    intro c hc; revert c; decide
theorem wf_small {i : Nat} {f : Str} {x : List V} (hi : i < 7) (h : WF i f x) : ∀ v ∈ x, SmV v := by
  rcases kinds7 hi with e | e | e | e | e | e | e <;> subst e
  · cases (show x = [] from h); exact fun _ z => nomatch z
  · cases (show x = [] from h); exact fun _ z => nomatch z
  · obtain ⟨g, rfl, hg, _⟩ := h
    intro v hv
    rw [List.mem_singleton.mp hv]
    exact word_small hg
  · obtain ⟨w, rfl, hs⟩ := h
    intro v hv
    rw [List.mem_singleton.mp hv]
    exact way_small hs
  · obtain ⟨s, a, b, rfl, hs, _⟩ := h
    intro v hv
    simp only [List.mem_cons, List.not_mem_nil, or_false] at hv
    rcases hv with e | e | e <;> subst e
    · exact sign_small hs
    · trivial
    · trivial
  · obtain ⟨s, g, a, b, rfl, hs, hg, _⟩ := h
    intro v hv
    simp only [List.mem_cons, List.not_mem_nil, or_false] at hv
    rcases hv with e | e | e | e <;> subst e
    · exact sign_small hs
    · exact word_small hg
    · trivial
    · trivial
  · obtain ⟨s, b, rfl, hs, _⟩ := h
    intro v hv
    simp only [List.mem_cons, List.not_mem_nil, or_false] at hv
    rcases hv with e | e <;> subst e
    · exact sign_small hs
    · trivial
theorem dp_vs {K : PySem.W.Frag} {H : Hp} : ∀ {x : List V}, (∀ v ∈ x, SmV v) → DpAll K H x (x.map vD)
  | [], _ => .nil
  | .str s :: r, h => .cons (.str s) (dp_vs fun v hv => h v (List.mem_cons_of_mem _ hv))
  | .int i :: r, h => .cons (.int i) (dp_vs fun v hv => h v (List.mem_cons_of_mem _ hv))
  | .non :: r, h => (h _ List.mem_cons_self).elim
  | .bl _ :: r, h => (h _ List.mem_cons_self).elim
  | .byt _ :: r, h => (h _ List.mem_cons_self).elim
  | .flt _ :: r, h => (h _ List.mem_cons_self).elim
  | .ref _ :: r, h => (h _ List.mem_cons_self).elim
  | .ty _ :: r, h => (h _ List.mem_cons_self).elim
theorem lay_vs : ∀ {x : List V}, (∀ v ∈ x, SmV v) → PyData.canLayAll0 (x.map vD) = true ∧ PyData.depthAll (x.map vD) = 0 ∧ PyData.eqvAll (x.map vD) (x.map vD) = true
  | [], _ => ⟨rfl, rfl, by simp [PyData.eqvAll]⟩
  | v :: r, h => by
    obtain ⟨h1, h2, h3⟩ := lay_vs (x := r) fun v hv => h v (List.mem_cons_of_mem _ hv)
    have hv := h v List.mem_cons_self
    have k : PyData.canLay0 (vD v) = true ∧ PyData.depth (vD v) = 0 ∧ PyData.eqv (vD v) (vD v) = true := by
      cases v with
      | str s => exact ⟨strOk_of hv, rfl, by simp [vD, PyData.eqv]⟩
      | int i => exact ⟨rfl, rfl, by simp [vD, PyData.eqv]⟩
      | _ => exact hv.elim
    refine ⟨?_, ?_, ?_⟩
    · show (PyData.canLay0 (vD v) && PyData.canLayAll0 (r.map vD)) = true
      rw [k.1, h1]; rfl
    · show max (PyData.depth (vD v)) (PyData.depthAll (r.map vD)) = 0
      rw [k.2.1, h2]; rfl
    · show (PyData.eqv (vD v) (vD v) && PyData.eqvAll (r.map vD) (r.map vD)) = true
      rw [k.2.2, h3]; rfl
def specD (i : Nat) (f : Str) (l : List Row) (x : List V) : PyData := .tuple (.str (kName i) :: .str f :: .list (l.map rowD) :: x.map vD)
theorem spec_dp {K : PySem.W.Frag} {H : Hp} {t r : Addr} {i : Nat} {f : Str} {x : List V} {L : List ARow} (ht : H t = some (.tup (spT i f r x))) (hr : H r = some (.lst (refs L))) (hL : AtR H L) (hx : ∀ v ∈ x, SmV v) : Dp K H (.ref t) (specD i f (rws L) x) :=
  .tup (.inl (.inl ht)) (.cons (.str _) (.cons (.str _) (.cons (.lst (.inl (.inl hr)) (dp_rows hL)) (dp_vs hx))))
theorem spec_shp {i : Nat} {f : Str} {l : List Row} {x : List V} (hf : SmallS f) (hx : ∀ v ∈ x, SmV v) : SeqAt.shaped (specD i f l x) = true := by
  obtain ⟨h1, h2, _⟩ := lay_vs hx
  unfold SeqAt.shaped specD
  have e1 : PyData.canLay0 (.tuple (.str (kName i) :: .str f :: .list (l.map rowD) :: x.map vD)) = true := by
    show (PyData.strOk (kName i) && (PyData.strOk f && (PyData.canLayAll0 (l.map rowD) && PyData.canLayAll0 (x.map vD)))) = true
    rw [strOk_of (kName_small i), strOk_of hf, lay_rows l, h1]
    rfl
  rw [e1, Bool.true_and]
  refine decide_eq_true ?_
  show max (PyData.depth (.str (kName i))) (max (PyData.depth (.str f)) (max (PyData.depthAll (l.map rowD) + 1) (PyData.depthAll (x.map vD)))) + 1 ≤ 64
  have h3 := dep_rows l
  have e2 : PyData.depth (.str (kName i)) = 0 := rfl
  have e3 : PyData.depth (.str f) = 0 := rfl
  rw [h2, e2, e3]
  omega
theorem spec_eqv {i : Nat} {f : Str} {l : List Row} {x : List V} (hx : ∀ v ∈ x, SmV v) : PyData.eqv (specD i f l x) (specD i f l x) = true := by
  obtain ⟨_, _, h3⟩ := lay_vs hx
  show ((kName i == kName i) && ((f == f) && (PyData.eqv (.list (l.map rowD)) (.list (l.map rowD)) && PyData.eqvAll (x.map vD) (x.map vD)))) = true
  rw [h3, eqvL, decide_eq_true rfl]
  simp
theorem told_strs {i : Nat} {f : Str} {x : List V} (hi : i < 7) (hf : Word f) (h : WF i f x) : ∀ v ∈ told i f x, SmV v := by
  have hf' := word_small hf
  rcases kinds7 hi with e | e | e | e | e | e | e <;> subst e
  · cases (show x = [] from h); intro v hv; rw [List.mem_singleton.mp hv]; exact hf'
  · cases (show x = [] from h); intro v hv; rw [List.mem_singleton.mp hv]; exact hf'
  · obtain ⟨g, rfl, hg, _⟩ := h
    intro v hv
    simp only [told, List.mem_cons, List.not_mem_nil, or_false] at hv
    rcases hv with e | e <;> subst e
    · exact hf'
    · exact word_small hg
  · obtain ⟨w, rfl, hs⟩ := h; intro v hv; rw [List.mem_singleton.mp hv]; exact hf'
  · obtain ⟨s, a, b, rfl, hs, _⟩ := h; intro v hv; rw [List.mem_singleton.mp hv]; exact hf'
  · obtain ⟨s, g, a, b, rfl, hs, hg, _⟩ := h
    intro v hv
    simp only [told, List.mem_cons, List.not_mem_nil, or_false] at hv
    rcases hv with e | e <;> subst e
    · exact hf'
    · exact word_small hg
  · obtain ⟨s, b, rfl, hs, _⟩ := h; intro v hv; rw [List.mem_singleton.mp hv]; exact hf'
theorem tup_shp {x : List V} (hx : ∀ v ∈ x, SmV v) : SeqAt.shaped (.tuple (x.map vD)) = true := by
  obtain ⟨h1, h2, _⟩ := lay_vs hx
  unfold SeqAt.shaped
  rw [show PyData.canLay0 (.tuple (x.map vD)) = true from h1, Bool.true_and]
  refine decide_eq_true ?_
  show PyData.depthAll (x.map vD) + 1 ≤ 64
  omega
theorem tup_eqv {x : List V} (hx : ∀ v ∈ x, SmV v) : PyData.eqv (.tuple (x.map vD)) (.tuple (x.map vD)) = true := (lay_vs hx).2.2
theorem kName_inj {i j : Nat} (hi : i < 7) (hj : j < 7) (h : kName i = kName j) : i = j := by
  rcases kinds7 hi with e | e | e | e | e | e | e <;> subst e <;> rcases kinds7 hj with e | e | e | e | e | e | e <;> subst e <;> first | rfl | exact absurd h (by decide +kernel)
def names7 : List Str := ["answers", "refuses", "needs", "spreads", "bound", "pair", "step"]
theorem names7_of {y : Str} (h : y ∈ names7) : ∃ i, i < 7 ∧ y = kName i := by
  unfold names7 at h
  simp only [List.mem_cons, List.not_mem_nil, or_false] at h
  rcases h with e | e | e | e | e | e | e <;> subst e
  · exact ⟨0, by decide, rfl⟩
  · exact ⟨1, by decide, rfl⟩
  · exact ⟨2, by decide, rfl⟩
  · exact ⟨3, by decide, rfl⟩
  · exact ⟨4, by decide, rfl⟩
  · exact ⟨5, by decide, rfl⟩
  · exact ⟨6, by decide, rfl⟩
theorem noM : ∀ i, ("functions_told" : Str) ∉ allNames i ∧ ("text" : Str) ∉ allNames i ∧ ("line" : Str) ∉ allNames i
  | 0 => by decide +kernel
  | 1 => by decide +kernel
  | 2 => by decide +kernel
  | 3 => by decide +kernel
  | 4 => by decide +kernel
  | 5 => by decide +kernel
  | _ + 6 => by
    show ("functions_told" : Str) ∉ ("kind" :: "function" :: "places" :: ["sign", "height"] : List Str) ∧ ("text" : Str) ∉ ("kind" :: "function" :: "places" :: ["sign", "height"] : List Str) ∧ ("line" : Str) ∉ ("kind" :: "function" :: "places" :: ["sign", "height"] : List Str)
    decide +kernel
/-- a method of one of some classes -/
theorem pe_mtF {X : Cx} {k j : Nat} {I : Nat → Prop} {C : Nat → Addr} {m : Str} {ps : List Str} {sp : Nat → Sp} {o : Expr} {ta : TE} {apos pos : Pos} {pl : Sem Bool} (M : ∀ i, I i → Mt X.prog X.w X.K X.mg X.base k (C i) m ps (sp i)) (c : ∀ i, I i → Cls X.K (C i)) (hr : Room j X.A) (hk : k ≤ j) (he : PE X o ta)
    (ht : eval (.Call (.Attribute o m apos) [] [] pos) X.env = (do
      let ov ← eval o X.env
      standAt apos.atName
      let (f, first) ← holding [ov] (getMethod ov m pl)
      callWith pos f first (backTo pos (starEach [] X.env)) (backToKw pos (keywordEach [] X.env))) := by rfl) : PE X (.Call (.Attribute o m apos) [] [] pos) (fun σ H Q => ∃ i, I i ∧ tMeth (C i) m (sp i) [] E0 ta tNil σ H Q) :=
  ⟨fun pins s σ H Q I0 ⟨i, hi, h⟩ => (pe_mt0 (M i hi) (c i hi) hr hk he ht).run pins s σ H Q I0 h⟩
theorem op_eqF {X : Cx} (K : PySem.W.Frag) (hK : X.K = K) {n : Nat} {C : Nat → Addr} {sp : Nat → Sp} (m : ∀ i, i < 7 → Md X.prog X.w X.K X.mg X.base n (C i) "__eq__" (sp i)) (hr : Room n X.A) : OpR X (compareOp .Eq) (fun x y H Q => ∃ i, i < 7 ∧ rEqO K (C i) (sp i) x y H Q) := by
  intro pins s σ H x y v u Q I rx ry h
  obtain ⟨i, hi, h⟩ := h
  exact op_eqO K hK (m i hi) hr pins s σ H x y v u Q I rx ry h
theorem op_neF {X : Cx} (K : PySem.W.Frag) (hK : X.K = K) {n : Nat} {C : Nat → Addr} {sp : Nat → Sp} (m : ∀ i, i < 7 → Md X.prog X.w X.K X.mg X.base n (C i) "__eq__" (sp i)) (h1 : ∀ i, i < 7 → PySem.W.findIn X.K (.ref (C i)) "__ne__" = some (some (.builtin "object.__ne__"))) (hm : ∀ i, i < 7 → PySem.W.mroIn X.K (C i) (.type "object") = some true) (hr : Room (n + 1) X.A) :
    OpR X (compareOp .NotEq) (fun x y H Q => ∃ i, i < 7 ∧ rNeO K (C i) (sp i) x y H Q) := by
  intro pins s σ H x y v u Q I rx ry h
  obtain ⟨i, hi, h⟩ := h
  exact op_neO K hK (m i hi) (h1 i hi) (hm i hi) hr pins s σ H x y v u Q I rx ry h
structure NF (K : PySem.W.Frag) (C : Nat → Addr) : Prop where
  cc : ∀ i, i < 7 → ∀ j, j < 7 → PySem.W.notFirst K (C i) (.ref (C j)) = true
  cs : ∀ i, i < 7 → PySem.W.notFirst K (C i) (.type "str") = true
  ct : ∀ i, i < 7 → PySem.W.notFirst K (C i) (.type "tuple") = true
section
variable {P : Program} {w : World} {K : PySem.W.Frag} {mg : Str → Option Value} {base : Heap} {C : Nat → Addr} {CP CL : Addr} {ts tw : Addr}
theorem c_eq (T : CTxt K mg C) (N : NF K C) {H : Hp} {z z2 : Addr} {i j : Nat} {f g : Str} {l m : List Row} {x u : List V} {Q : VK} (h : IsC CP C H z i f l x) (h2 : IsC CP C H z2 j g m u) (q : Q (.bl (ceq i f l x j g m u)) H) : ∃ i, i < 7 ∧ rEqO K (C i) (spCEq K CP C i) (.ref z) (.ref z2) H Q := by
  obtain ⟨dx, pl, hz, _⟩ := h.ex
  obtain ⟨dy, pm, hy, _⟩ := h2.ex
  exact ⟨i, h.lt, z, dx, _, rfl, hz, ⟨_, tyC T h2.lt hy, N.cc i h.lt j h2.lt⟩, z, .ref z2, f, l, x, rfl, h, .inl ⟨z2, j, g, m, u, rfl, h2, q⟩⟩
theorem c_ne (T : CTxt K mg C) (N : NF K C) {H : Hp} {z z2 : Addr} {i j : Nat} {f g : Str} {l m : List Row} {x u : List V} {Q : VK} (h : IsC CP C H z i f l x) (h2 : IsC CP C H z2 j g m u) (q : Q (.bl (!ceq i f l x j g m u)) H) : ∃ i, i < 7 ∧ rNeO K (C i) (spCEq K CP C i) (.ref z) (.ref z2) H Q := by
  obtain ⟨dx, pl, hz, _⟩ := h.ex
  obtain ⟨dy, pm, hy, _⟩ := h2.ex
  exact ⟨i, h.lt, z, dx, _, rfl, hz, ⟨_, tyC T h2.lt hy, N.cc i h.lt j h2.lt⟩, z, .ref z2, f, l, x, rfl, h, .inl ⟨z2, j, g, m, u, rfl, h2, _, rfl, q⟩⟩
theorem c_eqS (T : CTxt K mg C) (N : NF K C) {H : Hp} {z : Addr} {i : Nat} {f : Str} {l : List Row} {x : List V} {s : Str} {Q : VK} (h : IsC CP C H z i f l x) (q : Q (.bl false) H) : ∃ i, i < 7 ∧ rEqO K (C i) (spCEq K CP C i) (.ref z) (.str s) H Q := by
  obtain ⟨dx, pl, hz, _⟩ := h.ex
  exact ⟨i, h.lt, z, dx, _, rfl, hz, ⟨_, .base (.str s), N.cs i h.lt⟩, z, .str s, f, l, x, rfl, h, .inr ⟨"str", .base (.str s), T.kS i h.lt, q⟩⟩
theorem c_eqT (T : CTxt K mg C) (N : NF K C) {H : Hp} {z t : Addr} {i : Nat} {f : Str} {l : List Row} {x xs : List V} {Q : VK} (h : IsC CP C H z i f l x) (ht : H t = some (.tup xs)) (q : Q (.bl false) H) : ∃ i, i < 7 ∧ rEqO K (C i) (spCEq K CP C i) (.ref z) (.ref t) H Q := by
  obtain ⟨dx, pl, hz, _⟩ := h.ex
  exact ⟨i, h.lt, z, dx, _, rfl, hz, ⟨_, .base (.tup ht), N.ct i h.lt⟩, z, .ref t, f, l, x, rfl, h, .inr ⟨"tuple", .base (.tup ht), T.kT i h.lt, q⟩⟩
theorem l_ne (T : LTxt K mg CL) {H : Hp} {y y2 : Addr} {a b : Int} {Q : VK} (h : IsL CL H y a b) (h2 : IsL CL H y2 a b) (q : Q (.bl false) H) : rNeO K CL (spLEq K CL) (.ref y) (.ref y2) H Q := by
  obtain ⟨dx, hx⟩ := id h
  obtain ⟨dy, hy⟩ := id h2
  refine ⟨y, dx, _, rfl, hx, ⟨.ref CL, tyL T hy, nf_self⟩, y, a, b, .ref y2, rfl, h, .inl ⟨y2, a, b, rfl, h2, true, ?_, q⟩⟩
  rw [show decide (a = a ∧ b = b) = true from decide_eq_true ⟨rfl, rfl⟩]
end
end OR

namespace OR
open PySem PySem.Spec PyProof.Rows L2
open TL (tl numL)
def spLaw (K : PySem.W.Frag) : Sp := fun vs H Q _ => ∃ (a : Addr) (ns : List Int), vs = [.ref a] ∧ SqL K H a (ns.map V.int) ∧ ns.length ≤ 63 ∧ ∀ H', Q (.bl true) H'
theorem inV_bp {i : Nat} (hi : i < 7) : inV (.str (kName i)) [.str "bound", .str "pair"] = decide (i = 4 ∨ i = 5) := by
  rcases kinds7 hi with e | e | e | e | e | e | e <;> subst e <;> decide +kernel
theorem IsP.frm {C : Addr} {H H' : Hp} {x p : Addr} {n : Nat} {l : List Row} (h : IsP C H x l) (fr : Frm p H H') (P : Pen H p n) : IsP C H' x l := by
  obtain ⟨nf, dx, t, f, b, M, h1, h2, h3, h4, h5, h6, h7⟩ := h
  have h3' := h3.frm fr P
  obtain ⟨kvs, hp⟩ := P.dict
  have go : ∀ (a : Addr) (o : HO), H a = some o → o ≠ .dK kvs → H' a = some o := fun a o e no => fr a o e (ne_of e hp no)
  exact ⟨nf, dx, t, f, b, M, go _ _ h1 (by intro z; cases z), go _ _ h2 (by intro z; cases z), h3', h4, go _ _ h5 (by intro z; cases z), go _ _ h6 (by intro z; cases z), h7⟩
theorem IsC.frm {CP : Addr} {C : Nat → Addr} {H H' : Hp} {z p : Addr} {n : Nat} {i : Nat} {f : Str} {l : List Row} {x : List V} (h : IsC CP C H z i f l x) (fr : Frm p H H') (P : Pen H p n) : IsC CP C H' z i f l x := by
  obtain ⟨⟨dx, pl, e, hp⟩, a, b, c, d, g⟩ := h
  obtain ⟨kvs, hpp⟩ := P.dict
  exact ⟨⟨dx, pl, fr _ _ e (ne_of e hpp (by intro z; cases z)), hp.frm fr P⟩, a, b, c, d, g⟩
theorem isC_of {CP : Addr} {C : Nat → Addr} {H : Hp} {z : Addr} {i : Nat} {f : Str} {l : List Row} {x : List V} (h : IsC CP C H z i f l x) : ∃ dx pl, H z = some (.ins (C i) dx (cFl i f pl x)) ∧ IsP CP H pl l := h.ex
section
variable {P : Program} {w : World} {K : PySem.W.Frag} {mg : Str → Option Value} {base : Heap} {C : Nat → Addr} {CP CL : Addr} {ts tw : Addr}
theorem scLaw : FnScope ["_law_script", "_law_pen_here", "_law_kind", "_law_words_here", "_law_spec_here", "_law_clause_here", "_law_changed", "_law_other", "_law_twin"] ["_law_script"] (defScope sLaw) := ⟨rfl, rfl, rfl, by decide +kernel, rfl, by decide +kernel, by decide +kernel⟩
theorem ok_law {f : Addr} {fd : FuncData} (F : Fun K "law" "law" sLaw f fd) (B : Bd mg) (T : CTxt K mg C) (PT : PTxt K mg CP) (LT : LTxt K mg CL) (NFK : NF K C) (LM : LMk P w K mg base CL) (lne : PySem.W.findIn K (.ref CL) "__ne__" = some (some (.builtin "object.__ne__")))
    (LEQ : Md P w K mg base 1 CL "__eq__" (spLEq K CL))
    (TO : ∀ i, i < 7 → Mt P w K mg base 1 (C i) "functions_told" ["self"] (spCTold CP C i)) (TX : ∀ i, i < 7 → Mt P w K mg base 5 (C i) "text" ["self"] (spCText CP C i))
    (LI : ∀ i, (i = 4 ∨ i = 5) → Mt P w K mg base 3 (C i) "line" ["self"] (spCLine CP CL C i)) (EQ : ∀ i, i < 7 → Md P w K mg base 2 (C i) "__eq__" (spCEq K CP C i))
    (N : Cl P w K mg base 1 "_law_pen" ["_law_script"] (spPen K)) (SH : Cl P w K mg base 2 "_law_shuffled" ["_law_pen_here", "_law_items"] (spShufS K)) (WD : Cl P w K mg base 3 "_law_words" ["_law_pen_here", "_law_many"] spWords)
    (SPC : Cl P w K mg base 5 "_law_spec" ["_law_pen_here", "_law_words_here", "_law_rows", "_law_kind"] (spSpec K)) (DR : Cl P w K mg base 3 "_law_drawn" ["_law_pen_here", "_law_most"] spDrawn) (MG : Cl P w K mg base 1 "_law_merged" ["_law_rows"] (spMerged K))
    (CLA : Cl P w K mg base 6 "_law_clause" ["_law_spec_here"] (spClause CP C)) (PAR : Cl P w K mg base 1 "_law_parts" ["_law_clause_here"] (spParts CP C)) (FUN : Cl P w K mg base 1 "_law_functions" ["_law_spec_here"] spFuncs)
    (CTX : Cl P w K mg base 2 "_law_clause_text" ["_law_spec_here"] (spCT K)) (OTH : Cl P w K mg base 2 "_law_otherwise" ["_law_words_here", "_law_spec_here"] (spOther K)) :
    FnOk P w K mg base CX0 7 f fd ["_law_script"] (spLaw K) := by
  refine F.ok scLaw (fun vs H Q E h => ?_) (fun cdv A outer s H vs Q E hr h => ?_)
  · obtain ⟨a, ns, rfl, _⟩ := h
    rfl
  · obtain ⟨sc, ns, rfl, hS, hlen, q⟩ := h
    have nd := scLaw.nd
    have hu64 : (A.deeper (envOfC "law" (defScope sLaw) s.heap.objs.size f cdv)).units + 64 < cLine := hr.units
    have hr1 : Room 1 _ := hr.mono (by decide)
    have hr2 : Room 2 _ := hr.mono (by decide)
    have hr3 : Room 3 _ := hr.mono (by decide)
    refine ⟨_, pss_cons (ps_set (i := 1) nd rfl (.inl rfl) (pe_cl N hr (by decide) (by rfl) (pa_cons (pv 0) pa_nil)))
      (pss_cons (ps_for PassesOwn.never rfl (pi_list (pe_cl SH hr (by decide) (by rfl) (pa_cons (pv 1) (pa_cons (pe_lst (pa_cons pe_str (pa_cons pe_str (pa_cons pe_str (pa_cons pe_str (pa_cons pe_str (pa_cons pe_str (pa_cons pe_str pa_nil)))))))) pa_nil)))) (pg_name (i := 2) nd rfl (.inl rfl))
        (pss_cons (ps_set (i := 3) nd rfl (.inl rfl) (pe_cl WD hr (by decide) (by rfl) (pa_cons (pv 1) (pa_cons pe_int pa_nil))))
        (pss_cons (ps_set (i := 4) nd rfl (.inl rfl) (pe_cl SPC hr (by decide) (by rfl) (pa_cons (pv 1) (pa_cons (pv 3) (pa_cons (pe_cl MG hr (by decide) (by rfl) (pa_cons (pe_cl DR hr (by decide) (by rfl) (pa_cons (pv 1) (pa_cons pe_int pa_nil))) pa_nil)) (pa_cons (pv 2) pa_nil))))))
        (pss_cons (ps_set (i := 5) nd rfl (.inl rfl) (pe_cl CLA hr (by decide) (by rfl) (pa_cons (pv 4) pa_nil)))
        (pss_cons (ps_if (PW.pt (pw_or (pt_cmpR (op_neD hu64) (pe_cl PAR hr (by decide) (by rfl) (pa_cons (pv 5) pa_nil)) (pv 4) (nomark _))
            (pw_or1 (pt_cmpR (op_neD hu64) (pe_mtF TO T.cl hr (by decide) (pv 5)) (pe_cl FUN hr (by decide) (by rfl) (pa_cons (pv 4) pa_nil)) (nomark _))))) (pss_one (ps_ret pe_bl)) pss_nil)
        (pss_cons (ps_if (PW.pt (pw_or (pt_cmpR op_ne (pe_mtF TX T.cl hr (by decide) (pv 5)) (pe_cl CTX hr (by decide) (by rfl) (pa_cons (pv 4) pa_nil)) (nomark _))
            (pw_or1 (pt_not (pt_val (pe_callB call_isi (by rfl) PT.zIsi bt_isi (pa_cons (pe_fld (pv 5) rfl) (pa_cons (pe_glob (v := .ref CP) (by rfl) PT.mgC rfl) pa_nil)))))))) (pss_one (ps_ret pe_bl)) pss_nil)
        (Evl.pss_cut (ps_if (PW.pt (pw_and (pt_cmpR (op_in_seqK K rfl) (pv 2) (pe_tup (pa_cons pe_str (pa_cons pe_str pa_nil))) (by rfl))
            (pw_and1 (pt_cmpR (op_neO K rfl LEQ lne LT.isi.cm hr2) (pe_mtF LI (fun i hi => T.cl i (by omega)) hr (by decide) (pv 5)) (pe_mkL LM hr (by decide) (by rfl) (pa_cons (pe_fld (pv 5) rfl) (pa_cons (pe_fld (pv 5) rfl) pa_nil))) (nomark _))))) (pss_one (ps_ret pe_bl)) pss_nil)
        (pss_cons (ps_if (PW.pt (pw_or (pt_not (pt_cmpR (op_eqF K rfl EQ hr2) (pv 5) (pe_cl CLA hr (by decide) (by rfl) (pa_cons (pv 4) pa_nil)) (nomark _)))
            (pw_or1 (pt_cmpR (op_neF K rfl EQ T.ne (fun i hi => (T.isi i hi).cm) hr3) (pv 5) (pe_cl CLA hr (by decide) (by rfl) (pa_cons (pv 4) pa_nil)) (nomark _))))) (pss_one (ps_ret pe_bl)) pss_nil)
        (pss_cons (ps_for PassesOwn.never rfl (pi_list (pe_cl OTH hr (by decide) (by rfl) (pa_cons (pv 3) (pa_cons (pv 4) pa_nil)))) (pg_name (i := 6) nd rfl (.inl rfl))
          (pss_cons (ps_set (i := 7) nd rfl (.inl rfl) (pe_cl CLA hr (by decide) (by rfl) (pa_cons (pv 6) pa_nil)))
          (pss_one (ps_if (PW.pt (pw_or (pt_cmpR (op_eqF K rfl EQ hr2) (pv 5) (pv 7) (nomark _)) (pw_or (pt_not (pt_cmpR (op_neF K rfl EQ T.ne (fun i hi => (T.isi i hi).cm) hr3) (pv 5) (pv 7) (nomark _))) (pw_or1 (pt_cmpR (op_eqF K rfl EQ hr2) (pv 7) (pv 5) (nomark _)))))) (pss_one (ps_ret pe_bl)) pss_nil))))
        (pss_cons (ps_if (PW.pt (pw_or (pt_cmpR (op_eqF K rfl EQ hr2) (pv 5) (pe_mtF TX T.cl hr (by decide) (pv 5)) (nomark _)) (pw_or1 (pt_cmpR (op_eqF K rfl EQ hr2) (pv 5) (pv 4) (nomark _))))) (pss_one (ps_ret pe_bl)) pss_nil)
        (pss_cons (ps_for PassesOwn.never rfl (pi_list (pe_lst (pa_cons pe_str (pa_cons pe_str (pa_cons pe_str (pa_cons pe_str (pa_cons pe_str (pa_cons pe_str (pa_cons pe_str pa_nil))))))))) (pg_name (i := 7) nd rfl (.inl rfl))
          (pss_cons (ps_set (i := 8) nd rfl (.inl rfl) (pe_cl CLA hr (by decide) (by rfl) (pa_cons (pe_cl SPC hr (by decide) (by rfl) (pa_cons (pv 1) (pa_cons (pv 3) (pa_cons (pe_ix ix_tup (pv 4) pe_int (fun _ _ => rfl)) (pa_cons (pv 7) pa_nil))))) pa_nil)))
          (pss_one (ps_if (PW.pt (pw_and (pt_cmpR op_ne (pv 7) (pv 2) (nomark _)) (pw_and1 (pt_cmpR (op_eqF K rfl EQ hr2) (pv 5) (pv 8) (nomark _))))) (pss_one (ps_ret pe_bl)) pss_nil))))
        (pss_one (ps_if (pt_cmpR (op_neD hu64) (pe_cl PAR hr (by decide) (by rfl) (pa_cons (pv 5) pa_nil)) (pv 4) (nomark _)) (pss_one (ps_ret pe_bl)) pss_nil)))))))))))))
      (pss_one (ps_ret pe_bl))), ?_⟩
    have two : 2 ≤ sizeLine := by decide
    refine ⟨_, rfl, sc, ns, rfl, hS, hlen, fun p H1 np P0 S0 => ?_⟩
    refine ⟨_, rfl, by show 7 ≤ sizeLine; decide, fun l7 n7 => ?_⟩
    have sm7 : ∀ w ∈ names7, SmallS w := fun w hw => by
      obtain ⟨i, _, rfl⟩ := names7_of hw
      exact kName_small i
    refine ⟨p, l7, names7, 0, rfl, .inl (.inl upd_same), sm7, by decide, P0.new n7, by omega, fun o M H2 no ho hpm P2 F2 => ?_⟩
    have lM : M.length = 7 := hpm.length_eq
    refine ⟨o, rfl, ⟨_, .inl (.inl ho)⟩, for_list (K := K) (a := o) (xs := M.map V.str) (fun k σ G => ∃ s2 s3 s4 s5 s6 s7 s8, σ = [some (.ref sc), some (.ref p), s2, s3, s4, s5, s6, s7, s8] ∧ G o = some (.lst (M.map V.str)) ∧ Pen G p (1000 + 3000 * k))
      ⟨none, none, none, none, none, none, none, rfl, ho, P2.mono (by omega)⟩ (fun k σ G _ ⟨_, _, _, _, _, _, _, _, h, _⟩ => .inl (.inl h)) ?_ ?_⟩
    · rintro k y σ G hy ⟨s2, s3, s4, s5, s6, s7, s8, rfl, hoG, PG⟩
      rw [List.getElem?_map] at hy
      cases hk : M[k]? with
      | none => rw [hk] at hy; cases hy
      | some y2 =>
      rw [hk] at hy
      cases hy
      have hk7 : k < 7 := by
        have := (List.getElem?_eq_some_iff.mp hk).1
        omega
      obtain ⟨i, hi, rfl⟩ := names7_of (hpm.mem_iff.mp (List.mem_of_getElem? hk))
      -- words
      refine ⟨_, rfl, p, 3, _, rfl, by decide, PG, by omega, fun wl ws G1 nwl hwl lws wws dws P1 F1 => ?_⟩
      obtain ⟨f1, g, hh, rfl⟩ : ∃ a b c, ws = [a, b, c] := by
        match ws, lws with
        | [a, b, c], _ => exact ⟨a, b, c, rfl⟩
      have wf1 := wws f1 (by simp)
      have wg1 := wws g (by simp)
      have wh1 := wws hh (by simp)
      have dd := dws
      simp only [List.pairwise_cons, List.mem_cons, List.not_mem_nil, or_false, forall_eq_or_imp, forall_eq] at dd
      have ngf : g ≠ f1 := fun e => dd.1.1 e.symm
      have nhf : hh ≠ f1 := fun e => dd.1.2 e.symm
      have nhg : hh ≠ g := fun e => dd.2.1 e.symm
      clear dd dws wws lws
      have ho1 := F1.lst PG hoG
      -- the tuple
      refine ⟨_, rfl, _, rfl, _, rfl, p, 3, _, rfl, by decide, P1, by omega, fun a0 L0 G2 na0 ha0 hL0 okL0 lenL0 P2' F2' => ?_⟩
      refine ⟨a0, L0, rfl, .inl (.inl ha0), hL0, okL0, by omega, fun r L G3 S3 nr hr' hL nfL meL lenL lenL2 => ?_⟩
      have okL := ok_of_mem nfL meL okL0
      have rows3 : RowsAt G3 r L := ⟨hr', hL, okL, nfL, by omega⟩
      have P3 := P2'.same' S3
      have F13 := F2'.trans (frmS S3)
      have hwl3 := F13.lst P1 hwl
      have ho3 := F13.lst P1 ho1
      clear hr' hL ha0 hL0 okL0 meL nfL lenL lenL2 lenL0 na0 nr S3 P2' F2' F13 P1 F1
      refine ⟨_, rfl, p, wl, r, i, f1, g, [.str hh], _, rfl, hi, .inl (.inl hwl3), wf1, wg1, ngf, P3, by omega, fun t x G4 wfx smx otx ht P4 F4 => ?_⟩
      have hwl4 := F4.lst P3 hwl3
      have ho4 := F4.lst P3 ho3
      have rows4 := rows3.frm F4 P3
      clear rows3 hwl3 ho3 F4 P3
      have hsv := wf_small hi wfx
      have hsf := word_small wf1
      -- the clause
      refine ⟨_, rfl, t, i, f1, r, x, L, rfl, ht, hi, wf1, wfx, rows4, fun z G5 hz S5 => ?_⟩
      have ht5 := S5 _ _ ht
      have rows5 := rows4.same S5
      -- its parts
      refine ⟨_, rfl, z, i, f1, rws L, x, rfl, hz, fun t2 r2 M2 G6 ht2 hr2 hM2 eM2 S6 => ?_⟩
      have ht6 := S6 _ _ ht5
      have rows6 := rows5.same S6
      refine ⟨_, rfl, specD i f1 (rws M2) x, specD i f1 (rws L) x, spec_dp ht2 hr2 hM2 hsv, spec_dp ht6 rows6.at_ rows6.rw_ hsv, spec_shp hsf hsv, spec_shp hsf hsv, _, rfl, ?_⟩
      rw [eM2, spec_eqv hsv]
      refine iteF ?_
      have hz6 := hz.same S6
      obtain ⟨dx6, pl6, hzz6, _⟩ := isC_of hz6
      refine ⟨i, hi, _, rfl, z, dx6, _, rfl, hzz6, cFl_no (noM i).1, z, f1, rws L, x, rfl, hz6, fun u1 n1 => ?_⟩
      have su1 := same_lay (o := .tup (told i f1 x)) n1
      refine ⟨_, rfl, t, i, f1, r, x, rfl, su1 _ _ ht6, hi, wfx, fun u2 n2 => ?_⟩
      have su2 := same_lay (o := .tup (told i f1 x)) n2
      have htl := told_strs hi wf1 wfx
      refine ⟨.tuple ((told i f1 x).map vD), .tuple ((told i f1 x).map vD), .tup (.inl (.inl (su2 _ _ upd_same))) (dp_vs htl), .tup (.inl (.inl upd_same)) (dp_vs htl), tup_shp htl, tup_shp htl, _, rfl, ?_⟩
      rw [tup_eqv htl]
      refine iteF ?_
      have S7 := ((S5.trans S6).trans su1).trans su2
      have hz7 := (hz6.same su1).same su2
      generalize upd (upd G6 u1 _) u2 _ = G7 at S7 hz7
      clear su1 su2 n1 n2 hzz6 hz6 rows6 ht6 hr2 hM2 eM2 ht2 S6 rows5 ht5 S5 hz
      -- its text
      obtain ⟨dx7, pl7, hzz7, hpl7⟩ := isC_of hz7
      refine ⟨i, hi, _, rfl, z, dx7, _, rfl, hzz7, cFl_no (noM i).2.1, z, f1, rws L, x, rfl, hz7, fun G8 S8 => ?_⟩
      have S78 := S7.trans S8
      refine ⟨_, rfl, t, i, f1, r, x, L, rfl, S78 _ _ ht, hi, wf1, wfx, rows4.same S78, fun G9 S9 => ⟨rfl, _, rfl, iteNS rfl ?_⟩⟩
      have S79 := S78.trans S9
      have hz9 := (hz7.same S8).same S9
      obtain ⟨dx9, pl9, hzz9, hpl9⟩ := isC_of hz9
      obtain ⟨_, dp9, _, _, _, _, hp9, _⟩ := id hpl9
      refine ⟨_, rfl, fld T hzz9 hi (j := 2) rfl rfl ⟨.ref pl9, .ref CP, _, _, true, rfl, .own CP, tyP PT hp9, PT.kPP, _, rfl, iteF ?_⟩⟩
      -- its line
      refine ⟨fun σ'' G'' => σ'' = [some (.ref sc), some (.ref p), some (.str (kName i)), some (.ref wl), some (.ref t), some (.ref z), s6, s7, s8] ∧ Same G4 G'' ∧ IsC CP C G'' z i f1 (rws L) x, ?_, ?_⟩
      · refine ⟨_, rfl, two, fun u nu => ⟨u, _, rfl, .inr (.inl (.inl upd_same)), rfl, rfl, _, rfl, ?_⟩⟩
        have su := same_lay (o := .tup [.str "bound", .str "pair"]) nu
        have S10 := S79.trans su
        have hz10 := hz9.same su
        obtain ⟨dx10, pl10, hzz10, _⟩ := isC_of hz10
        show if inV (.str (kName i)) [.str "bound", .str "pair"] = true then _ else _
        rw [inV_bp hi]
        by_cases hb : i = 4 ∨ i = 5
        · rw [decide_eq_true hb]
          refine iteT ?_
          obtain ⟨a, b, hx⟩ : ∃ a b, ((∃ s, x = [.str s, .int a, .int b]) ∨ (∃ s g, x = [.str s, .str g, .int a, .int b])) := by
            rcases hb with e | e <;> subst e
            · obtain ⟨s, a, b, rfl, _⟩ := wfx
              exact ⟨a, b, .inl ⟨s, rfl⟩⟩
            · obtain ⟨s, g, a, b, rfl, _⟩ := wfx
              exact ⟨a, b, .inr ⟨s, g, rfl⟩⟩
          refine ⟨i, hb, _, rfl, z, dx10, _, rfl, hzz10, cFl_no (noM i).2.2, z, f1, rws L, x, a, b, rfl, hz10, hx, fun y G11 _ hy S11 => ?_⟩
          have hzz11 := S11 _ _ hzz10
          have fin : ∀ (y2 : Addr) (G12 : Hp), IsL CL G12 y2 a b → Same G11 G12 → ∀ {Q2 : VK}, Q2 (.bl false) G12 → rNeO K CL (spLEq K CL) (.ref y) (.ref y2) G12 Q2 := fun y2 G12 h2 s2 Q2 q2 => l_ne LT (hy.same s2) h2 q2
          rcases hb with e | e <;> subst e
          · obtain ⟨s, a', b', rfl, _⟩ := wfx
            have e2 : a' = a ∧ b' = b := by
              rcases hx with ⟨s2, e⟩ | ⟨s2, g2, e⟩
              · injection e with _ e; injection e with e1 e; injection e with e2 _; cases e1; cases e2; exact ⟨rfl, rfl⟩
              · injection e with _ e; injection e with e1 e; cases e1
            obtain ⟨rfl, rfl⟩ := e2
            exact ⟨_, rfl, fld T hzz11 hi (j := 4) rfl rfl ⟨_, rfl, fld T hzz11 hi (j := 5) rfl rfl ⟨_, _, rfl, fun y2 G12 _ h2 s2 => fin y2 G12 h2 s2 ⟨_, rfl, iteF ⟨rfl, (S10.trans S11).trans s2, (hz10.same S11).same s2⟩⟩⟩⟩⟩
          · obtain ⟨s, g', a', b', rfl, _⟩ := wfx
            have e2 : a' = a ∧ b' = b := by
              rcases hx with ⟨s2, e⟩ | ⟨s2, g2, e⟩
              · injection e with _ e; injection e with e1 e; cases e1
              · injection e with _ e; injection e with _ e; injection e with e1 e; injection e with e2 _; cases e1; cases e2; exact ⟨rfl, rfl⟩
            obtain ⟨rfl, rfl⟩ := e2
            exact ⟨_, rfl, fld T hzz11 hi (j := 5) rfl rfl ⟨_, rfl, fld T hzz11 hi (j := 6) rfl rfl ⟨_, _, rfl, fun y2 G12 _ h2 s2 => fin y2 G12 h2 s2 ⟨_, rfl, iteF ⟨rfl, (S10.trans S11).trans s2, (hz10.same S11).same s2⟩⟩⟩⟩⟩
        · rw [decide_eq_false hb]
          exact iteF (iteF ⟨rfl, S10, hz10⟩)
      clear hzz9 hpl9 hp9 hz9 S79 S78 S9 hpl7 hzz7 hz7 S7 S8
      rintro σ'' J0 ⟨rfl, SJ, hzJ⟩
      have hceq : ceq i f1 (rws L) x i f1 (rws L) x = true := decide_eq_true ⟨rfl, rfl, rfl, rfl⟩
      -- made again
      refine ⟨_, rfl, _, rfl, t, i, f1, r, x, L, rfl, SJ _ _ ht, hi, wf1, wfx, rows4.same SJ, fun z2 J1 hz2 q1 => c_eq T NFK (hzJ.same q1) hz2 ⟨_, rfl, ?_⟩⟩
      rw [hceq]
      refine iteF ?_
      have SJ1 := SJ.trans q1
      refine ⟨_, rfl, _, rfl, t, i, f1, r, x, L, rfl, SJ1 _ _ ht, hi, wf1, wfx, rows4.same SJ1, fun z3 J2 hz3 q2 => c_ne T NFK ((hzJ.same q1).same q2) hz3 ⟨_, rfl, ?_⟩⟩
      rw [hceq]
      refine iteF ?_
      have SJ2 := SJ1.trans q2
      have hz2' := (hzJ.same q1).same q2
      clear hz2 hz3 q1 q2 SJ1 SJ hzJ
      -- told otherwise
      refine ⟨_, rfl, _, rfl, wl, t, i, f1, g, hh, [], r, x, L, rfl, hi, .inl (.inl (SJ2 _ _ hwl4)), wf1, wg1, wh1, ngf, nhf, nhg, SJ2 _ _ ht, wfx, smx, otx, rows4.same SJ2, fun o2 us J3 ho2 hc lus q3 => ?_⟩
      have SJ3 := SJ2.trans q3
      have hz3 := hz2'.same q3
      refine ⟨o2, rfl, ⟨_, .inl (.inl ho2)⟩, for_list (K := K) (a := o2) (xs := us.map V.ref) (fun k σ G => ∃ s6 s7, σ = [some (.ref sc), some (.ref p), some (.str (kName i)), some (.ref wl), some (.ref t), some (.ref z), s6, s7, s8] ∧ Same J3 G) ⟨s6, s7, rfl, Same.refl _⟩ (fun k σ G _ ⟨_, _, _, s⟩ => .inl (.inl (s _ _ ho2))) ?_ ?_⟩
      · rintro k2 y σ G hy ⟨s6, s7, rfl, sG⟩
        rw [List.getElem?_map] at hy
        cases hk2 : us[k2]? with
        | none => rw [hk2] at hy; cases hy
        | some u =>
        rw [hk2] at hy
        cases hy
        obtain ⟨o', f2, r2, x2, L2, _, hu, wf2, wfx2, rows2, ne⟩ := hc u (List.mem_of_getElem? hk2)
        have hzG := hz3.same sG
        refine ⟨_, rfl, u, i, f2, r2, x2, L2, rfl, sG _ _ hu, hi, wf2, wfx2, rows2.same sG, fun z2 G2 hz2 q4 => ?_⟩
        have e1 : ceq i f1 (rws L) x i f2 (rws L2) x2 = false := decide_eq_false fun z => ne ⟨z.2.1.symm, z.2.2.1.symm, z.2.2.2.symm⟩
        have e2 : ceq i f2 (rws L2) x2 i f1 (rws L) x = false := decide_eq_false fun z => ne ⟨z.2.1, z.2.2.1, z.2.2.2⟩
        have hzG2 := hzG.same q4
        refine ⟨_, rfl, _, rfl, c_eq T NFK hzG2 hz2 ⟨_, rfl, ?_⟩⟩
        rw [e1]
        refine iteF ⟨_, rfl, _, rfl, c_ne T NFK hzG2 hz2 ⟨_, rfl, ?_⟩⟩
        rw [e1]
        refine iteF ⟨_, rfl, _, rfl, c_eq T NFK hz2 hzG2 ⟨_, rfl, ?_⟩⟩
        rw [e2]
        exact iteF ⟨_, _, rfl, sG.trans q4⟩
      rintro σ'' J4 ⟨s6, s7, rfl, q4⟩
      have SJ4 := SJ3.trans q4
      have hz4 := hz3.same q4
      clear hz3 SJ3 hc ho2 q3 q4 hz2' SJ2
      -- other values
      obtain ⟨dx4, pl4, hzz4, _⟩ := isC_of hz4
      refine ⟨_, rfl, i, hi, _, rfl, z, dx4, _, rfl, hzz4, cFl_no (noM i).2.1, z, f1, rws L, x, rfl, hz4, fun J5 q5 => c_eqS T NFK (hz4.same q5) ⟨_, rfl, iteF ?_⟩⟩
      have SJ5 := SJ4.trans q5
      have hz5 := hz4.same q5
      refine ⟨_, rfl, _, rfl, c_eqT T NFK hz5 (SJ5 _ _ ht) ⟨_, rfl, iteF ?_⟩⟩
      -- other kinds
      refine ⟨by show 7 ≤ sizeLine; decide, fun l8 n8 => ?_⟩
      generalize eJ : upd J5 l8 _ = J6
      have s68 : Same J5 J6 := by rw [← eJ]; exact same_lay n8
      have hl8 : J6 l8 = some (.lst (names7.map V.str)) := by rw [← eJ]; exact upd_same
      have SJ6 := SJ5.trans s68
      have hz6 := hz5.same s68
      refine ⟨l8, rfl, ⟨names7.map V.str, .inl (.inl hl8)⟩, ?_⟩
      clear hz5 SJ5 q5 hzz4 hz4 SJ4 s68 n8 eJ
      have ht6 := SJ6 _ _ ht
      have hwl6 := SJ6 _ _ hwl4
      have ho6 := SJ6 _ _ ho4
      have rows6 := rows4.same SJ6
      have P6 := P4.same' SJ6
      clear SJ6 ht hwl4 ho4 rows4 P4
      refine for_list (K := K) (a := l8) (xs := names7.map V.str) (fun kk σ G => ∃ s7 s8 m, σ = [some (.ref sc), some (.ref p), some (.str (kName i)), some (.ref wl), some (.ref t), some (.ref z), s6, s7, s8] ∧ Frm p J6 G ∧ Pen G p m ∧ m ≤ 1000 + 3000 * k + 1100 + 10 * kk)
        ⟨s7, s8, _, rfl, Frm.refl p J6, P6, by omega⟩ (fun k σ G _ ⟨_, _, _, _, f, _⟩ => .inl (.inl (f.lst P6 hl8))) ?_ ?_
      · rintro k2 y σ G hy ⟨s7, s8, m, rfl, FG, PG, hm⟩
        rw [List.getElem?_map] at hy
        cases hk2 : names7[k2]? with
        | none => rw [hk2] at hy; cases hy
        | some yn =>
        rw [hk2] at hy
        cases hy
        obtain ⟨j, hj, rfl⟩ := names7_of (List.mem_of_getElem? hk2)
        have hk27 : k2 < 7 := (List.getElem?_eq_some_iff.mp hk2).1
        have htG := FG.tp P6 ht6
        have hwlG := FG.lst P6 hwl6
        refine ⟨_, rfl, _, rfl, _, rfl, t, _, _, _, rfl, rfl, .inl (.inl htG), atI_nat (j := 2) rfl, _, rfl, p, wl, r, j, f1, g, [.str hh], _, rfl, hj, .inl (.inl hwlG), wf1, wg1, ngf, PG, by omega, fun t3 x3 G2 wfx3 _ _ ht3 PG2 FG2 => ?_⟩
        have F2' := FG.trans FG2
        refine ⟨t3, j, f1, r, x3, L, rfl, ht3, hj, wf1, wfx3, rows6.frm F2' P6, fun z3 G3 hz3 q7 => ?_⟩
        have FF := F2'.trans (frmS q7)
        have hzG := hz6.frm FF P6
        refine ⟨_, rfl, _, rfl, rfl, _, rfl, ?_⟩
        by_cases e : j = i
        · subst e
          exact iteNS rfl (iteF ⟨_, _, _, rfl, FF, PG2.same' q7, by omega⟩)
        · rw [neqS (fun h => e (kName_inj hj hi h))]
          have e1 : ceq i f1 (rws L) x j f1 (rws L) x3 = false := decide_eq_false fun z => e z.1.symm
          refine iteT ⟨_, rfl, _, rfl, c_eq T NFK hzG hz3 ⟨_, rfl, ?_⟩⟩
          rw [e1]
          exact iteF ⟨_, _, _, rfl, FF, PG2.same' q7, by omega⟩
      rintro σ'' J7 ⟨s7, s8, m, rfl, F7, P7, hm⟩
      have ht7 := F7.tp P6 ht6
      have rows7 := rows6.frm F7 P6
      have hz7 := hz6.frm F7 P6
      have ho7 := F7.lst P6 ho6
      -- as it was
      refine ⟨_, rfl, z, i, f1, rws L, x, rfl, hz7, fun t2 r2 M2 J8 ht2 hr2 hM2 eM2 q8 => ?_⟩
      have ht8 := q8 _ _ ht7
      have rows8 := rows7.same q8
      refine ⟨_, rfl, specD i f1 (rws M2) x, specD i f1 (rws L) x, spec_dp ht2 hr2 hM2 hsv, spec_dp ht8 rows8.at_ rows8.rw_ hsv, spec_shp hsf hsv, spec_shp hsf hsv, _, rfl, ?_⟩
      rw [eM2, spec_eqv hsv]
      have hm2 : m ≤ 1000 + 3000 * k + 1100 + 70 := hm
      exact iteF ⟨_, _, _, _, _, _, _, rfl, q8 _ _ ho7, (P7.same' q8).mono (by omega)⟩
    · rintro σ G ⟨s2, s3, s4, s5, s6, s7, s8, rfl, _, _⟩
      exact q _
end
end OR

namespace OR
open PySem PySem.Spec PyProof.Rows L2
/-! ### what the top has left -/
/-- an __init__ whose last parameter may be left out: then it is the empty tuple at t0 -/
structure MtD (K : PySem.W.Frag) (C : Addr) (m qual : Str) (st : Stmt) : Prop where
  ex : ∃ f fd t0, FunD K m qual (defArgs st) (defBody st) (defScope st) [.ref t0] [] f fd ∧ PySem.W.findIn K (.ref C) m = some (some (.ref f)) ∧ PySem.W.isFn K (.ref f) = true ∧ ∀ H : Hp, SqT K H t0 []
theorem mtD {K : PySem.W.Frag} {h : Heap} {C : Addr} {m qual : Str} {st : Stmt} {f T t0 : Addr} {oc cT : Value} {od an dT d0 : Option Addr} {osl sT s0 : Array (Option Value)} {kV doc pm cdv ct : Value} {nT n0 : Nat} (_X : K.In h)
    (a : PySem.W.findIn K (.ref C) m = some (some (.ref f))) (l : K.lookup f = some ⟨oc, od, .func (PySem.W.fnOf m qual (defArgs st) (defBody st) (defScope st) (.ref T) kV doc pm an cdv ct), osl⟩)
    (lT : K.lookup T = some ⟨cT, dT, .seq #[.ref t0] nT, sT⟩) (l0 : K.lookup t0 = some ⟨.type "tuple", d0, .seq #[] n0, s0⟩)
    (c : PySem.W.codeIn K cdv qual = true) (k : PySem.W.keepIn K (.ref f) = true) (i : PySem.W.isFn K (.ref f) = true) : MtD K C m qual st :=
  ⟨f, _, t0, ⟨⟨oc, od, .ref T, kV, doc, pm, an, cdv, ct, osl, rfl, l, c, .inr ⟨by simp, T, _, [.ref t0], nT, rfl, lT, rfl, .cons rfl .nil⟩, .inl rfl⟩, k⟩, a, i, fun H => .inr ⟨_, #[], n0, l0, rfl, rfl, Nat.zero_le _, .nil⟩⟩
structure PAt (K : PySem.W.Frag) (C : Addr) : Prop where
  aC : PySem.W.nsIn K mainGlobals "Places" = some (some (.ref C))
  pg : PySem.W.plainGet K C Str.empty = true
  hd : PySem.W.hasDictIn K C = true
  po : PySem.W.plainOver K C = true
  sa : PySem.W.findIn K (.ref C) "__setattr__" = some (some (.builtin "object.__setattr__"))
  mks : PySem.W.makesIn K C = true
  kc : PySem.W.keepIn K (.ref C) = true
  nS : PySem.W.findIn K (.ref C) "stretches" = some none
  nF : PySem.W.findIn K (.ref C) "_firsts" = some none
  nB : PySem.W.findIn K (.ref C) "_before" = some none
  ca : PySem.W.findIn K (.ref C) "__class__" = some (some (.builtin "object.__class__"))
  cn : PySem.W.specialIn K (.builtin "object.__class__") "__get__" = some (some (.builtin "getset_descriptor.__get__"))
  ct : PySem.W.takesIn K (.builtin "object.__class__") = some true
  cm : PySem.W.mroIn K C (.type "object") = some true
  ne : PySem.W.findIn K (.ref C) "__ne__" = some (some (.builtin "object.__ne__"))
  sT : PySem.W.subIn K (.type "tuple") (.ref C) = some false
  sL : PySem.W.subIn K (.type "list") (.ref C) = some false
  kPP : PySem.W.kitOne K (.ref C) (.ref C) = some true
  kT : PySem.W.kitOne K (.type "tuple") (.ref C) = some false
  kL : PySem.W.kitOne K (.type "list") (.ref C) = some false
  sf : PySem.W.selfFirst K C = true
structure ZAt (K : PySem.W.Frag) : Prop where
  isi : PySem.W.nsIn K mainGlobals "isinstance" = some none
  int : PySem.W.nsIn K mainGlobals "int" = some none
  bool : PySem.W.nsIn K mainGlobals "bool" = some none
  tup : PySem.W.nsIn K mainGlobals "tuple" = some none
  list : PySem.W.nsIn K mainGlobals "list" = some none
  len : PySem.W.nsIn K mainGlobals "len" = some none
  max : PySem.W.nsIn K mainGlobals "max" = some none
  min : PySem.W.nsIn K mainGlobals "min" = some none
  sorted : PySem.W.nsIn K mainGlobals "sorted" = some none
  enum : PySem.W.nsIn K mainGlobals "enumerate" = some none
  range : PySem.W.nsIn K mainGlobals "range" = some none
  set : PySem.W.nsIn K mainGlobals "set" = some none
  abs : PySem.W.nsIn K mainGlobals "abs" = some none
theorem lastP_lit : lastP = 1000000000000000000000000000000 := by decide
theorem lp_of {p : Program} {lv : List (Str × PySem.W.WData)} {mg : Str → Option Value} {h : Heap} (X : PySem.W.XL p lv mg h) (hm : (("LAST_PLACE" : Str), PySem.W.WData.int 1000000000000000000000000000000) ∈ lv) : ∃ t, mg "LAST_PLACE" = some (.int lastP t) := by
  obtain ⟨v, hv, hr⟩ := X.2.val _ hm
  cases hr with
  | int i t => exact ⟨t, by rw [lastP_lit]; exact hv⟩
/-- walk_of, told besides what the top's loose names read -/
theorem walk_ofX {l : PySem.W.OpenLaw} {n k : Nat} {q : Program} {loose : List Str} {XP : (Str → Option Value) → Heap → Prop} {YP : World → Heap → Prop} {d : DefRec} {K : Params → PySem.W.Frag} {CX : World → CXT} {sp : World → Sp} {x : Str}
    (hn : l.most = some n) (hn2 : n ≤ sizeLine) (hdf : d.params.defaults = []) (hr : Room k callerA) (hY : ∀ (w : World) (h : Heap), YP w h → (K w.params).In h)
    (F : ∀ (w : World) (mg : Str → Option Value) (fa : Addr) (h : Heap), (K w.params).In h → h.Ns mainGlobals mg → XP mg h → mg d.name = some (.ref fa) →
      ∃ fd : FuncData, (∀ (s : Shared) (u : Value), BindsTo s fd ⟨[u], []⟩ [(x, u)]) ∧ ∀ base : Heap, (K w.params).In base → base.Ns mainGlobals mg → FnOk l.prog w (K w.params) mg base (CX w) k fa fd [x] (sp w))
    (hsp : ∀ (w : World) (H : Hp) (a : Addr) (ns : List Int), ns.length ≤ n → Only H → SqL (K w.params) H a (ns.map V.int) → sp w [.ref a] H (fun v _ => v = .bl true) fun _ _ _ => False)
    (hCX : ∀ (w : World) (H : Hp) (s : Shared) (e : Value) (s' : Shared), CX w [] H s (fun _ _ _ => False) e s' → False) : PySem.W.WalkO q loose XP YP l.row.toRowW d [] (fun f vs => PySem.call f vs) := by
  refine Att.attach_call hn hdf fun w s₀ s₁ mg mb fa o pm cd doc a vs ns G Y ho hd hcd hmg hobj hints hlen hg => ?_
  have KX := hY w _ Y
  obtain ⟨fd, hb, hF⟩ := F w mg fa _ KX G.T.g G.X hmg
  exact law_call KX G.T.g G.T.b G.T.builtins G.T.nolimit hg hobj hints (Nat.le_trans hlen hn2) hr hF hb (fun H hO hS => hsp w H a ns hlen hO hS) fun H e s' => hCX w H s₁ e s'
theorem PAt.txt {K : PySem.W.Frag} {C : Addr} {h : Heap} {mg : Str → Option Value} (L : PAt K C) (X : K.In h) (G : h.Ns mainGlobals mg) (Z : ZAt K) (lp : ∃ t, mg "LAST_PLACE" = some (.int lastP t)) : PTxt K mg C :=
  ⟨⟨L.pg, L.hd, L.po, L.sa⟩, L.nS, L.nF, L.nB, PySem.W.mg_of X G L.aC, ⟨L.ca, L.cn, L.ct, L.cm⟩, L.kPP, PySem.W.mg_none_of X G Z.isi, PySem.W.mg_none_of X G Z.int, PySem.W.mg_none_of X G Z.bool, PySem.W.mg_none_of X G Z.tup, PySem.W.mg_none_of X G Z.list,
    PySem.W.mg_none_of X G Z.len, PySem.W.mg_none_of X G Z.max, PySem.W.mg_none_of X G Z.sorted, PySem.W.mg_none_of X G Z.enum, lp⟩
theorem pmk_of {P : Program} {w : World} {K : PySem.W.Frag} {mg : Str → Option Value} {base : Heap} {C : Addr} (T : PTxt K mg C) (L : PAt K C) (mI : MtD K C "__init__" "Places.__init__" sPlInit)
    (S : Cl P w K mg base 3 "_is_stretch" ["value"] spIsStretchP) (J : Cl P w K mg base 1 "_joined" ["stretches"] (spJoined K)) (B : Cl P w K mg base 1 "_counts_before" ["stretches"] (spCounts K)) : PMk' P w K mg base C := by
  obtain ⟨f, fd, t0, F, a, i, ht⟩ := mI.ex
  obtain ⟨ds, r1, b1⟩ := F.binds1 (ps := ["self", "stretches"]) 2 1 (by simp) rfl fun T kV doc pm an cdv ct us its hu hi => match us, its, hu, hi with | [u, v], [x], _, _ => ⟨_, rfl, rfl⟩
  obtain ⟨es, r2, b2⟩ := F.binds1 (ps := ["self", "stretches"]) 1 0 (by simp) rfl fun T kV doc pm an cdv ct us its hu hi => match us, its, hu, hi with | [u], [x], _, _ => ⟨_, rfl, rfl⟩
  cases r1
  obtain ⟨u, rfl, ru⟩ := r2.one
  cases (show u = Value.ref t0 from ru)
  exact ⟨T, f, fd, t0, ⟨L.mks, a, i, L.kc⟩, ok_plinit F T S J B, b1, b2, ht⟩
end OR

namespace OR
open PySem PySem.Spec PyProof.Rows L2
/-- the class Line behind the top -/
structure LAt (K : PySem.W.Frag) (C : Addr) : Prop where
  aC : PySem.W.nsIn K mainGlobals "Line" = some (some (.ref C))
  pg : PySem.W.plainGet K C Str.empty = true
  hd : PySem.W.hasDictIn K C = true
  po : PySem.W.plainOver K C = true
  sa : PySem.W.findIn K (.ref C) "__setattr__" = some (some (.builtin "object.__setattr__"))
  mks : PySem.W.makesIn K C = true
  kc : PySem.W.keepIn K (.ref C) = true
  nS : PySem.W.findIn K (.ref C) "slope" = some none
  nH : PySem.W.findIn K (.ref C) "height" = some none
  sf : PySem.W.selfFirst K C = true
  ca : PySem.W.findIn K (.ref C) "__class__" = some (some (.builtin "object.__class__"))
  cn : PySem.W.specialIn K (.builtin "object.__class__") "__get__" = some (some (.builtin "getset_descriptor.__get__"))
  ct : PySem.W.takesIn K (.builtin "object.__class__") = some true
  cm : PySem.W.mroIn K C (.type "object") = some true
  ne : PySem.W.findIn K (.ref C) "__ne__" = some (some (.builtin "object.__ne__"))
  kLL : PySem.W.kitOne K (.ref C) (.ref C) = some true
  kIL : PySem.W.kitOne K (.type "int") (.ref C) = some false
  kTL : PySem.W.kitOne K (.type "tuple") (.ref C) = some false
theorem LAt.txt {K : PySem.W.Frag} {C : Addr} {h : Heap} {mg : Str → Option Value} (L : LAt K C) (X : K.In h) (G : h.Ns mainGlobals mg) (Z : ZAt K) : LTxt K mg C :=
  ⟨⟨L.pg, L.hd, L.po, L.sa⟩, L.nS, L.nH, PySem.W.mg_of X G L.aC, L.sf, ⟨L.ca, L.cn, L.ct, L.cm⟩, L.kLL, L.kIL, L.kTL, PySem.W.mg_none_of X G Z.isi, PySem.W.mg_none_of X G Z.int, PySem.W.mg_none_of X G Z.bool⟩
theorem blk_lit : (10 : Int) ^ 60 = 1000000000000000000000000000000000000000000000000000000000000 := by decide
theorem blk_of {p : Program} {lv : List (Str × PySem.W.WData)} {mg : Str → Option Value} {h : Heap} (X : PySem.W.XL p lv mg h) (hm : (("_BLOCK" : Str), PySem.W.WData.int 1000000000000000000000000000000000000000000000000000000000000) ∈ lv) : ∃ t, mg "_BLOCK" = some (.int (10 ^ 60) t) := by
  obtain ⟨v, hv, hr⟩ := X.2.val _ hm
  cases hr with
  | int i t => exact ⟨t, by rw [blk_lit]; exact hv⟩
theorem lmk_of {P : Program} {w : World} {K : PySem.W.Frag} {mg : Str → Option Value} {base : Heap} {C : Addr} (T : LTxt K mg C) (L : LAt K C) (mI : MtAt K C "__init__" "__init__" "Line.__init__" sLInit) : LMk P w K mg base C := ⟨T, by
    obtain ⟨f, fd, F, a, b, c⟩ := mI.ex
    exact ⟨f, fd, ⟨L.mks, a, b, L.kc⟩, ok_linit F T, F.binds fun _ _ _ _ _ _ us hl => match us, hl with | [_, _, _], _ => rfl⟩⟩
/-- a class of clauses behind the top -/
structure CAt (K : PySem.W.Frag) (C : Addr) (nm : Str) (ns : List Str) : Prop where
  aC : PySem.W.nsIn K mainGlobals nm = some (some (.ref C))
  pg : PySem.W.plainGet K C Str.empty = true
  hd : PySem.W.hasDictIn K C = true
  po : PySem.W.plainOver K C = true
  sa : PySem.W.findIn K (.ref C) "__setattr__" = some (some (.builtin "object.__setattr__"))
  mks : PySem.W.makesIn K C = true
  kc : PySem.W.keepIn K (.ref C) = true
  no : ∀ n ∈ ns, PySem.W.findIn K (.ref C) n = some none
  sf : PySem.W.selfFirst K C = true
  ca : PySem.W.findIn K (.ref C) "__class__" = some (some (.builtin "object.__class__"))
  cn : PySem.W.specialIn K (.builtin "object.__class__") "__get__" = some (some (.builtin "getset_descriptor.__get__"))
  ct : PySem.W.takesIn K (.builtin "object.__class__") = some true
  cm : PySem.W.mroIn K C (.type "object") = some true
  ne : PySem.W.findIn K (.ref C) "__ne__" = some (some (.builtin "object.__ne__"))
  kS : PySem.W.kitOne K (.type "str") (.ref C) = some false
  kT : PySem.W.kitOne K (.type "tuple") (.ref C) = some false
  nS : PySem.W.subIn K (.type "str") (.ref C) = some false
  nT : PySem.W.subIn K (.type "tuple") (.ref C) = some false
theorem fa0 {α : Type} {p : α → Prop} : ∀ x ∈ ([] : List α), p x := fun x h => by cases h
theorem fa1 {α : Type} {p : α → Prop} {a : α} {l : List α} (h : p a) (t : ∀ x ∈ l, p x) : ∀ x ∈ a :: l, p x := fun x hx => by
  rcases List.mem_cons.mp hx with e | e
  · subst e; exact h
  · exact t x e
def cf (c0 c1 c2 c3 c4 c5 c6 : Addr) : Nat → Addr
  | 0 => c0
  | 1 => c1
  | 2 => c2
  | 3 => c3
  | 4 => c4
  | 5 => c5
  | _ => c6
theorem all7 {p : Nat → Prop} (h0 : p 0) (h1 : p 1) (h2 : p 2) (h3 : p 3) (h4 : p 4) (h5 : p 5) (h6 : p 6) : ∀ i, i < 7 → p i := fun i h => by
  rcases kinds7 h with e | e | e | e | e | e | e <;> subst e <;> assumption
/-- which class is which -/
structure K7 (K : PySem.W.Frag) (c0 c1 c2 c3 c4 c5 c6 : Addr) : Prop where
  q00 : PySem.W.kitOne K (.ref c0) (.ref c0) = some true
  q01 : PySem.W.kitOne K (.ref c0) (.ref c1) = some false
  q02 : PySem.W.kitOne K (.ref c0) (.ref c2) = some false
  q03 : PySem.W.kitOne K (.ref c0) (.ref c3) = some false
  q04 : PySem.W.kitOne K (.ref c0) (.ref c4) = some false
  q05 : PySem.W.kitOne K (.ref c0) (.ref c5) = some false
  q06 : PySem.W.kitOne K (.ref c0) (.ref c6) = some false
  q10 : PySem.W.kitOne K (.ref c1) (.ref c0) = some false
  q11 : PySem.W.kitOne K (.ref c1) (.ref c1) = some true
  q12 : PySem.W.kitOne K (.ref c1) (.ref c2) = some false
  q13 : PySem.W.kitOne K (.ref c1) (.ref c3) = some false
  q14 : PySem.W.kitOne K (.ref c1) (.ref c4) = some false
  q15 : PySem.W.kitOne K (.ref c1) (.ref c5) = some false
  q16 : PySem.W.kitOne K (.ref c1) (.ref c6) = some false
  q20 : PySem.W.kitOne K (.ref c2) (.ref c0) = some false
  q21 : PySem.W.kitOne K (.ref c2) (.ref c1) = some false
  q22 : PySem.W.kitOne K (.ref c2) (.ref c2) = some true
  q23 : PySem.W.kitOne K (.ref c2) (.ref c3) = some false
  q24 : PySem.W.kitOne K (.ref c2) (.ref c4) = some false
  q25 : PySem.W.kitOne K (.ref c2) (.ref c5) = some false
  q26 : PySem.W.kitOne K (.ref c2) (.ref c6) = some false
  q30 : PySem.W.kitOne K (.ref c3) (.ref c0) = some false
  q31 : PySem.W.kitOne K (.ref c3) (.ref c1) = some false
  q32 : PySem.W.kitOne K (.ref c3) (.ref c2) = some false
  q33 : PySem.W.kitOne K (.ref c3) (.ref c3) = some true
  q34 : PySem.W.kitOne K (.ref c3) (.ref c4) = some false
  q35 : PySem.W.kitOne K (.ref c3) (.ref c5) = some false
  q36 : PySem.W.kitOne K (.ref c3) (.ref c6) = some false
  q40 : PySem.W.kitOne K (.ref c4) (.ref c0) = some false
  q41 : PySem.W.kitOne K (.ref c4) (.ref c1) = some false
  q42 : PySem.W.kitOne K (.ref c4) (.ref c2) = some false
  q43 : PySem.W.kitOne K (.ref c4) (.ref c3) = some false
  q44 : PySem.W.kitOne K (.ref c4) (.ref c4) = some true
  q45 : PySem.W.kitOne K (.ref c4) (.ref c5) = some false
  q46 : PySem.W.kitOne K (.ref c4) (.ref c6) = some false
  q50 : PySem.W.kitOne K (.ref c5) (.ref c0) = some false
  q51 : PySem.W.kitOne K (.ref c5) (.ref c1) = some false
  q52 : PySem.W.kitOne K (.ref c5) (.ref c2) = some false
  q53 : PySem.W.kitOne K (.ref c5) (.ref c3) = some false
  q54 : PySem.W.kitOne K (.ref c5) (.ref c4) = some false
  q55 : PySem.W.kitOne K (.ref c5) (.ref c5) = some true
  q56 : PySem.W.kitOne K (.ref c5) (.ref c6) = some false
  q60 : PySem.W.kitOne K (.ref c6) (.ref c0) = some false
  q61 : PySem.W.kitOne K (.ref c6) (.ref c1) = some false
  q62 : PySem.W.kitOne K (.ref c6) (.ref c2) = some false
  q63 : PySem.W.kitOne K (.ref c6) (.ref c3) = some false
  q64 : PySem.W.kitOne K (.ref c6) (.ref c4) = some false
  q65 : PySem.W.kitOne K (.ref c6) (.ref c5) = some false
  q66 : PySem.W.kitOne K (.ref c6) (.ref c6) = some true
  s01 : PySem.W.subIn K (.ref c0) (.ref c1) = some false
  s02 : PySem.W.subIn K (.ref c0) (.ref c2) = some false
  s03 : PySem.W.subIn K (.ref c0) (.ref c3) = some false
  s04 : PySem.W.subIn K (.ref c0) (.ref c4) = some false
  s05 : PySem.W.subIn K (.ref c0) (.ref c5) = some false
  s06 : PySem.W.subIn K (.ref c0) (.ref c6) = some false
  s10 : PySem.W.subIn K (.ref c1) (.ref c0) = some false
  s12 : PySem.W.subIn K (.ref c1) (.ref c2) = some false
  s13 : PySem.W.subIn K (.ref c1) (.ref c3) = some false
  s14 : PySem.W.subIn K (.ref c1) (.ref c4) = some false
  s15 : PySem.W.subIn K (.ref c1) (.ref c5) = some false
  s16 : PySem.W.subIn K (.ref c1) (.ref c6) = some false
  s20 : PySem.W.subIn K (.ref c2) (.ref c0) = some false
  s21 : PySem.W.subIn K (.ref c2) (.ref c1) = some false
  s23 : PySem.W.subIn K (.ref c2) (.ref c3) = some false
  s24 : PySem.W.subIn K (.ref c2) (.ref c4) = some false
  s25 : PySem.W.subIn K (.ref c2) (.ref c5) = some false
  s26 : PySem.W.subIn K (.ref c2) (.ref c6) = some false
  s30 : PySem.W.subIn K (.ref c3) (.ref c0) = some false
  s31 : PySem.W.subIn K (.ref c3) (.ref c1) = some false
  s32 : PySem.W.subIn K (.ref c3) (.ref c2) = some false
  s34 : PySem.W.subIn K (.ref c3) (.ref c4) = some false
  s35 : PySem.W.subIn K (.ref c3) (.ref c5) = some false
  s36 : PySem.W.subIn K (.ref c3) (.ref c6) = some false
  s40 : PySem.W.subIn K (.ref c4) (.ref c0) = some false
  s41 : PySem.W.subIn K (.ref c4) (.ref c1) = some false
  s42 : PySem.W.subIn K (.ref c4) (.ref c2) = some false
  s43 : PySem.W.subIn K (.ref c4) (.ref c3) = some false
  s45 : PySem.W.subIn K (.ref c4) (.ref c5) = some false
  s46 : PySem.W.subIn K (.ref c4) (.ref c6) = some false
  s50 : PySem.W.subIn K (.ref c5) (.ref c0) = some false
  s51 : PySem.W.subIn K (.ref c5) (.ref c1) = some false
  s52 : PySem.W.subIn K (.ref c5) (.ref c2) = some false
  s53 : PySem.W.subIn K (.ref c5) (.ref c3) = some false
  s54 : PySem.W.subIn K (.ref c5) (.ref c4) = some false
  s56 : PySem.W.subIn K (.ref c5) (.ref c6) = some false
  s60 : PySem.W.subIn K (.ref c6) (.ref c0) = some false
  s61 : PySem.W.subIn K (.ref c6) (.ref c1) = some false
  s62 : PySem.W.subIn K (.ref c6) (.ref c2) = some false
  s63 : PySem.W.subIn K (.ref c6) (.ref c3) = some false
  s64 : PySem.W.subIn K (.ref c6) (.ref c4) = some false
  s65 : PySem.W.subIn K (.ref c6) (.ref c5) = some false

theorem K7.kk {K : PySem.W.Frag} {c0 c1 c2 c3 c4 c5 c6 : Addr} (k : K7 K c0 c1 c2 c3 c4 c5 c6) : ∀ i, i < 7 → ∀ j, j < 7 → PySem.W.kitOne K (.ref (cf c0 c1 c2 c3 c4 c5 c6 i)) (.ref (cf c0 c1 c2 c3 c4 c5 c6 j)) = some (decide (i = j)) :=
  all7 (all7 k.q00 k.q01 k.q02 k.q03 k.q04 k.q05 k.q06) (all7 k.q10 k.q11 k.q12 k.q13 k.q14 k.q15 k.q16) (all7 k.q20 k.q21 k.q22 k.q23 k.q24 k.q25 k.q26) (all7 k.q30 k.q31 k.q32 k.q33 k.q34 k.q35 k.q36) (all7 k.q40 k.q41 k.q42 k.q43 k.q44 k.q45 k.q46) (all7 k.q50 k.q51 k.q52 k.q53 k.q54 k.q55 k.q56) (all7 k.q60 k.q61 k.q62 k.q63 k.q64 k.q65 k.q66)
theorem nf_of {K : PySem.W.Frag} {C : Addr} {v : Value} (h : PySem.W.subIn K v (.ref C) = some false) : PySem.W.notFirst K C v = true := by simp [PySem.W.notFirst, h]
theorem K7.cc {K : PySem.W.Frag} {c0 c1 c2 c3 c4 c5 c6 : Addr} (k : K7 K c0 c1 c2 c3 c4 c5 c6) : ∀ i, i < 7 → ∀ j, j < 7 → PySem.W.notFirst K (cf c0 c1 c2 c3 c4 c5 c6 i) (.ref (cf c0 c1 c2 c3 c4 c5 c6 j)) = true :=
  all7 (all7 nf_self (nf_of k.s10) (nf_of k.s20) (nf_of k.s30) (nf_of k.s40) (nf_of k.s50) (nf_of k.s60)) (all7 (nf_of k.s01) nf_self (nf_of k.s21) (nf_of k.s31) (nf_of k.s41) (nf_of k.s51) (nf_of k.s61)) (all7 (nf_of k.s02) (nf_of k.s12) nf_self (nf_of k.s32) (nf_of k.s42) (nf_of k.s52) (nf_of k.s62)) (all7 (nf_of k.s03) (nf_of k.s13) (nf_of k.s23) nf_self (nf_of k.s43) (nf_of k.s53) (nf_of k.s63)) (all7 (nf_of k.s04) (nf_of k.s14) (nf_of k.s24) (nf_of k.s34) nf_self (nf_of k.s54) (nf_of k.s64)) (all7 (nf_of k.s05) (nf_of k.s15) (nf_of k.s25) (nf_of k.s35) (nf_of k.s45) nf_self (nf_of k.s65)) (all7 (nf_of k.s06) (nf_of k.s16) (nf_of k.s26) (nf_of k.s36) (nf_of k.s46) (nf_of k.s56) nf_self)
/-- a tuple of texts at the top -/
structure TpAt (K : PySem.W.Frag) (nm : Str) (xs : List Str) : Prop where
  ex : ∃ ts, PySem.W.nsIn K mainGlobals nm = some (some (.ref ts)) ∧ ∀ H : Hp, SqT K H ts (xs.map V.str)
theorem tp3 {K : PySem.W.Frag} {h : Heap} {nm x y z : Str} {f : Addr} {tx ty tz : Nat} {d : Option Addr} {n : Nat} {s : Array (Option Value)} (_X : K.In h) (a : PySem.W.nsIn K mainGlobals nm = some (some (.ref f))) (l : K.lookup f = some ⟨.type "tuple", d, .seq #[.str x tx, .str y ty, .str z tz] n, s⟩) : TpAt K nm [x, y, z] :=
  ⟨f, a, fun H => .inr ⟨_, _, n, l, rfl, rfl, (by show 3 ≤ sizeLine; decide), .cons ⟨_, rfl⟩ (.cons ⟨_, rfl⟩ (.cons ⟨_, rfl⟩ .nil))⟩⟩
theorem tp2 {K : PySem.W.Frag} {h : Heap} {nm x y : Str} {f : Addr} {tx ty : Nat} {d : Option Addr} {n : Nat} {s : Array (Option Value)} (_X : K.In h) (a : PySem.W.nsIn K mainGlobals nm = some (some (.ref f))) (l : K.lookup f = some ⟨.type "tuple", d, .seq #[.str x tx, .str y ty] n, s⟩) : TpAt K nm [x, y] :=
  ⟨f, a, fun H => .inr ⟨_, _, n, l, rfl, rfl, (by show 2 ≤ sizeLine; decide), .cons ⟨_, rfl⟩ (.cons ⟨_, rfl⟩ .nil)⟩⟩
end OR

namespace OR
open PySem PySem.Spec PyProof.Rows L2
/-- what the proof reads of the heap behind the top -/
def K11 : Params → PySem.W.Frag := fun P =>
  (nat_lit 2, (⟨.none, none, .dict #[] 0, #[]⟩ : Obj)) ::
  (nat_lit 3, (⟨(.type "dict"), none, .dict #[⟨PyData.keyHash P "__name__", (.str "__name__" 165), (.str "law_openranges_k11_clauses_and_their_texts" 1552)⟩, ⟨PyData.keyHash P "__doc__", (.str "__doc__" 166), .none⟩, ⟨PyData.keyHash P "__package__", (.str "__package__" 167), .none⟩, ⟨PyData.keyHash P "__loader__", (.str "__loader__" 168), (.builtin "__main__.__loader__#opaque")⟩, ⟨PyData.keyHash P "__spec__", (.str "__spec__" 169), .none⟩, ⟨PyData.keyHash P "__annotations__", (.str "__annotations__" 170), (.ref 6)⟩, ⟨PyData.keyHash P "__builtins__", (.str "__builtins__" 171), (.ref 4)⟩, ⟨PyData.keyHash P "__file__", (.str "__file__" 173), (.str "/claim/cut.py" 172)⟩, ⟨PyData.keyHash P "__cached__", (.str "__cached__" 174), .none⟩, ⟨PyData.keyHash P "_wall", (.str "_wall" 193), (.ref 21)⟩, ⟨PyData.keyHash P "LAST_PLACE", (.str "LAST_PLACE" 199), (.int 1000000000000000000000000000000 198)⟩, ⟨PyData.keyHash P "_BLOCK_DIGITS", (.str "_BLOCK_DIGITS" 201), (.int 60 200)⟩, ⟨PyData.keyHash P "_BLOCK", (.str "_BLOCK" 205), (.int 1000000000000000000000000000000000000000000000000000000000000 204)⟩, ⟨PyData.keyHash P "is_integer", (.str "is_integer" 212), (.ref 28)⟩, ⟨PyData.keyHash P "is_place", (.str "is_place" 219), (.ref 35)⟩, ⟨PyData.keyHash P "decimal", (.str "decimal" 230), (.ref 42)⟩, ⟨PyData.keyHash P "read_decimal", (.str "read_decimal" 241), (.ref 49)⟩, ⟨PyData.keyHash P "read_place", (.str "read_place" 249), (.ref 56)⟩, ⟨PyData.keyHash P "Line", (.str "Line" 379), (.ref 157)⟩, ⟨PyData.keyHash P "_rising_text", (.str "_rising_text" 386), (.ref 168)⟩, ⟨PyData.keyHash P "RangesError", (.str "RangesError" 406), (.ref 178)⟩, ⟨PyData.keyHash P "BadStretch", (.str "BadStretch" 431), (.ref 198)⟩, ⟨PyData.keyHash P "BadText", (.str "BadText" 456), (.ref 217)⟩, ⟨PyData.keyHash P "BadWord", (.str "BadWord" 481), (.ref 236)⟩, ⟨PyData.keyHash P "SameFunction", (.str "SameFunction" 506), (.ref 255)⟩, ⟨PyData.keyHash P "BadSign", (.str "BadSign" 531), (.ref 274)⟩, ⟨PyData.keyHash P "NoPlace", (.str "NoPlace" 556), (.ref 293)⟩, ⟨PyData.keyHash P "_LETTERS", (.str "_LETTERS" 560), (.str "abcdefghijklmnopqrstuvwxyz" 559)⟩, ⟨PyData.keyHash P "_MOST_LETTERS", (.str "_MOST_LETTERS" 562), (.int 8 561)⟩, ⟨PyData.keyHash P "is_word", (.str "is_word" 568), (.ref 300)⟩, ⟨PyData.keyHash P "check_word", (.str "check_word" 575), (.ref 307)⟩, ⟨PyData.keyHash P "check_two_words", (.str "check_two_words" 583), (.ref 314)⟩, ⟨PyData.keyHash P "check_sign", (.str "check_sign" 591), (.ref 321)⟩, ⟨PyData.keyHash P "SIGNS", (.str "SIGNS" 597), (.ref 322)⟩, ⟨PyData.keyHash P "WAYS", (.str "WAYS" 600), (.ref 323)⟩, ⟨PyData.keyHash P "Answers", (.str "Answers" 686), (.ref 389)⟩, ⟨PyData.keyHash P "Refuses", (.str "Refuses" 772), (.ref 459)⟩, ⟨PyData.keyHash P "Needs", (.str "Needs" 860), (.ref 529)⟩, ⟨PyData.keyHash P "Spreads", (.str "Spreads" 948), (.ref 599)⟩, ⟨PyData.keyHash P "Bound", (.str "Bound" 1048), (.ref 676)⟩, ⟨PyData.keyHash P "Pair", (.str "Pair" 1151), (.ref 753)⟩, ⟨PyData.keyHash P "Step", (.str "Step" 1241), (.ref 823)⟩, ⟨PyData.keyHash P "_beginning", (.str "_beginning" 1248), (.ref 834)⟩, ⟨PyData.keyHash P "_added_text", (.str "_added_text" 1256), (.ref 841)⟩, ⟨PyData.keyHash P "overlaps", (.str "overlaps" 1271), (.ref 848)⟩, ⟨PyData.keyHash P "Places", (.str "Places" 1464), (.ref 999)⟩, ⟨PyData.keyHash P "read_stretches", (.str "read_stretches" 1477), (.ref 1010)⟩, ⟨PyData.keyHash P "_is_stretch", (.str "_is_stretch" 1486), (.ref 1017)⟩, ⟨PyData.keyHash P "_joined", (.str "_joined" 1492), (.ref 1022)⟩, ⟨PyData.keyHash P "_counts_before", (.str "_counts_before" 1503), (.ref 1029)⟩, ⟨PyData.keyHash P "_how_many_upto", (.str "_how_many_upto" 1514), (.ref 1036)⟩, ⟨PyData.keyHash P "_common", (.str "_common" 1520), (.ref 1041)⟩, ⟨PyData.keyHash P "_gaps", (.str "_gaps" 1531), (.ref 1048)⟩, ⟨PyData.keyHash P "_stretch_text", (.str "_stretch_text" 1539), (.ref 1055)⟩, ⟨PyData.keyHash P "_read_stretch", (.str "_read_stretch" 1551), (.ref 1062)⟩, ⟨PyData.keyHash P "_law_pen", (.str "_law_pen" 1560), (.ref 1069)⟩, ⟨PyData.keyHash P "_law_draw", (.str "_law_draw" 1573), (.ref 1076)⟩, ⟨PyData.keyHash P "_law_pick", (.str "_law_pick" 1581), (.ref 1083)⟩, ⟨PyData.keyHash P "_law_shuffled", (.str "_law_shuffled" 1591), (.ref 1090)⟩, ⟨PyData.keyHash P "_law_words", (.str "_law_words" 1597), (.ref 1095)⟩, ⟨PyData.keyHash P "_law_spot", (.str "_law_spot" 1605), (.ref 1102)⟩, ⟨PyData.keyHash P "_law_drawn", (.str "_law_drawn" 1617), (.ref 1109)⟩, ⟨PyData.keyHash P "_law_merged", (.str "_law_merged" 1628), (.ref 1116)⟩, ⟨PyData.keyHash P "_law_text_of", (.str "_law_text_of" 1634), (.ref 1121)⟩, ⟨PyData.keyHash P "_law_whole", (.str "_law_whole" 1642), (.ref 1128)⟩, ⟨PyData.keyHash P "_law_line", (.str "_law_line" 1650), (.ref 1135)⟩, ⟨PyData.keyHash P "_law_line_text", (.str "_law_line_text" 1660), (.ref 1142)⟩, ⟨PyData.keyHash P "_law_spec", (.str "_law_spec" 1674), (.ref 1149)⟩, ⟨PyData.keyHash P "_law_clause", (.str "_law_clause" 1684), (.ref 1156)⟩, ⟨PyData.keyHash P "_law_parts", (.str "_law_parts" 1693), (.ref 1163)⟩, ⟨PyData.keyHash P "_law_clause_text", (.str "_law_clause_text" 1703), (.ref 1170)⟩, ⟨PyData.keyHash P "_law_with_numbers", (.str "_law_with_numbers" 1712), (.ref 1177)⟩, ⟨PyData.keyHash P "_law_numbers", (.str "_law_numbers" 1719), (.ref 1184)⟩, ⟨PyData.keyHash P "_law_is_of_numbers", (.str "_law_is_of_numbers" 1726), (.ref 1191)⟩, ⟨PyData.keyHash P "_law_otherwise", (.str "_law_otherwise" 1732), (.ref 1196)⟩, ⟨PyData.keyHash P "_law_functions", (.str "_law_functions" 1739), (.ref 1203)⟩, ⟨PyData.keyHash P "law", (.str "law" 1754), (.ref 1210)⟩] 77, #[]⟩ : Obj)) ::
  (nat_lit 27, (⟨(.type "code"), none, .fields #[.str "is_integer" 206, .str "is_integer" 207, .str "/claim/cut.py" 208, .int 8 0, .int 1 0, .int 0 0, .int 0 0, .int 3 0, .ref 22, .bool true, .int 181 0, .ref 23, .none, .ref 24, .ref 25, .ref 26, .int 210 0, .int 8 0, .str "/claim/cut.py" 211], #[]⟩ : Obj)) ::
  (nat_lit 28, (⟨(.type "function"), none, .func (PySem.W.fnOf "is_integer" "is_integer" (defArgs sIsInt) (defBody sIsInt) (defScope sIsInt) .none .none .none (.str "openranges.integers" 194) none (.ref 27) .none), #[]⟩ : Obj)) ::
  (nat_lit 34, (⟨(.type "code"), none, .fields #[.str "is_place" 213, .str "is_place" 214, .str "/claim/cut.py" 215, .int 10 0, .int 1 0, .int 0 0, .int 0 0, .int 3 0, .ref 29, .bool true, .int 181 0, .ref 30, .none, .ref 31, .ref 32, .ref 33, .int 217 0, .int 10 0, .str "/claim/cut.py" 218], #[]⟩ : Obj)) ::
  (nat_lit 35, (⟨(.type "function"), none, .func (PySem.W.fnOf "is_place" "is_place" (defArgs sIsPlace) (defBody sIsPlace) (defScope sIsPlace) .none .none .none (.str "openranges.integers" 194) none (.ref 34) .none), #[]⟩ : Obj)) ::
  (nat_lit 41, (⟨(.type "code"), none, .fields #[.str "decimal" 220, .str "decimal" 221, .str "/claim/cut.py" 222, .int 12 0, .int 1 0, .int 0 0, .int 0 0, .int 3 0, .ref 36, .bool true, .int 181 0, .ref 37, .none, .ref 38, .ref 39, .ref 40, .int 228 0, .int 12 0, .str "/claim/cut.py" 229], #[]⟩ : Obj)) ::
  (nat_lit 42, (⟨(.type "function"), none, .func (PySem.W.fnOf "decimal" "decimal" (defArgs sDec) (defBody sDec) (defScope sDec) .none .none .none (.str "openranges.integers" 194) none (.ref 41) .none), #[]⟩ : Obj)) ::
  (nat_lit 69, (⟨(.type "code"), none, .fields #[.str "__init__" 264, .str "Line.__init__" 265, .str "/claim/cut.py" 266, .int 36 0, .int 3 0, .int 0 0, .int 0 0, .int 3 0, .ref 64, .bool true, .int 181 0, .ref 65, .none, .ref 66, .ref 67, .ref 68, .int 270 0, .int 36 0, .str "/claim/cut.py" 271], #[]⟩ : Obj)) ::
  (nat_lit 70, (⟨(.type "function"), none, .func (PySem.W.fnOf "__init__" "Line.__init__" (defArgs sLInit) (defBody sLInit) (defScope sLInit) .none .none .none (.str "openranges.lines" 250) none (.ref 69) .none), #[]⟩ : Obj)) ::
  (nat_lit 83, (⟨(.type "code"), none, .fields #[.str "__eq__" 281, .str "Line.__eq__" 282, .str "/claim/cut.py" 283, .int 43 0, .int 2 0, .int 0 0, .int 0 0, .int 3 0, .ref 78, .bool true, .int 181 0, .ref 79, .none, .ref 80, .ref 81, .ref 82, .int 286 0, .int 43 0, .str "/claim/cut.py" 287], #[]⟩ : Obj)) ::
  (nat_lit 84, (⟨(.type "function"), none, .func (PySem.W.fnOf "__eq__" "Line.__eq__" (defArgs sLEq) (defBody sLEq) (defScope sLEq) .none .none .none (.str "openranges.lines" 250) none (.ref 83) .none), #[]⟩ : Obj)) ::
  (nat_lit 153, (⟨(.type "code"), none, .fields #[.str "text" 360, .str "Line.text" 361, .str "/claim/cut.py" 362, .int 81 0, .int 1 0, .int 0 0, .int 0 0, .int 3 0, .ref 148, .bool true, .int 181 0, .ref 149, .none, .ref 150, .ref 151, .ref 152, .int 366 0, .int 81 0, .str "/claim/cut.py" 367], #[]⟩ : Obj)) ::
  (nat_lit 154, (⟨(.type "function"), none, .func (PySem.W.fnOf "text" "Line.text" (defArgs sLText) (defBody sLText) (defScope sLText) .none .none .none (.str "openranges.lines" 250) none (.ref 153) .none), #[]⟩ : Obj)) ::
  (nat_lit 156, (⟨(.type "dict"), none, .dict #[⟨PyData.keyHash P "__module__", (.str "__module__" 259), (.str "openranges.lines" 250)⟩, ⟨PyData.keyHash P "__firstlineno__", (.str "__firstlineno__" 263), (.int 34 262)⟩, ⟨PyData.keyHash P "__init__", (.str "__init__" 272), (.ref 70)⟩, ⟨PyData.keyHash P "__call__", (.str "__call__" 280), (.ref 77)⟩, ⟨PyData.keyHash P "__eq__", (.str "__eq__" 288), (.ref 84)⟩, ⟨PyData.keyHash P "__add__", (.str "__add__" 296), (.ref 91)⟩, ⟨PyData.keyHash P "__radd__", (.str "__radd__" 304), (.ref 98)⟩, ⟨PyData.keyHash P "__neg__", (.str "__neg__" 311), (.ref 105)⟩, ⟨PyData.keyHash P "__sub__", (.str "__sub__" 319), (.ref 112)⟩, ⟨PyData.keyHash P "__rsub__", (.str "__rsub__" 327), (.ref 119)⟩, ⟨PyData.keyHash P "__mul__", (.str "__mul__" 335), (.ref 126)⟩, ⟨PyData.keyHash P "__rmul__", (.str "__rmul__" 343), (.ref 133)⟩, ⟨PyData.keyHash P "moved", (.str "moved" 351), (.ref 140)⟩, ⟨PyData.keyHash P "mirrored", (.str "mirrored" 359), (.ref 147)⟩, ⟨PyData.keyHash P "text", (.str "text" 368), (.ref 154)⟩, ⟨PyData.keyHash P "__static_attributes__", (.str "__static_attributes__" 371), (.ref 155)⟩, ⟨PyData.keyHash P "__dict__", (.str "__dict__" 373), (.ref 158)⟩, ⟨PyData.keyHash P "__weakref__", (.str "__weakref__" 375), (.ref 159)⟩, ⟨PyData.keyHash P "__doc__", (.str "__doc__" 376), .none⟩, ⟨PyData.keyHash P "__hash__", (.str "__hash__" 377), .none⟩] 5, #[]⟩ : Obj)) ::
  (nat_lit 157, (⟨(.type "type"), none, .cls ⟨"Line", [.type "object"], [.ref 157, .type "object"], 156, "Line", true, [], [], false, none, false⟩, #[none, none, some (.str "Line" 252), some (.str "Line" 260), some (.builtin "object.__new__"), some (.bool true)]⟩ : Obj)) ::
  (nat_lit 167, (⟨(.type "code"), none, .fields #[.str "_rising_text" 380, .str "_rising_text" 381, .str "/claim/cut.py" 382, .int 89 0, .int 1 0, .int 0 0, .int 0 0, .int 3 0, .ref 162, .bool true, .int 181 0, .ref 163, .none, .ref 164, .ref 165, .ref 166, .int 384 0, .int 89 0, .str "/claim/cut.py" 385], #[]⟩ : Obj)) ::
  (nat_lit 168, (⟨(.type "function"), none, .func (PySem.W.fnOf "_rising_text" "_rising_text" (defArgs sRise) (defBody sRise) (defScope sRise) .none .none .none (.str "openranges.lines" 250) none (.ref 167) .none), #[]⟩ : Obj)) ::
  (nat_lit 299, (⟨(.type "code"), none, .fields #[.str "is_word" 563, .str "is_word" 564, .str "/claim/cut.py" 565, .int 125 0, .int 1 0, .int 0 0, .int 0 0, .int 3 0, .ref 296, .bool true, .int 181 0, .ref 297, .none, .none, .none, .ref 298, .int 566 0, .int 125 0, .str "/claim/cut.py" 567], #[]⟩ : Obj)) ::
  (nat_lit 300, (⟨(.type "function"), none, .func (PySem.W.fnOf "is_word" "is_word" (defArgs sIsWord) (defBody sIsWord) (defScope sIsWord) .none .none .none (.str "openranges.words" 557) none (.ref 299) .none), #[]⟩ : Obj)) ::
  (nat_lit 306, (⟨(.type "code"), none, .fields #[.str "check_word" 569, .str "check_word" 570, .str "/claim/cut.py" 571, .int 129 0, .int 1 0, .int 0 0, .int 0 0, .int 3 0, .ref 301, .bool true, .int 181 0, .ref 302, .none, .ref 303, .ref 304, .ref 305, .int 573 0, .int 129 0, .str "/claim/cut.py" 574], #[]⟩ : Obj)) ::
  (nat_lit 307, (⟨(.type "function"), none, .func (PySem.W.fnOf "check_word" "check_word" (defArgs sChkW) (defBody sChkW) (defScope sChkW) .none .none .none (.str "openranges.words" 557) none (.ref 306) .none), #[]⟩ : Obj)) ::
  (nat_lit 313, (⟨(.type "code"), none, .fields #[.str "check_two_words" 576, .str "check_two_words" 577, .str "/claim/cut.py" 578, .int 132 0, .int 2 0, .int 0 0, .int 0 0, .int 3 0, .ref 308, .bool true, .int 181 0, .ref 309, .none, .ref 310, .ref 311, .ref 312, .int 581 0, .int 132 0, .str "/claim/cut.py" 582], #[]⟩ : Obj)) ::
  (nat_lit 314, (⟨(.type "function"), none, .func (PySem.W.fnOf "check_two_words" "check_two_words" (defArgs sChkTwo) (defBody sChkTwo) (defScope sChkTwo) .none .none .none (.str "openranges.words" 557) none (.ref 313) .none), #[]⟩ : Obj)) ::
  (nat_lit 320, (⟨(.type "code"), none, .fields #[.str "check_sign" 584, .str "check_sign" 585, .str "/claim/cut.py" 586, .int 137 0, .int 2 0, .int 0 0, .int 0 0, .int 3 0, .ref 315, .bool true, .int 181 0, .ref 316, .none, .ref 317, .ref 318, .ref 319, .int 589 0, .int 137 0, .str "/claim/cut.py" 590], #[]⟩ : Obj)) ::
  (nat_lit 321, (⟨(.type "function"), none, .func (PySem.W.fnOf "check_sign" "check_sign" (defArgs sChkSign) (defBody sChkSign) (defScope sChkSign) .none .none .none (.str "openranges.words" 557) none (.ref 320) .none), #[]⟩ : Obj)) ::
  (nat_lit 322, (⟨(.type "tuple"), none, .seq #[.str "<=" 594, .str ">=" 595, .str "=" 596] 0, #[]⟩ : Obj)) ::
  (nat_lit 323, (⟨(.type "tuple"), none, .seq #[.str "up" 598, .str "down" 599] 0, #[]⟩ : Obj)) ::
  (nat_lit 336, (⟨(.type "code"), none, .fields #[.str "__init__" 613, .str "Answers.__init__" 614, .str "/claim/cut.py" 615, .int 145 0, .int 3 0, .int 0 0, .int 0 0, .int 3 0, .ref 331, .bool true, .int 181 0, .ref 332, .none, .ref 333, .ref 334, .ref 335, .int 619 0, .int 145 0, .str "/claim/cut.py" 620], #[]⟩ : Obj)) ::
  (nat_lit 337, (⟨(.type "function"), none, .func (PySem.W.fnOf "__init__" "Answers.__init__" (defArgs sAnsInit) (defBody sAnsInit) (defScope sAnsInit) .none .none .none (.str "openranges.clauses" 592) none (.ref 336) .none), #[]⟩ : Obj)) ::
  (nat_lit 343, (⟨(.type "code"), none, .fields #[.str "__eq__" 622, .str "Answers.__eq__" 623, .str "/claim/cut.py" 624, .int 151 0, .int 2 0, .int 0 0, .int 0 0, .int 3 0, .ref 338, .bool true, .int 181 0, .ref 339, .none, .ref 340, .ref 341, .ref 342, .int 627 0, .int 151 0, .str "/claim/cut.py" 628], #[]⟩ : Obj)) ::
  (nat_lit 344, (⟨(.type "function"), none, .func (PySem.W.fnOf "__eq__" "Answers.__eq__" (defArgs sAnsEq) (defBody sAnsEq) (defScope sAnsEq) .none .none .none (.str "openranges.clauses" 592) none (.ref 343) .none), #[]⟩ : Obj)) ::
  (nat_lit 350, (⟨(.type "code"), none, .fields #[.str "functions_told" 630, .str "Answers.functions_told" 631, .str "/claim/cut.py" 632, .int 154 0, .int 1 0, .int 0 0, .int 0 0, .int 3 0, .ref 345, .bool true, .int 181 0, .ref 346, .none, .ref 347, .ref 348, .ref 349, .int 634 0, .int 154 0, .str "/claim/cut.py" 635], #[]⟩ : Obj)) ::
  (nat_lit 351, (⟨(.type "function"), none, .func (PySem.W.fnOf "functions_told" "Answers.functions_told" (defArgs sAnsTold) (defBody sAnsTold) (defScope sAnsTold) .none .none .none (.str "openranges.clauses" 592) none (.ref 350) .none), #[]⟩ : Obj)) ::
  (nat_lit 385, (⟨(.type "code"), none, .fields #[.str "text" 668, .str "Answers.text" 669, .str "/claim/cut.py" 670, .int 169 0, .int 1 0, .int 0 0, .int 0 0, .int 3 0, .ref 380, .bool true, .int 181 0, .ref 381, .none, .ref 382, .ref 383, .ref 384, .int 672 0, .int 169 0, .str "/claim/cut.py" 673], #[]⟩ : Obj)) ::
  (nat_lit 386, (⟨(.type "function"), none, .func (PySem.W.fnOf "text" "Answers.text" (defArgs sAnsTxt) (defBody sAnsTxt) (defScope sAnsTxt) .none .none .none (.str "openranges.clauses" 592) none (.ref 385) .none), #[]⟩ : Obj)) ::
  (nat_lit 388, (⟨(.type "dict"), none, .dict #[⟨PyData.keyHash P "__module__", (.str "__module__" 608), (.str "openranges.clauses" 592)⟩, ⟨PyData.keyHash P "__firstlineno__", (.str "__firstlineno__" 612), (.int 143 611)⟩, ⟨PyData.keyHash P "__init__", (.str "__init__" 621), (.ref 337)⟩, ⟨PyData.keyHash P "__eq__", (.str "__eq__" 629), (.ref 344)⟩, ⟨PyData.keyHash P "functions_told", (.str "functions_told" 636), (.ref 351)⟩, ⟨PyData.keyHash P "negated", (.str "negated" 643), (.ref 358)⟩, ⟨PyData.keyHash P "times", (.str "times" 651), (.ref 365)⟩, ⟨PyData.keyHash P "moved", (.str "moved" 659), (.ref 372)⟩, ⟨PyData.keyHash P "mirrored", (.str "mirrored" 667), (.ref 379)⟩, ⟨PyData.keyHash P "text", (.str "text" 674), (.ref 386)⟩, ⟨PyData.keyHash P "__static_attributes__", (.str "__static_attributes__" 678), (.ref 387)⟩, ⟨PyData.keyHash P "__dict__", (.str "__dict__" 680), (.ref 390)⟩, ⟨PyData.keyHash P "__weakref__", (.str "__weakref__" 682), (.ref 391)⟩, ⟨PyData.keyHash P "__doc__", (.str "__doc__" 683), .none⟩, ⟨PyData.keyHash P "__hash__", (.str "__hash__" 684), .none⟩] 5, #[]⟩ : Obj)) ::
  (nat_lit 389, (⟨(.type "type"), none, .cls ⟨"Answers", [.type "object"], [.ref 389, .type "object"], 388, "Answers", true, [], [], false, none, false⟩, #[none, none, some (.str "Answers" 601), some (.str "Answers" 609), some (.builtin "object.__new__"), some (.bool true)]⟩ : Obj)) ::
  (nat_lit 406, (⟨(.type "code"), none, .fields #[.str "__init__" 699, .str "Refuses.__init__" 700, .str "/claim/cut.py" 701, .int 173 0, .int 3 0, .int 0 0, .int 0 0, .int 3 0, .ref 401, .bool true, .int 181 0, .ref 402, .none, .ref 403, .ref 404, .ref 405, .int 705 0, .int 173 0, .str "/claim/cut.py" 706], #[]⟩ : Obj)) ::
  (nat_lit 407, (⟨(.type "function"), none, .func (PySem.W.fnOf "__init__" "Refuses.__init__" (defArgs sRefInit) (defBody sRefInit) (defScope sRefInit) .none .none .none (.str "openranges.clauses" 592) none (.ref 406) .none), #[]⟩ : Obj)) ::
  (nat_lit 413, (⟨(.type "code"), none, .fields #[.str "__eq__" 708, .str "Refuses.__eq__" 709, .str "/claim/cut.py" 710, .int 179 0, .int 2 0, .int 0 0, .int 0 0, .int 3 0, .ref 408, .bool true, .int 181 0, .ref 409, .none, .ref 410, .ref 411, .ref 412, .int 713 0, .int 179 0, .str "/claim/cut.py" 714], #[]⟩ : Obj)) ::
  (nat_lit 414, (⟨(.type "function"), none, .func (PySem.W.fnOf "__eq__" "Refuses.__eq__" (defArgs sRefEq) (defBody sRefEq) (defScope sRefEq) .none .none .none (.str "openranges.clauses" 592) none (.ref 413) .none), #[]⟩ : Obj)) ::
  (nat_lit 420, (⟨(.type "code"), none, .fields #[.str "functions_told" 716, .str "Refuses.functions_told" 717, .str "/claim/cut.py" 718, .int 182 0, .int 1 0, .int 0 0, .int 0 0, .int 3 0, .ref 415, .bool true, .int 181 0, .ref 416, .none, .ref 417, .ref 418, .ref 419, .int 720 0, .int 182 0, .str "/claim/cut.py" 721], #[]⟩ : Obj)) ::
  (nat_lit 421, (⟨(.type "function"), none, .func (PySem.W.fnOf "functions_told" "Refuses.functions_told" (defArgs sRefTold) (defBody sRefTold) (defScope sRefTold) .none .none .none (.str "openranges.clauses" 592) none (.ref 420) .none), #[]⟩ : Obj)) ::
  (nat_lit 455, (⟨(.type "code"), none, .fields #[.str "text" 754, .str "Refuses.text" 755, .str "/claim/cut.py" 756, .int 197 0, .int 1 0, .int 0 0, .int 0 0, .int 3 0, .ref 450, .bool true, .int 181 0, .ref 451, .none, .ref 452, .ref 453, .ref 454, .int 758 0, .int 197 0, .str "/claim/cut.py" 759], #[]⟩ : Obj)) ::
  (nat_lit 456, (⟨(.type "function"), none, .func (PySem.W.fnOf "text" "Refuses.text" (defArgs sRefTxt) (defBody sRefTxt) (defScope sRefTxt) .none .none .none (.str "openranges.clauses" 592) none (.ref 455) .none), #[]⟩ : Obj)) ::
  (nat_lit 458, (⟨(.type "dict"), none, .dict #[⟨PyData.keyHash P "__module__", (.str "__module__" 694), (.str "openranges.clauses" 592)⟩, ⟨PyData.keyHash P "__firstlineno__", (.str "__firstlineno__" 698), (.int 171 697)⟩, ⟨PyData.keyHash P "__init__", (.str "__init__" 707), (.ref 407)⟩, ⟨PyData.keyHash P "__eq__", (.str "__eq__" 715), (.ref 414)⟩, ⟨PyData.keyHash P "functions_told", (.str "functions_told" 722), (.ref 421)⟩, ⟨PyData.keyHash P "negated", (.str "negated" 729), (.ref 428)⟩, ⟨PyData.keyHash P "times", (.str "times" 737), (.ref 435)⟩, ⟨PyData.keyHash P "moved", (.str "moved" 745), (.ref 442)⟩, ⟨PyData.keyHash P "mirrored", (.str "mirrored" 753), (.ref 449)⟩, ⟨PyData.keyHash P "text", (.str "text" 760), (.ref 456)⟩, ⟨PyData.keyHash P "__static_attributes__", (.str "__static_attributes__" 764), (.ref 457)⟩, ⟨PyData.keyHash P "__dict__", (.str "__dict__" 766), (.ref 460)⟩, ⟨PyData.keyHash P "__weakref__", (.str "__weakref__" 768), (.ref 461)⟩, ⟨PyData.keyHash P "__doc__", (.str "__doc__" 769), .none⟩, ⟨PyData.keyHash P "__hash__", (.str "__hash__" 770), .none⟩] 5, #[]⟩ : Obj)) ::
  (nat_lit 459, (⟨(.type "type"), none, .cls ⟨"Refuses", [.type "object"], [.ref 459, .type "object"], 458, "Refuses", true, [], [], false, none, false⟩, #[none, none, some (.str "Refuses" 687), some (.str "Refuses" 695), some (.builtin "object.__new__"), some (.bool true)]⟩ : Obj)) ::
  (nat_lit 476, (⟨(.type "code"), none, .fields #[.str "__init__" 785, .str "Needs.__init__" 786, .str "/claim/cut.py" 787, .int 201 0, .int 4 0, .int 0 0, .int 0 0, .int 3 0, .ref 471, .bool true, .int 181 0, .ref 472, .none, .ref 473, .ref 474, .ref 475, .int 792 0, .int 201 0, .str "/claim/cut.py" 793], #[]⟩ : Obj)) ::
  (nat_lit 477, (⟨(.type "function"), none, .func (PySem.W.fnOf "__init__" "Needs.__init__" (defArgs sNeeInit) (defBody sNeeInit) (defScope sNeeInit) .none .none .none (.str "openranges.clauses" 592) none (.ref 476) .none), #[]⟩ : Obj)) ::
  (nat_lit 483, (⟨(.type "code"), none, .fields #[.str "__eq__" 795, .str "Needs.__eq__" 796, .str "/claim/cut.py" 797, .int 208 0, .int 2 0, .int 0 0, .int 0 0, .int 3 0, .ref 478, .bool true, .int 181 0, .ref 479, .none, .ref 480, .ref 481, .ref 482, .int 800 0, .int 208 0, .str "/claim/cut.py" 801], #[]⟩ : Obj)) ::
  (nat_lit 484, (⟨(.type "function"), none, .func (PySem.W.fnOf "__eq__" "Needs.__eq__" (defArgs sNeeEq) (defBody sNeeEq) (defScope sNeeEq) .none .none .none (.str "openranges.clauses" 592) none (.ref 483) .none), #[]⟩ : Obj)) ::
  (nat_lit 490, (⟨(.type "code"), none, .fields #[.str "functions_told" 803, .str "Needs.functions_told" 804, .str "/claim/cut.py" 805, .int 213 0, .int 1 0, .int 0 0, .int 0 0, .int 3 0, .ref 485, .bool true, .int 181 0, .ref 486, .none, .ref 487, .ref 488, .ref 489, .int 807 0, .int 213 0, .str "/claim/cut.py" 808], #[]⟩ : Obj)) ::
  (nat_lit 491, (⟨(.type "function"), none, .func (PySem.W.fnOf "functions_told" "Needs.functions_told" (defArgs sNeeTold) (defBody sNeeTold) (defScope sNeeTold) .none .none .none (.str "openranges.clauses" 592) none (.ref 490) .none), #[]⟩ : Obj)) ::
  (nat_lit 525, (⟨(.type "code"), none, .fields #[.str "text" 841, .str "Needs.text" 842, .str "/claim/cut.py" 843, .int 228 0, .int 1 0, .int 0 0, .int 0 0, .int 3 0, .ref 520, .bool true, .int 181 0, .ref 521, .none, .ref 522, .ref 523, .ref 524, .int 845 0, .int 228 0, .str "/claim/cut.py" 846], #[]⟩ : Obj)) ::
  (nat_lit 526, (⟨(.type "function"), none, .func (PySem.W.fnOf "text" "Needs.text" (defArgs sNeeTxt) (defBody sNeeTxt) (defScope sNeeTxt) .none .none .none (.str "openranges.clauses" 592) none (.ref 525) .none), #[]⟩ : Obj)) ::
  (nat_lit 528, (⟨(.type "dict"), none, .dict #[⟨PyData.keyHash P "__module__", (.str "__module__" 780), (.str "openranges.clauses" 592)⟩, ⟨PyData.keyHash P "__firstlineno__", (.str "__firstlineno__" 784), (.int 199 783)⟩, ⟨PyData.keyHash P "__init__", (.str "__init__" 794), (.ref 477)⟩, ⟨PyData.keyHash P "__eq__", (.str "__eq__" 802), (.ref 484)⟩, ⟨PyData.keyHash P "functions_told", (.str "functions_told" 809), (.ref 491)⟩, ⟨PyData.keyHash P "negated", (.str "negated" 816), (.ref 498)⟩, ⟨PyData.keyHash P "times", (.str "times" 824), (.ref 505)⟩, ⟨PyData.keyHash P "moved", (.str "moved" 832), (.ref 512)⟩, ⟨PyData.keyHash P "mirrored", (.str "mirrored" 840), (.ref 519)⟩, ⟨PyData.keyHash P "text", (.str "text" 847), (.ref 526)⟩, ⟨PyData.keyHash P "__static_attributes__", (.str "__static_attributes__" 852), (.ref 527)⟩, ⟨PyData.keyHash P "__dict__", (.str "__dict__" 854), (.ref 530)⟩, ⟨PyData.keyHash P "__weakref__", (.str "__weakref__" 856), (.ref 531)⟩, ⟨PyData.keyHash P "__doc__", (.str "__doc__" 857), .none⟩, ⟨PyData.keyHash P "__hash__", (.str "__hash__" 858), .none⟩] 5, #[]⟩ : Obj)) ::
  (nat_lit 529, (⟨(.type "type"), none, .cls ⟨"Needs", [.type "object"], [.ref 529, .type "object"], 528, "Needs", true, [], [], false, none, false⟩, #[none, none, some (.str "Needs" 773), some (.str "Needs" 781), some (.builtin "object.__new__"), some (.bool true)]⟩ : Obj)) ::
  (nat_lit 546, (⟨(.type "code"), none, .fields #[.str "__init__" 873, .str "Spreads.__init__" 874, .str "/claim/cut.py" 875, .int 232 0, .int 4 0, .int 0 0, .int 0 0, .int 3 0, .ref 541, .bool true, .int 181 0, .ref 542, .none, .ref 543, .ref 544, .ref 545, .int 880 0, .int 232 0, .str "/claim/cut.py" 881], #[]⟩ : Obj)) ::
  (nat_lit 547, (⟨(.type "function"), none, .func (PySem.W.fnOf "__init__" "Spreads.__init__" (defArgs sSprInit) (defBody sSprInit) (defScope sSprInit) .none .none .none (.str "openranges.clauses" 592) none (.ref 546) .none), #[]⟩ : Obj)) ::
  (nat_lit 553, (⟨(.type "code"), none, .fields #[.str "__eq__" 883, .str "Spreads.__eq__" 884, .str "/claim/cut.py" 885, .int 240 0, .int 2 0, .int 0 0, .int 0 0, .int 3 0, .ref 548, .bool true, .int 181 0, .ref 549, .none, .ref 550, .ref 551, .ref 552, .int 888 0, .int 240 0, .str "/claim/cut.py" 889], #[]⟩ : Obj)) ::
  (nat_lit 554, (⟨(.type "function"), none, .func (PySem.W.fnOf "__eq__" "Spreads.__eq__" (defArgs sSprEq) (defBody sSprEq) (defScope sSprEq) .none .none .none (.str "openranges.clauses" 592) none (.ref 553) .none), #[]⟩ : Obj)) ::
  (nat_lit 560, (⟨(.type "code"), none, .fields #[.str "functions_told" 891, .str "Spreads.functions_told" 892, .str "/claim/cut.py" 893, .int 245 0, .int 1 0, .int 0 0, .int 0 0, .int 3 0, .ref 555, .bool true, .int 181 0, .ref 556, .none, .ref 557, .ref 558, .ref 559, .int 895 0, .int 245 0, .str "/claim/cut.py" 896], #[]⟩ : Obj)) ::
  (nat_lit 561, (⟨(.type "function"), none, .func (PySem.W.fnOf "functions_told" "Spreads.functions_told" (defArgs sSprTold) (defBody sSprTold) (defScope sSprTold) .none .none .none (.str "openranges.clauses" 592) none (.ref 560) .none), #[]⟩ : Obj)) ::
  (nat_lit 595, (⟨(.type "code"), none, .fields #[.str "text" 929, .str "Spreads.text" 930, .str "/claim/cut.py" 931, .int 260 0, .int 1 0, .int 0 0, .int 0 0, .int 3 0, .ref 590, .bool true, .int 181 0, .ref 591, .none, .ref 592, .ref 593, .ref 594, .int 933 0, .int 260 0, .str "/claim/cut.py" 934], #[]⟩ : Obj)) ::
  (nat_lit 596, (⟨(.type "function"), none, .func (PySem.W.fnOf "text" "Spreads.text" (defArgs sSprTxt) (defBody sSprTxt) (defScope sSprTxt) .none .none .none (.str "openranges.clauses" 592) none (.ref 595) .none), #[]⟩ : Obj)) ::
  (nat_lit 598, (⟨(.type "dict"), none, .dict #[⟨PyData.keyHash P "__module__", (.str "__module__" 868), (.str "openranges.clauses" 592)⟩, ⟨PyData.keyHash P "__firstlineno__", (.str "__firstlineno__" 872), (.int 230 871)⟩, ⟨PyData.keyHash P "__init__", (.str "__init__" 882), (.ref 547)⟩, ⟨PyData.keyHash P "__eq__", (.str "__eq__" 890), (.ref 554)⟩, ⟨PyData.keyHash P "functions_told", (.str "functions_told" 897), (.ref 561)⟩, ⟨PyData.keyHash P "negated", (.str "negated" 904), (.ref 568)⟩, ⟨PyData.keyHash P "times", (.str "times" 912), (.ref 575)⟩, ⟨PyData.keyHash P "moved", (.str "moved" 920), (.ref 582)⟩, ⟨PyData.keyHash P "mirrored", (.str "mirrored" 928), (.ref 589)⟩, ⟨PyData.keyHash P "text", (.str "text" 935), (.ref 596)⟩, ⟨PyData.keyHash P "__static_attributes__", (.str "__static_attributes__" 940), (.ref 597)⟩, ⟨PyData.keyHash P "__dict__", (.str "__dict__" 942), (.ref 600)⟩, ⟨PyData.keyHash P "__weakref__", (.str "__weakref__" 944), (.ref 601)⟩, ⟨PyData.keyHash P "__doc__", (.str "__doc__" 945), .none⟩, ⟨PyData.keyHash P "__hash__", (.str "__hash__" 946), .none⟩] 5, #[]⟩ : Obj)) ::
  (nat_lit 599, (⟨(.type "type"), none, .cls ⟨"Spreads", [.type "object"], [.ref 599, .type "object"], 598, "Spreads", true, [], [], false, none, false⟩, #[none, none, some (.str "Spreads" 861), some (.str "Spreads" 869), some (.builtin "object.__new__"), some (.bool true)]⟩ : Obj)) ::
  (nat_lit 616, (⟨(.type "code"), none, .fields #[.str "__init__" 961, .str "Bound.__init__" 962, .str "/claim/cut.py" 963, .int 264 0, .int 6 0, .int 0 0, .int 0 0, .int 3 0, .ref 611, .bool true, .int 181 0, .ref 612, .none, .ref 613, .ref 614, .ref 615, .int 970 0, .int 264 0, .str "/claim/cut.py" 971], #[]⟩ : Obj)) ::
  (nat_lit 617, (⟨(.type "function"), none, .func (PySem.W.fnOf "__init__" "Bound.__init__" (defArgs sBouInit) (defBody sBouInit) (defScope sBouInit) .none .none .none (.str "openranges.clauses" 592) none (.ref 616) .none), #[]⟩ : Obj)) ::
  (nat_lit 623, (⟨(.type "code"), none, .fields #[.str "__eq__" 973, .str "Bound.__eq__" 974, .str "/claim/cut.py" 975, .int 274 0, .int 2 0, .int 0 0, .int 0 0, .int 3 0, .ref 618, .bool true, .int 181 0, .ref 619, .none, .ref 620, .ref 621, .ref 622, .int 979 0, .int 274 0, .str "/claim/cut.py" 980], #[]⟩ : Obj)) ::
  (nat_lit 624, (⟨(.type "function"), none, .func (PySem.W.fnOf "__eq__" "Bound.__eq__" (defArgs sBouEq) (defBody sBouEq) (defScope sBouEq) .none .none .none (.str "openranges.clauses" 592) none (.ref 623) .none), #[]⟩ : Obj)) ::
  (nat_lit 630, (⟨(.type "code"), none, .fields #[.str "line" 982, .str "Bound.line" 983, .str "/claim/cut.py" 984, .int 280 0, .int 1 0, .int 0 0, .int 0 0, .int 3 0, .ref 625, .bool true, .int 181 0, .ref 626, .none, .ref 627, .ref 628, .ref 629, .int 986 0, .int 280 0, .str "/claim/cut.py" 987], #[]⟩ : Obj)) ::
  (nat_lit 631, (⟨(.type "function"), none, .func (PySem.W.fnOf "line" "Bound.line" (defArgs sBouLine) (defBody sBouLine) (defScope sBouLine) .none .none .none (.str "openranges.clauses" 592) none (.ref 630) .none), #[]⟩ : Obj)) ::
  (nat_lit 637, (⟨(.type "code"), none, .fields #[.str "functions_told" 989, .str "Bound.functions_told" 990, .str "/claim/cut.py" 991, .int 283 0, .int 1 0, .int 0 0, .int 0 0, .int 3 0, .ref 632, .bool true, .int 181 0, .ref 633, .none, .ref 634, .ref 635, .ref 636, .int 993 0, .int 283 0, .str "/claim/cut.py" 994], #[]⟩ : Obj)) ::
  (nat_lit 638, (⟨(.type "function"), none, .func (PySem.W.fnOf "functions_told" "Bound.functions_told" (defArgs sBouTold) (defBody sBouTold) (defScope sBouTold) .none .none .none (.str "openranges.clauses" 592) none (.ref 637) .none), #[]⟩ : Obj)) ::
  (nat_lit 672, (⟨(.type "code"), none, .fields #[.str "text" 1027, .str "Bound.text" 1028, .str "/claim/cut.py" 1029, .int 298 0, .int 1 0, .int 0 0, .int 0 0, .int 3 0, .ref 667, .bool true, .int 181 0, .ref 668, .none, .ref 669, .ref 670, .ref 671, .int 1031 0, .int 298 0, .str "/claim/cut.py" 1032], #[]⟩ : Obj)) ::
  (nat_lit 673, (⟨(.type "function"), none, .func (PySem.W.fnOf "text" "Bound.text" (defArgs sBouTxt) (defBody sBouTxt) (defScope sBouTxt) .none .none .none (.str "openranges.clauses" 592) none (.ref 672) .none), #[]⟩ : Obj)) ::
  (nat_lit 675, (⟨(.type "dict"), none, .dict #[⟨PyData.keyHash P "__module__", (.str "__module__" 956), (.str "openranges.clauses" 592)⟩, ⟨PyData.keyHash P "__firstlineno__", (.str "__firstlineno__" 960), (.int 262 959)⟩, ⟨PyData.keyHash P "__init__", (.str "__init__" 972), (.ref 617)⟩, ⟨PyData.keyHash P "__eq__", (.str "__eq__" 981), (.ref 624)⟩, ⟨PyData.keyHash P "line", (.str "line" 988), (.ref 631)⟩, ⟨PyData.keyHash P "functions_told", (.str "functions_told" 995), (.ref 638)⟩, ⟨PyData.keyHash P "negated", (.str "negated" 1002), (.ref 645)⟩, ⟨PyData.keyHash P "times", (.str "times" 1010), (.ref 652)⟩, ⟨PyData.keyHash P "moved", (.str "moved" 1018), (.ref 659)⟩, ⟨PyData.keyHash P "mirrored", (.str "mirrored" 1026), (.ref 666)⟩, ⟨PyData.keyHash P "text", (.str "text" 1033), (.ref 673)⟩, ⟨PyData.keyHash P "__static_attributes__", (.str "__static_attributes__" 1040), (.ref 674)⟩, ⟨PyData.keyHash P "__dict__", (.str "__dict__" 1042), (.ref 677)⟩, ⟨PyData.keyHash P "__weakref__", (.str "__weakref__" 1044), (.ref 678)⟩, ⟨PyData.keyHash P "__doc__", (.str "__doc__" 1045), .none⟩, ⟨PyData.keyHash P "__hash__", (.str "__hash__" 1046), .none⟩] 5, #[]⟩ : Obj)) ::
  (nat_lit 676, (⟨(.type "type"), none, .cls ⟨"Bound", [.type "object"], [.ref 676, .type "object"], 675, "Bound", true, [], [], false, none, false⟩, #[none, none, some (.str "Bound" 949), some (.str "Bound" 957), some (.builtin "object.__new__"), some (.bool true)]⟩ : Obj)) ::
  (nat_lit 693, (⟨(.type "code"), none, .fields #[.str "__init__" 1061, .str "Pair.__init__" 1062, .str "/claim/cut.py" 1063, .int 302 0, .int 7 0, .int 0 0, .int 0 0, .int 3 0, .ref 688, .bool true, .int 181 0, .ref 689, .none, .ref 690, .ref 691, .ref 692, .int 1071 0, .int 302 0, .str "/claim/cut.py" 1072], #[]⟩ : Obj)) ::
  (nat_lit 694, (⟨(.type "function"), none, .func (PySem.W.fnOf "__init__" "Pair.__init__" (defArgs sPaiInit) (defBody sPaiInit) (defScope sPaiInit) .none .none .none (.str "openranges.clauses" 592) none (.ref 693) .none), #[]⟩ : Obj)) ::
  (nat_lit 700, (⟨(.type "code"), none, .fields #[.str "__eq__" 1074, .str "Pair.__eq__" 1075, .str "/claim/cut.py" 1076, .int 313 0, .int 2 0, .int 0 0, .int 0 0, .int 3 0, .ref 695, .bool true, .int 181 0, .ref 696, .none, .ref 697, .ref 698, .ref 699, .int 1081 0, .int 313 0, .str "/claim/cut.py" 1082], #[]⟩ : Obj)) ::
  (nat_lit 701, (⟨(.type "function"), none, .func (PySem.W.fnOf "__eq__" "Pair.__eq__" (defArgs sPaiEq) (defBody sPaiEq) (defScope sPaiEq) .none .none .none (.str "openranges.clauses" 592) none (.ref 700) .none), #[]⟩ : Obj)) ::
  (nat_lit 707, (⟨(.type "code"), none, .fields #[.str "line" 1084, .str "Pair.line" 1085, .str "/claim/cut.py" 1086, .int 320 0, .int 1 0, .int 0 0, .int 0 0, .int 3 0, .ref 702, .bool true, .int 181 0, .ref 703, .none, .ref 704, .ref 705, .ref 706, .int 1088 0, .int 320 0, .str "/claim/cut.py" 1089], #[]⟩ : Obj)) ::
  (nat_lit 708, (⟨(.type "function"), none, .func (PySem.W.fnOf "line" "Pair.line" (defArgs sPaiLine) (defBody sPaiLine) (defScope sPaiLine) .none .none .none (.str "openranges.clauses" 592) none (.ref 707) .none), #[]⟩ : Obj)) ::
  (nat_lit 714, (⟨(.type "code"), none, .fields #[.str "functions_told" 1091, .str "Pair.functions_told" 1092, .str "/claim/cut.py" 1093, .int 323 0, .int 1 0, .int 0 0, .int 0 0, .int 3 0, .ref 709, .bool true, .int 181 0, .ref 710, .none, .ref 711, .ref 712, .ref 713, .int 1095 0, .int 323 0, .str "/claim/cut.py" 1096], #[]⟩ : Obj)) ::
  (nat_lit 715, (⟨(.type "function"), none, .func (PySem.W.fnOf "functions_told" "Pair.functions_told" (defArgs sPaiTold) (defBody sPaiTold) (defScope sPaiTold) .none .none .none (.str "openranges.clauses" 592) none (.ref 714) .none), #[]⟩ : Obj)) ::
  (nat_lit 749, (⟨(.type "code"), none, .fields #[.str "text" 1129, .str "Pair.text" 1130, .str "/claim/cut.py" 1131, .int 338 0, .int 1 0, .int 0 0, .int 0 0, .int 3 0, .ref 744, .bool true, .int 181 0, .ref 745, .none, .ref 746, .ref 747, .ref 748, .int 1133 0, .int 338 0, .str "/claim/cut.py" 1134], #[]⟩ : Obj)) ::
  (nat_lit 750, (⟨(.type "function"), none, .func (PySem.W.fnOf "text" "Pair.text" (defArgs sPaiTxt) (defBody sPaiTxt) (defScope sPaiTxt) .none .none .none (.str "openranges.clauses" 592) none (.ref 749) .none), #[]⟩ : Obj)) ::
  (nat_lit 752, (⟨(.type "dict"), none, .dict #[⟨PyData.keyHash P "__module__", (.str "__module__" 1056), (.str "openranges.clauses" 592)⟩, ⟨PyData.keyHash P "__firstlineno__", (.str "__firstlineno__" 1060), (.int 300 1059)⟩, ⟨PyData.keyHash P "__init__", (.str "__init__" 1073), (.ref 694)⟩, ⟨PyData.keyHash P "__eq__", (.str "__eq__" 1083), (.ref 701)⟩, ⟨PyData.keyHash P "line", (.str "line" 1090), (.ref 708)⟩, ⟨PyData.keyHash P "functions_told", (.str "functions_told" 1097), (.ref 715)⟩, ⟨PyData.keyHash P "negated", (.str "negated" 1104), (.ref 722)⟩, ⟨PyData.keyHash P "times", (.str "times" 1112), (.ref 729)⟩, ⟨PyData.keyHash P "moved", (.str "moved" 1120), (.ref 736)⟩, ⟨PyData.keyHash P "mirrored", (.str "mirrored" 1128), (.ref 743)⟩, ⟨PyData.keyHash P "text", (.str "text" 1135), (.ref 750)⟩, ⟨PyData.keyHash P "__static_attributes__", (.str "__static_attributes__" 1143), (.ref 751)⟩, ⟨PyData.keyHash P "__dict__", (.str "__dict__" 1145), (.ref 754)⟩, ⟨PyData.keyHash P "__weakref__", (.str "__weakref__" 1147), (.ref 755)⟩, ⟨PyData.keyHash P "__doc__", (.str "__doc__" 1148), .none⟩, ⟨PyData.keyHash P "__hash__", (.str "__hash__" 1149), .none⟩] 5, #[]⟩ : Obj)) ::
  (nat_lit 753, (⟨(.type "type"), none, .cls ⟨"Pair", [.type "object"], [.ref 753, .type "object"], 752, "Pair", true, [], [], false, none, false⟩, #[none, none, some (.str "Pair" 1049), some (.str "Pair" 1057), some (.builtin "object.__new__"), some (.bool true)]⟩ : Obj)) ::
  (nat_lit 770, (⟨(.type "code"), none, .fields #[.str "__init__" 1164, .str "Step.__init__" 1165, .str "/claim/cut.py" 1166, .int 342 0, .int 5 0, .int 0 0, .int 0 0, .int 3 0, .ref 765, .bool true, .int 181 0, .ref 766, .none, .ref 767, .ref 768, .ref 769, .int 1172 0, .int 342 0, .str "/claim/cut.py" 1173], #[]⟩ : Obj)) ::
  (nat_lit 771, (⟨(.type "function"), none, .func (PySem.W.fnOf "__init__" "Step.__init__" (defArgs sSteInit) (defBody sSteInit) (defScope sSteInit) .none .none .none (.str "openranges.clauses" 592) none (.ref 770) .none), #[]⟩ : Obj)) ::
  (nat_lit 777, (⟨(.type "code"), none, .fields #[.str "__eq__" 1175, .str "Step.__eq__" 1176, .str "/claim/cut.py" 1177, .int 351 0, .int 2 0, .int 0 0, .int 0 0, .int 3 0, .ref 772, .bool true, .int 181 0, .ref 773, .none, .ref 774, .ref 775, .ref 776, .int 1180 0, .int 351 0, .str "/claim/cut.py" 1181], #[]⟩ : Obj)) ::
  (nat_lit 778, (⟨(.type "function"), none, .func (PySem.W.fnOf "__eq__" "Step.__eq__" (defArgs sSteEq) (defBody sSteEq) (defScope sSteEq) .none .none .none (.str "openranges.clauses" 592) none (.ref 777) .none), #[]⟩ : Obj)) ::
  (nat_lit 784, (⟨(.type "code"), none, .fields #[.str "functions_told" 1183, .str "Step.functions_told" 1184, .str "/claim/cut.py" 1185, .int 356 0, .int 1 0, .int 0 0, .int 0 0, .int 3 0, .ref 779, .bool true, .int 181 0, .ref 780, .none, .ref 781, .ref 782, .ref 783, .int 1187 0, .int 356 0, .str "/claim/cut.py" 1188], #[]⟩ : Obj)) ::
  (nat_lit 785, (⟨(.type "function"), none, .func (PySem.W.fnOf "functions_told" "Step.functions_told" (defArgs sSteTold) (defBody sSteTold) (defScope sSteTold) .none .none .none (.str "openranges.clauses" 592) none (.ref 784) .none), #[]⟩ : Obj)) ::
  (nat_lit 819, (⟨(.type "code"), none, .fields #[.str "text" 1221, .str "Step.text" 1222, .str "/claim/cut.py" 1223, .int 371 0, .int 1 0, .int 0 0, .int 0 0, .int 3 0, .ref 814, .bool true, .int 181 0, .ref 815, .none, .ref 816, .ref 817, .ref 818, .int 1225 0, .int 371 0, .str "/claim/cut.py" 1226], #[]⟩ : Obj)) ::
  (nat_lit 820, (⟨(.type "function"), none, .func (PySem.W.fnOf "text" "Step.text" (defArgs sSteTxt) (defBody sSteTxt) (defScope sSteTxt) .none .none .none (.str "openranges.clauses" 592) none (.ref 819) .none), #[]⟩ : Obj)) ::
  (nat_lit 822, (⟨(.type "dict"), none, .dict #[⟨PyData.keyHash P "__module__", (.str "__module__" 1159), (.str "openranges.clauses" 592)⟩, ⟨PyData.keyHash P "__firstlineno__", (.str "__firstlineno__" 1163), (.int 340 1162)⟩, ⟨PyData.keyHash P "__init__", (.str "__init__" 1174), (.ref 771)⟩, ⟨PyData.keyHash P "__eq__", (.str "__eq__" 1182), (.ref 778)⟩, ⟨PyData.keyHash P "functions_told", (.str "functions_told" 1189), (.ref 785)⟩, ⟨PyData.keyHash P "negated", (.str "negated" 1196), (.ref 792)⟩, ⟨PyData.keyHash P "times", (.str "times" 1204), (.ref 799)⟩, ⟨PyData.keyHash P "moved", (.str "moved" 1212), (.ref 806)⟩, ⟨PyData.keyHash P "mirrored", (.str "mirrored" 1220), (.ref 813)⟩, ⟨PyData.keyHash P "text", (.str "text" 1227), (.ref 820)⟩, ⟨PyData.keyHash P "__static_attributes__", (.str "__static_attributes__" 1233), (.ref 821)⟩, ⟨PyData.keyHash P "__dict__", (.str "__dict__" 1235), (.ref 824)⟩, ⟨PyData.keyHash P "__weakref__", (.str "__weakref__" 1237), (.ref 825)⟩, ⟨PyData.keyHash P "__doc__", (.str "__doc__" 1238), .none⟩, ⟨PyData.keyHash P "__hash__", (.str "__hash__" 1239), .none⟩] 5, #[]⟩ : Obj)) ::
  (nat_lit 823, (⟨(.type "type"), none, .cls ⟨"Step", [.type "object"], [.ref 823, .type "object"], 822, "Step", true, [], [], false, none, false⟩, #[none, none, some (.str "Step" 1152), some (.str "Step" 1160), some (.builtin "object.__new__"), some (.bool true)]⟩ : Obj)) ::
  (nat_lit 833, (⟨(.type "code"), none, .fields #[.str "_beginning" 1242, .str "_beginning" 1243, .str "/claim/cut.py" 1244, .int 373 0, .int 1 0, .int 0 0, .int 0 0, .int 3 0, .ref 828, .bool true, .int 181 0, .ref 829, .none, .ref 830, .ref 831, .ref 832, .int 1246 0, .int 373 0, .str "/claim/cut.py" 1247], #[]⟩ : Obj)) ::
  (nat_lit 834, (⟨(.type "function"), none, .func (PySem.W.fnOf "_beginning" "_beginning" (defArgs sBegin) (defBody sBegin) (defScope sBegin) .none .none .none (.str "openranges.clauses" 592) none (.ref 833) .none), #[]⟩ : Obj)) ::
  (nat_lit 840, (⟨(.type "code"), none, .fields #[.str "_added_text" 1249, .str "_added_text" 1250, .str "/claim/cut.py" 1251, .int 375 0, .int 1 0, .int 0 0, .int 0 0, .int 3 0, .ref 835, .bool true, .int 181 0, .ref 836, .none, .ref 837, .ref 838, .ref 839, .int 1254 0, .int 375 0, .str "/claim/cut.py" 1255], #[]⟩ : Obj)) ::
  (nat_lit 841, (⟨(.type "function"), none, .func (PySem.W.fnOf "_added_text" "_added_text" (defArgs sAdded) (defBody sAdded) (defScope sAdded) .none .none .none (.str "openranges.clauses" 592) none (.ref 840) .none), #[]⟩ : Obj)) ::
  (nat_lit 856, (⟨(.type "tuple"), none, .seq #[] 0, #[]⟩ : Obj)) ::
  (nat_lit 857, (⟨(.type "tuple"), none, .seq #[.ref 856] 0, #[]⟩ : Obj)) ::
  (nat_lit 861, (⟨(.type "code"), none, .fields #[.str "__init__" 1286, .str "Places.__init__" 1287, .str "/claim/cut.py" 1288, .int 398 0, .int 2 0, .int 0 0, .int 0 0, .int 3 0, .ref 858, .bool true, .int 181 0, .ref 859, .none, .none, .none, .ref 860, .int 1289 0, .int 398 0, .str "/claim/cut.py" 1290], #[]⟩ : Obj)) ::
  (nat_lit 862, (⟨(.type "function"), none, .func (PySem.W.fnOf "__init__" "Places.__init__" (defArgs sPlInit) (defBody sPlInit) (defScope sPlInit) (.ref 857) .none .none (.str "openranges.places" 1272) none (.ref 861) .none), #[]⟩ : Obj)) ::
  (nat_lit 868, (⟨(.type "code"), none, .fields #[.str "__eq__" 1292, .str "Places.__eq__" 1293, .str "/claim/cut.py" 1294, .int 406 0, .int 2 0, .int 0 0, .int 0 0, .int 3 0, .ref 863, .bool true, .int 181 0, .ref 864, .none, .ref 865, .ref 866, .ref 867, .int 1297 0, .int 406 0, .str "/claim/cut.py" 1298], #[]⟩ : Obj)) ::
  (nat_lit 869, (⟨(.type "function"), none, .func (PySem.W.fnOf "__eq__" "Places.__eq__" (defArgs sPlEq) (defBody sPlEq) (defScope sPlEq) .none .none .none (.str "openranges.places" 1272) none (.ref 868) .none), #[]⟩ : Obj)) ::
  (nat_lit 985, (⟨(.type "code"), none, .fields #[.str "text" 1426, .str "Places.text" 1427, .str "/claim/cut.py" 1428, .int 466 0, .int 1 0, .int 0 0, .int 0 0, .int 3 0, .ref 982, .bool true, .int 181 0, .ref 983, .none, .none, .none, .ref 984, .int 1429 0, .int 466 0, .str "/claim/cut.py" 1430], #[]⟩ : Obj)) ::
  (nat_lit 986, (⟨(.type "function"), none, .func (PySem.W.fnOf "text" "Places.text" (defArgs sPlText) (defBody sPlText) (defScope sPlText) .none .none .none (.str "openranges.places" 1272) none (.ref 985) .none), #[]⟩ : Obj)) ::
  (nat_lit 995, (⟨(.type "classmethod"), (some 994), .fields #[.ref 993, .bool false], #[]⟩ : Obj)) ::
  (nat_lit 998, (⟨(.type "dict"), none, .dict #[⟨PyData.keyHash P "__module__", (.str "__module__" 1281), (.str "openranges.places" 1272)⟩, ⟨PyData.keyHash P "__firstlineno__", (.str "__firstlineno__" 1285), (.int 396 1284)⟩, ⟨PyData.keyHash P "__init__", (.str "__init__" 1291), (.ref 862)⟩, ⟨PyData.keyHash P "__eq__", (.str "__eq__" 1299), (.ref 869)⟩, ⟨PyData.keyHash P "__bool__", (.str "__bool__" 1306), (.ref 876)⟩, ⟨PyData.keyHash P "__contains__", (.str "__contains__" 1315), (.ref 883)⟩, ⟨PyData.keyHash P "__getitem__", (.str "__getitem__" 1324), (.ref 890)⟩, ⟨PyData.keyHash P "__iter__", (.str "__iter__" 1331), (.ref 897)⟩, ⟨PyData.keyHash P "__or__", (.str "__or__" 1339), (.ref 904)⟩, ⟨PyData.keyHash P "__and__", (.str "__and__" 1347), (.ref 911)⟩, ⟨PyData.keyHash P "__sub__", (.str "__sub__" 1355), (.ref 918)⟩, ⟨PyData.keyHash P "__xor__", (.str "__xor__" 1363), (.ref 925)⟩, ⟨PyData.keyHash P "size", (.str "size" 1372), (.ref 932)⟩, ⟨PyData.keyHash P "rank", (.str "rank" 1380), (.ref 939)⟩, ⟨PyData.keyHash P "least", (.str "least" 1387), (.ref 946)⟩, ⟨PyData.keyHash P "greatest", (.str "greatest" 1394), (.ref 953)⟩, ⟨PyData.keyHash P "within", (.str "within" 1402), (.ref 960)⟩, ⟨PyData.keyHash P "shifted", (.str "shifted" 1410), (.ref 967)⟩, ⟨PyData.keyHash P "mirrored", (.str "mirrored" 1418), (.ref 974)⟩, ⟨PyData.keyHash P "inner", (.str "inner" 1425), (.ref 981)⟩, ⟨PyData.keyHash P "text", (.str "text" 1431), (.ref 986)⟩, ⟨PyData.keyHash P "read", (.str "read" 1452), (.ref 995)⟩, ⟨PyData.keyHash P "__static_attributes__", (.str "__static_attributes__" 1456), (.ref 997)⟩, ⟨PyData.keyHash P "__dict__", (.str "__dict__" 1458), (.ref 1000)⟩, ⟨PyData.keyHash P "__weakref__", (.str "__weakref__" 1460), (.ref 1001)⟩, ⟨PyData.keyHash P "__doc__", (.str "__doc__" 1461), .none⟩, ⟨PyData.keyHash P "__hash__", (.str "__hash__" 1462), .none⟩] 5, #[]⟩ : Obj)) ::
  (nat_lit 999, (⟨(.type "type"), none, .cls ⟨"Places", [.type "object"], [.ref 999, .type "object"], 998, "Places", true, [], [], false, none, false⟩, #[none, none, some (.str "Places" 1274), some (.str "Places" 1282), some (.builtin "object.__new__"), some (.bool true)]⟩ : Obj)) ::
  (nat_lit 1016, (⟨(.type "code"), none, .fields #[.str "_is_stretch" 1478, .str "_is_stretch" 1479, .str "/claim/cut.py" 1480, .int 489 0, .int 1 0, .int 0 0, .int 0 0, .int 3 0, .ref 1011, .bool true, .int 181 0, .ref 1012, .none, .ref 1013, .ref 1014, .ref 1015, .int 1484 0, .int 489 0, .str "/claim/cut.py" 1485], #[]⟩ : Obj)) ::
  (nat_lit 1017, (⟨(.type "function"), none, .func (PySem.W.fnOf "_is_stretch" "_is_stretch" (defArgs sIsStretch) (defBody sIsStretch) (defScope sIsStretch) .none .none .none (.str "openranges.places" 1272) none (.ref 1016) .none), #[]⟩ : Obj)) ::
  (nat_lit 1021, (⟨(.type "code"), none, .fields #[.str "_joined" 1487, .str "_joined" 1488, .str "/claim/cut.py" 1489, .int 494 0, .int 1 0, .int 0 0, .int 0 0, .int 3 0, .ref 1018, .bool true, .int 181 0, .ref 1019, .none, .none, .none, .ref 1020, .int 1490 0, .int 494 0, .str "/claim/cut.py" 1491], #[]⟩ : Obj)) ::
  (nat_lit 1022, (⟨(.type "function"), none, .func (PySem.W.fnOf "_joined" "_joined" (defArgs sJoined) (defBody sJoined) (defScope sJoined) .none .none .none (.str "openranges.places" 1272) none (.ref 1021) .none), #[]⟩ : Obj)) ::
  (nat_lit 1028, (⟨(.type "code"), none, .fields #[.str "_counts_before" 1493, .str "_counts_before" 1494, .str "/claim/cut.py" 1495, .int 502 0, .int 1 0, .int 0 0, .int 0 0, .int 3 0, .ref 1023, .bool true, .int 181 0, .ref 1024, .none, .ref 1025, .ref 1026, .ref 1027, .int 1501 0, .int 502 0, .str "/claim/cut.py" 1502], #[]⟩ : Obj)) ::
  (nat_lit 1029, (⟨(.type "function"), none, .func (PySem.W.fnOf "_counts_before" "_counts_before" (defArgs sCounts) (defBody sCounts) (defScope sCounts) .none .none .none (.str "openranges.places" 1272) none (.ref 1028) .none), #[]⟩ : Obj)) ::
  (nat_lit 1054, (⟨(.type "code"), none, .fields #[.str "_stretch_text" 1532, .str "_stretch_text" 1533, .str "/claim/cut.py" 1534, .int 531 0, .int 2 0, .int 0 0, .int 0 0, .int 3 0, .ref 1049, .bool true, .int 181 0, .ref 1050, .none, .ref 1051, .ref 1052, .ref 1053, .int 1537 0, .int 531 0, .str "/claim/cut.py" 1538], #[]⟩ : Obj)) ::
  (nat_lit 1055, (⟨(.type "function"), none, .func (PySem.W.fnOf "_stretch_text" "_stretch_text" (defArgs sSText) (defBody sSText) (defScope sSText) .none .none .none (.str "openranges.places" 1272) none (.ref 1054) .none), #[]⟩ : Obj)) ::
  (nat_lit 1068, (⟨(.type "code"), none, .fields #[.str "_law_pen" 1554, .str "_law_pen" 1555, .str "/claim/cut.py" 1556, .int 545 0, .int 1 0, .int 0 0, .int 0 0, .int 3 0, .ref 1063, .bool true, .int 181 0, .ref 1064, .none, .ref 1065, .ref 1066, .ref 1067, .int 1558 0, .int 545 0, .str "/claim/cut.py" 1559], #[]⟩ : Obj)) ::
  (nat_lit 1069, (⟨(.type "function"), none, .func (PySem.W.fnOf "_law_pen" "_law_pen" (defArgs sPen) (defBody sPen) (defScope sPen) .none .none .none (.str "law_openranges_k11_clauses_and_their_texts" 1552) none (.ref 1068) .none), #[]⟩ : Obj)) ::
  (nat_lit 1075, (⟨(.type "code"), none, .fields #[.str "_law_draw" 1561, .str "_law_draw" 1562, .str "/claim/cut.py" 1563, .int 547 0, .int 2 0, .int 0 0, .int 0 0, .int 3 0, .ref 1070, .bool true, .int 181 0, .ref 1071, .none, .ref 1072, .ref 1073, .ref 1074, .int 1571 0, .int 547 0, .str "/claim/cut.py" 1572], #[]⟩ : Obj)) ::
  (nat_lit 1076, (⟨(.type "function"), none, .func (PySem.W.fnOf "_law_draw" "_law_draw" (defArgs sDraw) (defBody sDraw) (defScope sDraw) .none .none .none (.str "law_openranges_k11_clauses_and_their_texts" 1552) none (.ref 1075) .none), #[]⟩ : Obj)) ::
  (nat_lit 1082, (⟨(.type "code"), none, .fields #[.str "_law_pick" 1574, .str "_law_pick" 1575, .str "/claim/cut.py" 1576, .int 561 0, .int 2 0, .int 0 0, .int 0 0, .int 3 0, .ref 1077, .bool true, .int 181 0, .ref 1078, .none, .ref 1079, .ref 1080, .ref 1081, .int 1579 0, .int 561 0, .str "/claim/cut.py" 1580], #[]⟩ : Obj)) ::
  (nat_lit 1083, (⟨(.type "function"), none, .func (PySem.W.fnOf "_law_pick" "_law_pick" (defArgs sPick) (defBody sPick) (defScope sPick) .none .none .none (.str "law_openranges_k11_clauses_and_their_texts" 1552) none (.ref 1082) .none), #[]⟩ : Obj)) ::
  (nat_lit 1089, (⟨(.type "code"), none, .fields #[.str "_law_shuffled" 1582, .str "_law_shuffled" 1583, .str "/claim/cut.py" 1584, .int 563 0, .int 2 0, .int 0 0, .int 0 0, .int 3 0, .ref 1084, .bool true, .int 181 0, .ref 1085, .none, .ref 1086, .ref 1087, .ref 1088, .int 1589 0, .int 563 0, .str "/claim/cut.py" 1590], #[]⟩ : Obj)) ::
  (nat_lit 1090, (⟨(.type "function"), none, .func (PySem.W.fnOf "_law_shuffled" "_law_shuffled" (defArgs sShuffled) (defBody sShuffled) (defScope sShuffled) .none .none .none (.str "law_openranges_k11_clauses_and_their_texts" 1552) none (.ref 1089) .none), #[]⟩ : Obj)) ::
  (nat_lit 1094, (⟨(.type "code"), none, .fields #[.str "_law_words" 1592, .str "_law_words" 1593, .str "/claim/cut.py" 1594, .int 568 0, .int 2 0, .int 0 0, .int 0 0, .int 3 0, .ref 1091, .bool true, .int 181 0, .ref 1092, .none, .none, .none, .ref 1093, .int 1595 0, .int 568 0, .str "/claim/cut.py" 1596], #[]⟩ : Obj)) ::
  (nat_lit 1095, (⟨(.type "function"), none, .func (PySem.W.fnOf "_law_words" "_law_words" (defArgs sWords) (defBody sWords) (defScope sWords) .none .none .none (.str "law_openranges_k11_clauses_and_their_texts" 1552) none (.ref 1094) .none), #[]⟩ : Obj)) ::
  (nat_lit 1101, (⟨(.type "code"), none, .fields #[.str "_law_spot" 1598, .str "_law_spot" 1599, .str "/claim/cut.py" 1600, .int 574 0, .int 1 0, .int 0 0, .int 0 0, .int 3 0, .ref 1096, .bool true, .int 181 0, .ref 1097, .none, .ref 1098, .ref 1099, .ref 1100, .int 1603 0, .int 574 0, .str "/claim/cut.py" 1604], #[]⟩ : Obj)) ::
  (nat_lit 1102, (⟨(.type "function"), none, .func (PySem.W.fnOf "_law_spot" "_law_spot" (defArgs sSpot) (defBody sSpot) (defScope sSpot) .none .none .none (.str "law_openranges_k11_clauses_and_their_texts" 1552) none (.ref 1101) .none), #[]⟩ : Obj)) ::
  (nat_lit 1108, (⟨(.type "code"), none, .fields #[.str "_law_drawn" 1606, .str "_law_drawn" 1607, .str "/claim/cut.py" 1608, .int 581 0, .int 2 0, .int 0 0, .int 0 0, .int 3 0, .ref 1103, .bool true, .int 181 0, .ref 1104, .none, .ref 1105, .ref 1106, .ref 1107, .int 1615 0, .int 581 0, .str "/claim/cut.py" 1616], #[]⟩ : Obj)) ::
  (nat_lit 1109, (⟨(.type "function"), none, .func (PySem.W.fnOf "_law_drawn" "_law_drawn" (defArgs sDrawn) (defBody sDrawn) (defScope sDrawn) .none .none .none (.str "law_openranges_k11_clauses_and_their_texts" 1552) none (.ref 1108) .none), #[]⟩ : Obj)) ::
  (nat_lit 1115, (⟨(.type "code"), none, .fields #[.str "_law_merged" 1618, .str "_law_merged" 1619, .str "/claim/cut.py" 1620, .int 590 0, .int 1 0, .int 0 0, .int 0 0, .int 3 0, .ref 1110, .bool true, .int 181 0, .ref 1111, .none, .ref 1112, .ref 1113, .ref 1114, .int 1626 0, .int 590 0, .str "/claim/cut.py" 1627], #[]⟩ : Obj)) ::
  (nat_lit 1116, (⟨(.type "function"), none, .func (PySem.W.fnOf "_law_merged" "_law_merged" (defArgs sMerged) (defBody sMerged) (defScope sMerged) .none .none .none (.str "law_openranges_k11_clauses_and_their_texts" 1552) none (.ref 1115) .none), #[]⟩ : Obj)) ::
  (nat_lit 1120, (⟨(.type "code"), none, .fields #[.str "_law_text_of" 1629, .str "_law_text_of" 1630, .str "/claim/cut.py" 1631, .int 599 0, .int 1 0, .int 0 0, .int 0 0, .int 3 0, .ref 1117, .bool true, .int 181 0, .ref 1118, .none, .none, .none, .ref 1119, .int 1632 0, .int 599 0, .str "/claim/cut.py" 1633], #[]⟩ : Obj)) ::
  (nat_lit 1121, (⟨(.type "function"), none, .func (PySem.W.fnOf "_law_text_of" "_law_text_of" (defArgs sTextOf) (defBody sTextOf) (defScope sTextOf) .none .none .none (.str "law_openranges_k11_clauses_and_their_texts" 1552) none (.ref 1120) .none), #[]⟩ : Obj)) ::
  (nat_lit 1127, (⟨(.type "code"), none, .fields #[.str "_law_whole" 1635, .str "_law_whole" 1636, .str "/claim/cut.py" 1637, .int 602 0, .int 1 0, .int 0 0, .int 0 0, .int 3 0, .ref 1122, .bool true, .int 181 0, .ref 1123, .none, .ref 1124, .ref 1125, .ref 1126, .int 1640 0, .int 602 0, .str "/claim/cut.py" 1641], #[]⟩ : Obj)) ::
  (nat_lit 1128, (⟨(.type "function"), none, .func (PySem.W.fnOf "_law_whole" "_law_whole" (defArgs sWhole) (defBody sWhole) (defScope sWhole) .none .none .none (.str "law_openranges_k11_clauses_and_their_texts" 1552) none (.ref 1127) .none), #[]⟩ : Obj)) ::
  (nat_lit 1134, (⟨(.type "code"), none, .fields #[.str "_law_line" 1643, .str "_law_line" 1644, .str "/claim/cut.py" 1645, .int 605 0, .int 1 0, .int 0 0, .int 0 0, .int 3 0, .ref 1129, .bool true, .int 181 0, .ref 1130, .none, .ref 1131, .ref 1132, .ref 1133, .int 1648 0, .int 605 0, .str "/claim/cut.py" 1649], #[]⟩ : Obj)) ::
  (nat_lit 1135, (⟨(.type "function"), none, .func (PySem.W.fnOf "_law_line" "_law_line" (defArgs sLine) (defBody sLine) (defScope sLine) .none .none .none (.str "law_openranges_k11_clauses_and_their_texts" 1552) none (.ref 1134) .none), #[]⟩ : Obj)) ::
  (nat_lit 1141, (⟨(.type "code"), none, .fields #[.str "_law_line_text" 1651, .str "_law_line_text" 1652, .str "/claim/cut.py" 1653, .int 608 0, .int 1 0, .int 0 0, .int 0 0, .int 3 0, .ref 1136, .bool true, .int 181 0, .ref 1137, .none, .ref 1138, .ref 1139, .ref 1140, .int 1658 0, .int 608 0, .str "/claim/cut.py" 1659], #[]⟩ : Obj)) ::
  (nat_lit 1142, (⟨(.type "function"), none, .func (PySem.W.fnOf "_law_line_text" "_law_line_text" (defArgs sLTx) (defBody sLTx) (defScope sLTx) .none .none .none (.str "law_openranges_k11_clauses_and_their_texts" 1552) none (.ref 1141) .none), #[]⟩ : Obj)) ::
  (nat_lit 1148, (⟨(.type "code"), none, .fields #[.str "_law_spec" 1661, .str "_law_spec" 1662, .str "/claim/cut.py" 1663, .int 618 0, .int 4 0, .int 0 0, .int 0 0, .int 3 0, .ref 1143, .bool true, .int 181 0, .ref 1144, .none, .ref 1145, .ref 1146, .ref 1147, .int 1672 0, .int 618 0, .str "/claim/cut.py" 1673], #[]⟩ : Obj)) ::
  (nat_lit 1149, (⟨(.type "function"), none, .func (PySem.W.fnOf "_law_spec" "_law_spec" (defArgs sSpec) (defBody sSpec) (defScope sSpec) .none .none .none (.str "law_openranges_k11_clauses_and_their_texts" 1552) none (.ref 1148) .none), #[]⟩ : Obj)) ::
  (nat_lit 1155, (⟨(.type "code"), none, .fields #[.str "_law_clause" 1675, .str "_law_clause" 1676, .str "/claim/cut.py" 1677, .int 630 0, .int 1 0, .int 0 0, .int 0 0, .int 3 0, .ref 1150, .bool true, .int 181 0, .ref 1151, .none, .ref 1152, .ref 1153, .ref 1154, .int 1682 0, .int 630 0, .str "/claim/cut.py" 1683], #[]⟩ : Obj)) ::
  (nat_lit 1156, (⟨(.type "function"), none, .func (PySem.W.fnOf "_law_clause" "_law_clause" (defArgs sClause) (defBody sClause) (defScope sClause) .none .none .none (.str "law_openranges_k11_clauses_and_their_texts" 1552) none (.ref 1155) .none), #[]⟩ : Obj)) ::
  (nat_lit 1162, (⟨(.type "code"), none, .fields #[.str "_law_parts" 1685, .str "_law_parts" 1686, .str "/claim/cut.py" 1687, .int 645 0, .int 1 0, .int 0 0, .int 0 0, .int 3 0, .ref 1157, .bool true, .int 181 0, .ref 1158, .none, .ref 1159, .ref 1160, .ref 1161, .int 1691 0, .int 645 0, .str "/claim/cut.py" 1692], #[]⟩ : Obj)) ::
  (nat_lit 1163, (⟨(.type "function"), none, .func (PySem.W.fnOf "_law_parts" "_law_parts" (defArgs sParts) (defBody sParts) (defScope sParts) .none .none .none (.str "law_openranges_k11_clauses_and_their_texts" 1552) none (.ref 1162) .none), #[]⟩ : Obj)) ::
  (nat_lit 1169, (⟨(.type "code"), none, .fields #[.str "_law_clause_text" 1694, .str "_law_clause_text" 1695, .str "/claim/cut.py" 1696, .int 656 0, .int 1 0, .int 0 0, .int 0 0, .int 3 0, .ref 1164, .bool true, .int 181 0, .ref 1165, .none, .ref 1166, .ref 1167, .ref 1168, .int 1701 0, .int 656 0, .str "/claim/cut.py" 1702], #[]⟩ : Obj)) ::
  (nat_lit 1170, (⟨(.type "function"), none, .func (PySem.W.fnOf "_law_clause_text" "_law_clause_text" (defArgs sCText) (defBody sCText) (defScope sCText) .none .none .none (.str "law_openranges_k11_clauses_and_their_texts" 1552) none (.ref 1169) .none), #[]⟩ : Obj)) ::
  (nat_lit 1176, (⟨(.type "code"), none, .fields #[.str "_law_with_numbers" 1704, .str "_law_with_numbers" 1705, .str "/claim/cut.py" 1706, .int 669 0, .int 3 0, .int 0 0, .int 0 0, .int 3 0, .ref 1171, .bool true, .int 181 0, .ref 1172, .none, .ref 1173, .ref 1174, .ref 1175, .int 1710 0, .int 669 0, .str "/claim/cut.py" 1711], #[]⟩ : Obj)) ::
  (nat_lit 1177, (⟨(.type "function"), none, .func (PySem.W.fnOf "_law_with_numbers" "_law_with_numbers" (defArgs sWithN) (defBody sWithN) (defScope sWithN) .none .none .none (.str "law_openranges_k11_clauses_and_their_texts" 1552) none (.ref 1176) .none), #[]⟩ : Obj)) ::
  (nat_lit 1183, (⟨(.type "code"), none, .fields #[.str "_law_numbers" 1713, .str "_law_numbers" 1714, .str "/claim/cut.py" 1715, .int 673 0, .int 1 0, .int 0 0, .int 0 0, .int 3 0, .ref 1178, .bool true, .int 181 0, .ref 1179, .none, .ref 1180, .ref 1181, .ref 1182, .int 1717 0, .int 673 0, .str "/claim/cut.py" 1718], #[]⟩ : Obj)) ::
  (nat_lit 1184, (⟨(.type "function"), none, .func (PySem.W.fnOf "_law_numbers" "_law_numbers" (defArgs sNumbers) (defBody sNumbers) (defScope sNumbers) .none .none .none (.str "law_openranges_k11_clauses_and_their_texts" 1552) none (.ref 1183) .none), #[]⟩ : Obj)) ::
  (nat_lit 1190, (⟨(.type "code"), none, .fields #[.str "_law_is_of_numbers" 1720, .str "_law_is_of_numbers" 1721, .str "/claim/cut.py" 1722, .int 675 0, .int 1 0, .int 0 0, .int 0 0, .int 3 0, .ref 1185, .bool true, .int 181 0, .ref 1186, .none, .ref 1187, .ref 1188, .ref 1189, .int 1724 0, .int 675 0, .str "/claim/cut.py" 1725], #[]⟩ : Obj)) ::
  (nat_lit 1191, (⟨(.type "function"), none, .func (PySem.W.fnOf "_law_is_of_numbers" "_law_is_of_numbers" (defArgs sOfNum) (defBody sOfNum) (defScope sOfNum) .none .none .none (.str "law_openranges_k11_clauses_and_their_texts" 1552) none (.ref 1190) .none), #[]⟩ : Obj)) ::
  (nat_lit 1195, (⟨(.type "code"), none, .fields #[.str "_law_otherwise" 1727, .str "_law_otherwise" 1728, .str "/claim/cut.py" 1729, .int 677 0, .int 2 0, .int 0 0, .int 0 0, .int 3 0, .ref 1192, .bool true, .int 181 0, .ref 1193, .none, .none, .none, .ref 1194, .int 1730 0, .int 677 0, .str "/claim/cut.py" 1731], #[]⟩ : Obj)) ::
  (nat_lit 1196, (⟨(.type "function"), none, .func (PySem.W.fnOf "_law_otherwise" "_law_otherwise" (defArgs sOther) (defBody sOther) (defScope sOther) .none .none .none (.str "law_openranges_k11_clauses_and_their_texts" 1552) none (.ref 1195) .none), #[]⟩ : Obj)) ::
  (nat_lit 1202, (⟨(.type "code"), none, .fields #[.str "_law_functions" 1733, .str "_law_functions" 1734, .str "/claim/cut.py" 1735, .int 696 0, .int 1 0, .int 0 0, .int 0 0, .int 3 0, .ref 1197, .bool true, .int 181 0, .ref 1198, .none, .ref 1199, .ref 1200, .ref 1201, .int 1737 0, .int 696 0, .str "/claim/cut.py" 1738], #[]⟩ : Obj)) ::
  (nat_lit 1203, (⟨(.type "function"), none, .func (PySem.W.fnOf "_law_functions" "_law_functions" (defArgs sFuncs) (defBody sFuncs) (defScope sFuncs) .none .none .none (.str "law_openranges_k11_clauses_and_their_texts" 1552) none (.ref 1202) .none), #[]⟩ : Obj)) ::
  (nat_lit 1209, (⟨(.type "code"), none, .fields #[.str "law" 1740, .str "law" 1741, .str "/claim/cut.py" 1742, .int 700 0, .int 1 0, .int 0 0, .int 0 0, .int 3 0, .ref 1204, .bool true, .int 181 0, .ref 1205, .none, .ref 1206, .ref 1207, .ref 1208, .int 1752 0, .int 700 0, .str "/claim/cut.py" 1753], #[]⟩ : Obj)) ::
  (nat_lit 1210, (⟨(.type "function"), none, .func (PySem.W.fnOf "law" "law" (defArgs sLaw) (defBody sLaw) (defScope sLaw) .none .none .none (.str "law_openranges_k11_clauses_and_their_texts" 1552) none (.ref 1209) .none), #[]⟩ : Obj)) :: []
end OR

namespace OR
open PySem PySem.Spec PyProof.Rows L2
set_option maxHeartbeats 0 in
theorem all_mk {l : PySem.W.OpenLaw} {w : World} {K : PySem.W.Frag} {h : Heap} {mg : Str → Option Value} {fa CP CL c0 c1 c2 c3 c4 c5 c6 : Addr} (X : K.In h) (G : h.Ns mainGlobals mg) (hfa : mg "law" = some (.ref fa)) (L : PAt K CP) (LL : LAt K CL) (Z : ZAt K)
    (z_str : PySem.W.nsIn K mainGlobals "str" = some none) (z_divmod : PySem.W.nsIn K mainGlobals "divmod" = some none) (z_all : PySem.W.nsIn K mainGlobals "all" = some none) (lp : ∃ t, mg "LAST_PLACE" = some (.int lastP t)) (bk : ∃ t, mg "_BLOCK" = some (.int (10 ^ 60) t))
    (let_ : ∃ t, PySem.W.nsIn K mainGlobals "_LETTERS" = some (some (.str "abcdefghijklmnopqrstuvwxyz" t))) (most : ∃ t, PySem.W.nsIn K mainGlobals "_MOST_LETTERS" = some (some (.int 8 t))) (tS : TpAt K "SIGNS" ["<=", ">=", "="]) (tW : TpAt K "WAYS" ["up", "down"])
    (k0 : CAt K c0 "Answers" ["kind", "function", "places"]) (k1 : CAt K c1 "Refuses" ["kind", "function", "places"]) (k2 : CAt K c2 "Needs" ["kind", "function", "places", "other"]) (k3 : CAt K c3 "Spreads" ["kind", "function", "places", "way"]) (k4 : CAt K c4 "Bound" ["kind", "function", "places", "sign", "slope", "height"]) (k5 : CAt K c5 "Pair" ["kind", "function", "places", "sign", "other", "slope", "height"]) (k6 : CAt K c6 "Step" ["kind", "function", "places", "sign", "height"]) (k7 : K7 K c0 c1 c2 c3 c4 c5 c6)
    (mI : MtD K CP "__init__" "Places.__init__" sPlInit) (fDI : FnAt K "is_integer" sIsInt) (fDP : FnAt K "is_place" sIsPlace) (fDS : FnAt K "_is_stretch" sIsStretch) (fDJ : FnAt K "_joined" sJoined) (fDC : FnAt K "_counts_before" sCounts) (hEQP : MtAt K CP "__eq__" "__eq__" "Places.__eq__" sPlEq) (fDST : FnAt K "_stretch_text" sSText) (hTEP : MtAt K CP "text" "text" "Places.text" sPlText) (mIL : MtAt K CL "__init__" "__init__" "Line.__init__" sLInit) (fDDec : FnAt K "decimal" sDec) (fDRi : FnAt K "_rising_text" sRise) (hTEL : MtAt K CL "text" "text" "Line.text" sLText) (hEQL : MtAt K CL "__eq__" "__eq__" "Line.__eq__" sLEq) (fIW : FnAt K "is_word" sIsWord) (fCW : FnAt K "check_word" sChkW) (fCT : FnAt K "check_two_words" sChkTwo) (fCS : FnAt K "check_sign" sChkSign) (fBG : FnAt K "_beginning" sBegin) (fAD : FnAt K "_added_text" sAdded) (hmL4 : MtAt K c4 "line" "line" "Bound.line" sBouLine) (hmL5 : MtAt K c5 "line" "line" "Pair.line" sPaiLine) (mI0 : MtAt K c0 "__init__" "__init__" "Answers.__init__" sAnsInit) (hmE0 : MtAt K c0 "__eq__" "__eq__" "Answers.__eq__" sAnsEq) (hmF0 : MtAt K c0 "functions_told" "functions_told" "Answers.functions_told" sAnsTold) (hmX0 : MtAt K c0 "text" "text" "Answers.text" sAnsTxt) (mI1 : MtAt K c1 "__init__" "__init__" "Refuses.__init__" sRefInit) (hmE1 : MtAt K c1 "__eq__" "__eq__" "Refuses.__eq__" sRefEq) (hmF1 : MtAt K c1 "functions_told" "functions_told" "Refuses.functions_told" sRefTold) (hmX1 : MtAt K c1 "text" "text" "Refuses.text" sRefTxt) (mI2 : MtAt K c2 "__init__" "__init__" "Needs.__init__" sNeeInit) (hmE2 : MtAt K c2 "__eq__" "__eq__" "Needs.__eq__" sNeeEq) (hmF2 : MtAt K c2 "functions_told" "functions_told" "Needs.functions_told" sNeeTold) (hmX2 : MtAt K c2 "text" "text" "Needs.text" sNeeTxt) (mI3 : MtAt K c3 "__init__" "__init__" "Spreads.__init__" sSprInit) (hmE3 : MtAt K c3 "__eq__" "__eq__" "Spreads.__eq__" sSprEq) (hmF3 : MtAt K c3 "functions_told" "functions_told" "Spreads.functions_told" sSprTold) (hmX3 : MtAt K c3 "text" "text" "Spreads.text" sSprTxt) (mI4 : MtAt K c4 "__init__" "__init__" "Bound.__init__" sBouInit) (hmE4 : MtAt K c4 "__eq__" "__eq__" "Bound.__eq__" sBouEq) (hmF4 : MtAt K c4 "functions_told" "functions_told" "Bound.functions_told" sBouTold) (hmX4 : MtAt K c4 "text" "text" "Bound.text" sBouTxt) (mI5 : MtAt K c5 "__init__" "__init__" "Pair.__init__" sPaiInit) (hmE5 : MtAt K c5 "__eq__" "__eq__" "Pair.__eq__" sPaiEq) (hmF5 : MtAt K c5 "functions_told" "functions_told" "Pair.functions_told" sPaiTold) (hmX5 : MtAt K c5 "text" "text" "Pair.text" sPaiTxt) (mI6 : MtAt K c6 "__init__" "__init__" "Step.__init__" sSteInit) (hmE6 : MtAt K c6 "__eq__" "__eq__" "Step.__eq__" sSteEq) (hmF6 : MtAt K c6 "functions_told" "functions_told" "Step.functions_told" sSteTold) (hmX6 : MtAt K c6 "text" "text" "Step.text" sSteTxt) (fDPen : FnAt K "_law_pen" sPen) (fDDraw : FnAt K "_law_draw" sDraw) (fDPick : FnAt K "_law_pick" sPick) (fDShuf : FnAt K "_law_shuffled" sShuffled) (fDWords : FnAt K "_law_words" sWords) (fDSpot : FnAt K "_law_spot" sSpot) (fDDrawn : FnAt K "_law_drawn" sDrawn) (fDMerg : FnAt K "_law_merged" sMerged) (fDTO : FnAt K "_law_text_of" sTextOf) (fDWhole : FnAt K "_law_whole" sWhole) (fDLine : FnAt K "_law_line" sLine) (fDLTx : FnAt K "_law_line_text" sLTx) (fDSpec : FnAt K "_law_spec" sSpec) (fDCla : FnAt K "_law_clause" sClause) (fDPar : FnAt K "_law_parts" sParts) (fDCT : FnAt K "_law_clause_text" sCText) (fDWN : FnAt K "_law_with_numbers" sWithN) (fDNu : FnAt K "_law_numbers" sNumbers) (fDON : FnAt K "_law_is_of_numbers" sOfNum) (fDOt : FnAt K "_law_otherwise" sOther) (fDFu : FnAt K "_law_functions" sFuncs) (fLaw : FnAt K "law" sLaw) :
    ∃ fd : FuncData, (∀ (s : Shared) (v : Value), BindsTo s fd ⟨[v], []⟩ [("_law_script", v)]) ∧ ∀ base : Heap, K.In base → base.Ns mainGlobals mg → FnOk l.prog w K mg base CX0 7 fa fd ["_law_script"] (spLaw K) := by
  obtain ⟨f, fd, F, e⟩ := fLaw.ex
  have e := hfa.symm.trans (PySem.W.mg_of X G e)
  cases e
  refine ⟨fd, fun s v => ?_, fun base _ _ => ?_⟩
  · obtain ⟨oc, od, kV, doc, pm, an, cdv, ct, osl, rfl, _⟩ := F.ex
    exact .of_eq rfl
  have PT : PTxt K mg CP := L.txt X G Z lp
  have LT : LTxt K mg CL := LL.txt X G Z
  have none : ∀ {x : Str}, PySem.W.nsIn K mainGlobals x = some none → mg x = none := fun z => PySem.W.mg_none_of X G z
  have BL : Bl mg := ⟨none Z.int, none Z.len, none Z.abs, none Z.list⟩
  have B : Bd mg := ⟨none Z.range, none Z.min, none Z.max, none Z.int, none Z.len, none Z.list, none Z.set, none Z.sorted⟩
  have ST : STxt mg := ⟨none z_str, none Z.int, none Z.len, none Z.enum, none Z.isi, lp⟩
  have TT : TTxt mg := ⟨none Z.abs, none z_str, none z_divmod, bk⟩
  obtain ⟨ts, gS, hS⟩ := tS.ex
  obtain ⟨tw, gW, hW⟩ := tW.ex
  have WT : WTxt K mg ts tw := ⟨none Z.isi, none z_str, none Z.len, none z_all, let_.imp fun t e => PySem.W.mg_of X G e, most.imp fun t e => PySem.W.mg_of X G e, PySem.W.mg_of X G gS, PySem.W.mg_of X G gW, hS, hW⟩
  let C : Nat → Addr := cf c0 c1 c2 c3 c4 c5 c6
  have T : CTxt K mg C := ⟨all7 ⟨k0.pg, k0.hd, k0.po, k0.sa⟩ ⟨k1.pg, k1.hd, k1.po, k1.sa⟩ ⟨k2.pg, k2.hd, k2.po, k2.sa⟩ ⟨k3.pg, k3.hd, k3.po, k3.sa⟩ ⟨k4.pg, k4.hd, k4.po, k4.sa⟩ ⟨k5.pg, k5.hd, k5.po, k5.sa⟩ ⟨k6.pg, k6.hd, k6.po, k6.sa⟩, all7 k0.no k1.no k2.no k3.no k4.no k5.no k6.no, all7 ⟨k0.ca, k0.cn, k0.ct, k0.cm⟩ ⟨k1.ca, k1.cn, k1.ct, k1.cm⟩ ⟨k2.ca, k2.cn, k2.ct, k2.cm⟩ ⟨k3.ca, k3.cn, k3.ct, k3.cm⟩ ⟨k4.ca, k4.cn, k4.ct, k4.cm⟩ ⟨k5.ca, k5.cn, k5.ct, k5.cm⟩ ⟨k6.ca, k6.cn, k6.ct, k6.cm⟩, k7.kk, all7 (PySem.W.mg_of X G k0.aC) (PySem.W.mg_of X G k1.aC) (PySem.W.mg_of X G k2.aC) (PySem.W.mg_of X G k3.aC) (PySem.W.mg_of X G k4.aC) (PySem.W.mg_of X G k5.aC) (PySem.W.mg_of X G k6.aC), all7 k0.sf k1.sf k2.sf k3.sf k4.sf k5.sf k6.sf, all7 k0.ne k1.ne k2.ne k3.ne k4.ne k5.ne k6.ne, all7 k0.kS k1.kS k2.kS k3.kS k4.kS k5.kS k6.kS, all7 k0.kT k1.kT k2.kT k3.kT k4.kT k5.kT k6.kT⟩
  have NFK : NF K C := ⟨k7.cc, all7 (nf_of k0.nS) (nf_of k1.nS) (nf_of k2.nS) (nf_of k3.nS) (nf_of k4.nS) (nf_of k5.nS) (nf_of k6.nS), all7 (nf_of k0.nT) (nf_of k1.nT) (nf_of k2.nT) (nf_of k3.nT) (nf_of k4.nT) (nf_of k5.nT) (nf_of k6.nT)⟩
  have DI : Cl l.prog w K mg base 1 "is_integer" ["value"] (spIsIntG K) := cl_of fDI X G (fun _ _ _ _ _ _ us hl => match us, hl with | [_], _ => rfl) fun f fd F => ok_isintG F PT
  have DP : Cl l.prog w K mg base 2 "is_place" ["value"] (spIsPlace K) := cl_of fDP X G (fun _ _ _ _ _ _ us hl => match us, hl with | [_], _ => rfl) fun f fd F => ok_isplace F PT DI
  have DS : Cl l.prog w K mg base 3 "_is_stretch" ["value"] spIsStretchP := cl_of fDS X G (fun _ _ _ _ _ _ us hl => match us, hl with | [_], _ => rfl) fun f fd F => ok_isstretch F PT DP
  have DJ : Cl l.prog w K mg base 1 "_joined" ["stretches"] (spJoined K) := cl_of fDJ X G (fun _ _ _ _ _ _ us hl => match us, hl with | [_], _ => rfl) fun f fd F => ok_joined F PT
  have DC : Cl l.prog w K mg base 1 "_counts_before" ["stretches"] (spCounts K) := cl_of fDC X G (fun _ _ _ _ _ _ us hl => match us, hl with | [_], _ => rfl) fun f fd F => ok_counts F PT
  have PM : PMk' l.prog w K mg base CP := pmk_of PT L mI DS DJ DC
  have EQP : Md l.prog w K mg base 1 CP "__eq__" (spPlEq K CP) := md_of hEQP (ps := ["self", "other"]) (fun _ _ _ _ _ _ us hl => match us, hl with | [_, _], _ => rfl) fun f fd F => ok_pleq F PT
  have DST : Cl l.prog w K mg base 1 "_stretch_text" ["first", "last"] spSText := cl_of fDST X G (fun _ _ _ _ _ _ us hl => match us, hl with | [_, _], _ => rfl) fun f fd F => ok_stext F ST
  have TEP : Mt l.prog w K mg base 2 CP "text" ["self"] (spPText CP) := mt_of hTEP (ps := ["self"]) (fun _ _ _ _ _ _ us hl => match us, hl with | [_], _ => rfl) fun f fd F => ok_ptext F PT DST
  have LM : LMk l.prog w K mg base CL := lmk_of LT LL mIL
  have DDec : Cl l.prog w K mg base 1 "decimal" ["number"] spDec := cl_of fDDec X G (fun _ _ _ _ _ _ us hl => match us, hl with | [_], _ => rfl) fun f fd F => ok_dec F TT
  have DRi : Cl l.prog w K mg base 2 "_rising_text" ["slope"] spRise := cl_of fDRi X G (fun _ _ _ _ _ _ us hl => match us, hl with | [_], _ => rfl) fun f fd F => ok_rise F DDec
  have TEL : Mt l.prog w K mg base 3 CL "text" ["self"] (spText CL) := mt_of hTEL (ps := ["self"]) (fun _ _ _ _ _ _ us hl => match us, hl with | [_], _ => rfl) fun f fd F => ok_text F LT TT DDec DRi
  have EQL : Md l.prog w K mg base 1 CL "__eq__" (spLEq K CL) := md_of hEQL (ps := ["self", "other"]) (fun _ _ _ _ _ _ us hl => match us, hl with | [_, _], _ => rfl) fun f fd F => ok_leq F LT
  have IW : Cl l.prog w K mg base 1 "is_word" ["value"] spIsWord := cl_of fIW X G (fun _ _ _ _ _ _ us hl => match us, hl with | [_], _ => rfl) fun f fd F => ok_isword F WT
  have CW : Cl l.prog w K mg base 2 "check_word" ["value"] spChkW := cl_of fCW X G (fun _ _ _ _ _ _ us hl => match us, hl with | [_], _ => rfl) fun f fd F => ok_chkw F IW
  have CT : Cl l.prog w K mg base 3 "check_two_words" ["function", "other"] spChkTwo := cl_of fCT X G (fun _ _ _ _ _ _ us hl => match us, hl with | [_, _], _ => rfl) fun f fd F => ok_chktwo F CW
  have CS : Cl l.prog w K mg base 1 "check_sign" ["value", "allowed"] (spChkS K) := cl_of fCS X G (fun _ _ _ _ _ _ us hl => match us, hl with | [_, _], _ => rfl) fun f fd F => ok_chks F
  have BG : Cl l.prog w K mg base 3 "_beginning" ["clause"] (spBegin CP C) := cl_of fBG X G (fun _ _ _ _ _ _ us hl => match us, hl with | [_], _ => rfl) fun f fd F => ok_begin F T PT TEP
  have AD : Cl l.prog w K mg base 4 "_added_text" ["line"] (spAdded CL) := cl_of fAD X G (fun _ _ _ _ _ _ us hl => match us, hl with | [_], _ => rfl) fun f fd F => ok_added F LT TEL
  have mL4 : Mt l.prog w K mg base 3 c4 "line" ["self"] (spCLine CP CL C 4) := mt_of hmL4 (ps := ["self"]) (fun _ _ _ _ _ _ us hl => match us, hl with | [_], _ => rfl) fun f fd F => ok_BouL F T LM
  have mL5 : Mt l.prog w K mg base 3 c5 "line" ["self"] (spCLine CP CL C 5) := mt_of hmL5 (ps := ["self"]) (fun _ _ _ _ _ _ us hl => match us, hl with | [_], _ => rfl) fun f fd F => ok_PaiL F T LM
  have M0 : CMk l.prog w K mg base C 0 ["self", "function", "places"] := ⟨by
    obtain ⟨f, fd, F, a, b, c⟩ := mI0.ex
    exact ⟨f, fd, ⟨k0.mks, a, b, k0.kc⟩, ok_AnsI F T CW, F.binds (fun _ _ _ _ _ _ us hl => match us, hl with | [_, _, _], _ => rfl)⟩, T.mgC 0 (by decide)⟩
  have mE0 : Md l.prog w K mg base 2 c0 "__eq__" (spCEq K CP C 0) := md_of hmE0 (ps := ["self", "other"]) (fun _ _ _ _ _ _ us hl => match us, hl with | [_, _], _ => rfl) fun f fd F => ok_AnsE F T PT EQP
  have mF0 : Mt l.prog w K mg base 1 c0 "functions_told" ["self"] (spCTold CP C 0) := mt_of hmF0 (ps := ["self"]) (fun _ _ _ _ _ _ us hl => match us, hl with | [_], _ => rfl) fun f fd F => ok_AnsF F T
  have mX0 : Mt l.prog w K mg base 5 c0 "text" ["self"] (spCText CP C 0) := mt_of hmX0 (ps := ["self"]) (fun _ _ _ _ _ _ us hl => match us, hl with | [_], _ => rfl) fun f fd F => ok_AnsX F T BG
  have M1 : CMk l.prog w K mg base C 1 ["self", "function", "places"] := ⟨by
    obtain ⟨f, fd, F, a, b, c⟩ := mI1.ex
    exact ⟨f, fd, ⟨k1.mks, a, b, k1.kc⟩, ok_RefI F T CW, F.binds (fun _ _ _ _ _ _ us hl => match us, hl with | [_, _, _], _ => rfl)⟩, T.mgC 1 (by decide)⟩
  have mE1 : Md l.prog w K mg base 2 c1 "__eq__" (spCEq K CP C 1) := md_of hmE1 (ps := ["self", "other"]) (fun _ _ _ _ _ _ us hl => match us, hl with | [_, _], _ => rfl) fun f fd F => ok_RefE F T PT EQP
  have mF1 : Mt l.prog w K mg base 1 c1 "functions_told" ["self"] (spCTold CP C 1) := mt_of hmF1 (ps := ["self"]) (fun _ _ _ _ _ _ us hl => match us, hl with | [_], _ => rfl) fun f fd F => ok_RefF F T
  have mX1 : Mt l.prog w K mg base 5 c1 "text" ["self"] (spCText CP C 1) := mt_of hmX1 (ps := ["self"]) (fun _ _ _ _ _ _ us hl => match us, hl with | [_], _ => rfl) fun f fd F => ok_RefX F T BG
  have M2 : CMk l.prog w K mg base C 2 ["self", "function", "places", "other"] := ⟨by
    obtain ⟨f, fd, F, a, b, c⟩ := mI2.ex
    exact ⟨f, fd, ⟨k2.mks, a, b, k2.kc⟩, ok_NeeI F T CT, F.binds (fun _ _ _ _ _ _ us hl => match us, hl with | [_, _, _, _], _ => rfl)⟩, T.mgC 2 (by decide)⟩
  have mE2 : Md l.prog w K mg base 2 c2 "__eq__" (spCEq K CP C 2) := md_of hmE2 (ps := ["self", "other"]) (fun _ _ _ _ _ _ us hl => match us, hl with | [_, _], _ => rfl) fun f fd F => ok_NeeE F T PT EQP
  have mF2 : Mt l.prog w K mg base 1 c2 "functions_told" ["self"] (spCTold CP C 2) := mt_of hmF2 (ps := ["self"]) (fun _ _ _ _ _ _ us hl => match us, hl with | [_], _ => rfl) fun f fd F => ok_NeeF F T
  have mX2 : Mt l.prog w K mg base 5 c2 "text" ["self"] (spCText CP C 2) := mt_of hmX2 (ps := ["self"]) (fun _ _ _ _ _ _ us hl => match us, hl with | [_], _ => rfl) fun f fd F => ok_NeeX F T BG
  have M3 : CMk l.prog w K mg base C 3 ["self", "function", "places", "way"] := ⟨by
    obtain ⟨f, fd, F, a, b, c⟩ := mI3.ex
    exact ⟨f, fd, ⟨k3.mks, a, b, k3.kc⟩, ok_SprI F T CW CS WT, F.binds (fun _ _ _ _ _ _ us hl => match us, hl with | [_, _, _, _], _ => rfl)⟩, T.mgC 3 (by decide)⟩
  have mE3 : Md l.prog w K mg base 2 c3 "__eq__" (spCEq K CP C 3) := md_of hmE3 (ps := ["self", "other"]) (fun _ _ _ _ _ _ us hl => match us, hl with | [_, _], _ => rfl) fun f fd F => ok_SprE F T PT EQP
  have mF3 : Mt l.prog w K mg base 1 c3 "functions_told" ["self"] (spCTold CP C 3) := mt_of hmF3 (ps := ["self"]) (fun _ _ _ _ _ _ us hl => match us, hl with | [_], _ => rfl) fun f fd F => ok_SprF F T
  have mX3 : Mt l.prog w K mg base 5 c3 "text" ["self"] (spCText CP C 3) := mt_of hmX3 (ps := ["self"]) (fun _ _ _ _ _ _ us hl => match us, hl with | [_], _ => rfl) fun f fd F => ok_SprX F T BG
  have M4 : CMk l.prog w K mg base C 4 ["self", "function", "places", "sign", "slope", "height"] := ⟨by
    obtain ⟨f, fd, F, a, b, c⟩ := mI4.ex
    exact ⟨f, fd, ⟨k4.mks, a, b, k4.kc⟩, ok_BouI F T CW CS WT, F.binds (fun _ _ _ _ _ _ us hl => match us, hl with | [_, _, _, _, _, _], _ => rfl)⟩, T.mgC 4 (by decide)⟩
  have mE4 : Md l.prog w K mg base 2 c4 "__eq__" (spCEq K CP C 4) := md_of hmE4 (ps := ["self", "other"]) (fun _ _ _ _ _ _ us hl => match us, hl with | [_, _], _ => rfl) fun f fd F => ok_BouE F T PT EQP
  have mF4 : Mt l.prog w K mg base 1 c4 "functions_told" ["self"] (spCTold CP C 4) := mt_of hmF4 (ps := ["self"]) (fun _ _ _ _ _ _ us hl => match us, hl with | [_], _ => rfl) fun f fd F => ok_BouF F T
  have mX4 : Mt l.prog w K mg base 5 c4 "text" ["self"] (spCText CP C 4) := mt_of hmX4 (ps := ["self"]) (fun _ _ _ _ _ _ us hl => match us, hl with | [_], _ => rfl) fun f fd F => ok_BouX F T BG mL4 LT TEL
  have M5 : CMk l.prog w K mg base C 5 ["self", "function", "places", "sign", "other", "slope", "height"] := ⟨by
    obtain ⟨f, fd, F, a, b, c⟩ := mI5.ex
    exact ⟨f, fd, ⟨k5.mks, a, b, k5.kc⟩, ok_PaiI F T CT CS WT, F.binds (fun _ _ _ _ _ _ us hl => match us, hl with | [_, _, _, _, _, _, _], _ => rfl)⟩, T.mgC 5 (by decide)⟩
  have mE5 : Md l.prog w K mg base 2 c5 "__eq__" (spCEq K CP C 5) := md_of hmE5 (ps := ["self", "other"]) (fun _ _ _ _ _ _ us hl => match us, hl with | [_, _], _ => rfl) fun f fd F => ok_PaiE F T PT EQP
  have mF5 : Mt l.prog w K mg base 1 c5 "functions_told" ["self"] (spCTold CP C 5) := mt_of hmF5 (ps := ["self"]) (fun _ _ _ _ _ _ us hl => match us, hl with | [_], _ => rfl) fun f fd F => ok_PaiF F T
  have mX5 : Mt l.prog w K mg base 5 c5 "text" ["self"] (spCText CP C 5) := mt_of hmX5 (ps := ["self"]) (fun _ _ _ _ _ _ us hl => match us, hl with | [_], _ => rfl) fun f fd F => ok_PaiX F T BG mL5 AD
  have M6 : CMk l.prog w K mg base C 6 ["self", "function", "places", "sign", "height"] := ⟨by
    obtain ⟨f, fd, F, a, b, c⟩ := mI6.ex
    exact ⟨f, fd, ⟨k6.mks, a, b, k6.kc⟩, ok_SteI F T CW CS WT, F.binds (fun _ _ _ _ _ _ us hl => match us, hl with | [_, _, _, _, _], _ => rfl)⟩, T.mgC 6 (by decide)⟩
  have mE6 : Md l.prog w K mg base 2 c6 "__eq__" (spCEq K CP C 6) := md_of hmE6 (ps := ["self", "other"]) (fun _ _ _ _ _ _ us hl => match us, hl with | [_, _], _ => rfl) fun f fd F => ok_SteE F T PT EQP
  have mF6 : Mt l.prog w K mg base 1 c6 "functions_told" ["self"] (spCTold CP C 6) := mt_of hmF6 (ps := ["self"]) (fun _ _ _ _ _ _ us hl => match us, hl with | [_], _ => rfl) fun f fd F => ok_SteF F T
  have mX6 : Mt l.prog w K mg base 5 c6 "text" ["self"] (spCText CP C 6) := mt_of hmX6 (ps := ["self"]) (fun _ _ _ _ _ _ us hl => match us, hl with | [_], _ => rfl) fun f fd F => ok_SteX F T BG DDec
  have DPen : Cl l.prog w K mg base 1 "_law_pen" ["_law_script"] (spPen K) := cl_of fDPen X G (fun _ _ _ _ _ _ us hl => match us, hl with | [_], _ => rfl) fun f fd F => ok_pen F BL
  have DDraw : Cl l.prog w K mg base 1 "_law_draw" ["_law_pen_here", "_law_many"] spDraw := cl_of fDDraw X G (fun _ _ _ _ _ _ us hl => match us, hl with | [_, _], _ => rfl) fun f fd F => ok_draw F BL
  have DPick : Cl l.prog w K mg base 2 "_law_pick" ["_law_pen_here", "_law_items"] (spPick K) := cl_of fDPick X G (fun _ _ _ _ _ _ us hl => match us, hl with | [_, _], _ => rfl) fun f fd F => ok_pick F BL DDraw
  have DPickS : Cl l.prog w K mg base 2 "_law_pick" ["_law_pen_here", "_law_items"] spPickS := cl_of fDPick X G (fun _ _ _ _ _ _ us hl => match us, hl with | [_, _], _ => rfl) fun f fd F => ok_pickS F BL DDraw
  have DShuf : Cl l.prog w K mg base 2 "_law_shuffled" ["_law_pen_here", "_law_items"] (spShufS K) := cl_of fDShuf X G (fun _ _ _ _ _ _ us hl => match us, hl with | [_, _], _ => rfl) fun f fd F => ok_shufs F B DDraw
  have DWords : Cl l.prog w K mg base 3 "_law_words" ["_law_pen_here", "_law_many"] spWords := cl_of fDWords X G (fun _ _ _ _ _ _ us hl => match us, hl with | [_, _], _ => rfl) fun f fd F => ok_words F B DDraw DPick DPickS
  have DSpot : Cl l.prog w K mg base 2 "_law_spot" ["_law_pen_here"] spSpot := cl_of fDSpot X G (fun _ _ _ _ _ _ us hl => match us, hl with | [_], _ => rfl) fun f fd F => ok_spot F DDraw
  have DDrawn : Cl l.prog w K mg base 3 "_law_drawn" ["_law_pen_here", "_law_most"] spDrawn := cl_of fDDrawn X G (fun _ _ _ _ _ _ us hl => match us, hl with | [_, _], _ => rfl) fun f fd F => ok_drawn F B DDraw DPick DSpot
  have DMerg : Cl l.prog w K mg base 1 "_law_merged" ["_law_rows"] (spMerged K) := cl_of fDMerg X G (fun _ _ _ _ _ _ us hl => match us, hl with | [_], _ => rfl) fun f fd F => ok_merged F B
  have DTO : Cl l.prog w K mg base 1 "_law_text_of" ["_law_rows"] (spTextOf K) := cl_of fDTO X G (fun _ _ _ _ _ _ us hl => match us, hl with | [_], _ => rfl) fun f fd F => ok_textof F (none z_str)
  have DWhole : Cl l.prog w K mg base 3 "_law_whole" ["_law_pen_here"] spWhole := cl_of fDWhole X G (fun _ _ _ _ _ _ us hl => match us, hl with | [_], _ => rfl) fun f fd F => ok_whole F DDraw DPick
  have DLine : Cl l.prog w K mg base 4 "_law_line" ["_law_pen_here"] spLine := cl_of fDLine X G (fun _ _ _ _ _ _ us hl => match us, hl with | [_], _ => rfl) fun f fd F => ok_line F DDraw DPick DWhole
  have DLTx : Cl l.prog w K mg base 1 "_law_line_text" ["_law_line_here"] spLTx := cl_of fDLTx X G (fun _ _ _ _ _ _ us hl => match us, hl with | [_], _ => rfl) fun f fd F => ok_ltx F TT
  have DSpec : Cl l.prog w K mg base 5 "_law_spec" ["_law_pen_here", "_law_words_here", "_law_rows", "_law_kind"] (spSpec K) := cl_of fDSpec X G (fun _ _ _ _ _ _ us hl => match us, hl with | [_, _, _, _], _ => rfl) fun f fd F => ok_spec F DPick DLine
  have DCla : Cl l.prog w K mg base 6 "_law_clause" ["_law_spec_here"] (spClause CP C) := cl_of fDCla X G (fun _ _ _ _ _ _ us hl => match us, hl with | [_], _ => rfl) fun f fd F => ok_clause F PM M0 M1 M2 M3 M4 M5 M6
  have DPar : Cl l.prog w K mg base 1 "_law_parts" ["_law_clause_here"] (spParts CP C) := cl_of fDPar X G (fun _ _ _ _ _ _ us hl => match us, hl with | [_], _ => rfl) fun f fd F => ok_parts F B T PT
  have DCT : Cl l.prog w K mg base 2 "_law_clause_text" ["_law_spec_here"] (spCT K) := cl_of fDCT X G (fun _ _ _ _ _ _ us hl => match us, hl with | [_], _ => rfl) fun f fd F => ok_ct F (none z_str) DTO DLTx
  have DWN : Cl l.prog w K mg base 1 "_law_with_numbers" ["_law_spec_here", "_law_slope", "_law_height"] spWithN := cl_of fDWN X G (fun _ _ _ _ _ _ us hl => match us, hl with | [_, _, _], _ => rfl) fun f fd F => ok_withn F
  have DNu : Cl l.prog w K mg base 1 "_law_numbers" ["_law_spec_here"] spNums := cl_of fDNu X G (fun _ _ _ _ _ _ us hl => match us, hl with | [_], _ => rfl) fun f fd F => ok_nums F
  have DON : Cl l.prog w K mg base 1 "_law_is_of_numbers" ["_law_spec_here"] spOfN := cl_of fDON X G (fun _ _ _ _ _ _ us hl => match us, hl with | [_], _ => rfl) fun f fd F => ok_ofn F
  have DOt : Cl l.prog w K mg base 2 "_law_otherwise" ["_law_words_here", "_law_spec_here"] (spOther K) := cl_of fDOt X G (fun _ _ _ _ _ _ us hl => match us, hl with | [_, _], _ => rfl) fun f fd F => ok_other F DMerg DON DNu DWN
  have DFu : Cl l.prog w K mg base 1 "_law_functions" ["_law_spec_here"] spFuncs := cl_of fDFu X G (fun _ _ _ _ _ _ us hl => match us, hl with | [_], _ => rfl) fun f fd F => ok_funcs F
  exact ok_law F B T PT LT NFK LM LL.ne EQL (all7 mF0 mF1 mF2 mF3 mF4 mF5 mF6) (all7 mX0 mX1 mX2 mX3 mX4 mX5 mX6) (fun i hi => by rcases hi with e | e <;> subst e <;> assumption) (all7 mE0 mE1 mE2 mE3 mE4 mE5 mE6) DPen DShuf DWords DSpec DDrawn DMerg DCla DPar DFu DCT DOt
end OR
namespace PySem.W.Fast
def tw5161442204541086503 : Nat := 0
theorem te5161442204541086503 : True := trivial
def tw3005663971145966822 : Nat := 0
theorem te3005663971145966822 : True := trivial
def tw7499870664938557365 : Nat := 0
theorem te7499870664938557365 : True := trivial
def tw9143989706270947802 : Nat := 0
theorem te9143989706270947802 : True := trivial
def tw1757320502529739730 : Nat := 0
theorem te1757320502529739730 : True := trivial
def tw6245604425772046671 : Nat := 0
theorem te6245604425772046671 : True := trivial
end PySem.W.Fast
open PySem PySem.W PyProof.Rows
set_option maxRecDepth 100000 in
set_option maxHeartbeats 0 in
theorem PySem.Challenge.cw_openranges_k11_clauses_and_their_texts_holds : PySem.Challenge.rw_openranges_k11_clauses_and_their_texts.Holds := by
  w_on; o_law; o_head (kHook OR.K11 (nat_lit 2 :: nat_lit 3 :: nat_lit 27 :: nat_lit 28 :: nat_lit 34 :: nat_lit 35 :: nat_lit 41 :: nat_lit 42 :: nat_lit 69 :: nat_lit 70 :: nat_lit 83 :: nat_lit 84 :: nat_lit 153 :: nat_lit 154 :: nat_lit 156 :: nat_lit 157 :: nat_lit 167 :: nat_lit 168 :: nat_lit 299 :: nat_lit 300 :: nat_lit 306 :: nat_lit 307 :: nat_lit 313 :: nat_lit 314 :: nat_lit 320 :: nat_lit 321 :: nat_lit 322 :: nat_lit 323 :: nat_lit 336 :: nat_lit 337 :: nat_lit 343 :: nat_lit 344 :: nat_lit 350 :: nat_lit 351 :: nat_lit 385 :: nat_lit 386 :: nat_lit 388 :: nat_lit 389 :: nat_lit 406 :: nat_lit 407 :: nat_lit 413 :: nat_lit 414 :: nat_lit 420 :: nat_lit 421 :: nat_lit 455 :: nat_lit 456 :: nat_lit 458 :: nat_lit 459 :: nat_lit 476 :: nat_lit 477 :: nat_lit 483 :: nat_lit 484 :: nat_lit 490 :: nat_lit 491 :: nat_lit 525 :: nat_lit 526 :: nat_lit 528 :: nat_lit 529 :: nat_lit 546 :: nat_lit 547 :: nat_lit 553 :: nat_lit 554 :: nat_lit 560 :: nat_lit 561 :: nat_lit 595 :: nat_lit 596 :: nat_lit 598 :: nat_lit 599 :: nat_lit 616 :: nat_lit 617 :: nat_lit 623 :: nat_lit 624 :: nat_lit 630 :: nat_lit 631 :: nat_lit 637 :: nat_lit 638 :: nat_lit 672 :: nat_lit 673 :: nat_lit 675 :: nat_lit 676 :: nat_lit 693 :: nat_lit 694 :: nat_lit 700 :: nat_lit 701 :: nat_lit 707 :: nat_lit 708 :: nat_lit 714 :: nat_lit 715 :: nat_lit 749 :: nat_lit 750 :: nat_lit 752 :: nat_lit 753 :: nat_lit 770 :: nat_lit 771 :: nat_lit 777 :: nat_lit 778 :: nat_lit 784 :: nat_lit 785 :: nat_lit 819 :: nat_lit 820 :: nat_lit 822 :: nat_lit 823 :: nat_lit 833 :: nat_lit 834 :: nat_lit 840 :: nat_lit 841 :: nat_lit 856 :: nat_lit 857 :: nat_lit 861 :: nat_lit 862 :: nat_lit 868 :: nat_lit 869 :: nat_lit 985 :: nat_lit 986 :: nat_lit 995 :: nat_lit 998 :: nat_lit 999 :: nat_lit 1016 :: nat_lit 1017 :: nat_lit 1021 :: nat_lit 1022 :: nat_lit 1028 :: nat_lit 1029 :: nat_lit 1054 :: nat_lit 1055 :: nat_lit 1068 :: nat_lit 1069 :: nat_lit 1075 :: nat_lit 1076 :: nat_lit 1082 :: nat_lit 1083 :: nat_lit 1089 :: nat_lit 1090 :: nat_lit 1094 :: nat_lit 1095 :: nat_lit 1101 :: nat_lit 1102 :: nat_lit 1108 :: nat_lit 1109 :: nat_lit 1115 :: nat_lit 1116 :: nat_lit 1120 :: nat_lit 1121 :: nat_lit 1127 :: nat_lit 1128 :: nat_lit 1134 :: nat_lit 1135 :: nat_lit 1141 :: nat_lit 1142 :: nat_lit 1148 :: nat_lit 1149 :: nat_lit 1155 :: nat_lit 1156 :: nat_lit 1162 :: nat_lit 1163 :: nat_lit 1169 :: nat_lit 1170 :: nat_lit 1176 :: nat_lit 1177 :: nat_lit 1183 :: nat_lit 1184 :: nat_lit 1190 :: nat_lit 1191 :: nat_lit 1195 :: nat_lit 1196 :: nat_lit 1202 :: nat_lit 1203 :: nat_lit 1209 :: nat_lit 1210 :: []) (fun _ => by kernel_rfl)); (case hw => w_witness2)
  k_fill
  refine OR.walk_ofX (l := PySem.Challenge.rw_openranges_k11_clauses_and_their_texts) (n := 63) (k := 7) (x := "_law_script") (CX := fun _ => L2.CX0) (sp := fun w => OR.spLaw _) rfl (by decide) rfl ⟨rfl, by decide, by decide⟩ (fun w h Y => PySem.W.kIn_of Y) ?F (fun _ _ a ns hl _ hS => ⟨a, ns, rfl, hS, hl, fun _ => rfl⟩) (fun _ _ _ _ _ h => h)
  case F =>
    intro w mg fa h KX G XL hmg
    refine' OR.all_mk KX G hmg ?L ?LL ?Z ?z_str ?z_divmod ?z_all ?lp ?bk ?let_ ?most ?tS ?tW ?k0 ?k1 ?k2 ?k3 ?k4 ?k5 ?k6 ?k7 ?mI ?fDI ?fDP ?fDS ?fDJ ?fDC ?hEQP ?fDST ?hTEP ?mIL ?fDDec ?fDRi ?hTEL ?hEQL ?fIW ?fCW ?fCT ?fCS ?fBG ?fAD ?hmL4 ?hmL5 ?mI0 ?hmE0 ?hmF0 ?hmX0 ?mI1 ?hmE1 ?hmF1 ?hmX1 ?mI2 ?hmE2 ?hmF2 ?hmX2 ?mI3 ?hmE3 ?hmF3 ?hmX3 ?mI4 ?hmE4 ?hmF4 ?hmX4 ?mI5 ?hmE5 ?hmF5 ?hmX5 ?mI6 ?hmE6 ?hmF6 ?hmX6 ?fDPen ?fDDraw ?fDPick ?fDShuf ?fDWords ?fDSpot ?fDDrawn ?fDMerg ?fDTO ?fDWhole ?fDLine ?fDLTx ?fDSpec ?fDCla ?fDPar ?fDCT ?fDWN ?fDNu ?fDON ?fDOt ?fDFu ?fLaw
    case lp => exact OR.lp_of XL (by first | exact List.Mem.head _ | exact .tail _ (.head _) | exact .tail _ (.tail _ (.head _)))
    case bk => exact OR.blk_of XL (by first | exact List.Mem.head _ | exact .tail _ (.head _) | exact .tail _ (.tail _ (.head _)))
    all_goals try clear hmg XL
    case L =>
      refine' OR.PAt.mk ?aC ?pg ?hd ?po ?sa ?mks ?kc ?nS ?nF ?nB ?ca ?cn ?ct ?cm ?ne ?sT ?sL ?kPP ?kT ?kL ?sf
      (case aC => k_is); (case pg => k_is); (case hd => k_is); (case po => k_is); (case sa => k_is); (case mks => k_is); (case kc => k_is); (case nS => k_is); (case nF => k_is); (case nB => k_is); (case ca => k_is); (case cn => k_is); (case ct => k_is); (case cm => k_is); (case ne => k_is); (case sT => k_is); (case sL => k_is); (case kPP => kit_is); (case kT => kit_is); (case kL => kit_is); (case sf => k_is)
    case LL =>
      refine' OR.LAt.mk ?aC ?pg ?hd ?po ?sa ?mks ?kc ?nS ?nH ?sf ?ca ?cn ?ct ?cm ?ne ?kLL ?kIL ?kTL
      (case aC => k_is); (case pg => k_is); (case hd => k_is); (case po => k_is); (case sa => k_is); (case mks => k_is); (case kc => k_is); (case nS => k_is); (case nH => k_is); (case sf => k_is); (case ca => k_is); (case cn => k_is); (case ct => k_is); (case cm => k_is); (case ne => k_is); (case kLL => kit_is); (case kIL => kit_is); (case kTL => kit_is)
    case Z =>
      refine' OR.ZAt.mk ?isi ?int ?bool ?tup ?list ?len ?max ?min ?sorted ?enum ?range ?set ?abs
      (case isi => k_is); (case int => k_is); (case bool => k_is); (case tup => k_is); (case list => k_is); (case len => k_is); (case max => k_is); (case min => k_is); (case sorted => k_is); (case enum => k_is); (case range => k_is); (case set => k_is); (case abs => k_is)
    case z_str => k_is
    case z_divmod => k_is
    case z_all => k_is

    case let_ => exact ⟨_, by k_is⟩
    case most => exact ⟨_, by k_is⟩
    case tS => refine' OR.tp3 KX ?a ?l; (case a => k_is); (case l => k_is)
    case tW => refine' OR.tp2 KX ?a ?l; (case a => k_is); (case l => k_is)
    case k0 =>
      refine' OR.CAt.mk ?aC ?pg ?hd ?po ?sa ?mks ?kc ?no ?sf ?ca ?cn ?ct ?cm ?ne ?kS ?kT ?nS ?nT
      (case aC => k_is); (case pg => k_is); (case hd => k_is); (case po => k_is); (case sa => k_is); (case mks => k_is); (case kc => k_is); (case no => refine' OR.fa1 ?n0 (OR.fa1 ?n1 (OR.fa1 ?n2 (OR.fa0))); (case n0 => k_is); (case n1 => k_is); (case n2 => k_is)); (case sf => k_is); (case ca => k_is); (case cn => k_is); (case ct => k_is); (case cm => k_is); (case ne => k_is); (case kS => kit_is); (case kT => kit_is); (case nS => k_is); (case nT => k_is)
    case k1 =>
      refine' OR.CAt.mk ?aC ?pg ?hd ?po ?sa ?mks ?kc ?no ?sf ?ca ?cn ?ct ?cm ?ne ?kS ?kT ?nS ?nT
      (case aC => k_is); (case pg => k_is); (case hd => k_is); (case po => k_is); (case sa => k_is); (case mks => k_is); (case kc => k_is); (case no => refine' OR.fa1 ?n0 (OR.fa1 ?n1 (OR.fa1 ?n2 (OR.fa0))); (case n0 => k_is); (case n1 => k_is); (case n2 => k_is)); (case sf => k_is); (case ca => k_is); (case cn => k_is); (case ct => k_is); (case cm => k_is); (case ne => k_is); (case kS => kit_is); (case kT => kit_is); (case nS => k_is); (case nT => k_is)
    case k2 =>
      refine' OR.CAt.mk ?aC ?pg ?hd ?po ?sa ?mks ?kc ?no ?sf ?ca ?cn ?ct ?cm ?ne ?kS ?kT ?nS ?nT
      (case aC => k_is); (case pg => k_is); (case hd => k_is); (case po => k_is); (case sa => k_is); (case mks => k_is); (case kc => k_is); (case no => refine' OR.fa1 ?n0 (OR.fa1 ?n1 (OR.fa1 ?n2 (OR.fa1 ?n3 (OR.fa0)))); (case n0 => k_is); (case n1 => k_is); (case n2 => k_is); (case n3 => k_is)); (case sf => k_is); (case ca => k_is); (case cn => k_is); (case ct => k_is); (case cm => k_is); (case ne => k_is); (case kS => kit_is); (case kT => kit_is); (case nS => k_is); (case nT => k_is)
    case k3 =>
      refine' OR.CAt.mk ?aC ?pg ?hd ?po ?sa ?mks ?kc ?no ?sf ?ca ?cn ?ct ?cm ?ne ?kS ?kT ?nS ?nT
      (case aC => k_is); (case pg => k_is); (case hd => k_is); (case po => k_is); (case sa => k_is); (case mks => k_is); (case kc => k_is); (case no => refine' OR.fa1 ?n0 (OR.fa1 ?n1 (OR.fa1 ?n2 (OR.fa1 ?n3 (OR.fa0)))); (case n0 => k_is); (case n1 => k_is); (case n2 => k_is); (case n3 => k_is)); (case sf => k_is); (case ca => k_is); (case cn => k_is); (case ct => k_is); (case cm => k_is); (case ne => k_is); (case kS => kit_is); (case kT => kit_is); (case nS => k_is); (case nT => k_is)
    case k4 =>
      refine' OR.CAt.mk ?aC ?pg ?hd ?po ?sa ?mks ?kc ?no ?sf ?ca ?cn ?ct ?cm ?ne ?kS ?kT ?nS ?nT
      (case aC => k_is); (case pg => k_is); (case hd => k_is); (case po => k_is); (case sa => k_is); (case mks => k_is); (case kc => k_is); (case no => refine' OR.fa1 ?n0 (OR.fa1 ?n1 (OR.fa1 ?n2 (OR.fa1 ?n3 (OR.fa1 ?n4 (OR.fa1 ?n5 (OR.fa0)))))); (case n0 => k_is); (case n1 => k_is); (case n2 => k_is); (case n3 => k_is); (case n4 => k_is); (case n5 => k_is)); (case sf => k_is); (case ca => k_is); (case cn => k_is); (case ct => k_is); (case cm => k_is); (case ne => k_is); (case kS => kit_is); (case kT => kit_is); (case nS => k_is); (case nT => k_is)
    case k5 =>
      refine' OR.CAt.mk ?aC ?pg ?hd ?po ?sa ?mks ?kc ?no ?sf ?ca ?cn ?ct ?cm ?ne ?kS ?kT ?nS ?nT
      (case aC => k_is); (case pg => k_is); (case hd => k_is); (case po => k_is); (case sa => k_is); (case mks => k_is); (case kc => k_is); (case no => refine' OR.fa1 ?n0 (OR.fa1 ?n1 (OR.fa1 ?n2 (OR.fa1 ?n3 (OR.fa1 ?n4 (OR.fa1 ?n5 (OR.fa1 ?n6 (OR.fa0))))))); (case n0 => k_is); (case n1 => k_is); (case n2 => k_is); (case n3 => k_is); (case n4 => k_is); (case n5 => k_is); (case n6 => k_is)); (case sf => k_is); (case ca => k_is); (case cn => k_is); (case ct => k_is); (case cm => k_is); (case ne => k_is); (case kS => kit_is); (case kT => kit_is); (case nS => k_is); (case nT => k_is)
    case k6 =>
      refine' OR.CAt.mk ?aC ?pg ?hd ?po ?sa ?mks ?kc ?no ?sf ?ca ?cn ?ct ?cm ?ne ?kS ?kT ?nS ?nT
      (case aC => k_is); (case pg => k_is); (case hd => k_is); (case po => k_is); (case sa => k_is); (case mks => k_is); (case kc => k_is); (case no => refine' OR.fa1 ?n0 (OR.fa1 ?n1 (OR.fa1 ?n2 (OR.fa1 ?n3 (OR.fa1 ?n4 (OR.fa0))))); (case n0 => k_is); (case n1 => k_is); (case n2 => k_is); (case n3 => k_is); (case n4 => k_is)); (case sf => k_is); (case ca => k_is); (case cn => k_is); (case ct => k_is); (case cm => k_is); (case ne => k_is); (case kS => kit_is); (case kT => kit_is); (case nS => k_is); (case nT => k_is)
    case k7 =>
      refine' OR.K7.mk ?q00 ?q01 ?q02 ?q03 ?q04 ?q05 ?q06 ?q10 ?q11 ?q12 ?q13 ?q14 ?q15 ?q16 ?q20 ?q21 ?q22 ?q23 ?q24 ?q25 ?q26 ?q30 ?q31 ?q32 ?q33 ?q34 ?q35 ?q36 ?q40 ?q41 ?q42 ?q43 ?q44 ?q45 ?q46 ?q50 ?q51 ?q52 ?q53 ?q54 ?q55 ?q56 ?q60 ?q61 ?q62 ?q63 ?q64 ?q65 ?q66 ?s01 ?s02 ?s03 ?s04 ?s05 ?s06 ?s10 ?s12 ?s13 ?s14 ?s15 ?s16 ?s20 ?s21 ?s23 ?s24 ?s25 ?s26 ?s30 ?s31 ?s32 ?s34 ?s35 ?s36 ?s40 ?s41 ?s42 ?s43 ?s45 ?s46 ?s50 ?s51 ?s52 ?s53 ?s54 ?s56 ?s60 ?s61 ?s62 ?s63 ?s64 ?s65
      (case q00 => kit_is); (case q01 => kit_is); (case q02 => kit_is); (case q03 => kit_is); (case q04 => kit_is); (case q05 => kit_is); (case q06 => kit_is); (case q10 => kit_is); (case q11 => kit_is); (case q12 => kit_is); (case q13 => kit_is); (case q14 => kit_is); (case q15 => kit_is); (case q16 => kit_is); (case q20 => kit_is); (case q21 => kit_is); (case q22 => kit_is); (case q23 => kit_is); (case q24 => kit_is); (case q25 => kit_is); (case q26 => kit_is); (case q30 => kit_is); (case q31 => kit_is); (case q32 => kit_is); (case q33 => kit_is); (case q34 => kit_is); (case q35 => kit_is); (case q36 => kit_is); (case q40 => kit_is); (case q41 => kit_is); (case q42 => kit_is); (case q43 => kit_is); (case q44 => kit_is); (case q45 => kit_is); (case q46 => kit_is); (case q50 => kit_is); (case q51 => kit_is); (case q52 => kit_is); (case q53 => kit_is); (case q54 => kit_is); (case q55 => kit_is); (case q56 => kit_is); (case q60 => kit_is); (case q61 => kit_is); (case q62 => kit_is); (case q63 => kit_is); (case q64 => kit_is); (case q65 => kit_is); (case q66 => kit_is)
      (case s01 => k_is); (case s02 => k_is); (case s03 => k_is); (case s04 => k_is); (case s05 => k_is); (case s06 => k_is); (case s10 => k_is); (case s12 => k_is); (case s13 => k_is); (case s14 => k_is); (case s15 => k_is); (case s16 => k_is); (case s20 => k_is); (case s21 => k_is); (case s23 => k_is); (case s24 => k_is); (case s25 => k_is); (case s26 => k_is); (case s30 => k_is); (case s31 => k_is); (case s32 => k_is); (case s34 => k_is); (case s35 => k_is); (case s36 => k_is); (case s40 => k_is); (case s41 => k_is); (case s42 => k_is); (case s43 => k_is); (case s45 => k_is); (case s46 => k_is); (case s50 => k_is); (case s51 => k_is); (case s52 => k_is); (case s53 => k_is); (case s54 => k_is); (case s56 => k_is); (case s60 => k_is); (case s61 => k_is); (case s62 => k_is); (case s63 => k_is); (case s64 => k_is); (case s65 => k_is)
    case mI => refine' OR.mtD KX ?a ?l ?lT ?l0 ?c ?k ?i; (case a => k_is); (case l => k_is); (case lT => k_is); (case l0 => k_is); (case c => k_is); (case k => k_is); (case i => k_is)
    case fDI => refine' OR.fnAt KX ?a ?l ?c ?k; (case a => k_is); (case l => k_is); (case c => k_is); (case k => k_is)
    case fDP => refine' OR.fnAt KX ?a ?l ?c ?k; (case a => k_is); (case l => k_is); (case c => k_is); (case k => k_is)
    case fDS => refine' OR.fnAt KX ?a ?l ?c ?k; (case a => k_is); (case l => k_is); (case c => k_is); (case k => k_is)
    case fDJ => refine' OR.fnAt KX ?a ?l ?c ?k; (case a => k_is); (case l => k_is); (case c => k_is); (case k => k_is)
    case fDC => refine' OR.fnAt KX ?a ?l ?c ?k; (case a => k_is); (case l => k_is); (case c => k_is); (case k => k_is)
    case hEQP => refine' OR.mtAt KX ?a ?l ?c ?k ?i ?n; (case a => k_is); (case l => k_is); (case c => k_is); (case k => k_is); (case i => k_is); (case n => k_is)
    case fDST => refine' OR.fnAt KX ?a ?l ?c ?k; (case a => k_is); (case l => k_is); (case c => k_is); (case k => k_is)
    case hTEP => refine' OR.mtAt KX ?a ?l ?c ?k ?i ?n; (case a => k_is); (case l => k_is); (case c => k_is); (case k => k_is); (case i => k_is); (case n => k_is)
    case mIL => refine' OR.mtAt KX ?a ?l ?c ?k ?i ?n; (case a => k_is); (case l => k_is); (case c => k_is); (case k => k_is); (case i => k_is); (case n => k_is)
    case fDDec => refine' OR.fnAt KX ?a ?l ?c ?k; (case a => k_is); (case l => k_is); (case c => k_is); (case k => k_is)
    case fDRi => refine' OR.fnAt KX ?a ?l ?c ?k; (case a => k_is); (case l => k_is); (case c => k_is); (case k => k_is)
    case hTEL => refine' OR.mtAt KX ?a ?l ?c ?k ?i ?n; (case a => k_is); (case l => k_is); (case c => k_is); (case k => k_is); (case i => k_is); (case n => k_is)
    case hEQL => refine' OR.mtAt KX ?a ?l ?c ?k ?i ?n; (case a => k_is); (case l => k_is); (case c => k_is); (case k => k_is); (case i => k_is); (case n => k_is)
    case fIW => refine' OR.fnAt KX ?a ?l ?c ?k; (case a => k_is); (case l => k_is); (case c => k_is); (case k => k_is)
    case fCW => refine' OR.fnAt KX ?a ?l ?c ?k; (case a => k_is); (case l => k_is); (case c => k_is); (case k => k_is)
    case fCT => refine' OR.fnAt KX ?a ?l ?c ?k; (case a => k_is); (case l => k_is); (case c => k_is); (case k => k_is)
    case fCS => refine' OR.fnAt KX ?a ?l ?c ?k; (case a => k_is); (case l => k_is); (case c => k_is); (case k => k_is)
    case fBG => refine' OR.fnAt KX ?a ?l ?c ?k; (case a => k_is); (case l => k_is); (case c => k_is); (case k => k_is)
    case fAD => refine' OR.fnAt KX ?a ?l ?c ?k; (case a => k_is); (case l => k_is); (case c => k_is); (case k => k_is)
    case hmL4 => refine' OR.mtAt KX ?a ?l ?c ?k ?i ?n; (case a => k_is); (case l => k_is); (case c => k_is); (case k => k_is); (case i => k_is); (case n => k_is)
    case hmL5 => refine' OR.mtAt KX ?a ?l ?c ?k ?i ?n; (case a => k_is); (case l => k_is); (case c => k_is); (case k => k_is); (case i => k_is); (case n => k_is)
    case mI0 => refine' OR.mtAt KX ?a ?l ?c ?k ?i ?n; (case a => k_is); (case l => k_is); (case c => k_is); (case k => k_is); (case i => k_is); (case n => k_is)
    case hmE0 => refine' OR.mtAt KX ?a ?l ?c ?k ?i ?n; (case a => k_is); (case l => k_is); (case c => k_is); (case k => k_is); (case i => k_is); (case n => k_is)
    case hmF0 => refine' OR.mtAt KX ?a ?l ?c ?k ?i ?n; (case a => k_is); (case l => k_is); (case c => k_is); (case k => k_is); (case i => k_is); (case n => k_is)
    case hmX0 => refine' OR.mtAt KX ?a ?l ?c ?k ?i ?n; (case a => k_is); (case l => k_is); (case c => k_is); (case k => k_is); (case i => k_is); (case n => k_is)
    case mI1 => refine' OR.mtAt KX ?a ?l ?c ?k ?i ?n; (case a => k_is); (case l => k_is); (case c => k_is); (case k => k_is); (case i => k_is); (case n => k_is)
    case hmE1 => refine' OR.mtAt KX ?a ?l ?c ?k ?i ?n; (case a => k_is); (case l => k_is); (case c => k_is); (case k => k_is); (case i => k_is); (case n => k_is)
    case hmF1 => refine' OR.mtAt KX ?a ?l ?c ?k ?i ?n; (case a => k_is); (case l => k_is); (case c => k_is); (case k => k_is); (case i => k_is); (case n => k_is)
    case hmX1 => refine' OR.mtAt KX ?a ?l ?c ?k ?i ?n; (case a => k_is); (case l => k_is); (case c => k_is); (case k => k_is); (case i => k_is); (case n => k_is)
    case mI2 => refine' OR.mtAt KX ?a ?l ?c ?k ?i ?n; (case a => k_is); (case l => k_is); (case c => k_is); (case k => k_is); (case i => k_is); (case n => k_is)
    case hmE2 => refine' OR.mtAt KX ?a ?l ?c ?k ?i ?n; (case a => k_is); (case l => k_is); (case c => k_is); (case k => k_is); (case i => k_is); (case n => k_is)
    case hmF2 => refine' OR.mtAt KX ?a ?l ?c ?k ?i ?n; (case a => k_is); (case l => k_is); (case c => k_is); (case k => k_is); (case i => k_is); (case n => k_is)
    case hmX2 => refine' OR.mtAt KX ?a ?l ?c ?k ?i ?n; (case a => k_is); (case l => k_is); (case c => k_is); (case k => k_is); (case i => k_is); (case n => k_is)
    case mI3 => refine' OR.mtAt KX ?a ?l ?c ?k ?i ?n; (case a => k_is); (case l => k_is); (case c => k_is); (case k => k_is); (case i => k_is); (case n => k_is)
    case hmE3 => refine' OR.mtAt KX ?a ?l ?c ?k ?i ?n; (case a => k_is); (case l => k_is); (case c => k_is); (case k => k_is); (case i => k_is); (case n => k_is)
    case hmF3 => refine' OR.mtAt KX ?a ?l ?c ?k ?i ?n; (case a => k_is); (case l => k_is); (case c => k_is); (case k => k_is); (case i => k_is); (case n => k_is)
    case hmX3 => refine' OR.mtAt KX ?a ?l ?c ?k ?i ?n; (case a => k_is); (case l => k_is); (case c => k_is); (case k => k_is); (case i => k_is); (case n => k_is)
    case mI4 => refine' OR.mtAt KX ?a ?l ?c ?k ?i ?n; (case a => k_is); (case l => k_is); (case c => k_is); (case k => k_is); (case i => k_is); (case n => k_is)
    case hmE4 => refine' OR.mtAt KX ?a ?l ?c ?k ?i ?n; (case a => k_is); (case l => k_is); (case c => k_is); (case k => k_is); (case i => k_is); (case n => k_is)
    case hmF4 => refine' OR.mtAt KX ?a ?l ?c ?k ?i ?n; (case a => k_is); (case l => k_is); (case c => k_is); (case k => k_is); (case i => k_is); (case n => k_is)
    case hmX4 => refine' OR.mtAt KX ?a ?l ?c ?k ?i ?n; (case a => k_is); (case l => k_is); (case c => k_is); (case k => k_is); (case i => k_is); (case n => k_is)
    case mI5 => refine' OR.mtAt KX ?a ?l ?c ?k ?i ?n; (case a => k_is); (case l => k_is); (case c => k_is); (case k => k_is); (case i => k_is); (case n => k_is)
    case hmE5 => refine' OR.mtAt KX ?a ?l ?c ?k ?i ?n; (case a => k_is); (case l => k_is); (case c => k_is); (case k => k_is); (case i => k_is); (case n => k_is)
    case hmF5 => refine' OR.mtAt KX ?a ?l ?c ?k ?i ?n; (case a => k_is); (case l => k_is); (case c => k_is); (case k => k_is); (case i => k_is); (case n => k_is)
    case hmX5 => refine' OR.mtAt KX ?a ?l ?c ?k ?i ?n; (case a => k_is); (case l => k_is); (case c => k_is); (case k => k_is); (case i => k_is); (case n => k_is)
    case mI6 => refine' OR.mtAt KX ?a ?l ?c ?k ?i ?n; (case a => k_is); (case l => k_is); (case c => k_is); (case k => k_is); (case i => k_is); (case n => k_is)
    case hmE6 => refine' OR.mtAt KX ?a ?l ?c ?k ?i ?n; (case a => k_is); (case l => k_is); (case c => k_is); (case k => k_is); (case i => k_is); (case n => k_is)
    case hmF6 => refine' OR.mtAt KX ?a ?l ?c ?k ?i ?n; (case a => k_is); (case l => k_is); (case c => k_is); (case k => k_is); (case i => k_is); (case n => k_is)
    case hmX6 => refine' OR.mtAt KX ?a ?l ?c ?k ?i ?n; (case a => k_is); (case l => k_is); (case c => k_is); (case k => k_is); (case i => k_is); (case n => k_is)
    case fDPen => refine' OR.fnAt KX ?a ?l ?c ?k; (case a => k_is); (case l => k_is); (case c => k_is); (case k => k_is)
    case fDDraw => refine' OR.fnAt KX ?a ?l ?c ?k; (case a => k_is); (case l => k_is); (case c => k_is); (case k => k_is)
    case fDPick => refine' OR.fnAt KX ?a ?l ?c ?k; (case a => k_is); (case l => k_is); (case c => k_is); (case k => k_is)
    case fDShuf => refine' OR.fnAt KX ?a ?l ?c ?k; (case a => k_is); (case l => k_is); (case c => k_is); (case k => k_is)
    case fDWords => refine' OR.fnAt KX ?a ?l ?c ?k; (case a => k_is); (case l => k_is); (case c => k_is); (case k => k_is)
    case fDSpot => refine' OR.fnAt KX ?a ?l ?c ?k; (case a => k_is); (case l => k_is); (case c => k_is); (case k => k_is)
    case fDDrawn => refine' OR.fnAt KX ?a ?l ?c ?k; (case a => k_is); (case l => k_is); (case c => k_is); (case k => k_is)
    case fDMerg => refine' OR.fnAt KX ?a ?l ?c ?k; (case a => k_is); (case l => k_is); (case c => k_is); (case k => k_is)
    case fDTO => refine' OR.fnAt KX ?a ?l ?c ?k; (case a => k_is); (case l => k_is); (case c => k_is); (case k => k_is)
    case fDWhole => refine' OR.fnAt KX ?a ?l ?c ?k; (case a => k_is); (case l => k_is); (case c => k_is); (case k => k_is)
    case fDLine => refine' OR.fnAt KX ?a ?l ?c ?k; (case a => k_is); (case l => k_is); (case c => k_is); (case k => k_is)
    case fDLTx => refine' OR.fnAt KX ?a ?l ?c ?k; (case a => k_is); (case l => k_is); (case c => k_is); (case k => k_is)
    case fDSpec => refine' OR.fnAt KX ?a ?l ?c ?k; (case a => k_is); (case l => k_is); (case c => k_is); (case k => k_is)
    case fDCla => refine' OR.fnAt KX ?a ?l ?c ?k; (case a => k_is); (case l => k_is); (case c => k_is); (case k => k_is)
    case fDPar => refine' OR.fnAt KX ?a ?l ?c ?k; (case a => k_is); (case l => k_is); (case c => k_is); (case k => k_is)
    case fDCT => refine' OR.fnAt KX ?a ?l ?c ?k; (case a => k_is); (case l => k_is); (case c => k_is); (case k => k_is)
    case fDWN => refine' OR.fnAt KX ?a ?l ?c ?k; (case a => k_is); (case l => k_is); (case c => k_is); (case k => k_is)
    case fDNu => refine' OR.fnAt KX ?a ?l ?c ?k; (case a => k_is); (case l => k_is); (case c => k_is); (case k => k_is)
    case fDON => refine' OR.fnAt KX ?a ?l ?c ?k; (case a => k_is); (case l => k_is); (case c => k_is); (case k => k_is)
    case fDOt => refine' OR.fnAt KX ?a ?l ?c ?k; (case a => k_is); (case l => k_is); (case c => k_is); (case k => k_is)
    case fDFu => refine' OR.fnAt KX ?a ?l ?c ?k; (case a => k_is); (case l => k_is); (case c => k_is); (case k => k_is)
    case fLaw => refine' OR.fnAt KX ?a ?l ?c ?k; (case a => k_is); (case l => k_is); (case c => k_is); (case k => k_is)

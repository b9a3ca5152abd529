import PyProof.Rows.All
import Wide.All
import OpenK.AllK
import Wide.FinOn
import HandS.ForMost
import HandS.Wide
import HandS.IsInst
import HandS.TupAny
import HandS.TupLe
import HandS.Star
import HandS.Evl
import HandS.SortRule
import HandS.NoneIn
import HandS.Defaults
import HandS.TupSets
import HandS.Keys
import HandS.Small
import KE.KOpsOwn
import HandS.SlotsOwn
import KE.RegKIsAll
import PyProof.Draws
import HandS.ForExc
import HandS.Text
import HandS.FStr
import HandS.StrMore
import HandS.MapJoin
import HandS.Style
import HandS.Records
import HandS.Rev
import HandS.Flow
import HandS.WideBits
import HandS.CallLocal
import HandS.Codes
import HandS.Conv
import PySem.Challenge.RW_openranges_k90_clauses_as_texts
set_option Elab.async false
set_option linter.all false
set_option maxRecDepth 100000
namespace OR
open PySem PySem.Spec PyProof.Rows L2
def top (i : Nat) : Stmt := PySem.Challenge.pw_openranges_k90_clauses_as_texts.main.body.getD i (.Pass ⟨0, 0, 0, 0⟩)
abbrev sIsInt : Stmt := top 13
abbrev sIsPlace : Stmt := top 14
abbrev sDec : Stmt := top 15
abbrev sRDec : Stmt := top 16
abbrev sRPl : Stmt := top 17
abbrev sRise : Stmt := top 20
abbrev sIsWord : Stmt := top 24
abbrev sChkW : Stmt := top 25
abbrev sChkTwo : Stmt := top 26
abbrev sChkSign : Stmt := top 27
abbrev sBegin : Stmt := top 38
abbrev sAdded : Stmt := top 39
abbrev sRStrs : Stmt := top 44
abbrev sIsStretch : Stmt := top 45
abbrev sJoined : Stmt := top 46
abbrev sCounts : Stmt := top 47
abbrev sSText : Stmt := top 51
abbrev sRStr : Stmt := top 52
abbrev sRWC : Stmt := top 55
abbrev sRAns : Stmt := top 56
abbrev sRRef : Stmt := top 57
abbrev sRNee : Stmt := top 58
abbrev sRSpr : Stmt := top 59
abbrev sRBou : Stmt := top 60
abbrev sRPai : Stmt := top 61
abbrev sRSte : Stmt := top 62
abbrev sROther : Stmt := top 63
abbrev sRLine : Stmt := top 64
abbrev sRAdd : Stmt := top 65
abbrev sLineFrom : Stmt := top 66
abbrev sRHeight : Stmt := top 67
abbrev sRSignPM : Stmt := top 68
abbrev sAbove : Stmt := top 69
abbrev sRClause : Stmt := top 72
abbrev sPen : Stmt := top 74
abbrev sDraw : Stmt := top 75
abbrev sPick : Stmt := top 76
abbrev sShuffled : Stmt := top 77
abbrev sWords : Stmt := top 78
abbrev sFar : Stmt := top 79
abbrev sPlText90 : Stmt := top 80
abbrev sFarStr : Stmt := top 81
abbrev sTerm : Stmt := top 82
abbrev sFarClause : Stmt := top 83
abbrev sLaw : Stmt := top 84
abbrev sLInit : Stmt := inClass (top 19) 0
abbrev sLEq : Stmt := inClass (top 19) 2
abbrev sLText : Stmt := inClass (top 19) 12
abbrev sPlInit : Stmt := inClass (top 43) 0
abbrev sPlEq : Stmt := inClass (top 43) 1
abbrev sPlBool : Stmt := inClass (top 43) 2
abbrev sPlText : Stmt := inClass (top 43) 18
abbrev sRdInit : Stmt := inClass (top 54) 0
abbrev sRdDone : Stmt := inClass (top 54) 1
abbrev sRdPeek : Stmt := inClass (top 54) 2
abbrev sRdTake : Stmt := inClass (top 54) 3
abbrev sRdLast : Stmt := inClass (top 54) 4
abbrev sRdOne : Stmt := inClass (top 54) 5
abbrev sRdFun : Stmt := inClass (top 54) 6
abbrev sRdPls : Stmt := inClass (top 54) 7
abbrev sRdCkD : Stmt := inClass (top 54) 8
abbrev sAnsInit : Stmt := inClass (top 31) 0
abbrev sAnsEq : Stmt := inClass (top 31) 1
abbrev sAnsTold : Stmt := inClass (top 31) 2
abbrev sAnsTxt : Stmt := inClass (top 31) 7
abbrev sRefInit : Stmt := inClass (top 32) 0
abbrev sRefEq : Stmt := inClass (top 32) 1
abbrev sRefTold : Stmt := inClass (top 32) 2
abbrev sRefTxt : Stmt := inClass (top 32) 7
abbrev sNeeInit : Stmt := inClass (top 33) 0
abbrev sNeeEq : Stmt := inClass (top 33) 1
abbrev sNeeTold : Stmt := inClass (top 33) 2
abbrev sNeeTxt : Stmt := inClass (top 33) 7
abbrev sSprInit : Stmt := inClass (top 34) 0
abbrev sSprEq : Stmt := inClass (top 34) 1
abbrev sSprTold : Stmt := inClass (top 34) 2
abbrev sSprTxt : Stmt := inClass (top 34) 7
abbrev sBouInit : Stmt := inClass (top 35) 0
abbrev sBouEq : Stmt := inClass (top 35) 1
abbrev sBouLine : Stmt := inClass (top 35) 2
abbrev sBouTold : Stmt := inClass (top 35) 3
abbrev sBouTxt : Stmt := inClass (top 35) 8
abbrev sPaiInit : Stmt := inClass (top 36) 0
abbrev sPaiEq : Stmt := inClass (top 36) 1
abbrev sPaiLine : Stmt := inClass (top 36) 2
abbrev sPaiTold : Stmt := inClass (top 36) 3
abbrev sPaiTxt : Stmt := inClass (top 36) 8
abbrev sSteInit : Stmt := inClass (top 37) 0
abbrev sSteEq : Stmt := inClass (top 37) 1
abbrev sSteTold : Stmt := inClass (top 37) 2
abbrev sSteTxt : Stmt := inClass (top 37) 7
end OR

namespace OR
open PySem PySem.Spec PyProof.Rows L2
/-! ### the pen: a dict of the cells, how many have begun, what is left of the last one -/
theorem kBC : ¬ ((Sum.inr ("at" : Str) : Key) = Sum.inr ("cells" : Str)) := by decide +kernel
theorem kLC : ¬ ((Sum.inr ("rest" : Str) : Key) = Sum.inr ("cells" : Str)) := by decide +kernel
theorem kLB : ¬ ((Sum.inr ("rest" : Str) : Key) = Sum.inr ("at" : Str)) := by decide +kernel
def penK (c : Addr) (k l : Int) : List (Key × V) := [(.inr ("cells" : Str), .ref c), (.inr ("at" : Str), .int k), (.inr ("rest" : Str), .int l)]
theorem pen_cells (c : Addr) (k l : Int) : valV (penK c k l) (.inr ("cells" : Str)) = some (.ref c) := valV_pos rfl
theorem pen_at (c : Addr) (k l : Int) : valV (penK c k l) (.inr ("at" : Str)) = some (.int k) :=
  (valV_neg (fun e => kBC e.symm)).trans (valV_pos rfl)
theorem pen_rest (c : Addr) (k l : Int) : valV (penK c k l) (.inr ("rest" : Str)) = some (.int l) :=
  (valV_neg (fun e => kLC e.symm)).trans ((valV_neg (fun e => kLB e.symm)).trans (valV_pos rfl))
theorem pen_put_rest (c : Addr) (k l y : Int) : putK (penK c k l) (.inr ("rest" : Str)) (.int y) = penK c k y := by
  have h1 : ¬ ((Sum.inr ("cells" : Str) : Key) = Sum.inr ("rest" : Str)) := fun e => kLC e.symm
  have h2 : ¬ ((Sum.inr ("at" : Str) : Key) = Sum.inr ("rest" : Str)) := fun e => kLB e.symm
  unfold putK penK
  simp only [List.any_cons, List.any_nil, List.map_cons, List.map_nil, h1, h2, decide_true, decide_false, Bool.or_false, Bool.false_or, if_true, if_false]
theorem pen_put_at (c : Addr) (k l y : Int) : putK (penK c k l) (.inr ("at" : Str)) (.int y) = penK c y l := by
  have h1 : ¬ ((Sum.inr ("cells" : Str) : Key) = Sum.inr ("at" : Str)) := fun e => kBC e.symm
  have h2 : ¬ ((Sum.inr ("rest" : Str) : Key) = Sum.inr ("at" : Str)) := kLB
  unfold putK penK
  simp only [List.any_cons, List.any_nil, List.map_cons, List.map_nil, h1, h2, decide_true, decide_false, Bool.or_false, Bool.false_or, Bool.or_true, if_true, if_false]
/-- a pen at p after at most n draws -/
def Pen (H : Hp) (p : Addr) (n : Nat) : Prop := ∃ (c : Addr) (ns : List Int) (k l : Int), H p = some (.dK (penK c k l)) ∧ H c = some (.lst (ns.map V.int)) ∧ ns.length ≤ 63 ∧ 0 ≤ k ∧ k ≤ n ∧ 0 ≤ l
/-- where the pen at p keeps its cells -/
def cellsAt (H : Hp) (p c : Addr) : Prop := ∃ k l, H p = some (.dK (penK c k l))
theorem penK_inj {c c' : Addr} {k l k' l' : Int} (h : penK c k l = penK c' k' l') : c = c' := by
  unfold penK at h
  injection h with h1 _
  injection h1 with _ h2
  injection h2
theorem cellsAt.inj {H : Hp} {p c : Addr} {k l : Int} {c' : Addr} (h : cellsAt H p c) (e : H p = some (.dK (penK c' k l))) : c = c' := by
  obtain ⟨k', l', e'⟩ := h
  rw [e] at e'
  injection e' with e'
  injection e' with e'
  exact (penK_inj e').symm
/-- all but what stands at p is as it was, and the pen there has the same cells -/
structure Frm (p : Addr) (H H' : Hp) : Prop where
  at_ : ∀ b o, H b = some o → b ≠ p → H' b = some o
  ce : ∀ c, cellsAt H p c → cellsAt H' p c
instance {p : Addr} {H H' : Hp} : CoeFun (Frm p H H') (fun _ => ∀ b o, H b = some o → b ≠ p → H' b = some o) := ⟨Frm.at_⟩
theorem Frm.refl (p : Addr) (H : Hp) : Frm p H H := ⟨fun _ _ h _ => h, fun _ h => h⟩
theorem Frm.trans {p : Addr} {H H1 H2 : Hp} (a : Frm p H H1) (b : Frm p H1 H2) : Frm p H H2 := ⟨fun c o h n => b c o (a c o h n) n, fun c h => b.ce c (a.ce c h)⟩
theorem Frm.pen {p c : Addr} {H : Hp} {k l k' l' : Int} (h : H p = some (.dK (penK c k l))) : Frm p H (upd H p (.dK (penK c k' l'))) :=
  ⟨fun b x e n => by rw [upd_ne n]; exact e, fun c' h' => by rw [h'.inj h]; exact ⟨k', l', upd_same⟩⟩
theorem Frm.new {p q : Addr} {H : Hp} {o : HO} (h : H q = none) : Frm p H (upd H q o) :=
  ⟨fun b x e _ => by rw [upd_ne (ne_of_none e h)]; exact e, fun c ⟨k, l, e⟩ => ⟨k, l, by rw [upd_ne (ne_of_none e h)]; exact e⟩⟩
/-- a list that is not the pen's cells is changed -/
theorem Pen.put {H : Hp} {p c a : Addr} {n : Nat} {xs : List V} {o : HO} (P : Pen H p n) (hc : cellsAt H p c) (h : H a = some (.lst xs)) (n1 : c ≠ a) : Pen (upd H a o) p n := by
  obtain ⟨c', ns, k, l, h1, h2, h3⟩ := P
  obtain rfl := hc.inj h1
  exact ⟨c, ns, k, l, by rw [upd_ne (ne_of h1 h (by intro z; cases z))]; exact h1, by rw [upd_ne n1]; exact h2, h3⟩
theorem Pen.cells {H : Hp} {p : Addr} {n : Nat} (P : Pen H p n) : ∃ c, cellsAt H p c ∧ H c ≠ none := by
  obtain ⟨c, ns, k, l, h1, h2, _⟩ := P
  exact ⟨c, ⟨k, l, h1⟩, by rw [h2]; exact fun z => nomatch z⟩
theorem Pen.dict {H : Hp} {p : Addr} {n : Nat} (P : Pen H p n) : ∃ kvs, H p = some (.dK kvs) := by
  obtain ⟨c, ns, k, l, h1, _⟩ := P
  exact ⟨_, h1⟩
/-- what stands at a list, a tuple or an object is not the pen -/
theorem Frm.lst {H H' : Hp} {p a : Addr} {n : Nat} {xs : List V} (f : Frm p H H') (P : Pen H p n) (h : H a = some (.lst xs)) : H' a = some (.lst xs) := by
  obtain ⟨kvs, hp⟩ := P.dict
  exact f _ _ h (ne_of h hp (by intro z; cases z))
theorem Pen.mono {H : Hp} {p : Addr} {n m : Nat} (P : Pen H p n) (h : n ≤ m) : Pen H p m := by
  obtain ⟨c, ns, k, l, h1, h2, h3, h4, h5, h6⟩ := P
  exact ⟨c, ns, k, l, h1, h2, h3, h4, by omega, h6⟩
theorem Pen.new {H : Hp} {p q : Addr} {n : Nat} {o : HO} (P : Pen H p n) (h : H q = none) : Pen (upd H q o) p n := by
  obtain ⟨c, ns, k, l, h1, h2, h3, h4, h5, h6⟩ := P
  exact ⟨c, ns, k, l, by rw [upd_ne (ne_of_none h1 h)]; exact h1, by rw [upd_ne (ne_of_none h2 h)]; exact h2, h3, h4, h5, h6⟩
/-! ### the promises -/
/-- a draw: some number below m -/
def spDraw : Sp := fun vs H Q _ => ∃ (p : Addr) (m : Int) (n : Nat), vs = [.ref p, .int m] ∧ 0 < m ∧ m.natAbs < 2 ^ 200 ∧ Pen H p n ∧ n ≤ 1000000 ∧
  ∀ (r : Int) (H' : Hp), 0 ≤ r → r < m → Pen H' p (n + 1) → Frm p H H' → Q (.int r) H'
/-- a def that lets nothing out, as it is called by its name -/
structure Cl (P : Program) (w : World) (K : PySem.W.Frag) (mg : Str → Option Value) (base : Heap) (k : Nat) (x : Str) (ps : List Str) (sp : Sp) : Prop where
  ex : ∃ (f : Addr) (fd : FuncData), FnOk P w K mg base CX0 k f fd ps sp ∧ mg x = some (.ref f) ∧ PySem.W.keepIn K (.ref f) = true ∧ Binds K fd ps []
theorem pe_cl {X : Cx} {k j : Nat} {x : Str} {ps : List Str} {sp : Sp} {e : Expr} {es : List Expr} {t : TA} {p pos : Pos} (c : Cl X.prog X.w X.K X.mg X.base k x ps sp) (hr : Room j X.A) (hk : k ≤ j) (hg : Gl X x) (ha : PA X (e :: es) t)
    (hdb : (x == ("__debug__" : Str)) = false := by decide) (he : starEach (e :: es) X.env = (false, eval e X.env) :: starEach es X.env := by rfl) (hpl : (backTo pos (starEach es X.env)).any (·.1) = false := by rfl) :
    PE X (.Call (.Name x p) (e :: es) [] pos) (tCall sp [] E0 t) := by
  obtain ⟨f, fd, F, hm, hkp, hb⟩ := c.ex
  exact pe_call F (hr.mono hk) hg hm hkp hb .nil pass0 ha hdb he hpl
theorem Frm.seq {K : PySem.W.Frag} {H H' : Hp} {p a : Addr} {n : Nat} {xs : List V} (f : Frm p H H') (P : Pen H p n) (h : SqL K H a xs) : SqL K H' a xs := by
  obtain ⟨c, ns, k, l, hp, _⟩ := P
  rcases h with (h | ⟨o, h⟩) | h
  · exact .inl (.inl (f _ _ h (ne_of h hp (by intro z; cases z))))
  · exact .inl (.inr ⟨o, f _ _ h (ne_of h hp (by intro z; cases z))⟩)
  · exact .inr h
theorem Frm.tup {K : PySem.W.Frag} {H H' : Hp} {p a : Addr} {n : Nat} {xs : List V} (f : Frm p H H') (P : Pen H p n) (h : SqT K H a xs) : SqT K H' a xs := by
  obtain ⟨c, ns, k, l, hp, _⟩ := P
  rcases h with (h | ⟨o, h⟩) | h
  · exact .inl (.inl (f _ _ h (ne_of h hp (by intro z; cases z))))
  · exact .inl (.inr ⟨o, f _ _ h (ne_of h hp (by intro z; cases z))⟩)
  · exact .inr h
/-- an item of a list that is not empty -/
def spPick (K : PySem.W.Frag) : Sp := fun vs H Q _ => ∃ (p a : Addr) (xs : List V) (n : Nat), vs = [.ref p, .ref a] ∧ SqL K H a xs ∧ 0 < xs.length ∧ xs.length ≤ 1000 ∧ Pen H p n ∧ n ≤ 1000000 ∧
  ∀ (v : V) (H' : Hp), v ∈ xs → Pen H' p (n + 1) → Frm p H H' → Q v H'
/-- some number, not too great -/
def spWhole : Sp := fun vs H Q _ => ∃ (p : Addr) (n : Nat), vs = [.ref p] ∧ Pen H p n ∧ n ≤ 900000 ∧
  ∀ (r : Int) (H' : Hp), -(10 ^ 30) < r → r < 10 ^ 30 → Pen H' p (n + 3) → Frm p H H' → Q (.int r) H'
/-- the pen, made of the script -/
def spPen (K : PySem.W.Frag) : Sp := fun vs H Q _ => ∃ (a : Addr) (ns : List Int), vs = [.ref a] ∧ SqL K H a (ns.map V.int) ∧ ns.length ≤ 63 ∧
  ∀ (p : Addr) (H' : Hp), H p = none → Pen H' p 0 → Same H H' → Q (.ref p) H'
structure Bl (mg : Str → Option Value) : Prop where
  int : mg "int" = none
  len : mg "len" = none
  abs : mg "abs" = none
  list : mg "list" = none
theorem dg {H : Hp} {p : Addr} {kvs : List (Key × V)} {x : Str} {v : V} (h : H p = some (.dK kvs)) (e : valV kvs (.inr x) = some v) : DGet H p (.str x) (some v) := e ▸ DGet.k (k := .inr x) h
theorem dp {H : Hp} {p : Addr} {kvs kvs' : List (Key × V)} {x : Str} {v : V} (h : H p = some (.dK kvs)) (e : putK kvs (.inr x) v = kvs') (hl : kvs.length < sizeLine) : DPut H p (.str x) v (upd H p (.dK kvs')) := e ▸ DPut.k (k := .inr x) h hl
theorem pen_small (c : Addr) (k l : Int) : (penK c k l).length < sizeLine := by show 3 < sizeLine; decide
theorem mod_bd (a b : Int) (h : 0 < b) : 0 ≤ a % b ∧ a % b < b := ⟨Int.emod_nonneg a (by omega), Int.emod_lt_of_pos a h⟩
theorem boot_absO : bootBuiltins ("abs" : Str) = some (.builtin "abs") := by decide +kernel
section
variable {P : Program} {w : World} {K : PySem.W.Frag} {mg : Str → Option Value} {base : Heap}
theorem scDraw : FnScope ["_law_pen_here", "_law_many", "_law_digit", "_law_at", "_law_cell", "_law_blend"] ["_law_pen_here", "_law_many"] (defScope sDraw) := ⟨rfl, rfl, rfl, by decide +kernel, rfl, by decide +kernel, by decide +kernel⟩
theorem div200 {m : Int} (h : 0 < m) (h2 : m.natAbs < 2 ^ 200) (i : Int) : CDivW i m := wide_div h h2 (by decide) (by decide)
theorem dp_ints {K : PySem.W.Frag} {H : Hp} : ∀ ns : List Int, DpAll K H (ns.map V.int) (ns.map PyData.int)
  | [] => .nil
  | n :: ns => .cons (.int n) (dp_ints ns)
theorem lay_ints : ∀ ns : List Int, PyData.canLayAll0 (ns.map PyData.int) = true
  | [] => rfl
  | n :: ns => by
    show (PyData.canLay0 (.int n) && PyData.canLayAll0 (ns.map PyData.int)) = true
    rw [lay_ints ns]
    rfl
theorem dep_ints : ∀ ns : List Int, PyData.depthAll (ns.map PyData.int) ≤ 1
  | [] => by decide
  | n :: ns => by
    show max (PyData.depth (.int n)) (PyData.depthAll (ns.map PyData.int)) ≤ 1
    have := dep_ints ns
    have h : PyData.depth (.int n) ≤ 1 := by simp [PyData.depth]
    omega
theorem shp_ints (ns : List Int) : SeqAt.shaped (.list (ns.map PyData.int)) = true := by
  unfold SeqAt.shaped
  rw [show PyData.canLay0 (.list (ns.map PyData.int)) = true from lay_ints ns, Bool.true_and]
  refine decide_eq_true ?_
  show PyData.depthAll (ns.map PyData.int) + 1 ≤ 64
  have := dep_ints ns
  omega
theorem ok_draw {f : Addr} {fd : FuncData} (F : Fun K "_law_draw" "_law_draw" sDraw f fd) (B : Bl mg) : FnOk P w K mg base CX0 1 f fd ["_law_pen_here", "_law_many"] spDraw := by
  refine F.ok scDraw (fun vs H Q E h => ?_) (fun cdv A outer s H vs Q E hr h => ?_)
  · obtain ⟨p, m, n, rfl, _⟩ := h
    rfl
  · obtain ⟨p, m, n, rfl, hm, hmb, ⟨c, ns, k, l, hp, hc, hns, hk0, hkn, hl⟩, hn, q⟩ := h
    have hu := hu_of hr
    have hu64 : (A.deeper (envOfC "_law_draw" (defScope sDraw) s.heap.objs.size f cdv)).units + 64 < cLine := hr.units
    have ncp : c ≠ p := ne_of hc hp (by intro z; cases z)
    have nd := scDraw.nd
    refine ⟨_, pss_cons (ps_if (pt_cmpR op_gt (pe_dget hu (pv 0) pe_str (fun _ _ => rfl)) pe_int (nomark _))
        (pss_cons (ps_set (i := 2) nd rfl (.inl rfl) (pe_op op_mod (pe_callTy call_int1 (by rfl) B.int boot_int (pa_cons (pe_dget hu (pv 0) pe_str (fun _ _ => rfl)) pa_nil)) (pv 1)))
        (pss_cons (ps_dput hu (pv 0) pe_str (pe_op op_fdivW (pe_dget hu (pv 0) pe_str (fun _ _ => rfl)) (pv 1)) rfl)
        (pss_one (ps_ret (pv 2))))) pss_nil)
      (pss_cons (ps_set (i := 3) nd rfl (.inl rfl) (pe_dget hu (pv 0) pe_str (fun _ _ => rfl)))
      (pss_cons (ps_dput hu (pv 0) pe_str (pe_op op_add (pv 3) pe_int) rfl)
      (pss_cons (ps_set (i := 4) nd rfl (.inl rfl) (pe_op op_add (pe_op op_mul pe_int (pv 3)) pe_int))
      (Evl.pss_cut (ps_if (pt_cmpR (op_neD hu64) (pe_dget hu (pv 0) pe_str (fun _ _ => rfl)) (pe_lst pa_nil) (nomark _))
        (pss_one (ps_set (i := 4) nd rfl (.inl rfl) (pe_ix ix_list (pe_dget hu (pv 0) pe_str (fun _ _ => rfl)) (pe_op op_mod (pe_callTy call_int1 (by rfl) B.int boot_int (pa_cons (pv 3) pa_nil)) (pe_callB call_len_seq (by rfl) B.len PySem.boot_len (pa_cons (pe_dget hu (pv 0) pe_str (fun _ _ => rfl)) pa_nil))) (fun _ _ => rfl)))) pss_nil)
      (Evl.pss_cut (ps_if (PW.pt (pw_and (pt_cmpR op_lt (pv 3) (pe_callB call_len_seq (by rfl) B.len PySem.boot_len (pa_cons (pe_dget hu (pv 0) pe_str (fun _ _ => rfl)) pa_nil)) (nomark _)) (pw_and1 (pt_cmpR op_ge (pe_callB call_abs (by rfl) B.abs boot_absO (pa_cons (pv 4) pa_nil)) (pe_op op_pow pe_int pe_int) (nomark _)))))
        (pss_cons (ps_dput hu (pv 0) pe_str (pe_op op_fdivW (pe_op op_sub (pe_callB call_abs (by rfl) B.abs boot_absO (pa_cons (pv 4) pa_nil)) (pe_op op_pow pe_int pe_int)) (pv 1)) rfl)
        (pss_one (ps_ret (pe_op op_mod (pe_callTy call_int1 (by rfl) B.int boot_int (pa_cons (pe_op op_sub (pe_callB call_abs (by rfl) B.abs boot_absO (pa_cons (pv 4) pa_nil)) (pe_op op_pow pe_int pe_int)) pa_nil)) (pv 1))))) pss_nil)
      (pss_cons (ps_set (i := 5) nd rfl (.inl rfl) (pe_op op_add (pe_op op_mul (pe_op op_mod (pe_callTy call_int1 (by rfl) B.int boot_int (pa_cons (pv 4) pa_nil)) pe_int) pe_int) (pe_op op_mul (pe_op op_mul pe_int (pv 3)) (pv 3))))
      (pss_cons (ps_set (i := 5) nd rfl (.inl rfl) (pe_op op_mod (pe_callTy call_int1 (by rfl) B.int boot_int (pa_cons (pe_op op_add (pe_op op_add (pv 5) (pe_op op_mul pe_int (pv 3))) pe_int) pa_nil)) pe_int))
      (pss_cons (ps_set (i := 5) nd rfl (.inl rfl) (pe_op op_mod (pe_callTy call_int1 (by rfl) B.int boot_int (pa_cons (pe_op op_add (pe_op op_add (pe_op op_add (pe_op op_mul (pv 5) (pv 5)) (pe_op op_mul pe_int (pv 5))) (pe_op op_mul pe_int (pv 3))) pe_int) pa_nil)) pe_int))
      (pss_one (ps_ret (pe_op op_mod (pe_callTy call_int1 (by rfl) B.int boot_int (pa_cons (pe_op op_fdiv (pe_op op_mod (pe_callTy call_int1 (by rfl) B.int boot_int (pa_cons (pe_op op_mul (pv 5) (pe_op op_add (pv 5) pe_int)) pa_nil)) pe_int) pe_int) pa_nil)) (pv 1)))))))))))), ?_⟩
    have dL : DGet H p (.str "rest") (some (.int l)) := dg hp (pen_rest c k l)
    have dB : DGet H p (.str "at") (some (.int k)) := dg hp (pen_at c k l)
    refine ⟨_, rfl, p, .int l, rfl, dL, _, _, rfl, rfl, _, rfl, ite2 (fun e => ?_) (fun e => ?_)⟩
    · have hl1 : 0 < l := of_decide_eq_true e
      refine ⟨_, rfl, p, .int l, rfl, dL, .inl ⟨l, rfl, _, rfl, l, m, rfl, rfl, hm, ?_⟩⟩
      refine ⟨_, rfl, p, .int l, rfl, dL, _, rfl, l, m, rfl, rfl, div200 hm hmb l, _, rfl, p, _, rfl, dp hp (pen_put_rest c k l _) (pen_small c k l), _, rfl, ?_⟩
      refine q (l % m) _ (mod_bd l m hm).1 (mod_bd l m hm).2 ⟨c, ns, k, l / m, upd_same, by rw [upd_ne ncp]; exact hc, hns, hk0, by omega, Int.ediv_nonneg hl (by omega)⟩ (Frm.pen hp)
    · have hl0 : l = 0 := by
        have : ¬ (0 < l) := fun z => e (decide_eq_true z)
        omega
      refine ⟨_, rfl, p, .int k, rfl, dB, ?_⟩
      refine ⟨_, rfl, _, _, rfl, rfl, _, rfl, p, _, rfl, dp hp (pen_put_at c k l _) (pen_small c k l), ?_⟩
      have hp1 : (upd H p (.dK (penK c (k + 1) l))) p = some (.dK (penK c (k + 1) l)) := upd_same
      have hc1 : (upd H p (.dK (penK c (k + 1) l))) c = some (.lst (ns.map V.int)) := by rw [upd_ne ncp]; exact hc
      have F1 : Frm p H (upd H p (.dK (penK c (k + 1) l))) := Frm.pen hp
      generalize upd H p (.dK (penK c (k + 1) l)) = H1 at hp1 hc1 F1
      have fin : ∀ (r y : Int), 0 ≤ r → r < m → 0 ≤ y → ∀ G, G p = some (.dK (penK c (k + 1) y)) → G c = some (.lst (ns.map V.int)) → Frm p H G → Q (.int r) G := fun r y h0 h1 hy G gp gc gF =>
        q r _ h0 h1 ⟨c, ns, k + 1, y, gp, gc, hns, by omega, by omega, hy⟩ gF
      refine ⟨_, rfl, _, _, rfl, rfl, .inl ⟨by decide, by decide⟩, _, _, rfl, rfl, ?_⟩
      refine ⟨fun σ' G => ∃ cell : Int, σ' = [some (.ref p), some (.int m), none, some (.int k), some (.int cell), none] ∧ G p = some (.dK (penK c (k + 1) l)) ∧ G c = some (.lst (ns.map V.int)) ∧ Frm p H G, ?_, ?_⟩
      · refine ⟨_, rfl, p, .ref c, rfl, dg hp1 (pen_cells c (k + 1) l), Nat.zero_le _, fun e2 he2 => ?_⟩
        have s2 : Frm p H1 (upd H1 e2 (.lst [])) := Frm.new he2
        have hp2 : (upd H1 e2 (.lst [])) p = some (.dK (penK c (k + 1) l)) := by rw [upd_ne (ne_of_none hp1 he2)]; exact hp1
        have hc2 : (upd H1 e2 (.lst [])) c = some (.lst (ns.map V.int)) := by rw [upd_ne (ne_of_none hc1 he2)]; exact hc1
        have F2 := F1.trans s2
        refine ⟨.list (ns.map PyData.int), .list [], .lst (.inl (.inl hc2)) (dp_ints ns), .lst (.inl (.inl upd_same)) .nil, shp_ints ns, rfl, _, rfl, ?_⟩
        generalize upd H1 e2 (.lst []) = H2 at hp2 hc2 F2
        refine ite2 (fun hne => ?_) (fun _ => ⟨_, rfl, hp2, hc2, F2⟩)
        have hn0 : ns ≠ [] := fun z => by subst z; revert hne; decide
        have hsz : (0 : Int) < ((ns.map V.int).length : Int) := by
          rw [List.length_map]
          have := List.length_pos_iff.mpr hn0
          omega
        have hb := mod_bd k _ hsz
        have hj : (k % ((ns.map V.int).length : Int)).toNat < ns.length := by
          rw [List.length_map] at hb ⊢
          omega
        refine ⟨_, rfl, p, .ref c, rfl, dg hp2 (pen_cells c (k + 1) l), _, rfl, .inl ⟨k, rfl, _, rfl, p, .ref c, rfl, dg hp2 (pen_cells c (k + 1) l), c, _, rfl, .inl (.inl (.inl hc2)), k, _, rfl, rfl, hsz, c, ns.map V.int, _, .int ns[(k % ((ns.map V.int).length : Int)).toNat], rfl, rfl, .inl (.inl hc2), ?_, ?_⟩⟩
        · have := atI_nat (xs := ns.map V.int) (j := (k % ((ns.map V.int).length : Int)).toNat) (v := .int ns[(k % ((ns.map V.int).length : Int)).toNat]) (by rw [List.getElem?_map, List.getElem?_eq_getElem hj]; rfl)
          rw [Int.toNat_of_nonneg hb.1] at this
          exact this
        · exact ⟨_, rfl, hp2, hc2, F2⟩
      · rintro σ' G ⟨cell, rfl, gp, gc, gF⟩
        refine ⟨fun σ' G => σ' = [some (.ref p), some (.int m), none, some (.int k), some (.int cell), none] ∧ G p = some (.dK (penK c (k + 1) l)) ∧ G c = some (.lst (ns.map V.int)) ∧ Frm p H G, ?_, ?_⟩
        · have hpow : CPow 10 18 := ⟨by decide, by decide, by decide⟩
          refine ⟨_, rfl, _, rfl, p, .ref c, rfl, dg gp (pen_cells c (k + 1) l), c, _, rfl, .inl (.inl (.inl gc)), _, _, rfl, rfl, _, rfl, ite2 (fun e2 => ?_) (fun e2 => ?_)⟩
          · refine ⟨_, rfl, cell, rfl, _, _, rfl, rfl, hpow, _, _, rfl, rfl, _, rfl, ite2 (fun e3 => ?_) (fun e3 => ?_)⟩
            · have hge := of_decide_eq_true e3
              refine ⟨_, rfl, cell, rfl, _, _, rfl, rfl, hpow, _, _, rfl, rfl, _, rfl, _, _, rfl, rfl, div200 hm hmb _, _, rfl, p, _, rfl, dp gp (pen_put_rest c (k + 1) l _) (pen_small c _ l), ?_⟩
              refine ⟨_, rfl, cell, rfl, _, _, rfl, rfl, hpow, _, _, rfl, rfl, .inl ⟨_, rfl, _, rfl, _, _, rfl, rfl, hm, ?_⟩⟩
              refine fin _ (((if cell < 0 then -cell else cell) - 10 ^ (18 : Int).toNat) / m) (mod_bd _ m hm).1 (mod_bd _ m hm).2 (Int.ediv_nonneg ?_ (by omega)) _ upd_same (by rw [upd_ne ncp]; exact gc) (gF.trans (Frm.pen gp))
              show (0 : Int) ≤ (if cell < 0 then -cell else cell) - 10 ^ (18 : Int).toNat
              have : (10 : Int) ^ (18 : Int).toNat ≤ (if cell < 0 then -cell else cell) := hge
              omega
            · exact ⟨rfl, gp, gc, gF⟩
          · exact iteF ⟨rfl, gp, gc, gF⟩
        · rintro σ' G ⟨rfl, gp, gc, gF⟩
          refine ⟨_, rfl, .inl ⟨_, rfl, _, _, rfl, rfl, (by show (0 : Int) < 4294967231; decide), _, _, rfl, rfl, .inr ⟨by decide, by decide⟩, _, rfl, _, _, rfl, rfl, .inl ⟨by decide, by decide⟩, _, rfl, _, _, rfl, rfl, .inl ?_, _, _, rfl, rfl, ?_⟩⟩
          · constructor <;> omega
          generalize cell % 4294967231 * 48017 + 15013 * k * k = M0
          refine ⟨_, rfl, _, rfl, _, _, rfl, rfl, .inl ⟨by decide, by decide⟩, _, _, rfl, rfl, _, _, rfl, rfl, .inl ⟨_, rfl, _, _, rfl, rfl, (by show (0 : Int) < 4294967197; decide), ?_⟩⟩
          generalize hM : (M0 + 883 * k + 5) % 4294967197 = M
          have hMb : 0 ≤ M ∧ M < 4294967197 := hM ▸ mod_bd _ _ (by decide)
          refine ⟨_, rfl, _, rfl, _, _, rfl, rfl, .inl (by constructor <;> omega), _, rfl, _, _, rfl, rfl, .inl ⟨by decide, by decide⟩, _, _, rfl, rfl, _, rfl, _, _, rfl, rfl, .inl ⟨by decide, by decide⟩, _, _, rfl, rfl, _, _, rfl, rfl, .inl ⟨_, rfl, _, _, rfl, rfl, (by show (0 : Int) < 4294967189; decide), ?_⟩⟩
          generalize hM2 : (M * M + 30000253 * M + 17 * k + 9) % 4294967189 = M2
          have hMb2 : 0 ≤ M2 ∧ M2 < 4294967189 := hM2 ▸ mod_bd _ _ (by decide)
          refine ⟨_, rfl, _, rfl, _, _, rfl, rfl, _, _, rfl, rfl, .inl (by constructor <;> omega), .inl ⟨_, rfl, _, _, rfl, rfl, (by show (0 : Int) < 4294967161; decide), _, _, rfl, rfl, ⟨by decide, by decide⟩, .inl ⟨_, rfl, _, rfl, _, _, rfl, rfl, hm, ?_⟩⟩⟩
          exact fin _ l (mod_bd _ m hm).1 (mod_bd _ m hm).2 hl _ gp gc gF
theorem scPick : FnScope ["_law_pen_here", "_law_items"] ["_law_pen_here", "_law_items"] (defScope sPick) := ⟨rfl, rfl, rfl, by decide +kernel, rfl, by decide +kernel, by decide +kernel⟩
theorem ok_pick {f : Addr} {fd : FuncData} (F : Fun K "_law_pick" "_law_pick" sPick f fd) (B : Bl mg) (D : Cl P w K mg base 1 "_law_draw" ["_law_pen_here", "_law_many"] spDraw) : FnOk P w K mg base CX0 2 f fd ["_law_pen_here", "_law_items"] (spPick K) := by
  refine F.ok scPick (fun vs H Q E h => ?_) (fun cdv A outer s H vs Q E hr h => ?_)
  · obtain ⟨p, a, xs, n, rfl, _⟩ := h
    rfl
  · obtain ⟨p, a, xs, n, rfl, hS, h0, h1, hP, hn, q⟩ := h
    refine ⟨_, pss_one (ps_ret (pe_ix ix_list (pv 1) (pe_cl D hr (by decide) (by rfl) (pa_cons (pv 0) (pa_cons (pe_callB call_len_seq (by rfl) B.len PySem.boot_len (pa_cons (pv 1) pa_nil)) pa_nil))) (fun _ _ => rfl))), ?_⟩
    refine ⟨_, rfl, _, rfl, _, rfl, a, xs, rfl, .inl hS, p, xs.length, n, rfl, by omega, ?_, hP, hn, fun r H' hr0 hr1 hP' hF => ?_⟩
    · have : xs.length < 2 ^ 200 := Nat.lt_of_le_of_lt h1 (by decide)
      simpa using this
    · have hj : r.toNat < xs.length := by omega
      refine ⟨a, xs, r, xs[r.toNat], rfl, rfl, hF.seq hP hS, ?_, q _ _ (List.getElem_mem hj) hP' hF⟩
      have := atI_nat (xs := xs) (j := r.toNat) (v := xs[r.toNat]) (List.getElem?_eq_getElem hj)
      rw [Int.toNat_of_nonneg hr0] at this
      exact this
theorem scPen : FnScope ["_law_script"] ["_law_script"] (defScope sPen) := ⟨rfl, rfl, rfl, by decide +kernel, rfl, by decide +kernel, by decide +kernel⟩
theorem cut63 (ns : List Int) : cutV (ns.map V.int) none (some 63) = (ns.take 63).map V.int := by
  unfold cutV
  rw [HT.sIx_none, show HT.sIx (ns.map V.int).length (ns.map V.int).length (some 63) = min 63 (ns.map V.int).length from HT.sIx_nat _ _ 63, List.drop_zero, Nat.sub_zero, List.map_take]
  rcases Nat.le_total 63 (ns.map V.int).length with h | h
  · rw [Nat.min_eq_left h]
  · rw [Nat.min_eq_right h, List.take_of_length_le (Nat.le_refl _), List.take_of_length_le h]
theorem ok_pen {f : Addr} {fd : FuncData} (F : Fun K "_law_pen" "_law_pen" sPen f fd) (B : Bl mg) : FnOk P w K mg base CX0 1 f fd ["_law_script"] (spPen K) := by
  refine F.ok scPen (fun vs H Q E h => ?_) (fun cdv A outer s H vs Q E hr h => ?_)
  · obtain ⟨a, ns, rfl, _⟩ := h
    rfl
  · obtain ⟨a, ns, rfl, hS, hlen, q⟩ := h
    refine ⟨_, pss_one (ps_ret (pe_disp (pps_cons pe_str (pe_callTy call_list_of (by rfl) B.list (by decide +kernel) (pa_cons (pe_slice sl_list (pv 0) po_none (po_some pe_int)) pa_nil)) (pps_cons pe_str pe_int (pps_cons pe_str pe_int pps_nil))) rfl rfl (by simp) (by decide))), ?_⟩
    intro p hp
    have s1 : Same H (upd H p (.dK [])) := fun b o e => by rw [upd_ne (ne_of_none e hp)]; exact e
    refine ⟨_, rfl, _, rfl, a, _, rfl, s1.seq hS, fun x hx => ?_⟩
    refine ⟨x, _, rfl, .inl (.inl (.inl upd_same)), fun c hc => ?_⟩
    have npx : p ≠ x := ne_of_none upd_same hx
    have npc : p ≠ c := by
      intro e
      subst e
      rw [upd_ne npx, upd_same] at hc
      cases hc
    have a1 : putK ([] : List (Key × V)) (.inr ("cells" : Str)) (.ref c) = [(.inr ("cells" : Str), .ref c)] := putK_new _ valV_nil
    have a2 : putK ([(.inr ("cells" : Str), .ref c)] : List (Key × V)) (.inr ("at" : Str)) (.int 0) = [(.inr ("cells" : Str), .ref c), (.inr ("at" : Str), .int 0)] := putK_new _ ((valV_neg (fun e => kBC e.symm)).trans valV_nil)
    have a3 : putK ([(.inr ("cells" : Str), .ref c), (.inr ("at" : Str), .int 0)] : List (Key × V)) (.inr ("rest" : Str)) (.int 0) = penK c 0 0 := putK_new _ ((valV_neg (fun e => kLC e.symm)).trans ((valV_neg (fun e => kLB e.symm)).trans valV_nil))
    have e3 : mergeK [] (penK c 0 0) = penK c 0 0 := by
      show putK (putK (putK ([] : List (Key × V)) (.inr ("cells" : Str)) (.ref c)) (.inr ("at" : Str)) (.int 0)) (.inr ("rest" : Str)) (.int 0) = penK c 0 0
      rw [a1, a2, a3]
    refine ⟨by rw [upd_ne npc, upd_ne npx, upd_same], penK c 0 0, rfl, by show 3 ≤ 15; decide, ?_⟩
    rw [e3]
    refine q p _ hp ⟨c, ns.take 63, 0, 0, upd_same, ?_, by rw [List.length_take]; omega, by omega, by omega, by omega⟩ fun b o e => ?_
    · rw [upd_ne npc.symm, upd_same, cut63]
    · have h1 := s1 b o e
      have nbx : b ≠ x := ne_of_none h1 hx
      have h2 : (upd (upd H p (.dK [])) x (.lst (cutV (ns.map V.int) none (some 63)))) b = some o := by rw [upd_ne nbx]; exact h1
      rw [upd_ne (ne_of_none e hp), upd_ne (ne_of_none h2 hc)]
      exact h2
end
end OR

namespace OR
open PySem PySem.Spec PyProof.Rows L2
/-! ### own classes: double-underscore methods behind the signs -/
/-- a method of the class at C, called with its object and arguments by position -/
structure Md (P : Program) (w : World) (K : PySem.W.Frag) (mg : Str → Option Value) (base : Heap) (k : Nat) (C : Addr) (m : Str) (sp : Sp) : Prop where
  ex : ∃ f, FnR P w K mg base CX0 k f sp ∧ PySem.W.findIn K (.ref C) m = some (some (.ref f)) ∧ PySem.W.isFn K (.ref f) = true ∧ PySem.W.fnIn K f = true
theorem fnR_of {P : Program} {w : World} {K : PySem.W.Frag} {mg : Str → Option Value} {base : Heap} {k : Nat} {f : Addr} {fd : FuncData} {ps : List Str} {sp : Sp} (F : FnOk P w K mg base CX0 k f fd ps sp) (hb : Binds K fd ps []) : FnR P w K mg base CX0 k f sp :=
  (F.raw hb .nil).imp fun vs H Q E h => by rw [List.append_nil]; exact h
section
variable {X : Cx} {n : Nat} {C : Addr} {sp : Sp}
def rBinS (C : Addr) (sp : Sp) : R2 := fun x y H Q => ∃ a b dx dy fs gs, x = .ref a ∧ y = .ref b ∧ H a = some (.ins C dx fs) ∧ H b = some (.ins C dy gs) ∧ sp [x, y] H Q E0
theorem op_binS {op : Operator} (m : Md X.prog X.w X.K X.mg X.base n C (PySem.dunder op.info.2) sp) (sf : PySem.W.selfFirst X.K C = true) (hr : Room n X.A) : OpR X (binaryOp op) (rBinS C sp) := by
  intro pins s σ H x y v u Q I rx ry h
  obtain ⟨f, F, hs, hf, _⟩ := m.ex
  obtain ⟨a, b, dx, dy, fs, gs, rfl, rfl, ha, hb, q⟩ := h
  cases (show v = Value.ref a from rx)
  cases (show u = Value.ref b from ry)
  obtain ⟨mA, J, _⟩ := ins_get I.hok ha
  obtain ⟨mB, J', _⟩ := ins_get I.hok hb
  obtain ⟨od, J, _⟩ := J.look
  obtain ⟨od', J', _⟩ := J'.look
  obtain ⟨m, hF⟩ := I.fr
  refine PySem.W.binop_K hF I.ok.mod.kin J J'.type sf hs hf ?_
  refine wpAny_mono (wpAny_call (run_fnR (us := [.ref a, .ref b]) (vs := [.ref a, .ref b]) F hr pass0 I (.cons rfl (.cons rfl .nil)) q)) (fun w s' z => ?_) fun _ _ x => x
  obtain ⟨z', H', I', rz, qz⟩ := z
  exact SlX.cmpback rz ⟨z', H', I', rz, qz⟩
/-- what + and the like ask of the class for an int on the right -/
structure BinI (K : PySem.W.Frag) (C : Addr) (op : Operator) : Prop where
  rc : ∃ rc, PySem.W.findIn K (.ref C) (PySem.dunderR op.info.2) = some rc ∧ (rc = none ∨ ∃ g : Addr, rc = some (.ref g))
  fo : ∃ fo, PySem.W.findIn K (.type "int") (PySem.dunder op.info.2) = some fo
  ro : ∃ ro, PySem.W.findIn K (.type "int") (PySem.dunderR op.info.2) = some ro
  sub : PySem.W.subIn K (.type "int") (.ref C) = some false
def rBinI (C : Addr) (sp : Sp) : R2 := fun x y H Q => ∃ a dx fs i, x = .ref a ∧ y = .int i ∧ H a = some (.ins C dx fs) ∧ sp [x, y] H Q E0
theorem op_binI {op : Operator} (m : Md X.prog X.w X.K X.mg X.base n C (PySem.dunder op.info.2) sp) (b : BinI X.K C op) (sf : PySem.W.selfFirst X.K C = true) (hr : Room n X.A) : OpR X (binaryOp op) (rBinI C sp) := by
  intro pins s σ H x y v u Q I rx ry h
  obtain ⟨f, F, hs, hf, _⟩ := m.ex
  obtain ⟨a, dx, fs, i, rfl, rfl, ha, q⟩ := h
  cases (show v = Value.ref a from rx)
  obtain ⟨t, rfl⟩ := (show ∃ t, u = Value.int i t from ry)
  obtain ⟨mA, J, _⟩ := ins_get I.hok ha
  obtain ⟨od, J, _⟩ := J.look
  obtain ⟨m, hF⟩ := I.fr
  obtain ⟨rc, hrc, hp⟩ := b.rc
  obtain ⟨fo, h1⟩ := b.fo
  obtain ⟨ro, h2⟩ := b.ro
  refine PySem.W.ksp_binT (T := "int") hF I.ok.mod.kin J rfl sf hs hf hrc hp h1 h2 b.sub ?_
  refine wpAny_mono (wpAny_call (run_fnR (us := [.ref a, .int i t]) (vs := [.ref a, .int i]) F hr pass0 I (.cons rfl (.cons ⟨t, rfl⟩ .nil)) q)) (fun w s' z => ?_) fun _ _ x => x
  obtain ⟨z', H', I', rz, qz⟩ := z
  exact SlX.cmpback rz ⟨z', H', I', rz, qz⟩
def rNegO (C : Addr) (sp : Sp) : V → Hp → VK → Prop := fun x H Q => ∃ a dx fs, x = .ref a ∧ H a = some (.ins C dx fs) ∧ sp [x] H Q E0
theorem un_negO (m : Md X.prog X.w X.K X.mg X.base n C "__neg__" sp) (hr : Room n X.A) : UnR X (unaryOp .USub) (rNegO C sp) := by
  intro pins s σ H x v Q I rx h
  obtain ⟨f, F, hs, hf, _⟩ := m.ex
  obtain ⟨a, dx, fs, rfl, ha, q⟩ := h
  cases (show v = Value.ref a from rx)
  obtain ⟨mA, J, _⟩ := ins_get I.hok ha
  obtain ⟨od, J, _⟩ := J.look
  obtain ⟨m, hF⟩ := I.fr
  refine PySem.W.ksp_neg hF I.ok.mod.kin J hs hf ?_
  refine wpAny_mono (wpAny_call (run_fnR (us := [.ref a]) (vs := [.ref a]) F hr pass0 I (.cons rfl .nil) q)) (fun w s' z => ?_) fun _ _ x => x
  exact z
end
/-- a reading may ask for more -/
theorem pe_imp {X : Cx} {e : Expr} {t t' : TE} (h : PE X e t) (i : ∀ σ H Q, t' σ H Q → t σ H Q) : PE X e t' := ⟨fun pins s σ H Q I q => h.run pins s σ H Q I (i σ H Q q)⟩
structure FnAt (K : PySem.W.Frag) (x : Str) (st : Stmt) : Prop where
  ex : ∃ f fd, Fun K x x st f fd ∧ PySem.W.nsIn K mainGlobals x = some (some (.ref f))
theorem fnAt {K : PySem.W.Frag} {h : Heap} {x : Str} {st : Stmt} {f : Addr} {oc : Value} {od an : Option Addr} {osl : Array (Option Value)} {kV doc pm cdv ct : Value} (_X : K.In h)
    (a : PySem.W.nsIn K mainGlobals x = some (some (.ref f))) (l : K.lookup f = some ⟨oc, od, .func (PySem.W.fnOf x x (defArgs st) (defBody st) (defScope st) .none kV doc pm an cdv ct), osl⟩)
    (c : PySem.W.codeIn K cdv x = true) (k : PySem.W.keepIn K (.ref f) = true) : FnAt K x st := ⟨f, _, fun_mk l c k, a⟩
structure MtAt (K : PySem.W.Frag) (C : Addr) (m m' qual : Str) (st : Stmt) : Prop where
  ex : ∃ f fd, Fun K m qual st f fd ∧ PySem.W.findIn K (.ref C) m' = some (some (.ref f)) ∧ PySem.W.isFn K (.ref f) = true ∧ PySem.W.fnIn K f = true
theorem mtAt {K : PySem.W.Frag} {h : Heap} {C : Addr} {m m' qual : Str} {st : Stmt} {f : Addr} {oc : Value} {od an : Option Addr} {osl : Array (Option Value)} {kV doc pm cdv ct : Value} (_X : K.In h)
    (a : PySem.W.findIn K (.ref C) m' = some (some (.ref f))) (l : K.lookup f = some ⟨oc, od, .func (PySem.W.fnOf m qual (defArgs st) (defBody st) (defScope st) .none kV doc pm an cdv ct), osl⟩)
    (c : PySem.W.codeIn K cdv qual = true) (k : PySem.W.keepIn K (.ref f) = true) (i : PySem.W.isFn K (.ref f) = true) (n : PySem.W.fnIn K f = true) : MtAt K C m m' qual st := ⟨f, _, fun_mk l c k, a, i, n⟩
section
variable {P : Program} {w : World} {K : PySem.W.Frag} {mg : Str → Option Value} {base h : Heap}
theorem cl_of {x : Str} {st : Stmt} {k : Nat} {ps : List Str} {sp : Sp} (a : FnAt K x st) (X : K.In h) (G : h.Ns mainGlobals mg)
    (hb : ∀ (kV doc pm : Value) (an : Option Addr) (cdv ct : Value) (us : List Value), us.length = ps.length → bindArgs (PySem.W.fnOf x x (defArgs st) (defBody st) (defScope st) .none kV doc pm an cdv ct) ⟨us, []⟩ = pure (ps.zip us))
    (ok : ∀ f fd, Fun K x x st f fd → FnOk P w K mg base CX0 k f fd ps sp) : Cl P w K mg base k x ps sp := by
  obtain ⟨f, fd, F, e⟩ := a.ex
  exact ⟨f, fd, ok f fd F, PySem.W.mg_of X G e, F.kp, F.binds hb⟩
theorem md_of {C : Addr} {m m' qual : Str} {st : Stmt} {k : Nat} {ps : List Str} {sp : Sp} (a : MtAt K C m m' qual st)
    (hb : ∀ (kV doc pm : Value) (an : Option Addr) (cdv ct : Value) (us : List Value), us.length = ps.length → bindArgs (PySem.W.fnOf m qual (defArgs st) (defBody st) (defScope st) .none kV doc pm an cdv ct) ⟨us, []⟩ = pure (ps.zip us))
    (ok : ∀ f fd, Fun K m qual st f fd → FnOk P w K mg base CX0 k f fd ps sp) : Md P w K mg base k C m' sp := by
  obtain ⟨f, fd, F, e, i, n⟩ := a.ex
  exact ⟨f, fnR_of (ok f fd F) (F.binds hb), e, i, n⟩
end
end OR

namespace OR
open PySem PySem.Spec PyProof.Rows L2
open AutoSeq1 (wpAny_loadPart')
/-! ### enumerate of a tuple -/
section
variable {prog : Program} {w : World} {A : Around} {E : Value → Shared → Prop} {s : Shared}
theorem nextOf_tup_item {it t : Addr} {i : Nat} {items : Array Value} {x : Value} {Q : Value → Shared → Prop} (hit : s.heap.IsTupleIter it t i) (ht : s.heap.IsTuple t items) (hx : items[i]? = some x)
    (hQ : ∀ h', h'.IsTupleIter it t (i + 1) → Heap.SameBut it s.heap h' → Q x { s with heap := h' }) : wpAny (model prog w) A (Builtin.SmallTypes.nextOf (.ref it)) Q E s := by
  obtain ⟨o, ho, hc, hd⟩ := id hit
  obtain ⟨ol, hol, _, nl, hdl⟩ := ht
  unfold Builtin.SmallTypes.nextOf
  refine wpAny_bind (wpAny_callSpecial?_slot (name := Str.ofString "__next__") hit.typeIs F.slot_tuple_iterator_next (wpAny_call_entry F.slot_tuple_iterator_next hit.typeIs F.entry_tuple_iterator_next ?_ (F.args_tuple_iterator_next_1 _)))
  show wpAny _ _ (field (.ref it) 0 >>= _) _ _ s
  refine wpAny_bind (wpAny_field ho hd (x := .ref t) rfl ?_)
  show wpAny _ _ (if (Value.ref t == Value.none) = true then _ else _) _ _ s
  rw [if_neg (show ¬ ((Value.ref t == Value.none) = true) by exact Bool.false_ne_true)]
  show wpAny _ _ (field (.ref it) 1 >>= _) _ _ s
  refine wpAny_bind (wpAny_field ho hd (x := .int i 0) rfl ?_)
  show wpAny _ _ (seqItems? (.ref t) >>= _) _ _ s
  refine wpAny_bind (wpAny_seqItems hol hdl ?_)
  simp only [Int.toNat_natCast, hx]
  refine wpAny_bind (wpAny_setField ho hd (by simp) (wpAny_pure ⟨x, rfl, wpAny_pure (hQ _ ⟨_, Heap.get?_update_self _ ho (Obj.isFreed_of_fields (Obj.data_mapFields hd _)), (Obj.cls_mapFields ..).trans hc, by
    rw [Obj.data_mapFields hd]; simp [rawInt]⟩ (Heap.SameBut.update ..))⟩))
theorem nextOf_tup_end {it t : Addr} {i : Nat} {items : Array Value} {Q : Value → Shared → Prop} (hh : A.handled = none) (hit : s.heap.IsTupleIter it t i) (ht : s.heap.IsTuple t items) (hx : items[i]? = none)
    (hE : ∀ h' e, Heap.ExtBut it s.heap h' → (∃ o, h'.get? e = some o ∧ o.cls = .type "StopIteration") → E (.ref e) { s with heap := h' }) : wpAny (model prog w) A (Builtin.SmallTypes.nextOf (.ref it)) Q E s := by
  obtain ⟨o, ho, hc, hd⟩ := id hit
  obtain ⟨ol, hol, _, nl, hdl⟩ := ht
  unfold Builtin.SmallTypes.nextOf
  refine wpAny_bind (wpAny_callSpecial?_slot (name := Str.ofString "__next__") hit.typeIs F.slot_tuple_iterator_next (wpAny_call_entry F.slot_tuple_iterator_next hit.typeIs F.entry_tuple_iterator_next ?_ (F.args_tuple_iterator_next_1 _)))
  show wpAny _ _ (field (.ref it) 0 >>= _) _ _ s
  refine wpAny_bind (wpAny_field ho hd (x := .ref t) rfl ?_)
  show wpAny _ _ (if (Value.ref t == Value.none) = true then _ else _) _ _ s
  rw [if_neg (show ¬ ((Value.ref t == Value.none) = true) by exact Bool.false_ne_true)]
  show wpAny _ _ (field (.ref it) 1 >>= _) _ _ s
  refine wpAny_bind (wpAny_field ho hd (x := .int i 0) rfl ?_)
  show wpAny _ _ (seqItems? (.ref t) >>= _) _ _ s
  refine wpAny_bind (wpAny_seqItems hol hdl ?_)
  simp only [Int.toNat_natCast, hx]
  refine wpAny_bind (wpAny_rule (wpAny_bind (wpAny_setField ho hd (by simp) ?_)))
  show wpAny _ _ (newExc (.type "StopIteration") [] >>= _) _ _ _
  refine wpAny_bind ?_
  simp only [newExc, newTuple]
  refine wpAny_bind (wpAny_newObj_type ?_ (by size_fits))
  refine wpAny_bind (m := firstArgMember _ _) (wpAny_of_eq (a := Value.none) (by first | rfl | (simp only [firstArgMember]; rfl)) ?_)
  refine wpAny_newObj_type ?_ (by size_fits)
  simp only [raiseNew]
  refine wpAny_bind (wpAny_handled ?_)
  first | rw [show A.in1.handled = none from hh] | rw [hh]
  refine wpAny_bind (wpAny_pure (wpAny_throw ?_))
  exact hE _ _ (((Heap.SameBut.update ..).extBut.push _).push _) ⟨_, Heap.get?_push_size _ rfl, rfl⟩
theorem draws_tup (hh : A.handled = none) (it t : Addr) (hne : t ≠ it) (items : Array Value) :
    Draws prog w A it [it, t] items.size (fun i v => items[i]? = some v) (fun i h => h.IsTupleIter it t i ∧ h.IsTuple t items) where
  live := fun _ _ st => let ⟨o, ho, _⟩ := st.1; ⟨o, ho⟩
  frame := fun _ _ _ st hk => ⟨let ⟨o, ho, r⟩ := st.1; ⟨o, hk it (by simp) o ho, r⟩, let ⟨o, ho, r⟩ := st.2; ⟨o, hk t (by simp) o ho, r⟩⟩
  item := fun i s Q E hi st hQ => by
    refine nextOf_tup_item st.1 st.2 (x := items[i]) (by simp [hi]) fun h' hit' hs' => ?_
    exact hQ _ h' s.toks (by simp [hi]) ⟨hit', st.2.extBut hs'.extBut hne⟩ hs'
  done := fun s Q E st hE => nextOf_tup_end hh st.1 st.2 (by simp) hE
theorem meets_enum_tup (l : Addr) (items : Array Value) (n : Nat) (dct : Option Addr) (sl : Array (Option Value)) :
    Meets (Builtin.«enumerate.__new__» ⟨[.type "enumerate", .ref l], []⟩) (fun _ R s => s.heap.get? l = some { cls := .type "tuple", dict := dct, data := .seq items n, slots := sl } ∧
      R (.ok (.ret (.ref (s.heap.push { cls := .type "tuple_iterator", data := .fields #[.ref l, .int 0 0] }).objs.size)))
        { s with heap := (s.heap.push { cls := .type "tuple_iterator", data := .fields #[.ref l, .int 0 0] }).push { cls := .type "enumerate", data := .fields #[.none, .bool false, .ref s.heap.objs.size, rawInt 0, .none, .none] } }) :=
  .of_wp fun prog w A R s h => by
    obtain ⟨hp, g, d, tk, os⟩ := s
    obtain ⟨hl, h⟩ := h
    have hsub := sub_enumerate
    have hL : Heap.IsTuple (Shared.heap ⟨hp, g, d, tk, os⟩) l items := ⟨_, hl, rfl, n, rfl⟩
    wp_walk using wpAny_loadPart' hl
    refine wpAny_stack_any fun st => wpAny_pure ?_
    split
    · rename_i c _ _ _ _ _
      cases (c == Value.type "enumerate")
      · wp_walk using wpAny_loadPart' hl, wpAny_pyIter_tuple hL
        exact ⟨_, rfl, h⟩
      · wp_walk using wpAny_loadPart' hl, wpAny_pyIter_tuple hL
        exact ⟨_, rfl, h⟩
    · wp_walk using wpAny_loadPart' hl, wpAny_pyIter_tuple hL
      exact ⟨_, rfl, h⟩
theorem call_enum_tup {l : Addr} {items : Array Value} {Q : Value → Shared → Prop} (hL : s.heap.IsTuple l items)
    (h : ∀ h', IsEnum h' (s.heap.objs.size + 1) s.heap.objs.size 0 .none → h'.IsTupleIter s.heap.objs.size l 0 → h'.objs.size = s.heap.objs.size + 2 →
      (∀ b o, s.heap.get? b = some o → h'.get? b = some o) → Q (.ref (s.heap.objs.size + 1)) { s with heap := h' }) :
    wpAny (model prog w) A (call (.type "enumerate") [.ref l]) Q E s := by
  obtain ⟨⟨c, dct, dt, sl⟩, hl, hc, n, hd⟩ := hL
  replace hc : c = .type "tuple" := hc
  replace hd : dt = .seq items n := hd
  subst hc hd
  refine callType_new F.called_enumerate (by decide) (F.typeCall_enumerate_1 _) (F.newCall_enumerate_1 _) (fun obj => F.args_object_init_2 obj _) F.entry_enumerate_new (meets_enum_tup l items n dct sl) ⟨hl, ?_⟩
  have hz : (s.heap.push { cls := .type "tuple_iterator", data := .fields #[.ref l, .int 0 0] }).objs.size = s.heap.objs.size + 1 := Heap.size_push ..
  show _ ∧ _
  rw [hz]
  have he : IsEnum ((s.heap.push { cls := .type "tuple_iterator", data := .fields #[.ref l, .int 0 0] }).push
      { cls := .type "enumerate", data := .fields #[.none, .bool false, .ref s.heap.objs.size, rawInt 0, .none, .none] }) (s.heap.objs.size + 1) s.heap.objs.size 0 .none := by
    have := Heap.get?_push_size (s.heap.push { cls := .type "tuple_iterator", data := .fields #[.ref l, .int 0 0] })
      (o := { cls := .type "enumerate", data := .fields #[.none, .bool false, .ref s.heap.objs.size, rawInt 0, .none, .none] }) rfl
    rw [hz] at this; exact this
  refine ⟨⟨_, he, rfl⟩, h _ he ⟨_, Heap.get?_push_of_some _ (Heap.get?_push_size _ rfl), rfl, rfl⟩ (by rw [Heap.size_push, hz]) fun b o x => Heap.get?_push_of_some _ (Heap.get?_push_of_some _ x)⟩
end
/-- the tuple at a as it stands at each turn, each item in a new pair -/
def IteT (K : PySem.W.Frag) (a : Addr) : It :=
  ⟨fun i H => ∃ (xs : List V) (x : V), SqT K H a xs ∧ xs[i]? = some x, fun i H v H' => ∃ T x, v = .ref T ∧ H T = none ∧ H' = upd H T (.tup [.int (i : Nat), x]) ∧ ∀ xs, SqT K H a xs → xs[i]? = some x, fun i H => ∃ xs : List V, SqT K H a xs ∧ xs.length ≤ i⟩
theorem turn_enumT {P : Program} {w : World} {K : PySem.W.Frag} {elts : List Expr} {kk : Nat} {tpos : Pos} (a e it : Addr) (hai : a ≠ it) (hea : e ≠ a) :
    Turn P w K (.Tuple elts kk tpos) (IteT K a) [e, it] e (fun i h => (∃ old, IsEnum h e it ((i : Nat) : Int) old) ∧ h.IsTupleIter it a i ∧ e ≠ it) where
  mem := by simp
  obj := fun i h st b hb => by
    obtain ⟨⟨old, he⟩, ⟨o, ho, hc, hd⟩, _⟩ := st
    have e' : b = e ∨ b = it := by simpa using hb
    rcases e' with z | z
    · rw [z]; exact ⟨_, he, fun v q => nomatch q⟩
    · rw [z]; exact ⟨o, ho, fun v q => by rw [hd] at q; cases q⟩
  keep := fun i h h' st k => by
    obtain ⟨⟨old, he⟩, ⟨o, ho, r⟩, hne⟩ := st
    exact ⟨⟨old, k e (by simp) _ he⟩, ⟨o, k it (by simp) o ho, r⟩, hne⟩
  item := by
    intro X hP hw hK hc i pins s σ H E I hf st hg
    subst hP hw hK
    obtain ⟨⟨old, he⟩, hit, hne⟩ := st
    obtain ⟨xs, x, hq, hx⟩ := hg
    obtain ⟨its, rv, p, hz⟩ := I.tuple hq
    obtain ⟨u, hu, ru⟩ := rv.get hx
    have hel : e < s.heap.objs.size := Heap.lt_size he
    have hil : it < s.heap.objs.size := by obtain ⟨_, q, _⟩ := hit; exact Heap.lt_size q
    have hD := draws_tup (prog := X.prog) (w := X.w) (A := X.A.in1) (I.ok.hd hc) it a hai its.toArray
    have hlt : i < its.toArray.size := by
      have := (List.getElem?_eq_some_iff.mp hu).1
      simpa using this
    refine wpAny_pyNext_enum_itemD hD he ⟨hit, show s.heap.IsTuple a its.toArray from p⟩ hlt hne (by simp [hne, hea]) fun y h' tk hy ho hst' hT hsz hk => ?_
    obtain rfl : y = u := by
      have h1 : its[i]? = some y := by simpa using hy
      rw [hu] at h1
      exact (Option.some.inj h1).symm
    refine ⟨_, rfl, wpAny_letOwnedTupleGo_enum (s := { s with heap := h', toks := tk + 1 }) ho fun h'' he' sb => ?_⟩
    have hT2 : h''.get? s.heap.objs.size = some { cls := .type "tuple", data := .seq #[.int i tk, y] } := (sb.2 _ (Nat.ne_of_gt hel)).trans hT
    have new : ObjOk X.prog X.w (upd H s.heap.objs.size (.tup [.int (i : Nat), x])) h'' s.heap.objs.size (.tup [.int (i : Nat), x]) :=
      ⟨by show 2 ≤ sizeLine; decide, [.int i tk, y], .cons ⟨_, rfl⟩ (.cons ru .nil), ⟨_, hT2, rfl, _, rfl⟩⟩
    have I1 : Inv X pins σ (upd H s.heap.objs.size (.tup [.int (i : Nat), x])) { s with heap := h'', toks := tk + 1 } :=
      I.turnedNew (ch := [e, it]) (fun b ob hb q => (sb.2 b (fun z => hb (by simp [z]))).trans (hk b ob (fun z => hb (by simp [z])) (fun z => hb (by simp [z])) q)) hf (Nat.le_refl _) new
    refine ⟨.ref s.heap.objs.size, _, I1, rfl, ⟨_, x, rfl, I.hok.fresh (Nat.le_refl _), rfl, fun ys hy => by rw [I.tuple_inj hy hq]; exact hx⟩, ⟨⟨y, ?_⟩, ?_, hne⟩, fun b hb => ?_⟩
    · have e1 : ((i + 1 : Nat) : Int) = (i : Int) + 1 := by omega
      rw [e1]; exact he'
    · obtain ⟨o, ho', r⟩ := hst'.1
      exact ⟨o, (sb.2 it (Ne.symm hne)).trans ho', r⟩
    · have hb' : b < s.heap.objs.size := by
        have e' : b = e ∨ b = it := by simpa using hb
        rcases e' with z | z
        · rw [z]; exact hel
        · rw [z]; exact hil
      rw [upd_ne (Nat.ne_of_lt hb')]
      exact (hf b hb).1
  done := by
    intro X hP hw hK hc i pins s σ H E I hf st hg
    subst hP hw hK
    obtain ⟨⟨old, he⟩, hit, hne⟩ := st
    obtain ⟨xs, hq, hx⟩ := hg
    obtain ⟨its, rv, p, hz⟩ := I.tuple hq
    obtain ⟨f0, f1, f2, f3, f4, f5⟩ := hf it (by simp)
    have hl := rv.length
    have hT : s.TypeIs (.ref e) "enumerate" := ⟨_, he, rfl⟩
    unfold pyNext
    refine wpAny_bind (wpAny_attempt (wpAny_callSpecial?_slot (name := Str.ofString "__next__") hT F.slot_enumerate_next (wpAny_call_entry F.slot_enumerate_next hT F.entry_enumerate_next ?_ (F.args_enumerate_next_1 _))))
    show wpAny _ _ (field (.ref e) 2 >>= _) _ _ _
    refine wpAny_bind (wpAny_field he rfl (x := .ref it) rfl ?_)
    refine wpAny_bind (nextOf_tup_end (I.ok.hd hc) hit (show s.heap.IsTuple a its.toArray from p) (by simp; omega) fun h' x he' hx' => ?_)
    obtain ⟨o, ho, hc'⟩ := hx'
    refine wpAny_bind (wpAny_isInstance (T := "StopIteration") (b := true) ⟨o, ho, hc'⟩ isSubtype_stop ?_)
    exact wpAny_pure ⟨rfl, I.turned (t' := s.toks) (fun b o hb q => he' b o hb q) f0 f1 f3 f4 f5⟩
  self := fun A i s Q E st h => let ⟨⟨_, he⟩, _⟩ := st; wpAny_pyIter_enum he h
def iEnumT (K : PySem.W.Frag) (ta : TA) : TI := fun σ H R => ta σ H fun vs H1 => ∃ a xs, vs = [.ref a] ∧ SqT K H1 a xs ∧ R (IteT K a) H1
theorem pi_enumT {X : Cx} {e : Expr} {ta : TA} {p pos tpos : Pos} {elts : List Expr} {kk : Nat} (hg : Gl X "enumerate") (hm : X.mg "enumerate" = none) (ha : PA X [e] ta) (hs : starEach [e] X.env = [(false, eval e X.env)] := by rfl) :
    PI X (.Tuple elts kk tpos) (.Call (.Name "enumerate" p) [e] [] pos) (iEnumT X.K ta) := by
  refine ⟨fun pins s σ H R I h => ?_⟩
  refine Call_ (ld_blt I hg hm boot_enumerate (PyProof.Rows.callWith_type1 (thn (ha.run pos pins s σ H _ I h) fun us s1 ⟨vs, H1, I1, r1, q1⟩ => ?_) hs rfl))
  obtain ⟨a, xs, ex, hq, q⟩ := q1
  subst ex
  cases r1 with
  | cons r rr =>
    cases rr
    cases r
    obtain ⟨its, rv, p', hz⟩ := I1.tuple hq
    have pt : s1.heap.IsTuple a its.toArray := p'
    have hal : a < s1.heap.objs.size := by obtain ⟨o, ho, _⟩ := pt; exact Heap.lt_size ho
    refine call_enum_tup pt fun h' he hit hsz hk => wpAny_pyIter_enum he ?_
    have I2 : Inv X pins σ H1 { s1 with heap := h' } := I1.kept (t' := s1.toks) hk
    refine ⟨s1.heap.objs.size + 1, [s1.heap.objs.size + 1, s1.heap.objs.size], _, _, H1, rfl, I2, turn_enumT a (s1.heap.objs.size + 1) s1.heap.objs.size (Nat.ne_of_lt hal) (Nat.ne_of_gt (Nat.lt_succ_of_lt hal)), ⟨⟨.none, he⟩, hit, Nat.succ_ne_self _⟩, fun b hb => ?_, q⟩
    have e' : b = s1.heap.objs.size + 1 ∨ b = s1.heap.objs.size := by simpa using hb
    have hle : s1.heap.objs.size ≤ b := by
      rcases e' with z | z
      · rw [z]; exact Nat.le_add_right _ _
      · rw [z]; exact Nat.le_refl _
    exact I1.fpOk hle (I1.hok.fresh hle)
/-- either reading of what is walked -/
theorem pi_or {X : Cx} {tg iter : Expr} {w1 w2 : TI} (h1 : PI X tg iter w1) (h2 : PI X tg iter w2) : PI X tg iter (fun σ H R => w1 σ H R ∨ w2 σ H R) :=
  ⟨fun pins s σ H R I q => q.elim (h1.run pins s σ H R I) (h2.run pins s σ H R I)⟩
theorem pg_or {X : Cx} {tg : Expr} {g1 g2 : TG} (h1 : PG X tg g1) (h2 : PG X tg g2) : PG X tg (fun v σ H Q => g1 v σ H Q ∨ g2 v σ H Q) :=
  ⟨fun pins s σ H x v Q I r q => q.elim (h1.run pins s σ H x v Q I r) (h2.run pins s σ H x v Q I r)⟩
end OR

namespace OR
abbrev Row := Int × Int
def mem (l : List Row) (x : Int) : Prop := ∃ r ∈ l, r.1 ≤ x ∧ x ≤ r.2
theorem mem_nil (x : Int) : ¬ mem [] x := fun ⟨_, h, _⟩ => nomatch h
theorem mem_cons {r : Row} {l : List Row} {x : Int} : mem (r :: l) x ↔ (r.1 ≤ x ∧ x ≤ r.2) ∨ mem l x := by
  constructor
  · rintro ⟨q, hq, h⟩
    rcases List.mem_cons.mp hq with e | e
    · subst e
      exact .inl h
    · exact .inr ⟨q, e, h⟩
  · rintro (h | ⟨q, hq, h⟩)
    · exact ⟨r, List.mem_cons_self, h⟩
    · exact ⟨q, List.mem_cons_of_mem _ hq, h⟩
theorem mem_append {l m : List Row} {x : Int} : mem (l ++ m) x ↔ mem l x ∨ mem m x := by
  constructor
  · rintro ⟨q, hq, h⟩
    rcases List.mem_append.mp hq with e | e
    · exact .inl ⟨q, e, h⟩
    · exact .inr ⟨q, e, h⟩
  · rintro (⟨q, hq, h⟩ | ⟨q, hq, h⟩)
    · exact ⟨q, List.mem_append_left _ hq, h⟩
    · exact ⟨q, List.mem_append_right _ hq, h⟩
theorem mem_same {l m : List Row} (h : ∀ r, r ∈ l ↔ r ∈ m) (x : Int) : mem l x ↔ mem m x :=
  ⟨fun ⟨q, hq, k⟩ => ⟨q, (h q).mp hq, k⟩, fun ⟨q, hq, k⟩ => ⟨q, (h q).mpr hq, k⟩⟩
theorem mem_reverse {l : List Row} {x : Int} : mem l.reverse x ↔ mem l x := mem_same (fun _ => List.mem_reverse) x
/-- the one form: in order, with a gap between any two -/
structure Nf (l : List Row) : Prop where
  ok : ∀ r ∈ l, r.1 ≤ r.2
  gap : l.Pairwise fun r s => r.2 + 1 < s.1
theorem Nf.nil : Nf [] := ⟨fun _ h => (nomatch h), .nil⟩
theorem Nf.tail {r : Row} {l : List Row} (h : Nf (r :: l)) : Nf l := ⟨fun q hq => h.ok q (List.mem_cons_of_mem _ hq), (List.pairwise_cons.mp h.gap).2⟩
theorem Nf.head {r : Row} {l : List Row} (h : Nf (r :: l)) : r.1 ≤ r.2 := h.ok r List.mem_cons_self
theorem Nf.behind {r : Row} {l : List Row} (h : Nf (r :: l)) {x : Int} (m : mem l x) : r.2 + 1 < x := by
  obtain ⟨q, hq, h1, _⟩ := m
  have := (List.pairwise_cons.mp h.gap).1 q hq
  omega
/-- the one form is told by its places -/
theorem Nf.unique : ∀ {l m : List Row}, Nf l → Nf m → (∀ x, mem l x ↔ mem m x) → l = m
  | [], [], _, _, _ => rfl
  | [], s :: m, _, hm, h => absurd ((h s.1).mpr (mem_cons.mpr (.inl ⟨Int.le_refl _, hm.head⟩))) (mem_nil _)
  | r :: l, [], hl, _, h => absurd ((h r.1).mp (mem_cons.mpr (.inl ⟨Int.le_refl _, hl.head⟩))) (mem_nil _)
  | r :: l, s :: m, hl, hm, h => by
    have lr := hl.head
    have ls := hm.head
    have least : ∀ {x}, mem (r :: l) x → r.1 ≤ x := fun {x} hx => by
      rcases mem_cons.mp hx with k | k
      · exact k.1
      · have := hl.behind k; omega
    have least' : ∀ {x}, mem (s :: m) x → s.1 ≤ x := fun {x} hx => by
      rcases mem_cons.mp hx with k | k
      · exact k.1
      · have := hm.behind k; omega
    have e1 : r.1 = s.1 := by
      have a := least ((h s.1).mpr (mem_cons.mpr (.inl ⟨Int.le_refl _, ls⟩)))
      have b := least' ((h r.1).mp (mem_cons.mpr (.inl ⟨Int.le_refl _, lr⟩)))
      omega
    have nr : ¬ mem (r :: l) (r.2 + 1) := fun k => by
      rcases mem_cons.mp k with k | k
      · omega
      · have := hl.behind k; omega
    have ns : ¬ mem (s :: m) (s.2 + 1) := fun k => by
      rcases mem_cons.mp k with k | k
      · omega
      · have := hm.behind k; omega
    have e2 : r.2 = s.2 := by
      rcases Int.lt_trichotomy r.2 s.2 with k | k | k
      · exact absurd ((h _).mpr (mem_cons.mpr (.inl ⟨by omega, by omega⟩))) nr
      · exact k
      · exact absurd ((h _).mp (mem_cons.mpr (.inl ⟨by omega, by omega⟩))) ns
    have e : r = s := Prod.ext e1 e2
    subst e
    congr 1
    refine Nf.unique hl.tail hm.tail fun x => ⟨fun k => ?_, fun k => ?_⟩
    · have b := hl.behind k
      rcases mem_cons.mp ((h x).mp (mem_cons.mpr (.inr k))) with z | z
      · omega
      · exact z
    · have b := hm.behind k
      rcases mem_cons.mp ((h x).mpr (mem_cons.mpr (.inr k))) with z | z
      · omega
      · exact z
/-- a row more behind rows in one form, which are written backwards -/
def jstep : List Row → Row → List Row
  | [], r => [r]
  | q :: t, r => if r.1 ≤ q.2 + 1 then (q.1, if r.2 > q.2 then r.2 else q.2) :: t else r :: q :: t
def jfold (l : List Row) : List Row := l.foldl jstep []
/-- what the fold keeps: acc stands backwards -/
structure Jn (acc : List Row) (done : List Row) (b : Int) : Prop where
  nf : Nf acc.reverse
  up : ∀ q ∈ acc, q.1 ≤ b
  me : ∀ x, mem acc x ↔ mem done x
theorem nf_snoc {l : List Row} {r : Row} (h : Nf l) (hr : r.1 ≤ r.2) (hg : ∀ q ∈ l, q.2 + 1 < r.1) : Nf (l ++ [r]) := by
  refine ⟨fun q hq => ?_, List.pairwise_append.mpr ⟨h.gap, List.pairwise_singleton _ _, fun a ha b hb => ?_⟩⟩
  · rcases List.mem_append.mp hq with k | k
    · exact h.ok q k
    · rw [List.mem_singleton.mp k]; exact hr
  · rw [List.mem_singleton.mp hb]; exact hg a ha
theorem nf_unsnoc {l : List Row} {r : Row} (h : Nf (l ++ [r])) : Nf l ∧ r.1 ≤ r.2 ∧ ∀ q ∈ l, q.2 + 1 < r.1 := by
  have g := List.pairwise_append.mp h.gap
  exact ⟨⟨fun q hq => h.ok q (List.mem_append_left _ hq), g.1⟩, h.ok r (List.mem_append_right _ (List.mem_singleton.mpr rfl)), fun q hq => g.2.2 q hq r (List.mem_singleton.mpr rfl)⟩
theorem Jn.step {acc done : List Row} {b : Int} {r : Row} (h : Jn acc done b) (hb : b ≤ r.1) (hr : r.1 ≤ r.2) : Jn (jstep acc r) (done ++ [r]) r.1 := by
  have tailm : ∀ x, mem [r] x ↔ (r.1 ≤ x ∧ x ≤ r.2) := fun x => by
    rw [mem_cons]
    exact ⟨fun k => k.elim id fun z => absurd z (mem_nil _), .inl⟩
  cases acc with
  | nil =>
    refine ⟨nf_snoc Nf.nil hr (fun _ z => nomatch z), fun q hq => ?_, fun x => ?_⟩
    · rw [List.mem_singleton.mp hq]; exact Int.le_refl _
    · rw [mem_append, ← h.me x]
      exact ⟨.inr, fun k => k.elim (fun z => absurd z (mem_nil _)) id⟩
  | cons q t =>
    have n := h.nf
    rw [List.reverse_cons] at n
    obtain ⟨nt, hq, gq⟩ := nf_unsnoc n
    have hqr : q.1 ≤ r.1 := Int.le_trans (h.up q List.mem_cons_self) hb
    show Jn (if r.1 ≤ q.2 + 1 then (q.1, if r.2 > q.2 then r.2 else q.2) :: t else r :: q :: t) (done ++ [r]) r.1
    by_cases c : r.1 ≤ q.2 + 1
    · rw [if_pos c]
      refine ⟨?_, fun z hz => ?_, fun x => ?_⟩
      · rw [List.reverse_cons]
        refine nf_snoc nt ?_ fun z hz => gq z hz
        show q.1 ≤ (if r.2 > q.2 then r.2 else q.2)
        split <;> omega
      · rcases List.mem_cons.mp hz with e | e
        · subst e; exact hqr
        · exact Int.le_trans (h.up z (List.mem_cons_of_mem _ e)) hb
      · rw [mem_append, ← h.me x, mem_cons, mem_cons, tailm]
        show ((q.1 ≤ x ∧ x ≤ (if r.2 > q.2 then r.2 else q.2)) ∨ mem t x) ↔ _
        constructor
        · rintro (⟨k1, k2⟩ | k)
          · by_cases hx : x ≤ q.2
            · exact .inl (.inl ⟨k1, hx⟩)
            · split at k2
              · exact .inr ⟨by omega, k2⟩
              · omega
          · exact .inl (.inr k)
        · rintro ((⟨k1, k2⟩ | k) | ⟨k1, k2⟩)
          · refine .inl ⟨k1, ?_⟩
            split <;> omega
          · exact .inr k
          · refine .inl ⟨by omega, ?_⟩
            split <;> omega
    · rw [if_neg c]
      refine ⟨?_, fun z hz => ?_, fun x => ?_⟩
      · rw [List.reverse_cons, List.reverse_cons]
        refine nf_snoc n hr fun z hz => ?_
        rcases List.mem_append.mp hz with k | k
        · have := gq z k; omega
        · rw [List.mem_singleton.mp k]; omega
      · rcases List.mem_cons.mp hz with e | e
        · subst e; exact Int.le_refl _
        · exact Int.le_trans (h.up z e) hb
      · rw [mem_append, ← h.me x, mem_cons, tailm]
        exact ⟨fun k => k.elim .inr .inl, fun k => k.elim .inr .inl⟩
theorem Jn.nil (b : Int) : Jn [] [] b := ⟨Nf.nil, fun _ h => (nomatch h), fun _ => Iff.rfl⟩
/-- the fold over rows that ascend -/
theorem jfold_go : ∀ (l acc done : List Row) (b : Int), Jn acc done b → (∀ r ∈ l, r.1 ≤ r.2) → (∀ r ∈ l, b ≤ r.1) → l.Pairwise (fun r s => r.1 ≤ s.1) → ∃ b', Jn (l.foldl jstep acc) (done ++ l) b'
  | [], acc, done, b, h, _, _, _ => ⟨b, by rw [List.append_nil]; exact h⟩
  | r :: l, acc, done, b, h, ho, hb, hs => by
    have p := List.pairwise_cons.mp hs
    obtain ⟨b', h'⟩ := jfold_go l (jstep acc r) (done ++ [r]) r.1 (h.step (hb r List.mem_cons_self) (ho r List.mem_cons_self)) (fun q hq => ho q (List.mem_cons_of_mem _ hq)) (fun q hq => p.1 q hq) p.2
    exact ⟨b', by rw [List.append_assoc] at h'; exact h'⟩
theorem jfold_ok {l : List Row} (ho : ∀ r ∈ l, r.1 ≤ r.2) (hs : l.Pairwise (fun r s => r.1 ≤ s.1)) : Nf (jfold l).reverse ∧ ∀ x, mem (jfold l).reverse x ↔ mem l x := by
  cases l with
  | nil => exact ⟨Nf.nil, fun _ => Iff.rfl⟩
  | cons r l =>
    have p := List.pairwise_cons.mp hs
    obtain ⟨b', h⟩ := jfold_go (r :: l) [] [] r.1 (Jn.nil _) ho (fun q hq => by
      rcases List.mem_cons.mp hq with e | e
      · subst e; exact Int.le_refl _
      · exact p.1 q e) hs
    exact ⟨h.nf, fun x => by rw [mem_reverse]; exact h.me x⟩
end OR

namespace OR
open PySem PySem.Spec PyProof.Rows L2
/-! ### the code of Places -/
def lastP : Int := 10 ^ 30
def placeB (n : Int) : Bool := decide (0 ≤ n) && decide (n ≤ lastP)
def okRow (r : Row) : Bool := placeB r.1 && (placeB r.2 && decide (r.1 ≤ r.2))
structure PTxt (K : PySem.W.Frag) (mg : Str → Option Value) (C : Addr) : Prop where
  cl : Cls K C
  nS : NoAttr K C "stretches"
  nF : NoAttr K C "_firsts"
  nB : NoAttr K C "_before"
  mgC : mg "Places" = some (.ref C)
  isi : SlX.SIsi K C
  kPP : PySem.W.kitOne K (.ref C) (.ref C) = some true
  zIsi : mg "isinstance" = none
  zInt : mg "int" = none
  zBool : mg "bool" = none
  zTup : mg "tuple" = none
  zList : mg "list" = none
  zLen : mg "len" = none
  zMax : mg "max" = none
  zSort : mg "sorted" = none
  zEnum : mg "enumerate" = none
  last : ∃ t, mg "LAST_PLACE" = some (.int lastP t)
theorem bt_isi : bootBuiltins ("isinstance" : Str) = some (.builtin "isinstance") := by decide +kernel
theorem bt_int : bootBuiltins ("int" : Str) = some (.type "int") := by decide +kernel
theorem bt_bool : bootBuiltins ("bool" : Str) = some (.type "bool") := by decide +kernel
theorem bt_tup : bootBuiltins ("tuple" : Str) = some (.type "tuple") := by decide +kernel
theorem bt_list : bootBuiltins ("list" : Str) = some (.type "list") := by decide +kernel
theorem bt_max : bootBuiltins ("max" : Str) = some (.builtin "max") := by decide +kernel
theorem bt_min : bootBuiltins ("min" : Str) = some (.builtin "min") := by decide +kernel
theorem bt_sorted : bootBuiltins ("sorted" : Str) = some (.builtin "sorted") := by decide +kernel
/-- any value whose type is known -/
def spIsIntG (K : PySem.W.Frag) : Sp := fun vs H Q _ => ∃ (x : V) (T : String) (b1 b2 : Bool), vs = [x] ∧ TyX K H x (.type T) ∧ kitB T "int" = some b1 ∧ kitB T "bool" = some b2 ∧ Q (.bl (b1 && !b2)) H
def spIsPlace (K : PySem.W.Frag) : Sp := fun vs H Q _ => ∃ x, vs = [x] ∧ ((∃ n, x = .int n ∧ Q (.bl (placeB n)) H) ∨ ∃ (T : String) (b1 b2 : Bool), TyX K H x (.type T) ∧ kitB T "int" = some b1 ∧ kitB T "bool" = some b2 ∧ (b1 && !b2) = false ∧ Q (.bl false) H)
/-- a pair of integers, a tuple or a list -/
def PairAt (H : Hp) (a : Addr) (r : Row) : Prop := H a = some (.tup [.int r.1, .int r.2]) ∨ H a = some (.lst [.int r.1, .int r.2])
def spIsStretchP : Sp := fun vs H Q _ => ∃ a r, vs = [.ref a] ∧ PairAt H a r ∧ ∀ H', Same H H' → Q (.bl (okRow r)) H'
section
variable {P : Program} {w : World} {K : PySem.W.Frag} {mg : Str → Option Value} {base : Heap}
theorem scIsI : FnScope ["value"] ["value"] (defScope sIsInt) := ⟨rfl, rfl, rfl, by decide +kernel, rfl, by decide +kernel, by decide +kernel⟩
theorem ok_isintG {f C : Addr} {fd : FuncData} (F : Fun K "is_integer" "is_integer" sIsInt f fd) (T : PTxt K mg C) : FnOk P w K mg base CX0 1 f fd ["value"] (spIsIntG K) := by
  refine F.ok scIsI (fun vs H Q E h => ?_) (fun cdv A outer s H vs Q E hr h => ?_)
  · obtain ⟨x, _, _, _, rfl, _⟩ := h
    rfl
  · obtain ⟨x, ty, b1, b2, rfl, hT, h1, h2, q⟩ := h
    refine ⟨_, pss_one (ps_ret (pe_and (pe_callB call_isi (by rfl) T.zIsi bt_isi (pa_cons (pv 0) (pa_cons (pe_bltn (v := .ty "int") (by rfl) T.zInt bt_int rfl) pa_nil)))
      (pe_one (pe_not (pe_callB call_isi (by rfl) T.zIsi bt_isi (pa_cons (pv 0) (pa_cons (pe_bltn (v := .ty "bool") (by rfl) T.zBool bt_bool rfl) pa_nil))))))), ?_⟩
    refine ⟨_, rfl, x, .ty "int", _, _, b1, rfl, .ty "int", hT, kit_ty h1, b1, rfl, ?_⟩
    cases b1 with
    | true => exact iteT ⟨_, rfl, x, .ty "bool", _, _, b2, rfl, .ty "bool", hT, kit_ty h2, b2, rfl, q⟩
    | false => exact iteF q
theorem scIsP : FnScope ["value"] ["value"] (defScope sIsPlace) := ⟨rfl, rfl, rfl, by decide +kernel, rfl, by decide +kernel, by decide +kernel⟩
theorem ok_isplace {f C : Addr} {fd : FuncData} (F : Fun K "is_place" "is_place" sIsPlace f fd) (T : PTxt K mg C) (I : Cl P w K mg base 1 "is_integer" ["value"] (spIsIntG K)) : FnOk P w K mg base CX0 2 f fd ["value"] (spIsPlace K) := by
  refine F.ok scIsP (fun vs H Q E h => ?_) (fun cdv A outer s H vs Q E hr h => ?_)
  · obtain ⟨x, rfl, _⟩ := h
    rfl
  · obtain ⟨x, rfl, h⟩ := h
    obtain ⟨tl, hl⟩ := T.last
    refine ⟨_, pss_one (ps_ret (pe_and (pe_cl I hr (by decide) (by rfl) (pa_cons (pv 0) pa_nil)) (pe_one (pe_chain op_le op_le pe_int (pv 0) (pe_glob (v := .int lastP) (by rfl) hl ⟨tl, rfl⟩))))), ?_⟩
    rcases h with ⟨n, rfl, q⟩ | ⟨ty, b1, b2, hT, h1, h2, hb, q⟩
    · refine ⟨_, rfl, .int n, "int", true, false, rfl, .base (.int n), by decide +kernel, by decide +kernel, true, rfl, iteT ?_⟩
      refine ⟨_, rfl, _, _, rfl, rfl, _, rfl, ?_⟩
      unfold placeB at q
      cases e : decide ((0 : Int) ≤ n) with
      | true =>
        rw [e] at q
        exact iteT ⟨_, _, rfl, rfl, q⟩
      | false =>
        rw [e] at q
        exact iteF q
    · exact ⟨_, rfl, x, ty, b1, b2, rfl, hT, h1, h2, _, rfl, by rw [hb]; exact iteF q⟩
theorem scIsS : FnScope ["value", "first", "last"] ["value"] (defScope sIsStretch) := ⟨rfl, rfl, rfl, by decide +kernel, rfl, by decide +kernel, by decide +kernel⟩
theorem ok_isstretch {f C : Addr} {fd : FuncData} (F : Fun K "_is_stretch" "_is_stretch" sIsStretch f fd) (T : PTxt K mg C) (I : Cl P w K mg base 2 "is_place" ["value"] (spIsPlace K)) : FnOk P w K mg base CX0 3 f fd ["value"] spIsStretchP := by
  refine F.ok scIsS (fun vs H Q E h => ?_) (fun cdv A outer s H vs Q E hr h => ?_)
  · obtain ⟨a, r, rfl, _⟩ := h
    rfl
  · obtain ⟨a, r, rfl, hp, q⟩ := h
    have nd := scIsS.nd
    refine ⟨_, pss_cons (ps_if (PW.pt (pw_or (pt_not (pt_val (pe_callB call_isiT (by rfl) T.zIsi bt_isi (pa_cons (pv 0) (pa_cons (pe_tup (pa_cons (pe_bltn (v := .ty "tuple") (by rfl) T.zTup bt_tup rfl) (pa_cons (pe_bltn (v := .ty "list") (by rfl) T.zList bt_list rfl) pa_nil))) pa_nil)))))
        (pw_or1 (pt_cmpR op_ne (pe_callB call_len_seq (by rfl) T.zLen PySem.boot_len (pa_cons (pv 0) pa_nil)) pe_int (nomark _))))) (pss_one (ps_ret pe_bl)) pss_nil)
      (pss_cons (ps_asg (pv 0) (pg_or (pg_tup rfl (pgs_cons (pg_name (i := 1) nd rfl (.inl rfl)) (pgs_cons (pg_name (i := 2) nd rfl (.inl rfl)) pgs_nil))) (pg_unl rfl (pgs_cons (pg_name (i := 1) nd rfl (.inl rfl)) (pgs_cons (pg_name (i := 2) nd rfl (.inl rfl)) pgs_nil)))))
      (pss_one (ps_ret (pe_and (pe_cl I hr (by decide) (by rfl) (pa_cons (pv 1) pa_nil)) (pe_and (pe_cl I hr (by decide) (by rfl) (pa_cons (pv 2) pa_nil)) (pe_one (pe_cmpR op_le (pv 1) (pv 2) (nomark _)))))))), ?_⟩
    refine ⟨_, rfl, by show 2 ≤ sizeLine; decide, fun t ht => ?_⟩
    have S1 : Same H (upd H t (.tup [.ty "tuple", .ty "list"])) := fun b o e => by rw [upd_ne (ne_of_none e ht)]; exact e
    have hp1 : PairAt (upd H t (.tup [.ty "tuple", .ty "list"])) a r := hp.elim (fun e => .inl (S1 _ _ e)) fun e => .inr (S1 _ _ e)
    have hseq : SqL K (upd H t (.tup [.ty "tuple", .ty "list"])) a [.int r.1, .int r.2] ∨ SqT K (upd H t (.tup [.ty "tuple", .ty "list"])) a [.int r.1, .int r.2] := hp1.elim (fun e => .inr (.inl (.inl e))) fun e => .inl (.inl (.inl e))
    have hty : ∃ T, TyX K (upd H t (.tup [.ty "tuple", .ty "list"])) (.ref a) (.type T) ∧ PySem.W.kitAny K (.type T) [.type "tuple", .type "list"] = some true := by
      rcases hp1 with e | e
      · exact ⟨"tuple", .base (.tup e), kitAny_cons (kit_ty (b := "tuple") (r := true) (by decide +kernel)) (fun z => nomatch z) fun _ => rfl⟩
      · exact ⟨"list", .base (.lst e), kitAny_cons (kit_ty (b := "tuple") (r := false) (by decide +kernel)) (fun _ => kitAny_cons (kit_ty (b := "list") (r := true) (by decide +kernel)) (fun z => nomatch z) fun _ => rfl) fun z => nomatch z⟩
    obtain ⟨ty, hT, hk⟩ := hty
    refine ⟨.ref a, t, _, .type ty, [.type "tuple", .type "list"], true, rfl, upd_same, .cons (.ty "tuple") (.cons (.ty "list") .nil), hT, hk, true, rfl, iteF ?_⟩
    refine ⟨_, rfl, a, _, rfl, hseq, rfl, _, rfl, iteNS rfl ?_⟩
    have fin : ∀ (Q' : Prop), (Q (.bl (okRow r)) (upd H t (.tup [.ty "tuple", .ty "list"])) → Q') → Q' := fun Q' k => k (q _ S1)
    have tail : ∀ σ : L2.St, σ = [some (.ref a), some (.int r.1), some (.int r.2)] → (tRet (tAndV (tCall (spIsPlace K) [] E0 (tCons (tVar 1) tNil)) (tAndV (tCall (spIsPlace K) [] E0 (tCons (tVar 2) tNil)) (tOp (rI0 fun i j => .bl (decide (i ≤ j))) (tVar 1) (tVar 2))))) { nx := fun _ H' => Q .non H', rt := Q } σ (upd H t (.tup [.ty "tuple", .ty "list"])) := by
      intro σ e
      subst e
      refine ⟨_, rfl, _, rfl, .inl ⟨r.1, rfl, _, rfl, ?_⟩⟩
      have q1 := q _ S1
      unfold okRow at q1
      cases e1 : placeB r.1 with
      | false => rw [e1] at q1; exact iteF q1
      | true =>
        rw [e1] at q1
        refine iteT ⟨_, rfl, _, rfl, .inl ⟨r.2, rfl, _, rfl, ?_⟩⟩
        cases e2 : placeB r.2 with
        | false => rw [e2] at q1; exact iteF q1
        | true =>
          rw [e2] at q1
          exact iteT ⟨_, rfl, _, rfl, _, _, rfl, rfl, q1⟩
    rcases hp1 with e | e
    · exact ⟨_, rfl, .inl ⟨a, _, rfl, .inl (.inl e), rfl, _, _, rfl, _, _, rfl, rfl, tail _ rfl⟩⟩
    · exact ⟨_, rfl, .inr ⟨a, _, rfl, .inl (.inl e), rfl, _, _, rfl, _, _, rfl, rfl, tail _ rfl⟩⟩
end
end OR

namespace OR
open PySem PySem.Spec PyProof.Rows L2
/-- all but what stands at p is as it was -/
def Fre (p : Addr) (H H' : Hp) : Prop := ∀ b o, H b = some o → b ≠ p → H' b = some o
theorem Fre.refl (p : Addr) (H : Hp) : Fre p H H := fun _ _ h _ => h
theorem Fre.trans {p : Addr} {H H1 H2 : Hp} (a : Fre p H H1) (b : Fre p H1 H2) : Fre p H H2 := fun c o h n => b c o (a c o h n) n
theorem Fre.put {p : Addr} {H : Hp} {o : HO} : Fre p H (upd H p o) := fun b x e n => by rw [upd_ne n]; exact e
/-! ### rows of pairs in the heap -/
abbrev ARow := Addr × Row
def refs (L : List ARow) : List V := L.map fun p => V.ref p.1
def rws (L : List ARow) : List Row := L.map (·.2)
def AtR (H : Hp) (L : List ARow) : Prop := ∀ p ∈ L, H p.1 = some (.tup [.int p.2.1, .int p.2.2])
def PairsAt (H : Hp) (L : List ARow) : Prop := ∀ p ∈ L, PairAt H p.1 p.2
theorem AtR.same {H H' : Hp} {L : List ARow} (h : AtR H L) (s : Same H H') : AtR H' L := fun p hp => s _ _ (h p hp)
theorem PairsAt.same {H H' : Hp} {L : List ARow} (h : PairsAt H L) (s : Same H H') : PairsAt H' L := fun p hp => (h p hp).elim (fun e => .inl (s _ _ e)) fun e => .inr (s _ _ e)
theorem AtR.pairs {H : Hp} {L : List ARow} (h : AtR H L) : PairsAt H L := fun p hp => .inl (h p hp)
theorem refs_len (L : List ARow) : (refs L).length = L.length := List.length_map ..
theorem rws_len (L : List ARow) : (rws L).length = L.length := List.length_map ..
theorem refs_snoc (L : List ARow) (p : ARow) : refs (L ++ [p]) = refs L ++ [.ref p.1] := by unfold refs; rw [List.map_append]; rfl
theorem rws_snoc (L : List ARow) (p : ARow) : rws (L ++ [p]) = rws L ++ [p.2] := by unfold rws; rw [List.map_append]; rfl
theorem refs_get {L : List ARow} {i : Nat} {v : V} (h : (refs L)[i]? = some v) : ∃ p, L[i]? = some p ∧ p ∈ L ∧ v = .ref p.1 := by
  unfold refs at h
  rw [List.getElem?_map] at h
  cases e : L[i]? with
  | none => rw [e] at h; cases h
  | some p => rw [e] at h; exact ⟨p, rfl, List.mem_of_getElem? e, (Option.some.inj h).symm⟩
theorem rws_get {L : List ARow} {i : Nat} {p : ARow} (h : L[i]? = some p) : (rws L)[i]? = some p.2 := by
  unfold rws
  rw [List.getElem?_map, h]
  rfl
theorem mem_rws {L : List ARow} {r : Row} : r ∈ rws L ↔ ∃ a, (a, r) ∈ L := by
  unfold rws
  rw [List.mem_map]
  exact ⟨fun ⟨p, hp, e⟩ => ⟨p.1, by rw [← e]; exact hp⟩, fun ⟨a, h⟩ => ⟨(a, r), h, rfl⟩⟩
/-- what a reference to a pair is worth -/
def kOf (H : Hp) : V → Int × Int
  | .ref a => match H a with
    | some (.tup [.int x, .int y]) => (x, y)
    | _ => (0, 0)
  | _ => (0, 0)
theorem kOf_at {H : Hp} {a : Addr} {x y : Int} (h : H a = some (.tup [.int x, .int y])) : kOf H (.ref a) = (x, y) := by
  show (match H a with
    | some (.tup [.int x, .int y]) => (x, y)
    | _ => (0, 0)) = (x, y)
  rw [h]
def adr : V → Addr
  | .ref a => a
  | _ => 0
/-- an arrangement of references is one of rows -/
theorem refs_perm {H : Hp} {M : List ARow} {ys : List V} (hM : AtR H M) (hp : ys.Perm (refs M)) : ∃ S : List ARow, ys = refs S ∧ AtR H S ∧ (∀ r, r ∈ rws S ↔ r ∈ rws M) ∧ S.length = M.length ∧ rws S = ys.map (kOf H) := by
  have each : ∀ y ∈ ys, ∃ p ∈ M, y = .ref p.1 ∧ kOf H y = p.2 := fun y hy => by
    have := hp.mem_iff.mp hy
    unfold refs at this
    obtain ⟨p, hpM, e⟩ := List.mem_map.mp this
    subst e
    exact ⟨p, hpM, rfl, kOf_at (hM p hpM)⟩
  have back : ∀ p ∈ M, V.ref p.1 ∈ ys := fun p hpM => hp.mem_iff.mpr (List.mem_map.mpr ⟨p, hpM, rfl⟩)
  refine ⟨ys.map fun y => (adr y, kOf H y), ?_, ?_, fun r => ?_, ?_, ?_⟩
  · unfold refs
    rw [List.map_map]
    refine Eq.trans (List.map_id ys).symm (List.map_congr_left fun y hy => ?_)
    obtain ⟨p, _, rfl, _⟩ := each y hy
    rfl
  · intro q hq
    obtain ⟨y, hy, e⟩ := List.mem_map.mp hq
    obtain ⟨p, hpM, rfl, k⟩ := each y hy
    subst e
    show H p.1 = some (.tup [.int (kOf H (.ref p.1)).1, .int (kOf H (.ref p.1)).2])
    rw [k]
    exact hM p hpM
  · unfold rws
    rw [List.map_map, List.mem_map, List.mem_map]
    constructor
    · rintro ⟨y, hy, e⟩
      obtain ⟨p, hpM, rfl, k⟩ := each y hy
      exact ⟨p, hpM, by rw [← e]; exact k.symm⟩
    · rintro ⟨p, hpM, e⟩
      exact ⟨.ref p.1, back p hpM, by rw [← e]; exact kOf_at (hM p hpM)⟩
  · rw [List.length_map, hp.length_eq, refs_len]
  · unfold rws
    rw [List.map_map]
    rfl
theorem jstep_len : ∀ (acc : List Row) (r : Row), (jstep acc r).length ≤ acc.length + 1
  | [], r => Nat.le_refl _
  | q :: t, r => by
    show (if r.1 ≤ q.2 + 1 then (q.1, if r.2 > q.2 then r.2 else q.2) :: t else r :: q :: t).length ≤ _
    split
    · exact Nat.le_succ _
    · exact Nat.le_refl _
theorem jfold_len : ∀ (l acc : List Row), (l.foldl jstep acc).length ≤ acc.length + l.length
  | [], acc => Nat.le_refl _
  | r :: l, acc => by
    have h1 := jfold_len l (jstep acc r)
    have h2 := jstep_len acc r
    show (l.foldl jstep (jstep acc r)).length ≤ _
    rw [List.length_cons]
    omega
theorem ixN_last (n : Nat) : ixN (n + 1) (-1) = some n := by
  unfold ixN
  rw [if_neg (by omega), if_pos (by omega)]
  congr 1
  omega
theorem set_last (xs : List V) (v u : V) : (xs ++ [v]).set xs.length u = xs ++ [u] := by
  rw [List.set_append_right _ _ (Nat.le_refl _), Nat.sub_self]
  rfl
def rTupOf (K : PySem.W.Frag) : List V → Hp → VK → Prop := fun xs H Q => ∃ p ys, xs = [.ref p] ∧ ((SqL K H p ys ∧ ∀ l, H l = none → Q (.ref l) (upd H l (.tup ys))) ∨ (SqT K H p ys ∧ Q (.ref p) H))
theorem call_tupOf {X : Cx} (K : PySem.W.Frag) (h : X.K = K) : CallR X (.type "tuple") (rTupOf K) := by
  subst h
  exact call_tuple_of
theorem yesT {σ : L2.St} {H : Hp} {A B : Hp → Prop} (h : A H) : tYes σ H (fun b H3 => if b = true then A H3 else B H3) := by
  show if true = true then A H else B H
  rw [if_pos rfl]
  exact h
theorem same_upd {H H' : Hp} {b : Addr} {u : HO} (s : Same H H') (h : H b = none) : Same H (upd H' b u) := fun c v e => by rw [upd_ne (ne_of_none e h)]; exact s c v e
theorem same_lay {H : Hp} {q : Addr} {o : HO} (h : H q = none) : Same H (upd H q o) := fun b x e => by rw [upd_ne (ne_of_none e h)]; exact e
theorem sameT {K : PySem.W.Frag} {H H' : Hp} {a : Addr} {xs : List V} (e : Same H H') (h : SqT K H a xs) : SqT K H' a xs := by
  rcases h with (h | ⟨o, h⟩) | h
  · exact .inl (.inl (e _ _ h))
  · exact .inl (.inr ⟨o, e _ _ h⟩)
  · exact .inr h
def spJoined (K : PySem.W.Frag) : Sp := fun vs H Q _ => ∃ (a : Addr) (L : List ARow), vs = [.ref a] ∧ (SqL K H a (refs L) ∨ SqT K H a (refs L)) ∧ L.length ≤ 1000 ∧ PairsAt H L ∧ (∀ r ∈ rws L, r.1 ≤ r.2) ∧
  ∀ (t : Addr) (M : List ARow) (H' : Hp), Same H H' → H t = none → H' t = some (.tup (refs M)) → AtR H' M → Nf (rws M) → (∀ x, mem (rws M) x ↔ mem (rws L) x) → M.length ≤ L.length → Q (.ref t) H'
section
variable {P : Program} {w : World} {K : PySem.W.Frag} {mg : Str → Option Value} {base : Heap}
theorem scJ : FnScope ["stretches", "rows", "first", "last", "stretch"] ["stretches"] (defScope sJoined) := ⟨rfl, rfl, rfl, by decide +kernel, rfl, by decide +kernel, by decide +kernel⟩
theorem small_l {n : Nat} (h : n ≤ 1000) : n ≤ sizeLine := Nat.le_of_lt (small1000 h)
theorem ok_joined {f C : Addr} {fd : FuncData} (F : Fun K "_joined" "_joined" sJoined f fd) (T : PTxt K mg C) : FnOk P w K mg base CX0 1 f fd ["stretches"] (spJoined K) := by
  refine F.ok scJ (fun vs H Q E h => ?_) (fun cdv A outer s H vs Q E hr h => ?_)
  · obtain ⟨a, L, rfl, _⟩ := h
    rfl
  · obtain ⟨a, L, rfl, hS, hlen, hP, hok, q⟩ := h
    have nd := scJ.nd
    refine ⟨_, pss_cons (ps_set (i := 1) nd rfl (.inl rfl) (pe_lst pa_nil))
      (pss_cons (ps_for PassesOwn.never rfl (pi_list (pe_callB cr_sortedPO (by rfl) T.zSort bt_sorted (pa_cons
            (pe_lc (own := [("stretch", 4)]) (g := gName 4) (tt := tYes) rfl nd (pi_or (pi_list (pv 0)) (pi_tup (pv 0))) (blkOk_by (N := ["stretches", "rows", "first", "last", "stretch"]) (sc := defScope sJoined) (by decide +kernel))
              (fun _ _ _ _ _ => pg_name (i := 4) nd rfl (.inl rfl)) (fun _ _ _ _ _ => pts_nil) (fun _ _ _ _ _ => pe_callTy (call_tupOf K rfl) (by rfl) T.zTup bt_tup (pa_cons (pv 4) pa_nil))) pa_nil)))
          (pg_tup rfl (pgs_cons (pg_name (i := 2) nd rfl (.inl rfl)) (pgs_cons (pg_name (i := 3) nd rfl (.inl rfl)) pgs_nil)))
        (pss_one (ps_if (PW.pt (pw_and (pt_truth (pv 1) (by intro _; rfl)) (pw_and1 (pt_cmpR op_le (pv 2) (pe_op op_add (pe_ix ix_tup (pe_ix ix_list (pv 1) (pe_un un_neg pe_int) (fun _ _ => rfl)) pe_int (fun _ _ => rfl)) pe_int) (nomark _)))))
          (pss_one (ps_asg (pe_tup (pa_cons (pe_ix ix_tup (pe_ix ix_list (pv 1) (pe_un un_neg pe_int) (fun _ _ => rfl)) pe_int (fun _ _ => rfl))
              (pa_cons (pe_callB (call_max2 rfl) (by rfl) T.zMax bt_max (pa_cons (pe_ix ix_tup (pe_ix ix_list (pv 1) (pe_un un_neg pe_int) (fun _ _ => rfl)) pe_int (fun _ _ => rfl)) (pa_cons (pv 3) pa_nil))) pa_nil)))
            (pg_sub (pv 1) (pe_un un_neg pe_int) set_list)))
          (pss_one (ps_expr (pe_bm PySem.F.plainAttrs_list PySem.F.slot_list_append PySem.F.type_list_append mt_append (pv 1) (pa_cons (pe_tup (pa_cons (pv 2) (pa_cons (pv 3) pa_nil))) pa_nil)))))))
      (pss_one (ps_ret (pe_callTy call_tuple_of (by rfl) T.zTup bt_tup (pa_cons (pv 1) pa_nil))))), ?_⟩
    refine ⟨Nat.zero_le _, fun o no => ?_⟩
    have S1 : Same H (upd H o (.lst [])) := fun b u e => by rw [upd_ne (ne_of_none e no)]; exact e
    rcases hS with hS | hS
    · refine .inl ⟨_, rfl, a, rfl, ⟨_, S1.seq hS⟩, fun D hD => lc_list (K := K) (a := a) (xs := refs L) (fun i H2 => ∃ M : List ARow, H2 D = some (.lst (refs M)) ∧ AtR H2 M ∧ rws M = (rws L).take i ∧ Same (upd H o (.lst [])) H2)
        ⟨[], upd_same, (fun _ z => nomatch z), rfl, same_lay hD⟩ (fun i H2 _ ⟨_, _, _, _, s⟩ => s.seq (S1.seq hS)) ?_ ?_⟩
      · intro i x H2 hx hI
        obtain ⟨M, hD2, hM, eM, s2⟩ := hI
        obtain ⟨p, hp, hpL, rfl⟩ := refs_get hx
        have hil : i < L.length := (List.getElem?_eq_some_iff.mp hp).1
        have hlM : M.length = i := by
          rw [← rws_len M, eM, List.length_take, rws_len]
          omega
        have e1 : (rws L).take (i + 1) = (rws L).take i ++ [p.2] := by rw [List.take_add_one, rws_get hp]; rfl
        have nDp : ∀ q ∈ M, q.1 ≠ D := fun q hq => ne_of (hM q hq) hD2 (by intro z; cases z)
        refine ⟨rfl, yesT ?_⟩
        refine ⟨_, rfl, p.1, [.int p.2.1, .int p.2.2], rfl, ?_⟩
        rcases hP p hpL with e | e
        · have e3 := s2 _ _ (S1 _ _ e)
          refine .inr ⟨.inl (.inl e3), refs M, hD2, small1000 (by rw [refs_len, hlM]; omega), M ++ [p], ?_, ?_, ?_, same_upd s2 hD⟩
          · rw [upd_same, refs_snoc]
          · intro q hq
            rcases List.mem_append.mp hq with k | k
            · rw [upd_ne (nDp q k)]; exact hM q k
            · rw [List.mem_singleton.mp k, upd_ne (ne_of e3 hD2 (by intro z; cases z))]; exact e3
          · rw [rws_snoc, eM, e1]
        · have e3 := s2 _ _ (S1 _ _ e)
          refine .inl ⟨.inl (.inl e3), fun l hl => ?_⟩
          have nDl : D ≠ l := ne_of_none hD2 hl
          have s3 := same_lay (o := .tup [.int p.2.1, .int p.2.2]) hl
          refine ⟨refs M, s3 _ _ hD2, small1000 (by rw [refs_len, hlM]; omega), M ++ [(l, p.2)], ?_, ?_, ?_, same_upd (s2.trans s3) hD⟩
          · rw [upd_same, refs_snoc]
          · intro q hq
            rcases List.mem_append.mp hq with k | k
            · rw [upd_ne (nDp q k)]; exact s3 _ _ (hM q k)
            · rw [List.mem_singleton.mp k, upd_ne nDl.symm, upd_same]
          · rw [rws_snoc, eM, e1]
      · intro H2 hI
        obtain ⟨M, hD2, hM, eM, s2⟩ := hI
        rw [refs_len, List.take_of_length_le (by rw [rws_len]; exact Nat.le_refl _)] at eM
        have no2 : H2 o = some (.lst []) := s2 _ _ upd_same
        have lM : M.length = L.length := by rw [← rws_len M, eM, rws_len]
        -- sorted
        refine ⟨D, refs M, kOf H2, rfl, .inl (.inl hD2), fun y hy => ?_, fun ys p hs hb np => ?_⟩
        · unfold refs at hy
          obtain ⟨z, hz, rfl⟩ := List.mem_map.mp hy
          exact ⟨z.1, rfl, by rw [kOf_at (hM z hz)]; exact hM z hz⟩
        obtain ⟨S, rfl, hSA, hSm, hSl, hSk⟩ := refs_perm hM hb.perm
        have hso : (rws S).Pairwise fun r s => r.1 ≤ s.1 := by
          rw [hSk]
          refine List.pairwise_map.mpr (hs.imp fun {x y} hxy => ?_)
          have := SrtO.lexB_no.mp hxy
          omega
        have hSok : ∀ r ∈ rws S, r.1 ≤ r.2 := fun r hr => hok r (by rw [← eM]; exact (hSm r).mp hr)
        obtain ⟨hnf, hme⟩ := jfold_ok hSok hso
        have s3 := same_lay (o := .lst (refs S)) np
        have nop : o ≠ p := ne_of_none no2 np
        refine ⟨p, rfl, ⟨_, .inl (.inl upd_same)⟩, for_list (K := K) (a := p) (xs := refs S) (fun i σ H' => ∃ f l, ∃ A : List ARow, σ = [some (.ref a), some (.ref o), f, l, none] ∧ H' o = some (.lst (refs A)) ∧ AtR H' A ∧ rws A = (((rws S).take i).foldl jstep []).reverse ∧ Fre o (upd H2 p (.lst (refs S))) H' ∧ A.length ≤ i)
          ⟨none, none, [], rfl, by rw [upd_ne nop]; exact no2, (fun _ z => nomatch z), rfl, Fre.refl _ _, Nat.le_refl _⟩ (fun i σ H' _ ⟨_, _, _, _, _, _, _, fr, _⟩ => .inl (.inl (fr _ _ upd_same nop.symm))) ?_ ?_⟩
        · rintro i y σ H' hy ⟨f, l, A, rfl, hoA, hA, eA, fr, hAl⟩
          obtain ⟨z, hz, hzS, rfl⟩ := refs_get hy
          have hil : i < S.length := (List.getElem?_eq_some_iff.mp hz).1
          have ez : H' z.1 = some (.tup [.int z.2.1, .int z.2.2]) := fr _ _ (s3 _ _ (hSA z hzS)) (ne_of (hSA z hzS) no2 (by intro q; cases q))
          have e1 : ((rws S).take (i + 1)).foldl jstep [] = jstep (((rws S).take i).foldl jstep []) z.2 := by
            rw [List.take_add_one, rws_get hz, List.foldl_append]
            rfl
          have nAo : ∀ q ∈ A, q.1 ≠ o := fun q hq => ne_of (hA q hq) hoA (by intro w; cases w)
          refine ⟨z.1, _, rfl, .inl (.inl ez), rfl, _, _, rfl, _, _, rfl, rfl, ?_⟩
          refine ⟨_, rfl, !(refs A).isEmpty, .inl ⟨refs A, .inl (.inl hoA), rfl⟩, ?_⟩
          -- the row goes to the end
          have app : ∀ (hj : jstep (((rws S).take i).foldl jstep []) z.2 = z.2 :: ((rws S).take i).foldl jstep []) (T : Addr), H' T = none →
              ∃ f' l', ∃ A' : List ARow, [some (V.ref a), some (.ref o), some (.int z.2.1), some (.int z.2.2), none] = [some (.ref a), some (.ref o), f', l', none] ∧ (upd (upd H' T (.tup [.int z.2.1, .int z.2.2])) o (.lst (refs A ++ [.ref T]))) o = some (.lst (refs A')) ∧ AtR (upd (upd H' T (.tup [.int z.2.1, .int z.2.2])) o (.lst (refs A ++ [.ref T]))) A' ∧
                rws A' = (((rws S).take (i + 1)).foldl jstep []).reverse ∧ Fre o (upd H2 p (.lst (refs S))) (upd (upd H' T (.tup [.int z.2.1, .int z.2.2])) o (.lst (refs A ++ [.ref T]))) ∧ A'.length ≤ i + 1 := by
            intro hj Tn hT
            have s4 := same_lay (o := .tup [.int z.2.1, .int z.2.2]) hT
            have noT : Tn ≠ o := by
              intro e
              rw [e] at hT
              rw [hT] at hoA
              cases hoA
            refine ⟨_, _, A ++ [(Tn, z.2)], rfl, by rw [upd_same, refs_snoc], ?_, ?_, (fr.trans (fun b u e _ => s4 b u e)).trans Fre.put, by rw [List.length_append]; exact Nat.succ_le_succ hAl⟩
            · intro q hq
              rcases List.mem_append.mp hq with k | k
              · rw [upd_ne (nAo q k)]; exact s4 _ _ (hA q k)
              · rw [List.mem_singleton.mp k, upd_ne noT, upd_same]
            · rw [rws_snoc, eA, e1, hj, List.reverse_cons]
          have alen : (refs A).length < sizeLine := small1000 (by rw [refs_len]; omega)
          have two : 2 ≤ sizeLine := by decide
          cases hacc : ((rws S).take i).foldl jstep [] with
          | nil =>
            have eA0 : A = [] := by
              rw [hacc] at eA
              exact List.map_eq_nil_iff.mp eA
            refine ite2 (fun k => ?_) (fun _ => iteF ?_)
            · rw [eA0] at k
              exact absurd k (by decide)
            · refine ⟨_, rfl, .inl ⟨rfl, _, .inl (.inl hoA)⟩, _, rfl, _, rfl, two, fun Tn hT => ?_⟩
              refine ⟨o, refs A, _, rfl, rfl, same_lay hT _ _ hoA, alen, ?_⟩
              exact app (by rw [hacc]; rfl) Tn hT
          | cons q0 t0 =>
            have eA1 : rws A = t0.reverse ++ [q0] := by rw [eA, hacc, List.reverse_cons]
            obtain ⟨B, A2, rfl, eB, eA2⟩ := List.map_eq_append_iff.mp eA1
            obtain ⟨⟨aq, q1⟩, A3, rfl, eq1, eA3⟩ := List.map_eq_cons_iff.mp eA2
            obtain rfl := List.map_eq_nil_iff.mp eA3
            obtain rfl : q1 = q0 := eq1
            have haq : H' aq = some (.tup [.int q1.1, .int q1.2]) := hA (aq, q1) (List.mem_append_right _ (List.mem_singleton.mpr rfl))
            rw [refs_snoc] at hoA
            have hSo : SqL K H' o (refs B ++ [.ref aq]) := .inl (.inl hoA)
            have hSq : SqT K H' aq [.int q1.1, .int q1.2] := .inl (.inl haq)
            have g0 : atI [V.int q1.1, .int q1.2] 0 = some (.int q1.1) := atI_nat (j := 0) rfl
            have g1 : atI [V.int q1.1, .int q1.2] 1 = some (.int q1.2) := atI_nat (j := 1) rfl
            have gl : atI (refs B ++ [V.ref aq]) (-1) = some (.ref aq) := atI_last _ _
            refine ite2 (fun _ => ?_) (fun k => ?_)
            · refine ⟨_, rfl, _, rfl, 1, rfl, o, _, -1, _, rfl, rfl, hSo, gl, aq, _, 1, _, rfl, rfl, hSq, g1, _, _, rfl, rfl, _, _, rfl, rfl, _, rfl, ite2 (fun c => ?_) (fun c => ?_)⟩
              · have hc : z.2.1 ≤ q1.2 + 1 := of_decide_eq_true c
                refine ⟨_, rfl, 1, rfl, o, _, -1, _, rfl, rfl, hSo, gl, aq, _, 0, _, rfl, rfl, hSq, g0, _, rfl, 1, rfl, o, _, -1, _, rfl, rfl, hSo, gl, aq, _, 1, _, rfl, rfl, hSq, g1, _, rfl, _, _, rfl, two, fun Tn hT => ?_⟩
                have s4 := same_lay (o := .tup [.int q1.1, .int (if z.2.2 > q1.2 then z.2.2 else q1.2)]) hT
                have noT : Tn ≠ o := by
                  intro e
                  rw [e] at hT
                  rw [hT] at hoA
                  cases hoA
                have ixe : ixN (refs B ++ [V.ref aq]).length (-1) = some (refs B).length := by
                  rw [List.length_append]
                  exact ixN_last _
                refine ⟨_, rfl, 1, rfl, o, _, -1, _, rfl, rfl, s4 _ _ hoA, ixe, ?_⟩
                refine ⟨_, _, B ++ [(Tn, (q1.1, if z.2.2 > q1.2 then z.2.2 else q1.2))], rfl, by rw [upd_same, set_last, refs_snoc], ?_, ?_, (fr.trans (fun b u e _ => s4 b u e)).trans Fre.put, ?_⟩
                · intro q hq
                  rcases List.mem_append.mp hq with k | k
                  · rw [upd_ne (nAo q (List.mem_append_left _ k))]; exact s4 _ _ (hA q (List.mem_append_left _ k))
                  · rw [List.mem_singleton.mp k, upd_ne noT, upd_same]
                · rw [rws_snoc, e1, hacc]
                  show rws B ++ [(q1.1, if z.2.2 > q1.2 then z.2.2 else q1.2)] = (if z.2.1 ≤ q1.2 + 1 then (q1.1, if z.2.2 > q1.2 then z.2.2 else q1.2) :: t0 else z.2 :: q1 :: t0).reverse
                  rw [if_pos hc, List.reverse_cons]
                  exact congrArg (· ++ [(q1.1, if z.2.2 > q1.2 then z.2.2 else q1.2)]) eB
                · rw [List.length_append] at hAl ⊢
                  exact Nat.le_succ_of_le hAl
              · have hc : ¬ z.2.1 ≤ q1.2 + 1 := fun w => c (decide_eq_true w)
                refine ⟨_, rfl, .inl ⟨rfl, _, .inl (.inl hoA)⟩, _, rfl, _, rfl, two, fun Tn hT => ?_⟩
                refine ⟨o, _, _, rfl, rfl, same_lay hT _ _ hoA, by rw [← refs_snoc]; exact alen, ?_⟩
                rw [← refs_snoc]
                refine app ?_ Tn hT
                rw [hacc]
                show (if z.2.1 ≤ q1.2 + 1 then (q1.1, if z.2.2 > q1.2 then z.2.2 else q1.2) :: t0 else z.2 :: q1 :: t0) = z.2 :: q1 :: t0
                rw [if_neg hc]
            · exfalso
              apply k
              rw [refs_snoc]
              simp
        · rintro σ H' ⟨f, l, A, rfl, hoA, hA, eA, fr, hAl⟩
          rw [refs_len, List.take_of_length_le (by rw [rws_len]; exact Nat.le_refl _)] at eA
          have eN : rws A = (jfold (rws S)).reverse := eA
          refine ⟨_, rfl, o, refs A, rfl, .inl ⟨.inl (.inl hoA), fun t ht => ?_⟩⟩
          have s5 := same_lay (o := .tup (refs A)) ht
          have s6 : Same H H' := fun b u e => fr b u (s3 b u (s2 b u (S1 b u e))) (ne_of_none e no)
          refine q t A _ (s6.trans s5) (s6.free ht) upd_same (hA.same s5) (by rw [eN]; exact hnf) (fun x => ?_) ?_
          · rw [eN, hme x, ← eM]
            exact mem_same hSm x
          · rw [refs_len] at hAl
            omega
    · refine .inr ⟨_, rfl, a, rfl, ⟨_, sameT S1 hS⟩, fun D hD => lc_tup (K := K) (a := a) (xs := refs L) (fun i H2 => ∃ M : List ARow, H2 D = some (.lst (refs M)) ∧ AtR H2 M ∧ rws M = (rws L).take i ∧ Same (upd H o (.lst [])) H2)
        ⟨[], upd_same, (fun _ z => nomatch z), rfl, same_lay hD⟩ (fun i H2 _ ⟨_, _, _, _, s⟩ => sameT s (sameT S1 hS)) ?_ ?_⟩
      · intro i x H2 hx hI
        obtain ⟨M, hD2, hM, eM, s2⟩ := hI
        obtain ⟨p, hp, hpL, rfl⟩ := refs_get hx
        have hil : i < L.length := (List.getElem?_eq_some_iff.mp hp).1
        have hlM : M.length = i := by
          rw [← rws_len M, eM, List.length_take, rws_len]
          omega
        have e1 : (rws L).take (i + 1) = (rws L).take i ++ [p.2] := by rw [List.take_add_one, rws_get hp]; rfl
        have nDp : ∀ q ∈ M, q.1 ≠ D := fun q hq => ne_of (hM q hq) hD2 (by intro z; cases z)
        refine ⟨rfl, yesT ?_⟩
        refine ⟨_, rfl, p.1, [.int p.2.1, .int p.2.2], rfl, ?_⟩
        rcases hP p hpL with e | e
        · have e3 := s2 _ _ (S1 _ _ e)
          refine .inr ⟨.inl (.inl e3), refs M, hD2, small1000 (by rw [refs_len, hlM]; omega), M ++ [p], ?_, ?_, ?_, same_upd s2 hD⟩
          · rw [upd_same, refs_snoc]
          · intro q hq
            rcases List.mem_append.mp hq with k | k
            · rw [upd_ne (nDp q k)]; exact hM q k
            · rw [List.mem_singleton.mp k, upd_ne (ne_of e3 hD2 (by intro z; cases z))]; exact e3
          · rw [rws_snoc, eM, e1]
        · have e3 := s2 _ _ (S1 _ _ e)
          refine .inl ⟨.inl (.inl e3), fun l hl => ?_⟩
          have nDl : D ≠ l := ne_of_none hD2 hl
          have s3 := same_lay (o := .tup [.int p.2.1, .int p.2.2]) hl
          refine ⟨refs M, s3 _ _ hD2, small1000 (by rw [refs_len, hlM]; omega), M ++ [(l, p.2)], ?_, ?_, ?_, same_upd (s2.trans s3) hD⟩
          · rw [upd_same, refs_snoc]
          · intro q hq
            rcases List.mem_append.mp hq with k | k
            · rw [upd_ne (nDp q k)]; exact s3 _ _ (hM q k)
            · rw [List.mem_singleton.mp k, upd_ne nDl.symm, upd_same]
          · rw [rws_snoc, eM, e1]
      · intro H2 hI
        obtain ⟨M, hD2, hM, eM, s2⟩ := hI
        rw [refs_len, List.take_of_length_le (by rw [rws_len]; exact Nat.le_refl _)] at eM
        have no2 : H2 o = some (.lst []) := s2 _ _ upd_same
        have lM : M.length = L.length := by rw [← rws_len M, eM, rws_len]
        -- sorted
        refine ⟨D, refs M, kOf H2, rfl, .inl (.inl hD2), fun y hy => ?_, fun ys p hs hb np => ?_⟩
        · unfold refs at hy
          obtain ⟨z, hz, rfl⟩ := List.mem_map.mp hy
          exact ⟨z.1, rfl, by rw [kOf_at (hM z hz)]; exact hM z hz⟩
        obtain ⟨S, rfl, hSA, hSm, hSl, hSk⟩ := refs_perm hM hb.perm
        have hso : (rws S).Pairwise fun r s => r.1 ≤ s.1 := by
          rw [hSk]
          refine List.pairwise_map.mpr (hs.imp fun {x y} hxy => ?_)
          have := SrtO.lexB_no.mp hxy
          omega
        have hSok : ∀ r ∈ rws S, r.1 ≤ r.2 := fun r hr => hok r (by rw [← eM]; exact (hSm r).mp hr)
        obtain ⟨hnf, hme⟩ := jfold_ok hSok hso
        have s3 := same_lay (o := .lst (refs S)) np
        have nop : o ≠ p := ne_of_none no2 np
        refine ⟨p, rfl, ⟨_, .inl (.inl upd_same)⟩, for_list (K := K) (a := p) (xs := refs S) (fun i σ H' => ∃ f l, ∃ A : List ARow, σ = [some (.ref a), some (.ref o), f, l, none] ∧ H' o = some (.lst (refs A)) ∧ AtR H' A ∧ rws A = (((rws S).take i).foldl jstep []).reverse ∧ Fre o (upd H2 p (.lst (refs S))) H' ∧ A.length ≤ i)
          ⟨none, none, [], rfl, by rw [upd_ne nop]; exact no2, (fun _ z => nomatch z), rfl, Fre.refl _ _, Nat.le_refl _⟩ (fun i σ H' _ ⟨_, _, _, _, _, _, _, fr, _⟩ => .inl (.inl (fr _ _ upd_same nop.symm))) ?_ ?_⟩
        · rintro i y σ H' hy ⟨f, l, A, rfl, hoA, hA, eA, fr, hAl⟩
          obtain ⟨z, hz, hzS, rfl⟩ := refs_get hy
          have hil : i < S.length := (List.getElem?_eq_some_iff.mp hz).1
          have ez : H' z.1 = some (.tup [.int z.2.1, .int z.2.2]) := fr _ _ (s3 _ _ (hSA z hzS)) (ne_of (hSA z hzS) no2 (by intro q; cases q))
          have e1 : ((rws S).take (i + 1)).foldl jstep [] = jstep (((rws S).take i).foldl jstep []) z.2 := by
            rw [List.take_add_one, rws_get hz, List.foldl_append]
            rfl
          have nAo : ∀ q ∈ A, q.1 ≠ o := fun q hq => ne_of (hA q hq) hoA (by intro w; cases w)
          refine ⟨z.1, _, rfl, .inl (.inl ez), rfl, _, _, rfl, _, _, rfl, rfl, ?_⟩
          refine ⟨_, rfl, !(refs A).isEmpty, .inl ⟨refs A, .inl (.inl hoA), rfl⟩, ?_⟩
          -- the row goes to the end
          have app : ∀ (hj : jstep (((rws S).take i).foldl jstep []) z.2 = z.2 :: ((rws S).take i).foldl jstep []) (T : Addr), H' T = none →
              ∃ f' l', ∃ A' : List ARow, [some (V.ref a), some (.ref o), some (.int z.2.1), some (.int z.2.2), none] = [some (.ref a), some (.ref o), f', l', none] ∧ (upd (upd H' T (.tup [.int z.2.1, .int z.2.2])) o (.lst (refs A ++ [.ref T]))) o = some (.lst (refs A')) ∧ AtR (upd (upd H' T (.tup [.int z.2.1, .int z.2.2])) o (.lst (refs A ++ [.ref T]))) A' ∧
                rws A' = (((rws S).take (i + 1)).foldl jstep []).reverse ∧ Fre o (upd H2 p (.lst (refs S))) (upd (upd H' T (.tup [.int z.2.1, .int z.2.2])) o (.lst (refs A ++ [.ref T]))) ∧ A'.length ≤ i + 1 := by
            intro hj Tn hT
            have s4 := same_lay (o := .tup [.int z.2.1, .int z.2.2]) hT
            have noT : Tn ≠ o := by
              intro e
              rw [e] at hT
              rw [hT] at hoA
              cases hoA
            refine ⟨_, _, A ++ [(Tn, z.2)], rfl, by rw [upd_same, refs_snoc], ?_, ?_, (fr.trans (fun b u e _ => s4 b u e)).trans Fre.put, by rw [List.length_append]; exact Nat.succ_le_succ hAl⟩
            · intro q hq
              rcases List.mem_append.mp hq with k | k
              · rw [upd_ne (nAo q k)]; exact s4 _ _ (hA q k)
              · rw [List.mem_singleton.mp k, upd_ne noT, upd_same]
            · rw [rws_snoc, eA, e1, hj, List.reverse_cons]
          have alen : (refs A).length < sizeLine := small1000 (by rw [refs_len]; omega)
          have two : 2 ≤ sizeLine := by decide
          cases hacc : ((rws S).take i).foldl jstep [] with
          | nil =>
            have eA0 : A = [] := by
              rw [hacc] at eA
              exact List.map_eq_nil_iff.mp eA
            refine ite2 (fun k => ?_) (fun _ => iteF ?_)
            · rw [eA0] at k
              exact absurd k (by decide)
            · refine ⟨_, rfl, .inl ⟨rfl, _, .inl (.inl hoA)⟩, _, rfl, _, rfl, two, fun Tn hT => ?_⟩
              refine ⟨o, refs A, _, rfl, rfl, same_lay hT _ _ hoA, alen, ?_⟩
              exact app (by rw [hacc]; rfl) Tn hT
          | cons q0 t0 =>
            have eA1 : rws A = t0.reverse ++ [q0] := by rw [eA, hacc, List.reverse_cons]
            obtain ⟨B, A2, rfl, eB, eA2⟩ := List.map_eq_append_iff.mp eA1
            obtain ⟨⟨aq, q1⟩, A3, rfl, eq1, eA3⟩ := List.map_eq_cons_iff.mp eA2
            obtain rfl := List.map_eq_nil_iff.mp eA3
            obtain rfl : q1 = q0 := eq1
            have haq : H' aq = some (.tup [.int q1.1, .int q1.2]) := hA (aq, q1) (List.mem_append_right _ (List.mem_singleton.mpr rfl))
            rw [refs_snoc] at hoA
            have hSo : SqL K H' o (refs B ++ [.ref aq]) := .inl (.inl hoA)
            have hSq : SqT K H' aq [.int q1.1, .int q1.2] := .inl (.inl haq)
            have g0 : atI [V.int q1.1, .int q1.2] 0 = some (.int q1.1) := atI_nat (j := 0) rfl
            have g1 : atI [V.int q1.1, .int q1.2] 1 = some (.int q1.2) := atI_nat (j := 1) rfl
            have gl : atI (refs B ++ [V.ref aq]) (-1) = some (.ref aq) := atI_last _ _
            refine ite2 (fun _ => ?_) (fun k => ?_)
            · refine ⟨_, rfl, _, rfl, 1, rfl, o, _, -1, _, rfl, rfl, hSo, gl, aq, _, 1, _, rfl, rfl, hSq, g1, _, _, rfl, rfl, _, _, rfl, rfl, _, rfl, ite2 (fun c => ?_) (fun c => ?_)⟩
              · have hc : z.2.1 ≤ q1.2 + 1 := of_decide_eq_true c
                refine ⟨_, rfl, 1, rfl, o, _, -1, _, rfl, rfl, hSo, gl, aq, _, 0, _, rfl, rfl, hSq, g0, _, rfl, 1, rfl, o, _, -1, _, rfl, rfl, hSo, gl, aq, _, 1, _, rfl, rfl, hSq, g1, _, rfl, _, _, rfl, two, fun Tn hT => ?_⟩
                have s4 := same_lay (o := .tup [.int q1.1, .int (if z.2.2 > q1.2 then z.2.2 else q1.2)]) hT
                have noT : Tn ≠ o := by
                  intro e
                  rw [e] at hT
                  rw [hT] at hoA
                  cases hoA
                have ixe : ixN (refs B ++ [V.ref aq]).length (-1) = some (refs B).length := by
                  rw [List.length_append]
                  exact ixN_last _
                refine ⟨_, rfl, 1, rfl, o, _, -1, _, rfl, rfl, s4 _ _ hoA, ixe, ?_⟩
                refine ⟨_, _, B ++ [(Tn, (q1.1, if z.2.2 > q1.2 then z.2.2 else q1.2))], rfl, by rw [upd_same, set_last, refs_snoc], ?_, ?_, (fr.trans (fun b u e _ => s4 b u e)).trans Fre.put, ?_⟩
                · intro q hq
                  rcases List.mem_append.mp hq with k | k
                  · rw [upd_ne (nAo q (List.mem_append_left _ k))]; exact s4 _ _ (hA q (List.mem_append_left _ k))
                  · rw [List.mem_singleton.mp k, upd_ne noT, upd_same]
                · rw [rws_snoc, e1, hacc]
                  show rws B ++ [(q1.1, if z.2.2 > q1.2 then z.2.2 else q1.2)] = (if z.2.1 ≤ q1.2 + 1 then (q1.1, if z.2.2 > q1.2 then z.2.2 else q1.2) :: t0 else z.2 :: q1 :: t0).reverse
                  rw [if_pos hc, List.reverse_cons]
                  exact congrArg (· ++ [(q1.1, if z.2.2 > q1.2 then z.2.2 else q1.2)]) eB
                · rw [List.length_append] at hAl ⊢
                  exact Nat.le_succ_of_le hAl
              · have hc : ¬ z.2.1 ≤ q1.2 + 1 := fun w => c (decide_eq_true w)
                refine ⟨_, rfl, .inl ⟨rfl, _, .inl (.inl hoA)⟩, _, rfl, _, rfl, two, fun Tn hT => ?_⟩
                refine ⟨o, _, _, rfl, rfl, same_lay hT _ _ hoA, by rw [← refs_snoc]; exact alen, ?_⟩
                rw [← refs_snoc]
                refine app ?_ Tn hT
                rw [hacc]
                show (if z.2.1 ≤ q1.2 + 1 then (q1.1, if z.2.2 > q1.2 then z.2.2 else q1.2) :: t0 else z.2 :: q1 :: t0) = z.2 :: q1 :: t0
                rw [if_neg hc]
            · exfalso
              apply k
              rw [refs_snoc]
              simp
        · rintro σ H' ⟨f, l, A, rfl, hoA, hA, eA, fr, hAl⟩
          rw [refs_len, List.take_of_length_le (by rw [rws_len]; exact Nat.le_refl _)] at eA
          have eN : rws A = (jfold (rws S)).reverse := eA
          refine ⟨_, rfl, o, refs A, rfl, .inl ⟨.inl (.inl hoA), fun t ht => ?_⟩⟩
          have s5 := same_lay (o := .tup (refs A)) ht
          have s6 : Same H H' := fun b u e => fr b u (s3 b u (s2 b u (S1 b u e))) (ne_of_none e no)
          refine q t A _ (s6.trans s5) (s6.free ht) upd_same (hA.same s5) (by rw [eN]; exact hnf) (fun x => ?_) ?_
          · rw [eN, hme x, ← eM]
            exact mem_same hSm x
          · rw [refs_len] at hAl
            omega
end
end OR

namespace OR
open PySem PySem.Spec PyProof.Rows L2
/-! ### counts before, and __init__ -/
def tot (l : List Row) : Int := l.foldl (fun t r => t + r.2 - r.1 + 1) 0
def befs (l : List Row) : List Int := (List.range l.length).map fun j => tot (l.take j)
theorem tot_snoc (l : List Row) (r : Row) : tot (l ++ [r]) = tot l + r.2 - r.1 + 1 := by
  unfold tot
  rw [List.foldl_append]
  rfl
def spCounts (K : PySem.W.Frag) : Sp := fun vs H Q _ => ∃ (t : Addr) (M : List ARow), vs = [.ref t] ∧ H t = some (.tup (refs M)) ∧ AtR H M ∧ M.length ≤ 1000 ∧
  ∀ (b : Addr) (H' : Hp), Same H H' → H b = none → H' b = some (.tup ((befs (rws M)).map V.int)) → Q (.ref b) H'
/-- an instance of Places with these rows -/
theorem kFS : ¬ (("_firsts" : Str) = "stretches") := by decide +kernel
theorem kBS : ¬ (("_before" : Str) = "stretches") := by decide +kernel
theorem kBF : ¬ (("_before" : Str) = "_firsts") := by decide +kernel
def pFl (t f b : Addr) : List (Str × V) := putF "_before" (.ref b) (putF "_firsts" (.ref f) (putF "stretches" (.ref t) []))
theorem pFl_s (t f b : Addr) : (pFl t f b).lookup ("stretches" : Str) = some (.ref t) := by
  unfold pFl
  rw [lookup_putF, if_neg (fun e => kBS e.symm), lookup_putF, if_neg (fun e => kFS e.symm), lookup_putF, if_pos rfl]
theorem pFl_f (t f b : Addr) : (pFl t f b).lookup ("_firsts" : Str) = some (.ref f) := by
  unfold pFl
  rw [lookup_putF, if_neg (fun e => kBF e.symm), lookup_putF, if_pos rfl]
theorem pFl_b (t f b : Addr) : (pFl t f b).lookup ("_before" : Str) = some (.ref b) := by
  unfold pFl
  rw [lookup_putF, if_pos rfl]
theorem pFl_no (t f b : Addr) {m : Str} (h1 : ¬ m = "_before") (h2 : ¬ m = "_firsts") (h3 : ¬ m = "stretches") : (pFl t f b).lookup m = none := by
  unfold pFl
  rw [lookup_putF, if_neg h1, lookup_putF, if_neg h2, lookup_putF, if_neg h3]
  rfl
structure IsP (C : Addr) (H : Hp) (x : Addr) (l : List Row) : Prop where
  nf : Nf l
  ex : ∃ (dx t f b : Addr) (M : List ARow), H x = some (.ins C dx (pFl t f b)) ∧ H t = some (.tup (refs M)) ∧ AtR H M ∧ rws M = l ∧ H f = some (.tup (l.map fun r => V.int r.1)) ∧ H b = some (.tup ((befs l).map V.int)) ∧ M.length ≤ 1000
theorem IsP.same {C : Addr} {H H' : Hp} {x : Addr} {l : List Row} (h : IsP C H x l) (s : Same H H') : IsP C H' x l := by
  obtain ⟨nf, dx, t, f, b, M, h1, h2, h3, h4, h5, h6, h7⟩ := h
  exact ⟨nf, dx, t, f, b, M, s _ _ h1, s _ _ h2, h3.same s, h4, s _ _ h5, s _ _ h6, h7⟩
/-- enumerate, turn by turn -/
theorem for_enum {K : PySem.W.Frag} {a : Addr} {xs : List V} {g : TG} {tb : TS} {D : Ends} {σ : L2.St} {H : Hp} (Pv : Nat → L2.St → Hp → Prop) (h0 : Pv 0 σ H) (hl : ∀ i σ H, i ≤ xs.length → Pv i σ H → SqL K H a xs)
    (hs : ∀ i x σ H T, xs[i]? = some x → Pv i σ H → H T = none → g (.ref T) σ (upd H T (.tup [.int (i : Nat), x])) fun σ2 H2 => tb { D with nx := Pv (i + 1), ct := Pv (i + 1), bk := D.nx } σ2 H2) (hd : ∀ σ H, Pv xs.length σ H → D.nx σ H) :
    ∃ W : Nat → Nat → L2.St → Hp → Prop, (∃ m, W 0 m σ H) ∧ ∀ i m σ H, W i m σ H →
      ((Ite K a).stop i H ∧ D.nx σ H) ∨ ((Ite K a).go i H ∧ ∃ N : L2.St → Hp → Prop, (∀ σ' H', N σ' H' → ∃ m', m' < m ∧ W (i + 1) m' σ' H') ∧ ∀ x H', (Ite K a).yld i H x H' → g x σ H' fun σ2 H2 => tb { D with nx := N, ct := N, bk := D.nx } σ2 H2) := by
  refine ⟨fun i m σ H => m = xs.length - i ∧ i ≤ xs.length ∧ Pv i σ H, ⟨xs.length, by simp, Nat.zero_le _, h0⟩, ?_⟩
  rintro i m σ H ⟨rfl, hi, p⟩
  have q := hl i σ H hi p
  by_cases hlt : i < xs.length
  · refine .inr ⟨⟨xs, xs[i], q, by simp [hlt]⟩, Pv (i + 1), fun σ' H' p' => ⟨xs.length - (i + 1), by omega, rfl, hlt, p'⟩, fun v H' y => ?_⟩
    obtain ⟨T, x, rfl, hT, rfl, hx⟩ := y
    exact hs i x σ H T (hx xs q) p hT
  · obtain rfl : i = xs.length := by omega
    exact .inl ⟨⟨xs, q, Nat.le_refl _⟩, hd σ H p⟩
theorem for_enumT {K : PySem.W.Frag} {a : Addr} {xs : List V} {g : TG} {tb : TS} {D : Ends} {σ : L2.St} {H : Hp} (Pv : Nat → L2.St → Hp → Prop) (h0 : Pv 0 σ H) (hl : ∀ i σ H, i ≤ xs.length → Pv i σ H → SqT K H a xs)
    (hs : ∀ i x σ H T, xs[i]? = some x → Pv i σ H → H T = none → g (.ref T) σ (upd H T (.tup [.int (i : Nat), x])) fun σ2 H2 => tb { D with nx := Pv (i + 1), ct := Pv (i + 1), bk := D.nx } σ2 H2) (hd : ∀ σ H, Pv xs.length σ H → D.nx σ H) :
    ∃ W : Nat → Nat → L2.St → Hp → Prop, (∃ m, W 0 m σ H) ∧ ∀ i m σ H, W i m σ H →
      ((IteT K a).stop i H ∧ D.nx σ H) ∨ ((IteT K a).go i H ∧ ∃ N : L2.St → Hp → Prop, (∀ σ' H', N σ' H' → ∃ m', m' < m ∧ W (i + 1) m' σ' H') ∧ ∀ x H', (IteT K a).yld i H x H' → g x σ H' fun σ2 H2 => tb { D with nx := N, ct := N, bk := D.nx } σ2 H2) := by
  refine ⟨fun i m σ H => m = xs.length - i ∧ i ≤ xs.length ∧ Pv i σ H, ⟨xs.length, by simp, Nat.zero_le _, h0⟩, ?_⟩
  rintro i m σ H ⟨rfl, hi, p⟩
  have q := hl i σ H hi p
  by_cases hlt : i < xs.length
  · refine .inr ⟨⟨xs, xs[i], q, by simp [hlt]⟩, Pv (i + 1), fun σ' H' p' => ⟨xs.length - (i + 1), by omega, rfl, hlt, p'⟩, fun v H' y => ?_⟩
    obtain ⟨T, x, rfl, hT, rfl, hx⟩ := y
    exact hs i x σ H T (hx xs q) p hT
  · obtain rfl : i = xs.length := by omega
    exact .inl ⟨⟨xs, q, Nat.le_refl _⟩, hd σ H p⟩
def spPlInit (K : PySem.W.Frag) (C : Addr) : Sp := fun vs H Q _ => ∃ (x dx a : Addr) (L : List ARow), vs = [.ref x, .ref a] ∧ H x = some (.ins C dx []) ∧ (SqL K H a (refs L) ∨ SqT K H a (refs L)) ∧ L.length ≤ 1000 ∧ PairsAt H L ∧ (∀ r ∈ rws L, okRow r = true) ∧
  ∀ (l : List Row) (H' : Hp), (∀ c o, H c = some o → c ≠ x → H' c = some o) → IsP C H' x l → (∀ z, mem l z ↔ mem (rws L) z) → l.length ≤ L.length → Q .non H'
theorem okRow_le {r : Row} (h : okRow r = true) : r.1 ≤ r.2 := by
  unfold okRow at h
  simp only [Bool.and_eq_true, decide_eq_true_eq] at h
  exact h.2.2
section
variable {P : Program} {w : World} {K : PySem.W.Frag} {mg : Str → Option Value} {base : Heap}
theorem scC : FnScope ["stretches", "counts", "total", "first", "last"] ["stretches"] (defScope sCounts) := ⟨rfl, rfl, rfl, by decide +kernel, rfl, by decide +kernel, by decide +kernel⟩
theorem ok_counts {f C : Addr} {fd : FuncData} (F : Fun K "_counts_before" "_counts_before" sCounts f fd) (T : PTxt K mg C) : FnOk P w K mg base CX0 1 f fd ["stretches"] (spCounts K) := by
  refine F.ok scC (fun vs H Q E h => ?_) (fun cdv A outer s H vs Q E hr h => ?_)
  · obtain ⟨t, M, rfl, _⟩ := h
    rfl
  · obtain ⟨t, M, rfl, ht, hM, hlen, q⟩ := h
    have nd := scC.nd
    refine ⟨_, pss_cons (ps_set (i := 1) nd rfl (.inl rfl) (pe_lst pa_nil))
      (pss_cons (ps_set (i := 2) nd rfl (.inl rfl) pe_int)
      (pss_cons (ps_for PassesOwn.never rfl (pi_tup (pv 0)) (pg_tup rfl (pgs_cons (pg_name (i := 3) nd rfl (.inl rfl)) (pgs_cons (pg_name (i := 4) nd rfl (.inl rfl)) pgs_nil)))
        (pss_cons (ps_expr (pe_bm PySem.F.plainAttrs_list PySem.F.slot_list_append PySem.F.type_list_append mt_append (pv 1) (pa_cons (pv 2) pa_nil)))
        (pss_one (ps_set (i := 2) nd rfl (.inl rfl) (pe_op op_add (pe_op op_sub (pe_op op_add (pv 2) (pv 4)) (pv 3)) pe_int)))))
      (pss_one (ps_ret (pe_callTy call_tuple_of (by rfl) T.zTup bt_tup (pa_cons (pv 1) pa_nil)))))), ?_⟩
    refine ⟨Nat.zero_le _, fun o no => ?_⟩
    have s1 := same_lay (o := .lst []) no
    refine ⟨_, rfl, t, rfl, ⟨_, .inl (.inl (s1 _ _ ht))⟩, for_tup (K := K) (a := t) (xs := refs M) (fun i σ H' => ∃ f l, σ = [some (.ref t), some (.ref o), some (.int (tot ((rws M).take i))), f, l] ∧ H' o = some (.lst (((List.range i).map fun j => tot ((rws M).take j)).map V.int)) ∧ Fre o (upd H o (.lst [])) H')
      ⟨none, none, rfl, upd_same, Fre.refl _ _⟩ (fun i σ H' _ ⟨_, _, _, _, fr⟩ => .inl (.inl (fr _ _ (s1 _ _ ht) (ne_of_none ht no)))) ?_ ?_⟩
    · rintro i y σ H' hy ⟨f, l, rfl, ho, fr⟩
      obtain ⟨z, hz, hzM, rfl⟩ := refs_get hy
      have hil : i < M.length := (List.getElem?_eq_some_iff.mp hz).1
      have ez : H' z.1 = some (.tup [.int z.2.1, .int z.2.2]) := fr _ _ (s1 _ _ (hM z hzM)) (ne_of_none (hM z hzM) no)
      refine ⟨z.1, _, rfl, .inl (.inl ez), rfl, _, _, rfl, _, _, rfl, rfl, ?_⟩
      refine ⟨_, rfl, .inl ⟨rfl, _, .inl (.inl ho)⟩, _, rfl, o, _, _, rfl, rfl, ho, small1000 (by rw [List.length_map, List.length_map, List.length_range]; omega), ?_⟩
      refine ⟨_, rfl, _, rfl, _, _, rfl, rfl, _, rfl, _, _, rfl, rfl, _, _, rfl, rfl, ?_⟩
      have e1 : (rws M).take (i + 1) = (rws M).take i ++ [z.2] := by rw [List.take_add_one, rws_get hz]; rfl
      refine ⟨some (.int z.2.1), some (.int z.2.2), ?_, ?_, fr.trans Fre.put⟩
      · rw [e1, tot_snoc]
        rfl
      · rw [upd_same, List.range_succ, List.map_append, List.map_append]
        rfl
    · rintro σ H' ⟨f, l, rfl, ho, fr⟩
      refine ⟨_, rfl, o, _, rfl, .inl ⟨.inl (.inl ho), fun b hb => ?_⟩⟩
      have s2 := same_lay (o := .tup (((List.range (refs M).length).map fun j => tot ((rws M).take j)).map V.int)) hb
      have s3 : Same H H' := fun c u e => fr c u (s1 c u e) (ne_of_none e no)
      refine q b _ (s3.trans s2) (s3.free hb) ?_
      rw [upd_same]
      unfold befs
      rw [rws_len, refs_len]
theorem scPI : FnScope ["self", "stretches", "index", "stretch", "first", "_"] ["self", "stretches"] (defScope sPlInit) := ⟨rfl, rfl, rfl, by decide +kernel, rfl, by decide +kernel, by decide +kernel⟩
theorem ok_plinit {f C : Addr} {fd : FuncData} {dvs : List V} (F : FunD K "__init__" "Places.__init__" (defArgs sPlInit) (defBody sPlInit) (defScope sPlInit) dvs [] f fd) (T : PTxt K mg C) (S : Cl P w K mg base 3 "_is_stretch" ["value"] spIsStretchP)
    (J : Cl P w K mg base 1 "_joined" ["stretches"] (spJoined K)) (B : Cl P w K mg base 1 "_counts_before" ["stretches"] (spCounts K)) : FnOk P w K mg base CX0 4 f fd ["self", "stretches"] (spPlInit K C) := by
  refine F.ok scPI (fun vs H Q E h => ?_) (fun cdv A outer s H vs Q E hr h => ?_)
  · obtain ⟨x, dx, a, L, rfl, _⟩ := h
    rfl
  · obtain ⟨x, dx, a, L, rfl, hx, hS, hlen, hP, hok, q⟩ := h
    have nd := scPI.nd
    have hb := PSs.nox (X := cxOf CX0 P w K mg base ["self", "stretches", "index", "stretch", "first", "_"] "Places.__init__" (defScope sPlInit) f cdv A outer s H E) (st := defBody sPlInit) (pss_cons (ps_for PassesOwn.never rfl (pi_or (pi_enum (by rfl) T.zEnum (pa_cons (pv 1) pa_nil)) (pi_enumT (by rfl) T.zEnum (pa_cons (pv 1) pa_nil)))
          (pg_tup rfl (pgs_cons (pg_name (i := 2) nd rfl (.inl rfl)) (pgs_cons (pg_name (i := 3) nd rfl (.inl rfl)) pgs_nil)))
        (pss_one (ps_if (pt_not (pt_val (pe_cl S hr (by decide) (by rfl) (pa_cons (pv 3) pa_nil)))) (pss_one ps_never) pss_nil)))
      (pss_cons (ps_fld (pv 0) (pe_cl J hr (by decide) (by rfl) (pa_cons (pv 1) pa_nil)) rfl)
      (pss_cons (ps_fld (pv 0) (pe_callTy call_tuple_of (by rfl) T.zTup bt_tup (pa_cons
          (pe_lc (own := [("first", 4), ("_", 5)]) (g := gTup K 2 (gCons (gName 4) (gCons (gName 5) gNil))) (tt := tYes) rfl nd (pi_tup (pe_fld (pv 0) rfl)) (blkOk_by (N := ["self", "stretches", "index", "stretch", "first", "_"]) (sc := defScope sPlInit) (by decide +kernel))
            (fun _ _ _ _ _ => pg_tup rfl (pgs_cons (pg_name (i := 4) nd rfl (.inl rfl)) (pgs_cons (pg_name (i := 5) nd rfl (.inl rfl)) pgs_nil))) (fun _ _ _ _ _ => pts_nil) (fun _ _ _ _ _ => pv 4)) pa_nil)) rfl)
      (pss_one (ps_fld (pv 0) (pe_cl B hr (by decide) (by rfl) (pa_cons (pe_fld (pv 0) rfl) pa_nil)) rfl)))))
    refine ⟨_, hb, ?_⟩
    clear hb
    -- what follows the loop
    have after : ∀ (σ : L2.St) (H1 : Hp) (i1 s1 : Option V), σ = [some (.ref x), some (.ref a), i1, s1, none, none] → Same H H1 → (tSeq (sFld K (tVar 0) (tCall (spJoined K) [] E0 (tCons (tVar 1) tNil)) "stretches")
        (tSeq (sFld K (tVar 0) (tCB (fun xs H Q => ∃ p ys, xs = [V.ref p] ∧ ((SqL K H p ys ∧ ∀ l, H l = none → Q (.ref l) (upd H l (.tup ys))) ∨ (SqT K H p ys ∧ Q (.ref p) H))) (tCons (tLc (iTup K (tFld K (tVar 0) "stretches")) (gTup K 2 (gCons (gName 4) (gCons (gName 5) gNil))) tYes (tVar 4) [4, 5]) tNil)) "_firsts")
        (sFld K (tVar 0) (tCall (spCounts K) [] E0 (tCons (tFld K (tVar 0) "stretches") tNil)) "_before"))) { nx := fun _ H' => Q .non H', rt := Q } σ H1 := by
      rintro σ H1 i1 s1 rfl S1
      have hS1 : SqL K H1 a (refs L) ∨ SqT K H1 a (refs L) := hS.elim (fun e => .inl (S1.seq e)) fun e => .inr (sameT S1 e)
      refine ⟨_, rfl, a, L, rfl, hS1, hlen, hP.same S1, fun r hr => okRow_le (hok r hr), fun t M H2 S2 nt ht hM hnf hme hlM => ?_⟩
      have hx2 := S2 _ _ (S1 _ _ hx)
      refine ⟨_, rfl, x, C, dx, [], rfl, hx2, T.cl, T.nS, (by show 0 < 1000; decide), ?_⟩
      have ntx : t ≠ x := ne_of ht hx2 (by intro z; cases z)
      have nMx : ∀ p ∈ M, p.1 ≠ x := fun p hp => ne_of (hM p hp) hx2 (by intro z; cases z)
      -- firsts
      generalize hH3 : upd H2 x (.ins C dx (putF "stretches" (.ref t) [])) = H3
      have hx3 : H3 x = some (.ins C dx (putF "stretches" (.ref t) [])) := by rw [← hH3, upd_same]
      have ht3 : H3 t = some (.tup (refs M)) := by rw [← hH3, upd_ne ntx]; exact ht
      have hM3 : AtR H3 M := fun p hp => by rw [← hH3, upd_ne (nMx p hp)]; exact hM p hp
      have f3 : ∀ c o, H c = some o → c ≠ x → H3 c = some o := fun c o e n => by rw [← hH3, upd_ne n]; exact S2 _ _ (S1 _ _ e)
      have lk : (putF "stretches" (V.ref t) []).lookup ("stretches" : Str) = some (V.ref t) := by rw [lookup_putF, if_pos rfl]
      refine ⟨_, rfl, x, C, dx, _, _, rfl, hx3, T.cl, T.nS, lk, t, rfl, ⟨_, .inl (.inl ht3)⟩, fun D hD => lc_tup (K := K) (a := t) (xs := refs M) (fun i H4 => H4 D = some (.lst ((rws M).take i |>.map fun r => V.int r.1)) ∧ Same H3 H4)
        ⟨upd_same, same_lay hD⟩ (fun i H4 _ ⟨_, s⟩ => .inl (.inl (s _ _ ht3))) ?_ ?_⟩
      · rintro i y H4 hy ⟨hD4, s4⟩
        obtain ⟨z, hz, hzM, rfl⟩ := refs_get hy
        have hil : i < M.length := (List.getElem?_eq_some_iff.mp hz).1
        have ez := s4 _ _ (hM3 z hzM)
        refine ⟨z.1, _, rfl, .inl (.inl ez), rfl, _, _, rfl, _, _, rfl, rfl, rfl, yesT ?_⟩
        refine ⟨_, rfl, _, hD4, small1000 (by rw [List.length_map, List.length_take]; omega), ?_, same_upd s4 hD⟩
        have e1 : (rws M).take (i + 1) = (rws M).take i ++ [z.2] := by rw [List.take_add_one, rws_get hz]; rfl
        rw [upd_same, e1, List.map_append]
        rfl
      · rintro H4 ⟨hD4, s4⟩
        rw [refs_len, List.take_of_length_le (by rw [rws_len]; exact Nat.le_refl _)] at hD4
        refine ⟨D, _, rfl, .inl ⟨.inl (.inl hD4), fun f nf => ?_⟩⟩
        have s5 := same_lay (o := .tup ((rws M).map fun r => V.int r.1)) nf
        have s35 := s4.trans s5
        have hx5 := s35 _ _ hx3
        refine ⟨_, rfl, x, C, dx, _, rfl, hx5, T.cl, T.nF, (by show 1 < 1000; decide), ?_⟩
        have nfx : f ≠ x := by
          intro e
          rw [e] at nf
          rw [s4 _ _ hx3] at nf
          cases nf
        generalize hH6 : upd (upd H4 f (.tup ((rws M).map fun r => V.int r.1))) x (.ins C dx (putF "_firsts" (.ref f) (putF "stretches" (.ref t) []))) = H6
        have hx6 : H6 x = some (.ins C dx (putF "_firsts" (.ref f) (putF "stretches" (.ref t) []))) := by rw [← hH6, upd_same]
        have ht6 : H6 t = some (.tup (refs M)) := by rw [← hH6, upd_ne ntx]; exact s35 _ _ ht3
        have hM6 : AtR H6 M := fun p hp => by rw [← hH6, upd_ne (nMx p hp)]; exact s35 _ _ (hM3 p hp)
        have hf6 : H6 f = some (.tup ((rws M).map fun r => V.int r.1)) := by rw [← hH6, upd_ne nfx, upd_same]
        have f6 : ∀ c o, H c = some o → c ≠ x → H6 c = some o := fun c o e n => by rw [← hH6, upd_ne n]; exact s35 _ _ (f3 c o e n)
        have lk6 : (putF "_firsts" (V.ref f) (putF "stretches" (V.ref t) [])).lookup ("stretches" : Str) = some (V.ref t) := by
          rw [lookup_putF, if_neg (fun e => kFS e.symm), lookup_putF, if_pos rfl]
        refine ⟨_, rfl, x, C, dx, _, _, rfl, hx6, T.cl, T.nS, lk6, t, M, rfl, ht6, hM6, Nat.le_trans hlM hlen, fun b H7 s7 nb hb => ?_⟩
        have hx7 := s7 _ _ hx6
        refine ⟨_, rfl, x, C, dx, _, rfl, hx7, T.cl, T.nB, (by show 2 < 1000; decide), ?_⟩
        have nbx : b ≠ x := ne_of hb hx7 (by intro z; cases z)
        refine q (rws M) _ (fun c o e n => by rw [upd_ne n]; exact s7 _ _ (f6 c o e n)) ⟨hnf, dx, t, f, b, M, upd_same, ?_, fun p hp => ?_, rfl, ?_, ?_, Nat.le_trans hlM hlen⟩ hme (by rw [rws_len]; exact hlM)
        · rw [upd_ne ntx]; exact s7 _ _ ht6
        · rw [upd_ne (nMx p hp)]; exact s7 _ _ (hM6 p hp)
        · rw [upd_ne nfx]; exact s7 _ _ hf6
        · rw [upd_ne nbx]; exact hb
    rcases hS with hS' | hS'
    · refine .inl ⟨_, rfl, a, refs L, rfl, hS', for_enum (K := K) (a := a) (xs := refs L) (fun i σ H' => ∃ i1 s1, σ = [some (.ref x), some (.ref a), i1, s1, none, none] ∧ Same H H')
        ⟨none, none, rfl, Same.refl _⟩ (fun i σ H' _ ⟨_, _, _, s⟩ => s.seq hS') ?_ ?_⟩
      · rintro i y σ H' Tn hy ⟨i1, s1, rfl, S1⟩ hT
        obtain ⟨z, hz, hzL, rfl⟩ := refs_get hy
        have s2 := same_lay (o := .tup [.int (i : Nat), .ref z.1]) hT
        have pz := (hP.same (S1.trans s2)) z hzL
        have okz : okRow z.2 = true := hok z.2 (mem_rws.mpr ⟨z.1, hzL⟩)
        refine ⟨Tn, _, rfl, .inl (.inl upd_same), rfl, _, _, rfl, _, _, rfl, rfl, ?_⟩
        refine ⟨_, rfl, z.1, z.2, rfl, pz, fun H'' S3 => ⟨_, rfl, ?_⟩⟩
        rw [okz]
        exact iteF ⟨_, _, rfl, (S1.trans s2).trans S3⟩
      · rintro σ H' ⟨i1, s1, rfl, S1⟩
        exact after _ _ i1 s1 rfl S1
    · refine .inr ⟨_, rfl, a, refs L, rfl, hS', for_enumT (K := K) (a := a) (xs := refs L) (fun i σ H' => ∃ i1 s1, σ = [some (.ref x), some (.ref a), i1, s1, none, none] ∧ Same H H')
        ⟨none, none, rfl, Same.refl _⟩ (fun i σ H' _ ⟨_, _, _, s⟩ => sameT s hS') ?_ ?_⟩
      · rintro i y σ H' Tn hy ⟨i1, s1, rfl, S1⟩ hT
        obtain ⟨z, hz, hzL, rfl⟩ := refs_get hy
        have s2 := same_lay (o := .tup [.int (i : Nat), .ref z.1]) hT
        have pz := (hP.same (S1.trans s2)) z hzL
        have okz : okRow z.2 = true := hok z.2 (mem_rws.mpr ⟨z.1, hzL⟩)
        refine ⟨Tn, _, rfl, .inl (.inl upd_same), rfl, _, _, rfl, _, _, rfl, rfl, ?_⟩
        refine ⟨_, rfl, z.1, z.2, rfl, pz, fun H'' S3 => ⟨_, rfl, ?_⟩⟩
        rw [okz]
        exact iteF ⟨_, _, rfl, (S1.trans s2).trans S3⟩
      · rintro σ H' ⟨i1, s1, rfl, S1⟩
        exact after _ _ i1 s1 rfl S1
end
end OR

namespace OR
open PySem PySem.Spec PyProof.Rows L2
/-! ### deep data made of rows -/
def rowD (r : Row) : PyData := .tuple [.int r.1, .int r.2]
theorem dp_row {K : PySem.W.Frag} {H : Hp} {a : Addr} {r : Row} (h : H a = some (.tup [.int r.1, .int r.2])) : Dp K H (.ref a) (rowD r) := .tup (.inl (.inl h)) (.cons (.int _) (.cons (.int _) .nil))
theorem dp_rows {K : PySem.W.Frag} {H : Hp} : ∀ {L : List ARow}, AtR H L → DpAll K H (refs L) ((rws L).map rowD)
  | [], _ => .nil
  | p :: L, h => .cons (dp_row (h p List.mem_cons_self)) (dp_rows fun q hq => h q (List.mem_cons_of_mem _ hq))
theorem lay_rows : ∀ l : List Row, PyData.canLayAll0 (l.map rowD) = true
  | [] => rfl
  | r :: l => by
    show (PyData.canLay0 (rowD r) && PyData.canLayAll0 (l.map rowD)) = true
    rw [lay_rows l]
    rfl
theorem dep_rows : ∀ l : List Row, PyData.depthAll (l.map rowD) ≤ 1
  | [] => Nat.zero_le _
  | r :: l => by
    show max (PyData.depth (rowD r)) (PyData.depthAll (l.map rowD)) ≤ 1
    have := dep_rows l
    have e : PyData.depth (rowD r) = 1 := rfl
    omega
theorem shp_tup (l : List Row) : SeqAt.shaped (.tuple (l.map rowD)) = true := by
  unfold SeqAt.shaped
  rw [show PyData.canLay0 (.tuple (l.map rowD)) = true from lay_rows l, Bool.true_and]
  refine decide_eq_true ?_
  show PyData.depthAll (l.map rowD) + 1 ≤ 64
  have := dep_rows l
  omega
theorem shp_lst (l : List Row) : SeqAt.shaped (.list (l.map rowD)) = true := by
  unfold SeqAt.shaped
  rw [show PyData.canLay0 (.list (l.map rowD)) = true from lay_rows l, Bool.true_and]
  refine decide_eq_true ?_
  show PyData.depthAll (l.map rowD) + 1 ≤ 64
  have := dep_rows l
  omega
theorem eqv_row (r s : Row) : PyData.eqv (rowD r) (rowD s) = decide (r = s) := by
  show ((r.1 == s.1) && ((r.2 == s.2) && true)) = decide (r = s)
  rw [Bool.and_true]
  by_cases h : r = s
  · subst h
    simp
  · rw [decide_eq_false h]
    by_cases h1 : r.1 = s.1
    · have h2 : r.2 ≠ s.2 := fun e => h (Prod.ext h1 e)
      simp [h2]
    · simp [h1]
theorem eqv_rows : ∀ l m : List Row, PyData.eqvAll (l.map rowD) (m.map rowD) = decide (l = m)
  | [], [] => by simp [PyData.eqvAll]
  | [], _ :: _ => by simp [PyData.eqvAll]
  | _ :: _, [] => by simp [PyData.eqvAll]
  | r :: l, s :: m => by
    show (PyData.eqv (rowD r) (rowD s) && PyData.eqvAll (l.map rowD) (m.map rowD)) = decide (r :: l = s :: m)
    rw [eqv_row, eqv_rows l m]
    by_cases h1 : r = s
    · by_cases h2 : l = m
      · simp [h1, h2]
      · simp [h1, h2]
    · simp [h1]
theorem AtR.frm {H H' : Hp} {L : List ARow} {p : Addr} {n : Nat} (h : AtR H L) (f : Frm p H H') (P : Pen H p n) : AtR H' L := fun q hq => by
  obtain ⟨c, ns, k, l, hp, _⟩ := P
  exact f _ _ (h q hq) (ne_of (h q hq) hp (by intro z; cases z))
theorem Frm.free {p q : Addr} {H H' : Hp} {n : Nat} (f : Frm p H H') (P : Pen H' p n) (h : H' q = none) : H q = none := by
  obtain ⟨c, ns, k, l, hp, _⟩ := P
  cases e : H q with
  | none => rfl
  | some o =>
    by_cases ep : q = p
    · rw [ep, hp] at h
      cases h
    · rw [f q o e ep] at h
      cases h
theorem frmS {p : Addr} {H H' : Hp} (s : Same H H') : Frm p H H' := ⟨fun b o e _ => s b o e, fun c ⟨k, l, e⟩ => ⟨k, l, s _ _ e⟩⟩
theorem Pen.same' {H H' : Hp} {p : Addr} {n : Nat} (P : Pen H p n) (s : Same H H') : Pen H' p n := by
  obtain ⟨c, ns, k, l, h1, h2, h⟩ := P
  exact ⟨c, ns, k, l, s _ _ h1, s _ _ h2, h⟩
/-! ### the law's drawing of rows -/
def spSpot : Sp := fun vs H Q _ => ∃ (p : Addr) (n : Nat), vs = [.ref p] ∧ Pen H p n ∧ n ≤ 900000 ∧ ∀ (r : Int) (H' : Hp), placeB r = true → Pen H' p (n + 2) → Frm p H H' → Q (.int r) H'
def spDrawn : Sp := fun vs H Q _ => ∃ (p : Addr) (m n : Nat), vs = [.ref p, .int m] ∧ m ≤ 20 ∧ Pen H p n ∧ n ≤ 700000 ∧
  ∀ (a : Addr) (L : List ARow) (H' : Hp), H a = none → H' a = some (.lst (refs L)) → AtR H' L → (∀ r ∈ rws L, okRow r = true) → L.length ≤ m → Pen H' p (n + 1000) → Frm p H H' → Q (.ref a) H'
theorem place_of {r : Int} (h0 : 0 ≤ r) (h1 : r ≤ lastP) : placeB r = true := by
  unfold placeB
  rw [decide_eq_true h0, decide_eq_true h1]
  rfl
theorem place_iff {r : Int} (h : placeB r = true) : 0 ≤ r ∧ r ≤ lastP := by
  unfold placeB at h
  simp only [Bool.and_eq_true, decide_eq_true_eq] at h
  exact h
theorem okRow_of {a b : Int} (h0 : 0 ≤ a) (h1 : a ≤ b) (h2 : b ≤ lastP) : okRow (a, b) = true := by
  unfold okRow
  rw [place_of (r := a) h0 (Int.le_trans h1 h2), place_of (r := b) (Int.le_trans h0 h1) h2, Bool.true_and, Bool.true_and]
  exact decide_eq_true h1
theorem okRow_iff {r : Row} (h : okRow r = true) : 0 ≤ r.1 ∧ r.1 ≤ r.2 ∧ r.2 ≤ lastP := by
  unfold okRow at h
  rw [Bool.and_eq_true, Bool.and_eq_true, decide_eq_true_eq] at h
  exact ⟨(place_iff h.1).1, h.2.2, (place_iff h.2.1).2⟩
structure Bd (mg : Str → Option Value) : Prop where
  range : mg "range" = none
  min : mg "min" = none
  max : mg "max" = none
  int : mg "int" = none
  len : mg "len" = none
  list : mg "list" = none
  set : mg "set" = none
  sorted : mg "sorted" = none
end OR

namespace OR
open PySem PySem.Spec PyProof.Rows L2
/-! ### own ==, !=, bool -/
section
variable {prog : Program} {w : World} {A : Around} {E : Value → Shared → Prop} {s : Shared} {K : PySem.W.Frag} {x C L f : Addr} {h₀ : Heap} {m : Str → Option Value} {ox : Obj} {od : Option Obj} {b tb : Value}
theorem ifBound_ne {M : Model} {args : List Value} {Q : Option Value → Shared → Prop} (X : K.In s.heap) (I : PySem.W.InstAt s.heap x ox C od) (hs : PySem.W.findIn K (.ref C) "__ne__" = some (some (.builtin "object.__ne__")))
    (h : wpAny M A (call (.builtin "object.__ne__") (.ref x :: args)) (fun v => Q (some v)) E s) : wpAny M A (callSpecialIfBound? (.ref x) "__ne__" args) Q E s := by
  simp only [callSpecialIfBound?, bindSpecialIfBound?]
  refine wpAny_holding (wpAny_bind (wpAny_bind (wpAny_bind (I.type.here ((PySem.W.looks_findIn X hs).here ?_)))))
  simp only [PySem.F.cmp_object.ne.bind]
  refine wpAny_bind (wpAny_askSetting (wpAny_ite ?_))
  have fin : wpAny M A (call (.builtin "object.__ne__") ([.ref x] ++ args) >>= fun v => pure (some v)) Q E s := wpAny_bind (wpAny_mono h (fun v s' h' => wpAny_pure h') fun _ _ h' => h')
  split
  · exact wpAny_bind (wpAny_pure (wpAny_pure fin))
  · exact wpAny_tryCatch (wpAny_bind (wpAny_pure (wpAny_pure fin)))
theorem check_ne {M : Model} {Q : Unit → Shared → Prop} (X : K.In s.heap) (I : PySem.W.InstAt s.heap x ox C od) (hm : PySem.W.mroIn K C (.type "object") = some true) (hq : Q () s) :
    wpAny M A (PySem.checkBuiltinCall "object.__ne__" ⟨[.ref x, b], []⟩) Q E s := by
  have hsig : ∃ sig, Manifest.signature? "object.__ne__" = sig := ⟨_, rfl⟩
  obtain ⟨sig, hsig⟩ := hsig
  have ha := PySem.F.cmpArgs_ne (.ref x) b
  unfold argsOk at ha
  simp only [PySem.checkBuiltinCall, PySem.F.cmpKind_ne, PySem.F.cmpSplit_ne]
  refine wpAny_bind (m := PySem.isInstance _ _) ?_
  unfold PySem.isInstance
  refine wpAny_bind (I.type.here ((PySem.W.looks_mroIn X hm).here ?_))
  rw [hsig] at ha ⊢
  cases sig with
  | none => exact wpAny_pure hq
  | some sg =>
    have h2 : Bind.checkArgs "object.__ne__" sg ⟨[.ref x, b], []⟩ = pure () := ha
    show wpAny M A (Bind.checkArgs "object.__ne__" sg ⟨[.ref x, b], []⟩) Q E _
    rw [h2]; exact wpAny_pure hq
/-- x != b by the own == of x -/
theorem ne_K {Q : Value → Shared → Prop} (hu : A.units + 1 < cLine) (F : PyProof.Rows.Fr h₀ L s.heap m) (X₀ : K.In h₀) (I : PySem.W.InstAt s.heap x ox C od) (hb : PySem.W.Looks (model prog w) s.heap (typeOf b) tb) (hn : PySem.W.notFirst K C tb = true)
    (h1 : PySem.W.findIn K (.ref C) "__ne__" = some (some (.builtin "object.__ne__"))) (hm : PySem.W.mroIn K C (.type "object") = some true) (hs : PySem.W.findIn K (.ref C) "__eq__" = some (some (.ref f))) (hf : PySem.W.isFn K (.ref f) = true)
    (h : wpAny (model prog w) A.in1 (call (.ref f) [.ref x, b]) (fun v s' => ∃ k, v = .bool k ∧ Q (.bool (!k)) s') E s) : wpAny (model prog w) A (richCompare .NotEq (.ref x) b) Q E s := by
  have X := X₀.keeps F.keep
  have entry : wpAny (model prog w) A.in1 (Builtin.«object.__ne__» ⟨[.ref x, b], []⟩) (fun r s' => ∃ k, r = .done (.ret (.bool (!k))) ∧ Q (.bool (!k)) s') E s := by
    unfold Builtin.«object.__ne__»
    refine wpAny_bind (m := PySem.slotArgs "__ne__" 1 _) (wpAny_pure ?_)
    refine wpAny_bind (wpAny_cRoomFor hu ?_)
    refine wpAny_bind (m := callSpecialIfBound? (.ref x) (Str.ofString "__eq__") [b]) (PySem.W.ifBound_K X I hs hf (wpAny_mono h (fun r s' hr => ?_) fun _ _ e => e))
    obtain ⟨k, rfl, hq⟩ := hr
    refine wpAny_bind (m := truthy (.bool k)) (wpAny_truthy_bool ?_)
    exact wpAny_pure ⟨k, rfl, hq⟩
  have one : wpAny (model prog w) A (tryCompare (.ref x) "__ne__" b) (fun r s' => ∃ v, r = some v ∧ Q v s') E s := by
    unfold tryCompare
    refine wpAny_bind (ifBound_ne X I h1 (wpAny_call (codeAny_call_builtin PySem.F.cmp_object.ne.plain PySem.F.cmpEntry_ne (check_ne X I hm (wpAny_mono entry (fun r s' z => ?_) fun _ _ e => e)))))
    obtain ⟨k, rfl, hq⟩ := z
    exact wpAny_pure ⟨_, rfl, hq⟩
  unfold richCompare
  simp only [oneThing_ref]
  refine wpAny_holding (wpAny_bind (wpAny_cRoomFor (by omega) ?_))
  refine wpAny_bind (I.type.here (wpAny_bind (hb.here ?_)))
  split
  · rename_i q
    have e : PySem.W.subIn K tb (.ref C) = some false := by
      rcases Bool.or_eq_true_iff.mp hn with e | e
      · rw [beq_iff_eq.mp e] at q; simp at q
      · exact beq_iff_eq.mp e
    refine wpAny_bind ((PySem.W.looks_subIn X e).here ?_)
    simp only [Bool.false_eq_true, if_false]
    refine wpAny_bind (wpAny_mono one (fun r s' z => ?_) fun _ _ e => e)
    obtain ⟨v, rfl, hq⟩ := z
    exact wpAny_pure hq
  · refine wpAny_bind (wpAny_pure ?_)
    simp only [Bool.false_eq_true, if_false]
    refine wpAny_bind (wpAny_mono one (fun r s' z => ?_) fun _ _ e => e)
    obtain ⟨v, rfl, hq⟩ := z
    exact wpAny_pure hq
theorem bool_truth {v : Value} {Q : Value → Shared → Prop} (h : wpAny (model prog w) A.in1.in1 (truthy v) (fun b s' => Q (.bool b) s') E s) : wpAny (model prog w) A (call (.type "bool") [v]) Q E s := by
  refine PySem.callType_codes (T := "bool") (Bi := Builtin.«object.__init__») (Q₁ := fun r s₁ => ∃ b, r = Value.bool b ∧ Q r s₁) PySem.F.called_bool (PySem.F.typeCall_bool_1 _) PySem.F.entry_object_init ?_ ?_
  · refine codeAny_of_tree ?_
    show wpAny _ A.in1.in1 (do checkBuiltinCall "bool.__new__" ⟨[.type "bool", v], []⟩; again (.builtin "bool.__new__" ⟨[.type "bool", v], []⟩)) _ _ s
    refine wpAny_bind (wpAny_of_eq (PySem.F.newCall_bool_1 _) (wpAny_pure ⟨plainId_quiet (by decide +kernel) _, codeAny_builtin PySem.F.entry_bool_new ?_⟩))
    rw [Around.under_plainId (by decide +kernel) _]
    unfold Builtin.«bool.__new__»
    refine wpAny_bind (wpAny_of_eq (a := true) (by first | rfl | kernel_rfl | (unfold isType; rw [isSubtype_type]; kernel_rfl)) ?_)
    refine PySem.W.KFB.if_not rfl ?_
    refine wpAny_bind (wpAny_of_eq (a := true) PySem.F.conv_sub_bool ?_)
    refine PySem.W.KFB.if_not rfl ?_
    refine wpAny_bind (wpAny_of_eq (a := [v]) rfl ?_)
    refine wpAny_bind (wpAny_mono h (fun b s' hq => ?_) fun _ _ e => e)
    exact wpAny_pure ⟨b, rfl, hq⟩
  · rintro obj s₁ ⟨b, rfl, hq⟩
    exact ⟨rfl, PySem.F.args_object_init_2 _ _, object_init_meets PySem.F.called_bool.init.lookup PySem.F.called_bool.made (by decide) prog w A.in1 _ s₁ ⟨rfl, rfl, hq⟩⟩
end
section
variable {X : Cx} {n : Nat} {C : Addr} {sp : Sp}
/-- what stands on the right: an instance of the class, or a value of a type that is no class below -/
def RightOf (K : PySem.W.Frag) (C : Addr) (H : Hp) (y : V) : Prop := ∃ tb, TyX K H y tb ∧ PySem.W.notFirst K C tb = true
/-- x == y by the own == of x -/
def rEqO (K : PySem.W.Frag) (C : Addr) (sp : Sp) : R2 := fun x y H Q => ∃ a dx fs, x = .ref a ∧ H a = some (.ins C dx fs) ∧ RightOf K C H y ∧ sp [x, y] H Q E0
theorem op_eqO (K : PySem.W.Frag) (hK : X.K = K) (m : Md X.prog X.w X.K X.mg X.base n C "__eq__" sp) (hr : Room n X.A) : OpR X (compareOp .Eq) (rEqO K C sp) := by
  subst hK
  intro pins s σ H x y v u Q I rx ry h
  obtain ⟨f, F, hs, hf, _⟩ := m.ex
  obtain ⟨a, dx, fs, rfl, ha, ⟨tb, hy, hn⟩, q⟩ := h
  cases (show v = Value.ref a from rx)
  obtain ⟨mA, J, _⟩ := ins_get I.hok ha
  obtain ⟨od, J, _⟩ := J.look
  obtain ⟨Pk, hk, hp, _⟩ := kit_of I ry hy
  obtain ⟨m, hF⟩ := I.fr
  refine PySem.W.cmp_K (op := .Eq) (tb := tb) hr.units0 hF I.ok.mod.kin J (hk.ty _ _ I.kIn hp) hn hs hf ?_
  refine wpAny_mono (wpAny_call (run_fnR (us := [.ref a, u]) (vs := [.ref a, y]) F hr pass0 I (.cons rfl (.cons ry .nil)) q)) (fun w s' z => ?_) fun _ _ x => x
  obtain ⟨z', H', I', rz, qz⟩ := z
  exact SlX.cmpback rz ⟨z', H', I', rz, qz⟩
/-- x != y by the own == of x -/
def rNeO (K : PySem.W.Frag) (C : Addr) (sp : Sp) : R2 := fun x y H Q => ∃ a dx fs, x = .ref a ∧ H a = some (.ins C dx fs) ∧ RightOf K C H y ∧ sp [x, y] H (fun z H' => ∃ k, z = .bl k ∧ Q (.bl (!k)) H') E0
theorem op_neO (K : PySem.W.Frag) (hK : X.K = K) (m : Md X.prog X.w X.K X.mg X.base n C "__eq__" sp) (h1 : PySem.W.findIn X.K (.ref C) "__ne__" = some (some (.builtin "object.__ne__"))) (hm : PySem.W.mroIn X.K C (.type "object") = some true) (hr : Room (n + 1) X.A) : OpR X (compareOp .NotEq) (rNeO K C sp) := by
  subst hK
  intro pins s σ H x y v u Q I rx ry h
  obtain ⟨f, F, hs, hf, _⟩ := m.ex
  obtain ⟨a, dx, fs, rfl, ha, ⟨tb, hy, hn⟩, q⟩ := h
  cases (show v = Value.ref a from rx)
  obtain ⟨mA, J, _⟩ := ins_get I.hok ha
  obtain ⟨od, J, _⟩ := J.look
  obtain ⟨Pk, hk, hp, _⟩ := kit_of I ry hy
  obtain ⟨m, hF⟩ := I.fr
  refine ne_K (tb := tb) (by have := hr.units; omega) hF I.ok.mod.kin J (hk.ty _ _ I.kIn hp) hn h1 hm hs hf ?_
  refine wpAny_mono (wpAny_call (SlX.run_at (us := [.ref a, u]) (ws := [.ref a, y]) F hr.in1 I.env0.in1 pass0 I (.cons rfl (.cons ry .nil)) q)) (fun w s' z => ?_) fun _ _ x => x
  obtain ⟨z', H', I', rz, k, ek, qz⟩ := z
  subst ek
  cases (show w = Value.bool k from rz)
  exact ⟨k, rfl, .bl (!k), H', I', rfl, qz⟩
/-- the truth of x by its own bool -/
def rTruO (C : Addr) (sp : Sp) : V → Hp → (Bool → Hp → Prop) → Prop := fun x H Q => ∃ a dx fs, x = .ref a ∧ H a = some (.ins C dx fs) ∧ sp [x] H (fun z H' => ∃ k, z = .bl k ∧ Q k H') E0
theorem tru_own (m : Md X.prog X.w X.K X.mg X.base n C "__bool__" sp) (hr : Room n X.A) : TruR X (rTruO C sp) := by
  intro pins s σ H x v Q I rx h
  obtain ⟨f, F, hs, hf, _⟩ := m.ex
  obtain ⟨a, dx, fs, rfl, ha, q⟩ := h
  cases (show v = Value.ref a from rx)
  obtain ⟨mA, J, _⟩ := ins_get I.hok ha
  obtain ⟨od, J, _⟩ := J.look
  obtain ⟨m, hF⟩ := I.fr
  refine PySem.W.truthy_K hF I.ok.mod.kin J hs hf ?_
  refine wpAny_mono (wpAny_call (run_fnR (us := [.ref a]) (vs := [.ref a]) F hr pass0 I (.cons rfl .nil) q)) (fun w s' z => ?_) fun _ _ x => x
  obtain ⟨z', H', I', rz, k, ek, qz⟩ := z
  subst ek
  cases (show w = Value.bool k from rz)
  exact ⟨H', I', qz⟩
/-- bool(x) by its own bool -/
def rBoolO (C : Addr) (sp : Sp) : List V → Hp → VK → Prop := fun xs H Q => ∃ a dx fs, xs = [.ref a] ∧ H a = some (.ins C dx fs) ∧ sp xs H (fun z H' => ∃ k, z = .bl k ∧ Q z H') E0
theorem call_boolO (m : Md X.prog X.w X.K X.mg X.base n C "__bool__" sp) (hr : Room (n + 2) X.A) : CallR X (.type "bool") (rBoolO C sp) := by
  intro pins s σ H xs us Q I r h
  obtain ⟨f, F, hs, hf, _⟩ := m.ex
  obtain ⟨a, dx, fs, rfl, ha, q⟩ := h
  obtain ⟨u, rfl, ru⟩ := r.one
  cases (show u = Value.ref a from ru)
  obtain ⟨mA, J, _⟩ := ins_get I.hok ha
  obtain ⟨od, J, _⟩ := J.look
  obtain ⟨m, hF⟩ := I.fr
  have hr2 : Room n X.A.in1.in1 := (show Room (n + 1) X.A.in1 from Room.in1 hr).in1
  refine bool_truth (PySem.W.truthy_K hF I.ok.mod.kin J hs hf ?_)
  refine wpAny_mono (wpAny_call (SlX.run_at (us := [.ref a]) (ws := [.ref a]) F hr2 I.env0.in1.in1 pass0 I (.cons rfl .nil) q)) (fun w s' z => ?_) fun _ _ x => x
  obtain ⟨z', H', I', rz, k, ek, qz⟩ := z
  subst ek
  cases (show w = Value.bool k from rz)
  exact ⟨.bl k, H', I', rfl, qz⟩
/-- bool(a tuple) -/
theorem call_boolT (K : PySem.W.Frag) (hK : X.K = K) : CallR X (.type "bool") (fun xs H Q => ∃ (a : Addr) (zs : List V), xs = [.ref a] ∧ SqT K H a zs ∧ Q (.bl (!zs.isEmpty)) H) := by
  subst hK
  intro pins s σ H xs us Q I r h
  obtain ⟨a, zs, rfl, hq, q⟩ := h
  obtain rfl := Vals.ref1 r
  obtain ⟨its, rv, pl, hz⟩ := I.tuple hq
  have hl := line63
  have hlen := rv.length
  exact bool_truth (truthy_tuple pl (by simp only [List.size_toArray]; omega) ⟨.bl (!zs.isEmpty), H, I.tok _, by rw [isEmpty_of rv]; rfl, q⟩)
end
end OR

namespace OR
open PySem PySem.Spec PyProof.Rows L2
/-! ### Places: made, compared, its truth -/
structure PMk' (P : Program) (w : World) (K : PySem.W.Frag) (mg : Str → Option Value) (base : Heap) (C : Addr) : Prop where
  T : PTxt K mg C
  made : ∃ f fd t0, Mk K C f ∧ FnOk P w K mg base CX0 4 f fd ["self", "stretches"] (spPlInit K C) ∧ Binds K fd ["self", "stretches"] [] ∧ Binds K fd ["self", "stretches"] [.ref t0] ∧ ∀ H : Hp, SqT K H t0 []
def tMkP (K : PySem.W.Frag) (C : Addr) (t : TA) : TE := fun σ H Q => t σ H fun vs H1 => ∃ (a : Addr) (L : List ARow), vs = [.ref a] ∧ (SqL K H1 a (refs L) ∨ SqT K H1 a (refs L)) ∧ L.length ≤ 1000 ∧ PairsAt H1 L ∧ (∀ r ∈ rws L, okRow r = true) ∧
  ∀ (x : Addr) (l : List Row) (H' : Hp), H1 x = none → IsP C H' x l → (∀ z, mem l z ↔ mem (rws L) z) → l.length ≤ L.length → Same H1 H' → Q (.ref x) H'
def tMkP0 (C : Addr) : TE := fun σ H Q => ∀ (x : Addr) (H' : Hp), H x = none → IsP C H' x [] → Same H H' → Q (.ref x) H'
theorem made_same {C x dx : Addr} {H H' : Hp} (nx : H x = none) (ndx : H dx = none) (hs : ∀ c o, (upd (upd H dx (.own x)) x (.ins C dx [])) c = some o → c ≠ x → H' c = some o) : Same H H' := fun c o e => by
  have ncx : c ≠ x := ne_of_none e nx
  refine hs c o ?_ ncx
  rw [upd_ne ncx, upd_ne (ne_of_none e ndx)]
  exact e
theorem pe_mkP {X : Cx} (K : PySem.W.Frag) (hK : X.K = K) {C : Addr} {j : Nat} {e : Expr} {es : List Expr} {t : TA} {p pos : Pos} (M : PMk' X.prog X.w X.K X.mg X.base C) (hr : Room j X.A) (hj : 5 ≤ j) (hg : Gl X "Places") (ha : PA X (e :: es) t)
    (he : starEach (e :: es) X.env = (false, eval e X.env) :: starEach es X.env := by rfl) (hpl : (backTo pos (starEach es X.env)).any (·.1) = false := by rfl) : PE X (.Call (.Name "Places" p) (e :: es) [] pos) (tMkP K C t) := by
  subst hK
  obtain ⟨f, fd, t0, mk, F, hb, _⟩ := M.made
  refine ⟨fun pins s σ H Q I h => ?_⟩
  refine wpAny_Call_Name_kw (ld_glob I hg M.T.mgC ?_ (by decide))
  refine PySem.W.callWith_K (h₀ := X.base) I.ok.mod.kin mk.kp (thn (ha.run pos pins s σ H _ I h) fun us s1 ⟨vs, H1, I1, r, q⟩ => ⟨I1.kIn, ?_⟩) he hpl
  obtain ⟨a, L, rfl, hS, hlen, hP, hok, q⟩ := q
  refine run_make mk F (hr.mono hj) hb .nil pass0 I1 r fun x dx nx ndx nex => ?_
  have S1 : Same H1 (upd (upd H1 dx (.own x)) x (.ins C dx [])) := fun c o e => by rw [upd_ne (ne_of_none e nx), upd_ne (ne_of_none e ndx)]; exact e
  exact ⟨x, dx, a, L, rfl, upd_same, hS.elim (fun e => .inl (S1.seq e)) (fun e => .inr (sameT S1 e)), hlen, hP.same S1, hok, fun l H' hs hp hme hle => ⟨rfl, q x l H' nx hp hme hle (made_same nx ndx hs)⟩⟩
theorem pe_mkP0 {X : Cx} {C : Addr} {j : Nat} {p pos : Pos} (M : PMk' X.prog X.w X.K X.mg X.base C) (hr : Room j X.A) (hj : 5 ≤ j) (hg : Gl X "Places") : PE X (.Call (.Name "Places" p) [] [] pos) (tMkP0 C) := by
  obtain ⟨f, fd, t0, mk, F, _, hb, ht⟩ := M.made
  refine ⟨fun pins s σ H Q I q => ?_⟩
  refine wpAny_Call_Name_kw (ld_glob I hg M.T.mgC ?_ (by decide))
  refine PySem.W.callWith_K0 I.kIn mk.kp (run_make (us := []) (vs := []) (dvs := [.ref t0]) mk F (hr.mono hj) hb (.cons rfl .nil) pass0 I .nil fun x dx nx ndx nex => ?_)
  refine ⟨x, dx, t0, [], rfl, upd_same, .inr (ht _), Nat.zero_le _, (fun _ z => nomatch z), (fun _ z => nomatch z), fun l H' hs hp hme _ => ⟨rfl, ?_⟩⟩
  have el : l = [] := Nf.unique hp.nf Nf.nil hme
  subst el
  exact q x H' nx hp (made_same nx ndx hs)
def spPlEq (K : PySem.W.Frag) (C : Addr) : Sp := fun vs H Q _ => ∃ x l y, vs = [.ref x, y] ∧ IsP C H x l ∧ ((∃ b m, y = .ref b ∧ IsP C H b m ∧ Q (.bl (decide (l = m))) H) ∨ (∃ T : String, TyX K H y (.type T) ∧ PySem.W.kitOne K (.type T) (.ref C) = some false ∧ Q (.bl false) H))
def spPlBool (C : Addr) : Sp := fun vs H Q _ => ∃ x l, vs = [.ref x] ∧ IsP C H x l ∧ Q (.bl (!l.isEmpty)) H
section
variable {P : Program} {w : World} {K : PySem.W.Frag} {mg : Str → Option Value} {base : Heap}
theorem tyP {C : Addr} (T : PTxt K mg C) {H : Hp} {x dx : Addr} {fs : List (Str × V)} (hx : H x = some (.ins C dx fs)) : TyX K H (.ref x) (.ref C) := .base (.ins hx T.cl T.isi.ca T.isi.cn T.isi.ct T.isi.cm)
theorem scEq : FnScope ["self", "other"] ["self", "other"] (defScope sPlEq) := ⟨rfl, rfl, rfl, by decide +kernel, rfl, by decide +kernel, by decide +kernel⟩
theorem ok_pleq {f C : Addr} {fd : FuncData} (F : Fun K "__eq__" "Places.__eq__" sPlEq f fd) (T : PTxt K mg C) : FnOk P w K mg base CX0 1 f fd ["self", "other"] (spPlEq K C) := by
  refine F.ok scEq (fun vs H Q E h => ?_) (fun cdv A outer s H vs Q E hr h => ?_)
  · obtain ⟨x, l, y, rfl, _⟩ := h
    rfl
  · obtain ⟨x, l, y, rfl, ⟨_, dx, t, fi, b, M, hx, ht, hM, rfl, _⟩, h⟩ := h
    have hu64 : (A.deeper (envOfC "Places.__eq__" (defScope sPlEq) s.heap.objs.size f cdv)).units + 64 < cLine := hr.units
    refine ⟨_, pss_one (ps_ret (pe_and (pe_callB call_isi (by rfl) T.zIsi bt_isi (pa_cons (pv 1) (pa_cons (pe_glob (v := .ref C) (by rfl) T.mgC rfl) pa_nil)))
      (pe_one (pe_cmpR (op_eqD hu64) (pe_fld (pv 0) rfl) (pe_fld (pv 1) rfl) (nomark _))))), ?_⟩
    rcases h with ⟨y, m, rfl, ⟨_, dy, t2, f2, b2, M2, hy, ht2, hM2, rfl, _⟩, q⟩ | ⟨ty, hT, hk, q⟩
    · refine ⟨_, rfl, .ref y, .ref C, _, _, true, rfl, .own C, tyP T hy, T.kPP, true, rfl, iteT ?_⟩
      refine ⟨_, rfl, x, C, dx, _, _, rfl, hx, T.cl, T.nS, pFl_s _ _ _, _, rfl, y, C, dy, _, _, rfl, hy, T.cl, T.nS, pFl_s _ _ _, .tuple ((rws M).map rowD), .tuple ((rws M2).map rowD), .tup (.inl (.inl ht)) (dp_rows hM), .tup (.inl (.inl ht2)) (dp_rows hM2), shp_tup _, shp_tup _, ?_⟩
      have e : PyData.eqv (.tuple ((rws M).map rowD)) (.tuple ((rws M2).map rowD)) = decide (rws M = rws M2) := eqv_rows _ _
      rw [e]
      exact q
    · exact ⟨_, rfl, y, .ref C, _, _, false, rfl, .own C, hT, hk, false, rfl, iteF q⟩
theorem scBo : FnScope ["self"] ["self"] (defScope sPlBool) := ⟨rfl, rfl, rfl, by decide +kernel, rfl, by decide +kernel, by decide +kernel⟩
theorem ok_plbool {f C : Addr} {fd : FuncData} (F : Fun K "__bool__" "Places.__bool__" sPlBool f fd) (T : PTxt K mg C) : FnOk P w K mg base CX0 1 f fd ["self"] (spPlBool C) := by
  refine F.ok scBo (fun vs H Q E h => ?_) (fun cdv A outer s H vs Q E hr h => ?_)
  · obtain ⟨x, l, rfl, _⟩ := h
    rfl
  · obtain ⟨x, l, rfl, ⟨_, dx, t, fi, b, M, hx, ht, hM, rfl, _⟩, q⟩ := h
    refine ⟨_, pss_one (ps_ret (pe_callTy (call_boolT K rfl) (by rfl) T.zBool bt_bool (pa_cons (pe_fld (pv 0) rfl) pa_nil))), ?_⟩
    refine ⟨_, rfl, x, C, dx, _, _, rfl, hx, T.cl, T.nS, pFl_s _ _ _, t, refs M, rfl, .inl (.inl ht), ?_⟩
    have e : (refs M).isEmpty = (rws M).isEmpty := by cases M <;> rfl
    rw [e]
    exact q
end
end OR

namespace OR
open PySem PySem.Spec PyProof.Rows L2
open TL (tl numL)
/-! ### words of places -/
def dT (n : Int) : Str := Str.ofString (toString n)
theorem str_ext {a b : Str} (h : tl a = tl b) : a = b := TL.ext_tl h
theorem app_assoc (a b c : Str) : (a ++ b) ++ c = a ++ (b ++ c) := str_ext (by rw [TL.tl_append, TL.tl_append, TL.tl_append, TL.tl_append, List.append_assoc])
theorem len_app (a b : Str) : (a ++ b).length = a.length + b.length := by rw [TL.len_tl, TL.len_tl, TL.len_tl, TL.tl_append, List.length_append]
theorem tl_dT {n : Int} (h : 0 ≤ n) : tl (dT n) = numL n.toNat := by
  have e : n = ((n.toNat : Nat) : Int) := (Int.toNat_of_nonneg h).symm
  unfold dT
  rw [e]
  exact TL.tl_num _
theorem dT_len {n : Int} {k : Nat} (h0 : 0 ≤ n) (hk : 0 < k) (h : n < 10 ^ k) : (dT n).length ≤ k := by
  rw [TL.len_tl, tl_dT h0]
  refine TL.numL_len hk ?_
  have : ((n.toNat : Nat) : Int) < ((10 ^ k : Nat) : Int) := by
    rw [Int.toNat_of_nonneg h0]
    have e : ((10 ^ k : Nat) : Int) = (10 : Int) ^ k := by simp
    rw [e]
    exact h
  exact Int.ofNat_lt.mp this
theorem dT_free {n : Int} {s : Nat} (h0 : 0 ≤ n) (h : s < 48 ∨ 57 < s) : s ∉ tl (dT n) := by
  rw [tl_dT h0]
  exact TL.numL_free h
theorem dT_digits {n : Int} (h0 : 0 ≤ n) : ∀ c ∈ tl (dT n), 48 ≤ c ∧ c ≤ 57 := by
  rw [tl_dT h0]
  exact fun c hc => TL.numL_digits _ c hc
theorem dT_ne {n : Int} (h0 : 0 ≤ n) : tl (dT n) ≠ [] := by
  rw [tl_dT h0]
  exact TL.numL_ne _
theorem numL_head (n : Nat) : (numL n).head? = some 48 → n = 0 := by
  induction n using Nat.strongRecOn with
  | _ n ih =>
    intro h
    by_cases hn : n < 10
    · rw [TL.numL_lt hn] at h
      have : 48 + n = 48 := Option.some.inj h
      omega
    · rw [TL.numL_step (by omega)] at h
      have hne := TL.numL_ne (n / 10)
      cases hl : numL (n / 10) with
      | nil => exact absurd hl hne
      | cons c r =>
        rw [hl] at h
        have := ih (n / 10) (by omega) (by rw [hl]; exact h)
        omega
theorem dT_int {n : Int} (h0 : 0 ≤ n) (h : n < 10 ^ 60) : intText? (dT n) = some n := by
  have e : n = ((n.toNat : Nat) : Int) := (Int.toNat_of_nonneg h0).symm
  have hl : (numL n.toNat).length ≤ 4300 := by
    have := dT_len h0 (by decide) h
    rw [TL.len_tl, tl_dT h0] at this
    omega
  have := TL.int_num hl
  unfold dT
  rw [e]
  exact this
theorem digit_asc {s : Str} (h : ∀ c ∈ tl s, 48 ≤ c ∧ c ≤ 57) : Txt.isascii s = true := by
  unfold Txt.isascii
  rw [← Array.all_toList, List.all_eq_true]
  intro c hc
  have := h c hc
  exact decide_eq_true (by omega)
theorem isD : ∀ c : Nat, 48 ≤ c → c ≤ 57 → Unicode.isDigit c = true := by
  intro c h1 h2
  have : c = 48 ∨ c = 49 ∨ c = 50 ∨ c = 51 ∨ c = 52 ∨ c = 53 ∨ c = 54 ∨ c = 55 ∨ c = 56 ∨ c = 57 := by omega
  rcases this with e | e | e | e | e | e | e | e | e | e <;> subst e <;> decide +kernel
theorem digit_dig {s : Str} (h : ∀ c ∈ tl s, 48 ≤ c ∧ c ≤ 57) (hn : tl s ≠ []) : Txt.isdigit s = true := by
  unfold Txt.isdigit
  rw [TL.len_tl, ← Array.all_toList]
  have : 0 < (tl s).length := List.length_pos_iff.mpr hn
  rw [decide_eq_true this, Bool.true_and, List.all_eq_true]
  intro c hc
  exact isD c (h c hc).1 (h c hc).2
theorem not_dig {s : Str} {c : Nat} (hc : c ∈ tl s) (h : Unicode.isDigit c = false) : Txt.isdigit s = false := by
  unfold Txt.isdigit
  rw [← Array.all_toList]
  have : (s.cps.toList.all Unicode.isDigit) = false := by
    rw [List.all_eq_false]
    exact ⟨c, hc, by rw [h]; decide⟩
  rw [this, Bool.and_false]
/-- what is no place, as it is read -/
def BadPl (s : Str) : Prop := Txt.isdigit s = false ∨ (∃ r, tl s = 48 :: r ∧ r ≠ []) ∨ ∃ n : Int, s = dT n ∧ lastP < n ∧ n ≤ lastP + 5
/-- the word of a stretch -/
def sT (r : Row) : Str := if r.1 = r.2 then dT r.1 else (dT r.1 ++ ("-" : Str)) ++ dT r.2
def noDash (s : Str) : Prop := 45 ∉ tl s
def BadW (w : Str) : Prop := (noDash w ∧ BadPl w) ∨ (∃ s e, w = (s ++ ("-" : Str)) ++ e ∧ noDash s ∧ BadPl s) ∨ (∃ (a : Int) (e : Str), w = (dT a ++ ("-" : Str)) ++ e ∧ 0 ≤ a ∧ a ≤ lastP ∧ BadPl e) ∨
  ∃ a b : Int, w = (dT a ++ ("-" : Str)) ++ dT b ∧ 0 ≤ a ∧ a ≤ lastP ∧ 0 ≤ b ∧ b ≤ a
def noBlank (w : Str) : Prop := 32 ∉ tl w
theorem dash_tl : tl ("-" : Str) = [45] := by decide
theorem blank_tl : tl (" " : Str) = [32] := by decide
theorem part_app {a b : Str} (h : noDash a) : Txt.partition ((a ++ ("-" : Str)) ++ b) ("-" : Str) = (a, ("-" : Str), b) := TL.partition_app dash_tl h
theorem part_none {a : Str} (h : noDash a) : Txt.partition a ("-" : Str) = (a, Str.empty, Str.empty) := TL.partition_none dash_tl h
theorem dT_noDash {n : Int} (h : 0 ≤ n) : noDash (dT n) := dT_free h (.inl (by decide))
theorem dT_noBlank {n : Int} (h : 0 ≤ n) : noBlank (dT n) := dT_free h (.inl (by decide))
theorem noBlank_app {a b : Str} (ha : noBlank a) (hb : noBlank b) : noBlank (a ++ b) := by
  unfold noBlank
  rw [TL.tl_append]
  exact fun h => (List.mem_append.mp h).elim ha hb
theorem nbs {s : Str} (h : (tl s).all (· != 32) = true) : noBlank s := fun hm => by
  have := List.all_eq_true.mp h 32 hm
  exact absurd this (by decide)
theorem sT_noBlank {r : Row} (h : 0 ≤ r.1) (h2 : 0 ≤ r.2) : noBlank (sT r) := by
  unfold sT
  split
  · exact dT_noBlank h
  · exact noBlank_app (noBlank_app (dT_noBlank h) (nbs (by decide))) (dT_noBlank h2)
theorem len_s {s : Str} {k : Nat} (h : (tl s).length ≤ k) : s.length ≤ k := by rw [TL.len_tl]; exact h
theorem lastP_lt {n : Int} (h : n ≤ lastP + 5) : n < 10 ^ 31 := by
  have : lastP = 10 ^ 30 := rfl
  omega
theorem sT_len {r : Row} (h : okRow r = true) : (sT r).length ≤ 70 := by
  obtain ⟨h1, h2, h3⟩ := okRow_iff h
  have a := dT_len (k := 31) (n := r.1) (by omega) (by decide) (lastP_lt (by omega))
  have b := dT_len (k := 31) (n := r.2) (by omega) (by decide) (lastP_lt (by omega))
  unfold sT
  split
  · omega
  · rw [len_app, len_app]
    show (dT r.1).length + 1 + (dT r.2).length ≤ 70
    omega
/-- a word that is wrong, and short, and without a blank -/
structure BadS (w : Str) : Prop where
  bad : BadW w
  nb : noBlank w
  len : w.length ≤ 100
theorem nd_empty : noDash Str.empty := fun (h : 45 ∈ ([] : List Nat)) => nomatch h
theorem bad_empty : BadPl (Str.empty) := .inl rfl
theorem badS_lit {w : Str} (h : Txt.isdigit w = false) (nd : (tl w).all (· != 45) = true) (nb : (tl w).all (· != 32) = true) (l : w.length ≤ 100) : BadS w := ⟨.inl ⟨fun hm => by
  have := List.all_eq_true.mp nd 45 hm
  exact absurd this (by decide), .inl h⟩, nbs nb, l⟩
section
variable {x : Int}
theorem xl (h0 : 0 ≤ x) (h1 : x ≤ lastP + 5) : (dT x).length ≤ 31 := dT_len h0 (by decide) (lastP_lt h1)
/-- the wrong words of the law -/
theorem bad1 : BadS ("" : Str) := badS_lit (by decide +kernel) (by decide) (by decide) (by decide)
theorem bad2 (h0 : 0 ≤ x) (h1 : x ≤ lastP) : BadS (("0" : Str) ++ dT x) := by
  have e : tl (("0" : Str) ++ dT x) = 48 :: tl (dT x) := by rw [TL.tl_append]; rfl
  refine ⟨.inl ⟨?_, .inr (.inl ⟨_, e, dT_ne h0⟩)⟩, noBlank_app (nbs (by decide)) (dT_noBlank h0), ?_⟩
  · unfold noDash
    rw [e]
    intro h
    rcases List.mem_cons.mp h with k | k
    · exact absurd k (by decide)
    · exact dT_noDash h0 k
  · rw [len_app]
    have := xl h0 (by omega)
    show 1 + (dT x).length ≤ 100
    omega
theorem bad3 (h0 : 0 ≤ x) (h1 : x ≤ lastP) : BadS ((dT x ++ ("-" : Str)) ++ dT x) := by
  refine ⟨.inr (.inr (.inr ⟨x, x, rfl, h0, h1, h0, Int.le_refl _⟩)), noBlank_app (noBlank_app (dT_noBlank h0) (nbs (by decide))) (dT_noBlank h0), ?_⟩
  rw [len_app, len_app]
  have := xl h0 (by omega)
  show (dT x).length + 1 + (dT x).length ≤ 100
  omega
theorem bad4 (h0 : 0 ≤ x) (h1 : x ≤ lastP) : BadS ((dT (x + 1) ++ ("-" : Str)) ++ dT x) := by
  refine ⟨?_, noBlank_app (noBlank_app (dT_noBlank (by omega)) (nbs (by decide))) (dT_noBlank h0), ?_⟩
  · by_cases h : x + 1 ≤ lastP
    · exact .inr (.inr (.inr ⟨x + 1, x, rfl, by omega, h, h0, by omega⟩))
    · exact .inr (.inl ⟨dT (x + 1), dT x, rfl, dT_noDash (by omega), .inr (.inr ⟨x + 1, rfl, by omega, by omega⟩)⟩)
  · rw [len_app, len_app]
    have := xl h0 (by omega)
    have := xl (x := x + 1) (by omega) (by omega)
    show (dT (x + 1)).length + 1 + (dT x).length ≤ 100
    omega
theorem bad5 (h0 : 0 ≤ x) (h1 : x ≤ lastP) : BadS (("-" : Str) ++ dT x) := by
  refine ⟨.inr (.inl ⟨Str.empty, dT x, ?_, nd_empty, bad_empty⟩), noBlank_app (nbs (by decide)) (dT_noBlank h0), ?_⟩
  · refine str_ext ?_
    rw [TL.tl_append, TL.tl_append, TL.tl_append]
    rfl
  · rw [len_app]
    have := xl h0 (by omega)
    show 1 + (dT x).length ≤ 100
    omega
theorem bad6 (h0 : 0 ≤ x) (h1 : x ≤ lastP) : BadS (dT x ++ ("-" : Str)) := by
  refine ⟨.inr (.inr (.inl ⟨x, Str.empty, ?_, h0, h1, bad_empty⟩)), noBlank_app (dT_noBlank h0) (nbs (by decide)), ?_⟩
  · refine str_ext ?_
    rw [TL.tl_append, TL.tl_append, TL.tl_append]
    show _ = _ ++ []
    rw [List.append_nil]
  · rw [len_app]
    have := xl h0 (by omega)
    show (dT x).length + 1 ≤ 100
    omega
theorem bad7 : BadS ("x" : Str) := badS_lit (by decide +kernel) (by decide) (by decide) (by decide)
theorem bad8 : BadS ("+3" : Str) := badS_lit (by decide +kernel) (by decide) (by decide) (by decide)
theorem bad9 : BadS (dT (10 ^ 30 + 1)) := ⟨.inl ⟨dT_noDash (by decide), .inr (.inr ⟨10 ^ 30 + 1, rfl, by decide, by decide⟩)⟩, dT_noBlank (by decide), Nat.le_trans (xl (by decide) (by decide)) (by decide)⟩
theorem bad10 : BadS (("7-" : Str) ++ dT (10 ^ 30 + 5)) := by
  refine ⟨.inr (.inr (.inl ⟨7, dT (10 ^ 30 + 5), ?_, by decide, by decide, .inr (.inr ⟨10 ^ 30 + 5, rfl, by decide, by decide⟩)⟩)), noBlank_app (nbs (by decide)) (dT_noBlank (by decide)), ?_⟩
  · have : ("7-" : Str) = dT 7 ++ ("-" : Str) := by decide +kernel
    rw [this]
  · rw [len_app]
    have := xl (x := 10 ^ 30 + 5) (by decide) (by decide)
    show 2 + (dT (10 ^ 30 + 5)).length ≤ 100
    omega
theorem bad11 : BadS ("1-2-3" : Str) := ⟨.inr (.inr (.inl ⟨1, ("2-3" : Str), by decide +kernel, by decide, by decide, .inl (by decide +kernel)⟩)), nbs (by decide), by decide⟩
theorem bad12 : BadS ("00" : Str) := ⟨.inl ⟨fun h => by revert h; decide, .inr (.inl ⟨[48], by decide, by decide⟩)⟩, nbs (by decide), by decide⟩
theorem bad13 : BadS ("2-03" : Str) := ⟨.inr (.inr (.inl ⟨2, ("03" : Str), by decide +kernel, by decide, by decide, .inr (.inl ⟨[51], by decide, by decide⟩)⟩)), nbs (by decide), by decide⟩
theorem bad14 : BadS ("-" : Str) := ⟨.inr (.inl ⟨Str.empty, Str.empty, by decide, nd_empty, bad_empty⟩), nbs (by decide), by decide⟩
theorem bad15 (h0 : 0 ≤ x) (h1 : x ≤ lastP) : BadS (dT x ++ ("-x" : Str)) := by
  refine ⟨.inr (.inr (.inl ⟨x, ("x" : Str), ?_, h0, h1, .inl (by decide +kernel)⟩)), noBlank_app (dT_noBlank h0) (nbs (by decide)), ?_⟩
  · rw [app_assoc]
    have : ("-x" : Str) = ("-" : Str) ++ ("x" : Str) := by decide
    rw [this]
  · rw [len_app]
    have := xl h0 (by omega)
    show (dT x).length + 2 ≤ 100
    omega
theorem bad16 : BadS ("3," : Str) := badS_lit (by decide +kernel) (by decide) (by decide) (by decide)
theorem bad17 : BadS ("none" : Str) := badS_lit (by decide +kernel) (by decide) (by decide) (by decide)
theorem bad18 : BadS ("None" : Str) := badS_lit (by decide +kernel) (by decide) (by decide) (by decide)
end
/-- the text of words -/
def jn (ws : List Str) : Str := Txt.join (" " : Str) ws
theorem split_jn {ws : List Str} (h : ws ≠ []) (hb : ∀ w ∈ ws, noBlank w) : Txt.split (jn ws) (" " : Str) = ws := TL.split_join blank_tl (by decide +kernel) h hb
theorem jn_snoc : ∀ {ws : List Str} (w : Str), ws ≠ [] → jn (ws ++ [w]) = (jn ws ++ (" " : Str)) ++ w := by
  intro ws w h
  unfold jn
  rw [TL.join_eq, TL.join_eq]
  induction ws with
  | nil => exact absurd rfl h
  | cons a r ih =>
    cases r with
    | nil => rfl
    | cons b r =>
      show a ++ (" " : Str) ++ Str.join (" " : Str) (b :: (r ++ [w])) = a ++ (" " : Str) ++ Str.join (" " : Str) (b :: r) ++ (" " : Str) ++ w
      have := ih (by simp)
      rw [List.cons_append] at this
      rw [this]
      simp only [app_assoc]
/-- what the reading of words gives -/
def GoodRows (ws : List Str) (rows : List Row) : Prop := ws = rows.map sT ∧ Nf rows ∧ ∀ r ∈ rows, okRow r = true
/-- the first wrong word stands at j -/
structure WrongAt (ws : List Str) (j : Nat) : Prop where
  ex : ∃ (rows : List Row) (w : Str), GoodRows (ws.take j) rows ∧ ws[j]? = some w ∧ (BadW w ∨ ∃ r q : Row, w = sT r ∧ okRow r = true ∧ rows.getLast? = some q ∧ r.1 < q.2 + 2)
end OR

namespace OR
open PySem PySem.Spec PyProof.Rows L2
open TL (tl numL)
open NumText (digitsVal AllDigits)
/-! ### lists of signs, their numbers -/
def ofL (l : List Nat) : Str := ⟨l.toArray⟩
theorem tl_ofL (l : List Nat) : tl (ofL l) = l := rfl
theorem ofL_tl (s : Str) : ofL (tl s) = s := str_ext (tl_ofL _)
theorem len_ofL (l : List Nat) : (ofL l).length = l.length := by rw [TL.len_tl, tl_ofL]
def bodyL : List Nat → List Nat
  | [] => []
  | c :: r => if c = 45 then r else c :: r
def allDig (l : List Nat) : Bool := !l.isEmpty && l.all fun c => decide (48 ≤ c ∧ c ≤ 57)
theorem allDig_iff (l : List Nat) : allDig l = true ↔ l ≠ [] ∧ AllDigits l := by
  unfold allDig AllDigits
  rw [Bool.and_eq_true, List.all_eq_true]
  constructor
  · rintro ⟨h1, h2⟩
    refine ⟨fun e => ?_, fun c hc => of_decide_eq_true (h2 c hc)⟩
    subst e
    cases h1
  · rintro ⟨h1, h2⟩
    refine ⟨?_, fun c hc => decide_eq_true (h2 c hc)⟩
    cases l with
    | nil => exact absurd rfl h1
    | cons _ _ => rfl
theorem isD_lt : ∀ c : Nat, c < 128 → Unicode.isDigit c = true → 48 ≤ c ∧ c ≤ 57 := by decide +kernel
theorem ascDig_iff (l : List Nat) : (Txt.isascii (ofL l) && Txt.isdigit (ofL l)) = allDig l := by
  rw [Bool.eq_iff_iff, allDig_iff, Bool.and_eq_true]
  constructor
  · rintro ⟨h1, h2⟩
    unfold Txt.isascii at h1
    unfold Txt.isdigit at h2
    rw [← Array.all_toList, List.all_eq_true] at h1
    rw [Bool.and_eq_true, ← Array.all_toList, List.all_eq_true] at h2
    refine ⟨fun e => ?_, fun c hc => isD_lt c (of_decide_eq_true (h1 c hc)) (h2.2 c hc)⟩
    subst e
    exact absurd h2.1 (by decide)
  · rintro ⟨h1, h2⟩
    exact ⟨digit_asc (s := ofL l) h2, digit_dig (s := ofL l) h2 h1⟩
def decL (l : List Nat) : Option Int :=
  if allDig (bodyL l) = true then
    if (bodyL l).head? = some 48 ∧ l ≠ [48] then none
    else some (if l.head? = some 45 then -((digitsVal (bodyL l) : Nat) : Int) else ((digitsVal (bodyL l) : Nat) : Int))
  else none
theorem fold_acc : ∀ (b : List Nat) (acc : Nat), b.foldl (fun a c => a * 10 + (c - 48)) acc = acc * 10 ^ b.length + digitsVal b
  | [], acc => by simp [digitsVal]
  | c :: r, acc => by
    have h1 := fold_acc r (acc * 10 + (c - 48))
    have h2 := fold_acc r (0 * 10 + (c - 48))
    have e : digitsVal (c :: r) = r.foldl (fun a c => a * 10 + (c - 48)) (0 * 10 + (c - 48)) := rfl
    rw [e, h2, List.foldl_cons, h1, List.length_cons, Nat.pow_succ]
    simp only [Nat.add_mul, Nat.zero_mul, Nat.zero_add, Nat.mul_assoc, Nat.add_assoc]
    rw [Nat.mul_comm 10 (10 ^ r.length)]
theorem dv_app (a b : List Nat) : digitsVal (a ++ b) = digitsVal a * 10 ^ b.length + digitsVal b := by
  have e : digitsVal (a ++ b) = (a ++ b).foldl (fun a c => a * 10 + (c - 48)) 0 := rfl
  rw [e, List.foldl_append, fold_acc b]
  rfl
theorem dv_zeros (n : Nat) (d : List Nat) : digitsVal (List.replicate n 48 ++ d) = digitsVal d := by
  induction n with
  | zero => rfl
  | succ n ih => rw [List.replicate_succ, List.cons_append]; exact ih
theorem dv_lt : ∀ (d : List Nat), AllDigits d → digitsVal d < 10 ^ d.length
  | [], _ => by decide
  | c :: r, h => by
    have h1 := dv_lt r fun x hx => h x (List.mem_cons_of_mem _ hx)
    have h2 := h c List.mem_cons_self
    have e := dv_app [c] r
    have e3 : digitsVal [c] = c - 48 := by show 0 * 10 + (c - 48) = c - 48; omega
    rw [List.singleton_append, e3] at e
    rw [e, List.length_cons, Nat.pow_succ]
    have : (c - 48) * 10 ^ r.length ≤ 9 * 10 ^ r.length := Nat.mul_le_mul_right _ (by omega)
    omega
theorem big_pow : (10 : Nat) ^ 660 < 2 ^ 2640 := by decide +kernel
theorem dv_nat {d : List Nat} (h : AllDigits d) (hl : d.length ≤ 660) : ((digitsVal d : Nat) : Int).natAbs < 2 ^ 2640 := by
  rw [Int.natAbs_natCast]
  exact Nat.lt_of_lt_of_le (dv_lt d h) (Nat.le_of_lt (Nat.lt_of_le_of_lt (Nat.pow_le_pow_right (by decide) hl) big_pow))
theorem sw_minus (s : Str) : Txt.startswith s ("-" : Str) = decide ((tl s).head? = some 45) := by
  have e1 : ("-" : Str).length = 1 := by decide
  have e2 : tl ("-" : Str) = [45] := by decide
  have hA := TL.at_iff (x := s) (y := ("-" : Str)) (by decide) 0
  rw [Bool.eq_iff_iff, decide_eq_true_iff]
  unfold Txt.startswith
  have hp : TL.pre (tl ("-" : Str)) ((tl s).drop 0) = true ↔ (tl s).head? = some 45 := by
    rw [e2, List.drop_zero]
    cases tl s with
    | nil => exact ⟨fun h => absurd h (by decide), fun h => by cases h⟩
    | cons c r =>
      show ((c :: r).take 1 == [45]) = true ↔ _
      rw [beq_iff_eq]
      show [c] = [45] ↔ some c = some 45
      constructor
      · intro h; injection h with h; rw [h]
      · intro h; rw [Option.some.inj h]
  rw [← hp, ← hA, Bool.and_eq_true]
  show _ ↔ (0 + ("-" : Str).length ≤ s.length ∧ _)
  constructor
  · rintro ⟨h1, h2⟩
    exact ⟨of_decide_eq_true h1, h2⟩
  · rintro ⟨h1, h2⟩
    exact ⟨decide_eq_true h1, h2⟩
theorem cut_tail (s : Str) : cutS s (some 1) none = ofL ((tl s).drop 1) := by
  refine str_ext ?_
  show (((tl s).drop (HT.sIx s.length 0 (some 1))).take (HT.sIx s.length s.length none - HT.sIx s.length 0 (some 1))) = (tl s).drop 1
  have e := HT.sIx_nat s.length 0 1
  have e' : HT.sIx s.length 0 (some (1 : Int)) = min 1 s.length := e
  rw [e', HT.sIx_none, TL.len_tl]
  refine List.take_of_length_le ?_ |>.trans ?_
  · rw [List.length_drop]
    exact Nat.le_refl _
  · cases tl s with
    | nil => rfl
    | cons c r =>
      have : min 1 (c :: r).length = 1 := by simp only [List.length_cons]; omega
      rw [this]
theorem cut_60 (s : Str) (b : Nat) (h : b + 60 ≤ s.length) : cutS s (some (b : Int)) (some ((b : Int) + 60)) = ofL (((tl s).drop b).take 60) := by
  refine str_ext ?_
  show (((tl s).drop (HT.sIx s.length 0 (some (b : Int)))).take (HT.sIx s.length s.length (some ((b : Int) + 60)) - HT.sIx s.length 0 (some (b : Int)))) = ((tl s).drop b).take 60
  have e1 := HT.sIx_nat s.length 0 b
  have e2 := HT.sIx_nat s.length s.length (b + 60)
  have e3 : ((b + 60 : Nat) : Int) = (b : Int) + 60 := by omega
  rw [e3] at e2
  rw [e1, e2]
  have a1 : min b s.length = b := by omega
  have a2 : min (b + 60) s.length = b + 60 := by omega
  rw [a1, a2]
  have a3 : b + 60 - b = 60 := by omega
  rw [a3]
theorem mul_zeros : ∀ z : Nat, z < 60 → tl (Txt.mul ("0" : Str) (z : Int)) = List.replicate z 48 := by decide +kernel
theorem mulOk_zeros : ∀ z : Nat, z < 60 → MulOk ("0" : Str) (z : Int) := by unfold MulOk; decide +kernel
theorem rgC_60 : ∀ m : Nat, m < 12 → RgC 0 ((60 * m : Nat) : Int) 60 m := by unfold RgC; decide +kernel
theorem op_mul_str {X : Cx} : OpR X (binaryOp .Mult) (fun x y H Q => ∃ a n, x = .str a ∧ y = .int n ∧ MulOk a n ∧ Q (.str (Txt.mul a n)) H) := by
  intro pins s σ H x y v u Q I rx ry h
  obtain ⟨a, n, rfl, rfl, hk, q⟩ := h
  obtain ⟨t, rfl⟩ := rx
  obtain ⟨t', rfl⟩ := ry
  exact SB.mul hk fun t2 k => ⟨.str (Txt.mul a n), H, I.tok _, ⟨_, rfl⟩, q⟩
end OR

namespace OR
open PySem PySem.Spec PyProof.Rows L2
open TL (tl numL)
open NumText (digitsVal AllDigits)
theorem szx {n : Nat} (h : n ≤ 20000) : n ≤ sizeLine := Nat.le_trans h (by decide)
theorem bt_strT : bootBuiltins ("str" : Str) = some (.type "str") := by decide +kernel
theorem bt_intT : bootBuiltins ("int" : Str) = some (.type "int") := by decide +kernel
/-- what the top has left for the reading of numbers -/
structure NTxt (mg : Str → Option Value) : Prop where
  zLen : mg "len" = none
  zRange : mg "range" = none
  zInt : mg "int" = none
  bd : ∃ t, mg "_BLOCK_DIGITS" = some (.int 60 t)
  bl : ∃ t, mg "_BLOCK" = some (.int (10 ^ 60) t)
def vDec : Option Int → V
  | none => .non
  | some n => .int n
def spRDec : Sp := fun vs H Q _ => ∃ s : Str, vs = [.str s] ∧ s.length ≤ 600 ∧ Q (vDec (decL (tl s))) H
section
variable {P : Program} {w : World} {K : PySem.W.Frag} {mg : Str → Option Value} {base : Heap}
theorem scRDec : FnScope ["text", "digits", "padded", "number", "begin"] ["text"] (defScope sRDec) := ⟨rfl, rfl, rfl, by decide +kernel, rfl, by decide +kernel, by decide +kernel⟩
theorem ok_rdec {f : Addr} {fd : FuncData} (F : Fun K "read_decimal" "read_decimal" sRDec f fd) (T : NTxt mg) : FnOk P w K mg base CX0 1 f fd ["text"] spRDec := by
  obtain ⟨tb, hbd⟩ := T.bd
  obtain ⟨tk, hbl⟩ := T.bl
  refine F.ok scRDec (fun vs H Q E h => ?_) (fun cdv A outer s H vs Q E hr h => ?_)
  · obtain ⟨s, rfl, _⟩ := h
    rfl
  · obtain ⟨s, rfl, hlen, q⟩ := h
    have nd := scRDec.nd
    refine ⟨_, pss_cons (ps_set (i := 1) nd rfl (.inl rfl) (pe_ifExp (pt_val (pe_m1 PySem.F.slot_str_startswith PySem.F.type_str_startswith mt_startswith (pv 0) pe_str)) (pe_slice sl_str (pv 0) (po_some pe_int) po_none) (pv 0)))
      (pss_cons (ps_if (PW.pt (pw_or (pt_not (PW.pt (pw_and (pt_val (pe_m0 PySem.F.slot_str_isascii PySem.F.type_str_isascii mt_isascii (pv 1))) (pw_and1 (pt_val (pe_m0 PySem.F.slot_str_isdigit PySem.F.type_str_isdigit mt_isdigit (pv 1)))))))
        (pw_or1 (PW.pt (pw_and (pt_cmpR op_eq (pe_ix ix_str (pv 1) pe_int (fun _ _ => rfl)) pe_str (nomark _)) (pw_and1 (pt_cmpR op_ne (pv 0) pe_str (nomark _)))))))) (pss_one (ps_ret pe_non)) pss_nil)
      (pss_cons (ps_set (i := 2) nd rfl (.inl rfl) (pe_op op_add_str (pe_op op_mul_str pe_str (pe_op op_mod (pe_un un_neg (pe_callB call_len_str (by rfl) T.zLen PySem.boot_len (pa_cons (pv 1) pa_nil))) (pe_glob (v := .int 60) (by rfl) hbd ⟨_, rfl⟩))) (pv 1)))
      (pss_cons (ps_set (i := 3) nd rfl (.inl rfl) pe_int)
      (pss_cons (ps_for PassesOwn.never rfl (pi_range3 (by rfl) T.zRange (pa_cons pe_int (pa_cons (pe_callB call_len_str (by rfl) T.zLen PySem.boot_len (pa_cons (pv 2) pa_nil)) (pa_cons (pe_glob (v := .int 60) (by rfl) hbd ⟨_, rfl⟩) pa_nil)))) (pg_name (i := 4) nd rfl (.inl rfl))
        (pss_one (ps_set (i := 3) nd rfl (.inl rfl) (pe_op op_add (pe_op op_mulW (pv 3) (pe_glob (v := .int (10 ^ 60)) (by rfl) hbl ⟨_, rfl⟩))
          (pe_callTy call_int_str (by rfl) T.zInt bt_intT (pa_cons (pe_slice sl_str (pv 2) (po_some (pv 4)) (po_some (pe_op op_add (pv 4) (pe_glob (v := .int 60) (by rfl) hbd ⟨_, rfl⟩)))) pa_nil))))))
      (pss_one (ps_ret (pe_ifExp (pt_cmpR op_eq (pv 1) (pv 0) (nomark _)) (pv 3) (pe_un un_neg (pv 3))))))))), ?_⟩
    have hsz : s.length ≤ sizeLine := szx (by omega)
    have dlen : (bodyL (tl s)).length ≤ 600 := by
      rw [TL.len_tl] at hlen
      cases hc : tl s with
      | nil => exact Nat.zero_le _
      | cons c r =>
        rw [hc] at hlen
        have e : bodyL (c :: r) = if c = 45 then r else c :: r := rfl
        rw [e]
        by_cases z : c = 45
        · rw [if_pos z]; simp only [List.length_cons] at hlen; omega
        · rw [if_neg z]; exact hlen
    refine ⟨_, rfl, ⟨_, rfl⟩, s, _, rfl, rfl, ?_⟩
    rw [sw_minus]
    refine ⟨_, rfl, ?_⟩
    have two : (∃ X : Str, tl X = bodyL (tl s) ∧ (tl s).head? = some 45 ∧ X = ofL ((tl s).drop 1)) ∨ (∃ X : Str, tl X = bodyL (tl s) ∧ (tl s).head? ≠ some 45 ∧ X = s) := by
      cases hc : tl s with
      | nil => exact .inr ⟨s, hc, (by intro z; cases z), rfl⟩
      | cons c r =>
        by_cases z : c = 45
        · subst z; exact .inl ⟨ofL r, rfl, rfl, rfl⟩
        · refine .inr ⟨s, ?_, (by intro k; exact z (Option.some.inj k)), rfl⟩
          rw [hc]; show _ = if c = 45 then r else c :: r; rw [if_neg z]
    have XL : ∀ X : Str, tl X = bodyL (tl s) → X.length ≤ 600 := fun X hX => by rw [TL.len_tl, hX]; exact dlen
    have ad : ∀ X : Str, tl X = bodyL (tl s) → (Txt.isascii X && Txt.isdigit X) = allDig (tl X) := fun X hX => by rw [← ascDig_iff, ofL_tl]
    have h0s : V.str s = V.str ("0" : Str) ↔ tl s = [48] := by
      constructor
      · intro z; rw [V.str.inj z]; decide
      · intro z; rw [show s = ("0" : Str) from str_ext (by rw [z]; decide)]
    have h0c : ∀ c : Nat, V.str (⟨#[c]⟩ : Str) = V.str ("0" : Str) ↔ c = 48 := fun c => by
      constructor
      · intro e
        have e3 : [c] = [48] := congrArg tl (V.str.inj e)
        injection e3
      · intro e
        subst e
        rfl
    rcases two with ⟨X, hX, hm, eX⟩ | ⟨X, hX, hm, eX⟩
    case' inl =>
      refine ite2 (fun _ => ?_) (fun z => absurd (decide_eq_true hm) z)
      refine ⟨_, rfl, 1, rfl, s, rfl, hsz, ?_⟩
      rw [cut_tail, ← eX]
      have hfin : V.str X = V.str s ↔ ¬ (tl s).head? = some 45 := by
        refine ⟨fun z => ?_, fun z => absurd hm z⟩
        have e1 := congrArg (fun y => (tl y).length) (V.str.inj z)
        have e2 := congrArg (fun y => (tl y).length) eX
        simp only [tl_ofL, List.length_drop] at e1 e2
        cases hc : tl s with
        | nil => rw [hc] at hm; cases hm
        | cons c r => rw [hc] at e1 e2; simp only [List.length_cons] at e1 e2; omega
    case' inr =>
      refine ite2 (fun z => absurd (of_decide_eq_true z) hm) (fun _ => ?_)
      refine ⟨.str X, by rw [eX]; rfl, ?_⟩
      have hfin : V.str X = V.str s ↔ ¬ (tl s).head? = some 45 := ⟨fun _ => hm, fun _ => by rw [eX]⟩
    all_goals
      have hszX : X.length ≤ sizeLine := szx (by have := XL X hX; omega)
      have hl600 := XL X hX
      have hadX := ad X hX
      refine ⟨_, rfl, ⟨_, rfl⟩, X, rfl, rfl, trivial, _, rfl, ?_⟩
      cases hD : allDig (tl X) with
      | false =>
        have hn : decL (tl s) = none := by unfold decL; rw [← hX, hD]; rfl
        rw [hn] at q
        rw [hD] at hadX
        cases hA : Txt.isascii X with
        | false => exact iteF (iteT q)
        | true =>
          rw [hA, Bool.true_and] at hadX
          refine iteT ⟨_, rfl, ⟨_, rfl⟩, X, rfl, rfl, trivial, _, rfl, ?_⟩
          rw [hadX]
          exact iteT q
      | true =>
        rw [hD, Bool.and_eq_true] at hadX
        obtain ⟨hne, hdg⟩ := (allDig_iff _).mp hD
        rw [hadX.1]
        refine iteT ⟨_, rfl, ⟨_, rfl⟩, X, rfl, rfl, trivial, _, rfl, ?_⟩
        rw [hadX.2]
        obtain ⟨c, r, hc⟩ : ∃ c r, tl X = c :: r := by
          cases h : tl X with
          | nil => exact absurd h hne
          | cons c r => exact ⟨c, r, rfl⟩
        refine iteF ⟨_, rfl, X, 0, c, rfl, rfl, hszX, by show atI (tl X) 0 = some c; rw [hc]; exact atI_nat (j := 0) rfl, rfl, _, rfl, ?_⟩
        by_cases hno : c = 48 ∧ tl s ≠ [48]
        · have hn : decL (tl s) = none := by unfold decL; rw [← hX, hD, hc, if_pos rfl, if_pos ⟨by rw [hno.1]; rfl, hno.2⟩]
          rw [hn] at q
          refine ite2 (fun z => ?_) (fun z => absurd (decide_eq_true ((h0c c).mpr hno.1)) z)
          exact ⟨_, rfl, rfl, _, rfl, ite2 (fun _ => q) (fun z => absurd (show (!decide (V.str s = V.str ("0" : Str))) = true by rw [decide_eq_false (fun k => hno.2 (h0s.mp k))]; rfl) z)⟩
        have hv : decL (tl s) = some (if (tl s).head? = some 45 then -((digitsVal (tl X) : Nat) : Int) else ((digitsVal (tl X) : Nat) : Int)) := by
          unfold decL
          rw [← hX, hD, if_pos rfl, if_neg (fun k => hno ⟨?_, k.2⟩)]
          have := k.1
          rw [hc] at this
          exact Option.some.inj this
        rw [hv] at q
        refine ite2 (fun z => ?_) (fun z => iteF ?_)
        case' refine_1 => refine ⟨_, rfl, rfl, _, rfl, ite2 (fun z2 => ?_) (fun _ => ?_)⟩
        case' refine_1.refine_1 => exact absurd ⟨(h0c c).mp (of_decide_eq_true z), fun k => by rw [decide_eq_true (h0s.mpr k)] at z2; cases z2⟩ hno
        all_goals
          clear z
          obtain ⟨zn, m, hz, hz60, hm12, hzm⟩ : ∃ zn m : Nat, (-(X.length : Int)) % 60 = (zn : Int) ∧ zn < 60 ∧ m < 12 ∧ zn + X.length = 60 * m :=
            ⟨((-(X.length : Int)) % 60).toNat, (((-(X.length : Int)) % 60).toNat + X.length) / 60, by omega, by omega, by omega, by omega⟩
          have lz : (Txt.mul ("0" : Str) (zn : Int)).length = zn := by rw [TL.len_tl, mul_zeros zn hz60, List.length_replicate]
          have hY : tl (Txt.mul ("0" : Str) (zn : Int) ++ X) = List.replicate zn 48 ++ tl X := by rw [TL.tl_append, mul_zeros zn hz60]
          have lY : (Txt.mul ("0" : Str) (zn : Int) ++ X).length = 60 * m := by rw [len_app, lz]; exact hzm
          refine ⟨_, rfl, X, rfl, hszX, _, rfl, _, _, rfl, rfl, (by show (0 : Int) < 60; decide), ("0" : Str), (zn : Int), rfl, congrArg V.int hz, mulOk_zeros zn hz60, _, rfl, _, _, rfl, rfl, szx (by rw [lz]; omega), ?_⟩
          have hszY : (Txt.mul ("0" : Str) (zn : Int) ++ X).length ≤ sizeLine := szx (by omega)
          have adY : AllDigits (tl (Txt.mul ("0" : Str) (zn : Int) ++ X)) := by
            rw [hY]
            intro x hx
            rcases List.mem_append.mp hx with k | k
            · rw [List.eq_of_mem_replicate k]; decide
            · exact hdg x k
          have dvY : digitsVal (tl (Txt.mul ("0" : Str) (zn : Int) ++ X)) = digitsVal (tl X) := by rw [hY, dv_zeros]
          have lYt : (tl (Txt.mul ("0" : Str) (zn : Int) ++ X)).length = 60 * m := by rw [← TL.len_tl]; exact lY
          have hRg : RgC 0 ((Txt.mul ("0" : Str) (zn : Int) ++ X).length : Nat) 60 m := by rw [lY]; exact rgC_60 m hm12
          generalize hYe : Txt.mul ("0" : Str) (zn : Int) ++ X = Y at *
          refine ⟨_, rfl, Y, rfl, hszY, 0, _, 60, m, rfl, hRg, for_rangeC (lo := 0) (c := 60) (n := m) (fun i σ G => G = H ∧ ∃ s4, σ = [some (.str s), some (.str X), some (.str Y), some (.int (digitsVal ((tl Y).take (60 * i)) : Nat)), s4]) ⟨rfl, none, rfl⟩ ?_ ?_⟩
          · rintro i σ G hi ⟨rfl, s4, rfl⟩
            have hib : i * 60 + 60 ≤ Y.length := by rw [lY]; omega
            have hc60 : cutS Y (some (0 + (i : Int) * 60)) (some (0 + (i : Int) * 60 + 60)) = ofL (((tl Y).drop (i * 60)).take 60) := by
              have e : (0 + (i : Int) * 60) = ((i * 60 : Nat) : Int) := by omega
              rw [e]
              exact cut_60 Y (i * 60) hib
            have lch : (((tl Y).drop (i * 60)).take 60).length = 60 := by
              rw [List.length_take, List.length_drop, lYt]
              omega
            have adc : AllDigits (((tl Y).drop (i * 60)).take 60) := fun x hx => adY x (List.mem_of_mem_drop (List.mem_of_mem_take hx))
            have hint : intText? (cutS Y (some (0 + (i : Int) * 60)) (some (0 + (i : Int) * 60 + 60))) = some ((digitsVal (((tl Y).drop (i * 60)).take 60) : Nat) : Int) := by
              rw [hc60]
              exact PySem.intText_digits (x := ofL _) adc (fun e => by have := congrArg List.length e; rw [show (ofL (((tl Y).drop (i * 60)).take 60)).cps.toList = ((tl Y).drop (i * 60)).take 60 from rfl, lch] at this; cases this) (by rw [len_ofL, lch]; decide)
            have hlen2 : (cutS Y (some (0 + (i : Int) * 60)) (some (0 + (i : Int) * 60 + 60))).length ≤ 640 := by rw [hc60, len_ofL, lch]; decide
            have adt : AllDigits ((tl Y).take (60 * i)) := fun x hx => adY x (List.mem_of_mem_take hx)
            have hw := wide_mul (i := ((digitsVal ((tl Y).take (60 * i)) : Nat) : Int)) (j := 10 ^ 60) (a := 2640) (b := 300) (dv_nat adt (by rw [List.length_take]; omega)) (by decide +kernel) (by decide) (by decide) (by decide)
            refine ⟨_, rfl, _, _, rfl, rfl, hw, _, rfl, _, rfl, _, rfl, _, rfl, _, _, rfl, rfl, _, rfl, Y, rfl, hszY, _, _, rfl, hint, hlen2, _, _, rfl, rfl, rfl, some (.int (0 + (i : Int) * 60)), ?_⟩
            have e1 : (tl Y).take (60 * (i + 1)) = (tl Y).take (60 * i) ++ ((tl Y).drop (i * 60)).take 60 := by
              have : 60 * (i + 1) = 60 * i + 60 := by omega
              rw [this, List.take_add, Nat.mul_comm i 60]
            have e2 : digitsVal ((tl Y).take (60 * (i + 1))) = digitsVal ((tl Y).take (60 * i)) * 10 ^ 60 + digitsVal (((tl Y).drop (i * 60)).take 60) := by rw [e1, dv_app, lch]
            rw [e2]
            have e3 : ((digitsVal ((tl Y).take (60 * i)) * 10 ^ 60 + digitsVal (((tl Y).drop (i * 60)).take 60) : Nat) : Int) = ((digitsVal ((tl Y).take (60 * i)) : Nat) : Int) * 10 ^ 60 + ((digitsVal (((tl Y).drop (i * 60)).take 60) : Nat) : Int) := by omega
            rw [e3]
            rfl
          · rintro σ G ⟨rfl, s4, rfl⟩
            have ef : (tl Y).take (60 * m) = tl Y := List.take_of_length_le (by omega)
            rw [ef, dvY]
            refine ⟨_, rfl, _, rfl, rfl, _, rfl, ite2 (fun z => ?_) (fun z => ?_)⟩
            · rw [if_neg (hfin.mp (of_decide_eq_true z))] at q
              exact ⟨_, rfl, q⟩
            · by_cases h45 : (tl s).head? = some 45
              · rw [if_pos h45] at q
                exact ⟨_, rfl, _, rfl, q⟩
              · exact absurd (decide_eq_true (hfin.mpr h45)) z
end
end OR

namespace OR
open PySem PySem.Spec PyProof.Rows L2
open TL (tl numL)
open NumText (digitsVal AllDigits)
structure STxt (mg : Str → Option Value) : Prop where
  zStr : mg "str" = none
  zInt : mg "int" = none
  zLen : mg "len" = none
  zEnum : mg "enumerate" = none
  zIsi : mg "isinstance" = none
  last : ∃ t, mg "LAST_PLACE" = some (.int lastP t)
def textOf (l : List Row) : Str := if l = [] then ("none" : Str) else jn (l.map sT)
def spSText : Sp := fun vs H Q _ => ∃ r : Row, vs = [.int r.1, .int r.2] ∧ okRow r = true ∧ Q (.str (sT r)) H
def spRPl : Sp := fun vs H Q _ => ∃ s : Str, vs = [.str s] ∧ s.length ≤ 200 ∧ ((∃ n : Int, s = dT n ∧ 0 ≤ n ∧ n ≤ lastP ∧ Q (.int n) H) ∨ (BadPl s ∧ Q .non H))
def spRStr : Sp := fun vs H Q _ => ∃ s : Str, vs = [.str s] ∧ s.length ≤ 200 ∧ ((∃ r : Row, s = sT r ∧ okRow r = true ∧ ∀ t H', H t = none → H' t = some (.tup [.int r.1, .int r.2]) → Same H H' → Q (.ref t) H') ∨ (BadW s ∧ ∀ H', Same H H' → Q .non H'))
def spPText (C : Addr) : Sp := fun vs H Q _ => ∃ (x : Addr) (l : List Row), vs = [.ref x] ∧ IsP C H x l ∧ (∀ r ∈ l, okRow r = true) ∧ l.length ≤ 100 ∧ ∀ H', Same H H' → Q (.str (textOf l)) H'
theorem boot_strT : bootBuiltins ("str" : Str) = some (.type "str") := by decide +kernel
theorem sz1 {n : Nat} (h : n ≤ 20000) : n ≤ sizeLine := Nat.le_trans h (by decide)
theorem dlog {n : Int} (h0 : 0 ≤ n) (h : n ≤ lastP + 5) : n.natAbs.log2 < 1920 := by
  have : n.natAbs < 2 ^ 200 := Nat.lt_of_lt_of_le (show n.natAbs < 10 ^ 31 by have := lastP_lt h; omega) (by decide)
  exact PySem.Flt.log2_lt_of (by decide) (Nat.lt_of_lt_of_le this (Nat.pow_le_pow_right (by decide) (by decide)))
theorem emp_app (a : Str) : Str.empty ++ a = a := str_ext (by rw [TL.tl_append]; rfl)
theorem sum_le : ∀ (ws : List Str) (k : Nat), (∀ w ∈ ws, w.length ≤ k) → (ws.map (·.length)).sum ≤ ws.length * k
  | [], _, _ => by simp
  | w :: r, k, h => by
    have h1 := sum_le r k fun x hx => h x (List.mem_cons_of_mem _ hx)
    have h2 := h w List.mem_cons_self
    rw [List.map_cons, List.sum_cons, List.length_cons, Nat.succ_mul]
    omega
theorem jn_len (ws : List Str) (h : ∀ w ∈ ws, w.length ≤ 100) : (jn ws).length ≤ ws.length * 101 := by
  have h1 := StrLaws.join_length_le (" " : Str) ws
  have h2 := sum_le ws 100 h
  unfold jn
  rw [TL.join_eq]
  have : (" " : Str).length = 1 := by decide
  rw [this] at h1
  omega
section
variable {P : Program} {w : World} {K : PySem.W.Frag} {mg : Str → Option Value} {base : Heap}
theorem scST : FnScope ["first", "last"] ["first", "last"] (defScope sSText) := ⟨rfl, rfl, rfl, by decide +kernel, rfl, by decide +kernel, by decide +kernel⟩
theorem ok_stext {f : Addr} {fd : FuncData} (F : Fun K "_stretch_text" "_stretch_text" sSText f fd) (T : STxt mg) : FnOk P w K mg base CX0 1 f fd ["first", "last"] spSText := by
  refine F.ok scST (fun vs H Q E h => ?_) (fun cdv A outer s H vs Q E hr h => ?_)
  · obtain ⟨r, rfl, _⟩ := h
    rfl
  · obtain ⟨r, rfl, ok, q⟩ := h
    obtain ⟨h1, h2, h3⟩ := okRow_iff ok
    refine ⟨_, pss_one (ps_ret (pe_ifExp (pt_cmpR op_eq (pv 0) (pv 1) (nomark _)) (pe_callTy call_str_int (by rfl) T.zStr boot_strT (pa_cons (pv 0) pa_nil))
      (pe_joined (.cons (pe_fmt (pv 0)) (.cons pe_str (.cons (pe_fmt (pv 1)) .nil)))))), ?_⟩
    have l1 := xl (x := r.1) (by omega) (by omega)
    have l2 := xl (x := r.2) (by omega) (by omega)
    refine ⟨_, rfl, _, rfl, rfl, _, rfl, ite2 (fun e => ?_) (fun e => ?_)⟩
    · have e1 : r.1 = r.2 := V.int.inj (of_decide_eq_true e)
      have q1 := q
      unfold sT at q1
      rw [if_pos e1] at q1
      exact ⟨_, rfl, r.1, rfl, dlog (by omega) (by omega), q1⟩
    · have e1 : ¬ r.1 = r.2 := fun z => e (decide_eq_true (by rw [z]))
      have q1 := q
      unfold sT at q1
      rw [if_neg e1] at q1
      refine ⟨_, rfl, .inr ⟨r.1, rfl, dlog (by omega) (by omega), _, rfl, sz1 ?_, _, rfl, sz1 ?_, _, rfl, .inr ⟨r.2, rfl, dlog (by omega) (by omega), _, rfl, sz1 ?_, ?_⟩⟩⟩
      · show (Str.empty ++ dT r.1).length ≤ 20000
        rw [emp_app]; omega
      · show ((Str.empty ++ dT r.1) ++ ("-" : Str)).length ≤ 20000
        rw [emp_app, len_app]
        show (dT r.1).length + 1 ≤ 20000
        omega
      · show (((Str.empty ++ dT r.1) ++ ("-" : Str)) ++ dT r.2).length ≤ 20000
        rw [emp_app, len_app, len_app]
        show (dT r.1).length + 1 + (dT r.2).length ≤ 20000
        omega
      · show Q (.str (((Str.empty ++ dT r.1) ++ ("-" : Str)) ++ dT r.2)) H
        rw [emp_app]
        exact q1
theorem scRP : FnScope ["text", "number"] ["text"] (defScope sRPl) := ⟨rfl, rfl, rfl, by decide +kernel, rfl, by decide +kernel, by decide +kernel⟩
theorem at_head {c : Nat} {r : List Nat} : atI (c :: r) 0 = some c := atI_nat (j := 0) rfl
theorem bodyL_dig {l : List Nat} (h : AllDigits l) : bodyL l = l := by
  cases l with
  | nil => rfl
  | cons c r =>
    have := h c List.mem_cons_self
    show (if c = 45 then r else c :: r) = _
    rw [if_neg (by omega)]
theorem hd_dig {l : List Nat} (h : AllDigits l) : l.head? ≠ some 45 := fun e => by
  cases l with
  | nil => cases e
  | cons c r =>
    have := h c List.mem_cons_self
    have := Option.some.inj e
    omega
theorem decL_dT {n : Int} (h0 : 0 ≤ n) : decL (tl (dT n)) = some n := by
  have hd : AllDigits (tl (dT n)) := dT_digits h0
  unfold decL
  rw [bodyL_dig hd, (allDig_iff _).mpr ⟨dT_ne h0, hd⟩, if_pos rfl, if_neg (fun k => ?_), if_neg (hd_dig hd), tl_dT h0, TL.numL_val, Int.toNat_of_nonneg h0]
  rw [tl_dT h0] at k
  have e := numL_head n.toNat k.1
  refine k.2 ?_
  rw [e]
  decide
theorem decL_bad {s : Str} (h : BadPl s) : decL (tl s) = none ∨ ∃ n, decL (tl s) = some n ∧ placeB n = false := by
  rcases h with h | ⟨r, h, hne⟩ | ⟨n, e, h0, h1⟩
  · cases hd : decL (tl s) with
    | none => exact .inl rfl
    | some m =>
      refine .inr ⟨m, rfl, ?_⟩
      unfold decL at hd
      by_cases hA : allDig (bodyL (tl s)) = true
      · rw [if_pos hA] at hd
        by_cases h48 : (bodyL (tl s)).head? = some 48 ∧ tl s ≠ [48]
        · rw [if_pos h48] at hd; cases hd
        · rw [if_neg h48] at hd
          by_cases h45 : (tl s).head? = some 45
          · rw [if_pos h45] at hd
            have em := Option.some.inj hd
            obtain ⟨hne, hdg⟩ := (allDig_iff _).mp hA
            have pos : 0 < digitsVal (bodyL (tl s)) := by
              cases hb : bodyL (tl s) with
              | nil => exact absurd hb hne
              | cons c r =>
                refine NumText.digitsVal_pos ?_
                have h3 := hdg c (by rw [hb]; exact List.mem_cons_self)
                have h4 : c ≠ 48 := fun e => h48 ⟨by rw [hb, e]; rfl, fun e2 => by rw [e2] at h45; exact absurd h45 (by decide)⟩
                omega
            unfold placeB
            rw [decide_eq_false (by omega), Bool.false_and]
          · exfalso
            have eb : bodyL (tl s) = tl s := by
              cases hc : tl s with
              | nil => rfl
              | cons c r =>
                show (if c = 45 then r else c :: r) = _
                rw [if_neg (fun e => h45 (by rw [hc, e]; rfl))]
            rw [eb] at hA
            have h5 := ascDig_iff (tl s)
            rw [ofL_tl, hA, h, Bool.and_false] at h5
            cases h5
      · rw [if_neg hA] at hd; cases hd
  · left
    have eb : bodyL (tl s) = tl s := by rw [h]; rfl
    unfold decL
    rw [eb]
    by_cases hA : allDig (tl s) = true
    · rw [if_pos hA, if_pos ⟨by rw [h]; rfl, fun e => by rw [h] at e; injection e with _ e; exact hne e⟩]
    · rw [if_neg hA]
  · have l0 : lastP = 10 ^ 30 := rfl
    refine .inr ⟨n, by rw [e]; exact decL_dT (by omega), ?_⟩
    unfold placeB
    rw [decide_eq_false (p := n ≤ lastP) (by omega), Bool.and_false]
theorem ok_rpl {f : Addr} {fd : FuncData} (F : Fun K "read_place" "read_place" sRPl f fd) (RD : Cl P w K mg base 1 "read_decimal" ["text"] spRDec) (IP : Cl P w K mg base 2 "is_place" ["value"] (spIsPlace K)) : FnOk P w K mg base CX0 3 f fd ["text"] spRPl := by
  refine F.ok scRP (fun vs H Q E h => ?_) (fun cdv A outer s H vs Q E hr h => ?_)
  · obtain ⟨s, rfl, _⟩ := h
    rfl
  · obtain ⟨s, rfl, hlen, h⟩ := h
    have nd := scRP.nd
    refine ⟨_, pss_cons (ps_set (i := 1) nd rfl (.inl rfl) (pe_cl RD hr (by decide) (by rfl) (pa_cons (pv 0) pa_nil)))
      (pss_one (ps_ret (pe_ifExp (pt_val (pe_cl IP hr (by decide) (by rfl) (pa_cons (pv 1) pa_nil))) (pv 1) pe_non))), ?_⟩
    refine ⟨_, rfl, s, rfl, by omega, ?_⟩
    rcases h with ⟨n, e, h0, h1, q⟩ | ⟨hb, q⟩
    · rw [e, decL_dT h0]
      have hp : placeB n = true := by unfold placeB; rw [decide_eq_true h0, decide_eq_true h1]; rfl
      refine ⟨_, rfl, .int n, rfl, .inl ⟨n, rfl, _, rfl, ?_⟩⟩
      rw [hp]
      exact iteT ⟨_, rfl, q⟩
    · rcases decL_bad hb with e | ⟨n, e, hp⟩
      · rw [e]
        exact ⟨_, rfl, .non, rfl, .inr ⟨"NoneType", false, false, .base .non, by decide +kernel, by decide +kernel, rfl, _, rfl, iteF q⟩⟩
      · rw [e]
        refine ⟨_, rfl, .int n, rfl, .inl ⟨n, rfl, _, rfl, ?_⟩⟩
        rw [hp]
        exact iteF q
end
end OR

namespace OR
open PySem PySem.Spec PyProof.Rows L2
open TL (tl numL)
section
variable {P : Program} {w : World} {K : PySem.W.Frag} {mg : Str → Option Value} {base : Heap}
theorem scRS : FnScope ["word", "start", "dash", "end", "first", "last"] ["word"] (defScope sRStr) := ⟨rfl, rfl, rfl, by decide +kernel, rfl, by decide +kernel, by decide +kernel⟩
theorem ok_rstr {f : Addr} {fd : FuncData} (F : Fun K "_read_stretch" "_read_stretch" sRStr f fd) (RP : Cl P w K mg base 3 "read_place" ["text"] spRPl) : FnOk P w K mg base CX0 4 f fd ["word"] spRStr := by
  refine F.ok scRS (fun vs H Q E h => ?_) (fun cdv A outer s H vs Q E hr h => ?_)
  · obtain ⟨s, rfl, _⟩ := h
    rfl
  · obtain ⟨s, rfl, hlen, h⟩ := h
    have nd := scRS.nd
    refine ⟨_, pss_cons (ps_asg (pe_partition (pv 0) pe_str) (pg_tup rfl (pgs_cons (pg_name (i := 1) nd rfl (.inl rfl)) (pgs_cons (pg_name (i := 2) nd rfl (.inl rfl)) (pgs_cons (pg_name (i := 3) nd rfl (.inl rfl)) pgs_nil)))))
      (pss_cons (ps_set (i := 4) nd rfl (.inl rfl) (pe_cl RP hr (by decide) (by rfl) (pa_cons (pv 1) pa_nil)))
      (pss_cons (ps_if (pt_cmp (pc_isN (pv 4))) (pss_one (ps_ret pe_non)) pss_nil)
      (pss_cons (ps_if (pt_not (pt_truth (pv 2) (by intro _; rfl))) (pss_one (ps_ret (pe_tup (pa_cons (pv 4) (pa_cons (pv 4) pa_nil))))) pss_nil)
      (pss_cons (ps_set (i := 5) nd rfl (.inl rfl) (pe_cl RP hr (by decide) (by rfl) (pa_cons (pv 3) pa_nil)))
      (pss_cons (ps_if (PW.pt (pw_or (pt_cmp (pc_isN (pv 5))) (pw_or1 (pt_cmpR op_ge (pv 4) (pv 5) (nomark _))))) (pss_one (ps_ret pe_non)) pss_nil)
      (pss_one (ps_ret (pe_tup (pa_cons (pv 4) (pa_cons (pv 5) pa_nil)))))))))), ?_⟩
    have two : 2 ≤ sizeLine := by decide
    have hd1 : (("-" : Str).length == 0) = false := by decide
    refine ⟨_, rfl, ⟨_, rfl⟩, s, _, rfl, rfl, hd1, sz1 (by omega), fun p np => ?_⟩
    have S1 := same_lay (o := .tup [.str (Txt.partition s ("-" : Str)).1, .str (Txt.partition s ("-" : Str)).2.1, .str (Txt.partition s ("-" : Str)).2.2]) np
    have hp : (upd H p (.tup [.str (Txt.partition s ("-" : Str)).1, .str (Txt.partition s ("-" : Str)).2.1, .str (Txt.partition s ("-" : Str)).2.2])) p = some (.tup [.str (Txt.partition s ("-" : Str)).1, .str (Txt.partition s ("-" : Str)).2.1, .str (Txt.partition s ("-" : Str)).2.2]) := upd_same
    refine ⟨p, _, rfl, .inl (.inl hp), rfl, _, _, rfl, _, _, rfl, _, _, rfl, rfl, ?_⟩
    -- no dash, a dash
    rcases h with ⟨r, e, ok, q⟩ | ⟨hb, q⟩
    · obtain ⟨h1, h2, h3⟩ := okRow_iff ok
      by_cases e12 : r.1 = r.2
      · have es : s = dT r.1 := by rw [e]; unfold sT; rw [if_pos e12]
        have hpt : Txt.partition s ("-" : Str) = (s, Str.empty, Str.empty) := part_none (by rw [es]; exact dT_noDash (by omega))
        rw [hpt] at S1 ⊢
        refine ⟨_, rfl, s, rfl, hlen, .inl ⟨r.1, es, by omega, by omega, ?_⟩⟩
        refine ⟨_, rfl, _, rfl, iteF ?_⟩
        refine ⟨_, rfl, false, ⟨by show (Str.empty).length ≤ sizeLine; decide, rfl⟩, iteT ?_⟩
        refine ⟨_, rfl, _, rfl, two, fun t ht => q t _ (S1.free ht) ?_ (S1.trans (same_lay ht))⟩
        rw [← e12]
        exact upd_same
      · have es : s = (dT r.1 ++ ("-" : Str)) ++ dT r.2 := by rw [e]; unfold sT; rw [if_neg e12]
        have hpt : Txt.partition s ("-" : Str) = (dT r.1, ("-" : Str), dT r.2) := by rw [es]; exact part_app (dT_noDash (by omega))
        have l1 := xl (x := r.1) (by omega) (by omega)
        have l2 := xl (x := r.2) (by omega) (by omega)
        rw [hpt] at S1 ⊢
        refine ⟨_, rfl, dT r.1, rfl, by omega, .inl ⟨r.1, rfl, by omega, by omega, ?_⟩⟩
        refine ⟨_, rfl, _, rfl, iteF ?_⟩
        refine ⟨_, rfl, true, ⟨by show ("-" : Str).length ≤ sizeLine; decide, rfl⟩, iteF ?_⟩
        refine ⟨_, rfl, dT r.2, rfl, by omega, .inl ⟨r.2, rfl, by omega, by omega, ?_⟩⟩
        refine ⟨_, rfl, _, rfl, iteF ?_⟩
        refine ⟨_, rfl, _, rfl, _, _, rfl, rfl, _, rfl, ite2 (fun z => absurd (of_decide_eq_true z) (by omega)) (fun _ => ?_)⟩
        exact ⟨_, rfl, _, rfl, two, fun t ht => q t _ (S1.free ht) upd_same (S1.trans (same_lay ht))⟩
    · rcases hb with ⟨nd', hbp⟩ | ⟨s', e', es, nd', hbp⟩ | ⟨a, e', es, a0, a1, hbp⟩ | ⟨a, b, es, a0, a1, b0, ba⟩
      · have hpt : Txt.partition s ("-" : Str) = (s, Str.empty, Str.empty) := part_none nd'
        rw [hpt] at S1 ⊢
        refine ⟨_, rfl, s, rfl, hlen, .inr ⟨hbp, ?_⟩⟩
        exact ⟨_, rfl, _, rfl, iteT (q _ S1)⟩
      · have hpt : Txt.partition s ("-" : Str) = (s', ("-" : Str), e') := by rw [es]; exact part_app nd'
        have hl : s'.length ≤ 200 := by rw [es, len_app, len_app] at hlen; omega
        rw [hpt] at S1 ⊢
        refine ⟨_, rfl, s', rfl, hl, .inr ⟨hbp, ?_⟩⟩
        exact ⟨_, rfl, _, rfl, iteT (q _ S1)⟩
      · have hpt : Txt.partition s ("-" : Str) = (dT a, ("-" : Str), e') := by rw [es]; exact part_app (dT_noDash a0)
        have hl : e'.length ≤ 200 := by rw [es, len_app, len_app] at hlen; omega
        have l1 := xl (x := a) a0 (by omega)
        rw [hpt] at S1 ⊢
        refine ⟨_, rfl, dT a, rfl, by omega, .inl ⟨a, rfl, a0, a1, ?_⟩⟩
        refine ⟨_, rfl, _, rfl, iteF ?_⟩
        refine ⟨_, rfl, true, ⟨by show ("-" : Str).length ≤ sizeLine; decide, rfl⟩, iteF ?_⟩
        refine ⟨_, rfl, e', rfl, hl, .inr ⟨hbp, ?_⟩⟩
        exact ⟨_, rfl, _, rfl, iteT (q _ S1)⟩
      · have hpt : Txt.partition s ("-" : Str) = (dT a, ("-" : Str), dT b) := by rw [es]; exact part_app (dT_noDash a0)
        have l1 := xl (x := a) a0 (by omega)
        have l2 := xl (x := b) b0 (by omega)
        rw [hpt] at S1 ⊢
        refine ⟨_, rfl, dT a, rfl, by omega, .inl ⟨a, rfl, a0, a1, ?_⟩⟩
        refine ⟨_, rfl, _, rfl, iteF ?_⟩
        refine ⟨_, rfl, true, ⟨by show ("-" : Str).length ≤ sizeLine; decide, rfl⟩, iteF ?_⟩
        refine ⟨_, rfl, dT b, rfl, by omega, .inl ⟨b, rfl, b0, by omega, ?_⟩⟩
        refine ⟨_, rfl, _, rfl, iteF ?_⟩
        refine ⟨_, rfl, _, rfl, _, _, rfl, rfl, _, rfl, ite2 (fun _ => q _ S1) (fun z => absurd (decide_eq_true ba) z)⟩
theorem scPT : FnScope ["self", "first", "last"] ["self"] (defScope sPlText) := ⟨rfl, rfl, rfl, by decide +kernel, rfl, by decide +kernel, by decide +kernel⟩
theorem ok_ptext {f C : Addr} {fd : FuncData} (F : Fun K "text" "Places.text" sPlText f fd) (T : PTxt K mg C) (ST : Cl P w K mg base 1 "_stretch_text" ["first", "last"] spSText) : FnOk P w K mg base CX0 2 f fd ["self"] (spPText C) := by
  refine F.ok scPT (fun vs H Q E h => ?_) (fun cdv A outer s H vs Q E hr h => ?_)
  · obtain ⟨x, l, rfl, _⟩ := h
    rfl
  · obtain ⟨x, l, rfl, hp, hok, hl, q⟩ := h
    have nd := scPT.nd
    obtain ⟨nf, dx, t, fi, b, M, e1, e2, e3, e4, e5, e6, e7⟩ := id hp
    refine ⟨_, pss_cons (ps_if (pt_not (pt_truth (pe_fld (pv 0) rfl) (by intro _; rfl))) (pss_one (ps_ret pe_str)) pss_nil)
      (pss_one (ps_ret (pe_join pe_str (pe_lc (own := [("first", 1), ("last", 2)]) (g := gTup K 2 (gCons (gName 1) (gCons (gName 2) gNil))) (tt := tYes) rfl nd (pi_tup (pe_fld (pv 0) rfl)) (blkOk_by (N := ["self", "first", "last"]) (sc := defScope sPlText) (by decide +kernel))
        (fun _ _ _ _ _ => pg_tup rfl (pgs_cons (pg_name (i := 1) nd rfl (.inl rfl)) (pgs_cons (pg_name (i := 2) nd rfl (.inl rfl)) pgs_nil))) (fun _ _ _ _ _ => pts_nil) (fun _ _ _ _ _ => pe_cl ST hr (by decide) (by rfl) (pa_cons (pv 1) (pa_cons (pv 2) pa_nil))))))), ?_⟩
    refine ⟨_, rfl, x, C, dx, _, _, rfl, e1, T.cl, T.nS, pFl_s _ _ _, !(refs M).isEmpty, .inr (.inl ⟨_, .inl (.inl e2), rfl⟩), ?_⟩
    cases hM : M with
    | nil =>
      rw [hM] at e4
      have el : l = [] := e4.symm
      have q1 := q H (Same.refl _)
      unfold textOf at q1
      rw [if_pos el] at q1
      exact iteT q1
    | cons m0 M0 =>
      rw [← hM]
      have hne : l ≠ [] := by
        rw [← e4, hM]
        simp [rws]
      have tru : (!(refs M).isEmpty) = true := by rw [hM]; rfl
      rw [tru]
      refine iteF ?_
      have lM : M.length = l.length := by rw [← e4, rws_len]
      refine ⟨⟨_, rfl⟩, _, rfl, x, C, dx, _, _, rfl, e1, T.cl, T.nS, pFl_s _ _ _, t, rfl, ⟨_, .inl (.inl e2)⟩, fun D hD => lc_tup (K := K) (a := t) (xs := refs M) (fun i G => G D = some (.lst ((((rws M).take i).map sT).map V.str)) ∧ Same H G)
        ⟨upd_same, same_lay hD⟩ (fun i G _ ⟨_, s⟩ => sameT s (.inl (.inl e2))) ?_ ?_⟩
      · rintro i y G hy ⟨hD2, sG⟩
        obtain ⟨z, hz, hzM, rfl⟩ := refs_get hy
        have hil : i < M.length := (List.getElem?_eq_some_iff.mp hz).1
        have ez := sG _ _ (e3 z hzM)
        have e1' : (rws M).take (i + 1) = (rws M).take i ++ [z.2] := by rw [List.take_add_one, rws_get hz]; rfl
        refine ⟨z.1, _, rfl, .inl (.inl ez), rfl, _, _, rfl, _, _, rfl, rfl, rfl, yesT ?_⟩
        refine ⟨_, rfl, _, rfl, z.2, rfl, hok z.2 (by rw [← e4]; exact mem_rws.mpr ⟨z.1, hzM⟩), ?_⟩
        refine ⟨_, hD2, small1000 ?_, ?_, same_upd sG hD⟩
        · rw [List.length_map, List.length_map, List.length_take]
          omega
        · rw [upd_same, e1', List.map_append, List.map_append]
          rfl
      · rintro G ⟨hD2, sG⟩
        rw [refs_len, List.take_of_length_le (by rw [rws_len]; exact Nat.le_refl _), e4] at hD2
        refine ⟨_, D, l.map sT, rfl, rfl, .inl (.inl (.inl hD2)), ?_, ?_⟩
        · have h1 := sum_le (l.map sT) 100 (fun w hw => by
            obtain ⟨r, hr', e⟩ := List.mem_map.mp hw
            rw [← e]
            exact Nat.le_trans (sT_len (hok r hr')) (by decide))
          have h2 : (" " : Str).length = 1 := by decide
          rw [List.length_map] at h1 ⊢
          rw [h2]
          omega
        · have q1 := q G sG
          unfold textOf at q1
          rw [if_neg hne] at q1
          exact q1
/-- read_stretches of right words: those of p from b to ahead of e, no place above l -/
def spRStrsG (K : PySem.W.Frag) : Sp := fun vs H Q _ => ∃ (p : Addr) (b e : Nat) (l : Int) (ws : List Str) (rows : List Row), vs = [.ref p, .int (b : Nat), .int (e : Nat), .int l] ∧ SqL K H p (ws.map V.str) ∧ e ≤ ws.length ∧ ws.length ≤ 100 ∧ (∀ w ∈ ws, w.length ≤ 200) ∧
  Nf rows ∧ (∀ r ∈ rows, okRow r = true) ∧ (∀ r ∈ rows, r.2 ≤ l) ∧ (∀ (k : Nat) (r : Row), rows[k]? = some r → ws[b + k]? = some (sT r)) ∧ b + rows.length = e ∧
  ∀ (o : Addr) (L : List ARow) H', H o = none → H' o = some (.lst (refs L)) → AtR H' L → rws L = rows → Same H H' → Q (.ref o) H'
theorem scRSs : FnScope ["words", "begin", "end", "last", "stretches", "index", "stretch"] ["words", "begin", "end", "last"] (defScope sRStrs) := ⟨rfl, rfl, rfl, by decide +kernel, rfl, by decide +kernel, by decide +kernel⟩
theorem ok_rstrsG {f : Addr} {fd : FuncData} (F : Fun K "read_stretches" "read_stretches" sRStrs f fd) (zR : mg "range" = none)
    (RS : Cl P w K mg base 4 "_read_stretch" ["word"] spRStr) : FnOk P w K mg base CX0 5 f fd ["words", "begin", "end", "last"] (spRStrsG K) := by
  refine F.ok scRSs (fun vs H Q E h => ?_) (fun cdv A outer s H vs Q E hr h => ?_)
  · obtain ⟨_, _, _, _, _, _, rfl, _⟩ := h
    rfl
  · obtain ⟨p, b, e, l, ws, rows, rfl, hp, hel, hln, hlw, nf, ok, okl, hrw, hrl, q⟩ := h
    have nd := scRSs.nd
    refine ⟨_, pss_cons (ps_set (i := 4) nd rfl (.inl rfl) (pe_lst pa_nil))
      (pss_cons (ps_for PassesOwn.never rfl (pi_range2 (by rfl) zR (pa_cons (pv 1) (pa_cons (pv 2) pa_nil))) (pg_name (i := 5) nd rfl (.inl rfl))
        (pss_cons (ps_set (i := 6) nd rfl (.inl rfl) (pe_cl RS hr (by decide) (by rfl) (pa_cons (pe_ix ix_list (pv 0) (pv 5) (fun _ _ => rfl)) pa_nil)))
        (pss_cons (ps_if (PW.pt (pw_or (pt_cmp (pc_isN (pv 6))) (pw_or (pt_cmpR op_gt (pe_ix ix_tup (pv 6) pe_int (fun _ _ => rfl)) (pv 3) (nomark _)) (pw_or1 (PW.pt (pw_and (pt_truth (pv 4) (by intro _; rfl)) (pw_and1 (pt_cmpR op_lt (pe_ix ix_tup (pv 6) pe_int (fun _ _ => rfl)) (pe_op op_add (pe_ix ix_tup (pe_ix ix_list (pv 4) (pe_un un_neg pe_int) (fun _ _ => rfl)) pe_int (fun _ _ => rfl)) pe_int) (nomark _)))))))))
          (pss_one ps_never) pss_nil)
        (pss_one (ps_expr (pe_bm PySem.F.plainAttrs_list PySem.F.slot_list_append PySem.F.type_list_append mt_append (pv 4) (pa_cons (pv 6) pa_nil)))))))
      (pss_one (ps_ret (pv 4)))), ?_⟩
    refine ⟨Nat.zero_le _, fun o no => ?_⟩
    have S2 := same_lay (o := .lst []) no
    have ho2 : (upd H o (.lst [])) o = some (.lst []) := upd_same
    generalize upd H o (.lst []) = H2 at S2 ho2
    have hn : ((e : Int) - (b : Int)).toNat = e - b := by omega
    have bnd : -(2 ^ 62 : Int) ≤ (b : Int) ∧ (b : Int) < 2 ^ 62 ∧ -(2 ^ 62 : Int) ≤ (e : Int) ∧ (e : Int) < 2 ^ 62 := by
      refine ⟨by omega, by omega, by omega, by omega⟩
    have stay : ∀ G, Fre o H2 G → SqL K G p (ws.map V.str) := fun G fr => by
      rcases hp with (h | ⟨u, h⟩) | h
      · exact .inl (.inl (fr _ _ (S2 _ _ h) (ne_of_none h no)))
      · exact .inl (.inr ⟨u, fr _ _ (S2 _ _ h) (ne_of_none h no)⟩)
      · exact .inr h
    refine ⟨_, rfl, _, rfl, _, _, rfl, bnd, ?_⟩
    rw [hn]
    refine for_range (lo := (b : Int)) (n := e - b) (fun i σ G => ∃ s5 s6, ∃ L : List ARow, σ = [some (.ref p), some (.int (b : Nat)), some (.int (e : Nat)), some (.int l), some (.ref o), s5, s6] ∧ G o = some (.lst (refs L)) ∧ AtR G L ∧ rws L = rows.take i ∧ Fre o H2 G ∧ i ≤ rows.length)
        ⟨none, none, [], rfl, ho2, (fun _ z => nomatch z), rfl, Fre.refl _ _, Nat.zero_le _⟩ ?_ ?_
    · rintro i σ G hi ⟨s5, s6, L, rfl, ho, hL, eL, fr, hir⟩
      have hil : b + i < ws.length := by omega
      obtain ⟨wi, hwi⟩ : ∃ wi, ws[b + i]? = some wi := ⟨ws[b + i], List.getElem?_eq_getElem hil⟩
      have hat : atI (ws.map V.str) ((b : Int) + (i : Int)) = some (.str wi) := by
        have e1 : ((b : Int) + (i : Int)) = ((b + i : Nat) : Int) := by omega
        rw [e1]
        exact atI_nat (by rw [List.getElem?_map, hwi]; rfl)
      have hwl : wi.length ≤ 200 := hlw wi (List.mem_of_getElem? hwi)
      refine ⟨_, rfl, _, rfl, p, _, _, _, rfl, rfl, stay G fr, hat, ?_⟩
      have lL : L.length = i := by
        rw [← rws_len L, eL, List.length_take]
        omega
      have hlt : i < rows.length := by omega
      obtain ⟨r, hr'⟩ : ∃ r, rows[i]? = some r := ⟨rows[i], List.getElem?_eq_getElem hlt⟩
      have ew : wi = sT r := by
        have := hrw i r hr'
        rw [hwi] at this
        exact Option.some.inj this
      have okr := ok r (List.mem_of_getElem? hr')
      have okrl := okl r (List.mem_of_getElem? hr')
      refine ⟨wi, rfl, hwl, .inl ⟨r, ew, okr, fun t G2 nt ht s2 => ?_⟩⟩
      have ho2' := s2 _ _ ho
      have hL2 := hL.same s2
      have e1 : rows.take (i + 1) = rows.take i ++ [r] := by rw [List.take_add_one, hr']; rfl
      have nto : t ≠ o := fun e => by rw [e] at nt; rw [nt] at ho; cases ho
      refine ⟨_, rfl, _, rfl, iteF ?_⟩
      refine ⟨_, rfl, t, _, 1, _, rfl, rfl, .inl (.inl ht), atI_nat (j := 1) rfl, _, rfl, _, _, rfl, rfl, _, rfl, ite2 (fun z => absurd (of_decide_eq_true z) (by show ¬ (r.2 > l); omega)) (fun _ => ?_)⟩
      have app : ∃ s5 s6, ∃ L' : List ARow, [some (.ref p), some (V.int (b : Nat)), some (.int (e : Nat)), some (.int l), some (.ref o), some (.int ((b : Int) + (i : Int))), some (.ref t)] = [some (.ref p), some (.int (b : Nat)), some (.int (e : Nat)), some (.int l), some (.ref o), s5, s6] ∧ (upd G2 o (.lst (refs L ++ [.ref t]))) o = some (.lst (refs L')) ∧ AtR (upd G2 o (.lst (refs L ++ [.ref t]))) L' ∧ rws L' = rows.take (i + 1) ∧ Fre o H2 (upd G2 o (.lst (refs L ++ [.ref t]))) ∧ i + 1 ≤ rows.length := by
        refine ⟨_, _, L ++ [(t, r)], rfl, by rw [upd_same, refs_snoc], fun q hq => ?_, by rw [rws_snoc, eL, e1], (fr.trans (fun b u e _ => s2 b u e)).trans Fre.put, hlt⟩
        rcases List.mem_append.mp hq with k | k
        · rw [upd_ne (ne_of (hL2 q k) ho2' (by intro w; cases w))]; exact hL2 q k
        · rw [List.mem_singleton.mp k, upd_ne nto]; exact ht
      have alen : (refs L).length < sizeLine := small1000 (by rw [refs_len]; omega)
      refine ⟨_, rfl, !(refs L).isEmpty, .inl ⟨refs L, .inl (.inl ho2'), rfl⟩, ?_⟩
      rcases List.eq_nil_or_concat L with e | ⟨L2, q2, e⟩
      · subst e
        refine iteF (iteF ?_)
        exact ⟨_, rfl, .inl ⟨rfl, _, .inl (.inl ho2')⟩, _, rfl, o, _, _, rfl, rfl, ho2', alen, app⟩
      · rw [List.concat_eq_append] at e
        have tru : (!(refs L).isEmpty) = true := by rw [e, refs_snoc]; simp
        rw [tru]
        refine iteT ?_
        have hoq : G2 o = some (.lst (refs L2 ++ [.ref q2.1])) := by rw [ho2', e, refs_snoc]
        have hq2 := hL2 q2 (by rw [e]; exact List.mem_append_right _ (List.mem_singleton.mpr rfl))
        have gap : q2.2.2 + 1 < r.1 := by
          have hp' := nf.gap
          rw [← List.take_append_drop i rows] at hp'
          refine (List.pairwise_append.mp hp').2.2 q2.2 ?_ r ?_
          · rw [← eL, e, rws_snoc]; exact List.mem_append_right _ (List.mem_singleton.mpr rfl)
          · rw [List.drop_eq_getElem_cons hlt]
            have := List.getElem?_eq_getElem hlt
            rw [hr'] at this
            rw [Option.some.inj this]
            exact List.mem_cons_self
        refine ⟨_, rfl, t, _, 0, _, rfl, rfl, .inl (.inl ht), atI_nat (j := 0) rfl, _, rfl, 1, rfl, o, _, -1, _, rfl, rfl, .inl (.inl hoq), atI_last _ _, q2.1, _, 1, _, rfl, rfl, .inl (.inl hq2), atI_nat (j := 1) rfl, _, _, rfl, rfl, _, _, rfl, rfl, _, rfl, ite2 (fun z => absurd (of_decide_eq_true z) (by omega)) (fun _ => ?_)⟩
        exact ⟨_, rfl, .inl ⟨rfl, _, .inl (.inl ho2')⟩, _, rfl, o, _, _, rfl, rfl, ho2', alen, app⟩
    · rintro σ G ⟨s5, s6, L, rfl, ho, hL, eL, fr, hir⟩
      rw [List.take_of_length_le (by omega)] at eL
      have SHG : Same H G := fun b u e => fr _ _ (S2 _ _ e) (ne_of_none e no)
      exact ⟨_, rfl, q o L G no ho hL eL SHG⟩
end
end OR

namespace OR
open PySem PySem.Spec PyProof.Rows L2
open TL (tl numL)
/-! ### numbers of more than sixty figures, by blocks -/
def padL : Nat → Nat → List Nat
  | 0, _ => []
  | k + 1, m => padL k (m / 10) ++ [48 + m % 10]
theorem padL_zero : ∀ k, padL k 0 = List.replicate k 48
  | 0 => rfl
  | k + 1 => by
    show padL k (0 / 10) ++ [48 + 0 % 10] = _
    rw [show 0 / 10 = 0 from rfl, padL_zero k, List.replicate_succ']
theorem numL_blocks : ∀ (k n : Nat), 10 ^ k ≤ n → numL n = numL (n / 10 ^ k) ++ padL k (n % 10 ^ k)
  | 0, n, _ => by show numL n = numL (n / 1) ++ []; rw [Nat.div_one, List.append_nil]
  | k + 1, n, h => by
    have hp : 10 ^ (k + 1) = 10 ^ k * 10 := Nat.pow_succ ..
    have h1 : 1 ≤ 10 ^ k := by have := Nat.pow_le_pow_right (n := 10) (by decide) (Nat.zero_le k); simpa using this
    have h10 : 10 ≤ n := by omega
    have ih := numL_blocks k (n / 10) (by omega)
    have e1 : n / 10 / 10 ^ k = n / 10 ^ (k + 1) := by rw [Nat.div_div_eq_div_mul, hp, Nat.mul_comm]
    have e2 : (n % 10 ^ (k + 1)) / 10 = n / 10 % 10 ^ k := by rw [hp, Nat.mul_comm, Nat.mod_mul_right_div_self]
    have e3 : (n % 10 ^ (k + 1)) % 10 = n % 10 := by rw [hp]; exact Nat.mod_mul_left_mod ..
    rw [TL.numL_step h10, ih, e1]
    show _ = numL (n / 10 ^ (k + 1)) ++ (padL k ((n % 10 ^ (k + 1)) / 10) ++ [48 + (n % 10 ^ (k + 1)) % 10])
    rw [e2, e3, List.append_assoc]
theorem padL_num : ∀ (k m : Nat), 1 ≤ k → m < 10 ^ k → (numL m).length ≤ k ∧ padL k m = List.replicate (k - (numL m).length) 48 ++ numL m
  | 0, _, h, _ => absurd h (by decide)
  | k + 1, m, _, h => by
    by_cases hm : m < 10
    · rw [TL.numL_lt hm]
      refine ⟨by simp, ?_⟩
      show padL k (m / 10) ++ [48 + m % 10] = _
      rw [show m / 10 = 0 by omega, padL_zero, show m % 10 = m by omega]
      simp
    · have hp : 10 ^ (k + 1) = 10 ^ k * 10 := Nat.pow_succ ..
      have hk : 1 ≤ k := by
        cases k with
        | zero => simp at h; omega
        | succ k => omega
      obtain ⟨l1, l2⟩ := padL_num k (m / 10) hk (by omega)
      rw [TL.numL_step (by omega)]
      rw [List.length_append]
      refine ⟨by simp only [List.length_cons, List.length_nil]; omega, ?_⟩
      show padL k (m / 10) ++ [48 + m % 10] = _
      rw [l2, show k + 1 - ((numL (m / 10)).length + [48 + m % 10].length) = k - (numL (m / 10)).length by simp only [List.length_cons, List.length_nil]; omega, List.append_assoc]
theorem zfilled_dig {x : Str} {more c : Nat} (h : x.cps[0]? = some c) (h1 : c ≠ 43) (h2 : c ≠ 45) : zfilled x more = Builtin.Str.padded x more 0 48 := by
  unfold zfilled
  rw [h]
  split
  · rename_i e; exact absurd (Option.some.inj e) h1
  · rename_i e; exact absurd (Option.some.inj e) h2
  · rfl
theorem tl_padded (x : Str) (k : Nat) : tl (Builtin.Str.padded x k 0 48) = List.replicate k 48 ++ tl x := by
  show (Array.replicate k 48 ++ x.cps ++ Array.replicate 0 48).toList = _
  rw [Array.toList_append, Array.toList_append, Array.toList_replicate, Array.toList_replicate]
  simp
theorem zfill_num {m : Int} (h0 : 0 ≤ m) (h : m < 10 ^ 60) : tl (Txt.zfill (dT m) 60) = padL 60 m.toNat := by
  have hm : m.toNat < 10 ^ 60 := by omega
  obtain ⟨l1, l2⟩ := padL_num 60 m.toNat (by decide) hm
  have hl : (dT m).length = (numL m.toNat).length := by rw [TL.len_tl, tl_dT h0]
  unfold Txt.zfill
  by_cases hc : (60 : Int) ≤ (dT m).length
  · rw [if_pos hc, tl_dT h0, l2]
    rw [show 60 - (numL m.toNat).length = 0 by omega]
    rfl
  · rw [if_neg hc, l2, hl]
    have hd := TL.numL_digits m.toNat
    have hne := TL.numL_ne m.toNat
    have e60 : (60 : Int).toNat = 60 := rfl
    rw [e60]
    have hc0 : ∃ c, (dT m).cps[0]? = some c ∧ 48 ≤ c := by
      cases hh : numL m.toNat with
      | nil => exact absurd hh hne
      | cons c r =>
        refine ⟨c, ?_, (hd c (by rw [hh]; exact List.mem_cons_self)).1⟩
        have : (tl (dT m))[0]? = some c := by rw [tl_dT h0, hh]; rfl
        rw [← Array.getElem?_toList]
        exact this
    obtain ⟨c, hc1, hc2⟩ := hc0
    clear hm l2 h
    rw [zfilled_dig hc1 (by omega) (by omega), tl_padded, tl_dT h0]
theorem dT_blocks {n : Int} (h : 10 ^ 60 ≤ n) : dT n = dT (n / 10 ^ 60) ++ Txt.zfill (dT (n % 10 ^ 60)) 60 := by
  have h0 : (0 : Int) ≤ n := by omega
  have b := mod_bd n (10 ^ 60) (by decide)
  have hd : 0 ≤ n / 10 ^ 60 := Int.ediv_nonneg h0 (by decide)
  refine str_ext ?_
  rw [TL.tl_append, zfill_num b.1 b.2, tl_dT h0, tl_dT hd]
  have e1 : (n / 10 ^ 60).toNat = n.toNat / 10 ^ 60 := by omega
  have e2 : (n % 10 ^ 60).toNat = n.toNat % 10 ^ 60 := by omega
  rw [e1, e2]
  exact numL_blocks 60 n.toNat (by omega)
end OR

namespace OR
open PySem PySem.Spec PyProof.Rows L2
open TL (tl numL)
/-! ### xs[::-1] of a list of one item -/
section
variable {X : Cx} {e k : Expr} {te tk : TE} {pos p2 : Pos}
def tRev1 (K : PySem.W.Frag) (te tk : TE) : TE := fun σ H Q => te σ H fun x H1 => tk σ H1 fun y H2 => ∃ (a : Addr) (z : V), x = .ref a ∧ y = .int (-1) ∧ SqL K H2 a [z] ∧ ∀ q, H2 q = none → Q (.ref q) (upd H2 q (.lst [z]))
theorem pick1 (w : Value) : slicePick #[w] none none (some (-1)) = #[w] := by with_unfolding_all rfl
theorem pe_rev1 (he : PE X e te) (hk : PE X k tk) : PE X (.Subscript e (.Slice none none (some k) p2) pos) (tRev1 X.K te tk) := by
  refine ⟨fun pins s σ H Q I h => ?_⟩
  refine Subscript_ (thn (he.run pins s σ H _ I h) fun v s1 ⟨x, H1, I1, r1, q1⟩ => ?_)
  refine wpAny_Slice ?_
  rw [evalPart_none]
  refine wpAny_pure (wpAny_pure ?_)
  rw [evalPart_some]
  refine thn (hk.run pins s1 σ H1 _ I1 q1) fun u s2 ⟨y, H2, I2, r2, a, z, ex, ey, hL, q2⟩ => ?_
  subst ex
  subst ey
  obtain ⟨t, rfl⟩ := r2
  cases r1
  have I4 : Inv X pins σ H2 { s2 with heap := s2.heap.push { cls := .type "slice", data := .fields #[.none, .none, .int (-1) t] } } := I2.kept (t' := s2.toks) fun b ob q => Heap.get?_push_of_some _ q
  obtain ⟨its, r, ht, hz⟩ := I4.list hL
  obtain ⟨w, rfl, rw⟩ := r.one
  show wpAny (model X.prog X.w) X.A (subscriptTail e (.Slice none none (some k) p2) (.ref a) (.ref s2.heap.objs.size)) (EP X pins σ Q) X.xe { s2 with heap := s2.heap.push { cls := .type "slice", data := .fields #[.none, .none, .int (-1) t] } }
  refine tail_any (ops := [.ref a, .ref s2.heap.objs.size]) ht.isList.typeIs slot_list_getitem.lookup ?_ (by with_unfolding_all rfl)
  refine wpAny_getItem_list_slice (lo := none) (hi := none) (st := some (-1)) ht.isList (Heap.IsSliceOf.new ..) .none .none (.int _ _) (by decide) ?_ (by show 1 ≤ sizeLine; decide)
  rw [pick1]
  refine ⟨.ref _, _, I4.laid (t' := s2.toks) (o := .lst [z]) (fun b ob q => Heap.get?_push_of_some _ q) (Nat.le_refl _) ?_, rfl, q2 _ (I4.hok.fresh (Nat.le_refl _))⟩
  exact ⟨by show 1 ≤ sizeLine; decide, _, 0, r, Heap.get?_push_size _ rfl⟩
end
/-! ### a line as it stands -/
theorem kSH : ¬ (("slope" : Str) = "height") := by decide +kernel
def lFl (a b : Int) : List (Str × V) := putF "height" (.int b) (putF "slope" (.int a) [])
theorem lFl_slope (a b : Int) : (lFl a b).lookup ("slope" : Str) = some (.int a) := by
  unfold lFl
  rw [lookup_putF, if_neg kSH, lookup_putF, if_pos rfl]
theorem lFl_height (a b : Int) : (lFl a b).lookup ("height" : Str) = some (.int b) := by
  unfold lFl
  rw [lookup_putF, if_pos rfl]
theorem lFl_no (a b : Int) {m : Str} (h1 : ¬ m = "height") (h2 : ¬ m = "slope") : (lFl a b).lookup m = none := by
  unfold lFl
  rw [lookup_putF, if_neg h1, lookup_putF, if_neg h2]
  all_goals rfl
def IsL (C : Addr) (H : Hp) (x : Addr) (a b : Int) : Prop := ∃ dx, H x = some (.ins C dx (lFl a b))
theorem IsL.same {C : Addr} {H H' : Hp} {x : Addr} {a b : Int} (h : IsL C H x a b) (s : Same H H') : IsL C H' x a b := by
  obtain ⟨dx, e⟩ := h
  exact ⟨dx, s _ _ e⟩
theorem IsL.frm {C : Addr} {H H' : Hp} {x p : Addr} {a b : Int} {n : Nat} (h : IsL C H x a b) (s : Frm p H H') (P : Pen H p n) : IsL C H' x a b := by
  obtain ⟨dx, e⟩ := h
  obtain ⟨c, ns, k, l, hp, _⟩ := P
  exact ⟨dx, s _ _ e (ne_of e hp (by intro z; cases z))⟩
/-- what the text says of the class Line -/
structure LTxt (K : PySem.W.Frag) (mg : Str → Option Value) (C : Addr) : Prop where
  cl : Cls K C
  nS : NoAttr K C "slope"
  nH : NoAttr K C "height"
  mgC : mg "Line" = some (.ref C)
  sf : PySem.W.selfFirst K C = true
  isi : SlX.SIsi K C
  kLL : PySem.W.kitOne K (.ref C) (.ref C) = some true
  kIL : PySem.W.kitOne K (.type "int") (.ref C) = some false
  kTL : PySem.W.kitOne K (.type "tuple") (.ref C) = some false
  zIsi : mg "isinstance" = none
  zInt : mg "int" = none
  zBool : mg "bool" = none
def spLInit (C : Addr) : Sp := fun vs H Q _ => ∃ (p dx : Addr) (a b : Int), vs = [.ref p, .int a, .int b] ∧ H p = some (.ins C dx []) ∧ ∀ H', H' p = some (.ins C dx (lFl a b)) → (∀ c o, H c = some o → c ≠ p → H' c = some o) → Q .non H'
/-- == of a line and a line, or a line and a tuple -/
def spLEq (K : PySem.W.Frag) (C : Addr) : Sp := fun vs H Q _ => ∃ (x : Addr) (a b : Int) (y : V), vs = [.ref x, y] ∧ IsL C H x a b ∧ ((∃ (u : Addr) (c d : Int), y = .ref u ∧ IsL C H u c d ∧ Q (.bl (decide (a = c ∧ b = d))) H) ∨ (TyX K H y (.type "tuple") ∧ Q (.bl false) H))
section
variable {P : Program} {w : World} {K : PySem.W.Frag} {mg : Str → Option Value} {base : Heap}
theorem scLI : FnScope ["self", "slope", "height"] ["self", "slope", "height"] (defScope sLInit) := ⟨rfl, rfl, rfl, by decide +kernel, rfl, by decide +kernel, by decide +kernel⟩
theorem ok_linit {f C : Addr} {fd : FuncData} (F : Fun K "__init__" "Line.__init__" sLInit f fd) (T : LTxt K mg C) : FnOk P w K mg base CX0 1 f fd ["self", "slope", "height"] (spLInit C) := by
  refine F.ok scLI (fun vs H Q E h => ?_) (fun cdv A outer s H vs Q E hr h => ?_)
  · obtain ⟨p, dx, a, b, rfl, _⟩ := h
    rfl
  · obtain ⟨p, dx, a, b, rfl, hp, q⟩ := h
    refine ⟨_, pss_cons (ps_fld (pv 0) (pv 1) rfl) (pss_one (ps_fld (pv 0) (pv 2) rfl)), ?_⟩
    refine ⟨_, rfl, _, rfl, p, C, dx, [], rfl, hp, T.cl, T.nS, (by show 0 < 1000; decide), _, rfl, _, rfl, p, C, dx, _, rfl, upd_same, T.cl, T.nH, (by show 1 < 1000; decide), ?_⟩
    refine q _ upd_same fun c o e n => ?_
    rw [upd_ne n, upd_ne n]
    exact e
/-- Line(a, b) -/
def tMkL (C : Addr) (t : TA) : TE := fun σ H Q => t σ H fun vs H1 => ∃ a b, vs = [.int a, .int b] ∧ ∀ x H', H1 x = none → IsL C H' x a b → Same H1 H' → Q (.ref x) H'
end
/-- the class Line as it is made -/
structure LMk (P : Program) (w : World) (K : PySem.W.Frag) (mg : Str → Option Value) (base : Heap) (C : Addr) : Prop where
  T : LTxt K mg C
  made : ∃ f fd, Mk K C f ∧ FnOk P w K mg base CX0 1 f fd ["self", "slope", "height"] (spLInit C) ∧ Binds K fd ["self", "slope", "height"] []
theorem pe_mkL {X : Cx} {C : Addr} {j : Nat} {e : Expr} {es : List Expr} {t : TA} {p pos : Pos} (M : LMk X.prog X.w X.K X.mg X.base C) (hr : Room j X.A) (hj : 2 ≤ j) (hg : Gl X "Line") (ha : PA X (e :: es) t)
    (he : starEach (e :: es) X.env = (false, eval e X.env) :: starEach es X.env := by rfl) (hpl : (backTo pos (starEach es X.env)).any (·.1) = false := by rfl) : PE X (.Call (.Name "Line" p) (e :: es) [] pos) (tMkL C t) := by
  obtain ⟨f, fd, mk, F, hb⟩ := M.made
  refine ⟨fun pins s σ H Q I h => ?_⟩
  refine wpAny_Call_Name_kw (ld_glob I hg M.T.mgC ?_ (by decide))
  refine PySem.W.callWith_K (h₀ := X.base) I.ok.mod.kin mk.kp (thn (ha.run pos pins s σ H _ I h) fun us s1 ⟨vs, H1, I1, r, q⟩ => ⟨I1.kIn, ?_⟩) he hpl
  obtain ⟨a, b, rfl, q⟩ := q
  refine run_make mk F (hr.mono hj) hb .nil pass0 I1 r fun x dx nx ndx nex => ?_
  refine ⟨x, dx, a, b, rfl, upd_same, fun H' hx hs => ⟨rfl, q x H' nx ⟨dx, hx⟩ fun c o e => ?_⟩⟩
  have ncx : c ≠ x := ne_of_none e nx
  refine hs c o ?_ ncx
  rw [upd_ne ncx, upd_ne (ne_of_none e ndx)]
  exact e
section
variable {P : Program} {w : World} {K : PySem.W.Frag} {mg : Str → Option Value} {base : Heap}
theorem tyL {C : Addr} (T : LTxt K mg C) {H : Hp} {x dx : Addr} {fs : List (Str × V)} (hx : H x = some (.ins C dx fs)) : TyX K H (.ref x) (.ref C) := .base (.ins hx T.cl T.isi.ca T.isi.cn T.isi.ct T.isi.cm)
theorem scLEq : FnScope ["self", "other"] ["self", "other"] (defScope sLEq) := ⟨rfl, rfl, rfl, by decide +kernel, rfl, by decide +kernel, by decide +kernel⟩
theorem ok_leq {f C : Addr} {fd : FuncData} (F : Fun K "__eq__" "Line.__eq__" sLEq f fd) (T : LTxt K mg C) : FnOk P w K mg base CX0 1 f fd ["self", "other"] (spLEq K C) := by
  refine F.ok scLEq (fun vs H Q E h => ?_) (fun cdv A outer s H vs Q E hr h => ?_)
  · obtain ⟨x, a, b, y, rfl, _⟩ := h; rfl
  · obtain ⟨x, a, b, y, rfl, ⟨dx, hx⟩, h⟩ := h
    refine ⟨_, pss_one (ps_ret (pe_and (pe_callB call_isi (by rfl) T.zIsi bt_isi (pa_cons (pv 1) (pa_cons (pe_glob (v := .ref C) (by rfl) T.mgC rfl) pa_nil)))
      (pe_and (pe_cmpR op_eq (pe_fld (pv 0) rfl) (pe_fld (pv 1) rfl) (nomark _)) (pe_one (pe_cmpR op_eq (pe_fld (pv 0) rfl) (pe_fld (pv 1) rfl) (nomark _)))))), ?_⟩
    rcases h with ⟨u, c, d, rfl, ⟨du, hu⟩, q⟩ | ⟨ty, q⟩
    · refine ⟨_, rfl, .ref u, .ref C, _, _, true, rfl, .own C, tyL T hu, T.kLL, true, rfl, iteT ?_⟩
      refine ⟨_, rfl, x, C, dx, _, _, rfl, hx, T.cl, T.nS, lFl_slope a b, _, rfl, u, C, du, _, _, rfl, hu, T.cl, T.nS, lFl_slope c d, rfl, _, rfl, ite2 (fun e => ?_) (fun e => ?_)⟩
      · have e1 : a = c := by have := of_decide_eq_true e; cases this; rfl
        refine ⟨_, rfl, x, C, dx, _, _, rfl, hx, T.cl, T.nH, lFl_height a b, _, rfl, u, C, du, _, _, rfl, hu, T.cl, T.nH, lFl_height c d, rfl, ?_⟩
        have : decide (V.int b = V.int d) = decide (a = c ∧ b = d) := by
          by_cases h : b = d <;> simp [h, e1]
        rw [this]; exact q
      · have e1 : ¬ a = c := fun z => e (decide_eq_true (by rw [z]))
        have : decide (a = c ∧ b = d) = false := by
          simp [e1]
        rw [this] at q; exact q
    · exact ⟨_, rfl, y, .ref C, _, _, false, rfl, .own C, ty, T.kTL, false, rfl, iteF q⟩
end
/-! ### the texts of integers and lines -/
theorem str_extC {a b : Str} (h : a.cps.toList = b.cps.toList) : a = b := by
  cases a; cases b
  simp only at h
  rw [Array.toList_inj.mp h]
theorem cps_app (a b : Str) : (a ++ b).cps.toList = a.cps.toList ++ b.cps.toList := by
  show (a.cps ++ b.cps).toList = _
  rw [Array.toList_append]
theorem ofS_app (a b : String) : Str.ofString (a ++ b) = Str.ofString a ++ Str.ofString b := str_extC (by
  rw [cps_app, Str.ofString_eq_toList, Str.ofString_eq_toList, Str.ofString_eq_toList]
  simp)
theorem dT_neg {n : Int} (h : n < 0) : dT n = ("-" : Str) ++ dT (-n) := by
  cases n with
  | ofNat m => exact absurd h (Int.not_lt.mpr (Int.natCast_nonneg m))
  | negSucc m =>
    show Str.ofString (toString (Int.negSucc m)) = Str.ofString "-" ++ Str.ofString (toString (-(Int.negSucc m)))
    rw [← ofS_app]
    rfl
theorem dTl {n : Int} {k : Nat} (hk : 0 < k) (h : n.natAbs < 10 ^ k) : (dT n).length ≤ k + 1 := by
  unfold dT
  rw [PySem.ofString_length]
  exact int_text_length_le10 hk h
theorem bt_divmod : bootBuiltins ("divmod" : Str) = some (.builtin "divmod") := by decide +kernel
theorem dT_log {n : Int} (h : n.natAbs < 10 ^ 100) : n.natAbs.log2 < 1920 := PySem.Flt.log2_lt_of (by decide) (Nat.lt_of_lt_of_le h (by decide))
def absI (n : Int) : Int := if n < 0 then -n else n
theorem absI_nat (n : Int) : (absI n).natAbs = n.natAbs := by unfold absI; split <;> omega
theorem absI_nn (n : Int) : 0 ≤ absI n := by unfold absI; split <;> omega
def riseT (a : Int) : Str := if a = 1 then "x" else if a = -1 then "-x" else dT a ++ (" x" : Str)
def lineT (a b : Int) : Str := if a = 0 then dT b else if b = 0 then riseT a else (riseT a ++ (if 0 < b then (" + " : Str) else (" - " : Str))) ++ dT (absI b)
structure TTxt (mg : Str → Option Value) : Prop where
  zAbs : mg "abs" = none
  zStr : mg "str" = none
  zDiv : mg "divmod" = none
  blk : ∃ t, mg "_BLOCK" = some (.int (10 ^ 60) t)
  bkd : ∃ t, mg "_BLOCK_DIGITS" = some (.int 60 t)
def spDec : Sp := fun vs H Q _ => ∃ n : Int, vs = [.int n] ∧ n.natAbs < 10 ^ 100 ∧ ∀ H', Same H H' → Q (.str (dT n)) H'
def spRise : Sp := fun vs H Q _ => ∃ n : Int, vs = [.int n] ∧ n.natAbs < 10 ^ 90 ∧ ∀ H', Same H H' → Q (.str (riseT n)) H'
def spText (C : Addr) : Sp := fun vs H Q _ => ∃ (x : Addr) (a b : Int), vs = [.ref x] ∧ IsL C H x a b ∧ a.natAbs < 10 ^ 90 ∧ b.natAbs < 10 ^ 90 ∧ ∀ H', Same H H' → Q (.str (lineT a b)) H'
def spLTx : Sp := fun vs H Q _ => ∃ (x : Addr) (a b : Int), vs = [.ref x] ∧ H x = some (.tup [.int a, .int b]) ∧ a.natAbs < 10 ^ 90 ∧ b.natAbs < 10 ^ 90 ∧ Q (.str (lineT a b)) H
theorem join1 (y : Str) : Txt.join ("" : Str) [y] = y := by with_unfolding_all rfl
theorem szk {n : Nat} (h : n ≤ 1000) : n ≤ sizeLine := Nat.le_trans h (by decide)
section
variable {P : Program} {w : World} {K : PySem.W.Frag} {mg : Str → Option Value} {base : Heap}
theorem scDe : FnScope ["number", "rest", "blocks", "block", "digits"] ["number"] (defScope sDec) := ⟨rfl, rfl, rfl, by decide +kernel, rfl, by decide +kernel, by decide +kernel⟩
theorem joinE (ws : List Str) (z : Str) : Txt.join ("" : Str) (z :: ws) = z ++ Txt.join ("" : Str) ws := by
  cases ws with
  | nil => show Txt.join ("" : Str) [z] = z ++ Txt.join ("" : Str) []; rw [join1]; exact (str_ext (by rw [TL.tl_append]; show tl z ++ [] = tl z; rw [List.append_nil])).symm
  | cons a r =>
    rw [TL.join_eq, TL.join_eq]
    show z ++ ("" : Str) ++ Str.join ("" : Str) (a :: r) = z ++ Str.join ("" : Str) (a :: r)
    have : z ++ ("" : Str) = z := str_ext (by rw [TL.tl_append]; show tl z ++ [] = tl z; rw [List.append_nil])
    rw [this]
theorem ok_dec {f : Addr} {fd : FuncData} (F : Fun K "decimal" "decimal" sDec f fd) (T : TTxt mg) : FnOk P w K mg base CX0 1 f fd ["number"] spDec := by
  obtain ⟨tk, hblk⟩ := T.blk
  obtain ⟨td, hbd⟩ := T.bkd
  refine F.ok scDe (fun vs H Q E h => ?_) (fun cdv A outer s H vs Q E hr h => ?_)
  · obtain ⟨n, rfl, _⟩ := h; rfl
  · obtain ⟨n, rfl, hb, q⟩ := h
    have nd := scDe.nd
    refine ⟨_, pss_cons (ps_set (i := 1) nd rfl (.inl rfl) (pe_callB call_abs (by rfl) T.zAbs boot_absO (pa_cons (pv 0) pa_nil)))
      (pss_cons (ps_set (i := 2) nd rfl (.inl rfl) (pe_lst pa_nil))
      (pss_cons (ps_while PassesOwn.never (pt_cmpR op_ge (pv 1) (pe_glob (v := .int (10 ^ 60)) (by rfl) hblk ⟨_, rfl⟩) (nomark _))
        (pss_cons (ps_asg (pe_callB call_divmodW (by rfl) T.zDiv bt_divmod (pa_cons (pv 1) (pa_cons (pe_glob (v := .int (10 ^ 60)) (by rfl) hblk ⟨_, rfl⟩) pa_nil))) (pg_tup rfl (pgs_cons (pg_name (i := 1) nd rfl (.inl rfl)) (pgs_cons (pg_name (i := 3) nd rfl (.inl rfl)) pgs_nil))))
        (pss_one (ps_expr (pe_bm PySem.F.plainAttrs_list PySem.F.slot_list_append PySem.F.type_list_append mt_append (pv 2) (pa_cons (pe_m1 PySem.F.slot_str_zfill PySem.F.type_str_zfill mt_zfill (pe_callTy call_str_int (by rfl) T.zStr boot_strT (pa_cons (pv 3) pa_nil)) (pe_glob (v := .int 60) (by rfl) hbd ⟨_, rfl⟩)) pa_nil))))))
      (pss_cons (ps_expr (pe_bm PySem.F.plainAttrs_list PySem.F.slot_list_append PySem.F.type_list_append mt_append (pv 2) (pa_cons (pe_callTy call_str_int (by rfl) T.zStr boot_strT (pa_cons (pv 1) pa_nil)) pa_nil)))
      (pss_cons (ps_set (i := 4) nd rfl (.inl rfl) (pe_join pe_str (pe_revL (pv 2))))
      (pss_one (ps_ret (pe_ifExp (pt_cmpR op_ge (pv 0) pe_int (nomark _)) (pv 4) (pe_op op_add_str pe_str (pv 4))))))))), ?_⟩
    refine ⟨_, rfl, n, rfl, by show 0 ≤ sizeLine; decide, fun l hl => ?_⟩
    have ea : (if n < 0 then -n else n) = absI n := rfl
    rw [ea]
    have hA := absI_nn n
    have hAn := absI_nat n
    have hA2 : absI n < 10 ^ 100 := by omega
    have hl1 : (upd H l (.lst [])) l = some (.lst []) := upd_same
    have S1 : Same H (upd H l (.lst [])) := same_lay hl
    have nlH : ∀ b, H b ≠ none → b ≠ l := fun b hb e => hb (by rw [e]; exact hl)
    generalize upd H l (.lst []) = H1 at hl1 S1
    let W : Nat → L2.St → Hp → Prop := fun m σ G => ∃ (r : Int) (ws : List Str) (s3 : Option V), σ = [some (.int n), some (.int r), some (.ref l), s3, none] ∧ G l = some (.lst (ws.map V.str)) ∧ Fre l H1 G ∧ 0 ≤ r ∧
      ((m = 1 ∧ ws = [] ∧ r = absI n ∧ 10 ^ 60 ≤ r) ∨ (m = 0 ∧ r < 10 ^ 60 ∧ ((ws = [] ∧ r = absI n) ∨ ∃ z : Str, ws = [z] ∧ z.length ≤ 60 ∧ dT (absI n) = dT r ++ z)))
    refine ⟨W, ?_, ?_⟩
    · by_cases hc : 10 ^ 60 ≤ absI n
      · exact ⟨1, absI n, [], none, rfl, hl1, Fre.refl _ _, hA, .inl ⟨rfl, rfl, rfl, hc⟩⟩
      · exact ⟨0, absI n, [], none, rfl, hl1, Fre.refl _ _, hA, .inr ⟨rfl, by omega, .inl ⟨rfl, rfl⟩⟩⟩
    · rintro m σ G ⟨r, ws, s3, rfl, hG, hF, hr0, hm⟩
      refine ⟨_, rfl, _, _, rfl, rfl, _, rfl, ?_⟩
      rcases hm with ⟨rfl, rfl, hr1, hc⟩ | ⟨rfl, hc, hw⟩
      · refine ite2 (fun _ => ⟨fun σ' H' => ∃ m', m' < 1 ∧ W m' σ' H', fun _ _ z => z, ?_⟩) (fun z => absurd (decide_eq_true (show 10 ^ 60 ≤ r from hc)) z)
        refine ⟨_, rfl, _, _, rfl, ⟨by show (0 : Int) < 10 ^ 60; decide, PyProof.noPylong_of_log2 (by decide +kernel)⟩, fun t ht => ?_⟩
        have ht2 : (upd G t (.tup [.int (r / 10 ^ 60), .int (r % 10 ^ 60)])) t = some (.tup [.int (r / 10 ^ 60), .int (r % 10 ^ 60)]) := upd_same
        have nlt : l ≠ t := ne_of_none hG ht
        have hG2 : (upd G t (.tup [.int (r / 10 ^ 60), .int (r % 10 ^ 60)])) l = some (.lst []) := by rw [upd_ne nlt]; exact hG
        have hF2 : Fre l H1 (upd G t (.tup [.int (r / 10 ^ 60), .int (r % 10 ^ 60)])) := fun b o e ne => by
          have := hF b o e ne
          rw [upd_ne (ne_of_none this ht)]; exact this
        generalize upd G t (.tup [.int (r / 10 ^ 60), .int (r % 10 ^ 60)]) = G2 at ht2 hG2 hF2
        have bm := mod_bd r (10 ^ 60) (by decide)
        have bd0 : 0 ≤ r / 10 ^ 60 := Int.ediv_nonneg hr0 (by decide)
        have bd1 : r / 10 ^ 60 < 10 ^ 60 := by omega
        refine ⟨t, _, rfl, .inl (.inl ht2), rfl, _, _, rfl, _, _, rfl, rfl, ?_⟩
        refine ⟨_, rfl, .inl ⟨rfl, _, .inl (.inl hG2)⟩, _, rfl, _, rfl, dT_log (by omega), ⟨_, rfl⟩, _, 60, rfl, rfl, by decide +kernel, l, _, _, rfl, rfl, hG2, by show 0 < sizeLine; decide, ?_⟩
        refine ⟨0, by decide, r / 10 ^ 60, [Txt.zfill (dT (r % 10 ^ 60)) 60], some (.int (r % 10 ^ 60)), rfl, upd_same, hF2.trans Fre.put, bd0, .inr ⟨rfl, bd1, .inr ⟨_, rfl, ?_, ?_⟩⟩⟩
        · rw [TL.len_tl, zfill_num bm.1 bm.2]
          have := padL_num 60 (r % 10 ^ 60).toNat (by decide) (by omega)
          rw [this.2, List.length_append, List.length_replicate]
          omega
        · rw [← hr1]
          exact dT_blocks hc
      · refine ite2 (fun z => absurd (of_decide_eq_true z) (show ¬ (10 ^ 60 ≤ r) by omega)) (fun _ => ?_)
        have lr : r.natAbs < 10 ^ 60 := by omega
        have hwl : ws.length ≤ 1 := by rcases hw with ⟨rfl, _⟩ | ⟨z, rfl, _⟩ <;> simp
        refine ⟨_, rfl, .inl ⟨rfl, _, .inl (.inl hG)⟩, _, rfl, r, rfl, dT_log (Nat.lt_of_lt_of_le lr (by decide)), l, _, _, rfl, rfl, hG, by rw [List.length_map]; exact Nat.lt_of_le_of_lt hwl (by decide), ?_⟩
        have hl2 : (upd G l (.lst (ws.map V.str ++ [V.str (Str.ofString (toString r))]))) l = some (.lst ((ws ++ [dT r]).map V.str)) := by rw [upd_same, List.map_append]; rfl
        have hF3 : Fre l H1 (upd G l (.lst (ws.map V.str ++ [V.str (Str.ofString (toString r))]))) := hF.trans Fre.put
        generalize upd G l (.lst (ws.map V.str ++ [V.str (Str.ofString (toString r))])) = G2 at hl2 hF3
        refine ⟨⟨_, rfl⟩, _, rfl, l, _, rfl, .inl (.inl hl2), fun p hp => ?_⟩
        have hr2 : (upd G2 p (.lst ((ws ++ [dT r]).map V.str).reverse)) p = some (.lst ((ws ++ [dT r]).reverse.map V.str)) := by rw [upd_same, List.map_reverse]
        have hlen : (dT r).length ≤ 61 := dTl (by decide) lr
        have SF : Same H (upd G2 p (.lst ((ws ++ [dT r]).map V.str).reverse)) := fun b o e => by
          have e1 := hF3 b o (S1 b o e) (ne_of_none e hl)
          rw [upd_ne (ne_of_none e1 hp)]
          exact e1
        generalize upd G2 p (.lst ((ws ++ [dT r]).map V.str).reverse) = G3 at hr2 SF
        have txt : Txt.join ("" : Str) (ws ++ [dT r]).reverse = dT (absI n) := by
          rw [List.reverse_append]
          show Txt.join ("" : Str) (dT r :: ws.reverse) = _
          rcases hw with ⟨rfl, e⟩ | ⟨z, rfl, _, e⟩
          · rw [← e]; exact join1 _
          · rw [joinE, List.reverse_singleton, join1, e]
        refine ⟨_, p, (ws ++ [dT r]).reverse, rfl, rfl, .inl (.inl (.inl hr2)), ?_, ?_⟩
        · have e0 : (Str.ofString "").length = 0 := by rfl
          rcases hw with ⟨rfl, _⟩ | ⟨z, rfl, hz, _⟩
          · simp only [List.nil_append, List.reverse_singleton, List.map, List.sum_cons, List.sum_nil, List.length, e0]
            omega
          · simp only [List.singleton_append, List.reverse_cons, List.reverse_nil, List.nil_append, List.map, List.sum_cons, List.sum_nil, List.length, e0]
            omega
        rw [txt]
        refine ⟨_, rfl, _, _, rfl, rfl, _, rfl, ite2 (fun e => ?_) (fun e => ?_)⟩
        · have h0 : 0 ≤ n := of_decide_eq_true e
          have e1 : absI n = n := by unfold absI; rw [if_neg (by omega)]
          have q1 := q _ SF
          rw [← e1] at q1
          exact ⟨_, rfl, q1⟩
        · have h0 : n < 0 := by
            have : ¬ (0 ≤ n) := fun z => e (decide_eq_true z)
            omega
          have e1 : absI n = -n := by unfold absI; rw [if_pos h0]
          have q1 := q _ SF
          rw [dT_neg h0, ← e1] at q1
          have l2 : (dT (absI n)).length ≤ 101 := dTl (by decide) (by rw [absI_nat]; exact hb)
          exact ⟨_, rfl, _, _, rfl, rfl, szk (by show 1 + (dT (absI n)).length ≤ 1000; omega), q1⟩
theorem scRi : FnScope ["slope"] ["slope"] (defScope sRise) := ⟨rfl, rfl, rfl, by decide +kernel, rfl, by decide +kernel, by decide +kernel⟩
theorem ok_rise {f : Addr} {fd : FuncData} (F : Fun K "_rising_text" "_rising_text" sRise f fd) (D : Cl P w K mg base 1 "decimal" ["number"] spDec) : FnOk P w K mg base CX0 2 f fd ["slope"] spRise := by
  refine F.ok scRi (fun vs H Q E h => ?_) (fun cdv A outer s H vs Q E hr h => ?_)
  · obtain ⟨n, rfl, _⟩ := h; rfl
  · obtain ⟨n, rfl, hb, q⟩ := h
    refine ⟨_, pss_cons (ps_if (pt_cmpR op_eq (pv 0) pe_int (nomark _)) (pss_one (ps_ret pe_str)) pss_nil)
      (pss_cons (ps_if (pt_cmpR op_eq (pv 0) (pe_un un_neg pe_int) (nomark _)) (pss_one (ps_ret pe_str)) pss_nil)
      (pss_one (ps_ret (pe_joined (.cons (pe_fmt (pe_cl D hr (by decide) (by rfl) (pa_cons (pv 0) pa_nil))) (.cons pe_str .nil)))))), ?_⟩
    refine ⟨_, rfl, rfl, _, rfl, ite2 (fun e => ?_) (fun e => ?_)⟩
    · have e1 : n = 1 := V.int.inj (of_decide_eq_true e)
      have q1 := q H fun _ _ z => z
      unfold riseT at q1
      rw [if_pos e1] at q1
      exact q1
    · have e1 : ¬ n = 1 := fun z => e (decide_eq_true (by rw [z]))
      refine ⟨_, rfl, 1, rfl, rfl, _, rfl, ite2 (fun e2 => ?_) (fun e2 => ?_)⟩
      · have e3 : n = -1 := V.int.inj (of_decide_eq_true e2)
        have q1 := q H fun _ _ z => z
        unfold riseT at q1
        rw [if_neg e1, if_pos e3] at q1
        exact q1
      · have e3 : ¬ n = -1 := fun z => e2 (decide_eq_true (by rw [z]))
        have hlen : (dT n).length ≤ 91 := dTl (by decide) hb
        refine ⟨_, rfl, n, rfl, Nat.lt_of_lt_of_le hb (by decide), fun H1 S1 => ?_⟩
        refine .inl ⟨_, rfl, szk (by omega), _, rfl, szk (by rw [emp_app]; omega), _, rfl, szk ?_, ?_⟩
        · rw [emp_app, len_app]
          show (dT n).length + 2 ≤ 1000
          omega
        · have q1 := q H1 S1
          unfold riseT at q1
          rw [if_neg e1, if_neg e3] at q1
          rw [emp_app]
          exact q1
theorem rise_len {a : Int} (h : a.natAbs < 10 ^ 90) : (riseT a).length ≤ 100 := by
  unfold riseT
  split
  · decide
  · split
    · decide
    · rw [len_app]
      have := dTl (k := 90) (by decide) h
      show (dT a).length + 2 ≤ 100
      omega
theorem scTe : FnScope ["self", "rising", "sign"] ["self"] (defScope sLText) := ⟨rfl, rfl, rfl, by decide +kernel, rfl, by decide +kernel, by decide +kernel⟩
theorem ok_text {f C : Addr} {fd : FuncData} (F : Fun K "text" "Line.text" sLText f fd) (T : LTxt K mg C) (TT : TTxt mg) (D : Cl P w K mg base 1 "decimal" ["number"] spDec) (R : Cl P w K mg base 2 "_rising_text" ["slope"] spRise) : FnOk P w K mg base CX0 3 f fd ["self"] (spText C) := by
  refine F.ok scTe (fun vs H Q E h => ?_) (fun cdv A outer s H vs Q E hr h => ?_)
  · obtain ⟨x, a, b, rfl, _⟩ := h; rfl
  · obtain ⟨x, a, b, rfl, hx, ha, hb, q⟩ := h
    have nd := scTe.nd
    refine ⟨_, pss_cons (ps_if (pt_cmpR op_eq (pe_fld (pv 0) rfl) pe_int (nomark _)) (pss_one (ps_ret (pe_cl D hr (by decide) (by rfl) (pa_cons (pe_fld (pv 0) rfl) pa_nil)))) pss_nil)
      (pss_cons (ps_set (i := 1) nd rfl (.inl rfl) (pe_cl R hr (by decide) (by rfl) (pa_cons (pe_fld (pv 0) rfl) pa_nil)))
      (pss_cons (ps_if (pt_cmpR op_eq (pe_fld (pv 0) rfl) pe_int (nomark _)) (pss_one (ps_ret (pv 1))) pss_nil)
      (pss_cons (ps_set (i := 2) nd rfl (.inl rfl) (pe_ifExp (pt_cmpR op_gt (pe_fld (pv 0) rfl) pe_int (nomark _)) pe_str pe_str))
      (pss_one (ps_ret (pe_joined (.cons (pe_fmt (pv 1)) (.cons pe_str (.cons (pe_fmt (pv 2)) (.cons pe_str (.cons (pe_fmt (pe_cl D hr (by decide) (by rfl) (pa_cons (pe_callB call_abs (by rfl) TT.zAbs boot_absO (pa_cons (pe_fld (pv 0) rfl) pa_nil)) pa_nil))) .nil))))))))))), ?_⟩
    obtain ⟨dx, hx'⟩ := hx
    have p60 : ∀ {z : Int}, z.natAbs < 10 ^ 90 → z.natAbs < 10 ^ 100 := fun h => Nat.lt_of_lt_of_le h (by decide)
    refine ⟨_, rfl, x, C, dx, _, _, rfl, hx', T.cl, T.nS, lFl_slope a b, rfl, _, rfl, ite2 (fun e => ?_) (fun e => ?_)⟩
    · have e1 : a = 0 := V.int.inj (of_decide_eq_true e)
      refine ⟨_, rfl, x, C, dx, _, _, rfl, hx', T.cl, T.nH, lFl_height a b, b, rfl, p60 hb, fun H1 S1 => ?_⟩
      have q1 := q H1 S1
      unfold lineT at q1
      rw [if_pos e1] at q1
      exact q1
    · have e1 : ¬ a = 0 := fun z => e (decide_eq_true (by rw [z]))
      refine ⟨_, rfl, x, C, dx, _, _, rfl, hx', T.cl, T.nS, lFl_slope a b, a, rfl, ha, fun H1 S1 => ?_⟩
      have hx1 := S1 _ _ hx'
      refine ⟨_, rfl, x, C, dx, _, _, rfl, hx1, T.cl, T.nH, lFl_height a b, rfl, _, rfl, ite2 (fun e2 => ?_) (fun e2 => ?_)⟩
      · have e3 : b = 0 := V.int.inj (of_decide_eq_true e2)
        have q1 := q H1 S1
        unfold lineT at q1
        rw [if_neg e1, if_pos e3] at q1
        exact ⟨_, rfl, q1⟩
      · have e3 : ¬ b = 0 := fun z => e2 (decide_eq_true (by rw [z]))
        have hR := rise_len ha
        have hD : (dT (absI b)).length ≤ 91 := dTl (by decide) (by rw [absI_nat]; exact hb)
        have fin : ∀ (sg sg2 : Str), sg.length = 1 → ((" " : Str) ++ sg) ++ (" " : Str) = sg2 → (if 0 < b then (" + " : Str) else (" - " : Str)) = sg2 → ∀ H2, Same H H2 → 
            (((((Str.empty ++ riseT a) ++ (" " : Str)) ++ sg) ++ (" " : Str)) ++ dT (absI b)) = lineT a b ∧ ((((Str.empty ++ riseT a) ++ (" " : Str)) ++ sg) ++ (" " : Str)).length ≤ 110 := fun sg sg2 h1 h2 h3 H2 S2 => by
          constructor
          · unfold lineT
            rw [if_neg e1, if_neg e3, h3, ← h2, emp_app]
            simp only [app_assoc]
          · rw [emp_app, len_app, len_app, len_app, h1]
            show (riseT a).length + 1 + 1 + 1 ≤ 110
            omega
        have tail : ∀ (sg sg2 : Str), sg.length = 1 → ((" " : Str) ++ sg) ++ (" " : Str) = sg2 → (if 0 < b then (" + " : Str) else (" - " : Str)) = sg2 → ∀ H2, Same H H2 → ((((((Str.empty ++ riseT a) ++ (" " : Str)) ++ sg) ++ (" " : Str)) ++ dT (absI b)).length ≤ sizeLine ∧ Q (.str (((((Str.empty ++ riseT a) ++ (" " : Str)) ++ sg) ++ (" " : Str)) ++ dT (absI b))) H2) := fun sg sg2 h1 h2 h3 H2 S2 => by
          have L := fin sg sg2 h1 h2 h3 H2 S2
          refine ⟨szk ?_, by rw [L.1]; exact q H2 S2⟩
          rw [len_app]
          have := L.2
          omega
        have pre : ∀ (sg : Str), sg.length = 1 → (Str.empty ++ riseT a).length ≤ 1000 ∧ ((Str.empty ++ riseT a) ++ (" " : Str)).length ≤ 1000 ∧ (((Str.empty ++ riseT a) ++ (" " : Str)) ++ sg).length ≤ 1000 ∧ ((((Str.empty ++ riseT a) ++ (" " : Str)) ++ sg) ++ (" " : Str)).length ≤ 1000 := fun sg h1 => by
          have e0 : (Str.empty ++ riseT a).length = (riseT a).length := by rw [emp_app]
          have e1 : ((Str.empty ++ riseT a) ++ (" " : Str)).length = (riseT a).length + 1 := by rw [len_app, e0]; rfl
          have e2 : (((Str.empty ++ riseT a) ++ (" " : Str)) ++ sg).length = (riseT a).length + 2 := by rw [len_app, e1, h1]
          have e3 : ((((Str.empty ++ riseT a) ++ (" " : Str)) ++ sg) ++ (" " : Str)).length = (riseT a).length + 3 := by rw [len_app, e2]; rfl
          rw [e0, e1, e2, e3]
          omega
        have dB : (absI b).natAbs < 10 ^ 100 := by rw [absI_nat]; exact p60 hb
        refine ⟨_, rfl, x, C, dx, _, _, rfl, hx1, T.cl, T.nH, lFl_height a b, _, _, rfl, rfl, _, rfl, ite2 (fun e4 => ?_) (fun e4 => ?_)⟩
        · have hb0 : 0 < b := of_decide_eq_true e4
          obtain ⟨l1, l2, l3, l4⟩ := pre ("+" : Str) (by decide)
          refine ⟨_, rfl, .inl ⟨_, rfl, szk (by omega), _, rfl, szk l1, _, rfl, szk l2, _, rfl, .inl ⟨_, rfl, by decide, _, rfl, szk l3, _, rfl, szk l4, _, rfl, x, C, dx, _, _, rfl, hx1, T.cl, T.nH, lFl_height a b, b, rfl, absI b, rfl, dB, fun H2 S2 => .inl ⟨_, rfl, szk (by omega), _, rfl, ?_⟩⟩⟩⟩
          exact tail ("+" : Str) (" + " : Str) (by decide) (by decide) (if_pos hb0) H2 (S1.trans S2)
        · have hb0 : ¬ 0 < b := fun z => e4 (decide_eq_true z)
          obtain ⟨l1, l2, l3, l4⟩ := pre ("-" : Str) (by decide)
          refine ⟨_, rfl, .inl ⟨_, rfl, szk (by omega), _, rfl, szk l1, _, rfl, szk l2, _, rfl, .inl ⟨_, rfl, by decide, _, rfl, szk l3, _, rfl, szk l4, _, rfl, x, C, dx, _, _, rfl, hx1, T.cl, T.nH, lFl_height a b, b, rfl, absI b, rfl, dB, fun H2 S2 => .inl ⟨_, rfl, szk (by omega), _, rfl, ?_⟩⟩⟩⟩
          exact tail ("-" : Str) (" - " : Str) (by decide) (by decide) (if_neg hb0) H2 (S1.trans S2)
end
end OR

namespace OR
open PySem PySem.Spec PyProof.Rows L2
open TL (tl numL)
/-! ### words, signs -/
def letters : Str := "abcdefghijklmnopqrstuvwxyz"
structure Word (s : Str) : Prop where
  pos : 1 ≤ s.length
  len : s.length ≤ 8
  az : ∀ c ∈ tl s, 97 ≤ c ∧ c ≤ 122
theorem az_in {c : Nat} (h0 : 97 ≤ c) (h1 : c ≤ 122) : c ∈ tl letters := by
  have e : tl letters = (List.range 26).map (· + 97) := by decide +kernel
  rw [e]
  exact List.mem_map.mpr ⟨c - 97, List.mem_range.mpr (by omega), by omega⟩
structure WTxt (K : PySem.W.Frag) (mg : Str → Option Value) (ts tw : Addr) : Prop where
  zIsi : mg "isinstance" = none
  zStr : mg "str" = none
  zLen : mg "len" = none
  zAll : mg "all" = none
  let_ : ∃ t, mg "_LETTERS" = some (.str letters t)
  most : ∃ t, mg "_MOST_LETTERS" = some (.int 8 t)
  gS : mg "SIGNS" = some (.ref ts)
  gW : mg "WAYS" = some (.ref tw)
  hS : ∀ H : Hp, SqT K H ts [.str ("<=" : Str), .str (">=" : Str), .str ("=" : Str)]
  hW : ∀ H : Hp, SqT K H tw [.str ("up" : Str), .str ("down" : Str)]
def spIsWord : Sp := fun vs H Q _ => ∃ s : Str, vs = [.str s] ∧ Word s ∧ ∀ H', Same H H' → Q (.bl true) H'
def spChkW : Sp := fun vs H Q _ => ∃ s : Str, vs = [.str s] ∧ Word s ∧ ∀ H', Same H H' → Q .non H'
def spChkTwo : Sp := fun vs H Q _ => ∃ s t : Str, vs = [.str s, .str t] ∧ Word s ∧ Word t ∧ s ≠ t ∧ ∀ H', Same H H' → Q .non H'
def isSign (s : Str) : Prop := s = "<=" ∨ s = ">=" ∨ s = "="
def isWay (s : Str) : Prop := s = "up" ∨ s = "down"
def spChkS (K : PySem.W.Frag) : Sp := fun vs H Q _ => ∃ (s : Str) (a : Addr) (xs : List Str), vs = [.str s, .ref a] ∧ SqT K H a (xs.map V.str) ∧ s ∈ xs ∧ Q .non H
theorem bt_all : bootBuiltins ("all" : Str) = some (.builtin "all") := by decide +kernel
theorem lc_str {x : Str} {g : TG} {tt : TT} {te : TE} {vs : List Nat} {σ : L2.St} {H1 : Hp} {D : Addr} {Qd : Hp → Prop} (Pv : Nat → Hp → Prop) (h0 : Pv 0 (upd H1 D (.lst [])))
    (hs : ∀ i c H, (tl x)[i]? = some c → Pv i H → g (.str ⟨#[c]⟩) (wipe σ vs) H fun σ2 H2 => wipe σ2 vs = wipe σ vs ∧ tt σ2 H2 fun b H3 =>
      if b = true then te σ2 H3 fun y H4 => ∃ acc, H4 D = some (.lst acc) ∧ acc.length < sizeLine ∧ Pv (i + 1) (upd H4 D (.lst (acc ++ [y]))) else Pv (i + 1) H3) (hd : ∀ H, Pv x.length H → Qd H) :
    ∃ W : Nat → Nat → Hp → Prop, (∃ m, W 0 m (upd H1 D (.lst []))) ∧ ∀ i m H, W i m H →
      ((Its x).stop i H ∧ Qd H) ∨ ((Its x).go i H ∧ ∃ Nx : Hp → Prop, (∀ H', Nx H' → ∃ m', m' < m ∧ W (i + 1) m' H') ∧ ∀ y H', (Its x).yld i H y H' → g y (wipe σ vs) H' fun σ2 H2 => wipe σ2 vs = wipe σ vs ∧ tt σ2 H2 fun b H3 =>
        if b = true then te σ2 H3 fun y H4 => ∃ acc, H4 D = some (.lst acc) ∧ acc.length < sizeLine ∧ Nx (upd H4 D (.lst (acc ++ [y]))) else Nx H3) := by
  have hl : x.length = x.cps.size := rfl
  refine ⟨fun i m H => m = x.length - i ∧ i ≤ x.length ∧ Pv i H, ⟨x.length, by simp, Nat.zero_le _, h0⟩, ?_⟩
  rintro i m H ⟨rfl, hi, p⟩
  by_cases hlt : i < x.length
  · refine .inr ⟨hlt, Pv (i + 1), fun H' p' => ⟨x.length - (i + 1), by omega, rfl, hlt, p'⟩, fun y H' hy => ?_⟩
    obtain ⟨e, c, hc, e2⟩ := hy
    subst e e2
    refine hs i c _ ?_ p
    show x.cps.toList[i]? = some c
    rw [Array.getElem?_toList]
    exact hc
  · have e : i = x.length := by omega
    subst e
    exact .inl ⟨Nat.le_refl _, hd H p⟩
section
variable {P : Program} {w : World} {K : PySem.W.Frag} {mg : Str → Option Value} {base : Heap} {ts tw : Addr}
theorem scIW : FnScope ["value", "letter"] ["value"] (defScope sIsWord) := ⟨rfl, rfl, rfl, by decide +kernel, rfl, by decide +kernel, by decide +kernel⟩
theorem ok_isword {f : Addr} {fd : FuncData} (F : Fun K "is_word" "is_word" sIsWord f fd) (T : WTxt K mg ts tw) : FnOk P w K mg base CX0 1 f fd ["value"] spIsWord := by
  obtain ⟨t1, hl⟩ := T.let_
  obtain ⟨t2, hm⟩ := T.most
  refine F.ok scIW (fun vs H Q E h => ?_) (fun cdv A outer s H vs Q E hr h => ?_)
  · obtain ⟨s, rfl, _⟩ := h
    rfl
  · obtain ⟨x, rfl, hw, q⟩ := h
    have nd := scIW.nd
    refine ⟨_, pss_cons (ps_if (PW.pt (pw_or (pt_not (pt_val (pe_callB call_isi (by rfl) T.zIsi bt_isi (pa_cons (pv 0) (pa_cons (pe_bltn (v := .ty "str") (by rfl) T.zStr boot_strT rfl) pa_nil)))))
          (pw_or1 (pt_not (pt_chain op_le op_le pe_int (pe_callB call_len_str (by rfl) T.zLen PySem.boot_len (pa_cons (pv 0) pa_nil)) (pe_glob (v := .int 8) (by rfl) hm ⟨_, rfl⟩)))))) (pss_one (ps_ret pe_bl)) pss_nil)
      (pss_one (ps_ret (pe_callB (cr_all rfl) (by rfl) T.zAll bt_all (pa_cons
        (pe_lc (own := [("letter", 1)]) (g := gName 1) (tt := tYes) rfl nd (pi_str (pv 0)) (blkOk_by (N := ["value", "letter"]) (sc := defScope sIsWord) (by decide +kernel))
          (fun _ _ _ _ _ => pg_name (i := 1) nd rfl (.inl rfl)) (fun _ _ _ _ _ => pts_nil) (fun _ _ _ _ _ => pe_cmpR op_in_sign (pv 1) (pe_glob (v := .str letters) (by rfl) hl ⟨_, rfl⟩) (by rfl))) pa_nil)))), ?_⟩
    have hp := hw.pos
    have hq := hw.len
    refine ⟨_, rfl, _, .ty "str", _, _, true, rfl, .ty "str", .base (.str _), kit_ty (by decide +kernel), _, rfl, iteF ?_⟩
    refine ⟨_, rfl, x, rfl, sz1 (by omega), _, _, rfl, rfl, _, rfl, ite2 (fun _ => ?_) (fun z => absurd (decide_eq_true (show (1 : Int) ≤ (x.length : Nat) by omega)) z)⟩
    refine ⟨_, _, rfl, rfl, _, rfl, ite2 (fun z => ?_) (fun _ => ?_)⟩
    · exfalso
      have h8 : decide (((x.length : Nat) : Int) ≤ 8) = true := decide_eq_true (by omega)
      rw [h8] at z
      exact absurd z (by decide)
    · refine ⟨_, rfl, x, rfl, fun D hD => lc_str (x := x) (fun i G => G D = some (.lst ((List.replicate i true).map V.bl)) ∧ Same H G) ⟨upd_same, same_lay hD⟩ ?_ ?_⟩
      · rintro i c G hc ⟨hd, s⟩
        have hz := hw.az c (List.mem_of_getElem? hc)
        have hi : i < x.length := by
          have := (List.getElem?_eq_some_iff.mp hc).1
          rw [TL.len_tl]
          exact this
        refine ⟨rfl, yesT ?_⟩
        refine ⟨_, rfl, c, letters, rfl, rfl, _, hd, small1000 (by rw [List.length_map, List.length_replicate]; omega), ?_, same_upd s hD⟩
        rw [upd_same, List.replicate_succ', List.map_append, show decide (c ∈ letters.cps.toList) = true from decide_eq_true (az_in hz.1 hz.2)]
        rfl
      · rintro G ⟨hd, s⟩
        refine ⟨D, _, rfl, .inl (.inl hd), ?_⟩
        have e : (List.replicate x.length true).all id = true := by
          rw [List.all_eq_true]
          intro b hb
          exact (List.mem_replicate.mp hb).2
        rw [e]
        exact q G s
theorem scKW : FnScope ["value"] ["value"] (defScope sChkW) := ⟨rfl, rfl, rfl, by decide +kernel, rfl, by decide +kernel, by decide +kernel⟩
theorem ok_chkw {f : Addr} {fd : FuncData} (F : Fun K "check_word" "check_word" sChkW f fd) (IW : Cl P w K mg base 1 "is_word" ["value"] spIsWord) : FnOk P w K mg base CX0 2 f fd ["value"] spChkW := by
  refine F.ok scKW (fun vs H Q E h => ?_) (fun cdv A outer s H vs Q E hr h => ?_)
  · obtain ⟨s, rfl, _⟩ := h
    rfl
  · obtain ⟨x, rfl, hw, q⟩ := h
    refine ⟨_, pss_one (ps_if (pt_not (pt_val (pe_cl IW hr (by decide) (by rfl) (pa_cons (pv 0) pa_nil)))) (pss_one ps_never) pss_nil), ?_⟩
    exact ⟨_, rfl, x, rfl, hw, fun H' s => ⟨_, rfl, iteF (q H' s)⟩⟩
theorem scKT : FnScope ["function", "other"] ["function", "other"] (defScope sChkTwo) := ⟨rfl, rfl, rfl, by decide +kernel, rfl, by decide +kernel, by decide +kernel⟩
theorem ok_chktwo {f : Addr} {fd : FuncData} (F : Fun K "check_two_words" "check_two_words" sChkTwo f fd) (CW : Cl P w K mg base 2 "check_word" ["value"] spChkW) : FnOk P w K mg base CX0 3 f fd ["function", "other"] spChkTwo := by
  refine F.ok scKT (fun vs H Q E h => ?_) (fun cdv A outer s H vs Q E hr h => ?_)
  · obtain ⟨s, t, rfl, _⟩ := h
    rfl
  · obtain ⟨x, y, rfl, hx, hy, ne, q⟩ := h
    refine ⟨_, pss_cons (ps_expr (pe_cl CW hr (by decide) (by rfl) (pa_cons (pv 0) pa_nil))) (pss_cons (ps_expr (pe_cl CW hr (by decide) (by rfl) (pa_cons (pv 1) pa_nil))) (pss_one (ps_if (pt_cmpR op_eq (pv 0) (pv 1) (nomark _)) (pss_one ps_never) pss_nil))), ?_⟩
    refine ⟨_, rfl, x, rfl, hx, fun H1 s1 => ⟨_, rfl, y, rfl, hy, fun H2 s2 => ⟨_, rfl, _, rfl, rfl, _, rfl, ite2 (fun z => absurd (V.str.inj (of_decide_eq_true z)) ne) (fun _ => q H2 (s1.trans s2))⟩⟩⟩
theorem scKS : FnScope ["value", "allowed"] ["value", "allowed"] (defScope sChkSign) := ⟨rfl, rfl, rfl, by decide +kernel, rfl, by decide +kernel, by decide +kernel⟩
theorem op_notIn_seqK {X : Cx} (K : PySem.W.Frag) (hK : X.K = K) : OpR X (compareOp .NotIn) (rIn K true) := by
  subst hK
  exact op_notIn_seq
theorem in_strs {s : Str} {xs : List Str} (h : s ∈ xs) : inV (.str s) (xs.map V.str) = true := by
  unfold inV
  rw [List.any_eq_true]
  exact ⟨.str s, List.mem_map.mpr ⟨s, h, rfl⟩, by simp [eqV]⟩
theorem notin_strs {s : Str} {xs : List Str} (h : s ∉ xs) : inV (.str s) (xs.map V.str) = false := by
  unfold inV
  rw [List.any_eq_false]
  intro v hv
  obtain ⟨t, ht, rfl⟩ := List.mem_map.mp hv
  have : t ≠ s := fun e => h (e ▸ ht)
  simp [eqV, this]
theorem flat_strs (xs : List Str) : (xs.map V.str).all flatV = true := by
  rw [List.all_eq_true]
  intro v hv
  obtain ⟨t, ht, rfl⟩ := List.mem_map.mp hv
  rfl
theorem ok_chks {f : Addr} {fd : FuncData} (F : Fun K "check_sign" "check_sign" sChkSign f fd) : FnOk P w K mg base CX0 1 f fd ["value", "allowed"] (spChkS K) := by
  refine F.ok scKS (fun vs H Q E h => ?_) (fun cdv A outer s H vs Q E hr h => ?_)
  · obtain ⟨s, a, xs, rfl, _⟩ := h
    rfl
  · obtain ⟨x, a, xs, rfl, hS, hx, q⟩ := h
    refine ⟨_, pss_one (ps_if (pt_cmpR (op_notIn_seqK K rfl) (pv 0) (pv 1) (by rfl)) (pss_one ps_never) pss_nil), ?_⟩
    refine ⟨_, rfl, _, rfl, a, _, rfl, .inr hS, rfl, flat_strs xs, _, rfl, ?_⟩
    rw [in_strs hx]
    exact iteF q
end
end OR

namespace OR
open PySem PySem.Spec PyProof.Rows L2
open TL (tl numL)
theorem nf_self {K : PySem.W.Frag} {C : Addr} : PySem.W.notFirst K C (.ref C) = true := by simp [PySem.W.notFirst]
theorem ne_q {K : PySem.W.Frag} {mg : Str → Option Value} {C : Addr} (T : PTxt K mg C) {H : Hp} {x y : Addr} {l m : List Row} {Q : VK} (hx : IsP C H x l) (hy : IsP C H y m) (k : Q (.bl (!decide (l = m))) H) : rNeO K C (spPlEq K C) (.ref x) (.ref y) H Q := by
  obtain ⟨_, dx, _, _, _, _, e1, _⟩ := id hx
  obtain ⟨_, dy, _, _, _, _, e2, _⟩ := id hy
  exact ⟨x, dx, _, rfl, e1, ⟨.ref C, tyP T e2, nf_self⟩, x, l, .ref y, rfl, hx, .inl ⟨y, m, rfl, hy, _, rfl, k⟩⟩
theorem eq_q {K : PySem.W.Frag} {mg : Str → Option Value} {C : Addr} (T : PTxt K mg C) {H : Hp} {x y : Addr} {l m : List Row} {Q : VK} (hx : IsP C H x l) (hy : IsP C H y m) (k : Q (.bl (decide (l = m))) H) : rEqO K C (spPlEq K C) (.ref x) (.ref y) H Q := by
  obtain ⟨_, dx, _, _, _, _, e1, _⟩ := id hx
  obtain ⟨_, dy, _, _, _, _, e2, _⟩ := id hy
  exact ⟨x, dx, _, rfl, e1, ⟨.ref C, tyP T e2, nf_self⟩, x, l, .ref y, rfl, hx, .inl ⟨y, m, rfl, hy, k⟩⟩
structure Mt (P : Program) (w : World) (K : PySem.W.Frag) (mg : Str → Option Value) (base : Heap) (k : Nat) (C : Addr) (m : Str) (ps : List Str) (sp : Sp) : Prop where
  ex : ∃ (f : Addr) (fd : FuncData), Meth K C m f ∧ FnOk P w K mg base CX0 k f fd ps sp ∧ Binds K fd ps []
theorem pe_mt {X : Cx} {k j : Nat} {C : Addr} {m : Str} {ps : List Str} {sp : Sp} {o e : Expr} {es : List Expr} {ta : TE} {t : TA} {apos pos : Pos} {pl : Sem Bool} (M : Mt X.prog X.w X.K X.mg X.base k C m ps sp) (c : Cls X.K C) (hr : Room j X.A) (hk : k ≤ j) (he : PE X o ta) (ha : PA X (e :: es) t)
    (hst : starEach (e :: es) X.env = (false, eval e X.env) :: starEach es X.env := by rfl) (hpl : (backTo pos (starEach es X.env)).any (·.1) = false := by rfl)
    (ht : eval (.Call (.Attribute o m apos) (e :: es) [] pos) X.env = (do
      let ov ← eval o X.env
      standAt apos.atName
      let (f, first) ← holding [ov] (getMethod ov m pl)
      callWith pos f first (backTo pos (starEach (e :: es) X.env)) (backToKw pos (keywordEach [] X.env))) := by rfl) : PE X (.Call (.Attribute o m apos) (e :: es) [] pos) (tMeth C m sp [] E0 ta t) := by
  obtain ⟨f, fd, hm, F, hb⟩ := M.ex
  exact pe_meth he c hm F (hr.mono hk) hb .nil pass0 ha hst hpl ht
theorem mt_of {P : Program} {w : World} {K : PySem.W.Frag} {mg : Str → Option Value} {base : Heap} {C : Addr} {m m' qual : Str} {st : Stmt} {k : Nat} {ps : List Str} {sp : Sp} (a : MtAt K C m m' qual st)
    (hb : ∀ (kV doc pm : Value) (an : Option Addr) (cdv ct : Value) (us : List Value), us.length = ps.length → bindArgs (PySem.W.fnOf m qual (defArgs st) (defBody st) (defScope st) .none kV doc pm an cdv ct) ⟨us, []⟩ = pure (ps.zip us))
    (ok : ∀ f fd, Fun K m qual st f fd → FnOk P w K mg base CX0 k f fd ps sp) : Mt P w K mg base k C m' ps sp := by
  obtain ⟨f, fd, F, e, i, n⟩ := a.ex
  exact ⟨f, fd, ⟨e, i, F.kp⟩, ok f fd F, F.binds hb⟩
theorem pe_mt0 {X : Cx} {k j : Nat} {C : Addr} {m : Str} {ps : List Str} {sp : Sp} {o : Expr} {ta : TE} {apos pos : Pos} {pl : Sem Bool} (M : Mt X.prog X.w X.K X.mg X.base k C m ps sp) (c : Cls X.K C) (hr : Room j X.A) (hk : k ≤ j) (he : PE X o ta)
    (ht : eval (.Call (.Attribute o m apos) [] [] pos) X.env = (do
      let ov ← eval o X.env
      standAt apos.atName
      let (f, first) ← holding [ov] (getMethod ov m pl)
      callWith pos f first (backTo pos (starEach [] X.env)) (backToKw pos (keywordEach [] X.env))) := by rfl) : PE X (.Call (.Attribute o m apos) [] [] pos) (tMeth C m sp [] E0 ta tNil) := by
  obtain ⟨f, fd, hm, F, hb⟩ := M.ex
  exact pe_meth0 he c hm F (hr.mono hk) hb .nil pass0 ht
theorem pe_fldK {X : Cx} {e : Expr} {f : Str} {pos : Pos} {ta : TE} (K : PySem.W.Frag) (hK : X.K = K) (he : PE X e ta) (hb : attributeBase e f X.env (eval e X.env) = eval e X.env) : PE X (.Attribute e f pos) (tFld K ta f) := by
  subst hK
  exact pe_fld he hb
/-! ### clauses as they stand -/
def kName : Nat → Str
  | 0 => "answers"
  | 1 => "refuses"
  | 2 => "needs"
  | 3 => "spreads"
  | 4 => "bound"
  | 5 => "pair"
  | _ => "step"
def clsName : Nat → Str
  | 0 => "Answers"
  | 1 => "Refuses"
  | 2 => "Needs"
  | 3 => "Spreads"
  | 4 => "Bound"
  | 5 => "Pair"
  | _ => "Step"
def xNames : Nat → List Str
  | 0 => []
  | 1 => []
  | 2 => ["other"]
  | 3 => ["way"]
  | 4 => ["sign", "slope", "height"]
  | 5 => ["sign", "other", "slope", "height"]
  | _ => ["sign", "height"]
def allNames (i : Nat) : List Str := "kind" :: "function" :: "places" :: xNames i
def cVals (i : Nat) (f : Str) (pl : Addr) (x : List V) : List V := .str (kName i) :: .str f :: .ref pl :: x
def putAll : List (Str × V) → List (Str × V) → List (Str × V)
  | [], acc => acc
  | (n, v) :: r, acc => putAll r (putF n v acc)
def cFl (i : Nat) (f : Str) (pl : Addr) (x : List V) : List (Str × V) := putAll ((allNames i).zip (cVals i f pl x)) []
theorem nodup_all : ∀ i, (allNames i).Nodup
  | 0 => by decide +kernel
  | 1 => by decide +kernel
  | 2 => by decide +kernel
  | 3 => by decide +kernel
  | 4 => by decide +kernel
  | 5 => by decide +kernel
  | _ + 6 => by
    show ("kind" :: "function" :: "places" :: ["sign", "height"] : List Str).Nodup
    decide +kernel
theorem lookup_none {m : Str} : ∀ {l : List (Str × V)}, (∀ p ∈ l, p.1 ≠ m) → l.lookup m = none
  | [], _ => rfl
  | (n, v) :: r, h => by
    have h1 : (m == n) = false := beq_eq_false_iff_ne.mpr fun e => h (n, v) List.mem_cons_self e.symm
    rw [List.lookup_cons, h1]
    exact lookup_none fun p hp => h p (List.mem_cons_of_mem _ hp)
theorem putAll_lookup {m : Str} : ∀ (l acc : List (Str × V)), (l.map (·.1)).Nodup → (putAll l acc).lookup m = ((l.lookup m).or (acc.lookup m))
  | [], acc, _ => by simp [putAll]
  | (n, v) :: r, acc, h => by
    rw [List.map_cons, List.nodup_cons] at h
    show (putAll r (putF n v acc)).lookup m = _
    rw [putAll_lookup r _ h.2, lookup_putF, List.lookup_cons]
    by_cases e : m = n
    · subst e
      rw [if_pos rfl, lookup_none (l := r) (fun p hp ep => h.1 (List.mem_map.mpr ⟨p, hp, ep⟩))]
      simp
    · rw [if_neg e, beq_eq_false_iff_ne.mpr e]
theorem zip_lookup {n : Str} {v : V} : ∀ {ns : List Str} {vs : List V} {j : Nat}, ns.Nodup → ns[j]? = some n → vs[j]? = some v → (ns.zip vs).lookup n = some v
  | [], _, _, _, h, _ => by simp at h
  | _ :: _, [], _, _, _, h => by simp at h
  | a :: ns, b :: vs, 0, _, h1, h2 => by
    have e1 : a = n := Option.some.inj h1
    have e2 : b = v := Option.some.inj h2
    subst e1 e2
    rw [List.zip_cons_cons, List.lookup_cons, beq_self_eq_true]
  | a :: ns, b :: vs, j + 1, hd, h1, h2 => by
    have hd' := List.nodup_cons.mp hd
    have hm : n ∈ ns := List.mem_of_getElem? (show ns[j]? = some n from h1)
    have ne : n ≠ a := fun e => hd'.1 (e ▸ hm)
    rw [List.zip_cons_cons, List.lookup_cons, beq_eq_false_iff_ne.mpr ne]
    exact zip_lookup hd'.2 (show ns[j]? = some n from h1) (show vs[j]? = some v from h2)
theorem zip_fst_sub {ns : List Str} {vs : List V} : ∀ {p : Str × V}, p ∈ ns.zip vs → p.1 ∈ ns := fun h => (List.of_mem_zip h).1
theorem zip_nodup : ∀ {ns : List Str} {vs : List V}, ns.Nodup → ((ns.zip vs).map (·.1)).Nodup
  | [], _, _ => by simp
  | _ :: _, [], _ => by simp
  | a :: ns, b :: vs, h => by
    have h' := List.nodup_cons.mp h
    rw [List.zip_cons_cons, List.map_cons, List.nodup_cons]
    refine ⟨fun hm => ?_, zip_nodup h'.2⟩
    obtain ⟨p, hp, e⟩ := List.mem_map.mp hm
    have e2 : p.1 = a := e
    exact h'.1 (by rw [← e2]; exact zip_fst_sub hp)
theorem cFl_at {i j : Nat} {f n : Str} {pl : Addr} {x : List V} {v : V} (hn : (allNames i)[j]? = some n) (hv : (cVals i f pl x)[j]? = some v) : (cFl i f pl x).lookup n = some v := by
  unfold cFl
  rw [putAll_lookup _ _ (zip_nodup (nodup_all i)), zip_lookup (nodup_all i) hn hv]
  rfl
theorem cFl_no {i : Nat} {f n : Str} {pl : Addr} {x : List V} (hn : n ∉ allNames i) : (cFl i f pl x).lookup n = none := by
  unfold cFl
  rw [putAll_lookup _ _ (zip_nodup (nodup_all i)), lookup_none (l := (allNames i).zip (cVals i f pl x)) (m := n) (fun p hp e => hn (by rw [← e]; exact zip_fst_sub hp))]
  rfl
def Num (a : Int) : Prop := a.natAbs < 10 ^ 90
def WF : Nat → Str → List V → Prop
  | 0, _, x => x = []
  | 1, _, x => x = []
  | 2, f, x => ∃ g, x = [.str g] ∧ Word g ∧ g ≠ f
  | 3, _, x => ∃ w, x = [.str w] ∧ isWay w
  | 4, _, x => ∃ s a b, x = [.str s, .int a, .int b] ∧ isSign s ∧ Num a ∧ Num b
  | 5, f, x => ∃ s g a b, x = [.str s, .str g, .int a, .int b] ∧ isSign s ∧ Word g ∧ g ≠ f ∧ Num a ∧ Num b
  | _, _, x => ∃ s b, x = [.str s, .int b] ∧ isSign s ∧ Num b
structure IsC (CP : Addr) (C : Nat → Addr) (H : Hp) (z : Addr) (i : Nat) (f : Str) (l : List Row) (x : List V) : Prop where
  ex : ∃ dx pl, H z = some (.ins (C i) dx (cFl i f pl x)) ∧ IsP CP H pl l
  lt : i < 7
  w : Word f
  wf : WF i f x
  ok : ∀ r ∈ l, okRow r = true
  len : l.length ≤ 20
theorem IsC.same {CP : Addr} {C : Nat → Addr} {H H' : Hp} {z : Addr} {i : Nat} {f : Str} {l : List Row} {x : List V} (h : IsC CP C H z i f l x) (s : Same H H') : IsC CP C H' z i f l x := by
  obtain ⟨⟨dx, pl, e, hp⟩, a, b, c, d, g⟩ := h
  exact ⟨⟨dx, pl, s _ _ e, hp.same s⟩, a, b, c, d, g⟩
def ceq (i : Nat) (f : Str) (l : List Row) (x : List V) (j : Nat) (g : Str) (m : List Row) (u : List V) : Bool := decide (i = j ∧ f = g ∧ l = m ∧ x = u)
structure CTxt (K : PySem.W.Frag) (mg : Str → Option Value) (C : Nat → Addr) : Prop where
  cl : ∀ i, i < 7 → Cls K (C i)
  no : ∀ i, i < 7 → ∀ n ∈ allNames i, NoAttr K (C i) n
  isi : ∀ i, i < 7 → SlX.SIsi K (C i)
  kk : ∀ i, i < 7 → ∀ j, j < 7 → PySem.W.kitOne K (.ref (C i)) (.ref (C j)) = some (decide (i = j))
  mgC : ∀ i, i < 7 → mg (clsName i) = some (.ref (C i))
  sf : ∀ i, i < 7 → PySem.W.selfFirst K (C i) = true
  ne : ∀ i, i < 7 → PySem.W.findIn K (.ref (C i)) "__ne__" = some (some (.builtin "object.__ne__"))
  kS : ∀ i, i < 7 → PySem.W.kitOne K (.type "str") (.ref (C i)) = some false
  kT : ∀ i, i < 7 → PySem.W.kitOne K (.type "tuple") (.ref (C i)) = some false
section
variable {P : Program} {w : World} {K : PySem.W.Frag} {mg : Str → Option Value} {base : Heap} {C : Nat → Addr} {CP : Addr}
theorem tyC (T : CTxt K mg C) {H : Hp} {z dx : Addr} {i : Nat} {fs : List (Str × V)} (hi : i < 7) (hz : H z = some (.ins (C i) dx fs)) : TyX K H (.ref z) (.ref (C i)) := .base (.ins hz (T.cl i hi) (T.isi i hi).ca (T.isi i hi).cn (T.isi i hi).ct (T.isi i hi).cm)
/-- a field is read -/
theorem fld (T : CTxt K mg C) {H : Hp} {z dx pl : Addr} {i j : Nat} {f n : Str} {x : List V} {v : V} {Q : V → Prop} (hz : H z = some (.ins (C i) dx (cFl i f pl x))) (hi : i < 7) (hn : (allNames i)[j]? = some n) (hv : (cVals i f pl x)[j]? = some v) (q : Q v) :
    ∃ a C' dx fs v', V.ref z = .ref a ∧ H a = some (.ins C' dx fs) ∧ Cls K C' ∧ NoAttr K C' n ∧ fs.lookup n = some v' ∧ Q v' :=
  ⟨z, C i, dx, _, v, rfl, hz, T.cl i hi, T.no i hi n (List.mem_of_getElem? hn), cFl_at hn hv, q⟩
def spCInit (C : Nat → Addr) (i : Nat) : Sp := fun vs H Q _ => ∃ (p dx : Addr) (f : Str) (pl : Addr) (x : List V), vs = .ref p :: .str f :: .ref pl :: x ∧ Word f ∧ WF i f x ∧ H p = some (.ins (C i) dx []) ∧
  ∀ H', H' p = some (.ins (C i) dx (cFl i f pl x)) → (∀ c o, H c = some o → c ≠ p → H' c = some o) → Q .non H'
def spCEq (K : PySem.W.Frag) (CP : Addr) (C : Nat → Addr) (i : Nat) : Sp := fun vs H Q _ => ∃ (a : Addr) (y : V) (f : Str) (l : List Row) (x : List V), vs = [.ref a, y] ∧ IsC CP C H a i f l x ∧
  ((∃ b j g m u, y = .ref b ∧ IsC CP C H b j g m u ∧ Q (.bl (ceq i f l x j g m u)) H) ∨ (∃ T : String, TyX K H y (.type T) ∧ PySem.W.kitOne K (.type T) (.ref (C i)) = some false ∧ Q (.bl false) H))
def told : Nat → Str → List V → List V
  | 2, f, [g] => [.str f, g]
  | 5, f, [_, g, _, _] => [.str f, g]
  | _, f, _ => [.str f]
def spCTold (CP : Addr) (C : Nat → Addr) (i : Nat) : Sp := fun vs H Q _ => ∃ (z : Addr) (f : Str) (l : List Row) (x : List V), vs = [.ref z] ∧ IsC CP C H z i f l x ∧ ∀ t, H t = none → Q (.ref t) (upd H t (.tup (told i f x)))
def addT (t : Str) : Str := if t = ("0" : Str) then ("" : Str) else if Txt.startswith t ("-" : Str) = true then (" - " : Str) ++ cutS t (some 1) none else (" + " : Str) ++ t
def begT (i : Nat) (f : Str) (l : List Row) : Str := (((kName i ++ (" " : Str)) ++ f) ++ (" " : Str)) ++ textOf l
def cText : Nat → Str → List Row → List V → Str
  | 2, f, l, [.str g] => (begT 2 f l ++ (" " : Str)) ++ g
  | 3, f, l, [.str g] => (begT 3 f l ++ (" " : Str)) ++ g
  | 4, f, l, [.str s, .int a, .int b] => (((begT 4 f l ++ (" " : Str)) ++ s) ++ (" " : Str)) ++ lineT a b
  | 5, f, l, [.str s, .str g, .int a, .int b] => ((((begT 5 f l ++ (" " : Str)) ++ s) ++ (" " : Str)) ++ g) ++ addT (lineT a b)
  | 6, f, l, [.str s, .int b] => (((begT 6 f l ++ (" " : Str)) ++ s) ++ (" " : Str)) ++ dT b
  | i, f, l, _ => begT i f l
def spCText (CP : Addr) (C : Nat → Addr) (i : Nat) : Sp := fun vs H Q _ => ∃ (z : Addr) (f : Str) (l : List Row) (x : List V), vs = [.ref z] ∧ IsC CP C H z i f l x ∧ ∀ H', Same H H' → Q (.str (cText i f l x)) H'
def spBegin (CP : Addr) (C : Nat → Addr) : Sp := fun vs H Q _ => ∃ (z : Addr) (i : Nat) (f : Str) (l : List Row) (x : List V), vs = [.ref z] ∧ IsC CP C H z i f l x ∧ ∀ H', Same H H' → Q (.str (begT i f l)) H'
def spAdded (CL : Addr) : Sp := fun vs H Q _ => ∃ (x : Addr) (a b : Int), vs = [.ref x] ∧ IsL CL H x a b ∧ Num a ∧ Num b ∧ ∀ H', Same H H' → Q (.str (addT (lineT a b))) H'
def spCLine (CP CL : Addr) (C : Nat → Addr) (i : Nat) : Sp := fun vs H Q _ => ∃ (z : Addr) (f : Str) (l : List Row) (x : List V) (a b : Int), vs = [.ref z] ∧ IsC CP C H z i f l x ∧ ((∃ s, x = [.str s, .int a, .int b]) ∨ (∃ s g, x = [.str s, .str g, .int a, .int b])) ∧ ∀ y H', H y = none → IsL CL H' y a b → Same H H' → Q (.ref y) H'
end
end OR

namespace OR
open PySem PySem.Spec PyProof.Rows L2
open TL (tl numL)
theorem sign_in {s : Str} (h : isSign s) : s ∈ (["<=", ">=", "="] : List Str) := by
  rcases h with e | e | e <;> subst e <;> simp
theorem way_in {s : Str} (h : isWay s) : s ∈ (["up", "down"] : List Str) := by
  rcases h with e | e <;> subst e <;> simp
section
variable {P : Program} {w : World} {K : PySem.W.Frag} {mg : Str → Option Value} {base : Heap} {C : Nat → Addr} {CP : Addr} {ts tw : Addr}
theorem scAnsI : FnScope ["self", "function", "places"] ["self", "function", "places"] (defScope sAnsInit) := ⟨rfl, rfl, rfl, by decide +kernel, rfl, by decide +kernel, by decide +kernel⟩
theorem ok_AnsI {f : Addr} {fd : FuncData} (F : Fun K "__init__" "Answers.__init__" sAnsInit f fd) (T : CTxt K mg C) (CW : Cl P w K mg base 2 "check_word" ["value"] spChkW) : FnOk P w K mg base CX0 4 f fd ["self", "function", "places"] (spCInit C 0) := by
  refine F.ok scAnsI (fun vs H Q E h => ?_) (fun cdv A outer s0 H vs Q E hr h => ?_)
  · obtain ⟨p, dx, f', pl, x, rfl, _, rfl, _⟩ := h
    rfl
  · obtain ⟨p, dx, f', pl, x, rfl, hw, rfl, hp, q⟩ := h
    have hi : 0 < 7 := by decide
    refine ⟨_, pss_cons (ps_expr (pe_cl CW hr (by decide) (by rfl) (pa_cons (pv 1) pa_nil)))
      (pss_cons (ps_fld (pv 0) pe_str rfl)
      (pss_cons (ps_fld (pv 0) (pv 1) rfl)
      (pss_one (ps_fld (pv 0) (pv 2) rfl)))), ?_⟩
    refine ⟨_, rfl, f', rfl, hw, fun H1 S1 => ⟨_, rfl, p, C 0, dx, [], rfl, S1 _ _ hp, T.cl 0 hi, T.no 0 hi _ (List.mem_of_getElem? (i := 0) rfl), (by show 0 < 1000; decide), _, rfl, _, rfl, p, C 0, dx, _, rfl, upd_same, T.cl 0 hi, T.no 0 hi _ (List.mem_of_getElem? (i := 1) rfl), (by show 1 < 1000; decide), _, rfl, _, rfl, p, C 0, dx, _, rfl, upd_same, T.cl 0 hi, T.no 0 hi _ (List.mem_of_getElem? (i := 2) rfl), (by show 2 < 1000; decide), ?_⟩⟩
    refine q _ upd_same fun c o e n => ?_
    simp only [upd_ne n]
    exact S1 _ _ e
theorem scRefI : FnScope ["self", "function", "places"] ["self", "function", "places"] (defScope sRefInit) := ⟨rfl, rfl, rfl, by decide +kernel, rfl, by decide +kernel, by decide +kernel⟩
theorem ok_RefI {f : Addr} {fd : FuncData} (F : Fun K "__init__" "Refuses.__init__" sRefInit f fd) (T : CTxt K mg C) (CW : Cl P w K mg base 2 "check_word" ["value"] spChkW) : FnOk P w K mg base CX0 4 f fd ["self", "function", "places"] (spCInit C 1) := by
  refine F.ok scRefI (fun vs H Q E h => ?_) (fun cdv A outer s0 H vs Q E hr h => ?_)
  · obtain ⟨p, dx, f', pl, x, rfl, _, rfl, _⟩ := h
    rfl
  · obtain ⟨p, dx, f', pl, x, rfl, hw, rfl, hp, q⟩ := h
    have hi : 1 < 7 := by decide
    refine ⟨_, pss_cons (ps_expr (pe_cl CW hr (by decide) (by rfl) (pa_cons (pv 1) pa_nil)))
      (pss_cons (ps_fld (pv 0) pe_str rfl)
      (pss_cons (ps_fld (pv 0) (pv 1) rfl)
      (pss_one (ps_fld (pv 0) (pv 2) rfl)))), ?_⟩
    refine ⟨_, rfl, f', rfl, hw, fun H1 S1 => ⟨_, rfl, p, C 1, dx, [], rfl, S1 _ _ hp, T.cl 1 hi, T.no 1 hi _ (List.mem_of_getElem? (i := 0) rfl), (by show 0 < 1000; decide), _, rfl, _, rfl, p, C 1, dx, _, rfl, upd_same, T.cl 1 hi, T.no 1 hi _ (List.mem_of_getElem? (i := 1) rfl), (by show 1 < 1000; decide), _, rfl, _, rfl, p, C 1, dx, _, rfl, upd_same, T.cl 1 hi, T.no 1 hi _ (List.mem_of_getElem? (i := 2) rfl), (by show 2 < 1000; decide), ?_⟩⟩
    refine q _ upd_same fun c o e n => ?_
    simp only [upd_ne n]
    exact S1 _ _ e
theorem scNeeI : FnScope ["self", "function", "places", "other"] ["self", "function", "places", "other"] (defScope sNeeInit) := ⟨rfl, rfl, rfl, by decide +kernel, rfl, by decide +kernel, by decide +kernel⟩
theorem ok_NeeI {f : Addr} {fd : FuncData} (F : Fun K "__init__" "Needs.__init__" sNeeInit f fd) (T : CTxt K mg C) (CT : Cl P w K mg base 3 "check_two_words" ["function", "other"] spChkTwo) : FnOk P w K mg base CX0 4 f fd ["self", "function", "places", "other"] (spCInit C 2) := by
  refine F.ok scNeeI (fun vs H Q E h => ?_) (fun cdv A outer s0 H vs Q E hr h => ?_)
  · obtain ⟨p, dx, f', pl, x, rfl, _, ⟨g, rfl, hg, ng⟩, _⟩ := h
    rfl
  · obtain ⟨p, dx, f', pl, x, rfl, hw, ⟨g, rfl, hg, ng⟩, hp, q⟩ := h
    have hi : 2 < 7 := by decide
    refine ⟨_, pss_cons (ps_expr (pe_cl CT hr (by decide) (by rfl) (pa_cons (pv 1) (pa_cons (pv 3) pa_nil))))
      (pss_cons (ps_fld (pv 0) pe_str rfl)
      (pss_cons (ps_fld (pv 0) (pv 1) rfl)
      (pss_cons (ps_fld (pv 0) (pv 2) rfl)
      (pss_one (ps_fld (pv 0) (pv 3) rfl))))), ?_⟩
    refine ⟨_, rfl, _, rfl, f', g, rfl, hw, hg, ng.symm, fun H1 S1 => ⟨_, rfl, p, C 2, dx, [], rfl, S1 _ _ hp, T.cl 2 hi, T.no 2 hi _ (List.mem_of_getElem? (i := 0) rfl), (by show 0 < 1000; decide), _, rfl, _, rfl, p, C 2, dx, _, rfl, upd_same, T.cl 2 hi, T.no 2 hi _ (List.mem_of_getElem? (i := 1) rfl), (by show 1 < 1000; decide), _, rfl, _, rfl, p, C 2, dx, _, rfl, upd_same, T.cl 2 hi, T.no 2 hi _ (List.mem_of_getElem? (i := 2) rfl), (by show 2 < 1000; decide), _, rfl, _, rfl, p, C 2, dx, _, rfl, upd_same, T.cl 2 hi, T.no 2 hi _ (List.mem_of_getElem? (i := 3) rfl), (by show 3 < 1000; decide), ?_⟩⟩
    refine q _ upd_same fun c o e n => ?_
    simp only [upd_ne n]
    exact S1 _ _ e
theorem scSprI : FnScope ["self", "function", "places", "way"] ["self", "function", "places", "way"] (defScope sSprInit) := ⟨rfl, rfl, rfl, by decide +kernel, rfl, by decide +kernel, by decide +kernel⟩
theorem ok_SprI {f : Addr} {fd : FuncData} (F : Fun K "__init__" "Spreads.__init__" sSprInit f fd) (T : CTxt K mg C) (CW : Cl P w K mg base 2 "check_word" ["value"] spChkW) (CS : Cl P w K mg base 1 "check_sign" ["value", "allowed"] (spChkS K)) (WT : WTxt K mg ts tw) : FnOk P w K mg base CX0 4 f fd ["self", "function", "places", "way"] (spCInit C 3) := by
  refine F.ok scSprI (fun vs H Q E h => ?_) (fun cdv A outer s0 H vs Q E hr h => ?_)
  · obtain ⟨p, dx, f', pl, x, rfl, _, ⟨w, rfl, hs⟩, _⟩ := h
    rfl
  · obtain ⟨p, dx, f', pl, x, rfl, hw, ⟨w, rfl, hs⟩, hp, q⟩ := h
    have hi : 3 < 7 := by decide
    refine ⟨_, pss_cons (ps_expr (pe_cl CW hr (by decide) (by rfl) (pa_cons (pv 1) pa_nil)))
      (pss_cons (ps_expr (pe_cl CS hr (by decide) (by rfl) (pa_cons (pv 3) (pa_cons (pe_glob (v := .ref tw) (by rfl) WT.gW rfl) pa_nil))))
      (pss_cons (ps_fld (pv 0) pe_str rfl)
      (pss_cons (ps_fld (pv 0) (pv 1) rfl)
      (pss_cons (ps_fld (pv 0) (pv 2) rfl)
      (pss_one (ps_fld (pv 0) (pv 3) rfl)))))), ?_⟩
    refine ⟨_, rfl, f', rfl, hw, fun H1 S1 => ⟨_, rfl, w, tw, ["up", "down"], rfl, WT.hW _, way_in hs, _, rfl, p, C 3, dx, [], rfl, S1 _ _ hp, T.cl 3 hi, T.no 3 hi _ (List.mem_of_getElem? (i := 0) rfl), (by show 0 < 1000; decide), _, rfl, _, rfl, p, C 3, dx, _, rfl, upd_same, T.cl 3 hi, T.no 3 hi _ (List.mem_of_getElem? (i := 1) rfl), (by show 1 < 1000; decide), _, rfl, _, rfl, p, C 3, dx, _, rfl, upd_same, T.cl 3 hi, T.no 3 hi _ (List.mem_of_getElem? (i := 2) rfl), (by show 2 < 1000; decide), _, rfl, _, rfl, p, C 3, dx, _, rfl, upd_same, T.cl 3 hi, T.no 3 hi _ (List.mem_of_getElem? (i := 3) rfl), (by show 3 < 1000; decide), ?_⟩⟩
    refine q _ upd_same fun c o e n => ?_
    simp only [upd_ne n]
    exact S1 _ _ e
theorem scBouI : FnScope ["self", "function", "places", "sign", "slope", "height"] ["self", "function", "places", "sign", "slope", "height"] (defScope sBouInit) := ⟨rfl, rfl, rfl, by decide +kernel, rfl, by decide +kernel, by decide +kernel⟩
theorem ok_BouI {f : Addr} {fd : FuncData} (F : Fun K "__init__" "Bound.__init__" sBouInit f fd) (T : CTxt K mg C) (CW : Cl P w K mg base 2 "check_word" ["value"] spChkW) (CS : Cl P w K mg base 1 "check_sign" ["value", "allowed"] (spChkS K)) (WT : WTxt K mg ts tw) : FnOk P w K mg base CX0 4 f fd ["self", "function", "places", "sign", "slope", "height"] (spCInit C 4) := by
  refine F.ok scBouI (fun vs H Q E h => ?_) (fun cdv A outer s0 H vs Q E hr h => ?_)
  · obtain ⟨p, dx, f', pl, x, rfl, _, ⟨s, a, b, rfl, hs, na, nb⟩, _⟩ := h
    rfl
  · obtain ⟨p, dx, f', pl, x, rfl, hw, ⟨s, a, b, rfl, hs, na, nb⟩, hp, q⟩ := h
    have hi : 4 < 7 := by decide
    refine ⟨_, pss_cons (ps_expr (pe_cl CW hr (by decide) (by rfl) (pa_cons (pv 1) pa_nil)))
      (pss_cons (ps_expr (pe_cl CS hr (by decide) (by rfl) (pa_cons (pv 3) (pa_cons (pe_glob (v := .ref ts) (by rfl) WT.gS rfl) pa_nil))))
      (pss_cons (ps_fld (pv 0) pe_str rfl)
      (pss_cons (ps_fld (pv 0) (pv 1) rfl)
      (pss_cons (ps_fld (pv 0) (pv 2) rfl)
      (pss_cons (ps_fld (pv 0) (pv 3) rfl)
      (pss_cons (ps_fld (pv 0) (pv 4) rfl)
      (pss_one (ps_fld (pv 0) (pv 5) rfl)))))))), ?_⟩
    refine ⟨_, rfl, f', rfl, hw, fun H1 S1 => ⟨_, rfl, s, ts, ["<=", ">=", "="], rfl, WT.hS _, sign_in hs, _, rfl, p, C 4, dx, [], rfl, S1 _ _ hp, T.cl 4 hi, T.no 4 hi _ (List.mem_of_getElem? (i := 0) rfl), (by show 0 < 1000; decide), _, rfl, _, rfl, p, C 4, dx, _, rfl, upd_same, T.cl 4 hi, T.no 4 hi _ (List.mem_of_getElem? (i := 1) rfl), (by show 1 < 1000; decide), _, rfl, _, rfl, p, C 4, dx, _, rfl, upd_same, T.cl 4 hi, T.no 4 hi _ (List.mem_of_getElem? (i := 2) rfl), (by show 2 < 1000; decide), _, rfl, _, rfl, p, C 4, dx, _, rfl, upd_same, T.cl 4 hi, T.no 4 hi _ (List.mem_of_getElem? (i := 3) rfl), (by show 3 < 1000; decide), _, rfl, _, rfl, p, C 4, dx, _, rfl, upd_same, T.cl 4 hi, T.no 4 hi _ (List.mem_of_getElem? (i := 4) rfl), (by show 4 < 1000; decide), _, rfl, _, rfl, p, C 4, dx, _, rfl, upd_same, T.cl 4 hi, T.no 4 hi _ (List.mem_of_getElem? (i := 5) rfl), (by show 5 < 1000; decide), ?_⟩⟩
    refine q _ upd_same fun c o e n => ?_
    simp only [upd_ne n]
    exact S1 _ _ e
theorem scPaiI : FnScope ["self", "function", "places", "sign", "other", "slope", "height"] ["self", "function", "places", "sign", "other", "slope", "height"] (defScope sPaiInit) := ⟨rfl, rfl, rfl, by decide +kernel, rfl, by decide +kernel, by decide +kernel⟩
theorem ok_PaiI {f : Addr} {fd : FuncData} (F : Fun K "__init__" "Pair.__init__" sPaiInit f fd) (T : CTxt K mg C) (CT : Cl P w K mg base 3 "check_two_words" ["function", "other"] spChkTwo) (CS : Cl P w K mg base 1 "check_sign" ["value", "allowed"] (spChkS K)) (WT : WTxt K mg ts tw) : FnOk P w K mg base CX0 4 f fd ["self", "function", "places", "sign", "other", "slope", "height"] (spCInit C 5) := by
  refine F.ok scPaiI (fun vs H Q E h => ?_) (fun cdv A outer s0 H vs Q E hr h => ?_)
  · obtain ⟨p, dx, f', pl, x, rfl, _, ⟨s, g, a, b, rfl, hs, hg, ng, na, nb⟩, _⟩ := h
    rfl
  · obtain ⟨p, dx, f', pl, x, rfl, hw, ⟨s, g, a, b, rfl, hs, hg, ng, na, nb⟩, hp, q⟩ := h
    have hi : 5 < 7 := by decide
    refine ⟨_, pss_cons (ps_expr (pe_cl CT hr (by decide) (by rfl) (pa_cons (pv 1) (pa_cons (pv 4) pa_nil))))
      (pss_cons (ps_expr (pe_cl CS hr (by decide) (by rfl) (pa_cons (pv 3) (pa_cons (pe_glob (v := .ref ts) (by rfl) WT.gS rfl) pa_nil))))
      (pss_cons (ps_fld (pv 0) pe_str rfl)
      (pss_cons (ps_fld (pv 0) (pv 1) rfl)
      (pss_cons (ps_fld (pv 0) (pv 2) rfl)
      (pss_cons (ps_fld (pv 0) (pv 3) rfl)
      (pss_cons (ps_fld (pv 0) (pv 4) rfl)
      (pss_cons (ps_fld (pv 0) (pv 5) rfl)
      (pss_one (ps_fld (pv 0) (pv 6) rfl))))))))), ?_⟩
    refine ⟨_, rfl, _, rfl, f', g, rfl, hw, hg, ng.symm, fun H1 S1 => ⟨_, rfl, s, ts, ["<=", ">=", "="], rfl, WT.hS _, sign_in hs, _, rfl, p, C 5, dx, [], rfl, S1 _ _ hp, T.cl 5 hi, T.no 5 hi _ (List.mem_of_getElem? (i := 0) rfl), (by show 0 < 1000; decide), _, rfl, _, rfl, p, C 5, dx, _, rfl, upd_same, T.cl 5 hi, T.no 5 hi _ (List.mem_of_getElem? (i := 1) rfl), (by show 1 < 1000; decide), _, rfl, _, rfl, p, C 5, dx, _, rfl, upd_same, T.cl 5 hi, T.no 5 hi _ (List.mem_of_getElem? (i := 2) rfl), (by show 2 < 1000; decide), _, rfl, _, rfl, p, C 5, dx, _, rfl, upd_same, T.cl 5 hi, T.no 5 hi _ (List.mem_of_getElem? (i := 3) rfl), (by show 3 < 1000; decide), _, rfl, _, rfl, p, C 5, dx, _, rfl, upd_same, T.cl 5 hi, T.no 5 hi _ (List.mem_of_getElem? (i := 4) rfl), (by show 4 < 1000; decide), _, rfl, _, rfl, p, C 5, dx, _, rfl, upd_same, T.cl 5 hi, T.no 5 hi _ (List.mem_of_getElem? (i := 5) rfl), (by show 5 < 1000; decide), _, rfl, _, rfl, p, C 5, dx, _, rfl, upd_same, T.cl 5 hi, T.no 5 hi _ (List.mem_of_getElem? (i := 6) rfl), (by show 6 < 1000; decide), ?_⟩⟩
    refine q _ upd_same fun c o e n => ?_
    simp only [upd_ne n]
    exact S1 _ _ e
theorem scSteI : FnScope ["self", "function", "places", "sign", "height"] ["self", "function", "places", "sign", "height"] (defScope sSteInit) := ⟨rfl, rfl, rfl, by decide +kernel, rfl, by decide +kernel, by decide +kernel⟩
theorem ok_SteI {f : Addr} {fd : FuncData} (F : Fun K "__init__" "Step.__init__" sSteInit f fd) (T : CTxt K mg C) (CW : Cl P w K mg base 2 "check_word" ["value"] spChkW) (CS : Cl P w K mg base 1 "check_sign" ["value", "allowed"] (spChkS K)) (WT : WTxt K mg ts tw) : FnOk P w K mg base CX0 4 f fd ["self", "function", "places", "sign", "height"] (spCInit C 6) := by
  refine F.ok scSteI (fun vs H Q E h => ?_) (fun cdv A outer s0 H vs Q E hr h => ?_)
  · obtain ⟨p, dx, f', pl, x, rfl, _, ⟨s, b, rfl, hs, nb⟩, _⟩ := h
    rfl
  · obtain ⟨p, dx, f', pl, x, rfl, hw, ⟨s, b, rfl, hs, nb⟩, hp, q⟩ := h
    have hi : 6 < 7 := by decide
    refine ⟨_, pss_cons (ps_expr (pe_cl CW hr (by decide) (by rfl) (pa_cons (pv 1) pa_nil)))
      (pss_cons (ps_expr (pe_cl CS hr (by decide) (by rfl) (pa_cons (pv 3) (pa_cons (pe_glob (v := .ref ts) (by rfl) WT.gS rfl) pa_nil))))
      (pss_cons (ps_fld (pv 0) pe_str rfl)
      (pss_cons (ps_fld (pv 0) (pv 1) rfl)
      (pss_cons (ps_fld (pv 0) (pv 2) rfl)
      (pss_cons (ps_fld (pv 0) (pv 3) rfl)
      (pss_one (ps_fld (pv 0) (pv 4) rfl))))))), ?_⟩
    refine ⟨_, rfl, f', rfl, hw, fun H1 S1 => ⟨_, rfl, s, ts, ["<=", ">=", "="], rfl, WT.hS _, sign_in hs, _, rfl, p, C 6, dx, [], rfl, S1 _ _ hp, T.cl 6 hi, T.no 6 hi _ (List.mem_of_getElem? (i := 0) rfl), (by show 0 < 1000; decide), _, rfl, _, rfl, p, C 6, dx, _, rfl, upd_same, T.cl 6 hi, T.no 6 hi _ (List.mem_of_getElem? (i := 1) rfl), (by show 1 < 1000; decide), _, rfl, _, rfl, p, C 6, dx, _, rfl, upd_same, T.cl 6 hi, T.no 6 hi _ (List.mem_of_getElem? (i := 2) rfl), (by show 2 < 1000; decide), _, rfl, _, rfl, p, C 6, dx, _, rfl, upd_same, T.cl 6 hi, T.no 6 hi _ (List.mem_of_getElem? (i := 3) rfl), (by show 3 < 1000; decide), _, rfl, _, rfl, p, C 6, dx, _, rfl, upd_same, T.cl 6 hi, T.no 6 hi _ (List.mem_of_getElem? (i := 4) rfl), (by show 4 < 1000; decide), ?_⟩⟩
    refine q _ upd_same fun c o e n => ?_
    simp only [upd_ne n]
    exact S1 _ _ e
end
end OR

namespace OR
open PySem PySem.Spec PyProof.Rows L2
open TL (tl numL)
section
variable {P : Program} {w : World} {K : PySem.W.Frag} {mg : Str → Option Value} {base : Heap} {C : Nat → Addr} {CP : Addr} {ts tw : Addr}
theorem scAnsE : FnScope ["self", "other"] ["self", "other"] (defScope sAnsEq) := ⟨rfl, rfl, rfl, by decide +kernel, rfl, by decide +kernel, by decide +kernel⟩
theorem ok_AnsE {f : Addr} {fd : FuncData} (F : Fun K "__eq__" "Answers.__eq__" sAnsEq f fd) (T : CTxt K mg C) (PT : PTxt K mg CP) (EQ : Md P w K mg base 1 CP "__eq__" (spPlEq K CP)) : FnOk P w K mg base CX0 2 f fd ["self", "other"] (spCEq K CP C 0) := by
  refine F.ok scAnsE (fun vs H Q E h => ?_) (fun cdv A outer s0 H vs Q E hr h => ?_)
  · obtain ⟨p, y, f1, l, x, rfl, _⟩ := h
    rfl
  · obtain ⟨p, y, f1, l, x, rfl, hA, h⟩ := h
    have hi : 0 < 7 := by decide
    have nd := scAnsE.nd
    refine ⟨_, pss_one (ps_ret (pe_and (pe_callB call_isi (by rfl) PT.zIsi bt_isi (pa_cons (pv 1) (pa_cons (pe_glob (v := .ref (C 0)) (by rfl) (T.mgC 0 hi) rfl) pa_nil))) (pe_and (pe_cmpR op_eq (pe_fld (pv 0) rfl) (pe_fld (pv 1) rfl) (nomark _)) (pe_one (pe_cmpR (op_eqO K rfl EQ (hr.mono (by decide))) (pe_fld (pv 0) rfl) (pe_fld (pv 1) rfl) (nomark _)))))), ?_⟩
    obtain ⟨⟨dx, pl, hz, hp⟩, _, _, wf, _, _⟩ := hA
    rcases h with ⟨z2, j, f2, m, u, rfl, hB, q⟩ | ⟨Ty, hT, hk, q⟩
    · by_cases e : j = 0
      · subst e
        obtain ⟨⟨dy, pm, hy, hpm⟩, _, _, wf2, _, _⟩ := hB
        cases (show x = [] from wf)
        cases (show u = [] from wf2)
        have key : ceq 0 f1 l [] 0 f2 m [] = decide (f1 = f2 ∧ l = m) := by
          unfold ceq
          exact decide_eq_decide.mpr (by simp)
        rw [key] at q
        have no : ¬ (f1 = f2 ∧ l = m) → Q (.bl false) H := fun h => by
          rw [decide_eq_false h] at q
          exact q
        clear key
        refine ⟨_, rfl, .ref z2, .ref (C 0), _, _, true, rfl, .own (C 0), tyC T hi hy, T.kk 0 hi 0 hi, _, rfl, iteT ?_⟩
        refine ⟨_, rfl, fld T hz hi (j := 1) rfl rfl ⟨_, rfl, fld T hy hi (j := 1) rfl rfl ⟨rfl, _, rfl, ite2 (fun e1 => ?_) (fun e1 => (no fun z => e1 (decide_eq_true (by rw [z.1]))))⟩⟩⟩
        have E_function := V.str.inj (of_decide_eq_true e1)
        exact ⟨_, rfl, fld T hz hi (j := 2) rfl rfl ⟨_, rfl, fld T hy hi (j := 2) rfl rfl (eq_q PT hp hpm (by rw [show decide (f1 = f2 ∧ l = m) = decide (l = m) from decide_eq_decide.mpr ⟨fun z => z.2, fun zz => ⟨E_function, zz⟩⟩] at q; exact q))⟩⟩
      · have kf : PySem.W.kitOne K (.ref (C j)) (.ref (C 0)) = some false := by
          rw [T.kk j hB.lt 0 hi, decide_eq_false e]
        rw [show ceq 0 f1 l x j f2 m u = false from decide_eq_false fun z => e z.1.symm] at q
        obtain ⟨dy, pm, hy, _⟩ := hB.ex
        exact ⟨_, rfl, .ref z2, .ref (C 0), _, _, false, rfl, .own (C 0), tyC T hB.lt hy, kf, _, rfl, iteF q⟩
    · exact ⟨_, rfl, y, .ref (C 0), _, _, false, rfl, .own (C 0), hT, hk, _, rfl, iteF q⟩
theorem scRefE : FnScope ["self", "other"] ["self", "other"] (defScope sRefEq) := ⟨rfl, rfl, rfl, by decide +kernel, rfl, by decide +kernel, by decide +kernel⟩
theorem ok_RefE {f : Addr} {fd : FuncData} (F : Fun K "__eq__" "Refuses.__eq__" sRefEq f fd) (T : CTxt K mg C) (PT : PTxt K mg CP) (EQ : Md P w K mg base 1 CP "__eq__" (spPlEq K CP)) : FnOk P w K mg base CX0 2 f fd ["self", "other"] (spCEq K CP C 1) := by
  refine F.ok scRefE (fun vs H Q E h => ?_) (fun cdv A outer s0 H vs Q E hr h => ?_)
  · obtain ⟨p, y, f1, l, x, rfl, _⟩ := h
    rfl
  · obtain ⟨p, y, f1, l, x, rfl, hA, h⟩ := h
    have hi : 1 < 7 := by decide
    have nd := scRefE.nd
    refine ⟨_, pss_one (ps_ret (pe_and (pe_callB call_isi (by rfl) PT.zIsi bt_isi (pa_cons (pv 1) (pa_cons (pe_glob (v := .ref (C 1)) (by rfl) (T.mgC 1 hi) rfl) pa_nil))) (pe_and (pe_cmpR op_eq (pe_fld (pv 0) rfl) (pe_fld (pv 1) rfl) (nomark _)) (pe_one (pe_cmpR (op_eqO K rfl EQ (hr.mono (by decide))) (pe_fld (pv 0) rfl) (pe_fld (pv 1) rfl) (nomark _)))))), ?_⟩
    obtain ⟨⟨dx, pl, hz, hp⟩, _, _, wf, _, _⟩ := hA
    rcases h with ⟨z2, j, f2, m, u, rfl, hB, q⟩ | ⟨Ty, hT, hk, q⟩
    · by_cases e : j = 1
      · subst e
        obtain ⟨⟨dy, pm, hy, hpm⟩, _, _, wf2, _, _⟩ := hB
        cases (show x = [] from wf)
        cases (show u = [] from wf2)
        have key : ceq 1 f1 l [] 1 f2 m [] = decide (f1 = f2 ∧ l = m) := by
          unfold ceq
          exact decide_eq_decide.mpr (by simp)
        rw [key] at q
        have no : ¬ (f1 = f2 ∧ l = m) → Q (.bl false) H := fun h => by
          rw [decide_eq_false h] at q
          exact q
        clear key
        refine ⟨_, rfl, .ref z2, .ref (C 1), _, _, true, rfl, .own (C 1), tyC T hi hy, T.kk 1 hi 1 hi, _, rfl, iteT ?_⟩
        refine ⟨_, rfl, fld T hz hi (j := 1) rfl rfl ⟨_, rfl, fld T hy hi (j := 1) rfl rfl ⟨rfl, _, rfl, ite2 (fun e1 => ?_) (fun e1 => (no fun z => e1 (decide_eq_true (by rw [z.1]))))⟩⟩⟩
        have E_function := V.str.inj (of_decide_eq_true e1)
        exact ⟨_, rfl, fld T hz hi (j := 2) rfl rfl ⟨_, rfl, fld T hy hi (j := 2) rfl rfl (eq_q PT hp hpm (by rw [show decide (f1 = f2 ∧ l = m) = decide (l = m) from decide_eq_decide.mpr ⟨fun z => z.2, fun zz => ⟨E_function, zz⟩⟩] at q; exact q))⟩⟩
      · have kf : PySem.W.kitOne K (.ref (C j)) (.ref (C 1)) = some false := by
          rw [T.kk j hB.lt 1 hi, decide_eq_false e]
        rw [show ceq 1 f1 l x j f2 m u = false from decide_eq_false fun z => e z.1.symm] at q
        obtain ⟨dy, pm, hy, _⟩ := hB.ex
        exact ⟨_, rfl, .ref z2, .ref (C 1), _, _, false, rfl, .own (C 1), tyC T hB.lt hy, kf, _, rfl, iteF q⟩
    · exact ⟨_, rfl, y, .ref (C 1), _, _, false, rfl, .own (C 1), hT, hk, _, rfl, iteF q⟩
theorem scNeeE : FnScope ["self", "other"] ["self", "other"] (defScope sNeeEq) := ⟨rfl, rfl, rfl, by decide +kernel, rfl, by decide +kernel, by decide +kernel⟩
theorem ok_NeeE {f : Addr} {fd : FuncData} (F : Fun K "__eq__" "Needs.__eq__" sNeeEq f fd) (T : CTxt K mg C) (PT : PTxt K mg CP) (EQ : Md P w K mg base 1 CP "__eq__" (spPlEq K CP)) : FnOk P w K mg base CX0 2 f fd ["self", "other"] (spCEq K CP C 2) := by
  refine F.ok scNeeE (fun vs H Q E h => ?_) (fun cdv A outer s0 H vs Q E hr h => ?_)
  · obtain ⟨p, y, f1, l, x, rfl, _⟩ := h
    rfl
  · obtain ⟨p, y, f1, l, x, rfl, hA, h⟩ := h
    have hi : 2 < 7 := by decide
    have nd := scNeeE.nd
    refine ⟨_, pss_cons (ps_if (pt_not (pt_val (pe_callB call_isi (by rfl) PT.zIsi bt_isi (pa_cons (pv 1) (pa_cons (pe_glob (v := .ref (C 2)) (by rfl) (T.mgC 2 hi) rfl) pa_nil))))) (pss_one (ps_ret pe_bl)) pss_nil)
      (pss_one (ps_ret (pe_and (pe_cmpR op_eq (pe_fld (pv 0) rfl) (pe_fld (pv 1) rfl) (nomark _)) (pe_and (pe_cmpR (op_eqO K rfl EQ (hr.mono (by decide))) (pe_fld (pv 0) rfl) (pe_fld (pv 1) rfl) (nomark _)) (pe_one (pe_cmpR op_eq (pe_fld (pv 0) rfl) (pe_fld (pv 1) rfl) (nomark _))))))), ?_⟩
    obtain ⟨⟨dx, pl, hz, hp⟩, _, _, wf, _, _⟩ := hA
    rcases h with ⟨z2, j, f2, m, u, rfl, hB, q⟩ | ⟨Ty, hT, hk, q⟩
    · by_cases e : j = 2
      · subst e
        obtain ⟨⟨dy, pm, hy, hpm⟩, _, _, wf2, _, _⟩ := hB
        obtain ⟨g, rfl, hg, ng⟩ := wf
        obtain ⟨g', rfl, _, _⟩ := wf2
        have key : ceq 2 f1 l [.str g] 2 f2 m [.str g'] = decide (f1 = f2 ∧ l = m ∧ g = g') := by
          unfold ceq
          exact decide_eq_decide.mpr (by simp)
        rw [key] at q
        have no : ¬ (f1 = f2 ∧ l = m ∧ g = g') → Q (.bl false) H := fun h => by
          rw [decide_eq_false h] at q
          exact q
        clear key
        refine ⟨_, rfl, .ref z2, .ref (C 2), _, _, true, rfl, .own (C 2), tyC T hi hy, T.kk 2 hi 2 hi, _, rfl, iteF ?_⟩
        refine ⟨_, rfl, fld T hz hi (j := 1) rfl rfl ⟨_, rfl, fld T hy hi (j := 1) rfl rfl ⟨rfl, _, rfl, ite2 (fun e1 => ?_) (fun e1 => (no fun z => e1 (decide_eq_true (by rw [z.1]))))⟩⟩⟩
        have E_function := V.str.inj (of_decide_eq_true e1)
        refine ⟨_, rfl, fld T hz hi (j := 2) rfl rfl ⟨_, rfl, fld T hy hi (j := 2) rfl rfl (eq_q PT hp hpm ⟨_, rfl, ite2 (fun e2 => ?_) (fun e2 => no fun z => e2 (decide_eq_true z.2.1))⟩)⟩⟩
        have E_places : l = m := of_decide_eq_true e2
        exact ⟨_, rfl, fld T hz hi (j := 3) rfl rfl ⟨_, rfl, fld T hy hi (j := 3) rfl rfl ⟨rfl, (by rw [show decide (f1 = f2 ∧ l = m ∧ g = g') = decide (V.str g = V.str g') from decide_eq_decide.mpr ⟨fun z => by rw [z.2.2], fun zz => ⟨E_function, E_places, V.str.inj zz⟩⟩] at q; exact q)⟩⟩⟩
      · have kf : PySem.W.kitOne K (.ref (C j)) (.ref (C 2)) = some false := by
          rw [T.kk j hB.lt 2 hi, decide_eq_false e]
        rw [show ceq 2 f1 l x j f2 m u = false from decide_eq_false fun z => e z.1.symm] at q
        obtain ⟨dy, pm, hy, _⟩ := hB.ex
        exact ⟨_, rfl, .ref z2, .ref (C 2), _, _, false, rfl, .own (C 2), tyC T hB.lt hy, kf, _, rfl, iteT q⟩
    · exact ⟨_, rfl, y, .ref (C 2), _, _, false, rfl, .own (C 2), hT, hk, _, rfl, iteT q⟩
theorem scSprE : FnScope ["self", "other"] ["self", "other"] (defScope sSprEq) := ⟨rfl, rfl, rfl, by decide +kernel, rfl, by decide +kernel, by decide +kernel⟩
theorem ok_SprE {f : Addr} {fd : FuncData} (F : Fun K "__eq__" "Spreads.__eq__" sSprEq f fd) (T : CTxt K mg C) (PT : PTxt K mg CP) (EQ : Md P w K mg base 1 CP "__eq__" (spPlEq K CP)) : FnOk P w K mg base CX0 2 f fd ["self", "other"] (spCEq K CP C 3) := by
  refine F.ok scSprE (fun vs H Q E h => ?_) (fun cdv A outer s0 H vs Q E hr h => ?_)
  · obtain ⟨p, y, f1, l, x, rfl, _⟩ := h
    rfl
  · obtain ⟨p, y, f1, l, x, rfl, hA, h⟩ := h
    have hi : 3 < 7 := by decide
    have nd := scSprE.nd
    refine ⟨_, pss_cons (ps_if (pt_not (pt_val (pe_callB call_isi (by rfl) PT.zIsi bt_isi (pa_cons (pv 1) (pa_cons (pe_glob (v := .ref (C 3)) (by rfl) (T.mgC 3 hi) rfl) pa_nil))))) (pss_one (ps_ret pe_bl)) pss_nil)
      (pss_one (ps_ret (pe_and (pe_cmpR op_eq (pe_fld (pv 0) rfl) (pe_fld (pv 1) rfl) (nomark _)) (pe_and (pe_cmpR (op_eqO K rfl EQ (hr.mono (by decide))) (pe_fld (pv 0) rfl) (pe_fld (pv 1) rfl) (nomark _)) (pe_one (pe_cmpR op_eq (pe_fld (pv 0) rfl) (pe_fld (pv 1) rfl) (nomark _))))))), ?_⟩
    obtain ⟨⟨dx, pl, hz, hp⟩, _, _, wf, _, _⟩ := hA
    rcases h with ⟨z2, j, f2, m, u, rfl, hB, q⟩ | ⟨Ty, hT, hk, q⟩
    · by_cases e : j = 3
      · subst e
        obtain ⟨⟨dy, pm, hy, hpm⟩, _, _, wf2, _, _⟩ := hB
        obtain ⟨w, rfl, hs⟩ := wf
        obtain ⟨w', rfl, _⟩ := wf2
        have key : ceq 3 f1 l [.str w] 3 f2 m [.str w'] = decide (f1 = f2 ∧ l = m ∧ w = w') := by
          unfold ceq
          exact decide_eq_decide.mpr (by simp)
        rw [key] at q
        have no : ¬ (f1 = f2 ∧ l = m ∧ w = w') → Q (.bl false) H := fun h => by
          rw [decide_eq_false h] at q
          exact q
        clear key
        refine ⟨_, rfl, .ref z2, .ref (C 3), _, _, true, rfl, .own (C 3), tyC T hi hy, T.kk 3 hi 3 hi, _, rfl, iteF ?_⟩
        refine ⟨_, rfl, fld T hz hi (j := 1) rfl rfl ⟨_, rfl, fld T hy hi (j := 1) rfl rfl ⟨rfl, _, rfl, ite2 (fun e1 => ?_) (fun e1 => (no fun z => e1 (decide_eq_true (by rw [z.1]))))⟩⟩⟩
        have E_function := V.str.inj (of_decide_eq_true e1)
        refine ⟨_, rfl, fld T hz hi (j := 2) rfl rfl ⟨_, rfl, fld T hy hi (j := 2) rfl rfl (eq_q PT hp hpm ⟨_, rfl, ite2 (fun e2 => ?_) (fun e2 => no fun z => e2 (decide_eq_true z.2.1))⟩)⟩⟩
        have E_places : l = m := of_decide_eq_true e2
        exact ⟨_, rfl, fld T hz hi (j := 3) rfl rfl ⟨_, rfl, fld T hy hi (j := 3) rfl rfl ⟨rfl, (by rw [show decide (f1 = f2 ∧ l = m ∧ w = w') = decide (V.str w = V.str w') from decide_eq_decide.mpr ⟨fun z => by rw [z.2.2], fun zz => ⟨E_function, E_places, V.str.inj zz⟩⟩] at q; exact q)⟩⟩⟩
      · have kf : PySem.W.kitOne K (.ref (C j)) (.ref (C 3)) = some false := by
          rw [T.kk j hB.lt 3 hi, decide_eq_false e]
        rw [show ceq 3 f1 l x j f2 m u = false from decide_eq_false fun z => e z.1.symm] at q
        obtain ⟨dy, pm, hy, _⟩ := hB.ex
        exact ⟨_, rfl, .ref z2, .ref (C 3), _, _, false, rfl, .own (C 3), tyC T hB.lt hy, kf, _, rfl, iteT q⟩
    · exact ⟨_, rfl, y, .ref (C 3), _, _, false, rfl, .own (C 3), hT, hk, _, rfl, iteT q⟩
theorem scBouE : FnScope ["self", "other", "same_line"] ["self", "other"] (defScope sBouEq) := ⟨rfl, rfl, rfl, by decide +kernel, rfl, by decide +kernel, by decide +kernel⟩
theorem ok_BouE {f : Addr} {fd : FuncData} (F : Fun K "__eq__" "Bound.__eq__" sBouEq f fd) (T : CTxt K mg C) (PT : PTxt K mg CP) (EQ : Md P w K mg base 1 CP "__eq__" (spPlEq K CP)) : FnOk P w K mg base CX0 2 f fd ["self", "other"] (spCEq K CP C 4) := by
  refine F.ok scBouE (fun vs H Q E h => ?_) (fun cdv A outer s0 H vs Q E hr h => ?_)
  · obtain ⟨p, y, f1, l, x, rfl, _⟩ := h
    rfl
  · obtain ⟨p, y, f1, l, x, rfl, hA, h⟩ := h
    have hi : 4 < 7 := by decide
    have nd := scBouE.nd
    refine ⟨_, pss_cons (ps_if (PW.pt (pw_or (pt_not (pt_val (pe_callB call_isi (by rfl) PT.zIsi bt_isi (pa_cons (pv 1) (pa_cons (pe_glob (v := .ref (C 4)) (by rfl) (T.mgC 4 hi) rfl) pa_nil))))) (pw_or1 (pt_cmpR op_ne (pe_fld (pv 0) rfl) (pe_fld (pv 1) rfl) (nomark _))))) (pss_one (ps_ret pe_bl)) pss_nil)
      (Evl.pss_cut (ps_set (i := 2) nd rfl (.inl rfl) (pe_and (pe_cmpR op_eq (pe_fld (pv 0) rfl) (pe_fld (pv 1) rfl) (nomark _)) (pe_one (pe_cmpR op_eq (pe_fld (pv 0) rfl) (pe_fld (pv 1) rfl) (nomark _)))))
      (pss_one (ps_ret (pe_and (pv 2) (pe_and (pe_cmpR op_eq (pe_fld (pv 0) rfl) (pe_fld (pv 1) rfl) (nomark _)) (pe_one (pe_cmpR (op_eqO K rfl EQ (hr.mono (by decide))) (pe_fld (pv 0) rfl) (pe_fld (pv 1) rfl) (nomark _)))))))), ?_⟩
    obtain ⟨⟨dx, pl, hz, hp⟩, _, _, wf, _, _⟩ := hA
    rcases h with ⟨z2, j, f2, m, u, rfl, hB, q⟩ | ⟨Ty, hT, hk, q⟩
    · by_cases e : j = 4
      · subst e
        obtain ⟨⟨dy, pm, hy, hpm⟩, _, _, wf2, _, _⟩ := hB
        obtain ⟨s, a, b, rfl, hs, na, nb⟩ := wf
        obtain ⟨s', a', b', rfl, _, _, _⟩ := wf2
        have key : ceq 4 f1 l [.str s, .int a, .int b] 4 f2 m [.str s', .int a', .int b'] = decide (f1 = f2 ∧ l = m ∧ s = s' ∧ a = a' ∧ b = b') := by
          unfold ceq
          exact decide_eq_decide.mpr (by simp)
        rw [key] at q
        have no : ¬ (f1 = f2 ∧ l = m ∧ s = s' ∧ a = a' ∧ b = b') → Q (.bl false) H := fun h => by
          rw [decide_eq_false h] at q
          exact q
        clear key
        refine ⟨_, rfl, .ref z2, .ref (C 4), _, _, true, rfl, .own (C 4), tyC T hi hy, T.kk 4 hi 4 hi, _, rfl, iteF ?_⟩
        refine ⟨_, rfl, fld T hz hi (j := 3) rfl rfl ⟨_, rfl, fld T hy hi (j := 3) rfl rfl ⟨rfl, _, rfl, ?_⟩⟩⟩
        by_cases e0 : V.str s = V.str s'
        · have E_sign := V.str.inj e0
          refine iteNS e0 ?_
          refine ⟨fun σ' H' => σ' = [some (V.ref p), some (.ref z2), some (.bl (decide (a = a' ∧ b = b')))] ∧ H' = H, ?_, ?_⟩
          · refine ⟨_, rfl, fld T hz hi (j := 4) rfl rfl ⟨_, rfl, fld T hy hi (j := 4) rfl rfl ⟨rfl, _, rfl, ite2 (fun e1 => ?_) (fun e1 => ?_)⟩⟩⟩
            · refine ⟨_, rfl, fld T hz hi (j := 5) rfl rfl ⟨_, rfl, fld T hy hi (j := 5) rfl rfl ⟨rfl, ?_, rfl⟩⟩⟩
              rw [show decide (a = a' ∧ b = b') = decide (V.int b = V.int b') from decide_eq_decide.mpr ⟨fun z => by rw [z.2], fun zz => ⟨V.int.inj (of_decide_eq_true e1), V.int.inj zz⟩⟩]
              rfl
            · refine ⟨?_, rfl⟩
              rw [decide_eq_false (fun z : a = a' ∧ b = b' => e1 (decide_eq_true (by rw [z.1])))]
              rfl
          rintro σ' H' ⟨rfl, rfl⟩
          refine ⟨_, rfl, _, rfl, ite2 (fun e1 => ?_) (fun e1 => no fun z => e1 (decide_eq_true ⟨z.2.2.2.1, z.2.2.2.2⟩))⟩
          obtain ⟨E_slope, E_height⟩ := of_decide_eq_true e1
          refine ⟨_, rfl, fld T hz hi (j := 1) rfl rfl ⟨_, rfl, fld T hy hi (j := 1) rfl rfl ⟨rfl, _, rfl, ite2 (fun e2 => ?_) (fun e2 => (no fun z => e2 (decide_eq_true (by rw [z.1]))))⟩⟩⟩
          have E_function := V.str.inj (of_decide_eq_true e2)
          exact ⟨_, rfl, fld T hz hi (j := 2) rfl rfl ⟨_, rfl, fld T hy hi (j := 2) rfl rfl (eq_q PT hp hpm (by rw [show decide (f1 = f2 ∧ l = m ∧ s = s' ∧ a = a' ∧ b = b') = decide (l = m) from decide_eq_decide.mpr ⟨fun z => z.2.1, fun zz => ⟨E_function, zz, E_sign, E_slope, E_height⟩⟩] at q; exact q))⟩⟩
        · rw [decide_eq_false e0]
          exact iteT (no fun z => e0 (by rw [z.2.2.1]))
      · have kf : PySem.W.kitOne K (.ref (C j)) (.ref (C 4)) = some false := by
          rw [T.kk j hB.lt 4 hi, decide_eq_false e]
        rw [show ceq 4 f1 l x j f2 m u = false from decide_eq_false fun z => e z.1.symm] at q
        obtain ⟨dy, pm, hy, _⟩ := hB.ex
        exact ⟨_, rfl, .ref z2, .ref (C 4), _, _, false, rfl, .own (C 4), tyC T hB.lt hy, kf, _, rfl, iteT q⟩
    · exact ⟨_, rfl, y, .ref (C 4), _, _, false, rfl, .own (C 4), hT, hk, _, rfl, iteT q⟩
theorem scPaiE : FnScope ["self", "other", "same_functions", "same_line"] ["self", "other"] (defScope sPaiEq) := ⟨rfl, rfl, rfl, by decide +kernel, rfl, by decide +kernel, by decide +kernel⟩
theorem ok_PaiE {f : Addr} {fd : FuncData} (F : Fun K "__eq__" "Pair.__eq__" sPaiEq f fd) (T : CTxt K mg C) (PT : PTxt K mg CP) (EQ : Md P w K mg base 1 CP "__eq__" (spPlEq K CP)) : FnOk P w K mg base CX0 2 f fd ["self", "other"] (spCEq K CP C 5) := by
  refine F.ok scPaiE (fun vs H Q E h => ?_) (fun cdv A outer s0 H vs Q E hr h => ?_)
  · obtain ⟨p, y, f1, l, x, rfl, _⟩ := h
    rfl
  · obtain ⟨p, y, f1, l, x, rfl, hA, h⟩ := h
    have hi : 5 < 7 := by decide
    have nd := scPaiE.nd
    refine ⟨_, pss_cons (ps_if (PW.pt (pw_or (pt_not (pt_val (pe_callB call_isi (by rfl) PT.zIsi bt_isi (pa_cons (pv 1) (pa_cons (pe_glob (v := .ref (C 5)) (by rfl) (T.mgC 5 hi) rfl) pa_nil))))) (pw_or1 (pt_cmpR op_ne (pe_fld (pv 0) rfl) (pe_fld (pv 1) rfl) (nomark _))))) (pss_one (ps_ret pe_bl)) pss_nil)
      (Evl.pss_cut (ps_set (i := 2) nd rfl (.inl rfl) (pe_and (pe_cmpR op_eq (pe_fld (pv 0) rfl) (pe_fld (pv 1) rfl) (nomark _)) (pe_one (pe_cmpR op_eq (pe_fld (pv 0) rfl) (pe_fld (pv 1) rfl) (nomark _)))))
      (Evl.pss_cut (ps_set (i := 3) nd rfl (.inl rfl) (pe_and (pe_cmpR op_eq (pe_fld (pv 0) rfl) (pe_fld (pv 1) rfl) (nomark _)) (pe_one (pe_cmpR op_eq (pe_fld (pv 0) rfl) (pe_fld (pv 1) rfl) (nomark _)))))
      (pss_one (ps_ret (pe_and (pv 2) (pe_and (pv 3) (pe_one (pe_cmpR (op_eqO K rfl EQ (hr.mono (by decide))) (pe_fld (pv 0) rfl) (pe_fld (pv 1) rfl) (nomark _))))))))), ?_⟩
    obtain ⟨⟨dx, pl, hz, hp⟩, _, _, wf, _, _⟩ := hA
    rcases h with ⟨z2, j, f2, m, u, rfl, hB, q⟩ | ⟨Ty, hT, hk, q⟩
    · by_cases e : j = 5
      · subst e
        obtain ⟨⟨dy, pm, hy, hpm⟩, _, _, wf2, _, _⟩ := hB
        obtain ⟨s, g, a, b, rfl, hs, hg, ng, na, nb⟩ := wf
        obtain ⟨s', g', a', b', rfl, _, _, _, _, _⟩ := wf2
        have key : ceq 5 f1 l [.str s, .str g, .int a, .int b] 5 f2 m [.str s', .str g', .int a', .int b'] = decide (f1 = f2 ∧ l = m ∧ s = s' ∧ g = g' ∧ a = a' ∧ b = b') := by
          unfold ceq
          exact decide_eq_decide.mpr (by simp)
        rw [key] at q
        have no : ¬ (f1 = f2 ∧ l = m ∧ s = s' ∧ g = g' ∧ a = a' ∧ b = b') → Q (.bl false) H := fun h => by
          rw [decide_eq_false h] at q
          exact q
        clear key
        refine ⟨_, rfl, .ref z2, .ref (C 5), _, _, true, rfl, .own (C 5), tyC T hi hy, T.kk 5 hi 5 hi, _, rfl, iteF ?_⟩
        refine ⟨_, rfl, fld T hz hi (j := 3) rfl rfl ⟨_, rfl, fld T hy hi (j := 3) rfl rfl ⟨rfl, _, rfl, ?_⟩⟩⟩
        by_cases e0 : V.str s = V.str s'
        · have E_sign := V.str.inj e0
          refine iteNS e0 ?_
          refine ⟨fun σ' H' => σ' = [some (V.ref p), some (.ref z2), some (.bl (decide (f1 = f2 ∧ g = g'))), none] ∧ H' = H, ?_, ?_⟩
          · refine ⟨_, rfl, fld T hz hi (j := 1) rfl rfl ⟨_, rfl, fld T hy hi (j := 1) rfl rfl ⟨rfl, _, rfl, ite2 (fun e1 => ?_) (fun e1 => ?_)⟩⟩⟩
            · refine ⟨_, rfl, fld T hz hi (j := 4) rfl rfl ⟨_, rfl, fld T hy hi (j := 4) rfl rfl ⟨rfl, ?_, rfl⟩⟩⟩
              rw [show decide (f1 = f2 ∧ g = g') = decide (V.str g = V.str g') from decide_eq_decide.mpr ⟨fun z => by rw [z.2], fun zz => ⟨V.str.inj (of_decide_eq_true e1), V.str.inj zz⟩⟩]
              rfl
            · refine ⟨?_, rfl⟩
              rw [decide_eq_false (fun z : f1 = f2 ∧ g = g' => e1 (decide_eq_true (by rw [z.1])))]
              rfl
          rintro σ' H' ⟨rfl, rfl⟩
          refine ⟨fun σ' H'' => σ' = [some (V.ref p), some (.ref z2), some (.bl (decide (f1 = f2 ∧ g = g'))), some (.bl (decide (a = a' ∧ b = b')))] ∧ H'' = H', ?_, ?_⟩
          · refine ⟨_, rfl, fld T hz hi (j := 5) rfl rfl ⟨_, rfl, fld T hy hi (j := 5) rfl rfl ⟨rfl, _, rfl, ite2 (fun e1 => ?_) (fun e1 => ?_)⟩⟩⟩
            · refine ⟨_, rfl, fld T hz hi (j := 6) rfl rfl ⟨_, rfl, fld T hy hi (j := 6) rfl rfl ⟨rfl, ?_, rfl⟩⟩⟩
              rw [show decide (a = a' ∧ b = b') = decide (V.int b = V.int b') from decide_eq_decide.mpr ⟨fun z => by rw [z.2], fun zz => ⟨V.int.inj (of_decide_eq_true e1), V.int.inj zz⟩⟩]
              rfl
            · refine ⟨?_, rfl⟩
              rw [decide_eq_false (fun z : a = a' ∧ b = b' => e1 (decide_eq_true (by rw [z.1])))]
              rfl
          rintro σ' H' ⟨rfl, rfl⟩
          refine ⟨_, rfl, _, rfl, ite2 (fun e1 => ?_) (fun e1 => no fun z => e1 (decide_eq_true ⟨z.1, z.2.2.2.1⟩))⟩
          obtain ⟨E_function, E_other⟩ := of_decide_eq_true e1
          refine ⟨_, rfl, _, rfl, ite2 (fun e2 => ?_) (fun e2 => no fun z => e2 (decide_eq_true ⟨z.2.2.2.2.1, z.2.2.2.2.2⟩))⟩
          obtain ⟨E_slope, E_height⟩ := of_decide_eq_true e2
          exact ⟨_, rfl, fld T hz hi (j := 2) rfl rfl ⟨_, rfl, fld T hy hi (j := 2) rfl rfl (eq_q PT hp hpm (by rw [show decide (f1 = f2 ∧ l = m ∧ s = s' ∧ g = g' ∧ a = a' ∧ b = b') = decide (l = m) from decide_eq_decide.mpr ⟨fun z => z.2.1, fun zz => ⟨E_function, zz, E_sign, E_other, E_slope, E_height⟩⟩] at q; exact q))⟩⟩
        · rw [decide_eq_false e0]
          exact iteT (no fun z => e0 (by rw [z.2.2.1]))
      · have kf : PySem.W.kitOne K (.ref (C j)) (.ref (C 5)) = some false := by
          rw [T.kk j hB.lt 5 hi, decide_eq_false e]
        rw [show ceq 5 f1 l x j f2 m u = false from decide_eq_false fun z => e z.1.symm] at q
        obtain ⟨dy, pm, hy, _⟩ := hB.ex
        exact ⟨_, rfl, .ref z2, .ref (C 5), _, _, false, rfl, .own (C 5), tyC T hB.lt hy, kf, _, rfl, iteT q⟩
    · exact ⟨_, rfl, y, .ref (C 5), _, _, false, rfl, .own (C 5), hT, hk, _, rfl, iteT q⟩
theorem scSteE : FnScope ["self", "other"] ["self", "other"] (defScope sSteEq) := ⟨rfl, rfl, rfl, by decide +kernel, rfl, by decide +kernel, by decide +kernel⟩
theorem ok_SteE {f : Addr} {fd : FuncData} (F : Fun K "__eq__" "Step.__eq__" sSteEq f fd) (T : CTxt K mg C) (PT : PTxt K mg CP) (EQ : Md P w K mg base 1 CP "__eq__" (spPlEq K CP)) : FnOk P w K mg base CX0 2 f fd ["self", "other"] (spCEq K CP C 6) := by
  refine F.ok scSteE (fun vs H Q E h => ?_) (fun cdv A outer s0 H vs Q E hr h => ?_)
  · obtain ⟨p, y, f1, l, x, rfl, _⟩ := h
    rfl
  · obtain ⟨p, y, f1, l, x, rfl, hA, h⟩ := h
    have hi : 6 < 7 := by decide
    have nd := scSteE.nd
    refine ⟨_, pss_cons (ps_if (PW.pt (pw_or (pt_not (pt_val (pe_callB call_isi (by rfl) PT.zIsi bt_isi (pa_cons (pv 1) (pa_cons (pe_glob (v := .ref (C 6)) (by rfl) (T.mgC 6 hi) rfl) pa_nil))))) (pw_or1 (pt_cmpR op_ne (pe_fld (pv 0) rfl) (pe_fld (pv 1) rfl) (nomark _))))) (pss_one (ps_ret pe_bl)) pss_nil)
      (pss_one (ps_ret (pe_and (pe_cmpR op_eq (pe_fld (pv 0) rfl) (pe_fld (pv 1) rfl) (nomark _)) (pe_and (pe_cmpR (op_eqO K rfl EQ (hr.mono (by decide))) (pe_fld (pv 0) rfl) (pe_fld (pv 1) rfl) (nomark _)) (pe_one (pe_cmpR op_eq (pe_fld (pv 0) rfl) (pe_fld (pv 1) rfl) (nomark _))))))), ?_⟩
    obtain ⟨⟨dx, pl, hz, hp⟩, _, _, wf, _, _⟩ := hA
    rcases h with ⟨z2, j, f2, m, u, rfl, hB, q⟩ | ⟨Ty, hT, hk, q⟩
    · by_cases e : j = 6
      · subst e
        obtain ⟨⟨dy, pm, hy, hpm⟩, _, _, wf2, _, _⟩ := hB
        obtain ⟨s, b, rfl, hs, nb⟩ := wf
        obtain ⟨s', b', rfl, _, _⟩ := wf2
        have key : ceq 6 f1 l [.str s, .int b] 6 f2 m [.str s', .int b'] = decide (f1 = f2 ∧ l = m ∧ s = s' ∧ b = b') := by
          unfold ceq
          exact decide_eq_decide.mpr (by simp)
        rw [key] at q
        have no : ¬ (f1 = f2 ∧ l = m ∧ s = s' ∧ b = b') → Q (.bl false) H := fun h => by
          rw [decide_eq_false h] at q
          exact q
        clear key
        refine ⟨_, rfl, .ref z2, .ref (C 6), _, _, true, rfl, .own (C 6), tyC T hi hy, T.kk 6 hi 6 hi, _, rfl, iteF ?_⟩
        refine ⟨_, rfl, fld T hz hi (j := 3) rfl rfl ⟨_, rfl, fld T hy hi (j := 3) rfl rfl ⟨rfl, _, rfl, ?_⟩⟩⟩
        by_cases e0 : V.str s = V.str s'
        · have E_sign := V.str.inj e0
          refine iteNS e0 ?_
          refine ⟨_, rfl, fld T hz hi (j := 1) rfl rfl ⟨_, rfl, fld T hy hi (j := 1) rfl rfl ⟨rfl, _, rfl, ite2 (fun e1 => ?_) (fun e1 => (no fun z => e1 (decide_eq_true (by rw [z.1]))))⟩⟩⟩
          have E_function := V.str.inj (of_decide_eq_true e1)
          refine ⟨_, rfl, fld T hz hi (j := 2) rfl rfl ⟨_, rfl, fld T hy hi (j := 2) rfl rfl (eq_q PT hp hpm ⟨_, rfl, ite2 (fun e2 => ?_) (fun e2 => no fun z => e2 (decide_eq_true z.2.1))⟩)⟩⟩
          have E_places : l = m := of_decide_eq_true e2
          exact ⟨_, rfl, fld T hz hi (j := 4) rfl rfl ⟨_, rfl, fld T hy hi (j := 4) rfl rfl ⟨rfl, (by rw [show decide (f1 = f2 ∧ l = m ∧ s = s' ∧ b = b') = decide (V.int b = V.int b') from decide_eq_decide.mpr ⟨fun z => by rw [z.2.2.2], fun zz => ⟨E_function, E_places, E_sign, V.int.inj zz⟩⟩] at q; exact q)⟩⟩⟩
        · rw [decide_eq_false e0]
          exact iteT (no fun z => e0 (by rw [z.2.2.1]))
      · have kf : PySem.W.kitOne K (.ref (C j)) (.ref (C 6)) = some false := by
          rw [T.kk j hB.lt 6 hi, decide_eq_false e]
        rw [show ceq 6 f1 l x j f2 m u = false from decide_eq_false fun z => e z.1.symm] at q
        obtain ⟨dy, pm, hy, _⟩ := hB.ex
        exact ⟨_, rfl, .ref z2, .ref (C 6), _, _, false, rfl, .own (C 6), tyC T hB.lt hy, kf, _, rfl, iteT q⟩
    · exact ⟨_, rfl, y, .ref (C 6), _, _, false, rfl, .own (C 6), hT, hk, _, rfl, iteT q⟩
end
end OR

namespace OR
open PySem PySem.Spec PyProof.Rows L2
open TL (tl numL)
theorem lineT_len {a b : Int} (ha : Num a) (hb : Num b) : (lineT a b).length ≤ 250 := by
  unfold lineT
  have h1 := dTl (n := b) (k := 90) (by decide) hb
  have h2 := dTl (n := absI b) (k := 90) (by decide) (by rw [absI_nat]; exact hb)
  have h3 := rise_len ha
  split
  · omega
  · split
    · omega
    · rw [len_app, len_app]
      have : (if 0 < b then (" + " : Str) else (" - " : Str)).length = 3 := by split <;> decide
      omega
theorem kName_len : ∀ i, (kName i).length ≤ 8
  | 0 => by decide
  | 1 => by decide
  | 2 => by decide
  | 3 => by decide
  | 4 => by decide
  | 5 => by decide
  | _ + 6 => by show ("step" : Str).length ≤ 8; decide
theorem textOf_len {l : List Row} (ok : ∀ r ∈ l, okRow r = true) (hl : l.length ≤ 20) : (textOf l).length ≤ 2020 := by
  unfold textOf
  split
  · decide
  · have := jn_len (l.map sT) (fun w hw => by
      obtain ⟨r, hr, rfl⟩ := List.mem_map.mp hw
      exact Nat.le_trans (sT_len (ok r hr)) (by decide))
    rw [List.length_map] at this
    omega
theorem begT_len {i : Nat} {f : Str} {l : List Row} (hw : Word f) (ok : ∀ r ∈ l, okRow r = true) (hl : l.length ≤ 20) : (begT i f l).length ≤ 2100 := by
  unfold begT
  rw [len_app, len_app, len_app, len_app]
  have h1 := kName_len i
  have h2 := hw.len
  have h3 := textOf_len ok hl
  have : (" " : Str).length = 1 := by decide
  omega
theorem sign_len {s : Str} (h : isSign s) : s.length ≤ 2 := by
  rcases h with e | e | e <;> subst e <;> decide
theorem way_len {s : Str} (h : isWay s) : s.length ≤ 4 := by
  rcases h with e | e <;> subst e <;> decide
theorem cutS_len (t : Str) : (cutS t (some 1) none).length ≤ t.length := by
  show (((t.cps.toList.drop (HT.sIx t.length 0 (some 1))).take (HT.sIx t.length t.length none - HT.sIx t.length 0 (some 1))).toArray).size ≤ t.cps.size
  rw [List.size_toArray, List.length_take, List.length_drop, Array.length_toList]
  omega

theorem addT_len {a b : Int} (ha : Num a) (hb : Num b) : (addT (lineT a b)).length ≤ 270 := by
  have h1 := lineT_len ha hb
  have h2 := cutS_len (lineT a b)
  unfold addT
  split
  · decide
  · split
    · rw [len_app]
      show 3 + (cutS (lineT a b) (some 1) none).length ≤ 270
      omega
    · rw [len_app]
      show 3 + (lineT a b).length ≤ 270
      omega
theorem b1l : (" " : Str).length = 1 := by decide
section
variable {P : Program} {w : World} {K : PySem.W.Frag} {mg : Str → Option Value} {base : Heap} {C : Nat → Addr} {CP CL : Addr} {ts tw : Addr}
theorem scBeg : FnScope ["clause"] ["clause"] (defScope sBegin) := ⟨rfl, rfl, rfl, by decide +kernel, rfl, by decide +kernel, by decide +kernel⟩
theorem ok_begin {f : Addr} {fd : FuncData} (F : Fun K "_beginning" "_beginning" sBegin f fd) (T : CTxt K mg C) (PT : PTxt K mg CP) (TE : Mt P w K mg base 2 CP "text" ["self"] (spPText CP)) : FnOk P w K mg base CX0 3 f fd ["clause"] (spBegin CP C) := by
  refine F.ok scBeg (fun vs H Q E h => ?_) (fun cdv A outer s0 H vs Q E hr h => ?_)
  · obtain ⟨z, i, f', l, x, rfl, _⟩ := h
    rfl
  · obtain ⟨z, i, f1, l, x, rfl, hA, q⟩ := h
    refine ⟨_, pss_one (ps_ret (pe_joined (.cons (pe_fmt (pe_fld (pv 0) rfl)) (.cons pe_str (.cons (pe_fmt (pe_fld (pv 0) rfl)) (.cons pe_str (.cons (pe_fmt (pe_mt0 TE PT.cl hr (by decide) (pe_fld (pv 0) rfl))) .nil))))))), ?_⟩
    obtain ⟨⟨dx, pl, hz, hp⟩, hi, hw, wf, ok, hl⟩ := hA
    have h1 := kName_len i
    have h2 := hw.len
    have h3 := textOf_len ok hl
    have kT : ∀ t f b : Addr, (pFl t f b).lookup ("text" : Str) = none := fun _ _ _ => pFl_no _ _ _ (by decide +kernel) (by decide +kernel) (by decide +kernel)
    obtain ⟨_, dp, t6, f6, b6, M6, hp6, _⟩ := id hp
    have e0 : (Str.empty ++ kName i).length = (kName i).length := by rw [emp_app]
    have l1 : ((Str.empty ++ kName i) ++ (" " : Str)).length ≤ 20 := by rw [len_app, e0, b1l]; omega
    have l2 : (((Str.empty ++ kName i) ++ (" " : Str)) ++ f1).length ≤ 30 := by rw [len_app]; omega
    have l3 : ((((Str.empty ++ kName i) ++ (" " : Str)) ++ f1) ++ (" " : Str)).length ≤ 40 := by rw [len_app, b1l]; omega
    refine ⟨_, rfl, fld T hz hi (j := 0) rfl rfl (.inl ⟨_, rfl, sz1 (by omega), _, rfl, sz1 (by omega), _, rfl, sz1 (by omega), ?_⟩)⟩
    refine ⟨_, rfl, fld T hz hi (j := 1) rfl rfl (.inl ⟨_, rfl, sz1 (by omega), _, rfl, sz1 (by omega), _, rfl, sz1 (by omega), ?_⟩)⟩
    refine ⟨_, rfl, fld T hz hi (j := 2) rfl rfl ⟨pl, dp, _, rfl, hp6, kT _ _ _, pl, l, rfl, hp, ok, by omega, fun H1 S1 => .inl ⟨_, rfl, sz1 (by omega), _, rfl, sz1 ?_, ?_⟩⟩⟩
    · rw [len_app]
      omega
    · have q1 := q H1 S1
      unfold begT at q1
      rw [emp_app]
      exact q1
theorem scAd : FnScope ["line", "text"] ["line"] (defScope sAdded) := ⟨rfl, rfl, rfl, by decide +kernel, rfl, by decide +kernel, by decide +kernel⟩
theorem ok_added {f : Addr} {fd : FuncData} (F : Fun K "_added_text" "_added_text" sAdded f fd) (LT : LTxt K mg CL) (TE : Mt P w K mg base 3 CL "text" ["self"] (spText CL)) : FnOk P w K mg base CX0 4 f fd ["line"] (spAdded CL) := by
  refine F.ok scAd (fun vs H Q E h => ?_) (fun cdv A outer s0 H vs Q E hr h => ?_)
  · obtain ⟨x, a, b, rfl, _⟩ := h
    rfl
  · obtain ⟨x, a, b, rfl, hx, ha, hb, q⟩ := h
    have nd := scAd.nd
    refine ⟨_, pss_cons (ps_set (i := 1) nd rfl (.inl rfl) (pe_mt0 TE LT.cl hr (by decide) (pv 0)))
      (pss_cons (ps_if (pt_cmpR op_eq (pv 1) pe_str (nomark _)) (pss_one (ps_ret pe_str)) pss_nil)
      (pss_one (ps_ret (pe_ifExp (pt_val (pe_m1 PySem.F.slot_str_startswith PySem.F.type_str_startswith mt_startswith (pv 1) pe_str))
        (pe_joined (.cons pe_str (.cons (pe_fmt (pe_slice sl_str (pv 1) (po_some pe_int) po_none)) .nil))) (pe_joined (.cons pe_str (.cons (pe_fmt (pv 1)) .nil))))))), ?_⟩
    have ll := lineT_len ha hb
    have lc := cutS_len (lineT a b)
    obtain ⟨dx, hx'⟩ := id hx
    refine ⟨_, rfl, x, dx, _, rfl, hx', lFl_no a b (by decide +kernel) (by decide +kernel), x, a, b, rfl, hx, ha, hb, fun H1 S1 => ?_⟩
    have q1 := q H1 S1
    unfold addT at q1
    refine ⟨_, rfl, rfl, _, rfl, ite2 (fun e => ?_) (fun e => ?_)⟩
    · rw [if_pos (V.str.inj (of_decide_eq_true e))] at q1
      exact q1
    · rw [if_neg (fun z => e (decide_eq_true (by rw [z])))] at q1
      refine ⟨_, rfl, ⟨_, rfl⟩, _, _, rfl, rfl, _, rfl, ?_⟩
      by_cases hs : Txt.startswith (lineT a b) ("-" : Str) = true
      · rw [if_pos hs] at q1
        rw [hs]
        refine iteT ⟨_, rfl, by decide, _, rfl, _, rfl, _, rfl, sz1 (by omega), .inl ⟨_, rfl, sz1 (by omega), _, rfl, sz1 ?_, ?_⟩⟩
        · rw [emp_app, len_app]
          show 3 + (cutS (lineT a b) (some 1) none).length ≤ 20000
          omega
        · rw [emp_app]
          exact q1
      · rw [if_neg hs] at q1
        have hs' : Txt.startswith (lineT a b) ("-" : Str) = false := by simpa using hs
        rw [hs']
        refine iteF ⟨_, rfl, by decide, _, rfl, .inl ⟨_, rfl, sz1 (by omega), _, rfl, sz1 ?_, ?_⟩⟩
        · rw [emp_app, len_app]
          show 3 + (lineT a b).length ≤ 20000
          omega
        · rw [emp_app]
          exact q1
theorem scAnsX : FnScope ["self"] ["self"] (defScope sAnsTxt) := ⟨rfl, rfl, rfl, by decide +kernel, rfl, by decide +kernel, by decide +kernel⟩
theorem ok_AnsX {f : Addr} {fd : FuncData} (F : Fun K "text" "Answers.text" sAnsTxt f fd) (T : CTxt K mg C) (BG : Cl P w K mg base 3 "_beginning" ["clause"] (spBegin CP C)) : FnOk P w K mg base CX0 5 f fd ["self"] (spCText CP C 0) := by
  refine F.ok scAnsX (fun vs H Q E h => ?_) (fun cdv A outer s0 H vs Q E hr h => ?_)
  · obtain ⟨z, f1, l, x, rfl, _⟩ := h
    rfl
  · obtain ⟨z, f1, l, x, rfl, hA, q⟩ := h
    refine ⟨_, pss_one (ps_ret (pe_cl BG hr (by decide) (by rfl) (pa_cons (pv 0) pa_nil))), ?_⟩
    have hA' := hA
    obtain ⟨⟨dx, pl, hz, hp⟩, hi, hw, wf, ok, hl⟩ := hA
    have lb := begT_len (i := 0) hw ok hl
    cases (show x = [] from wf)
    exact ⟨_, rfl, z, 0, f1, l, _, rfl, hA', q⟩
theorem scRefX : FnScope ["self"] ["self"] (defScope sRefTxt) := ⟨rfl, rfl, rfl, by decide +kernel, rfl, by decide +kernel, by decide +kernel⟩
theorem ok_RefX {f : Addr} {fd : FuncData} (F : Fun K "text" "Refuses.text" sRefTxt f fd) (T : CTxt K mg C) (BG : Cl P w K mg base 3 "_beginning" ["clause"] (spBegin CP C)) : FnOk P w K mg base CX0 5 f fd ["self"] (spCText CP C 1) := by
  refine F.ok scRefX (fun vs H Q E h => ?_) (fun cdv A outer s0 H vs Q E hr h => ?_)
  · obtain ⟨z, f1, l, x, rfl, _⟩ := h
    rfl
  · obtain ⟨z, f1, l, x, rfl, hA, q⟩ := h
    refine ⟨_, pss_one (ps_ret (pe_cl BG hr (by decide) (by rfl) (pa_cons (pv 0) pa_nil))), ?_⟩
    have hA' := hA
    obtain ⟨⟨dx, pl, hz, hp⟩, hi, hw, wf, ok, hl⟩ := hA
    have lb := begT_len (i := 1) hw ok hl
    cases (show x = [] from wf)
    exact ⟨_, rfl, z, 1, f1, l, _, rfl, hA', q⟩
theorem scNeeX : FnScope ["self"] ["self"] (defScope sNeeTxt) := ⟨rfl, rfl, rfl, by decide +kernel, rfl, by decide +kernel, by decide +kernel⟩
theorem ok_NeeX {f : Addr} {fd : FuncData} (F : Fun K "text" "Needs.text" sNeeTxt f fd) (T : CTxt K mg C) (BG : Cl P w K mg base 3 "_beginning" ["clause"] (spBegin CP C)) : FnOk P w K mg base CX0 5 f fd ["self"] (spCText CP C 2) := by
  refine F.ok scNeeX (fun vs H Q E h => ?_) (fun cdv A outer s0 H vs Q E hr h => ?_)
  · obtain ⟨z, f1, l, x, rfl, _⟩ := h
    rfl
  · obtain ⟨z, f1, l, x, rfl, hA, q⟩ := h
    refine ⟨_, pss_one (ps_ret (pe_joined (.cons (pe_fmt (pe_cl BG hr (by decide) (by rfl) (pa_cons (pv 0) pa_nil))) (.cons pe_str (.cons (pe_fmt (pe_fld (pv 0) rfl)) .nil))))), ?_⟩
    have hA' := hA
    obtain ⟨⟨dx, pl, hz, hp⟩, hi, hw, wf, ok, hl⟩ := hA
    have lb := begT_len (i := 2) hw ok hl
    obtain ⟨g, rfl, hg, ng⟩ := wf
    have e0 : (Str.empty ++ begT 2 f1 l).length = (begT 2 f1 l).length := by rw [emp_app]
    have l1 : ((Str.empty ++ begT 2 f1 l) ++ (" " : Str)).length ≤ 2200 := by rw [len_app, e0, b1l]; omega
    have lv := hg.len
    have l2 : (((Str.empty ++ begT 2 f1 l) ++ (" " : Str)) ++ g).length ≤ 2300 := by rw [len_app]; omega
    refine ⟨_, rfl, z, 2, f1, l, _, rfl, hA', fun H1 S1 => .inl ⟨_, rfl, sz1 (by omega), _, rfl, sz1 (by omega), _, rfl, sz1 (by omega), ?_⟩⟩
    have hz1 := S1 _ _ hz
    refine ⟨_, rfl, fld T hz1 hi (j := 3) rfl rfl (.inl ⟨_, rfl, sz1 (by omega), _, rfl, sz1 (by omega), ?_⟩)⟩
    have q1 := q H1 S1
    unfold cText at q1
    show Q (.str (((Str.empty ++ begT 2 f1 l) ++ (" " : Str)) ++ g)) H1
    rw [emp_app]
    exact q1
theorem scSprX : FnScope ["self"] ["self"] (defScope sSprTxt) := ⟨rfl, rfl, rfl, by decide +kernel, rfl, by decide +kernel, by decide +kernel⟩
theorem ok_SprX {f : Addr} {fd : FuncData} (F : Fun K "text" "Spreads.text" sSprTxt f fd) (T : CTxt K mg C) (BG : Cl P w K mg base 3 "_beginning" ["clause"] (spBegin CP C)) : FnOk P w K mg base CX0 5 f fd ["self"] (spCText CP C 3) := by
  refine F.ok scSprX (fun vs H Q E h => ?_) (fun cdv A outer s0 H vs Q E hr h => ?_)
  · obtain ⟨z, f1, l, x, rfl, _⟩ := h
    rfl
  · obtain ⟨z, f1, l, x, rfl, hA, q⟩ := h
    refine ⟨_, pss_one (ps_ret (pe_joined (.cons (pe_fmt (pe_cl BG hr (by decide) (by rfl) (pa_cons (pv 0) pa_nil))) (.cons pe_str (.cons (pe_fmt (pe_fld (pv 0) rfl)) .nil))))), ?_⟩
    have hA' := hA
    obtain ⟨⟨dx, pl, hz, hp⟩, hi, hw, wf, ok, hl⟩ := hA
    have lb := begT_len (i := 3) hw ok hl
    obtain ⟨w, rfl, hs⟩ := wf
    have e0 : (Str.empty ++ begT 3 f1 l).length = (begT 3 f1 l).length := by rw [emp_app]
    have l1 : ((Str.empty ++ begT 3 f1 l) ++ (" " : Str)).length ≤ 2200 := by rw [len_app, e0, b1l]; omega
    have lv := way_len hs
    have l2 : (((Str.empty ++ begT 3 f1 l) ++ (" " : Str)) ++ w).length ≤ 2300 := by rw [len_app]; omega
    refine ⟨_, rfl, z, 3, f1, l, _, rfl, hA', fun H1 S1 => .inl ⟨_, rfl, sz1 (by omega), _, rfl, sz1 (by omega), _, rfl, sz1 (by omega), ?_⟩⟩
    have hz1 := S1 _ _ hz
    refine ⟨_, rfl, fld T hz1 hi (j := 3) rfl rfl (.inl ⟨_, rfl, sz1 (by omega), _, rfl, sz1 (by omega), ?_⟩)⟩
    have q1 := q H1 S1
    unfold cText at q1
    show Q (.str (((Str.empty ++ begT 3 f1 l) ++ (" " : Str)) ++ w)) H1
    rw [emp_app]
    exact q1
theorem scBouL : FnScope ["self"] ["self"] (defScope sBouLine) := ⟨rfl, rfl, rfl, by decide +kernel, rfl, by decide +kernel, by decide +kernel⟩
theorem ok_BouL {f : Addr} {fd : FuncData} (F : Fun K "line" "Bound.line" sBouLine f fd) (T : CTxt K mg C) (LM : LMk P w K mg base CL) : FnOk P w K mg base CX0 3 f fd ["self"] (spCLine CP CL C 4) := by
  refine F.ok scBouL (fun vs H Q E h => ?_) (fun cdv A outer s0 H vs Q E hr h => ?_)
  · obtain ⟨z, f1, l, x, a, b, rfl, _⟩ := h
    rfl
  · obtain ⟨z, f1, l, x, a, b, rfl, hA, hx, q⟩ := h
    obtain ⟨⟨dx, pl, hz, hp⟩, hi, hw, wf, ok, hl⟩ := hA
    refine ⟨_, pss_one (ps_ret (pe_mkL LM hr (by decide) (by rfl) (pa_cons (pe_fld (pv 0) rfl) (pa_cons (pe_fld (pv 0) rfl) pa_nil)))), ?_⟩
    have hv : (cVals 4 f1 pl x)[4]? = some (.int a) ∧ (cVals 4 f1 pl x)[5]? = some (.int b) := by
      obtain ⟨s, a2, b2, rfl, hs, na, nb⟩ := wf
      rcases hx with ⟨s2, e⟩ | ⟨s2, g2, e⟩
      · injection e with e1 e2; injection e2 with e2 e3; injection e3 with e3 e4; cases e2; cases e3; exact ⟨rfl, rfl⟩
      · injection e with e1 e2; injection e2 with e2 e3; cases e2
    exact ⟨_, rfl, fld T hz hi (j := 4) rfl hv.1 ⟨_, rfl, fld T hz hi (j := 5) rfl hv.2 ⟨a, b, rfl, q⟩⟩⟩
theorem scBouX : FnScope ["self"] ["self"] (defScope sBouTxt) := ⟨rfl, rfl, rfl, by decide +kernel, rfl, by decide +kernel, by decide +kernel⟩
theorem ok_BouX {f : Addr} {fd : FuncData} (F : Fun K "text" "Bound.text" sBouTxt f fd) (T : CTxt K mg C) (BG : Cl P w K mg base 3 "_beginning" ["clause"] (spBegin CP C)) (LI : Mt P w K mg base 3 (C 4) "line" ["self"] (spCLine CP CL C 4)) (LT : LTxt K mg CL) (LX : Mt P w K mg base 3 CL "text" ["self"] (spText CL)) : FnOk P w K mg base CX0 5 f fd ["self"] (spCText CP C 4) := by
  refine F.ok scBouX (fun vs H Q E h => ?_) (fun cdv A outer s0 H vs Q E hr h => ?_)
  · obtain ⟨z, f1, l, x, rfl, _⟩ := h
    rfl
  · obtain ⟨z, f1, l, x, rfl, hA, q⟩ := h
    refine ⟨_, pss_one (ps_ret (pe_joined (.cons (pe_fmt (pe_cl BG hr (by decide) (by rfl) (pa_cons (pv 0) pa_nil))) (.cons pe_str (.cons (pe_fmt (pe_fld (pv 0) rfl)) (.cons pe_str (.cons (pe_fmt (pe_mt0 LX LT.cl hr (by decide) (pe_mt0 LI (T.cl 4 (by decide)) hr (by decide) (pv 0)))) .nil))))))), ?_⟩
    have hA' := hA
    obtain ⟨⟨dx, pl, hz, hp⟩, hi, hw, wf, ok, hl⟩ := hA
    have lb := begT_len (i := 4) hw ok hl
    obtain ⟨s, a, b, rfl, hs, na, nb⟩ := wf
    have e0 : (Str.empty ++ begT 4 f1 l).length = (begT 4 f1 l).length := by rw [emp_app]
    have l1 : ((Str.empty ++ begT 4 f1 l) ++ (" " : Str)).length ≤ 2200 := by rw [len_app, e0, b1l]; omega
    have lv := sign_len hs
    have l2 : (((Str.empty ++ begT 4 f1 l) ++ (" " : Str)) ++ s).length ≤ 2300 := by rw [len_app]; omega
    refine ⟨_, rfl, z, 4, f1, l, _, rfl, hA', fun H1 S1 => .inl ⟨_, rfl, sz1 (by omega), _, rfl, sz1 (by omega), _, rfl, sz1 (by omega), ?_⟩⟩
    have hz1 := S1 _ _ hz
    have l3 : ((((Str.empty ++ begT 4 f1 l) ++ (" " : Str)) ++ s) ++ (" " : Str)).length ≤ 2400 := by rw [len_app, b1l]; omega
    refine ⟨_, rfl, fld T hz1 hi (j := 3) rfl rfl (.inl ⟨_, rfl, sz1 (by omega), _, rfl, sz1 (by omega), _, rfl, sz1 (by omega), ?_⟩)⟩
    have ll := lineT_len na nb
    refine ⟨_, rfl, z, dx, _, rfl, hz1, cFl_no (by decide +kernel), z, f1, l, _, a, b, rfl, hA'.same S1, .inl ⟨s, rfl⟩, fun y H2 _ hy S2 => ?_⟩
    obtain ⟨dy, hy'⟩ := id hy
    refine ⟨y, dy, _, rfl, hy', lFl_no a b (by decide +kernel) (by decide +kernel), y, a, b, rfl, hy, na, nb, fun H3 S3 => .inl ⟨_, rfl, sz1 (by omega), _, rfl, sz1 ?_, ?_⟩⟩
    · rw [len_app]; omega
    · have q1 := q H3 ((S1.trans S2).trans S3)
      unfold cText at q1
      show Q (.str (((((Str.empty ++ begT 4 f1 l) ++ (" " : Str)) ++ s) ++ (" " : Str)) ++ lineT a b)) H3
      rw [emp_app]
      exact q1
theorem scPaiL : FnScope ["self"] ["self"] (defScope sPaiLine) := ⟨rfl, rfl, rfl, by decide +kernel, rfl, by decide +kernel, by decide +kernel⟩
theorem ok_PaiL {f : Addr} {fd : FuncData} (F : Fun K "line" "Pair.line" sPaiLine f fd) (T : CTxt K mg C) (LM : LMk P w K mg base CL) : FnOk P w K mg base CX0 3 f fd ["self"] (spCLine CP CL C 5) := by
  refine F.ok scPaiL (fun vs H Q E h => ?_) (fun cdv A outer s0 H vs Q E hr h => ?_)
  · obtain ⟨z, f1, l, x, a, b, rfl, _⟩ := h
    rfl
  · obtain ⟨z, f1, l, x, a, b, rfl, hA, hx, q⟩ := h
    obtain ⟨⟨dx, pl, hz, hp⟩, hi, hw, wf, ok, hl⟩ := hA
    refine ⟨_, pss_one (ps_ret (pe_mkL LM hr (by decide) (by rfl) (pa_cons (pe_fld (pv 0) rfl) (pa_cons (pe_fld (pv 0) rfl) pa_nil)))), ?_⟩
    have hv : (cVals 5 f1 pl x)[5]? = some (.int a) ∧ (cVals 5 f1 pl x)[6]? = some (.int b) := by
      obtain ⟨s, g, a2, b2, rfl, hs, hg, ng, na, nb⟩ := wf
      rcases hx with ⟨s2, e⟩ | ⟨s2, g2, e⟩
      · injection e with e1 e2; injection e2 with e2 e3; cases e2
      · injection e with e1 e2; injection e2 with e2 e3; injection e3 with e3 e4; injection e4 with e4 e5; cases e3; cases e4; exact ⟨rfl, rfl⟩
    exact ⟨_, rfl, fld T hz hi (j := 5) rfl hv.1 ⟨_, rfl, fld T hz hi (j := 6) rfl hv.2 ⟨a, b, rfl, q⟩⟩⟩
theorem scPaiX : FnScope ["self"] ["self"] (defScope sPaiTxt) := ⟨rfl, rfl, rfl, by decide +kernel, rfl, by decide +kernel, by decide +kernel⟩
theorem ok_PaiX {f : Addr} {fd : FuncData} (F : Fun K "text" "Pair.text" sPaiTxt f fd) (T : CTxt K mg C) (BG : Cl P w K mg base 3 "_beginning" ["clause"] (spBegin CP C)) (LI : Mt P w K mg base 3 (C 5) "line" ["self"] (spCLine CP CL C 5)) (AD : Cl P w K mg base 4 "_added_text" ["line"] (spAdded CL)) : FnOk P w K mg base CX0 5 f fd ["self"] (spCText CP C 5) := by
  refine F.ok scPaiX (fun vs H Q E h => ?_) (fun cdv A outer s0 H vs Q E hr h => ?_)
  · obtain ⟨z, f1, l, x, rfl, _⟩ := h
    rfl
  · obtain ⟨z, f1, l, x, rfl, hA, q⟩ := h
    refine ⟨_, pss_one (ps_ret (pe_joined (.cons (pe_fmt (pe_cl BG hr (by decide) (by rfl) (pa_cons (pv 0) pa_nil))) (.cons pe_str (.cons (pe_fmt (pe_fld (pv 0) rfl)) (.cons pe_str (.cons (pe_fmt (pe_fld (pv 0) rfl)) (.cons (pe_fmt (pe_cl AD hr (by decide) (by rfl) (pa_cons (pe_mt0 LI (T.cl 5 (by decide)) hr (by decide) (pv 0)) pa_nil))) .nil)))))))), ?_⟩
    have hA' := hA
    obtain ⟨⟨dx, pl, hz, hp⟩, hi, hw, wf, ok, hl⟩ := hA
    have lb := begT_len (i := 5) hw ok hl
    obtain ⟨s, g, a, b, rfl, hs, hg, ng, na, nb⟩ := wf
    have e0 : (Str.empty ++ begT 5 f1 l).length = (begT 5 f1 l).length := by rw [emp_app]
    have l1 : ((Str.empty ++ begT 5 f1 l) ++ (" " : Str)).length ≤ 2200 := by rw [len_app, e0, b1l]; omega
    have lv := sign_len hs
    have l2 : (((Str.empty ++ begT 5 f1 l) ++ (" " : Str)) ++ s).length ≤ 2300 := by rw [len_app]; omega
    refine ⟨_, rfl, z, 5, f1, l, _, rfl, hA', fun H1 S1 => .inl ⟨_, rfl, sz1 (by omega), _, rfl, sz1 (by omega), _, rfl, sz1 (by omega), ?_⟩⟩
    have hz1 := S1 _ _ hz
    have l3 : ((((Str.empty ++ begT 5 f1 l) ++ (" " : Str)) ++ s) ++ (" " : Str)).length ≤ 2400 := by rw [len_app, b1l]; omega
    refine ⟨_, rfl, fld T hz1 hi (j := 3) rfl rfl (.inl ⟨_, rfl, sz1 (by omega), _, rfl, sz1 (by omega), _, rfl, sz1 (by omega), ?_⟩)⟩
    have lg := hg.len
    have l4 : (((((Str.empty ++ begT 5 f1 l) ++ (" " : Str)) ++ s) ++ (" " : Str)) ++ g).length ≤ 2500 := by rw [len_app]; omega
    refine ⟨_, rfl, fld T hz1 hi (j := 4) rfl rfl (.inl ⟨_, rfl, sz1 (by omega), _, rfl, sz1 (by omega), ?_⟩)⟩
    refine ⟨_, rfl, z, dx, _, rfl, hz1, cFl_no (by decide +kernel), z, f1, l, _, a, b, rfl, hA'.same S1, .inr ⟨s, g, rfl⟩, fun y H2 _ hy S2 => ?_⟩
    have la := addT_len na nb
    refine ⟨y, a, b, rfl, hy, na, nb, fun H3 S3 => .inl ⟨_, rfl, sz1 (by omega), _, rfl, sz1 ?_, ?_⟩⟩
    · rw [len_app]; omega
    · have q1 := q H3 ((S1.trans S2).trans S3)
      unfold cText at q1
      show Q (.str ((((((Str.empty ++ begT 5 f1 l) ++ (" " : Str)) ++ s) ++ (" " : Str)) ++ g) ++ addT (lineT a b))) H3
      rw [emp_app]
      exact q1
theorem scSteX : FnScope ["self"] ["self"] (defScope sSteTxt) := ⟨rfl, rfl, rfl, by decide +kernel, rfl, by decide +kernel, by decide +kernel⟩
theorem ok_SteX {f : Addr} {fd : FuncData} (F : Fun K "text" "Step.text" sSteTxt f fd) (T : CTxt K mg C) (BG : Cl P w K mg base 3 "_beginning" ["clause"] (spBegin CP C)) (DE : Cl P w K mg base 1 "decimal" ["number"] spDec) : FnOk P w K mg base CX0 5 f fd ["self"] (spCText CP C 6) := by
  refine F.ok scSteX (fun vs H Q E h => ?_) (fun cdv A outer s0 H vs Q E hr h => ?_)
  · obtain ⟨z, f1, l, x, rfl, _⟩ := h
    rfl
  · obtain ⟨z, f1, l, x, rfl, hA, q⟩ := h
    refine ⟨_, pss_one (ps_ret (pe_joined (.cons (pe_fmt (pe_cl BG hr (by decide) (by rfl) (pa_cons (pv 0) pa_nil))) (.cons pe_str (.cons (pe_fmt (pe_fld (pv 0) rfl)) (.cons pe_str (.cons (pe_fmt (pe_cl DE hr (by decide) (by rfl) (pa_cons (pe_fld (pv 0) rfl) pa_nil))) .nil))))))), ?_⟩
    have hA' := hA
    obtain ⟨⟨dx, pl, hz, hp⟩, hi, hw, wf, ok, hl⟩ := hA
    have lb := begT_len (i := 6) hw ok hl
    obtain ⟨s, b, rfl, hs, nb⟩ := wf
    have e0 : (Str.empty ++ begT 6 f1 l).length = (begT 6 f1 l).length := by rw [emp_app]
    have l1 : ((Str.empty ++ begT 6 f1 l) ++ (" " : Str)).length ≤ 2200 := by rw [len_app, e0, b1l]; omega
    have lv := sign_len hs
    have l2 : (((Str.empty ++ begT 6 f1 l) ++ (" " : Str)) ++ s).length ≤ 2300 := by rw [len_app]; omega
    refine ⟨_, rfl, z, 6, f1, l, _, rfl, hA', fun H1 S1 => .inl ⟨_, rfl, sz1 (by omega), _, rfl, sz1 (by omega), _, rfl, sz1 (by omega), ?_⟩⟩
    have hz1 := S1 _ _ hz
    have l3 : ((((Str.empty ++ begT 6 f1 l) ++ (" " : Str)) ++ s) ++ (" " : Str)).length ≤ 2400 := by rw [len_app, b1l]; omega
    refine ⟨_, rfl, fld T hz1 hi (j := 3) rfl rfl (.inl ⟨_, rfl, sz1 (by omega), _, rfl, sz1 (by omega), _, rfl, sz1 (by omega), ?_⟩)⟩
    have ld := dTl (n := b) (k := 90) (by decide) nb
    refine ⟨_, rfl, fld T hz1 hi (j := 4) rfl rfl ⟨b, rfl, Nat.lt_of_lt_of_le nb (by decide), fun H2 S2 => .inl ⟨_, rfl, sz1 (by omega), _, rfl, sz1 ?_, ?_⟩⟩⟩
    · rw [len_app]; omega
    · have q1 := q H2 (S1.trans S2)
      unfold cText at q1
      show Q (.str (((((Str.empty ++ begT 6 f1 l) ++ (" " : Str)) ++ s) ++ (" " : Str)) ++ dT b)) H2
      rw [emp_app]
      exact q1
end
end OR

namespace OR
open PySem PySem.Spec PyProof.Rows L2
open TL (tl numL)
/-! ### a reader of words -/
def rFl (pw : Addr) (k : Int) (fv : V) (l : Int) : List (Str × V) := [("_words", .ref pw), ("_at", .int k), ("_functions", fv), ("_last", .int l)]
structure RdTxt (K : PySem.W.Frag) (mg : Str → Option Value) (CR : Addr) : Prop where
  cl : Cls K CR
  nW : NoAttr K CR "_words"
  nA : NoAttr K CR "_at"
  nF : NoAttr K CR "_functions"
  nL : NoAttr K CR "_last"
  mgC : mg "Reader" = some (.ref CR)
/-- the reader at rd stands at the k-th of the words ws, of any functions, of places up to l -/
def IsR (K : PySem.W.Frag) (CR : Addr) (H : Hp) (rd : Addr) (ws : List Str) (k : Nat) (l : Int) : Prop :=
  ∃ pw dx, H rd = some (.ins CR dx (rFl pw (k : Nat) .non l)) ∧ SqL K H pw (ws.map V.str) ∧ k ≤ ws.length ∧ ws.length ≤ 100 ∧ ∀ w ∈ ws, w.length ≤ 200
theorem IsR.same {K : PySem.W.Frag} {CR : Addr} {H H' : Hp} {rd : Addr} {ws : List Str} {k : Nat} {l : Int} (h : IsR K CR H rd ws k l) (s : Same H H') : IsR K CR H' rd ws k l := by
  obtain ⟨pw, dx, h1, h2, h3⟩ := h
  exact ⟨pw, dx, s _ _ h1, s.seq h2, h3⟩
/-- all but the reader stays -/
theorem Fre.same {p : Addr} {H H1 H2 : Hp} (a : Fre p H H1) (s : Same H1 H2) : Fre p H H2 := fun b o e n => s _ _ (a b o e n)
theorem freS {p : Addr} {H H' : Hp} (s : Same H H') : Fre p H H' := fun b o e _ => s b o e
theorem seq_fre {K : PySem.W.Frag} {CR rd dx pw : Addr} {H H' : Hp} {fs : List (Str × V)} {xs : List V} (h : SqL K H pw xs) (hr : H rd = some (.ins CR dx fs)) (f : Fre rd H H') : SqL K H' pw xs := by
  rcases h with (h | ⟨u, h⟩) | h
  · exact .inl (.inl (f _ _ h (ne_of h hr (by intro z; cases z))))
  · exact .inl (.inr ⟨u, f _ _ h (ne_of h hr (by intro z; cases z))⟩)
  · exact .inr h
theorem rput (pw : Addr) (k y : Int) (fv : V) (l : Int) : putF "_at" (.int y) (rFl pw k fv l) = rFl pw y fv l := by
  have h1 : ¬ (("_words" : Str) = "_at") := by decide +kernel
  show (if ("_words" : Str) = "_at" then _ else (("_words" : Str), V.ref pw) :: (if ("_at" : Str) = "_at" then _ else _)) = _
  rw [if_neg h1, if_pos rfl]
  rfl
theorem rl_w (pw : Addr) (k : Int) (fv : V) (l : Int) : (rFl pw k fv l).lookup ("_words" : Str) = some (.ref pw) := by
  show List.lookup _ ((("_words" : Str), V.ref pw) :: _) = _
  rw [List.lookup_cons, beq_self_eq_true]
theorem rl_a (pw : Addr) (k : Int) (fv : V) (l : Int) : (rFl pw k fv l).lookup ("_at" : Str) = some (.int k) := by
  unfold rFl
  rw [List.lookup_cons, show (("_at" : Str) == ("_words" : Str)) = false by decide +kernel]
  show List.lookup _ ((("_at" : Str), V.int k) :: _) = _
  rw [List.lookup_cons, beq_self_eq_true]
theorem rl_f (pw : Addr) (k : Int) (fv : V) (l : Int) : (rFl pw k fv l).lookup ("_functions" : Str) = some fv := by
  unfold rFl
  rw [List.lookup_cons, show (("_functions" : Str) == ("_words" : Str)) = false by decide +kernel]
  show List.lookup _ ((("_at" : Str), V.int k) :: _) = _
  rw [List.lookup_cons, show (("_functions" : Str) == ("_at" : Str)) = false by decide +kernel]
  show List.lookup _ ((("_functions" : Str), fv) :: _) = _
  rw [List.lookup_cons, beq_self_eq_true]
theorem rl_l (pw : Addr) (k : Int) (fv : V) (l : Int) : (rFl pw k fv l).lookup ("_last" : Str) = some (.int l) := by
  unfold rFl
  rw [List.lookup_cons, show (("_last" : Str) == ("_words" : Str)) = false by decide +kernel]
  show List.lookup _ ((("_at" : Str), V.int k) :: _) = _
  rw [List.lookup_cons, show (("_last" : Str) == ("_at" : Str)) = false by decide +kernel]
  show List.lookup _ ((("_functions" : Str), fv) :: _) = _
  rw [List.lookup_cons, show (("_last" : Str) == ("_functions" : Str)) = false by decide +kernel]
  show List.lookup _ ((("_last" : Str), V.int l) :: _) = _
  rw [List.lookup_cons, beq_self_eq_true]
theorem rl_no {m : Str} (h1 : m ≠ "_words") (h2 : m ≠ "_at") (h3 : m ≠ "_functions") (h4 : m ≠ "_last") (pw : Addr) (k : Int) (fv : V) (l : Int) : (rFl pw k fv l).lookup m = none := by
  refine lookup_none fun p hp => ?_
  unfold rFl at hp
  simp only [List.mem_cons, List.not_mem_nil, or_false] at hp
  rcases hp with e | e | e | e <;> subst e
  · exact h1.symm
  · exact h2.symm
  · exact h3.symm
  · exact h4.symm
/-! ### its methods -/
def spDone (K : PySem.W.Frag) (CR : Addr) : Sp := fun vs H Q _ => ∃ (rd : Addr) (ws : List Str) (k : Nat) (l : Int), vs = [.ref rd] ∧ IsR K CR H rd ws k l ∧ Q (.bl (decide (ws.length ≤ k))) H
def spPeek (K : PySem.W.Frag) (CR : Addr) : Sp := fun vs H Q _ => ∃ (rd : Addr) (ws : List Str) (k : Nat) (l : Int), vs = [.ref rd] ∧ IsR K CR H rd ws k l ∧ ((ws.length ≤ k ∧ Q .non H) ∨ ∃ x, ws[k]? = some x ∧ Q (.str x) H)
def spTake (K : PySem.W.Frag) (CR : Addr) : Sp := fun vs H Q _ => ∃ (rd : Addr) (ws : List Str) (k : Nat) (l : Int) (x : Str), vs = [.ref rd] ∧ IsR K CR H rd ws k l ∧ ws[k]? = some x ∧ ∀ H', IsR K CR H' rd ws (k + 1) l → Fre rd H H' → Q (.str x) H'
def spLastOk : Sp := fun vs H Q _ => ∃ rd : Addr, vs = [.ref rd, .bl true] ∧ Q .non H
def spOneOf (K : PySem.W.Frag) (CR : Addr) : Sp := fun vs H Q _ => ∃ (rd a : Addr) (ws : List Str) (k : Nat) (l : Int) (x : Str) (xs : List Str), vs = [.ref rd, .ref a] ∧ IsR K CR H rd ws k l ∧ ws[k]? = some x ∧ (SqL K H a (xs.map V.str) ∨ SqT K H a (xs.map V.str)) ∧ x ∈ xs ∧ ∀ H', IsR K CR H' rd ws (k + 1) l → Fre rd H H' → Q (.str x) H'
def spTakeF (K : PySem.W.Frag) (CR : Addr) : Sp := fun vs H Q _ => ∃ (rd : Addr) (ws : List Str) (k : Nat) (l : Int) (x : Str), vs = [.ref rd] ∧ IsR K CR H rd ws k l ∧ ws[k]? = some x ∧ Word x ∧ ∀ H', IsR K CR H' rd ws (k + 1) l → Fre rd H H' → Q (.str x) H'
def spCkD (K : PySem.W.Frag) (CR : Addr) : Sp := fun vs H Q _ => ∃ (rd : Addr) (ws : List Str) (k : Nat) (l : Int), vs = [.ref rd] ∧ IsR K CR H rd ws k l ∧ ws.length ≤ k ∧ Q .non H
section
variable {P : Program} {w : World} {K : PySem.W.Frag} {mg : Str → Option Value} {base : Heap} {CR : Addr} {ts tw : Addr}
theorem scRdD : FnScope ["self"] ["self"] (defScope sRdDone) := ⟨rfl, rfl, rfl, by decide +kernel, rfl, by decide +kernel, by decide +kernel⟩
theorem ok_done {f : Addr} {fd : FuncData} (F : Fun K "is_done" "Reader.is_done" sRdDone f fd) (T : RdTxt K mg CR) (zL : mg "len" = none) : FnOk P w K mg base CX0 1 f fd ["self"] (spDone K CR) := by
  refine F.ok scRdD (fun vs H Q E h => ?_) (fun cdv A outer s H vs Q E hr h => ?_)
  · obtain ⟨_, _, _, _, rfl, _⟩ := h; rfl
  · obtain ⟨rd, ws, k, l, rfl, ⟨pw, dx, hx, hw, hk, hn, hl⟩, q⟩ := h
    refine ⟨_, pss_one (ps_ret (pe_cmpR op_ge (pe_fld (pv 0) rfl) (pe_callB call_len_seq (by rfl) zL PySem.boot_len (pa_cons (pe_fld (pv 0) rfl) pa_nil)) (nomark _))), ?_⟩
    refine ⟨_, rfl, rd, CR, dx, _, _, rfl, hx, T.cl, T.nA, rl_a _ _ _ _, _, rfl, rd, CR, dx, _, _, rfl, hx, T.cl, T.nW, rl_w _ _ _ _, pw, _, rfl, .inl hw, _, _, rfl, rfl, ?_⟩
    have e : decide (ws.length ≤ k) = decide (((ws.map V.str).length : Int) ≤ (k : Int)) := by
      rw [List.length_map, Bool.eq_iff_iff, decide_eq_true_iff, decide_eq_true_iff]
      omega
    rw [e] at q
    exact q
theorem scRdP : FnScope ["self"] ["self"] (defScope sRdPeek) := ⟨rfl, rfl, rfl, by decide +kernel, rfl, by decide +kernel, by decide +kernel⟩
theorem ok_peek {f : Addr} {fd : FuncData} (F : Fun K "peek" "Reader.peek" sRdPeek f fd) (T : RdTxt K mg CR) (D : Mt P w K mg base 1 CR "is_done" ["self"] (spDone K CR)) : FnOk P w K mg base CX0 2 f fd ["self"] (spPeek K CR) := by
  refine F.ok scRdP (fun vs H Q E h => ?_) (fun cdv A outer s H vs Q E hr h => ?_)
  · obtain ⟨_, _, _, _, rfl, _⟩ := h; rfl
  · obtain ⟨rd, ws, k, l, rfl, hR, q⟩ := h
    obtain ⟨pw, dx, hx, hw, hk, hn, hl⟩ := id hR
    refine ⟨_, pss_one (ps_ret (pe_ifExp (pt_val (pe_mt0 D T.cl hr (by decide) (pv 0))) pe_non (pe_ix ix_list (pe_fld (pv 0) rfl) (pe_fld (pv 0) rfl) (fun _ _ => rfl)))), ?_⟩
    refine ⟨_, rfl, rd, dx, _, rfl, hx, rl_no (by decide +kernel) (by decide +kernel) (by decide +kernel) (by decide +kernel) _ _ _ _, rd, ws, k, l, rfl, hR, _, rfl, ?_⟩
    rcases q with ⟨h1, q⟩ | ⟨x, h1, q⟩
    · rw [decide_eq_true h1]
      exact iteT q
    · have hlt : k < ws.length := (List.getElem?_eq_some_iff.mp h1).1
      rw [decide_eq_false (by omega)]
      exact iteF ⟨_, rfl, rd, CR, dx, _, _, rfl, hx, T.cl, T.nW, rl_w _ _ _ _, _, rfl, rd, CR, dx, _, _, rfl, hx, T.cl, T.nA, rl_a _ _ _ _, pw, _, _, _, rfl, rfl, hw, atI_nat (by rw [List.getElem?_map, h1]; rfl), q⟩
theorem scRdT : FnScope ["self"] ["self"] (defScope sRdTake) := ⟨rfl, rfl, rfl, by decide +kernel, rfl, by decide +kernel, by decide +kernel⟩
theorem ok_take {f : Addr} {fd : FuncData} (F : Fun K "take" "Reader.take" sRdTake f fd) (T : RdTxt K mg CR) (D : Mt P w K mg base 1 CR "is_done" ["self"] (spDone K CR)) : FnOk P w K mg base CX0 2 f fd ["self"] (spTake K CR) := by
  refine F.ok scRdT (fun vs H Q E h => ?_) (fun cdv A outer s H vs Q E hr h => ?_)
  · obtain ⟨_, _, _, _, _, rfl, _⟩ := h; rfl
  · obtain ⟨rd, ws, k, l, x, rfl, hR, h1, q⟩ := h
    obtain ⟨pw, dx, hx, hw, hk, hn, hl⟩ := id hR
    have hlt : k < ws.length := (List.getElem?_eq_some_iff.mp h1).1
    refine ⟨_, pss_cons (ps_if (pt_val (pe_mt0 D T.cl hr (by decide) (pv 0))) (pss_one ps_never) pss_nil)
      (pss_cons (ps_fldaug (pv 0) pe_int in_add)
      (pss_one (ps_ret (pe_ix ix_list (pe_fld (pv 0) rfl) (pe_op op_sub (pe_fld (pv 0) rfl) pe_int) (fun _ _ => rfl))))), ?_⟩
    refine ⟨_, rfl, rd, dx, _, rfl, hx, rl_no (by decide +kernel) (by decide +kernel) (by decide +kernel) (by decide +kernel) _ _ _ _, rd, ws, k, l, rfl, hR, _, rfl, ?_⟩
    rw [decide_eq_false (by omega)]
    refine iteF ⟨_, rfl, rd, CR, dx, _, _, rfl, hx, T.cl, T.nA, rl_a _ _ _ _, _, _, rfl, rfl, dx, _, hx, by show 4 < 1000; decide, ?_⟩
    rw [rput]
    have e1 : ((k : Nat) : Int) + 1 = ((k + 1 : Nat) : Int) := by omega
    rw [e1]
    have hx2 : (upd H rd (.ins CR dx (rFl pw ((k + 1 : Nat) : Int) .non l))) rd = some (.ins CR dx (rFl pw ((k + 1 : Nat) : Int) .non l)) := upd_same
    have F2 : Fre rd H (upd H rd (.ins CR dx (rFl pw ((k + 1 : Nat) : Int) .non l))) := Fre.put
    generalize upd H rd (.ins CR dx (rFl pw ((k + 1 : Nat) : Int) .non l)) = H2 at hx2 F2
    have hw2 := seq_fre hw hx F2
    refine ⟨_, rfl, rd, CR, dx, _, _, rfl, hx2, T.cl, T.nW, rl_w _ _ _ _, _, rfl, rd, CR, dx, _, _, rfl, hx2, T.cl, T.nA, rl_a _ _ _ _, _, _, rfl, rfl, pw, _, _, .str x, rfl, rfl, hw2, ?_, q H2 ⟨pw, dx, hx2, hw2, hlt, hn, hl⟩ F2⟩
    have e2 : ((k + 1 : Nat) : Int) - 1 = ((k : Nat) : Int) := by omega
    rw [e2]
    exact atI_nat (by rw [List.getElem?_map, h1]; rfl)
theorem scRdL : FnScope ["self", "is_right"] ["self", "is_right"] (defScope sRdLast) := ⟨rfl, rfl, rfl, by decide +kernel, rfl, by decide +kernel, by decide +kernel⟩
theorem ok_last {f : Addr} {fd : FuncData} (F : Fun K "check_last" "Reader.check_last" sRdLast f fd) : FnOk P w K mg base CX0 1 f fd ["self", "is_right"] spLastOk := by
  refine F.ok scRdL (fun vs H Q E h => ?_) (fun cdv A outer s H vs Q E hr h => ?_)
  · obtain ⟨_, rfl, _⟩ := h; rfl
  · obtain ⟨rd, rfl, q⟩ := h
    refine ⟨_, pss_one (ps_if (pt_not (pt_val (pv 1))) (pss_one ps_never) pss_nil), ?_⟩
    exact ⟨_, rfl, _, rfl, iteF q⟩
theorem op_in_seqK {X : Cx} (K : PySem.W.Frag) (hK : X.K = K) : OpR X (compareOp .In) (rIn K false) := by
  subst hK
  exact op_in_seq
theorem scRdO : FnScope ["self", "allowed", "word"] ["self", "allowed"] (defScope sRdOne) := ⟨rfl, rfl, rfl, by decide +kernel, rfl, by decide +kernel, by decide +kernel⟩
theorem ok_oneof {f : Addr} {fd : FuncData} (F : Fun K "take_one_of" "Reader.take_one_of" sRdOne f fd) (T : RdTxt K mg CR) (TK : Mt P w K mg base 2 CR "take" ["self"] (spTake K CR)) (CL : Mt P w K mg base 1 CR "check_last" ["self", "is_right"] spLastOk) : FnOk P w K mg base CX0 3 f fd ["self", "allowed"] (spOneOf K CR) := by
  refine F.ok scRdO (fun vs H Q E h => ?_) (fun cdv A outer s H vs Q E hr h => ?_)
  · obtain ⟨_, _, _, _, _, _, _, rfl, _⟩ := h; rfl
  · obtain ⟨rd, a, ws, k, l, x, xs, rfl, hR, h1, ha, hin, q⟩ := h
    obtain ⟨pw, dx, hx, hw, hk, hn, hl⟩ := id hR
    have nd := scRdO.nd
    refine ⟨_, pss_cons (ps_set (i := 2) nd rfl (.inl rfl) (pe_mt0 TK T.cl hr (by decide) (pv 0)))
      (pss_cons (ps_expr (pe_mt CL T.cl hr (by decide) (pv 0) (pa_cons (pe_cmpR (op_in_seqK K rfl) (pv 2) (pv 1) (by rfl)) pa_nil)))
      (pss_one (ps_ret (pv 2)))), ?_⟩
    refine ⟨_, rfl, rd, dx, _, rfl, hx, rl_no (by decide +kernel) (by decide +kernel) (by decide +kernel) (by decide +kernel) _ _ _ _, rd, ws, k, l, x, rfl, hR, h1, fun H1 R1 F1 => ?_⟩
    obtain ⟨pw1, dx1, hx1, _⟩ := id R1
    have ha1 : SqL K H1 a (xs.map V.str) ∨ SqT K H1 a (xs.map V.str) := by
      rcases ha with h | h
      · exact .inl (seq_fre h hx F1)
      · rcases h with (h | ⟨u, h⟩) | h
        · exact .inr (.inl (.inl (F1 _ _ h (ne_of h hx (by intro z; cases z)))))
        · exact .inr (.inl (.inr ⟨u, F1 _ _ h (ne_of h hx (by intro z; cases z))⟩))
        · exact .inr (.inr h)
    refine ⟨_, rfl, rd, dx1, _, rfl, hx1, rl_no (by decide +kernel) (by decide +kernel) (by decide +kernel) (by decide +kernel) _ _ _ _, _, rfl, _, rfl, a, _, rfl, ha1, rfl, flat_strs xs, rd, ?_, _, rfl, q H1 R1 F1⟩
    rw [in_strs hin]
    rfl
theorem scRdF : FnScope ["self", "word"] ["self"] (defScope sRdFun) := ⟨rfl, rfl, rfl, by decide +kernel, rfl, by decide +kernel, by decide +kernel⟩
theorem ok_takef {f : Addr} {fd : FuncData} (F : Fun K "take_function" "Reader.take_function" sRdFun f fd) (T : RdTxt K mg CR) (TK : Mt P w K mg base 2 CR "take" ["self"] (spTake K CR)) (CL : Mt P w K mg base 1 CR "check_last" ["self", "is_right"] spLastOk) (IW : Cl P w K mg base 1 "is_word" ["value"] spIsWord) : FnOk P w K mg base CX0 3 f fd ["self"] (spTakeF K CR) := by
  refine F.ok scRdF (fun vs H Q E h => ?_) (fun cdv A outer s H vs Q E hr h => ?_)
  · obtain ⟨_, _, _, _, _, rfl, _⟩ := h; rfl
  · obtain ⟨rd, ws, k, l, x, rfl, hR, h1, hwd, q⟩ := h
    obtain ⟨pw, dx, hx, hw, hk, hn, hl⟩ := id hR
    have nd := scRdF.nd
    refine ⟨_, pss_cons (ps_set (i := 1) nd rfl (.inl rfl) (pe_mt0 TK T.cl hr (by decide) (pv 0)))
      (pss_cons (ps_expr (pe_mt CL T.cl hr (by decide) (pv 0) (pa_cons (pe_and (pe_cl IW hr (by decide) (by rfl) (pa_cons (pv 1) pa_nil)) (pe_one (pe_or (pe_cmp (pc_isN (pe_fld (pv 0) rfl)) rfl) (pe_one (pe_cmpR (op_in_seqK K rfl) (pv 1) (pe_fld (pv 0) rfl) (by rfl)))))) pa_nil)))
      (pss_one (ps_ret (pv 1)))), ?_⟩
    refine ⟨_, rfl, rd, dx, _, rfl, hx, rl_no (by decide +kernel) (by decide +kernel) (by decide +kernel) (by decide +kernel) _ _ _ _, rd, ws, k, l, x, rfl, hR, h1, fun H1 R1 F1 => ?_⟩
    obtain ⟨pw1, dx1, hx1, _⟩ := id R1
    refine ⟨_, rfl, rd, dx1, _, rfl, hx1, rl_no (by decide +kernel) (by decide +kernel) (by decide +kernel) (by decide +kernel) _ _ _ _, _, rfl, x, rfl, hwd, fun H2 S2 => ?_⟩
    have hx2 := S2 _ _ hx1
    refine ⟨_, rfl, iteT ?_⟩
    refine ⟨_, rfl, rd, CR, dx1, _, _, rfl, hx2, T.cl, T.nF, rl_f _ _ _ _, ?_⟩
    exact ⟨_, rfl, iteT ⟨rd, rfl, _, rfl, q H2 (R1.same S2) (F1.same S2)⟩⟩
theorem scRdC : FnScope ["self"] ["self"] (defScope sRdCkD) := ⟨rfl, rfl, rfl, by decide +kernel, rfl, by decide +kernel, by decide +kernel⟩
theorem ok_ckd {f : Addr} {fd : FuncData} (F : Fun K "check_done" "Reader.check_done" sRdCkD f fd) (T : RdTxt K mg CR) (D : Mt P w K mg base 1 CR "is_done" ["self"] (spDone K CR)) : FnOk P w K mg base CX0 2 f fd ["self"] (spCkD K CR) := by
  refine F.ok scRdC (fun vs H Q E h => ?_) (fun cdv A outer s H vs Q E hr h => ?_)
  · obtain ⟨_, _, _, _, rfl, _⟩ := h; rfl
  · obtain ⟨rd, ws, k, l, rfl, hR, h1, q⟩ := h
    obtain ⟨pw, dx, hx, hw, hk, hn, hl⟩ := id hR
    refine ⟨_, pss_one (ps_if (pt_not (pt_val (pe_mt0 D T.cl hr (by decide) (pv 0)))) (pss_one ps_never) pss_nil), ?_⟩
    refine ⟨_, rfl, rd, dx, _, rfl, hx, rl_no (by decide +kernel) (by decide +kernel) (by decide +kernel) (by decide +kernel) _ _ _ _, rd, ws, k, l, rfl, hR, _, rfl, ?_⟩
    rw [decide_eq_true h1]
    exact iteF q
end
end OR

namespace OR
open PySem PySem.Spec PyProof.Rows L2
open TL (tl numL)
/-- the first sign of a word is a figure -/
def digHead (x : Str) : Bool := Txt.isdigit (cutS x none (some 1))
theorem cut_one (x : Str) : tl (cutS x none (some 1)) = (tl x).take 1 := by
  show ((tl x).drop (HT.sIx x.length 0 none)).take (HT.sIx x.length x.length (some 1) - HT.sIx x.length 0 none) = _
  have e := HT.sIx_nat x.length x.length 1
  have e' : HT.sIx x.length x.length (some (1 : Int)) = min 1 x.length := e
  rw [e', HT.sIx_none, List.drop_zero, Nat.sub_zero, TL.len_tl]
  cases tl x with
  | nil => rfl
  | cons c r => rw [show min 1 (c :: r).length = 1 by simp only [List.length_cons]; omega]
theorem digHead_sT {r : Row} (h : okRow r = true) : digHead (sT r) = true := by
  obtain ⟨h1, h2, h3⟩ := okRow_iff h
  obtain ⟨c, R, hc, hd⟩ : ∃ c R, tl (sT r) = c :: R ∧ 48 ≤ c ∧ c ≤ 57 := by
    have hdd := dT_digits (n := r.1) h1
    have hne := dT_ne (n := r.1) h1
    obtain ⟨c, R, hcr⟩ : ∃ c R, tl (dT r.1) = c :: R := by
      cases hh : tl (dT r.1) with
      | nil => exact absurd hh hne
      | cons c R => exact ⟨c, R, rfl⟩
    have hcd := hdd c (by rw [hcr]; exact List.mem_cons_self)
    unfold sT
    split
    · exact ⟨c, R, hcr, hcd⟩
    · refine ⟨c, _, by rw [TL.tl_append, TL.tl_append, hcr]; rfl, hcd⟩
  unfold digHead
  refine digit_dig (s := cutS (sT r) none (some 1)) ?_ ?_
  · rw [cut_one, hc]
    intro x hx
    have : x = c := by simpa using hx
    rw [this]; exact hd
  · rw [cut_one, hc]
    simp
/-- the words of places from k on: rows, or none; what follows is no figure -/
structure PlAt (ws : List Str) (k : Nat) (rows : List Row) (n : Nat) : Prop where
  way : (rows = [] ∧ ws[k]? = some ("none" : Str) ∧ n = 1) ∨ (rows ≠ [] ∧ n = rows.length ∧ Nf rows ∧ (∀ r ∈ rows, okRow r = true) ∧ (∀ (j : Nat) (r : Row), rows[j]? = some r → ws[k + j]? = some (sT r)) ∧ k + n ≤ ws.length ∧ ∀ x, ws[k + n]? = some x → digHead x = false)
def spTakeP (K : PySem.W.Frag) (CR CP : Addr) : Sp := fun vs H Q _ => ∃ (rd : Addr) (ws : List Str) (k n : Nat) (rows : List Row), vs = [.ref rd] ∧ IsR K CR H rd ws k lastP ∧ PlAt ws k rows n ∧ ∀ x H', H x = none → IsP CP H' x rows → IsR K CR H' rd ws (k + n) lastP → Fre rd H H' → Q (.ref x) H'
section
variable {P : Program} {w : World} {K : PySem.W.Frag} {mg : Str → Option Value} {base : Heap} {CR CP : Addr} {ts tw : Addr}
theorem scRdPl : FnScope ["self", "begin"] ["self"] (defScope sRdPls) := ⟨rfl, rfl, rfl, by decide +kernel, rfl, by decide +kernel, by decide +kernel⟩
theorem ok_takep {f : Addr} {fd : FuncData} (F : Fun K "take_places" "Reader.take_places" sRdPls f fd) (T : RdTxt K mg CR) (D : Mt P w K mg base 1 CR "is_done" ["self"] (spDone K CR)) (PK : Mt P w K mg base 2 CR "peek" ["self"] (spPeek K CR)) (M : PMk' P w K mg base CP)
    (RS : Cl P w K mg base 5 "read_stretches" ["words", "begin", "end", "last"] (spRStrsG K)) : FnOk P w K mg base CX0 6 f fd ["self"] (spTakeP K CR CP) := by
  refine F.ok scRdPl (fun vs H Q E h => ?_) (fun cdv A outer s H vs Q E hr h => ?_)
  · obtain ⟨_, _, _, _, _, rfl, _⟩ := h; rfl
  · obtain ⟨rd, ws, k, n, rows, rfl, hR, hP, q⟩ := h
    obtain ⟨pw, dx, hx, hw, hk, hn, hl⟩ := id hR
    have nd := scRdPl.nd
    refine ⟨_, pss_cons (ps_if (pt_cmpR op_eq (pe_mt0 PK T.cl hr (by decide) (pv 0)) pe_str (nomark _)) (pss_cons (ps_fldaug (pv 0) pe_int in_add) (pss_one (ps_ret (pe_mkP0 M hr (by decide) (by rfl))))) pss_nil)
      (pss_cons (ps_set (i := 1) nd rfl (.inl rfl) (pe_fld (pv 0) rfl))
      (pss_cons (ps_while PassesOwn.never (PW.pt (pw_and (pt_not (pt_val (pe_mt0 D T.cl hr (by decide) (pv 0)))) (pw_and1 (pt_val (pe_m0 PySem.F.slot_str_isdigit PySem.F.type_str_isdigit mt_isdigit (pe_slice sl_str (pe_mt0 PK T.cl hr (by decide) (pv 0)) po_none (po_some pe_int))))))) (pss_one (ps_fldaug (pv 0) pe_int in_add)))
      (pss_cons (ps_if (pt_cmpR op_eq (pe_fld (pv 0) rfl) (pv 1) (nomark _)) (pss_one ps_never) pss_nil)
      (pss_one (ps_ret (pe_mkP K rfl M hr (by decide) (by rfl) (pa_cons (pe_cl RS hr (by decide) (by rfl) (pa_cons (pe_fld (pv 0) rfl) (pa_cons (pv 1) (pa_cons (pe_fld (pv 0) rfl) (pa_cons (pe_fld (pv 0) rfl) pa_nil))))) pa_nil))))))), ?_⟩
    have put : ∀ (G : Hp) (dx : Addr) (j : Nat), G rd = some (.ins CR dx (rFl pw (j : Nat) .non lastP)) → (upd G rd (.ins CR dx (putF "_at" (.int ((j : Nat) + 1)) (rFl pw (j : Nat) .non lastP)))) rd = some (.ins CR dx (rFl pw ((j + 1 : Nat) : Int) .non lastP)) := fun G dx j _ => by
      rw [upd_same, rput]
      have : ((j : Nat) : Int) + 1 = ((j + 1 : Nat) : Int) := by omega
      rw [this]
    rcases hP.way with ⟨rfl, hnone, rfl⟩ | ⟨hne, hnl, nf, ok, hrw, hkn, hnx⟩
    · refine ⟨_, rfl, rd, dx, _, rfl, hx, rl_no (by decide +kernel) (by decide +kernel) (by decide +kernel) (by decide +kernel) _ _ _ _, rd, ws, k, lastP, rfl, hR, .inr ⟨_, hnone, ?_⟩⟩
      refine ⟨rfl, _, rfl, ite2 (fun _ => ?_) (fun z => absurd (decide_eq_true rfl) z)⟩
      refine ⟨_, rfl, rd, CR, dx, _, _, rfl, hx, T.cl, T.nA, rl_a _ _ _ _, _, _, rfl, rfl, dx, _, hx, by show 4 < 1000; decide, ?_⟩
      have hx2 := put H dx k hx
      have F2 : Fre rd H (upd H rd (.ins CR dx (putF "_at" (.int ((k : Nat) + 1)) (rFl pw (k : Nat) .non lastP)))) := Fre.put
      refine fun x G nx hxG sG => ?_
      generalize upd H rd (.ins CR dx (putF "_at" (.int ((k : Nat) + 1)) (rFl pw (k : Nat) .non lastP))) = H2 at hx2 F2 nx sG
      have hlt : k < ws.length := (List.getElem?_eq_some_iff.mp hnone).1
      have nx0 : H x = none := by
        cases e : H x with
        | none => rfl
        | some o =>
          by_cases z : x = rd
          · rw [z, hx2] at nx; cases nx
          · rw [F2 x o e z] at nx; cases nx
      exact q x G nx0 hxG ⟨pw, dx, sG _ _ hx2, sG.seq (seq_fre hw hx F2), by omega, hn, hl⟩ (F2.same sG)
    · obtain ⟨r0, hr0⟩ : ∃ r0, rows[0]? = some r0 := by
        cases rows with
        | nil => exact absurd rfl hne
        | cons a r => exact ⟨a, rfl⟩
      have hw0 := hrw 0 r0 hr0
      rw [Nat.add_zero] at hw0
      refine ⟨_, rfl, rd, dx, _, rfl, hx, rl_no (by decide +kernel) (by decide +kernel) (by decide +kernel) (by decide +kernel) _ _ _ _, rd, ws, k, lastP, rfl, hR, .inr ⟨_, hw0, ?_⟩⟩
      have ok0 := ok r0 (List.mem_of_getElem? hr0)
      have n0 : ¬ V.str (sT r0) = V.str ("none" : Str) := fun z => by
        have e := V.str.inj z
        have h1 := digHead_sT ok0
        rw [e] at h1
        exact absurd h1 (by decide +kernel)
      refine ⟨rfl, _, rfl, ite2 (fun z => absurd (of_decide_eq_true z) n0) (fun _ => ?_)⟩
      refine ⟨_, rfl, rd, CR, dx, _, _, rfl, hx, T.cl, T.nA, rl_a _ _ _ _, ?_⟩
      let W : Nat → L2.St → Hp → Prop := fun m σ G => ∃ i, σ = [some (.ref rd), some (.int (k : Nat))] ∧ i ≤ rows.length ∧ m = rows.length - i ∧ Fre rd H G ∧ ∃ dx', G rd = some (.ins CR dx' (rFl pw ((k + i : Nat) : Int) .non lastP))
      refine ⟨W, ⟨rows.length, 0, rfl, Nat.zero_le _, rfl, Fre.refl _ _, dx, hx⟩, ?_⟩
      rintro m σ G ⟨i, rfl, hi, rfl, FG, dx', hxG⟩
      have hwG := seq_fre hw hx FG
      have hRG : IsR K CR G rd ws (k + i) lastP := ⟨pw, dx', hxG, hwG, by omega, hn, hl⟩
      have lno : ∀ {m : Str}, m ≠ "_words" → m ≠ "_at" → m ≠ "_functions" → m ≠ "_last" → (rFl pw ((k + i : Nat) : Int) .non lastP).lookup m = none := fun a b c d => rl_no a b c d _ _ _ _
      refine ⟨_, rfl, rd, dx', _, rfl, hxG, lno (by decide +kernel) (by decide +kernel) (by decide +kernel) (by decide +kernel), rd, ws, k + i, lastP, rfl, hRG, _, rfl, ?_⟩
      by_cases hlt : i < rows.length
      · obtain ⟨r, hr'⟩ : ∃ r, rows[i]? = some r := ⟨rows[i], List.getElem?_eq_getElem hlt⟩
        have hwi := hrw i r hr'
        have hil : k + i < ws.length := (List.getElem?_eq_some_iff.mp hwi).1
        have okr := ok r (List.mem_of_getElem? hr')
        rw [decide_eq_false (by omega)]
        refine iteT ⟨_, rfl, rd, dx', _, rfl, hxG, lno (by decide +kernel) (by decide +kernel) (by decide +kernel) (by decide +kernel), rd, ws, k + i, lastP, rfl, hRG, .inr ⟨_, hwi, 1, rfl, sT r, rfl, sz1 (by have := sT_len okr; omega), ⟨_, rfl⟩, _, rfl, rfl, trivial, _, rfl, ?_⟩⟩
        have hd : Txt.isdigit (cutS (sT r) none (some 1)) = true := digHead_sT okr
        rw [hd]
        refine iteT ⟨fun σ' G' => ∃ m', m' < rows.length - i ∧ W m' σ' G', fun _ _ z => z, ?_⟩
        refine ⟨_, rfl, rd, CR, dx', _, _, rfl, hxG, T.cl, T.nA, rl_a _ _ _ _, _, _, rfl, rfl, dx', _, hxG, by show 4 < 1000; decide, ?_⟩
        exact ⟨rows.length - (i + 1), by omega, i + 1, rfl, by omega, rfl, FG.trans Fre.put, dx', put G dx' (k + i) hxG⟩
      · have ei : i = rows.length := by omega
        have hpos : 0 < rows.length := List.length_pos_iff.mpr hne
        by_cases hdn : ws.length ≤ k + i
        case' pos =>
          rw [decide_eq_true hdn]
          refine iteF ?_
        case' neg =>
          obtain ⟨x, hxw⟩ : ∃ x, ws[k + i]? = some x := ⟨ws[k + i]'(by omega), List.getElem?_eq_getElem (by omega)⟩
          have hdx : Txt.isdigit (cutS x none (some 1)) = false := hnx x (by rw [hnl, ← ei]; exact hxw)
          rw [decide_eq_false hdn]
          refine iteT ⟨_, rfl, rd, dx', _, rfl, hxG, lno (by decide +kernel) (by decide +kernel) (by decide +kernel) (by decide +kernel), rd, ws, k + i, lastP, rfl, hRG, .inr ⟨_, hxw, 1, rfl, x, rfl, sz1 (by have := hl x (List.mem_of_getElem? hxw); omega), ⟨_, rfl⟩, _, rfl, rfl, trivial, _, rfl, ?_⟩⟩
          rw [hdx]
          refine iteF ?_
        all_goals
          have nki : ¬ V.int ((k + i : Nat) : Int) = V.int (k : Nat) := fun z => by
            have := V.int.inj z
            omega
          refine ⟨_, rfl, rd, CR, dx', _, _, rfl, hxG, T.cl, T.nA, rl_a _ _ _ _, _, rfl, rfl, _, rfl, ite2 (fun z => absurd (of_decide_eq_true z) nki) (fun _ => ?_)⟩
          refine ⟨_, rfl, rd, CR, dx', _, _, rfl, hxG, T.cl, T.nW, rl_w _ _ _ _, _, rfl, _, rfl, rd, CR, dx', _, _, rfl, hxG, T.cl, T.nA, rl_a _ _ _ _, _, rfl, rd, CR, dx', _, _, rfl, hxG, T.cl, T.nL, rl_l _ _ _ _, pw, k, k + i, lastP, ws, rows, rfl, hwG, by omega, hn, hl, nf, ok, fun r hr' => (okRow_iff (ok r hr')).2.2, hrw, by omega, fun o L G' no hoL hL eL SG => ?_⟩
          have lL : L.length = rows.length := by rw [← rws_len L, eL]
          refine ⟨o, L, rfl, .inl (.inl (.inl hoL)), by omega, hL.pairs, by rw [eL]; exact ok, fun x l G2 nx hx2 hme hle s2 => ?_⟩
          have el : l = rows := Nf.unique hx2.nf nf (fun z => by rw [hme z, eL])
          subst el
          have nx0 : H x = none := by
            cases e : H x with
            | none => rfl
            | some o =>
              by_cases z : x = rd
              · rw [z, SG _ _ hxG] at nx; cases nx
              · rw [SG _ _ (FG x o e z)] at nx; cases nx
          have ekn : k + n = k + i := by omega
          refine q x G2 nx0 hx2 ?_ ((FG.same SG).same s2)
          rw [ekn]
          exact (hRG.same SG).same s2
end
end OR

namespace OR
open PySem PySem.Spec PyProof.Rows L2
open TL (tl numL)
theorem IsR.fld {K : PySem.W.Frag} {CR : Addr} {H : Hp} {rd : Addr} {ws : List Str} {k : Nat} {l : Int} (h : IsR K CR H rd ws k l) (m : Str) (hm : m ≠ ("_words" : Str) ∧ m ≠ ("_at" : Str) ∧ m ≠ ("_functions" : Str) ∧ m ≠ ("_last" : Str) := by decide +kernel) :
    ∃ dx fs, H rd = some (.ins CR dx fs) ∧ fs.lookup m = none := by
  obtain ⟨pw, dx, hx, _⟩ := h
  exact ⟨dx, _, hx, rl_no hm.1 hm.2.1 hm.2.2.1 hm.2.2.2 _ _ _ _⟩
def pmI (s : Str) : Int := if s = ("+" : Str) then 1 else -1
theorem pmI_cases (s : Str) : pmI s = 1 ∨ pmI s = -1 := by
  unfold pmI
  split
  · exact .inl rfl
  · exact .inr rfl
def isPM (s : Str) : Prop := s = "+" ∨ s = "-"
/-- what the words from k on tell of a height -/
def HeightAt (ws : List Str) (k : Nat) (b : Int) (k' : Nat) : Prop := (ws.length ≤ k ∧ b = 0 ∧ k' = k) ∨ ∃ (s x : Str) (n : Int), ws[k]? = some s ∧ isPM s ∧ ws[k + 1]? = some x ∧ decL (tl x) = some n ∧ 0 < n ∧ b = pmI s * n ∧ k' = k + 2
def LineFrom (ws : List Str) (k : Nat) (term : Str) (bi a b : Int) (k' : Nat) : Prop :=
  (term = "x" ∧ a = bi ∧ HeightAt ws k b k') ∨ (∃ n, term ≠ "x" ∧ decL (tl term) = some n ∧ 0 < n ∧ (n = 1 ∨ ws.length ≤ k) ∧ a = 0 ∧ b = bi * n ∧ k' = k) ∨
  (∃ n, term ≠ "x" ∧ decL (tl term) = some n ∧ 1 < n ∧ ws[k]? = some ("x" : Str) ∧ a = bi * n ∧ HeightAt ws (k + 1) b k')
def spPM (K : PySem.W.Frag) (CR : Addr) : Sp := fun vs H Q _ => ∃ (rd : Addr) (ws : List Str) (k : Nat) (l : Int) (s : Str), vs = [.ref rd] ∧ IsR K CR H rd ws k l ∧ ws[k]? = some s ∧ isPM s ∧ ∀ H', IsR K CR H' rd ws (k + 1) l → Fre rd H H' → Q (.int (pmI s)) H'
def spAbove : Sp := fun vs H Q _ => ∃ (rd : Addr) (x : Str) (n : Int), vs = [.ref rd, .str x] ∧ (∃ CR dx fs, H rd = some (.ins CR dx fs) ∧ fs.lookup ("check_last" : Str) = none) ∧ x.length ≤ 600 ∧ decL (tl x) = some n ∧ 0 < n ∧ Q (.int n) H
def spAboveR (K : PySem.W.Frag) (CR : Addr) : Sp := fun vs H Q _ => ∃ (rd : Addr) (ws : List Str) (k : Nat) (l : Int) (x : Str) (n : Int), vs = [.ref rd, .str x] ∧ IsR K CR H rd ws k l ∧ x.length ≤ 600 ∧ decL (tl x) = some n ∧ 0 < n ∧ Q (.int n) H
def spHeight (K : PySem.W.Frag) (CR : Addr) : Sp := fun vs H Q _ => ∃ (rd : Addr) (ws : List Str) (k : Nat) (l b : Int) (k' : Nat), vs = [.ref rd] ∧ IsR K CR H rd ws k l ∧ HeightAt ws k b k' ∧ ∀ H', IsR K CR H' rd ws k' l → Fre rd H H' → Q (.int b) H'
def spLineFrom (K : PySem.W.Frag) (CR CL : Addr) : Sp := fun vs H Q _ => ∃ (rd : Addr) (ws : List Str) (k : Nat) (l : Int) (term : Str) (bi a b : Int) (k' : Nat), vs = [.ref rd, .str term, .int bi] ∧ IsR K CR H rd ws k l ∧ term.length ≤ 600 ∧ (bi = 1 ∨ bi = -1) ∧ LineFrom ws k term bi a b k' ∧
  ∀ y H', H y = none → IsL CL H' y a b → IsR K CR H' rd ws k' l → Fre rd H H' → Q (.ref y) H'
theorem fre_none {rd y : Addr} {H H' : Hp} {o : HO} (hr : H' rd = some o) (f : Fre rd H H') (n : H' y = none) : H y = none := by
  cases e : H y with
  | none => rfl
  | some u =>
    by_cases z : y = rd
    · rw [z, hr] at n; cases n
    · rw [f y u e z] at n; cases n
theorem IsR.none {K : PySem.W.Frag} {CR : Addr} {H H' : Hp} {rd y : Addr} {ws : List Str} {k : Nat} {l : Int} (h : IsR K CR H' rd ws k l) (f : Fre rd H H') (n : H' y = none) : H y = none := by
  obtain ⟨_, _, hx, _⟩ := h
  exact fre_none hx f n
section
variable {P : Program} {w : World} {K : PySem.W.Frag} {mg : Str → Option Value} {base : Heap} {CR CL CP : Addr}
theorem scPM : FnScope ["reader"] ["reader"] (defScope sRSignPM) := ⟨rfl, rfl, rfl, by decide +kernel, rfl, by decide +kernel, by decide +kernel⟩
theorem ok_pm {f : Addr} {fd : FuncData} (F : Fun K "_read_plus_or_minus" "_read_plus_or_minus" sRSignPM f fd) (T : RdTxt K mg CR) (OO : Mt P w K mg base 3 CR "take_one_of" ["self", "allowed"] (spOneOf K CR)) : FnOk P w K mg base CX0 4 f fd ["reader"] (spPM K CR) := by
  refine F.ok scPM (fun vs H Q E h => ?_) (fun cdv A outer s H vs Q E hr h => ?_)
  · obtain ⟨_, _, _, _, _, rfl, _⟩ := h; rfl
  · obtain ⟨rd, ws, k, l, x, rfl, hR, h1, hs, q⟩ := h
    obtain ⟨dx, fs, hx, hno⟩ := hR.fld "take_one_of"
    refine ⟨_, pss_one (ps_ret (pe_ifExp (pt_cmpR op_eq (pe_mt OO T.cl hr (by decide) (pv 0) (pa_cons (pe_tup (pa_cons pe_str (pa_cons pe_str pa_nil))) pa_nil)) pe_str (nomark _)) pe_int (pe_un un_neg pe_int))), ?_⟩
    refine ⟨_, rfl, rd, dx, _, rfl, hx, hno, by show 2 ≤ sizeLine; decide, fun t ht => ?_⟩
    have st := same_lay (o := .tup [.str ("+" : Str), .str ("-" : Str)]) ht
    refine ⟨rd, t, ws, k, l, x, ["+", "-"], rfl, hR.same st, h1, .inr (.inl (.inl upd_same)), by rcases hs with e | e <;> subst e <;> simp, fun H2 R2 F2 => ?_⟩
    have F3 : Fre rd H H2 := (freS st).trans F2
    have q2 := q H2 R2 F3
    unfold pmI at q2
    refine ⟨rfl, _, rfl, ite2 (fun z => ?_) (fun z => ?_)⟩
    · rw [if_pos (V.str.inj (of_decide_eq_true z))] at q2
      exact q2
    · rw [if_neg (fun e => z (decide_eq_true (by rw [e])))] at q2
      exact ⟨_, rfl, q2⟩
theorem scAN : FnScope ["reader", "word", "number"] ["reader", "word"] (defScope sAbove) := ⟨rfl, rfl, rfl, by decide +kernel, rfl, by decide +kernel, by decide +kernel⟩
theorem ok_above {f : Addr} {fd : FuncData} (F : Fun K "_above_nought" "_above_nought" sAbove f fd) (T : RdTxt K mg CR) (RD : Cl P w K mg base 1 "read_decimal" ["text"] spRDec) (CLa : Mt P w K mg base 1 CR "check_last" ["self", "is_right"] spLastOk) : FnOk P w K mg base CX0 2 f fd ["reader", "word"] (spAboveR K CR) := by
  refine F.ok scAN (fun vs H Q E h => ?_) (fun cdv A outer s H vs Q E hr h => ?_)
  · obtain ⟨_, _, _, _, _, _, rfl, _⟩ := h; rfl
  · obtain ⟨rd, ws, k, l, x, n, rfl, hR, hlx, hd, hn, q⟩ := h
    obtain ⟨dx, fs, hx, hno⟩ := hR.fld "check_last"
    have nd := scAN.nd
    refine ⟨_, pss_cons (ps_set (i := 2) nd rfl (.inl rfl) (pe_cl RD hr (by decide) (by rfl) (pa_cons (pv 1) pa_nil)))
      (pss_cons (ps_expr (pe_mt CLa T.cl hr (by decide) (pv 0) (pa_cons (pe_and (pe_cmp (pc_notN (pv 2)) rfl) (pe_one (pe_cmpR op_gt (pv 2) pe_int (nomark _)))) pa_nil)))
      (pss_one (ps_ret (pv 2)))), ?_⟩
    refine ⟨_, rfl, x, rfl, hlx, ?_⟩
    rw [hd]
    refine ⟨_, rfl, rd, dx, _, rfl, hx, hno, _, rfl, _, rfl, iteT ⟨_, rfl, _, _, rfl, rfl, rd, ?_, _, rfl, q⟩⟩
    show V.ref rd :: ([V.bl (decide ((0 : Int) < n))] ++ []) = _
    rw [decide_eq_true hn]
    rfl
theorem scHe : FnScope ["reader", "by"] ["reader"] (defScope sRHeight) := ⟨rfl, rfl, rfl, by decide +kernel, rfl, by decide +kernel, by decide +kernel⟩
theorem ok_height {f : Addr} {fd : FuncData} (F : Fun K "_read_height" "_read_height" sRHeight f fd) (T : RdTxt K mg CR) (D : Mt P w K mg base 1 CR "is_done" ["self"] (spDone K CR)) (TK : Mt P w K mg base 2 CR "take" ["self"] (spTake K CR))
    (PM : Cl P w K mg base 4 "_read_plus_or_minus" ["reader"] (spPM K CR)) (AN : Cl P w K mg base 2 "_above_nought" ["reader", "word"] (spAboveR K CR)) : FnOk P w K mg base CX0 5 f fd ["reader"] (spHeight K CR) := by
  refine F.ok scHe (fun vs H Q E h => ?_) (fun cdv A outer s H vs Q E hr h => ?_)
  · obtain ⟨_, _, _, _, _, _, rfl, _⟩ := h; rfl
  · obtain ⟨rd, ws, k, l, b, k', rfl, hR, hH, q⟩ := h
    obtain ⟨dx, fs, hx, hno⟩ := hR.fld "is_done"
    have nd := scHe.nd
    refine ⟨_, pss_cons (ps_if (pt_val (pe_mt0 D T.cl hr (by decide) (pv 0))) (pss_one (ps_ret pe_int)) pss_nil)
      (pss_cons (ps_set (i := 1) nd rfl (.inl rfl) (pe_cl PM hr (by decide) (by rfl) (pa_cons (pv 0) pa_nil)))
      (pss_one (ps_ret (pe_op op_mul (pv 1) (pe_cl AN hr (by decide) (by rfl) (pa_cons (pv 0) (pa_cons (pe_mt0 TK T.cl hr (by decide) (pv 0)) pa_nil))))))), ?_⟩
    refine ⟨_, rfl, rd, dx, _, rfl, hx, hno, rd, ws, k, l, rfl, hR, _, rfl, ?_⟩
    rcases hH with ⟨h1, rfl, rfl⟩ | ⟨sg, x, n, h1, hs, h2, hd, hn, rfl, rfl⟩
    · rw [decide_eq_true h1]
      exact iteT (q H hR (Fre.refl _ _))
    · have hlt : k < ws.length := (List.getElem?_eq_some_iff.mp h1).1
      rw [decide_eq_false (by omega)]
      refine iteF ⟨_, rfl, rd, ws, k, l, sg, rfl, hR, h1, hs, fun H1 R1 F1 => ?_⟩
      obtain ⟨dx1, fs1, hx1, hno1⟩ := R1.fld "take"
      refine ⟨_, rfl, _, rfl, _, rfl, rd, dx1, _, rfl, hx1, hno1, rd, ws, k + 1, l, x, rfl, R1, h2, fun H2 R2 F2 => ?_⟩
      obtain ⟨_, _, _, _, _, _, hlw⟩ := id R2
      refine ⟨rd, ws, k + 1 + 1, l, x, n, rfl, R2, Nat.le_trans (hlw x (List.mem_of_getElem? h2)) (by decide), hd, hn, _, _, rfl, rfl, .inl ?_, q H2 R2 (F1.trans F2)⟩
      rcases pmI_cases sg with e | e <;> rw [e] <;> constructor <;> decide
theorem scLF : FnScope ["reader", "term", "by", "number"] ["reader", "term", "by"] (defScope sLineFrom) := ⟨rfl, rfl, rfl, by decide +kernel, rfl, by decide +kernel, by decide +kernel⟩
theorem ok_linefrom {f : Addr} {fd : FuncData} (F : Fun K "_line_from" "_line_from" sLineFrom f fd) (T : RdTxt K mg CR) (LM : LMk P w K mg base CL) (PK : Mt P w K mg base 2 CR "peek" ["self"] (spPeek K CR)) (TK : Mt P w K mg base 2 CR "take" ["self"] (spTake K CR))
    (HE : Cl P w K mg base 5 "_read_height" ["reader"] (spHeight K CR)) (AN : Cl P w K mg base 2 "_above_nought" ["reader", "word"] (spAboveR K CR)) : FnOk P w K mg base CX0 6 f fd ["reader", "term", "by"] (spLineFrom K CR CL) := by
  refine F.ok scLF (fun vs H Q E h => ?_) (fun cdv A outer s H vs Q E hr h => ?_)
  · obtain ⟨_, _, _, _, _, _, _, _, _, rfl, _⟩ := h; rfl
  · obtain ⟨rd, ws, k, l, term, bi, a, b, k', rfl, hR, hlt, hbi, hL, q⟩ := h
    have nd := scLF.nd
    have hbm : ∀ j, CMul bi j := fun j => by rcases hbi with e | e <;> subst e <;> exact .inl ⟨by decide, by decide⟩
    refine ⟨_, pss_cons (ps_if (pt_cmpR op_eq (pv 1) pe_str (nomark _)) (pss_one (ps_ret (pe_mkL LM hr (by decide) (by rfl) (pa_cons (pv 2) (pa_cons (pe_cl HE hr (by decide) (by rfl) (pa_cons (pv 0) pa_nil)) pa_nil))))) pss_nil)
      (pss_cons (ps_set (i := 3) nd rfl (.inl rfl) (pe_cl AN hr (by decide) (by rfl) (pa_cons (pv 0) (pa_cons (pv 1) pa_nil))))
      (pss_cons (ps_if (PW.pt (pw_or (pt_cmpR op_eq (pv 3) pe_int (nomark _)) (pw_or1 (pt_cmpR op_ne (pe_mt0 PK T.cl hr (by decide) (pv 0)) pe_str (nomark _))))) (pss_one (ps_ret (pe_mkL LM hr (by decide) (by rfl) (pa_cons pe_int (pa_cons (pe_op op_mul (pv 2) (pv 3)) pa_nil))))) pss_nil)
      (pss_cons (ps_expr (pe_mt0 TK T.cl hr (by decide) (pv 0)))
      (pss_one (ps_ret (pe_mkL LM hr (by decide) (by rfl) (pa_cons (pe_op op_mul (pv 2) (pv 3)) (pa_cons (pe_cl HE hr (by decide) (by rfl) (pa_cons (pv 0) pa_nil)) pa_nil)))))))), ?_⟩
    refine ⟨_, rfl, rfl, _, rfl, ?_⟩
    rcases hL with ⟨rfl, rfl, hH⟩ | ⟨n, hx, hd, hn, hend, rfl, rfl, rfl⟩ | ⟨n, hx, hd, hn, hxx, rfl, hH⟩
    · refine ite2 (fun _ => ?_) (fun z => absurd (decide_eq_true rfl) z)
      exact ⟨_, rfl, _, rfl, rd, ws, k, l, b, k', rfl, hR, hH, fun H1 R1 F1 => ⟨_, _, rfl, fun y H2 ny hy s2 => q y H2 (R1.none F1 ny) hy (R1.same s2) (F1.same s2)⟩⟩
    · refine ite2 (fun z => absurd (V.str.inj (of_decide_eq_true z)) hx) (fun _ => ?_)
      refine ⟨_, rfl, _, rfl, rd, ws, _, l, term, n, rfl, hR, hlt, hd, hn, ?_⟩
      refine ⟨_, rfl, rfl, _, rfl, ?_⟩
      by_cases h1 : n = 1
      · refine ite2 (fun _ => iteT ?_) (fun z => absurd (decide_eq_true (by rw [h1])) z)
        exact ⟨_, rfl, _, rfl, _, _, rfl, rfl, hbm _, _, _, rfl, fun y H2 ny hy s2 => q y H2 ny hy (hR.same s2) (freS s2)⟩
      · refine ite2 (fun z => absurd (V.int.inj (of_decide_eq_true z)) h1) (fun _ => ?_)
        have hend := hend.resolve_left h1
        obtain ⟨dx, fs, hx0, hno⟩ := hR.fld "peek"
        refine ⟨_, rfl, rd, dx, _, rfl, hx0, hno, rd, ws, _, l, rfl, hR, .inl ⟨hend, rfl, _, rfl, iteT ?_⟩⟩
        exact ⟨_, rfl, _, rfl, _, _, rfl, rfl, hbm _, _, _, rfl, fun y H2 ny hy s2 => q y H2 ny hy (hR.same s2) (freS s2)⟩
    · refine ite2 (fun z => absurd (V.str.inj (of_decide_eq_true z)) hx) (fun _ => ?_)
      refine ⟨_, rfl, _, rfl, rd, ws, k, l, term, n, rfl, hR, hlt, hd, by omega, ?_⟩
      refine ⟨_, rfl, rfl, _, rfl, ite2 (fun z => absurd (V.int.inj (of_decide_eq_true z)) (by omega)) (fun _ => ?_)⟩
      obtain ⟨dx, fs, hx0, hno⟩ := hR.fld "peek"
      refine ⟨_, rfl, rd, dx, _, rfl, hx0, hno, rd, ws, k, l, rfl, hR, .inr ⟨_, hxx, rfl, _, rfl, ?_⟩⟩
      rw [show (!decide (V.str ("x" : Str) = V.str ("x" : Str))) = false by rw [decide_eq_true rfl]; rfl]
      refine iteF ?_
      obtain ⟨dx2, fs2, hx2, hno2⟩ := hR.fld "take"
      refine ⟨_, rfl, rd, dx2, _, rfl, hx2, hno2, rd, ws, k, l, _, rfl, hR, hxx, fun H1 R1 F1 => ?_⟩
      exact ⟨_, rfl, _, rfl, _, _, rfl, rfl, hbm _, _, rfl, rd, ws, k + 1, l, b, k', rfl, R1, hH, fun H2 R2 F2 => ⟨_, _, rfl, fun y H3 ny hy s3 => q y H3 (R2.none (F1.trans F2) ny) hy (R2.same s3) ((F1.trans F2).same s3)⟩⟩
end
end OR

namespace OR
open PySem PySem.Spec PyProof.Rows L2
open TL (tl numL)
/-! ### a dict of the top: its keys as a list, an item -/
inductive TabL : List DictEntry → List (Str × Value) → Prop where
  | nil : TabL [] []
  | cons {e : DictEntry} {x : Str} {t : Tok} {v : Value} {es : List DictEntry} {kvs : List (Str × Value)} (hk : e.key = .str x t) (hv : e.val = v) (r : TabL es kvs) : TabL (e :: es) ((x, v) :: kvs)
structure KTab (K : PySem.W.Frag) (w : World) (a : Addr) (kvs : List (Str × Value)) : Prop where
  ex : ∃ es n, K.lookup a = some ⟨.type "dict", none, .dict es n, #[]⟩ ∧ PySem.W.KeysLit w.params es.toList ∧ TabL es.toList kvs
  no : (kvs.map (·.1)).Nodup
  sz : kvs.length ≤ 100
  lo : (a == sysModules) = false
theorem TabL.pairs {prog : Program} {w : World} : ∀ {es : List DictEntry} {kvs : List (Str × Value)}, TabL es kvs → Pairs (strKind prog w) es kvs
  | _, _, .nil => .nil
  | _, _, .cons hk hv r => .cons (by rw [hk]; exact strKind_is prog w _ _) hv r.pairs
def rListK (K : PySem.W.Frag) (w : World) : List V → Hp → VK → Prop := fun xs H Q => ∃ p kvs, xs = [.ref p] ∧ KTab K w p kvs ∧ ∀ q, H q = none → Q (.ref q) (upd H q (.lst (kvs.map fun kv => V.str kv.1)))
theorem call_list_kD {X : Cx} (hc : X.calm = true) : CallR X (.type "list") (rListK X.K X.w) := by
  intro pins s σ H xs us Q I r h
  obtain ⟨p, kvs, e, T, q⟩ := h
  subst e
  obtain ⟨u, eu, rx⟩ := vals1 r
  subst eu
  obtain rfl : u = Value.ref p := rx
  obtain ⟨es, n, hl, hk, ht⟩ := T.ex
  have hm := PySem.W.mapOf_K (prog := X.prog) (w := X.w) I.kIn hl hk
  obtain ⟨o, es', ep, h1, h2, h3, h4, _⟩ := hm
  have ho := I.kIn _ _ hl
  rw [h1] at ho
  cases Option.some.inj ho
  cases h3
  have hat : s.heap.DictAt (strKind X.prog X.w) p kvs n := ⟨_, es, h1, h2, rfl, h4, ht.pairs, T.no⟩
  have hz : kvs.length ≤ sizeLine := Nat.le_trans T.sz (by decide)
  refine PySem.W.kdl_call (PySem.W.kdl_dict (knd := strKind X.prog X.w) (kvs := kvs) (ep := n) T.lo) (I.ok.hd hc) hat hz fun h' tk acc' c' hkeep hS hacc => ?_
  refine ⟨.ref s.heap.objs.size, upd H s.heap.objs.size (.lst (kvs.map fun kv => V.str kv.1)), I.laid hkeep (Nat.le_refl _) (show ObjOk X.prog X.w _ _ _ (.lst (kvs.map fun kv => V.str kv.1)) from ⟨by rw [List.length_map]; exact hz, acc'.toList, c', ?_, ?_⟩), rfl, q _ (I.hok.fresh (Nat.le_refl _))⟩
  · have el : acc'.toList.length = acc'.size := by simp
    refine vals_of_at (by rw [List.length_map, el, hacc.1]) fun j x w h1 h2 => ?_
    obtain ⟨k, y, hky, hi⟩ := hacc.2 j w (by rw [← Array.getElem?_toList]; exact h2)
    rw [List.getElem?_map, hky] at h1
    cases h1
    show RelV (.str k) w
    obtain ⟨t, e⟩ := Value.isStrOf_shape (show Value.isStrOf k w = true from hi)
    subst e
    exact ⟨t, rfl⟩
  · rw [Array.toArray_toList]; exact hS
theorem tab_item {K : PySem.W.Frag} {w : World} {p : Addr} {kvs : List (Str × Value)} (T : KTab K w p kvs) {x : Str} {v : Value} {y : V} (hx : PySem.W.nsIn K p x = some (some v)) (r : RelV y v) : KDct K w p x y := by
  obtain ⟨es, n, hl, hk, ht⟩ := T.ex
  exact ⟨es, n, v, hl, hk, hx, r⟩
end OR

namespace OR
open PySem PySem.Spec PyProof.Rows L2
open TL (tl numL)
structure CMk (P : Program) (w : World) (K : PySem.W.Frag) (mg : Str → Option Value) (base : Heap) (C : Nat → Addr) (i : Nat) (ps : List Str) : Prop where
  made : ∃ f fd, Mk K (C i) f ∧ FnOk P w K mg base CX0 4 f fd ps (spCInit C i) ∧ Binds K fd ps []
  mgC : mg (clsName i) = some (.ref (C i))
def tMkC (C : Nat → Addr) (i : Nat) (t : TA) : TE := fun σ H Q => t σ H fun vs H1 => ∃ (f : Str) (pl : Addr) (x : List V), vs = .str f :: .ref pl :: x ∧ Word f ∧ WF i f x ∧ ∀ z dx H', H1 z = none → H' z = some (.ins (C i) dx (cFl i f pl x)) → Same H1 H' → Q (.ref z) H'
theorem pe_mkC {X : Cx} {C : Nat → Addr} {i j : Nat} {ps : List Str} {nm : Str} {e : Expr} {es : List Expr} {t : TA} {p pos : Pos} (M : CMk X.prog X.w X.K X.mg X.base C i ps) (hn : clsName i = nm) (hr : Room j X.A) (hj : 5 ≤ j) (hg : Gl X nm) (ha : PA X (e :: es) t) (hd : (nm == ("__debug__" : Str)) = false := by decide)
    (he : starEach (e :: es) X.env = (false, eval e X.env) :: starEach es X.env := by rfl) (hpl : (backTo pos (starEach es X.env)).any (·.1) = false := by rfl) : PE X (.Call (.Name nm p) (e :: es) [] pos) (tMkC C i t) := by
  subst hn
  obtain ⟨f, fd, mk, F, hb⟩ := M.made
  refine ⟨fun pins s σ H Q I h => ?_⟩
  refine wpAny_Call_Name_kw (ld_glob I hg M.mgC ?_ hd)
  refine PySem.W.callWith_K (h₀ := X.base) I.ok.mod.kin mk.kp (thn (ha.run pos pins s σ H _ I h) fun us s1 ⟨vs, H1, I1, r, q⟩ => ⟨I1.kIn, ?_⟩) he hpl
  obtain ⟨f1, pl, x, rfl, hw, wf, q⟩ := q
  refine run_make mk F (hr.mono hj) hb .nil pass0 I1 r fun z dx nz ndx nex => ?_
  refine ⟨z, dx, f1, pl, x, by rw [List.append_nil], hw, wf, upd_same, fun H' hx hs => ⟨rfl, q z dx H' nz hx fun c o e => ?_⟩⟩
  have ncz : c ≠ z := ne_of_none e nz
  refine hs c o ?_ ncz
  rw [upd_ne ncz, upd_ne (ne_of_none e ndx)]
  exact e
theorem IsP.fre {C CR : Addr} {H H' : Hp} {x rd dr : Addr} {l : List Row} {fs : List (Str × V)} (h : IsP C H x l) (hr : H rd = some (.ins CR dr fs)) (hne : CR ≠ C) (fr : Fre rd H H') : IsP C H' x l := by
  obtain ⟨nf, dx, t, f, b, M, h1, h2, h3, h4, h5, h6, h7⟩ := h
  have go : ∀ (a : Addr) (o : HO), H a = some o → (∀ d g, o ≠ .ins CR d g) → H' a = some o := fun a o e no => fr a o e (ne_of e hr (no dr fs))
  exact ⟨nf, dx, t, f, b, M, go _ _ h1 (by intro d g z; injection z with z; exact hne z.symm), go _ _ h2 (by intro d g z; cases z), fun q hq => go _ _ (h3 q hq) (by intro d g z; cases z), h4, go _ _ h5 (by intro d g z; cases z), go _ _ h6 (by intro d g z; cases z), h7⟩
/-- what the words from k on tell of a line, to k' -/
def LineW (ws : List Str) (k : Nat) (a b : Int) (k' : Nat) : Prop := ∃ x, ws[k]? = some x ∧ ((x = "0" ∧ a = 0 ∧ b = 0 ∧ k' = k + 1) ∨ (∃ r, tl x = 45 :: r ∧ LineFrom ws (k + 1) (ofL r) (-1) a b k') ∨ ((tl x).head? ≠ some 45 ∧ x ≠ "0" ∧ LineFrom ws (k + 1) x 1 a b k'))
def AddedW (ws : List Str) (k : Nat) (a b : Int) (k' : Nat) : Prop := (ws.length ≤ k ∧ a = 0 ∧ b = 0 ∧ k' = k) ∨ ∃ s x, ws[k]? = some s ∧ isPM s ∧ ws[k + 1]? = some x ∧ LineFrom ws (k + 2) x (pmI s) a b k'
def spRLine (K : PySem.W.Frag) (CR CL : Addr) : Sp := fun vs H Q _ => ∃ (rd : Addr) (ws : List Str) (k : Nat) (l a b : Int) (k' : Nat), vs = [.ref rd] ∧ IsR K CR H rd ws k l ∧ LineW ws k a b k' ∧ ∀ y H', H y = none → IsL CL H' y a b → IsR K CR H' rd ws k' l → Fre rd H H' → Q (.ref y) H'
def spRAdd (K : PySem.W.Frag) (CR CL : Addr) : Sp := fun vs H Q _ => ∃ (rd : Addr) (ws : List Str) (k : Nat) (l a b : Int) (k' : Nat), vs = [.ref rd] ∧ IsR K CR H rd ws k l ∧ AddedW ws k a b k' ∧ ∀ y H', H y = none → IsL CL H' y a b → IsR K CR H' rd ws k' l → Fre rd H H' → Q (.ref y) H'
def spROther (K : PySem.W.Frag) (CR : Addr) : Sp := fun vs H Q _ => ∃ (rd : Addr) (ws : List Str) (k : Nat) (l : Int) (f g : Str), vs = [.ref rd, .str f] ∧ IsR K CR H rd ws k l ∧ ws[k]? = some g ∧ Word g ∧ g ≠ f ∧ ∀ H', IsR K CR H' rd ws (k + 1) l → Fre rd H H' → Q (.str g) H'
/-- what the words from k on tell behind the places -/
def RestW : Nat → List Str → Nat → Str → List V → Nat → Prop
  | 0, _, k, _, x, k' => x = [] ∧ k' = k
  | 1, _, k, _, x, k' => x = [] ∧ k' = k
  | 2, ws, k, f, x, k' => ∃ g, x = [.str g] ∧ Word g ∧ g ≠ f ∧ ws[k]? = some g ∧ k' = k + 1
  | 3, ws, k, _, x, k' => ∃ w, x = [.str w] ∧ isWay w ∧ ws[k]? = some w ∧ k' = k + 1
  | 4, ws, k, _, x, k' => ∃ s a b, x = [.str s, .int a, .int b] ∧ isSign s ∧ Num a ∧ Num b ∧ ws[k]? = some s ∧ LineW ws (k + 1) a b k'
  | 5, ws, k, f, x, k' => ∃ s g a b, x = [.str s, .str g, .int a, .int b] ∧ isSign s ∧ Word g ∧ g ≠ f ∧ Num a ∧ Num b ∧ ws[k]? = some s ∧ ws[k + 1]? = some g ∧ AddedW ws (k + 2) a b k'
  | _, ws, k, _, x, k' => ∃ s b t, x = [.str s, .int b] ∧ isSign s ∧ Num b ∧ ws[k]? = some s ∧ ws[k + 1]? = some t ∧ decL (tl t) = some b ∧ k' = k + 2
theorem RestW.wf : ∀ {i : Nat} {ws : List Str} {k : Nat} {f : Str} {x : List V} {k' : Nat}, RestW i ws k f x k' → WF i f x
  | 0, _, _, _, _, _, h => h.1
  | 1, _, _, _, _, _, h => h.1
  | 2, _, _, _, _, _, ⟨g, h1, h2, h3, _⟩ => ⟨g, h1, h2, h3⟩
  | 3, _, _, _, _, _, ⟨w, h1, h2, _⟩ => ⟨w, h1, h2⟩
  | 4, _, _, _, _, _, ⟨s, a, b, h1, h2, h3, h4, _⟩ => ⟨s, a, b, h1, h2, h3, h4⟩
  | 5, _, _, _, _, _, ⟨s, g, a, b, h1, h2, h3, h4, h5, h6, _⟩ => ⟨s, g, a, b, h1, h2, h3, h4, h5, h6⟩
  | _ + 6, _, _, _, _, _, ⟨s, b, t, h1, h2, h3, _⟩ => ⟨s, b, h1, h2, h3⟩
def spRd (K : PySem.W.Frag) (CR : Addr) (C : Nat → Addr) (i : Nat) : Sp := fun vs H Q _ => ∃ (rd pl : Addr) (f : Str) (ws : List Str) (k : Nat) (x : List V) (k' : Nat), vs = [.ref rd, .str f, .ref pl] ∧ IsR K CR H rd ws k lastP ∧ Word f ∧ RestW i ws k f x k' ∧
  ∀ z dx H', H z = none → H' z = some (.ins (C i) dx (cFl i f pl x)) → IsR K CR H' rd ws k' lastP → Fre rd H H' → Q (.ref z) H'
section
variable {P : Program} {w : World} {K : PySem.W.Frag} {mg : Str → Option Value} {base : Heap} {CR CL CP : Addr} {C : Nat → Addr} {ts tw : Addr}
theorem scRL : FnScope ["reader", "word"] ["reader"] (defScope sRLine) := ⟨rfl, rfl, rfl, by decide +kernel, rfl, by decide +kernel, by decide +kernel⟩
theorem ok_rline {f : Addr} {fd : FuncData} (F : Fun K "_read_line" "_read_line" sRLine f fd) (T : RdTxt K mg CR) (LM : LMk P w K mg base CL) (TK : Mt P w K mg base 2 CR "take" ["self"] (spTake K CR)) (LF : Cl P w K mg base 6 "_line_from" ["reader", "term", "by"] (spLineFrom K CR CL)) :
    FnOk P w K mg base CX0 7 f fd ["reader"] (spRLine K CR CL) := by
  refine F.ok scRL (fun vs H Q E h => ?_) (fun cdv A outer s H vs Q E hr h => ?_)
  · obtain ⟨_, _, _, _, _, _, _, rfl, _⟩ := h; rfl
  · obtain ⟨rd, ws, k, l, a, b, k', rfl, hR, ⟨x, hx, hL⟩, q⟩ := h
    have nd := scRL.nd
    refine ⟨_, pss_cons (ps_set (i := 1) nd rfl (.inl rfl) (pe_mt0 TK T.cl hr (by decide) (pv 0)))
      (pss_cons (ps_if (pt_cmpR op_eq (pv 1) pe_str (nomark _)) (pss_one (ps_ret (pe_mkL LM hr (by decide) (by rfl) (pa_cons pe_int (pa_cons pe_int pa_nil))))) pss_nil)
      (pss_one (ps_ret (pe_ifExp (pt_val (pe_m1 PySem.F.slot_str_startswith PySem.F.type_str_startswith mt_startswith (pv 1) pe_str))
        (pe_cl LF hr (by decide) (by rfl) (pa_cons (pv 0) (pa_cons (pe_slice sl_str (pv 1) (po_some pe_int) po_none) (pa_cons (pe_un un_neg pe_int) pa_nil))))
        (pe_cl LF hr (by decide) (by rfl) (pa_cons (pv 0) (pa_cons (pv 1) (pa_cons pe_int pa_nil)))))))), ?_⟩
    obtain ⟨dx, fs, hx0, hno⟩ := hR.fld "take"
    refine ⟨_, rfl, rd, dx, _, rfl, hx0, hno, rd, ws, k, l, x, rfl, hR, hx, fun H1 R1 F1 => ?_⟩
    obtain ⟨_, _, _, _, _, _, hlw⟩ := id hR
    have hlx := hlw x (List.mem_of_getElem? hx)
    have hsz : x.length ≤ sizeLine := sz1 (by omega)
    refine ⟨_, rfl, rfl, _, rfl, ?_⟩
    rcases hL with ⟨rfl, rfl, rfl, rfl⟩ | ⟨r, ht, hL⟩ | ⟨h45, h0, hL⟩
    · refine ite2 (fun _ => ?_) (fun z => absurd (decide_eq_true rfl) z)
      exact ⟨_, _, rfl, fun y H2 ny hy s2 => q y H2 (R1.none F1 ny) hy (R1.same s2) (F1.same s2)⟩
    · have h0 : ¬ V.str x = V.str ("0" : Str) := fun z => by
        rw [V.str.inj z] at ht
        have e : (tl ("0" : Str)).head? = some 45 := congrArg List.head? ht
        exact absurd e (by decide)
      refine ite2 (fun z => absurd (of_decide_eq_true z) h0) (fun _ => ?_)
      refine ⟨_, rfl, ⟨_, rfl⟩, x, _, rfl, rfl, _, rfl, ?_⟩
      rw [sw_minus, decide_eq_true (by rw [ht]; rfl)]
      refine iteT ⟨_, rfl, _, rfl, 1, rfl, x, rfl, hsz, ?_⟩
      rw [cut_tail, ht]
      refine ⟨1, rfl, rd, ws, k + 1, l, ofL r, -1, a, b, k', rfl, R1, ?_, .inr rfl, hL, fun y H2 ny hy R2 F2 => q y H2 (R1.none F1 ny) hy R2 (F1.trans F2)⟩
      rw [len_ofL]
      rw [TL.len_tl, ht, List.length_cons] at hlx
      omega
    · refine ite2 (fun z => absurd (V.str.inj (of_decide_eq_true z)) h0) (fun _ => ?_)
      refine ⟨_, rfl, ⟨_, rfl⟩, x, _, rfl, rfl, _, rfl, ?_⟩
      rw [sw_minus, decide_eq_false h45]
      exact iteF ⟨_, rfl, _, rfl, rd, ws, k + 1, l, x, 1, a, b, k', rfl, R1, by omega, .inl rfl, hL, fun y H2 ny hy R2 F2 => q y H2 (R1.none F1 ny) hy R2 (F1.trans F2)⟩
theorem scRA : FnScope ["reader", "by"] ["reader"] (defScope sRAdd) := ⟨rfl, rfl, rfl, by decide +kernel, rfl, by decide +kernel, by decide +kernel⟩
theorem ok_radd {f : Addr} {fd : FuncData} (F : Fun K "_read_added_line" "_read_added_line" sRAdd f fd) (T : RdTxt K mg CR) (LM : LMk P w K mg base CL) (D : Mt P w K mg base 1 CR "is_done" ["self"] (spDone K CR)) (TK : Mt P w K mg base 2 CR "take" ["self"] (spTake K CR)) (PM : Cl P w K mg base 4 "_read_plus_or_minus" ["reader"] (spPM K CR))
    (LF : Cl P w K mg base 6 "_line_from" ["reader", "term", "by"] (spLineFrom K CR CL)) : FnOk P w K mg base CX0 7 f fd ["reader"] (spRAdd K CR CL) := by
  refine F.ok scRA (fun vs H Q E h => ?_) (fun cdv A outer s H vs Q E hr h => ?_)
  · obtain ⟨_, _, _, _, _, _, _, rfl, _⟩ := h; rfl
  · obtain ⟨rd, ws, k, l, a, b, k', rfl, hR, hL, q⟩ := h
    have nd := scRA.nd
    refine ⟨_, pss_cons (ps_if (pt_val (pe_mt0 D T.cl hr (by decide) (pv 0))) (pss_one (ps_ret (pe_mkL LM hr (by decide) (by rfl) (pa_cons pe_int (pa_cons pe_int pa_nil))))) pss_nil)
      (pss_cons (ps_set (i := 1) nd rfl (.inl rfl) (pe_cl PM hr (by decide) (by rfl) (pa_cons (pv 0) pa_nil)))
      (pss_one (ps_ret (pe_cl LF hr (by decide) (by rfl) (pa_cons (pv 0) (pa_cons (pe_mt0 TK T.cl hr (by decide) (pv 0)) (pa_cons (pv 1) pa_nil))))))), ?_⟩
    obtain ⟨dx, fs, hx0, hno⟩ := hR.fld "is_done"
    refine ⟨_, rfl, rd, dx, _, rfl, hx0, hno, rd, ws, k, l, rfl, hR, _, rfl, ?_⟩
    rcases hL with ⟨h1, rfl, rfl, rfl⟩ | ⟨sg, x, h1, hs, h2, hL⟩
    · rw [decide_eq_true h1]
      exact iteT ⟨_, _, rfl, fun y H2 ny hy s2 => q y H2 ny hy (hR.same s2) (freS s2)⟩
    · have hlt : k < ws.length := (List.getElem?_eq_some_iff.mp h1).1
      rw [decide_eq_false (by omega)]
      refine iteF ⟨_, rfl, rd, ws, k, l, sg, rfl, hR, h1, hs, fun H1 R1 F1 => ?_⟩
      obtain ⟨dx1, fs1, hx1, hno1⟩ := R1.fld "take"
      refine ⟨_, rfl, _, rfl, rd, dx1, _, rfl, hx1, hno1, rd, ws, k + 1, l, x, rfl, R1, h2, fun H2 R2 F2 => ?_⟩
      obtain ⟨_, _, _, _, _, _, hlw⟩ := id R2
      exact ⟨_, rfl, rd, ws, k + 1 + 1, l, x, pmI sg, a, b, k', rfl, R2, Nat.le_trans (hlw x (List.mem_of_getElem? h2)) (by decide), pmI_cases sg, hL, fun y H3 ny hy R3 F3 => q y H3 (R2.none (F1.trans F2) ny) hy R3 ((F1.trans F2).trans F3)⟩
theorem scRO : FnScope ["reader", "function", "other"] ["reader", "function"] (defScope sROther) := ⟨rfl, rfl, rfl, by decide +kernel, rfl, by decide +kernel, by decide +kernel⟩
theorem ok_rother {f : Addr} {fd : FuncData} (F : Fun K "_read_other" "_read_other" sROther f fd) (T : RdTxt K mg CR) (TF : Mt P w K mg base 3 CR "take_function" ["self"] (spTakeF K CR)) (CLa : Mt P w K mg base 1 CR "check_last" ["self", "is_right"] spLastOk) : FnOk P w K mg base CX0 4 f fd ["reader", "function"] (spROther K CR) := by
  refine F.ok scRO (fun vs H Q E h => ?_) (fun cdv A outer s H vs Q E hr h => ?_)
  · obtain ⟨_, _, _, _, _, _, rfl, _⟩ := h; rfl
  · obtain ⟨rd, ws, k, l, f', g, rfl, hR, h1, hw, hne, q⟩ := h
    have nd := scRO.nd
    refine ⟨_, pss_cons (ps_set (i := 2) nd rfl (.inl rfl) (pe_mt0 TF T.cl hr (by decide) (pv 0)))
      (pss_cons (ps_expr (pe_mt CLa T.cl hr (by decide) (pv 0) (pa_cons (pe_cmpR op_ne (pv 2) (pv 1) (nomark _)) pa_nil)))
      (pss_one (ps_ret (pv 2)))), ?_⟩
    obtain ⟨dx, fs, hx0, hno⟩ := hR.fld "take_function"
    refine ⟨_, rfl, rd, dx, _, rfl, hx0, hno, rd, ws, k, l, g, rfl, hR, h1, hw, fun H1 R1 F1 => ?_⟩
    obtain ⟨dx1, fs1, hx1, hno1⟩ := R1.fld "check_last"
    refine ⟨_, rfl, rd, dx1, _, rfl, hx1, hno1, _, rfl, _, rfl, rfl, rd, ?_, _, rfl, q H1 R1 F1⟩
    rw [decide_eq_false (fun z => hne (V.str.inj z))]
    rfl
end
end OR

namespace OR
open PySem PySem.Spec PyProof.Rows L2
open TL (tl numL)
section
variable {P : Program} {w : World} {K : PySem.W.Frag} {mg : Str → Option Value} {base : Heap} {CR CL CP : Addr} {C : Nat → Addr} {ts tw : Addr}
theorem scR0 : FnScope ["reader", "function", "places"] ["reader", "function", "places"] (defScope sRAns) := ⟨rfl, rfl, rfl, by decide +kernel, rfl, by decide +kernel, by decide +kernel⟩
theorem ok_rd0 {f : Addr} {fd : FuncData} (F : Fun K "_read_answers" "_read_answers" sRAns f fd) (M : CMk P w K mg base C 0 ["self", "function", "places"]) : FnOk P w K mg base CX0 6 f fd ["reader", "function", "places"] (spRd K CR C 0) := by
  refine F.ok scR0 (fun vs H Q E h => ?_) (fun cdv A outer s H vs Q E hr h => ?_)
  · obtain ⟨_, _, _, _, _, _, _, rfl, _⟩ := h; rfl
  · obtain ⟨rd, pl, f', ws, k, x, k', rfl, hR, hw, hW, q⟩ := h
    have nd := scR0.nd
    refine ⟨_, pss_one (ps_ret (pe_mkC M rfl hr (by decide) (by rfl) (pa_cons (pv 1) (pa_cons (pv 2) pa_nil)))), ?_⟩
    obtain ⟨rfl, rfl⟩ := hW
    exact ⟨_, rfl, _, rfl, f', pl, [], rfl, hw, rfl, fun z dx H1 nz hz s1 => q z dx H1 nz hz (hR.same s1) (freS s1)⟩
theorem scR1 : FnScope ["reader", "function", "places"] ["reader", "function", "places"] (defScope sRRef) := ⟨rfl, rfl, rfl, by decide +kernel, rfl, by decide +kernel, by decide +kernel⟩
theorem ok_rd1 {f : Addr} {fd : FuncData} (F : Fun K "_read_refuses" "_read_refuses" sRRef f fd) (M : CMk P w K mg base C 1 ["self", "function", "places"]) : FnOk P w K mg base CX0 6 f fd ["reader", "function", "places"] (spRd K CR C 1) := by
  refine F.ok scR1 (fun vs H Q E h => ?_) (fun cdv A outer s H vs Q E hr h => ?_)
  · obtain ⟨_, _, _, _, _, _, _, rfl, _⟩ := h; rfl
  · obtain ⟨rd, pl, f', ws, k, x, k', rfl, hR, hw, hW, q⟩ := h
    have nd := scR1.nd
    refine ⟨_, pss_one (ps_ret (pe_mkC M rfl hr (by decide) (by rfl) (pa_cons (pv 1) (pa_cons (pv 2) pa_nil)))), ?_⟩
    obtain ⟨rfl, rfl⟩ := hW
    exact ⟨_, rfl, _, rfl, f', pl, [], rfl, hw, rfl, fun z dx H1 nz hz s1 => q z dx H1 nz hz (hR.same s1) (freS s1)⟩
theorem scR2 : FnScope ["reader", "function", "places"] ["reader", "function", "places"] (defScope sRNee) := ⟨rfl, rfl, rfl, by decide +kernel, rfl, by decide +kernel, by decide +kernel⟩
theorem ok_rd2 {f : Addr} {fd : FuncData} (F : Fun K "_read_needs" "_read_needs" sRNee f fd) (M : CMk P w K mg base C 2 ["self", "function", "places", "other"]) (RO : Cl P w K mg base 4 "_read_other" ["reader", "function"] (spROther K CR)) : FnOk P w K mg base CX0 6 f fd ["reader", "function", "places"] (spRd K CR C 2) := by
  refine F.ok scR2 (fun vs H Q E h => ?_) (fun cdv A outer s H vs Q E hr h => ?_)
  · obtain ⟨_, _, _, _, _, _, _, rfl, _⟩ := h; rfl
  · obtain ⟨rd, pl, f', ws, k, x, k', rfl, hR, hw, hW, q⟩ := h
    have nd := scR2.nd
    refine ⟨_, pss_one (ps_ret (pe_mkC M rfl hr (by decide) (by rfl) (pa_cons (pv 1) (pa_cons (pv 2) (pa_cons (pe_cl RO hr (by decide) (by rfl) (pa_cons (pv 0) (pa_cons (pv 1) pa_nil))) pa_nil))))), ?_⟩
    obtain ⟨g, rfl, hg, hne, h1, rfl⟩ := hW
    exact ⟨_, rfl, _, rfl, _, rfl, _, rfl, rd, ws, k, lastP, f', g, rfl, hR, h1, hg, hne, fun H1 R1 F1 => ⟨f', pl, [.str g], rfl, hw, ⟨g, rfl, hg, hne⟩, fun z dx H2 nz hz s2 => q z dx H2 (R1.none F1 nz) hz (R1.same s2) (F1.same s2)⟩⟩
theorem scR3 : FnScope ["reader", "function", "places"] ["reader", "function", "places"] (defScope sRSpr) := ⟨rfl, rfl, rfl, by decide +kernel, rfl, by decide +kernel, by decide +kernel⟩
theorem ok_rd3 {f : Addr} {fd : FuncData} (F : Fun K "_read_spreads" "_read_spreads" sRSpr f fd) (T : RdTxt K mg CR) (WT : WTxt K mg ts tw) (M : CMk P w K mg base C 3 ["self", "function", "places", "way"]) (OO : Mt P w K mg base 3 CR "take_one_of" ["self", "allowed"] (spOneOf K CR)) : FnOk P w K mg base CX0 6 f fd ["reader", "function", "places"] (spRd K CR C 3) := by
  refine F.ok scR3 (fun vs H Q E h => ?_) (fun cdv A outer s H vs Q E hr h => ?_)
  · obtain ⟨_, _, _, _, _, _, _, rfl, _⟩ := h; rfl
  · obtain ⟨rd, pl, f', ws, k, x, k', rfl, hR, hw, hW, q⟩ := h
    have nd := scR3.nd
    refine ⟨_, pss_one (ps_ret (pe_mkC M rfl hr (by decide) (by rfl) (pa_cons (pv 1) (pa_cons (pv 2) (pa_cons (pe_mt OO T.cl hr (by decide) (pv 0) (pa_cons (pe_glob (v := .ref tw) (by rfl) WT.gW rfl) pa_nil)) pa_nil))))), ?_⟩
    obtain ⟨g, rfl, hg, h1, rfl⟩ := hW
    obtain ⟨dx, fs, hx, hno⟩ := hR.fld "take_one_of"
    exact ⟨_, rfl, _, rfl, _, rfl, rd, dx, _, rfl, hx, hno, rd, tw, ws, k, lastP, g, ["up", "down"], rfl, hR, h1, .inr (WT.hW H), way_in hg, fun H1 R1 F1 => ⟨f', pl, [.str g], rfl, hw, ⟨g, rfl, hg⟩, fun z dx H2 nz hz s2 => q z dx H2 (R1.none F1 nz) hz (R1.same s2) (F1.same s2)⟩⟩
theorem scR4 : FnScope ["reader", "function", "places", "sign", "line"] ["reader", "function", "places"] (defScope sRBou) := ⟨rfl, rfl, rfl, by decide +kernel, rfl, by decide +kernel, by decide +kernel⟩
theorem ok_rd4 {f : Addr} {fd : FuncData} (F : Fun K "_read_bound" "_read_bound" sRBou f fd) (T : RdTxt K mg CR) (WT : WTxt K mg ts tw) (LT : LTxt K mg CL) (M : CMk P w K mg base C 4 ["self", "function", "places", "sign", "slope", "height"]) (OO : Mt P w K mg base 3 CR "take_one_of" ["self", "allowed"] (spOneOf K CR)) (RL : Cl P w K mg base 7 "_read_line" ["reader"] (spRLine K CR CL)) : FnOk P w K mg base CX0 8 f fd ["reader", "function", "places"] (spRd K CR C 4) := by
  refine F.ok scR4 (fun vs H Q E h => ?_) (fun cdv A outer s H vs Q E hr h => ?_)
  · obtain ⟨_, _, _, _, _, _, _, rfl, _⟩ := h; rfl
  · obtain ⟨rd, pl, f', ws, k, x, k', rfl, hR, hw, hW, q⟩ := h
    have nd := scR4.nd
    refine ⟨_, pss_cons (ps_set (i := 3) nd rfl (.inl rfl) (pe_mt OO T.cl hr (by decide) (pv 0) (pa_cons (pe_glob (v := .ref ts) (by rfl) WT.gS rfl) pa_nil)))
      (pss_cons (ps_set (i := 4) nd rfl (.inl rfl) (pe_cl RL hr (by decide) (by rfl) (pa_cons (pv 0) pa_nil)))
      (pss_one (ps_ret (pe_mkC M rfl hr (by decide) (by rfl) (pa_cons (pv 1) (pa_cons (pv 2) (pa_cons (pv 3) (pa_cons (pe_fld (pv 4) rfl) (pa_cons (pe_fld (pv 4) rfl) pa_nil))))))))), ?_⟩
    obtain ⟨sg, a, b, rfl, hs, na, nb, h1, hL⟩ := hW
    obtain ⟨dx, fs, hx, hno⟩ := hR.fld "take_one_of"
    refine ⟨_, rfl, rd, dx, _, rfl, hx, hno, rd, ts, ws, k, lastP, sg, ["<=", ">=", "="], rfl, hR, h1, .inr (WT.hS H), sign_in hs, fun H1 R1 F1 => ?_⟩
    refine ⟨_, rfl, rd, ws, k + 1, lastP, a, b, k', rfl, R1, hL, fun y H2 ny ⟨dy, hy⟩ R2 F2 => ?_⟩
    have F12 := F1.trans F2
    exact ⟨_, rfl, _, rfl, _, rfl, _, rfl, y, CL, dy, _, _, rfl, hy, LT.cl, LT.nS, lFl_slope a b, _, rfl, y, CL, dy, _, _, rfl, hy, LT.cl, LT.nH, lFl_height a b, f', pl, [.str sg, .int a, .int b], rfl, hw, ⟨sg, a, b, rfl, hs, na, nb⟩, fun z dx H3 nz hz s3 => q z dx H3 (R2.none F12 nz) hz (R2.same s3) (F12.same s3)⟩
theorem scR5 : FnScope ["reader", "function", "places", "sign", "other", "line"] ["reader", "function", "places"] (defScope sRPai) := ⟨rfl, rfl, rfl, by decide +kernel, rfl, by decide +kernel, by decide +kernel⟩
theorem ok_rd5 {f : Addr} {fd : FuncData} (F : Fun K "_read_pair" "_read_pair" sRPai f fd) (T : RdTxt K mg CR) (WT : WTxt K mg ts tw) (LT : LTxt K mg CL) (M : CMk P w K mg base C 5 ["self", "function", "places", "sign", "other", "slope", "height"]) (OO : Mt P w K mg base 3 CR "take_one_of" ["self", "allowed"] (spOneOf K CR)) (RO : Cl P w K mg base 4 "_read_other" ["reader", "function"] (spROther K CR)) (RA : Cl P w K mg base 7 "_read_added_line" ["reader"] (spRAdd K CR CL)) : FnOk P w K mg base CX0 8 f fd ["reader", "function", "places"] (spRd K CR C 5) := by
  refine F.ok scR5 (fun vs H Q E h => ?_) (fun cdv A outer s H vs Q E hr h => ?_)
  · obtain ⟨_, _, _, _, _, _, _, rfl, _⟩ := h; rfl
  · obtain ⟨rd, pl, f', ws, k, x, k', rfl, hR, hw, hW, q⟩ := h
    have nd := scR5.nd
    refine ⟨_, pss_cons (ps_set (i := 3) nd rfl (.inl rfl) (pe_mt OO T.cl hr (by decide) (pv 0) (pa_cons (pe_glob (v := .ref ts) (by rfl) WT.gS rfl) pa_nil)))
      (pss_cons (ps_set (i := 4) nd rfl (.inl rfl) (pe_cl RO hr (by decide) (by rfl) (pa_cons (pv 0) (pa_cons (pv 1) pa_nil))))
      (pss_cons (ps_set (i := 5) nd rfl (.inl rfl) (pe_cl RA hr (by decide) (by rfl) (pa_cons (pv 0) pa_nil)))
      (pss_one (ps_ret (pe_mkC M rfl hr (by decide) (by rfl) (pa_cons (pv 1) (pa_cons (pv 2) (pa_cons (pv 3) (pa_cons (pv 4) (pa_cons (pe_fld (pv 5) rfl) (pa_cons (pe_fld (pv 5) rfl) pa_nil))))))))))), ?_⟩
    obtain ⟨sg, g, a, b, rfl, hs, hg, hne, na, nb, h1, h2, hL⟩ := hW
    obtain ⟨dx, fs, hx, hno⟩ := hR.fld "take_one_of"
    refine ⟨_, rfl, rd, dx, _, rfl, hx, hno, rd, ts, ws, k, lastP, sg, ["<=", ">=", "="], rfl, hR, h1, .inr (WT.hS H), sign_in hs, fun H1 R1 F1 => ?_⟩
    refine ⟨_, rfl, _, rfl, rd, ws, k + 1, lastP, f', g, rfl, R1, h2, hg, hne, fun H2 R2 F2 => ?_⟩
    refine ⟨_, rfl, rd, ws, k + 1 + 1, lastP, a, b, k', rfl, R2, hL, fun y H3 ny ⟨dy, hy⟩ R3 F3 => ?_⟩
    have F13 := (F1.trans F2).trans F3
    exact ⟨_, rfl, _, rfl, _, rfl, _, rfl, _, rfl, y, CL, dy, _, _, rfl, hy, LT.cl, LT.nS, lFl_slope a b, _, rfl, y, CL, dy, _, _, rfl, hy, LT.cl, LT.nH, lFl_height a b, f', pl, [.str sg, .str g, .int a, .int b], rfl, hw, ⟨sg, g, a, b, rfl, hs, hg, hne, na, nb⟩, fun z dx H4 nz hz s4 => q z dx H4 (R3.none F13 nz) hz (R3.same s4) (F13.same s4)⟩
theorem scR6 : FnScope ["reader", "function", "places", "sign", "height"] ["reader", "function", "places"] (defScope sRSte) := ⟨rfl, rfl, rfl, by decide +kernel, rfl, by decide +kernel, by decide +kernel⟩
theorem ok_rd6 {f : Addr} {fd : FuncData} (F : Fun K "_read_step" "_read_step" sRSte f fd) (T : RdTxt K mg CR) (WT : WTxt K mg ts tw) (M : CMk P w K mg base C 6 ["self", "function", "places", "sign", "height"]) (OO : Mt P w K mg base 3 CR "take_one_of" ["self", "allowed"] (spOneOf K CR)) (TK : Mt P w K mg base 2 CR "take" ["self"] (spTake K CR)) (CLa : Mt P w K mg base 1 CR "check_last" ["self", "is_right"] spLastOk) (RD : Cl P w K mg base 1 "read_decimal" ["text"] spRDec) : FnOk P w K mg base CX0 6 f fd ["reader", "function", "places"] (spRd K CR C 6) := by
  refine F.ok scR6 (fun vs H Q E h => ?_) (fun cdv A outer s H vs Q E hr h => ?_)
  · obtain ⟨_, _, _, _, _, _, _, rfl, _⟩ := h; rfl
  · obtain ⟨rd, pl, f', ws, k, x, k', rfl, hR, hw, hW, q⟩ := h
    have nd := scR6.nd
    refine ⟨_, pss_cons (ps_set (i := 3) nd rfl (.inl rfl) (pe_mt OO T.cl hr (by decide) (pv 0) (pa_cons (pe_glob (v := .ref ts) (by rfl) WT.gS rfl) pa_nil)))
      (pss_cons (ps_set (i := 4) nd rfl (.inl rfl) (pe_cl RD hr (by decide) (by rfl) (pa_cons (pe_mt0 TK T.cl hr (by decide) (pv 0)) pa_nil)))
      (pss_cons (ps_expr (pe_mt CLa T.cl hr (by decide) (pv 0) (pa_cons (pe_cmp (pc_notN (pv 4)) rfl) pa_nil)))
      (pss_one (ps_ret (pe_mkC M rfl hr (by decide) (by rfl) (pa_cons (pv 1) (pa_cons (pv 2) (pa_cons (pv 3) (pa_cons (pv 4) pa_nil))))))))), ?_⟩
    obtain ⟨sg, b, t, rfl, hs, nb, h1, h2, hd, rfl⟩ := hW
    obtain ⟨dx, fs, hx, hno⟩ := hR.fld "take_one_of"
    refine ⟨_, rfl, rd, dx, _, rfl, hx, hno, rd, ts, ws, k, lastP, sg, ["<=", ">=", "="], rfl, hR, h1, .inr (WT.hS H), sign_in hs, fun H1 R1 F1 => ?_⟩
    obtain ⟨dx1, fs1, hx1, hno1⟩ := R1.fld "take"
    refine ⟨_, rfl, rd, dx1, _, rfl, hx1, hno1, rd, ws, k + 1, lastP, t, rfl, R1, h2, fun H2 R2 F2 => ?_⟩
    obtain ⟨_, _, _, _, _, _, hlw⟩ := id R2
    refine ⟨t, rfl, Nat.le_trans (hlw t (List.mem_of_getElem? h2)) (by decide), ?_⟩
    rw [hd]
    obtain ⟨dx2, fs2, hx2, hno2⟩ := R2.fld "check_last"
    have F12 := F1.trans F2
    exact ⟨_, rfl, rd, dx2, _, rfl, hx2, hno2, _, rfl, rd, rfl, _, rfl, _, rfl, _, rfl, _, rfl, f', pl, [.str sg, .int b], rfl, hw, ⟨sg, b, rfl, hs, nb⟩, fun z dx H3 nz hz s3 => q z dx H3 (R2.none F12 nz) hz (R2.same s3) (F12.same s3)⟩
end
end OR

namespace OR
open PySem PySem.Spec PyProof.Rows L2
open TL (tl numL)
theorem rput4 (pw : Addr) (k : Int) (fv : V) (l : Int) : putF "_last" (.int l) (putF "_functions" fv (putF "_at" (.int k) (putF "_words" (.ref pw) []))) = rFl pw k fv l := by
  have h1 : ¬ (("_words" : Str) = ("_at" : Str)) := by decide +kernel
  have h2 : ¬ (("_words" : Str) = ("_functions" : Str)) := by decide +kernel
  have h3 : ¬ (("_at" : Str) = ("_functions" : Str)) := by decide +kernel
  have h4 : ¬ (("_words" : Str) = ("_last" : Str)) := by decide +kernel
  have h5 : ¬ (("_at" : Str) = ("_last" : Str)) := by decide +kernel
  have h6 : ¬ (("_functions" : Str) = ("_last" : Str)) := by decide +kernel
  simp only [putF, h1, h2, h3, h4, h5, h6, if_false]
  rfl
def spRInit (CR : Addr) : Sp := fun vs H Q _ => ∃ (p dx pw : Addr) (b l : Int) (fv : V), vs = [.ref p, .ref pw, .int b, fv, .int l] ∧ H p = some (.ins CR dx []) ∧ ∀ H', H' p = some (.ins CR dx (rFl pw b fv l)) → (∀ c o, H c = some o → c ≠ p → H' c = some o) → Q .non H'
structure KHeld (P : Program) (w : World) (K : PySem.W.Frag) (mg : Str → Option Value) (base : Heap) (CR : Addr) (C : Nat → Addr) (aK : Addr) (fk : Nat → Addr) (kvs : List (Str × Value)) : Prop where
  mgK : mg "_KINDS" = some (.ref aK)
  tab : KTab K w aK kvs
  keys : kvs.map (·.1) = [kName 0, kName 1, kName 2, kName 3, kName 4, kName 5, kName 6]
  item : ∀ i, i < 7 → PySem.W.nsIn K aK (kName i) = some (some (.ref (fk i)))
  held : ∀ i, i < 7 → ∃ fd, FnOk P w K mg base CX0 8 (fk i) fd ["reader", "function", "places"] (spRd K CR C i) ∧ PySem.W.keepIn K (.ref (fk i)) = true ∧ Binds K fd ["reader", "function", "places"] []
/-- the words of a clause -/
structure ClauseW (ws : List Str) (i : Nat) (f : Str) (rows : List Row) (x : List V) : Prop where
  lt : i < 7
  kd : ws[0]? = some (kName i)
  fn : ws[1]? = some f
  wf : Word f
  rest : ∃ n, PlAt ws 2 rows n ∧ RestW i ws (2 + n) f x ws.length
  ok : ∀ r ∈ rows, okRow r = true
  len : rows.length ≤ 20
def spRWC (K : PySem.W.Frag) (CR CP : Addr) (C : Nat → Addr) : Sp := fun vs H Q _ => ∃ (rd : Addr) (ws : List Str) (i : Nat) (f : Str) (rows : List Row) (x : List V), vs = [.ref rd] ∧ IsR K CR H rd ws 0 lastP ∧ ClauseW ws i f rows x ∧ ∀ z H', H z = none → IsC CP C H' z i f rows x → Fre rd H H' → Q (.ref z) H'
def spRC (CP : Addr) (C : Nat → Addr) : Sp := fun vs H Q _ => ∃ (ws : List Str) (i : Nat) (f : Str) (rows : List Row) (x : List V), vs = [.str (jn ws)] ∧ ws ≠ [] ∧ (∀ w ∈ ws, noBlank w) ∧ (∀ w ∈ ws, w.length ≤ 100) ∧ ws.length ≤ 100 ∧ ClauseW ws i f rows x ∧ ∀ z H', H z = none → IsC CP C H' z i f rows x → Same H H' → Q (.ref z) H'
theorem kName_in (i : Nat) (h : i < 7) : kName i ∈ [kName 0, kName 1, kName 2, kName 3, kName 4, kName 5, kName 6] := by
  have : i = 0 ∨ i = 1 ∨ i = 2 ∨ i = 3 ∨ i = 4 ∨ i = 5 ∨ i = 6 := by omega
  rcases this with e | e | e | e | e | e | e <;> subst e <;> simp
section
variable {P : Program} {w : World} {K : PySem.W.Frag} {mg : Str → Option Value} {base : Heap} {CR CL CP : Addr} {C : Nat → Addr} {ts tw aK : Addr} {fk : Nat → Addr} {kvs : List (Str × Value)}
theorem scRI : FnScope ["self", "words", "begin", "functions", "last"] ["self", "words", "begin", "functions", "last"] (defScope sRdInit) := ⟨rfl, rfl, rfl, by decide +kernel, rfl, by decide +kernel, by decide +kernel⟩
theorem ok_rinit {f : Addr} {fd : FuncData} (F : Fun K "__init__" "Reader.__init__" sRdInit f fd) (T : RdTxt K mg CR) : FnOk P w K mg base CX0 1 f fd ["self", "words", "begin", "functions", "last"] (spRInit CR) := by
  refine F.ok scRI (fun vs H Q E h => ?_) (fun cdv A outer s H vs Q E hr h => ?_)
  · obtain ⟨_, _, _, _, _, _, rfl, _⟩ := h; rfl
  · obtain ⟨p, dx, pw, b, l, fv, rfl, hp, q⟩ := h
    refine ⟨_, pss_cons (ps_fld (pv 0) (pv 1) rfl) (pss_cons (ps_fld (pv 0) (pv 2) rfl) (pss_cons (ps_fld (pv 0) (pv 3) rfl) (pss_one (ps_fld (pv 0) (pv 4) rfl)))), ?_⟩
    refine ⟨_, rfl, _, rfl, p, CR, dx, [], rfl, hp, T.cl, T.nW, (by show 0 < 1000; decide), _, rfl, _, rfl, p, CR, dx, _, rfl, upd_same, T.cl, T.nA, (by show 1 < 1000; decide), _, rfl, _, rfl, p, CR, dx, _, rfl, upd_same, T.cl, T.nF, ?_, _, rfl, _, rfl, p, CR, dx, _, rfl, upd_same, T.cl, T.nL, ?_, ?_⟩
    · show (putF "_at" (.int b) (putF "_words" (.ref pw) [])).length < 1000
      simp only [putF, show ¬ (("_words" : Str) = ("_at" : Str)) by decide +kernel, if_false]
      show 2 < 1000
      decide
    · show (putF "_functions" fv (putF "_at" (.int b) (putF "_words" (.ref pw) []))).length < 1000
      simp only [putF, show ¬ (("_words" : Str) = ("_at" : Str)) by decide +kernel, show ¬ (("_words" : Str) = ("_functions" : Str)) by decide +kernel, show ¬ (("_at" : Str) = ("_functions" : Str)) by decide +kernel, if_false]
      show 3 < 1000
      decide
    · rw [rput4]
      refine q _ upd_same fun c o e n => ?_
      rw [upd_ne n, upd_ne n, upd_ne n, upd_ne n]
      exact e
theorem scWC : FnScope ["reader", "kind", "function", "places", "action", "clause"] ["reader"] (defScope sRWC) := ⟨rfl, rfl, rfl, by decide +kernel, rfl, by decide +kernel, by decide +kernel⟩
theorem ok_rwc {f : Addr} {fd : FuncData} (F : Fun K "read_whole_clause" "read_whole_clause" sRWC f fd) (T : RdTxt K mg CR) (zL : mg "list" = none) (hne : CR ≠ CP) (OO : Mt P w K mg base 3 CR "take_one_of" ["self", "allowed"] (spOneOf K CR)) (TF : Mt P w K mg base 3 CR "take_function" ["self"] (spTakeF K CR)) (TP : Mt P w K mg base 6 CR "take_places" ["self"] (spTakeP K CR CP))
    (CD : Mt P w K mg base 2 CR "check_done" ["self"] (spCkD K CR)) (KH : KHeld P w K mg base CR C aK fk kvs) : FnOk P w K mg base CX0 9 f fd ["reader"] (spRWC K CR CP C) := by
  refine F.ok scWC (fun vs H Q E h => ?_) (fun cdv A outer s H vs Q E hr h => ?_)
  · obtain ⟨_, _, _, _, _, _, rfl, _⟩ := h; rfl
  · obtain ⟨rd, ws, i, f', rows, x, rfl, hR, W, q⟩ := h
    have nd := scWC.nd
    obtain ⟨fdi, Fi, hki, hbi⟩ := KH.held i W.lt
    obtain ⟨n, hP, hRest⟩ := W.rest
    refine ⟨_, pss_cons (ps_set (i := 1) nd rfl (.inl rfl) (pe_mt OO T.cl hr (by decide) (pv 0) (pa_cons (pe_callTy (call_list_kD rfl) (by rfl) zL bt_list (pa_cons (pe_glob (v := .ref aK) (by rfl) KH.mgK rfl) pa_nil)) pa_nil)))
      (pss_cons (ps_set (i := 2) nd rfl (.inl rfl) (pe_mt0 TF T.cl hr (by decide) (pv 0)))
      (pss_cons (ps_set (i := 3) nd rfl (.inl rfl) (pe_mt0 TP T.cl hr (by decide) (pv 0)))
      (pss_cons (ps_set (i := 4) nd rfl (.inl rfl) (pe_ix ix_kdict (pe_glob (v := .ref aK) (by rfl) KH.mgK rfl) (pv 1) (fun _ _ => rfl)))
      (pss_cons (ps_set (i := 5) nd rfl (.inl rfl) (pe_callL (i := 4) (E := E0) Fi (hr.mono (by decide)) rfl (.inl rfl) hki hbi .nil pass0 (pa_cons (pv 0) (pa_cons (pv 2) (pa_cons (pv 3) pa_nil)))))
      (pss_cons (ps_expr (pe_mt0 CD T.cl hr (by decide) (pv 0)))
      (pss_one (ps_ret (pv 5)))))))), ?_⟩
    obtain ⟨dx, fs, hx, hno⟩ := hR.fld "take_one_of"
    refine ⟨_, rfl, rd, dx, _, rfl, hx, hno, aK, kvs, rfl, KH.tab, fun a na => ?_⟩
    have sa := same_lay (o := .lst (kvs.map fun kv => V.str kv.1)) na
    have hxs : (kvs.map fun kv => V.str kv.1) = (kvs.map (·.1)).map V.str := by rw [List.map_map]; rfl
    have ha : (upd H a (.lst (kvs.map fun kv => V.str kv.1))) a = some (.lst ((kvs.map (·.1)).map V.str)) := by rw [upd_same, hxs]
    generalize upd H a (.lst (kvs.map fun kv => V.str kv.1)) = H0 at sa ha
    refine ⟨rd, a, ws, 0, lastP, kName i, kvs.map (·.1), rfl, hR.same sa, W.kd, .inl (.inl (.inl ha)), by rw [KH.keys]; exact kName_in i W.lt, fun H1 R1 F1 => ?_⟩
    have F01 := (freS (p := rd) sa).trans F1
    obtain ⟨dx1, fs1, hx1, hno1⟩ := R1.fld "take_function"
    refine ⟨_, rfl, rd, dx1, _, rfl, hx1, hno1, rd, ws, 0 + 1, lastP, f', rfl, R1, W.fn, W.wf, fun H2 R2 F2 => ?_⟩
    have F02 := F01.trans F2
    obtain ⟨dx2, fs2, hx2, hno2⟩ := R2.fld "take_places"
    refine ⟨_, rfl, rd, dx2, _, rfl, hx2, hno2, rd, ws, 2, n, rows, rfl, R2, hP, fun pl H3 np hp R3 F3 => ?_⟩
    have F03 := F02.trans F3
    refine ⟨_, rfl, aK, kName i, .ref (fk i), rfl, rfl, tab_item KH.tab (KH.item i W.lt) rfl, ?_⟩
    refine ⟨rfl, _, rfl, _, rfl, _, rfl, rd, pl, f', ws, 2 + n, x, ws.length, rfl, R3, W.wf, hRest, fun z dz H4 nz hz R4 F4 => ?_⟩
    have F04 := F03.trans F4
    obtain ⟨dx3, fs3, hx3⟩ : ∃ dx fs, H3 rd = some (.ins CR dx fs) := by
      obtain ⟨pw, dx, h, _⟩ := R3
      exact ⟨dx, _, h⟩
    obtain ⟨dx4, fs4, hx4, hno4⟩ := R4.fld "check_done"
    refine ⟨_, rfl, rd, dx4, _, rfl, hx4, hno4, rd, ws, ws.length, lastP, rfl, R4, Nat.le_refl _, _, rfl, ?_⟩
    exact q z H4 (R3.none F03 nz) ⟨⟨dz, pl, hz, hp.fre hx3 hne F4⟩, W.lt, W.wf, hRest.wf, W.ok, W.len⟩ F04
theorem scRC : FnScope ["text"] ["text"] (defScope sRClause) := ⟨rfl, rfl, rfl, by decide +kernel, rfl, by decide +kernel, by decide +kernel⟩
theorem ok_rclause {f fi : Addr} {fd fdi : FuncData} (F : Fun K "read_clause" "read_clause" sRClause f fd) (T : RdTxt K mg CR) (ST : STxt mg) (MK : Mk K CR fi) (FI : FnOk P w K mg base CX0 1 fi fdi ["self", "words", "begin", "functions", "last"] (spRInit CR)) (bI : Binds K fdi ["self", "words", "begin", "functions", "last"] [])
    (WC : Cl P w K mg base 9 "read_whole_clause" ["reader"] (spRWC K CR CP C)) : FnOk P w K mg base CX0 10 f fd ["text"] (spRC CP C) := by
  obtain ⟨tlp, hlp⟩ := ST.last
  refine F.ok scRC (fun vs H Q E h => ?_) (fun cdv A outer s H vs Q E hr h => ?_)
  · obtain ⟨_, _, _, _, _, rfl, _⟩ := h; rfl
  · obtain ⟨ws, i, f', rows, x, rfl, hwne, hnb, hlw, hln, W, q⟩ := h
    have room : Room (1 + 1) _ := hr.mono (by decide)
    refine ⟨_, pss_cons (ps_if (pt_not (pt_val (pe_callB call_isi (by rfl) ST.zIsi bt_isi (pa_cons (pv 0) (pa_cons (pe_bltn (v := .ty "str") (by rfl) ST.zStr boot_strT rfl) pa_nil))))) (pss_one ps_never) pss_nil)
      (pss_one (ps_ret (pe_cl WC hr (by decide) (by rfl) (pa_cons (pe_make MK FI room (by rfl) T.mgC bI .nil pass0 (pa_cons (pe_split (pv 0) pe_str) (pa_cons pe_int (pa_cons pe_non (pa_cons (pe_glob (v := .int lastP) (by rfl) hlp ⟨_, rfl⟩) pa_nil))))) pa_nil)))), ?_⟩
    refine ⟨_, rfl, _, .ty "str", _, _, true, rfl, .ty "str", .base (.str _), kit_ty (by decide +kernel), _, rfl, iteF ?_⟩
    have b2 : ((" " : Str).length == 0) = false := by decide
    have hz : (jn ws).length + 2 ≤ sizeLine := by
      have := jn_len ws hlw
      exact sz1 (by have : ws.length * 101 ≤ 100 * 101 := Nat.mul_le_mul_right _ hln; omega)
    refine ⟨_, rfl, ⟨_, rfl⟩, _, (" " : Str), rfl, rfl, b2, hz, fun p np => ?_⟩
    rw [split_jn hwne hnb]
    have S1 := same_lay (o := .lst (ws.map V.str)) np
    have hp : (upd H p (.lst (ws.map V.str))) p = some (.lst (ws.map V.str)) := upd_same
    generalize upd H p (.lst (ws.map V.str)) = H1 at S1 hp
    refine fun rd dx nrd ndx nex => ?_
    refine ⟨rd, dx, p, 0, lastP, .non, rfl, upd_same, fun H2 hx hk => ⟨rfl, ?_⟩⟩
    have S2 : Same H1 H2 := fun c o e => by
      have ncr : c ≠ rd := ne_of_none e nrd
      refine hk c o ?_ ncr
      rw [upd_ne ncr, upd_ne (ne_of_none e ndx)]
      exact e
    refine ⟨rd, ws, i, f', rows, x, rfl, ⟨p, dx, hx, .inl (.inl (S2 _ _ hp)), Nat.zero_le _, hln, fun w hw => Nat.le_trans (hlw w hw) (by decide)⟩, W, fun z H3 nz hz F3 => ?_⟩
    have S12 := S1.trans S2
    exact q z H3 (S12.free nz) hz fun c o e => F3 c o (S12 c o e) (ne_of_none e (S1.free nrd))
end
end OR

namespace OR
open PySem PySem.Spec PyProof.Rows L2
open TL (tl numL)
open NumText (digitsVal AllDigits)
/-! ### a clause's words -/
theorem jn_app : ∀ {a b : List Str}, a ≠ [] → b ≠ [] → jn (a ++ b) = (jn a ++ (" " : Str)) ++ jn b
  | [], _, h, _ => absurd rfl h
  | [x], b, _, hb => by
    cases b with
    | nil => exact absurd rfl hb
    | cons y r =>
      unfold jn
      rw [TL.join_eq, TL.join_eq, TL.join_eq]
      rfl
  | x :: y :: r, b, _, hb => by
    have ih := jn_app (a := y :: r) (b := b) (by simp) hb
    unfold jn at ih ⊢
    rw [TL.join_eq, TL.join_eq, TL.join_eq] at ih ⊢
    show x ++ (" " : Str) ++ Str.join (" " : Str) (y :: (r ++ b)) = x ++ (" " : Str) ++ Str.join (" " : Str) (y :: r) ++ (" " : Str) ++ Str.join (" " : Str) b
    have ih' : Str.join (" " : Str) (y :: (r ++ b)) = Str.join (" " : Str) (y :: r) ++ (" " : Str) ++ Str.join (" " : Str) b := ih
    rw [ih']
    simp only [app_assoc]
theorem jn_one (x : Str) : jn [x] = x := by
  unfold jn
  rw [TL.join_eq]
  rfl
def plWords (rows : List Row) : List Str := if rows = [] then ["none"] else rows.map sT
def hWords (b : Int) : List Str := if b = 0 then [] else [if 0 < b then "+" else "-", dT (absI b)]
def slW (a : Int) : List Str := if absI a = 1 then [("x" : Str)] else [dT (absI a), ("x" : Str)]
theorem slW_ne (a : Int) : slW a ≠ [] := by unfold slW; split <;> simp
def absWords (a b : Int) : List Str := if a = 0 then [dT (absI b)] else slW a ++ hWords b
def isNeg (a b : Int) : Bool := if a = 0 then decide (b < 0) else decide (a < 0)
def sgnFirst (n : Bool) : List Str → List Str
  | [] => []
  | h :: t => (if n then ("-" : Str) ++ h else h) :: t
def lineWords (a b : Int) : List Str := sgnFirst (isNeg a b) (absWords a b)
def addWords (a b : Int) : List Str := if a = 0 ∧ b = 0 then [] else (if isNeg a b then "-" else "+") :: absWords a b
def restWords : Nat → List V → List Str
  | 2, [.str g] => [g]
  | 3, [.str g] => [g]
  | 4, [.str s, .int a, .int b] => s :: lineWords a b
  | 5, [.str s, .str g, .int a, .int b] => s :: g :: addWords a b
  | 6, [.str s, .int b] => [s, dT b]
  | _, _ => []
def cWords (i : Nat) (f : Str) (rows : List Row) (x : List V) : List Str := kName i :: f :: (plWords rows ++ restWords i x)
theorem absWords_ne (a b : Int) : absWords a b ≠ [] := by
  unfold absWords
  split
  · simp
  · have := slW_ne a
    simp [this]
theorem absI_pos {n : Int} (h : ¬ n < 0) : absI n = n := by unfold absI; rw [if_neg h]
theorem absI_neg {n : Int} (h : n < 0) : absI n = -n := by unfold absI; rw [if_pos h]
theorem dT_abs {n : Int} (h : n < 0) : dT n = ("-" : Str) ++ dT (absI n) := by rw [dT_neg h, absI_neg h]
/-- the slope's words as they are joined -/
theorem jn_slope {a : Int} (ha : a ≠ 0) : (if isNeg a 0 then ("-" : Str) else ("" : Str)) ++ jn (slW a) = riseT a := by
  unfold isNeg riseT slW
  rw [if_neg ha]
  by_cases h1 : a = 1
  · subst h1; decide +kernel
  by_cases h2 : a = -1
  · subst h2; decide +kernel
  rw [if_neg h1, if_neg h2]
  have h3 : ¬ absI a = 1 := fun e => by unfold absI at e; split at e <;> omega
  rw [if_neg h3]
  have e2 : jn [dT (absI a), ("x" : Str)] = dT (absI a) ++ (" x" : Str) := by
    have := jn_app (a := [dT (absI a)]) (b := ["x"]) (by simp) (by simp)
    rw [List.singleton_append, jn_one, jn_one, app_assoc] at this
    rw [this]
    rw [show (" " : Str) ++ ("x" : Str) = (" x" : Str) by decide]
  rw [e2]
  by_cases hn : a < 0
  · rw [decide_eq_true hn, if_pos rfl, ← app_assoc, ← dT_abs hn]
  · rw [decide_eq_false hn, absI_pos hn]
    show ("" : Str) ++ _ = _
    exact str_ext (by rw [TL.tl_append]; rfl)
theorem isNeg_b (a b : Int) (ha : a ≠ 0) : isNeg a b = isNeg a 0 := by unfold isNeg; rw [if_neg ha, if_neg ha]
theorem emp_l (x : Str) : ("" : Str) ++ x = x := str_ext (by rw [TL.tl_append]; rfl)
theorem sgn_jn (n : Bool) {L : List Str} (h : L ≠ []) : jn (sgnFirst n L) = (if n then ("-" : Str) else ("" : Str)) ++ jn L := by
  cases L with
  | nil => exact absurd rfl h
  | cons x r =>
    cases r with
    | nil =>
      show jn [if n then ("-" : Str) ++ x else x] = _
      rw [jn_one, jn_one]
      cases n
      · exact (emp_l x).symm
      · rfl
    | cons y r =>
      have e1 := jn_app (a := [if n then ("-" : Str) ++ x else x]) (b := y :: r) (by simp) (by simp)
      have e2 := jn_app (a := [x]) (b := y :: r) (by simp) (by simp)
      rw [List.singleton_append, jn_one] at e1 e2
      show jn ((if n then ("-" : Str) ++ x else x) :: y :: r) = _
      rw [e1, e2]
      cases n
      · exact (emp_l _).symm
      · show ((("-" : Str) ++ x) ++ (" " : Str)) ++ jn (y :: r) = ("-" : Str) ++ ((x ++ (" " : Str)) ++ jn (y :: r))
        simp only [app_assoc]
/-- a line's text is its words, joined -/
theorem lineT_abs (a b : Int) : lineT a b = (if isNeg a b then ("-" : Str) else ("" : Str)) ++ jn (absWords a b) := by
  unfold lineT absWords
  by_cases ha : a = 0
  · rw [if_pos ha, if_pos ha, jn_one]
    unfold isNeg
    rw [if_pos ha]
    by_cases hb : b < 0
    · rw [decide_eq_true hb]; exact dT_abs hb
    · rw [decide_eq_false hb, absI_pos hb]; exact (emp_l _).symm
  · rw [if_neg ha, if_neg ha, isNeg_b a b ha]
    have hS := jn_slope ha
    have hne := slW_ne a
    unfold hWords
    by_cases hb : b = 0
    · rw [if_pos hb, if_pos hb, List.append_nil]
      exact hS.symm
    · rw [if_neg hb, if_neg hb, jn_app hne (by simp), ← hS]
      have e := jn_app (a := [if 0 < b then ("+" : Str) else "-"]) (b := [dT (absI b)]) (by simp) (by simp)
      rw [List.singleton_append, jn_one, jn_one] at e
      rw [e]
      have e2 : (if 0 < b then (" + " : Str) else (" - " : Str)) = ((" " : Str) ++ (if 0 < b then ("+" : Str) else "-")) ++ (" " : Str) := by split <;> decide
      rw [e2]
      simp only [app_assoc]
theorem lineT_jn (a b : Int) : lineT a b = jn (lineWords a b) := by
  unfold lineWords
  rw [sgn_jn _ (absWords_ne a b)]
  exact lineT_abs a b
end OR

namespace OR
open PySem PySem.Spec PyProof.Rows L2
open TL (tl numL)
open NumText (digitsVal AllDigits)
/-- the words from k on are R -/
def Suf (ws : List Str) (k : Nat) (R : List Str) : Prop := ∃ P, ws = P ++ R ∧ P.length = k
theorem Suf.get {ws : List Str} {k : Nat} {R : List Str} (h : Suf ws k R) (j : Nat) : ws[k + j]? = R[j]? := by
  obtain ⟨P, rfl, rfl⟩ := h
  rw [List.getElem?_append_right (Nat.le_add_right _ _), Nat.add_sub_cancel_left]
theorem Suf.get0 {ws : List Str} {k : Nat} {x : Str} {R : List Str} (h : Suf ws k (x :: R)) : ws[k]? = some x := h.get 0
theorem Suf.len {ws : List Str} {k : Nat} {R : List Str} (h : Suf ws k R) : ws.length = k + R.length := by
  obtain ⟨P, rfl, rfl⟩ := h
  exact List.length_append
theorem Suf.tail {ws : List Str} {k : Nat} {x : Str} {R : List Str} (h : Suf ws k (x :: R)) : Suf ws (k + 1) R := by
  obtain ⟨P, rfl, rfl⟩ := h
  exact ⟨P ++ [x], by simp, by simp⟩
theorem dT_notx {n : Int} (h : 0 ≤ n) : dT n ≠ "x" := fun e => by
  have hd := dT_digits h
  rw [e] at hd
  have := hd 120 (by decide)
  omega
theorem dT_head {n : Int} (h : 0 ≤ n) : (tl (dT n)).head? ≠ some 45 := hd_dig (dT_digits h)
theorem dT_zero {n : Int} (h : 0 < n) : dT n ≠ "0" := fun e => by
  have h1 := decL_dT (n := n) (by omega)
  rw [e] at h1
  have h2 : decL (tl ("0" : Str)) = some 0 := by
    have := decL_dT (n := 0) (by decide)
    rwa [show dT 0 = ("0" : Str) by decide +kernel] at this
  rw [h2] at h1
  have := Option.some.inj h1
  omega
theorem heightAt {ws : List Str} {k : Nat} {b : Int} (h : Suf ws k (hWords b)) : HeightAt ws k b ws.length := by
  have hl := h.len
  unfold hWords at h hl
  by_cases hb : b = 0
  · rw [if_pos hb] at h hl
    exact .inl ⟨by simp at hl; omega, hb, by simp at hl; omega⟩
  · rw [if_neg hb] at h hl
    have h1 := absI_nn b
    refine .inr ⟨_, _, absI b, h.get0, ?_, h.tail.get0, decL_dT h1, ?_, ?_, by simp at hl; omega⟩
    · unfold isPM; split <;> simp
    · unfold absI; split <;> omega
    · unfold pmI absI
      by_cases hp : 0 < b
      · rw [if_pos hp, if_pos rfl, if_neg (by omega)]; omega
      · rw [if_neg hp, if_neg (by decide), if_pos (by omega)]; omega
def bi (n : Bool) : Int := if n then -1 else 1
theorem lineFrom {ws : List Str} {k : Nat} {a b : Int} (hab : a ≠ 0 ∨ b ≠ 0) {h : Str} {t : List Str} (e : absWords a b = h :: t) (hs : Suf ws k t) : LineFrom ws k h (bi (isNeg a b)) a b ws.length := by
  have hl := hs.len
  unfold absWords at e
  by_cases ha : a = 0
  · rw [if_pos ha] at e
    injection e with e1 e2
    subst e1 e2
    have hb : b ≠ 0 := hab.resolve_left (fun z => z ha)
    have h1 := absI_nn b
    refine .inr (.inl ⟨absI b, dT_notx h1, decL_dT h1, ?_, .inr (by simp at hl; omega), ha, ?_, by simp at hl; omega⟩)
    · unfold absI; split <;> omega
    · unfold bi isNeg absI
      rw [if_pos ha]
      by_cases hn : b < 0
      · rw [decide_eq_true hn, if_pos rfl, if_pos hn]; omega
      · rw [decide_eq_false hn, if_neg (by decide), if_neg hn]; omega
  · rw [if_neg ha] at e
    have hbi : a = bi (isNeg a b) * absI a := by
      unfold bi isNeg absI
      rw [if_neg ha]
      by_cases hn : a < 0
      · rw [decide_eq_true hn, if_pos rfl, if_pos hn]; omega
      · rw [decide_eq_false hn, if_neg (by decide), if_neg hn]; omega
    unfold slW at e
    by_cases h1 : absI a = 1
    · rw [if_pos h1] at e
      injection e with e1 e2
      subst e1
      have e3 : t = hWords b := e2.symm
      subst e3
      refine .inl ⟨rfl, ?_, heightAt hs⟩
      rw [h1] at hbi
      omega
    · rw [if_neg h1] at e
      injection e with e1 e2
      subst e1
      have e3 : t = ("x" : Str) :: hWords b := e2.symm
      subst e3
      have h0 := absI_nn a
      have h2 : 1 < absI a := by
        have : absI a ≠ 0 := by unfold absI; split <;> omega
        omega
      exact .inr (.inr ⟨absI a, dT_notx h0, decL_dT h0, h2, hs.get0, hbi, heightAt hs.tail⟩)
theorem abs_cons (a b : Int) : ∃ h t, absWords a b = h :: t ∧ ((a ≠ 0 ∨ b ≠ 0) → (tl h).head? ≠ some 45 ∧ h ≠ "0") := by
  unfold absWords
  by_cases ha : a = 0
  · rw [if_pos ha]
    refine ⟨_, [], rfl, fun hab => ?_⟩
    have hb : b ≠ 0 := hab.resolve_left (fun z => z ha)
    exact ⟨dT_head (absI_nn b), dT_zero (by unfold absI; split <;> omega)⟩
  · rw [if_neg ha]
    unfold slW
    by_cases h1 : absI a = 1
    · rw [if_pos h1]
      exact ⟨"x", _, rfl, fun _ => ⟨by decide, by decide⟩⟩
    · rw [if_neg h1]
      exact ⟨_, _, rfl, fun _ => ⟨dT_head (absI_nn a), dT_zero (by unfold absI; split <;> omega)⟩⟩
theorem lineW {ws : List Str} {k : Nat} {a b : Int} (h : Suf ws k (lineWords a b)) : LineW ws k a b ws.length := by
  obtain ⟨x, t, e, hh⟩ := abs_cons a b
  unfold lineWords at h
  rw [e] at h
  by_cases hab : a ≠ 0 ∨ b ≠ 0
  · obtain ⟨h45, h0⟩ := hh hab
    cases hn : isNeg a b with
    | true =>
      rw [hn] at h
      have hs : Suf ws k ((("-" : Str) ++ x) :: t) := h
      refine ⟨_, hs.get0, .inr (.inl ⟨tl x, by rw [TL.tl_append]; rfl, ?_⟩)⟩
      rw [ofL_tl]
      have := lineFrom hab e hs.tail
      rw [hn] at this
      exact this
    | false =>
      rw [hn] at h
      have hs : Suf ws k (x :: t) := h
      refine ⟨_, hs.get0, .inr (.inr ⟨h45, h0, ?_⟩)⟩
      have := lineFrom hab e hs.tail
      rw [hn] at this
      exact this
  · have ha : a = 0 := Decidable.byContradiction fun z => hab (.inl z)
    have hb : b = 0 := Decidable.byContradiction fun z => hab (.inr z)
    subst ha hb
    have e2 : absWords 0 0 = [("0" : Str)] := by decide +kernel
    rw [e2] at e
    injection e with e1 e3
    subst e1 e3
    have hs : Suf ws k [("0" : Str)] := h
    have hl := hs.len
    exact ⟨_, hs.get0, .inl ⟨rfl, rfl, rfl, by simpa using hl⟩⟩
theorem addedW {ws : List Str} {k : Nat} {a b : Int} (h : Suf ws k (addWords a b)) : AddedW ws k a b ws.length := by
  have hl := h.len
  unfold addWords at h hl
  by_cases hab : a = 0 ∧ b = 0
  · rw [if_pos hab] at hl
    exact .inl ⟨by simp at hl; omega, hab.1, hab.2, by simp at hl; omega⟩
  · rw [if_neg hab] at h
    obtain ⟨x, t, e, hh⟩ := abs_cons a b
    rw [e] at h
    have hne : a ≠ 0 ∨ b ≠ 0 := by
      by_cases ha : a = 0
      · exact .inr fun z => hab ⟨ha, z⟩
      · exact .inl ha
    have hL := lineFrom hne e h.tail.tail
    refine .inr ⟨_, _, h.get0, ?_, h.tail.get0, ?_⟩
    · unfold isPM; split <;> simp
    · have : pmI (if isNeg a b = true then "-" else "+") = bi (isNeg a b) := by
        cases isNeg a b <;> decide
      rw [this]
      exact hL
theorem decL_dTall (b : Int) : decL (tl (dT b)) = some b := by
  by_cases h : b < 0
  · have hd : AllDigits (tl (dT (-b))) := dT_digits (by omega)
    rw [dT_neg h, TL.tl_append]
    show decL (45 :: tl (dT (-b))) = some b
    unfold decL
    have eb : bodyL (45 :: tl (dT (-b))) = tl (dT (-b)) := rfl
    rw [eb, (allDig_iff _).mpr ⟨dT_ne (by omega), hd⟩, if_pos rfl, if_neg (fun k => ?_)]
    · rw [if_pos (show (45 :: tl (dT (-b))).head? = some 45 from rfl), tl_dT (by omega), TL.numL_val]
      congr 1
      omega
    · have k1 := k.1
      rw [tl_dT (by omega)] at k1
      have := numL_head _ k1
      omega
  · exact decL_dT (by omega)
end OR

namespace OR
open PySem PySem.Spec PyProof.Rows L2
open TL (tl numL)
theorem textOf_jn (rows : List Row) : textOf rows = jn (plWords rows) := by
  unfold textOf plWords
  split
  · exact (jn_one _).symm
  · rfl
theorem plWords_ne (rows : List Row) : plWords rows ≠ [] := by
  unfold plWords
  split
  · simp
  · rename_i h
    simp [h]
theorem begT_jn (i : Nat) (f : Str) (rows : List Row) : begT i f rows = jn (kName i :: f :: plWords rows) := by
  have e1 := jn_app (a := [kName i]) (b := f :: plWords rows) (by simp) (by simp)
  have e2 := jn_app (a := [f]) (b := plWords rows) (by simp) (plWords_ne rows)
  rw [List.singleton_append, jn_one] at e1 e2
  unfold begT
  rw [e1, e2, textOf_jn]
  simp only [app_assoc]
theorem cWords_app (i : Nat) (f : Str) (rows : List Row) (x : List V) : cWords i f rows x = (kName i :: f :: plWords rows) ++ restWords i x := rfl
theorem cw_jn {i : Nat} {f : Str} {rows : List Row} {x : List V} (h : restWords i x ≠ []) : jn (cWords i f rows x) = (begT i f rows ++ (" " : Str)) ++ jn (restWords i x) := by
  rw [cWords_app, jn_app (by simp) h, begT_jn]
theorem cw_jn0 {i : Nat} {f : Str} {rows : List Row} {x : List V} (h : restWords i x = []) : jn (cWords i f rows x) = begT i f rows := by
  rw [cWords_app, h, List.append_nil, begT_jn]
theorem jn_cons (a : Str) {b : List Str} (h : b ≠ []) : jn (a :: b) = (a ++ (" " : Str)) ++ jn b := by
  have := jn_app (a := [a]) (b := b) (by simp) h
  rw [List.singleton_append, jn_one] at this
  exact this
theorem tl_jn_head {h : Str} {t : List Str} (hn : tl h ≠ []) : (tl (jn (h :: t))).head? = (tl h).head? := by
  cases t with
  | nil => rw [jn_one]
  | cons y r =>
    rw [jn_cons h (by simp), TL.tl_append, TL.tl_append]
    cases e : tl h with
    | nil => exact absurd e hn
    | cons c r => rfl
theorem addT_jn (a b : Int) : addT (lineT a b) = if a = 0 ∧ b = 0 then ("" : Str) else (" " : Str) ++ jn (addWords a b) := by
  by_cases hab : a = 0 ∧ b = 0
  · obtain ⟨rfl, rfl⟩ := hab
    rw [if_pos ⟨rfl, rfl⟩]
    have : lineT 0 0 = ("0" : Str) := by decide +kernel
    rw [this]
    unfold addT
    rw [if_pos rfl]
  · rw [if_neg hab]
    have hne : a ≠ 0 ∨ b ≠ 0 := by
      by_cases ha : a = 0
      · exact .inr fun z => hab ⟨ha, z⟩
      · exact .inl ha
    obtain ⟨x, t, e, hh⟩ := abs_cons a b
    obtain ⟨h45, h0⟩ := hh hne
    have hxne : tl x ≠ [] := by
      unfold absWords at e
      by_cases ha : a = 0
      · rw [if_pos ha] at e
        injection e with e1 _
        rw [← e1]; exact dT_ne (absI_nn b)
      · rw [if_neg ha] at e
        unfold slW at e
        split at e
        · injection e with e1 _
          rw [← e1]; decide
        · injection e with e1 _
          rw [← e1]; exact dT_ne (absI_nn a)
    have hT := lineT_abs a b
    unfold addWords
    rw [if_neg hab, e, jn_cons _ (by simp)]
    rw [e] at hT
    unfold addT
    cases hn : isNeg a b with
    | true =>
      rw [hn] at hT
      have hT2 : lineT a b = ("-" : Str) ++ jn (x :: t) := hT
      rw [hT2]
      have n0 : ¬ (("-" : Str) ++ jn (x :: t) = ("0" : Str)) := fun z => by
        have := congrArg (fun s => (tl s).head?) z
        simp only [TL.tl_append] at this
        exact absurd this (by show ¬ (some 45 = some 48); decide)
      rw [if_neg n0]
      have sw : Txt.startswith (("-" : Str) ++ jn (x :: t)) ("-" : Str) = true := by rw [sw_minus, TL.tl_append]; rfl
      rw [if_pos sw, cut_tail]
      have e3 : ofL ((tl (("-" : Str) ++ jn (x :: t))).drop 1) = jn (x :: t) := by
        rw [TL.tl_append]
        show ofL (tl (jn (x :: t))) = _
        exact ofL_tl _
      rw [e3]
      show (" - " : Str) ++ jn (x :: t) = (" " : Str) ++ ((("-" : Str) ++ (" " : Str)) ++ jn (x :: t))
      rw [show (" - " : Str) = (" " : Str) ++ (("-" : Str) ++ (" " : Str)) by decide]
      simp only [app_assoc]
    | false =>
      rw [hn] at hT
      have hT2 : lineT a b = jn (x :: t) := hT.trans (emp_l _)
      rw [hT2]
      have n0 : ¬ (jn (x :: t) = ("0" : Str)) := fun z => by
        cases t with
        | nil => rw [jn_one] at z; exact h0 z
        | cons y r =>
          rw [jn_cons x (by simp)] at z
          have z2 := congrArg (fun s => decide (32 ∈ tl s)) z
          simp only [TL.tl_append] at z2
          have : 32 ∈ (tl x ++ tl (" " : Str)) ++ tl (jn (y :: r)) := List.mem_append_left _ (List.mem_append_right _ (by decide))
          rw [decide_eq_true this] at z2
          exact absurd z2 (by decide)
      rw [if_neg n0]
      have sw : ¬ Txt.startswith (jn (x :: t)) ("-" : Str) = true := by
        rw [sw_minus, tl_jn_head hxne, decide_eq_false h45]
        decide
      rw [if_neg sw]
      show (" + " : Str) ++ jn (x :: t) = (" " : Str) ++ ((("+" : Str) ++ (" " : Str)) ++ jn (x :: t))
      rw [show (" + " : Str) = (" " : Str) ++ (("+" : Str) ++ (" " : Str)) by decide]
      simp only [app_assoc]
theorem lineWords_ne (a b : Int) : lineWords a b ≠ [] := by
  obtain ⟨x, t, e, _⟩ := abs_cons a b
  unfold lineWords
  rw [e]
  simp [sgnFirst]
theorem kinds7' {i : Nat} (h : i < 7) : i = 0 ∨ i = 1 ∨ i = 2 ∨ i = 3 ∨ i = 4 ∨ i = 5 ∨ i = 6 := by omega
/-- a clause's text is its words, joined -/
theorem cText_jn {i : Nat} {f : Str} {rows : List Row} {x : List V} (hi : i < 7) (wf : WF i f x) : cText i f rows x = jn (cWords i f rows x) := by
  rcases kinds7' hi with e | e | e | e | e | e | e <;> subst e
  · cases (show x = [] from wf); exact (cw_jn0 rfl).symm
  · cases (show x = [] from wf); exact (cw_jn0 rfl).symm
  · obtain ⟨g, rfl, _⟩ := wf
    rw [cw_jn (by simp [restWords])]
    show _ = _ ++ jn [g]
    rw [jn_one]
    rfl
  · obtain ⟨g, rfl, _⟩ := wf
    rw [cw_jn (by simp [restWords])]
    show _ = _ ++ jn [g]
    rw [jn_one]
    rfl
  · obtain ⟨s, a, b, rfl, _⟩ := wf
    rw [cw_jn (by simp [restWords])]
    show (((begT 4 f rows ++ (" " : Str)) ++ s) ++ (" " : Str)) ++ lineT a b = _ ++ jn (s :: lineWords a b)
    rw [jn_cons s (lineWords_ne a b), ← lineT_jn]
    simp only [app_assoc]
  · obtain ⟨s, g, a, b, rfl, _⟩ := wf
    rw [cw_jn (by simp [restWords])]
    show ((((begT 5 f rows ++ (" " : Str)) ++ s) ++ (" " : Str)) ++ g) ++ addT (lineT a b) = _ ++ jn (s :: g :: addWords a b)
    rw [jn_cons s (by simp), addT_jn]
    by_cases hab : a = 0 ∧ b = 0
    · have : addWords a b = [] := by unfold addWords; rw [if_pos hab]
      rw [if_pos hab, this, jn_one]
      have : ∀ z : Str, z ++ ("" : Str) = z := fun z => str_ext (by rw [TL.tl_append]; show tl z ++ [] = tl z; rw [List.append_nil])
      rw [this]
      simp only [app_assoc]
    · have : addWords a b ≠ [] := by unfold addWords; rw [if_neg hab]; simp
      rw [if_neg hab, jn_cons g this]
      simp only [app_assoc]
  · obtain ⟨s, b, rfl, _⟩ := wf
    rw [cw_jn (by simp [restWords])]
    show (((begT 6 f rows ++ (" " : Str)) ++ s) ++ (" " : Str)) ++ dT b = _ ++ jn [s, dT b]
    rw [jn_cons s (by simp), jn_one]
    simp only [app_assoc]
/-- a word without a blank, not too long -/
def GW (w : Str) : Prop := noBlank w ∧ w.length ≤ 100
theorem gw_lit {w : Str} (h : (tl w).all (· != 32) = true) (l : w.length ≤ 100) : GW w := ⟨nbs h, l⟩
theorem gw_word {w : Str} (h : Word w) : GW w := ⟨fun z => by have := h.az 32 z; omega, Nat.le_trans h.len (by decide)⟩
theorem gw_sign {s : Str} (h : isSign s) : GW s := by
  rcases h with e | e | e <;> subst e <;> exact gw_lit (by decide) (by decide)
theorem gw_way {s : Str} (h : isWay s) : GW s := by
  rcases h with e | e <;> subst e <;> exact gw_lit (by decide) (by decide)
theorem gw_num {n : Int} (h : Num n) : GW (dT n) := by
  have hl := dTl (n := n) (k := 90) (by decide) h
  refine ⟨?_, by omega⟩
  by_cases h0 : n < 0
  · rw [dT_neg h0]
    exact noBlank_app (nbs (by decide)) (dT_noBlank (by omega))
  · exact dT_noBlank (by omega)
theorem num_abs {n : Int} (h : Num n) : Num (absI n) := by
  unfold Num at *
  rw [absI_nat]; exact h
theorem gw_abs {n : Int} (h : Num n) : GW (dT (absI n)) := gw_num (num_abs h)
theorem gw_abs1 {n : Int} (h : Num n) : (dT (absI n)).length ≤ 91 := dTl (n := absI n) (k := 90) (by decide) (num_abs h)
theorem gw_kName : ∀ i, GW (kName i)
  | 0 => gw_lit (by decide) (by decide)
  | 1 => gw_lit (by decide) (by decide)
  | 2 => gw_lit (by decide) (by decide)
  | 3 => gw_lit (by decide) (by decide)
  | 4 => gw_lit (by decide) (by decide)
  | 5 => gw_lit (by decide) (by decide)
  | _ + 6 => by show GW ("step" : Str); exact gw_lit (by decide) (by decide)
theorem gw_h {b : Int} (h : Num b) : ∀ w ∈ hWords b, GW w := by
  unfold hWords
  split
  · simp
  · intro w hw
    simp only [List.mem_cons, List.not_mem_nil, or_false] at hw
    rcases hw with e | e
    · subst e; split <;> exact gw_lit (by decide) (by decide)
    · subst e; exact gw_abs h
theorem gw_absW {a b : Int} (ha : Num a) (hb : Num b) : ∀ w ∈ absWords a b, GW w ∧ w.length ≤ 91 := by
  have hh : ∀ w ∈ hWords b, GW w ∧ w.length ≤ 91 := fun w hw => by
    refine ⟨gw_h hb w hw, ?_⟩
    unfold hWords at hw
    split at hw
    · simp at hw
    · simp only [List.mem_cons, List.not_mem_nil, or_false] at hw
      rcases hw with e | e
      · subst e; split <;> decide
      · subst e; exact gw_abs1 hb
  unfold absWords
  split
  · intro w hw
    rw [List.mem_singleton.mp hw]
    exact ⟨gw_abs hb, gw_abs1 hb⟩
  · intro w hw
    rcases List.mem_append.mp hw with k | k
    · unfold slW at k
      split at k
      · rw [List.mem_singleton.mp k]; exact ⟨gw_lit (by decide) (by decide), by decide⟩
      · simp only [List.mem_cons, List.not_mem_nil, or_false] at k
        rcases k with e | e
        · subst e; exact ⟨gw_abs ha, gw_abs1 ha⟩
        · subst e; exact ⟨gw_lit (by decide) (by decide), by decide⟩
    · exact hh w k
theorem absW_len (a b : Int) : (absWords a b).length ≤ 4 := by
  unfold absWords slW hWords
  split
  · simp
  · split <;> split <;> simp
theorem gw_line {a b : Int} (ha : Num a) (hb : Num b) : ∀ w ∈ lineWords a b, GW w := by
  unfold lineWords
  have h := gw_absW ha hb
  cases e : absWords a b with
  | nil => exact fun _ z => nomatch z
  | cons x t =>
    rw [e] at h
    intro w hw
    rcases List.mem_cons.mp hw with k | k
    · subst k
      have hx := h x List.mem_cons_self
      cases isNeg a b
      · exact hx.1
      · refine ⟨noBlank_app (nbs (by decide)) hx.1.1, ?_⟩
        show (("-" : Str) ++ x).length ≤ 100
        rw [len_app]
        have := hx.2
        show 1 + x.length ≤ 100
        omega
    · exact (h w (List.mem_cons_of_mem _ k)).1
theorem gw_add {a b : Int} (ha : Num a) (hb : Num b) : ∀ w ∈ addWords a b, GW w := by
  unfold addWords
  split
  · simp
  · intro w hw
    rcases List.mem_cons.mp hw with k | k
    · subst k; split <;> exact gw_lit (by decide) (by decide)
    · exact (gw_absW ha hb w k).1
theorem gw_rest {i : Nat} {f : Str} {x : List V} (hi : i < 7) (wf : WF i f x) : ∀ w ∈ restWords i x, GW w := by
  rcases kinds7' hi with e | e | e | e | e | e | e <;> subst e
  · exact fun _ z => nomatch z
  · exact fun _ z => nomatch z
  · obtain ⟨g, rfl, hg, _⟩ := wf
    intro w hw
    rw [List.mem_singleton.mp hw]; exact gw_word hg
  · obtain ⟨g, rfl, hg⟩ := wf
    intro w hw
    rw [List.mem_singleton.mp hw]; exact gw_way hg
  · obtain ⟨s, a, b, rfl, hs, ha, hb⟩ := wf
    intro w hw
    rcases List.mem_cons.mp hw with k | k
    · subst k; exact gw_sign hs
    · exact gw_line ha hb w k
  · obtain ⟨s, g, a, b, rfl, hs, hg, _, ha, hb⟩ := wf
    intro w hw
    rcases List.mem_cons.mp hw with k | k
    · subst k; exact gw_sign hs
    · rcases List.mem_cons.mp k with k | k
      · subst k; exact gw_word hg
      · exact gw_add ha hb w k
  · obtain ⟨s, b, rfl, hs, hb⟩ := wf
    intro w hw
    rcases List.mem_cons.mp hw with k | k
    · subst k; exact gw_sign hs
    · rw [List.mem_singleton.mp k]; exact gw_num hb
theorem rest_len {i : Nat} {f : Str} {x : List V} (hi : i < 7) (wf : WF i f x) : (restWords i x).length ≤ 8 := by
  rcases kinds7' hi with e | e | e | e | e | e | e <;> subst e
  · exact Nat.zero_le _
  · exact Nat.zero_le _
  · obtain ⟨g, rfl, hg, _⟩ := wf; show 1 ≤ 8; decide
  · obtain ⟨g, rfl, hg⟩ := wf; show 1 ≤ 8; decide
  · obtain ⟨s, a, b, rfl, hs, ha, hb⟩ := wf
    show (lineWords a b).length + 1 ≤ 8
    have := absW_len a b
    unfold lineWords
    cases e : absWords a b with
    | nil => show 0 + 1 ≤ 8; decide
    | cons x t => rw [e] at this; show t.length + 1 + 1 ≤ 8; simp only [List.length_cons] at this; omega
  · obtain ⟨s, g, a, b, rfl, hs, hg, _, ha, hb⟩ := wf
    show (addWords a b).length + 1 + 1 ≤ 8
    have := absW_len a b
    unfold addWords
    split
    · decide
    · simp only [List.length_cons]; omega
  · obtain ⟨s, b, rfl, hs, hb⟩ := wf; show 2 ≤ 8; decide
theorem gw_pl {rows : List Row} (ok : ∀ r ∈ rows, okRow r = true) : ∀ w ∈ plWords rows, GW w := by
  unfold plWords
  split
  · intro w hw
    rw [List.mem_singleton.mp hw]; exact gw_lit (by decide) (by decide)
  · intro w hw
    obtain ⟨r, hr, rfl⟩ := List.mem_map.mp hw
    obtain ⟨h1, h2, h3⟩ := okRow_iff (ok r hr)
    exact ⟨sT_noBlank h1 (by omega), Nat.le_trans (sT_len (ok r hr)) (by decide)⟩
theorem gw_all {i : Nat} {f : Str} {rows : List Row} {x : List V} (hi : i < 7) (hf : Word f) (wf : WF i f x) (ok : ∀ r ∈ rows, okRow r = true) : ∀ w ∈ cWords i f rows x, GW w := by
  intro w hw
  rcases List.mem_cons.mp hw with k | k
  · subst k; exact gw_kName i
  · rcases List.mem_cons.mp k with k | k
    · subst k; exact gw_word hf
    · rcases List.mem_append.mp k with k | k
      · exact gw_pl ok w k
      · exact gw_rest hi wf w k
theorem plWords_len (rows : List Row) : (plWords rows).length ≤ rows.length + 1 := by
  unfold plWords
  split
  · simp
  · simp
theorem nd_dig : ∀ c : Nat, c < 128 → ¬ (48 ≤ c ∧ c ≤ 57) → Unicode.isDigit c = false := by decide +kernel
theorem digHead_no {x : Str} {c : Nat} {r : List Nat} (h : tl x = c :: r) (h1 : c < 128) (h2 : ¬ (48 ≤ c ∧ c ≤ 57)) : digHead x = false := by
  unfold digHead
  refine not_dig (c := c) ?_ (nd_dig c h1 h2)
  rw [cut_one, h]
  simp
theorem digHead_word {x : Str} (h : Word x) : digHead x = false := by
  cases e : tl x with
  | nil =>
    have := h.pos
    rw [TL.len_tl, e] at this
    simp at this
  | cons c r =>
    have := h.az c (by rw [e]; exact List.mem_cons_self)
    exact digHead_no e (by omega) (by omega)
theorem digHead_sign {s : Str} (h : isSign s) : digHead s = false := by
  rcases h with e | e | e <;> subst e <;> decide +kernel
theorem digHead_way {s : Str} (h : isWay s) : digHead s = false := by
  rcases h with e | e <;> subst e <;> decide +kernel
theorem rest_head {i : Nat} {f : Str} {x : List V} (hi : i < 7) (wf : WF i f x) : ∀ y, (restWords i x)[0]? = some y → digHead y = false := by
  rcases kinds7' hi with e | e | e | e | e | e | e <;> subst e
  · intro y h; cases h
  · intro y h; cases h
  · obtain ⟨g, rfl, hg, _⟩ := wf
    intro y h; cases h; exact digHead_word hg
  · obtain ⟨g, rfl, hg⟩ := wf
    intro y h; cases h; exact digHead_way hg
  · obtain ⟨s, a, b, rfl, hs, ha, hb⟩ := wf
    intro y h; cases h; exact digHead_sign hs
  · obtain ⟨s, g, a, b, rfl, hs, hg, _, ha, hb⟩ := wf
    intro y h; cases h; exact digHead_sign hs
  · obtain ⟨s, b, rfl, hs, hb⟩ := wf
    intro y h; cases h; exact digHead_sign hs
theorem restW {ws : List Str} {k i : Nat} {f : Str} {x : List V} (hi : i < 7) (wf : WF i f x) (h : Suf ws k (restWords i x)) : RestW i ws k f x ws.length := by
  have hl := h.len
  rcases kinds7' hi with e | e | e | e | e | e | e <;> subst e
  · exact ⟨wf, by simpa [restWords] using hl⟩
  · exact ⟨wf, by simpa [restWords] using hl⟩
  · obtain ⟨g, rfl, hg, hne⟩ := wf
    have h' : Suf ws k [g] := h
    exact ⟨g, rfl, hg, hne, h'.get0, by simpa [restWords] using hl⟩
  · obtain ⟨g, rfl, hg⟩ := wf
    have h' : Suf ws k [g] := h
    exact ⟨g, rfl, hg, h'.get0, by simpa [restWords] using hl⟩
  · obtain ⟨s, a, b, rfl, hs, ha, hb⟩ := wf
    have h' : Suf ws k (s :: lineWords a b) := h
    exact ⟨s, a, b, rfl, hs, ha, hb, h'.get0, lineW h'.tail⟩
  · obtain ⟨s, g, a, b, rfl, hs, hg, hne, ha, hb⟩ := wf
    have h' : Suf ws k (s :: g :: addWords a b) := h
    exact ⟨s, g, a, b, rfl, hs, hg, hne, ha, hb, h'.get0, h'.tail.get0, addedW h'.tail.tail⟩
  · obtain ⟨s, b, rfl, hs, hb⟩ := wf
    have h' : Suf ws k [s, dT b] := h
    exact ⟨s, b, _, rfl, hs, hb, h'.get0, h'.tail.get0, decL_dTall b, by simpa [restWords] using hl⟩
/-- the words of a clause tell it -/
theorem clauseW {i : Nat} {f : Str} {rows : List Row} {x : List V} (hi : i < 7) (hf : Word f) (wf : WF i f x) (nf : Nf rows) (ok : ∀ r ∈ rows, okRow r = true) (hl : rows.length ≤ 20) : ClauseW (cWords i f rows x) i f rows x := by
  have s2 : Suf (cWords i f rows x) 2 (plWords rows ++ restWords i x) := ⟨[kName i, f], rfl, rfl⟩
  have sR : Suf (cWords i f rows x) (2 + (plWords rows).length) (restWords i x) := ⟨kName i :: f :: plWords rows, rfl, by simp; omega⟩
  refine ⟨hi, rfl, rfl, hf, ⟨(plWords rows).length, ⟨?_⟩, restW hi wf sR⟩, ok, hl⟩
  by_cases hr : rows = []
  · refine .inl ⟨hr, ?_, ?_⟩
    · have := s2.get 0
      rw [Nat.add_zero] at this
      rw [this]
      unfold plWords
      rw [if_pos hr]
      rfl
    · unfold plWords
      rw [if_pos hr]
      rfl
  · have ep : plWords rows = rows.map sT := by unfold plWords; rw [if_neg hr]
    refine .inr ⟨hr, by rw [ep, List.length_map], nf, ok, fun j r hj => ?_, ?_, fun y hy => ?_⟩
    · rw [s2.get j, ep, List.getElem?_append_left (by rw [List.length_map]; exact (List.getElem?_eq_some_iff.mp hj).1), List.getElem?_map, hj]
      rfl
    · rw [sR.len]; omega
    · have := sR.get 0
      rw [Nat.add_zero] at this
      rw [this] at hy
      exact rest_head hi wf y hy
end OR

namespace OR
open PySem PySem.Spec PyProof.Rows L2
open TL (tl numL)
/-! ### lists of texts -/
def SmallS (w : Str) : Prop := ∀ c ∈ tl w, c < 200
theorem strOk_of {w : Str} (h : SmallS w) : PyData.strOk w = true := by
  unfold PyData.strOk
  rw [← Array.all_toList, List.all_eq_true]
  intro c hc
  have := h c hc
  exact decide_eq_true (by omega)
theorem lay_strs : ∀ {ws : List Str}, (∀ w ∈ ws, SmallS w) → PyData.canLayAll0 (ws.map PyData.str) = true
  | [], _ => rfl
  | w :: r, h => by
    show (PyData.strOk w && PyData.canLayAll0 (r.map PyData.str)) = true
    rw [lay_strs fun x hx => h x (List.mem_cons_of_mem _ hx), Bool.and_true]
    exact strOk_of (h w List.mem_cons_self)
theorem dep_strs : ∀ ws : List Str, PyData.depthAll (ws.map PyData.str) = 0
  | [] => rfl
  | w :: r => by
    show max (PyData.depth (.str w)) (PyData.depthAll (r.map PyData.str)) = 0
    rw [dep_strs r]
    rfl
theorem shp_strs {ws : List Str} (h : ∀ w ∈ ws, SmallS w) : SeqAt.shaped (.list (ws.map PyData.str)) = true := by
  unfold SeqAt.shaped
  rw [show PyData.canLay0 (.list (ws.map PyData.str)) = true from lay_strs h, Bool.true_and]
  refine decide_eq_true ?_
  show PyData.depthAll (ws.map PyData.str) + 1 ≤ 64
  rw [dep_strs]
  decide
theorem dp_strs {K : PySem.W.Frag} {H : Hp} : ∀ ws : List Str, DpAll K H (ws.map V.str) (ws.map PyData.str)
  | [] => .nil
  | w :: r => .cons (.str w) (dp_strs r)
def lenAt (l : Addr) (H : Hp) : Nat := match H l with
  | some (.lst xs) => xs.length
  | _ => 0
theorem lenAt_of {l : Addr} {H : Hp} {xs : List V} (h : H l = some (.lst xs)) : lenAt l H = xs.length := by
  unfold lenAt
  rw [h]
theorem ixN_in {n : Nat} {r : Int} (h0 : 0 ≤ r) (h1 : r < n) : ixN n r = some r.toNat := by
  unfold ixN
  rw [if_pos h0, if_pos h1]
theorem erase_permS : ∀ (L : List Str) (k : Nat) (h : k < L.length), (L[k] :: L.eraseIdx k).Perm L
  | p :: L, 0, _ => List.Perm.refl _
  | p :: L, k + 1, h => by
    have ih := erase_permS L k (Nat.lt_of_succ_lt_succ h)
    exact (List.Perm.swap p _ _).trans (ih.cons p)
theorem map_erase : ∀ (L : List Str) (k : Nat), (L.map V.str).eraseIdx k = (L.eraseIdx k).map V.str
  | [], _ => rfl
  | _ :: _, 0 => rfl
  | p :: L, k + 1 => by
    show V.str p :: (L.map V.str).eraseIdx k = V.str p :: (L.eraseIdx k).map V.str
    rw [map_erase L k]
def spShufS (K : PySem.W.Frag) : Sp := fun vs H Q _ => ∃ (p a : Addr) (L : List Str) (n : Nat), vs = [.ref p, .ref a] ∧ SqL K H a (L.map V.str) ∧ (∀ w ∈ L, SmallS w) ∧ L.length ≤ 100 ∧ Pen H p n ∧ n ≤ 800000 ∧
  ∀ (o : Addr) (M : List Str) (H' : Hp), H o = none → H' o = some (.lst (M.map V.str)) → M.Perm L → Pen H' p (n + 300) → Frm p H H' → Q (.ref o) H'
section
variable {P : Program} {w : World} {K : PySem.W.Frag} {mg : Str → Option Value} {base : Heap}
theorem scSh : FnScope ["_law_pen_here", "_law_items", "_law_left", "_law_gained"] ["_law_pen_here", "_law_items"] (defScope sShuffled) := ⟨rfl, rfl, rfl, by decide +kernel, rfl, by decide +kernel, by decide +kernel⟩
theorem ok_shufs {f : Addr} {fd : FuncData} (F : Fun K "_law_shuffled" "_law_shuffled" sShuffled f fd) (B : Bd mg) (D : Cl P w K mg base 1 "_law_draw" ["_law_pen_here", "_law_many"] spDraw) : FnOk P w K mg base CX0 2 f fd ["_law_pen_here", "_law_items"] (spShufS K) := by
  refine F.ok scSh (fun vs H Q E h => ?_) (fun cdv A outer s H vs Q E hr h => ?_)
  · obtain ⟨p, a, L, n, rfl, _⟩ := h
    rfl
  · obtain ⟨p, a, L, n, rfl, hS, hsm, hlen, hP, hn, q⟩ := h
    have nd := scSh.nd
    have hu64 : (A.deeper (envOfC "_law_shuffled" (defScope sShuffled) s.heap.objs.size f cdv)).units + 64 < cLine := hr.units
    obtain ⟨c0, hc0, hcn⟩ := hP.cells
    refine ⟨_, pss_cons (ps_par (i := 2) (j := 3) rfl nd rfl rfl (by decide) rfl rfl (pa_cons (pe_callTy call_list_of (by rfl) B.list bt_list (pa_cons (pv 1) pa_nil)) (pa_cons (pe_lst pa_nil) pa_nil)) rfl)
      (pss_cons (ps_while PassesOwn.never (pt_cmpR (op_neD hu64) (pv 2) (pe_lst pa_nil) (nomark _))
        (pss_one (ps_expr (pe_bm PySem.F.plainAttrs_list PySem.F.slot_list_append PySem.F.type_list_append mt_append (pv 3) (pa_cons
          (pe_bm PySem.F.plainAttrs_list PySem.F.slot_list_pop PySem.F.type_list_pop mt_popAt (pv 2) (pa_cons (pe_cl D hr (by decide) (by rfl) (pa_cons (pv 0) (pa_cons (pe_callB call_len_seq (by rfl) B.len PySem.boot_len (pa_cons (pv 2) pa_nil)) pa_nil))) pa_nil)) pa_nil)))))
      (pss_one (ps_ret (pv 3)))), ?_⟩
    refine ⟨_, rfl, a, _, rfl, .inl hS, fun l nl => ?_⟩
    have s1 := same_lay (o := .lst (L.map V.str)) nl
    refine ⟨Nat.zero_le _, fun o no => ⟨_, _, rfl, ?_⟩⟩
    have s2 := s1.trans (same_lay (o := .lst []) no)
    have nlo : l ≠ o := ne_of_none upd_same no
    have no0 : H o = none := s1.free no
    have ncl : c0 ≠ l := fun e => hcn (by rw [e]; exact nl)
    have nco : c0 ≠ o := fun e => hcn (by rw [e]; exact no0)
    refine while_by (fun σ H' => ∃ R F : List Str, σ = [some (.ref p), some (.ref a), some (.ref l), some (.ref o)] ∧ H' l = some (.lst (R.map V.str)) ∧ H' o = some (.lst (F.map V.str)) ∧ (F ++ R).Perm L ∧ Pen H' p (n + 2 * F.length) ∧ Frm p H H')
      (fun _ H' => lenAt l H') ⟨L, [], rfl, by rw [upd_ne nlo, upd_same], upd_same, List.Perm.refl _, hP.same' s2, frmS s2⟩ ?_ (fun σ H Q Q' hQ h => by
        obtain ⟨v, e, l1, fw⟩ := h
        exact ⟨v, e, l1, fun p hp => by
          obtain ⟨d, e', a1, a2, a3, a4, k, ek, q⟩ := fw p hp
          exact ⟨d, e', a1, a2, a3, a4, k, ek, hQ _ _ q⟩⟩)
    rintro σ H' ⟨R, F', rfl, hl, ho, hpm, hPn, hFr⟩
    have hlF : F'.length + R.length = L.length := by rw [← List.length_append, hpm.length_eq]
    have hRs : ∀ w ∈ R, SmallS w := fun w hw => hsm w (hpm.mem_iff.mp (List.mem_append_right _ hw))
    refine ⟨_, rfl, Nat.zero_le _, fun e ne => ?_⟩
    have se := same_lay (o := .lst []) ne
    have hl3 := se _ _ hl
    have ho3 := se _ _ ho
    have P3 := hPn.same' se
    have hFr3 := hFr.trans (frmS se)
    refine ⟨.list (R.map PyData.str), .list [], .lst (.inl (.inl hl3)) (dp_strs R), .lst (.inl (.inl upd_same)) .nil, shp_strs hRs, rfl, _, rfl, ite2 (fun hne => ?_) (fun hne => ?_)⟩
    · have hR0 : 0 < R.length := by
        cases R with
        | nil => exact absurd hne (by decide)
        | cons _ _ => exact Nat.succ_pos _
      have lm : (R.map V.str).length = R.length := List.length_map ..
      refine ⟨_, rfl, .inl ⟨rfl, _, .inl (.inl ho3)⟩, _, rfl, .inl ⟨rfl, _, .inl (.inl hl3)⟩, _, rfl, _, rfl, l, _, rfl, .inl (.inl (.inl hl3)), p, _, _, rfl, by rw [lm]; omega, ?_, P3, by omega, fun r H4 r0 r1 P4 F4 => ?_⟩
      · rw [lm]
        exact Nat.lt_of_le_of_lt (show ((R.length : Nat) : Int).natAbs ≤ 200 by omega) (by decide)
      rw [lm] at r1
      have hl4 := F4.lst P3 hl3
      have ho4 := F4.lst P3 ho3
      have hk : r.toNat < R.length := by omega
      have hix := (ixN_seq (ixN_in r0 (show r < ((R.map V.str).length : Nat) by rw [lm]; exact r1))).1
      have hget : (R.map V.str)[r.toNat]? = some (.str R[r.toNat]) := by
        rw [List.getElem?_map, List.getElem?_eq_getElem hk]
        rfl
      refine ⟨l, R.map V.str, r, r.toNat, _, rfl, rfl, hl4, by omega, by omega, hix, hget, ?_⟩
      have ho5 : (upd H4 l (.lst ((R.map V.str).eraseIdx r.toNat))) o = some (.lst (F'.map V.str)) := by rw [upd_ne nlo.symm]; exact ho4
      refine ⟨o, F'.map V.str, _, rfl, rfl, ho5, small1000 (by rw [List.length_map]; omega), ?_⟩
      have ce4 := (hFr3.trans F4).ce c0 hc0
      refine ⟨⟨R.eraseIdx r.toNat, F' ++ [R[r.toNat]], rfl, by rw [upd_ne nlo, upd_same, map_erase], by rw [upd_same, List.map_append]; rfl, ?_, ?_, ?_⟩, ?_⟩
      · rw [List.append_assoc]
        exact ((erase_permS R r.toNat hk).append_left F').trans hpm
      · have p5 := P4.put (o := .lst ((R.map V.str).eraseIdx r.toNat)) ce4 hl4 ncl
        have ce5 : cellsAt (upd H4 l (.lst ((R.map V.str).eraseIdx r.toNat))) p c0 := by
          obtain ⟨k1, k2, e⟩ := ce4
          exact ⟨k1, k2, by rw [upd_ne (ne_of e hl4 (by intro z; cases z))]; exact e⟩
        exact (p5.put ce5 ho5 nco).mono (by rw [List.length_append]; show _ ≤ n + 2 * (F'.length + 1); omega)
      · have fr4 := hFr3.trans F4
        refine ⟨fun b u eb nb => ?_, fun c hc => ?_⟩
        · have n1 : b ≠ l := ne_of_none eb nl
          have n2 : b ≠ o := ne_of_none eb no0
          rw [upd_ne n2, upd_ne n1]
          exact fr4 _ _ eb nb
        · obtain ⟨k1, k2, e⟩ := fr4.ce c hc
          exact ⟨k1, k2, by rw [upd_ne (ne_of e ho4 (by intro z; cases z)), upd_ne (ne_of e hl4 (by intro z; cases z))]; exact e⟩
      · show lenAt l _ < lenAt l H'
        rw [lenAt_of (xs := (R.map V.str).eraseIdx r.toNat) (by rw [upd_ne nlo, upd_same]), lenAt_of hl, map_erase, List.length_map, List.length_map, List.length_eraseIdx, if_pos hk]
        omega
    · have hR0 : R = [] := by
        cases R with
        | nil => rfl
        | cons _ _ => exact absurd rfl hne
      subst hR0
      rw [List.append_nil] at hpm
      exact ⟨_, rfl, q o F' _ no0 ho3 hpm (P3.mono (by rw [hpm.length_eq]; omega)) hFr3⟩
end
/-! ### shuffling and cutting -/
theorem dp_pairs {K : PySem.W.Frag} {H : Hp} : ∀ {L : List ARow}, PairsAt H L → ∃ ds, DpAll K H (refs L) ds ∧ PyData.canLayAll0 ds = true ∧ PyData.depthAll ds ≤ 1 ∧ ds.length = L.length
  | [], _ => ⟨[], .nil, rfl, Nat.zero_le _, rfl⟩
  | p :: L, h => by
    obtain ⟨ds, h1, h2, h3, h4⟩ := dp_pairs (K := K) (H := H) (L := L) fun q hq => h q (List.mem_cons_of_mem _ hq)
    have hi2 : DpAll K H [.int p.2.1, .int p.2.2] [.int p.2.1, .int p.2.2] := .cons (.int _) (.cons (.int _) .nil)
    rcases h p List.mem_cons_self with e | e
    · refine ⟨.tuple [.int p.2.1, .int p.2.2] :: ds, .cons (.tup (.inl (.inl e)) hi2) h1, ?_, ?_, by rw [List.length_cons, h4]; rfl⟩
      · show (true && PyData.canLayAll0 ds) = true
        rw [h2]
        rfl
      · show max 1 (PyData.depthAll ds) ≤ 1
        omega
    · refine ⟨.list [.int p.2.1, .int p.2.2] :: ds, .cons (.lst (.inl (.inl e)) hi2) h1, ?_, ?_, by rw [List.length_cons, h4]; rfl⟩
      · show (true && PyData.canLayAll0 ds) = true
        rw [h2]
        rfl
      · show max 1 (PyData.depthAll ds) ≤ 1
        omega
theorem shp_of {ds : List PyData} (h1 : PyData.canLayAll0 ds = true) (h2 : PyData.depthAll ds ≤ 1) : SeqAt.shaped (.list ds) = true := by
  unfold SeqAt.shaped
  rw [show PyData.canLay0 (.list ds) = true from h1, Bool.true_and]
  refine decide_eq_true ?_
  show PyData.depthAll ds + 1 ≤ 64
  omega
theorem PairsAt.frm {H H' : Hp} {L : List ARow} {p : Addr} {n : Nat} (h : PairsAt H L) (f : Frm p H H') (P : Pen H p n) : PairsAt H' L := fun q hq => by
  obtain ⟨kvs, hp⟩ := P.dict
  rcases h q hq with e | e
  · exact .inl (f _ _ e (ne_of e hp (by intro z; cases z)))
  · exact .inr (f _ _ e (ne_of e hp (by intro z; cases z)))
theorem refs_erase : ∀ (L : List ARow) (k : Nat), (refs L).eraseIdx k = refs (L.eraseIdx k)
  | [], _ => rfl
  | _ :: _, 0 => rfl
  | p :: L, k + 1 => by
    show V.ref p.1 :: (refs L).eraseIdx k = V.ref p.1 :: refs (L.eraseIdx k)
    rw [refs_erase L k]
theorem erase_perm : ∀ (L : List ARow) (k : Nat) (h : k < L.length), (L[k] :: L.eraseIdx k).Perm L
  | p :: L, 0, _ => List.Perm.refl _
  | p :: L, k + 1, h => by
    have ih := erase_perm L k (Nat.lt_of_succ_lt_succ h)
    exact (List.Perm.swap p _ _).trans (ih.cons p)
def spShuffled (K : PySem.W.Frag) : Sp := fun vs H Q _ => ∃ (p a : Addr) (L : List ARow) (n : Nat), vs = [.ref p, .ref a] ∧ SqL K H a (refs L) ∧ PairsAt H L ∧ L.length ≤ 200 ∧ Pen H p n ∧ n ≤ 800000 ∧
  ∀ (o : Addr) (M : List ARow) (H' : Hp), H o = none → H' o = some (.lst (refs M)) → M.Perm L → PairsAt H' M → Pen H' p (n + 500) → Frm p H H' → Q (.ref o) H'
section
variable {P : Program} {w : World} {K : PySem.W.Frag} {mg : Str → Option Value} {base : Heap}
theorem ok_shuffled {f : Addr} {fd : FuncData} (F : Fun K "_law_shuffled" "_law_shuffled" sShuffled f fd) (B : Bd mg) (D : Cl P w K mg base 1 "_law_draw" ["_law_pen_here", "_law_many"] spDraw) : FnOk P w K mg base CX0 2 f fd ["_law_pen_here", "_law_items"] (spShuffled K) := by
  refine F.ok scSh (fun vs H Q E h => ?_) (fun cdv A outer s H vs Q E hr h => ?_)
  · obtain ⟨p, a, L, n, rfl, _⟩ := h
    rfl
  · obtain ⟨p, a, L, n, rfl, hS, hPa, hlen, hP, hn, q⟩ := h
    have nd := scSh.nd
    have hu64 : (A.deeper (envOfC "_law_shuffled" (defScope sShuffled) s.heap.objs.size f cdv)).units + 64 < cLine := hr.units
    obtain ⟨c0, hc0, hcn⟩ := hP.cells
    obtain ⟨kvs, hpd⟩ := hP.dict
    refine ⟨_, pss_cons (ps_par (i := 2) (j := 3) rfl nd rfl rfl (by decide) rfl rfl (pa_cons (pe_callTy call_list_of (by rfl) B.list bt_list (pa_cons (pv 1) pa_nil)) (pa_cons (pe_lst pa_nil) pa_nil)) rfl)
      (pss_cons (ps_while PassesOwn.never (pt_cmpR (op_neD hu64) (pv 2) (pe_lst pa_nil) (nomark _))
        (pss_one (ps_expr (pe_bm PySem.F.plainAttrs_list PySem.F.slot_list_append PySem.F.type_list_append mt_append (pv 3) (pa_cons
          (pe_bm PySem.F.plainAttrs_list PySem.F.slot_list_pop PySem.F.type_list_pop mt_popAt (pv 2) (pa_cons (pe_cl D hr (by decide) (by rfl) (pa_cons (pv 0) (pa_cons (pe_callB call_len_seq (by rfl) B.len PySem.boot_len (pa_cons (pv 2) pa_nil)) pa_nil))) pa_nil)) pa_nil)))))
      (pss_one (ps_ret (pv 3)))), ?_⟩
    refine ⟨_, rfl, a, _, rfl, .inl hS, fun l nl => ?_⟩
    have s1 := same_lay (o := .lst (refs L)) nl
    refine ⟨Nat.zero_le _, fun o no => ⟨_, _, rfl, ?_⟩⟩
    have s2 := s1.trans (same_lay (o := .lst []) no)
    have nlo : l ≠ o := ne_of_none upd_same no
    have no0 : H o = none := s1.free no
    have ncl : c0 ≠ l := fun e => hcn (by rw [e]; exact nl)
    have nco : c0 ≠ o := fun e => hcn (by rw [e]; exact no0)
    refine while_by (fun σ H' => ∃ R F : List ARow, σ = [some (.ref p), some (.ref a), some (.ref l), some (.ref o)] ∧ H' l = some (.lst (refs R)) ∧ H' o = some (.lst (refs F)) ∧ PairsAt H' R ∧ PairsAt H' F ∧ (F ++ R).Perm L ∧ Pen H' p (n + 2 * F.length) ∧ Frm p H H')
      (fun _ H' => lenAt l H') ⟨L, [], rfl, by rw [upd_ne nlo, upd_same], upd_same, hPa.same s2, (fun _ z => nomatch z), List.Perm.refl _, hP.same' s2, frmS s2⟩ ?_ (fun σ H Q Q' hQ h => by
        obtain ⟨v, e, l1, fw⟩ := h
        exact ⟨v, e, l1, fun p hp => by
          obtain ⟨d, e', a1, a2, a3, a4, k, ek, q⟩ := fw p hp
          exact ⟨d, e', a1, a2, a3, a4, k, ek, hQ _ _ q⟩⟩)
    rintro σ H' ⟨R, F', rfl, hl, ho, hR, hF, hpm, hPn, hFr⟩
    have hlF : F'.length + R.length = L.length := by rw [← List.length_append, hpm.length_eq]
    refine ⟨_, rfl, Nat.zero_le _, fun e ne => ?_⟩
    have se := same_lay (o := .lst []) ne
    obtain ⟨ds, hd1, hd2, hd3, hd4⟩ := dp_pairs (K := K) (hR.same se)
    have hl3 := se _ _ hl
    have ho3 := se _ _ ho
    have P3 := hPn.same' se
    have hFr3 := hFr.trans (frmS se)
    refine ⟨.list ds, .list [], .lst (.inl (.inl hl3)) hd1, .lst (.inl (.inl upd_same)) .nil, shp_of hd2 hd3, rfl, _, rfl, ite2 (fun hne => ?_) (fun hne => ?_)⟩
    · have hR0 : 0 < R.length := by
        cases R with
        | nil =>
          have : ds = [] := List.length_eq_zero_iff.mp hd4
          rw [this] at hne
          exact absurd hne (by decide)
        | cons _ _ => exact Nat.succ_pos _
      refine ⟨_, rfl, .inl ⟨rfl, _, .inl (.inl ho3)⟩, _, rfl, .inl ⟨rfl, _, .inl (.inl hl3)⟩, _, rfl, _, rfl, l, _, rfl, .inl (.inl (.inl hl3)), p, _, _, rfl, by rw [refs_len]; omega, ?_, P3, by omega, fun r H4 r0 r1 P4 F4 => ?_⟩
      · rw [refs_len]
        exact Nat.lt_of_le_of_lt (show ((R.length : Nat) : Int).natAbs ≤ 200 by omega) (by decide)
      rw [refs_len] at r1
      have hl4 := F4.lst P3 hl3
      have ho4 := F4.lst P3 ho3
      have hk : r.toNat < R.length := by omega
      have hix := (ixN_seq (ixN_in r0 (show r < ((refs R).length : Nat) by rw [refs_len]; exact r1))).1
      have hget : (refs R)[r.toNat]? = some (.ref R[r.toNat].1) := by
        unfold refs
        rw [List.getElem?_map, List.getElem?_eq_getElem hk]
        rfl
      refine ⟨l, refs R, r, r.toNat, _, rfl, rfl, hl4, by omega, by omega, hix, hget, ?_⟩
      have ho5 : (upd H4 l (.lst ((refs R).eraseIdx r.toNat))) o = some (.lst (refs F')) := by rw [upd_ne nlo.symm]; exact ho4
      refine ⟨o, refs F', _, rfl, rfl, ho5, small1000 (by rw [refs_len]; omega), ?_⟩
      have hR4 := (hR.same se).frm F4 P3
      have hF4 := (hF.same se).frm F4 P3
      have ce4 := (hFr3.trans F4).ce c0 hc0
      have inL : ∀ q ∈ F' ++ R, q.1 ≠ l ∧ q.1 ≠ o := fun q hq => by
        have hqL := hpm.mem_iff.mp hq
        have hne : H q.1 ≠ none := (hPa q hqL).elim (fun e => by rw [e]; exact fun z => nomatch z) fun e => by rw [e]; exact fun z => nomatch z
        exact ⟨fun e => hne (by rw [e]; exact nl), fun e => hne (by rw [e]; exact no0)⟩
      have keep : ∀ q ∈ F' ++ R, PairAt H4 q.1 q.2 → PairAt (upd (upd H4 l (.lst ((refs R).eraseIdx r.toNat))) o (.lst (refs F' ++ [.ref R[r.toNat].1]))) q.1 q.2 := fun q hq hp => by
        obtain ⟨n1, n2⟩ := inL q hq
        exact hp.elim (fun e => .inl (by rw [upd_ne n2, upd_ne n1]; exact e)) fun e => .inr (by rw [upd_ne n2, upd_ne n1]; exact e)
      have hmem : R[r.toNat] ∈ R := List.getElem_mem hk
      refine ⟨⟨R.eraseIdx r.toNat, F' ++ [R[r.toNat]], rfl, by rw [upd_ne nlo, upd_same, refs_erase], by rw [upd_same, refs_snoc], fun q hq => ?_, fun q hq => ?_, ?_, ?_, ?_⟩, ?_⟩
      · have hqR := List.mem_of_mem_eraseIdx hq
        exact keep q (List.mem_append_right _ hqR) (hR4 q hqR)
      · rcases List.mem_append.mp hq with k | k
        · exact keep q (List.mem_append_left _ k) (hF4 q k)
        · rw [List.mem_singleton.mp k]
          exact keep _ (List.mem_append_right _ hmem) (hR4 _ hmem)
      · rw [List.append_assoc]
        exact ((erase_perm R r.toNat hk).append_left F').trans hpm
      · have p5 := P4.put (o := .lst ((refs R).eraseIdx r.toNat)) ce4 hl4 ncl
        have ce5 : cellsAt (upd H4 l (.lst ((refs R).eraseIdx r.toNat))) p c0 := by
          obtain ⟨k1, k2, e⟩ := ce4
          exact ⟨k1, k2, by rw [upd_ne (ne_of e hl4 (by intro z; cases z))]; exact e⟩
        exact (p5.put ce5 ho5 nco).mono (by rw [List.length_append]; show _ ≤ n + 2 * (F'.length + 1); omega)
      · have fr4 := hFr3.trans F4
        refine ⟨fun b u eb nb => ?_, fun c hc => ?_⟩
        · have n1 : b ≠ l := ne_of_none eb nl
          have n2 : b ≠ o := ne_of_none eb no0
          rw [upd_ne n2, upd_ne n1]
          exact fr4 _ _ eb nb
        · obtain ⟨k1, k2, e⟩ := fr4.ce c hc
          exact ⟨k1, k2, by rw [upd_ne (ne_of e ho4 (by intro z; cases z)), upd_ne (ne_of e hl4 (by intro z; cases z))]; exact e⟩
      · show lenAt l _ < lenAt l H'
        rw [lenAt_of (xs := (refs R).eraseIdx r.toNat) (by rw [upd_ne nlo, upd_same]), lenAt_of hl, refs_erase, refs_len, refs_len, List.length_eraseIdx, if_pos hk]
        omega
    · have hR0 : R = [] := by
        cases R with
        | nil => rfl
        | cons _ _ =>
          cases ds with
          | nil => cases hd4
          | cons _ _ => exact absurd rfl hne
      subst hR0
      rw [List.append_nil] at hpm
      exact ⟨_, rfl, q o F' _ no0 ho3 hpm (hF.same se) (P3.mono (by rw [hpm.length_eq]; omega)) hFr3⟩
end
end OR

namespace OR
open PySem PySem.Spec PyProof.Rows L2
open TL (tl numL)
/-! ### drawn words -/
theorem tl_cutA (z : Str) (k : Nat) : tl (cutS z none (some (k : Int))) = (tl z).take k := by
  show ((z.cps.toList.drop (HT.sIx z.length 0 none)).take (HT.sIx z.length z.length (some (k : Int)) - HT.sIx z.length 0 none)).toArray.toList = z.cps.toList.take k
  rw [HT.sIx_none, HT.sIx_nat, List.drop_zero, Nat.sub_zero]
  have hl : z.length = z.cps.toList.length := by rw [Array.length_toList]; rfl
  rcases Nat.le_total k z.length with h | h
  · rw [Nat.min_eq_left h]
  · rw [Nat.min_eq_right h, List.take_of_length_le (by rw [hl]; exact Nat.le_refl _), List.take_of_length_le (by rw [← hl]; exact h)]
theorem tl_cutB (z : Str) (k : Nat) : tl (cutS z (some (k : Int)) none) = (tl z).drop k := by
  show ((z.cps.toList.drop (HT.sIx z.length 0 (some (k : Int)))).take (HT.sIx z.length z.length none - HT.sIx z.length 0 (some (k : Int)))).toArray.toList = z.cps.toList.drop k
  rw [HT.sIx_none, HT.sIx_nat]
  have hl : z.length = z.cps.toList.length := by rw [Array.length_toList]; rfl
  rcases Nat.le_total k z.length with h | h
  · rw [Nat.min_eq_left h, List.take_of_length_le (by rw [List.length_drop, hl]; exact Nat.le_refl _)]
  · rw [Nat.min_eq_right h, List.drop_of_length_le (by rw [hl]; exact Nat.le_refl _), List.drop_of_length_le (by rw [← hl]; exact h), List.take_nil]
def ch (c : Nat) : Str := ⟨#[c]⟩
theorem tl_ch (c : Nat) : tl (ch c) = [c] := rfl
theorem tl_join0 : ∀ cs : List Nat, tl (Txt.join ("" : Str) (cs.map ch)) = cs
  | [] => rfl
  | [c] => by rw [TL.join_eq]; rfl
  | c :: d :: r => by
    have ih := tl_join0 (d :: r)
    rw [TL.join_eq] at ih ⊢
    show tl ((ch c ++ ("" : Str)) ++ Str.join ("" : Str) ((d :: r).map ch)) = _
    rw [TL.tl_append, TL.tl_append, ih]
    rfl
theorem let_at {j : Nat} (h : j < 26) : (tl letters)[j]? = some (97 + j) := by
  have e : tl letters = (List.range 26).map (· + 97) := by decide +kernel
  rw [e, List.getElem?_map, List.getElem?_range h]
  show some (j + 97) = _
  rw [Nat.add_comm]
theorem let_len : letters.length = 26 := by decide
theorem let_az {c : Nat} (h : c ∈ tl letters) : 97 ≤ c ∧ c ≤ 122 := by
  have e : tl letters = (List.range 26).map (· + 97) := by decide +kernel
  rw [e] at h
  obtain ⟨j, hj, rfl⟩ := List.mem_map.mp h
  have := List.mem_range.mp hj
  omega
def stepsL : List Int := [1, 3, 5, 7, 9, 11]
/-- the letter of the k-th word -/
def own (front step : Int) (k : Nat) : Nat := 97 + ((front + step * (k : Int)) % 26).toNat
theorem own_ne {front step : Int} {k m : Nat} (h0 : 0 ≤ front) (hs : step ∈ stepsL) (hk : k < m) (hm : m < 4) : own front step k ≠ own front step m := by
  unfold own
  unfold stepsL at hs
  simp only [List.mem_cons, List.not_mem_nil, or_false] at hs
  rcases hs with e | e | e | e | e | e <;> subst e <;> omega
def wordAt (stem : Str) (at_ : Nat) (c : Nat) : Str := (cutS stem none (some (at_ : Int)) ++ ch c) ++ cutS stem (some (at_ : Int)) none
theorem tl_word (stem : Str) (a c : Nat) : tl (wordAt stem a c) = (tl stem).take a ++ c :: (tl stem).drop a := by
  unfold wordAt
  rw [TL.tl_append, TL.tl_append, tl_cutA, tl_cutB, tl_ch, List.append_assoc]
  rfl
theorem word_inj {stem : Str} {a c d : Nat} (h : wordAt stem a c = wordAt stem a d) : c = d := by
  have := congrArg tl h
  rw [tl_word, tl_word] at this
  exact (List.cons.inj (List.append_cancel_left this)).1
theorem word_ok {stem : Str} {a c : Nat} (hl : stem.length ≤ 7) (hs : ∀ x ∈ tl stem, 97 ≤ x ∧ x ≤ 122) (hc : 97 ≤ c ∧ c ≤ 122) : Word (wordAt stem a c) := by
  have len : (wordAt stem a c).length = stem.length + 1 := by
    rw [TL.len_tl, tl_word, TL.len_tl, List.length_append, List.length_cons]
    have := congrArg List.length (List.take_append_drop a (tl stem))
    rw [List.length_append] at this
    omega
  refine ⟨by omega, by omega, fun x hx => ?_⟩
  rw [tl_word] at hx
  rcases List.mem_append.mp hx with h | h
  · exact hs x (List.mem_of_mem_take h)
  · rcases List.mem_cons.mp h with h | h
    · rw [h]; exact hc
    · exact hs x (List.mem_of_mem_drop h)
theorem Frm.putNew {p d : Addr} {H H2 : Hp} {xs : List V} {o : HO} (f : Frm p H H2) (nd : H d = none) (h : H2 d = some (.lst xs)) : Frm p H (upd H2 d o) := ⟨fun b u e nb => by rw [upd_ne (ne_of_none e nd)]; exact f _ _ e nb, fun c hc => by
  obtain ⟨k, l', e⟩ := f.ce c hc
  exact ⟨k, l', by rw [upd_ne (ne_of e h (by intro z; cases z))]; exact e⟩⟩
def spPickS : Sp := fun vs H Q _ => ∃ (p : Addr) (s : Str) (n : Nat), vs = [.ref p, .str s] ∧ 0 < s.length ∧ s.length ≤ 1000 ∧ Pen H p n ∧ n ≤ 1000000 ∧ ∀ (c : Nat) (H' : Hp), c ∈ tl s → Pen H' p (n + 1) → Frm p H H' → Q (.str (ch c)) H'
def spWords : Sp := fun vs H Q _ => ∃ (p : Addr) (m n : Nat), vs = [.ref p, .int (m : Nat)] ∧ m ≤ 4 ∧ Pen H p n ∧ n ≤ 790000 ∧
  ∀ (a : Addr) (ws : List Str) (H' : Hp), H a = none → H' a = some (.lst (ws.map V.str)) → ws.length = m → (∀ w ∈ ws, Word w) → ws.Pairwise (· ≠ ·) → Pen H' p (n + 400) → Frm p H H' → Q (.ref a) H'
section
variable {P : Program} {w : World} {K : PySem.W.Frag} {mg : Str → Option Value} {base : Heap}
theorem ok_pickS {f : Addr} {fd : FuncData} (F : Fun K "_law_pick" "_law_pick" sPick f fd) (B : Bl mg) (D : Cl P w K mg base 1 "_law_draw" ["_law_pen_here", "_law_many"] spDraw) : FnOk P w K mg base CX0 2 f fd ["_law_pen_here", "_law_items"] spPickS := by
  refine F.ok scPick (fun vs H Q E h => ?_) (fun cdv A outer s H vs Q E hr h => ?_)
  · obtain ⟨p, s, n, rfl, _⟩ := h
    rfl
  · obtain ⟨p, x, n, rfl, h0, h1, hP, hn, q⟩ := h
    refine ⟨_, pss_one (ps_ret (pe_ix ix_str (pv 1) (pe_cl D hr (by decide) (by rfl) (pa_cons (pv 0) (pa_cons (pe_callB call_len_str (by rfl) B.len PySem.boot_len (pa_cons (pv 1) pa_nil)) pa_nil))) (fun _ _ => rfl))), ?_⟩
    refine ⟨_, rfl, _, rfl, _, rfl, x, rfl, sz1 (by omega), p, x.length, n, rfl, by omega, ?_, hP, hn, fun r H' hr0 hr1 hP' hF => ?_⟩
    · have : x.length < 2 ^ 200 := Nat.lt_of_le_of_lt h1 (by decide)
      simpa using this
    · have hj : r.toNat < (tl x).length := by rw [← TL.len_tl]; omega
      refine ⟨x, r, (tl x)[r.toNat], rfl, rfl, sz1 (by omega), ?_, q _ _ (List.getElem_mem hj) hP' hF⟩
      have := atI_nat (xs := tl x) (j := r.toNat) (v := (tl x)[r.toNat]) (List.getElem?_eq_getElem hj)
      rw [Int.toNat_of_nonneg hr0] at this
      exact this
abbrev wN : List Str := ["_law_pen_here", "_law_many", "_law_small", "_law_k", "_law_stem", "_law_at", "_law_first", "_law_pace", "_law_gained", "_law_letter"]
theorem scWd : FnScope ["_law_pen_here", "_law_many", "_law_small", "_law_k", "_law_stem", "_law_at", "_law_first", "_law_pace", "_law_gained", "_law_letter"] ["_law_pen_here", "_law_many"] (defScope sWords) := ⟨rfl, rfl, rfl, by decide +kernel, rfl, by decide +kernel, by decide +kernel⟩
theorem word_smallW {s : Str} (h : Word s) : SmallS s := fun c hc => by have := h.az c hc; omega
theorem ok_words {f : Addr} {fd : FuncData} (F : Fun K "_law_words" "_law_words" sWords f fd) (B : Bd mg) (D : Cl P w K mg base 1 "_law_draw" ["_law_pen_here", "_law_many"] spDraw) (PI : Cl P w K mg base 2 "_law_pick" ["_law_pen_here", "_law_items"] (spPick K)) (PS : Cl P w K mg base 2 "_law_pick" ["_law_pen_here", "_law_items"] spPickS)
    (SH : Cl P w K mg base 2 "_law_shuffled" ["_law_pen_here", "_law_items"] (spShufS K)) : FnOk P w K mg base CX0 3 f fd ["_law_pen_here", "_law_many"] spWords := by
  refine F.ok scWd (fun vs H Q E h => ?_) (fun cdv A outer s H vs Q E hr h => ?_)
  · obtain ⟨p, m, n, rfl, _⟩ := h
    rfl
  · obtain ⟨p, m, n, rfl, hm, hP, hn, q⟩ := h
    have nd := scWd.nd
    refine ⟨_, pss_cons (ps_set (i := 2) nd rfl (.inr rfl) pe_str)
      (pss_cons (ps_set (i := 4) nd rfl (.inl rfl) (pe_join pe_str
        (pe_lc (own := [("_law_k", 3)]) (g := gName 3) (tt := tYes) rfl nd (pi_range1 (by rfl) B.range (pa_cons (pe_cl D hr (by decide) (by rfl) (pa_cons (pv 0) (pa_cons pe_int pa_nil))) pa_nil)) (blkOk_by (N := wN) (sc := defScope sWords) (by decide +kernel))
          (fun _ _ _ _ _ => pg_name (i := 3) nd rfl (.inl rfl)) (fun _ _ _ _ _ => pts_nil) (fun _ _ _ _ _ => pe_cl PS hr (by decide) (by rfl) (pa_cons (pv 0) (pa_cons (pv 2) pa_nil))))))
      (pss_cons (ps_par (i := 5) (j := 6) rfl nd rfl rfl (by decide) rfl rfl (pa_cons (pe_cl D hr (by decide) (by rfl) (pa_cons (pv 0) (pa_cons (pe_op op_add (pe_callB call_len_str (by rfl) B.len PySem.boot_len (pa_cons (pv 4) pa_nil)) pe_int) pa_nil)))
          (pa_cons (pe_cl D hr (by decide) (by rfl) (pa_cons (pv 0) (pa_cons pe_int pa_nil))) pa_nil)) rfl)
      (pss_cons (ps_set (i := 7) nd rfl (.inl rfl) (pe_cl PI hr (by decide) (by rfl) (pa_cons (pv 0) (pa_cons (pe_lst (pa_cons pe_int (pa_cons pe_int (pa_cons pe_int (pa_cons pe_int (pa_cons pe_int (pa_cons pe_int pa_nil))))))) pa_nil))))
      (pss_cons (ps_set (i := 8) nd rfl (.inl rfl) (pe_lst pa_nil))
      (pss_cons (ps_for PassesOwn.never rfl (pi_range1 (by rfl) B.range (pa_cons (pv 1) pa_nil)) (pg_name (i := 3) nd rfl (.inl rfl))
        (pss_cons (ps_set (i := 9) nd rfl (.inl rfl) (pe_ix ix_str (pv 2) (pe_op op_mod (pe_callTy call_int1 (by rfl) B.int bt_int (pa_cons (pe_op op_add (pv 6) (pe_op op_mul (pv 7) (pv 3))) pa_nil)) pe_int) (fun _ _ => rfl)))
        (pss_one (ps_expr (pe_bm PySem.F.plainAttrs_list PySem.F.slot_list_append PySem.F.type_list_append mt_append (pv 8) (pa_cons (pe_op op_add_str (pe_op op_add_str (pe_slice sl_str (pv 4) po_none (po_some (pv 5))) (pv 9)) (pe_slice sl_str (pv 4) (po_some (pv 5)) po_none)) pa_nil))))))
      (pss_one (ps_ret (pe_cl SH hr (by decide) (by rfl) (pa_cons (pv 0) (pa_cons (pv 8) pa_nil)))))))))), ?_⟩
    obtain ⟨c0, hc0, hcn⟩ := hP.cells
    refine ⟨⟨_, rfl⟩, _, rfl, p, 7, n, rfl, by decide, by decide, hP, by omega, fun r H1 r0 r1 P1 F1 => ?_⟩
    have hc1 := F1.ce c0 hc0
    have hc0n : ∀ (G : Hp), Frm p H G → ∀ d, G d = none → c0 ≠ d := fun G FG d hd e => by
      obtain ⟨c1, ns1, k1, l1, hp1, hcs, _⟩ := hP
      obtain rfl := hc0.inj hp1
      have := FG _ _ hcs (ne_of hcs hp1 (by intro z; cases z))
      rw [e, hd] at this
      cases this
    refine ⟨r, rfl, by omega, by omega, fun d hd => ?_⟩
    have ncd : c0 ≠ d := hc0n H1 F1 d hd
    refine lc_range (lo := 0) (n := r.toNat) (fun i G => ∃ cs : List Nat, cs.length = i ∧ (∀ c ∈ cs, c ∈ tl letters) ∧ G d = some (.lst ((cs.map ch).map V.str)) ∧ Pen G p (n + 1 + i) ∧ Frm p H1 G)
      ⟨[], rfl, (fun _ z => nomatch z), upd_same, P1.new hd, Frm.new hd⟩ ?_ ?_
    · rintro i G hi ⟨cs, lc, hcs, hD, PG, FG⟩
      refine ⟨rfl, yesT ?_⟩
      refine ⟨_, rfl, _, rfl, p, letters, _, rfl, by decide, by decide, PG, by omega, fun c G2 hc P2 F2 => ?_⟩
      have hD2 := F2.lst PG hD
      have FF := FG.trans F2
      refine ⟨_, hD2, small1000 (by rw [List.length_map, List.length_map]; omega), cs ++ [c], by rw [List.length_append, lc]; rfl, fun x hx => ?_, ?_, (P2.put (FF.ce c0 hc1) hD2 ncd).mono (by omega), FF.putNew hd hD2⟩
      · rcases List.mem_append.mp hx with k | k
        · exact hcs x k
        · rw [List.mem_singleton.mp k]; exact hc
      · rw [upd_same, List.map_append, List.map_append]
        rfl
    · rintro G ⟨cs, lc, hcs, hD, PG, FG⟩
      have l0 : ("" : Str).length = 0 := by decide
      refine ⟨_, d, cs.map ch, rfl, rfl, .inl (.inl (.inl hD)), ?_, ?_⟩
      · have := sum_le (cs.map ch) 1 (fun w hw => by
          obtain ⟨c, _, rfl⟩ := List.mem_map.mp hw
          exact Nat.le_refl 1)
        rw [List.length_map] at this ⊢
        rw [l0]
        omega
      generalize hstem : Txt.join (Str.ofString "") (cs.map ch) = stem
      have tls : tl stem = cs := by rw [← hstem]; exact tl_join0 cs
      have lens : stem.length = cs.length := by rw [TL.len_tl, tls]
      have l7 : stem.length ≤ 7 := by omega
      have azs : ∀ x ∈ tl stem, 97 ≤ x ∧ x ≤ 122 := fun x hx => let_az (hcs x (by rw [← tls]; exact hx))
      have FH := F1.trans FG
      clear hD hd hstem tls FG ncd
      refine ⟨_, rfl, _, rfl, stem, rfl, sz1 (by omega), _, _, rfl, rfl, p, _, _, rfl, by omega, ?_, PG, by omega, fun a0 H2 a00 a01 P2 F2 => ?_⟩
      · exact Nat.lt_of_le_of_lt (show (((stem.length : Nat) : Int) + 1).natAbs ≤ 20 by omega) (by decide)
      obtain ⟨a, rfl⟩ : ∃ a : Nat, a0 = (a : Int) := ⟨a0.toNat, by omega⟩
      refine ⟨_, rfl, p, 26, _, rfl, by decide, by decide, P2, by omega, fun front H3 f0 _ P3 F3 => ⟨_, _, rfl, ?_⟩⟩
      refine ⟨_, rfl, by show 6 ≤ sizeLine; decide, fun l nl => ?_⟩
      refine ⟨p, l, stepsL.map V.int, _, rfl, .inl (.inl upd_same), by show 0 < 6; decide, by show 6 ≤ 1000; decide, P3.new nl, by omega, fun v H4 hv P4 F4 => ?_⟩
      obtain ⟨step, hs, rfl⟩ := List.mem_map.mp hv
      have FH4 := ((FH.trans F2).trans F3).trans ((Frm.new (o := .lst (stepsL.map V.int)) nl).trans F4)
      clear F4 hv F3 nl F2 FH
      have sb : -200 ≤ step ∧ step ≤ 200 := by
        unfold stepsL at hs
        simp only [List.mem_cons, List.not_mem_nil, or_false] at hs
        omega
      refine ⟨Nat.zero_le _, fun o no => ?_⟩
      have nco : c0 ≠ o := hc0n H4 FH4 o no
      have P5 := P4.new (o := .lst []) no
      have F5 := FH4.trans (Frm.new (o := .lst []) no)
      have ho5 : (upd H4 o (.lst [])) o = some (.lst []) := upd_same
      have noH : H o = none := by
        cases hx : H o with
        | none => rfl
        | some u =>
          exfalso
          by_cases ep : o = p
          · obtain ⟨kvs, hp⟩ := P4.dict
            rw [ep, hp] at no
            cases no
          · have := FH4 _ _ hx ep
            rw [this] at no
            cases no
      generalize upd H4 o (.lst []) = H5 at P5 F5 ho5
      refine ⟨_, rfl, m, rfl, by omega, by omega, for_range (lo := 0) (n := ((m : Nat) : Int).toNat) (fun i σ G => ∃ s3 s9, σ = [some (.ref p), some (.int (m : Nat)), some (.str letters), s3, some (.str stem), some (.int (a : Int)), some (.int front), some (.int step), some (.ref o), s9] ∧ G o = some (.lst (((List.range i).map fun k => wordAt stem a (own front step k)).map V.str)) ∧ Pen G p (n + 1 + cs.length + 1 + 1 + 1) ∧ Frm p H G)
        ⟨_, _, rfl, ho5, P5.mono (by omega), F5⟩ ?_ ?_⟩
      · rintro i σ G hi ⟨s3, s9, rfl, hG, PG2, FG⟩
        have hi4 : i < 4 := by omega
        have mb := mod_bd (front + step * (0 + (i : Int))) 26 (by decide)
        have hat : atI (tl letters) ((front + step * (0 + (i : Int))) % 26) = some (own front step i) := by
          have := atI_nat (let_at (j := ((front + step * (0 + (i : Int))) % 26).toNat) (by omega))
          rw [Int.toNat_of_nonneg mb.1] at this
          rw [this]
          unfold own
          rw [Int.zero_add]
        refine ⟨_, rfl, _, rfl, _, rfl, _, rfl, _, _, rfl, rfl, .inl (by constructor <;> omega), _, _, rfl, rfl, .inl ⟨_, rfl, _, _, rfl, rfl, (by show (0 : Int) < 26; decide), letters, _, own front step i, rfl, rfl, by decide, hat, ?_⟩⟩
        have la := cutS_length stem none (some (a : Int))
        have lb := cutS_length stem (some (a : Int)) none
        have lm : (((List.range i).map fun k => wordAt stem a (own front step k)).map V.str).length = i := by rw [List.length_map, List.length_map, List.length_range]
        refine ⟨_, rfl, .inl ⟨rfl, _, .inl (.inl hG)⟩, _, rfl, _, rfl, _, rfl, stem, rfl, sz1 (by omega), _, rfl, _, _, rfl, rfl, sz1 ?_, _, rfl, _, rfl, _, rfl, stem, rfl, sz1 (by omega), _, _, rfl, rfl, sz1 ?_, o, _, _, rfl, rfl, hG, small1000 (by rw [lm]; omega), ?_⟩
        · show (cutS stem none (some (a : Int))).length + 1 ≤ 20000
          omega
        · rw [len_app]
          show (cutS stem none (some (a : Int))).length + 1 + _ ≤ 20000
          omega
        · refine ⟨_, _, rfl, ?_, PG2.put (FG.ce c0 hc0) hG nco, FG.putNew noH hG⟩
          rw [upd_same, List.range_succ, List.map_append, List.map_append]
          rfl
      · rintro σ G ⟨s3, s9, rfl, hG, PG2, FG⟩
        have em : ((m : Nat) : Int).toNat = m := Int.toNat_natCast m
        rw [em] at hG
        have hWd : ∀ w ∈ (List.range m).map fun k => wordAt stem a (own front step k), Word w := fun w hw => by
          obtain ⟨k, hk, rfl⟩ := List.mem_map.mp hw
          have mb := mod_bd (front + step * (k : Int)) 26 (by decide)
          exact word_ok l7 azs (by unfold own; omega)
        refine ⟨_, rfl, _, rfl, p, o, (List.range m).map fun k => wordAt stem a (own front step k), _, rfl, .inl (.inl hG), fun w hw => word_smallW (hWd w hw), by rw [List.length_map, List.length_range]; omega, PG2, by omega, fun o2 M H7 no2 ho2 hperm P7 F7 => ?_⟩
        have FA := FG.trans F7
        refine q o2 M H7 ?_ ho2 (by rw [hperm.length_eq, List.length_map, List.length_range]) (fun w hw => hWd w (hperm.mem_iff.mp hw)) ?_ (P7.mono (by omega)) FA
        · cases hx : H o2 with
          | none => rfl
          | some u =>
            exfalso
            by_cases ep : o2 = p
            · obtain ⟨kvs, hp⟩ := PG2.dict
              rw [ep, hp] at no2
              cases no2
            · have := FG _ _ hx ep
              rw [this] at no2
              cases no2
        · have hpw : ((List.range m).map fun k => wordAt stem a (own front step k)).Pairwise (· ≠ ·) := by
            refine List.pairwise_map.mpr ?_
            refine List.Pairwise.imp_of_mem (fun {x y} hx hy hxy e => ?_) (List.pairwise_lt_range (n := m))
            have hy4 := List.mem_range.mp hy
            exact own_ne f0 hs hxy (by omega) (word_inj e)
          exact (hperm.symm.pairwise hpw) (fun {x y} h e => h e.symm)
end
end OR

namespace OR
open PySem PySem.Spec PyProof.Rows L2
open TL (tl numL)
def spFar : Sp := fun vs H Q _ => ∃ (p : Addr) (m : Int) (n : Nat), vs = [.ref p, .int m] ∧ 0 < m ∧ m.natAbs < 2 ^ 200 ∧ Pen H p n ∧ n ≤ 900000 ∧ ∀ (r : Int) (H' : Hp), 0 ≤ r → r < m → Pen H' p (n + 10) → Frm p H H' → Q (.int r) H'
section
variable {P : Program} {w : World} {K : PySem.W.Frag} {mg : Str → Option Value} {base : Heap}
theorem scFar : FnScope ["_law_pen_here", "_law_many", "_law_way", "_law_number", "_law_k"] ["_law_pen_here", "_law_many"] (defScope sFar) := ⟨rfl, rfl, rfl, by decide +kernel, rfl, by decide +kernel, by decide +kernel⟩
theorem ok_far {f : Addr} {fd : FuncData} (F : Fun K "_law_far" "_law_far" sFar f fd) (B : Bd mg) (D : Cl P w K mg base 1 "_law_draw" ["_law_pen_here", "_law_many"] spDraw) : FnOk P w K mg base CX0 2 f fd ["_law_pen_here", "_law_many"] spFar := by
  refine F.ok scFar (fun vs H Q E h => ?_) (fun cdv A outer s H vs Q E hr h => ?_)
  · obtain ⟨_, _, _, rfl, _⟩ := h; rfl
  · obtain ⟨p, m, n, rfl, hm, hmb, hP, hn, q⟩ := h
    have nd := scFar.nd
    refine ⟨_, pss_cons (ps_set (i := 2) nd rfl (.inl rfl) (pe_cl D hr (by decide) (by rfl) (pa_cons (pv 0) (pa_cons pe_int pa_nil))))
      (pss_cons (ps_if (pt_cmpR op_eq (pv 2) pe_int (nomark _)) (pss_one (ps_ret (pe_callB (call_min2 rfl) (by rfl) B.min bt_min (pa_cons (pe_op op_sub (pv 1) pe_int) (pa_cons (pe_cl D hr (by decide) (by rfl) (pa_cons (pv 0) (pa_cons pe_int pa_nil))) pa_nil))))) pss_nil)
      (pss_cons (ps_if (pt_cmpR op_eq (pv 2) pe_int (nomark _)) (pss_one (ps_ret (pe_callB (call_max2 rfl) (by rfl) B.max bt_max (pa_cons pe_int (pa_cons (pe_op op_sub (pe_op op_sub (pv 1) pe_int) (pe_cl D hr (by decide) (by rfl) (pa_cons (pv 0) (pa_cons pe_int pa_nil)))) pa_nil))))) pss_nil)
      (pss_cons (ps_set (i := 3) nd rfl (.inl rfl) pe_int)
      (pss_cons (ps_for PassesOwn.never rfl (pi_range1 (by rfl) B.range (pa_cons pe_int pa_nil)) (pg_name (i := 4) nd rfl (.inl rfl))
        (pss_one (ps_set (i := 3) nd rfl (.inl rfl) (pe_op op_add (pe_op op_mul (pv 3) pe_int) (pe_cl D hr (by decide) (by rfl) (pa_cons (pv 0) (pa_cons pe_int pa_nil)))))))
      (pss_one (ps_ret (pe_op op_mod (pe_callTy call_int1 (by rfl) B.int bt_int (pa_cons (pv 3) pa_nil)) (pv 1)))))))), ?_⟩
    refine ⟨_, rfl, p, 4, n, rfl, by decide, by decide, hP, by omega, fun r H1 r0 r1 P1 F1 => ?_⟩
    refine ⟨_, rfl, rfl, _, rfl, ite2 (fun _ => ?_) (fun _ => ?_)⟩
    · refine ⟨_, rfl, _, _, rfl, rfl, _, rfl, p, 7, _, rfl, by decide, by decide, P1, by omega, fun d H2 d0 d1 P2 F2 => ?_⟩
      refine ⟨_, _, rfl, ?_⟩
      split
      · exact q _ H2 (by omega) (by omega) (P2.mono (by omega)) (F1.trans F2)
      · exact q _ H2 (by omega) (by omega) (P2.mono (by omega)) (F1.trans F2)
    · refine ⟨_, rfl, rfl, _, rfl, ite2 (fun _ => ?_) (fun _ => ?_)⟩
      · refine ⟨_, rfl, _, _, rfl, rfl, _, rfl, p, 7, _, rfl, by decide, by decide, P1, by omega, fun d H2 d0 d1 P2 F2 => ?_⟩
        refine ⟨_, _, rfl, rfl, _, _, rfl, ?_⟩
        split
        · exact q _ H2 (by omega) (by omega) (P2.mono (by omega)) (F1.trans F2)
        · exact q _ H2 (by omega) (by omega) (P2.mono (by omega)) (F1.trans F2)
      · refine ⟨6, rfl, by decide, by decide, for_range (lo := 0) (n := 6) (fun i σ G => ∃ (x : Int) (s4 : Option V), σ = [some (.ref p), some (.int m), some (.int r), some (.int x), s4] ∧ Pen G p (n + 1 + i) ∧ Frm p H G) ⟨0, none, rfl, P1, F1⟩ ?_ ?_⟩
        · rintro i σ G hi ⟨x, s4, rfl, PG, FG⟩
          refine ⟨_, rfl, _, _, rfl, rfl, .inr ⟨by decide, by decide⟩, _, rfl, p, 999983, _, rfl, by decide, by decide, PG, by omega, fun d H2 d0 d1 P2 F2 => ?_⟩
          exact ⟨_, _, rfl, rfl, _, _, rfl, P2, FG.trans F2⟩
        · rintro σ G ⟨x, s4, rfl, PG, FG⟩
          refine ⟨_, rfl, .inl ⟨_, rfl, _, rfl, _, _, rfl, rfl, hm, ?_⟩⟩
          exact q _ G (mod_bd _ m hm).1 (mod_bd _ m hm).2 (PG.mono (by omega)) FG
end
end OR

namespace OR
open PySem PySem.Spec PyProof.Rows L2
open TL (tl numL)
theorem Nf.snoc {l : List Row} {a b : Int} (h : Nf l) (hb : ∀ r ∈ l, r.2 + 2 ≤ a) (hab : a ≤ b) : Nf (l ++ [(a, b)]) := by
  refine ⟨fun r hr => ?_, List.pairwise_append.mpr ⟨h.gap, List.pairwise_singleton _ _, fun r hr s hs => ?_⟩⟩
  · rcases List.mem_append.mp hr with k | k
    · exact h.ok r k
    · rw [List.mem_singleton.mp k]; exact hab
  · rw [List.mem_singleton.mp hs]
    have := hb r hr
    show r.2 + 1 < a
    omega
def TAt (H : Hp) (L : List ARow) : Prop := ∀ q ∈ L, H q.1 = some (.tup [.int q.2.1, .int q.2.2])
theorem TAt.frm {H H' : Hp} {L : List ARow} {p : Addr} {n : Nat} (h : TAt H L) (f : Frm p H H') (P : Pen H p n) : TAt H' L := fun q hq => by
  obtain ⟨kvs, hp⟩ := P.dict
  exact f _ _ (h q hq) (ne_of (h q hq) hp (by intro z; cases z))
theorem TAt.pairs {H : Hp} {L : List ARow} (h : TAt H L) : PairsAt H L := fun q hq => .inl (h q hq)
def spFarStr : Sp := fun vs H Q _ => ∃ (p : Addr) (n : Nat), vs = [.ref p] ∧ Pen H p n ∧ n ≤ 700000 ∧
  ∀ (g : Addr) (L : List ARow) (H' : Hp), H g = none → H' g = some (.lst (refs L)) → TAt H' L → Nf (rws L) → (∀ r ∈ rws L, okRow r = true) → L.length ≤ 3 → Pen H' p (n + 100) → Frm p H H' → Q (.ref g) H'
theorem pickI {H0 : Hp} {a b c : Int} {r : Int} {v : V} (h : v ∈ [V.int a, .int b, .int c, .int r]) : ∃ x : Int, v = .int x ∧ (x = a ∨ x = b ∨ x = c ∨ x = r) := by
  simp only [List.mem_cons, List.not_mem_nil, or_false] at h
  rcases h with e | e | e | e
  · exact ⟨a, e, .inl rfl⟩
  · exact ⟨b, e, .inr (.inl rfl)⟩
  · exact ⟨c, e, .inr (.inr (.inl rfl))⟩
  · exact ⟨r, e, .inr (.inr (.inr rfl))⟩
section
variable {P : Program} {w : World} {K : PySem.W.Frag} {mg : Str → Option Value} {base : Heap}
theorem scFS : FnScope ["_law_pen_here", "_law_gained", "_law_low", "_law_k", "_law_first", "_law_end"] ["_law_pen_here"] (defScope sFarStr) := ⟨rfl, rfl, rfl, by decide +kernel, rfl, by decide +kernel, by decide +kernel⟩
theorem ok_farstr {f : Addr} {fd : FuncData} (F : Fun K "_law_far_stretches" "_law_far_stretches" sFarStr f fd) (B : Bd mg) (D : Cl P w K mg base 1 "_law_draw" ["_law_pen_here", "_law_many"] spDraw) (PI : Cl P w K mg base 2 "_law_pick" ["_law_pen_here", "_law_items"] (spPick K))
    (FA : Cl P w K mg base 2 "_law_far" ["_law_pen_here", "_law_many"] spFar) : FnOk P w K mg base CX0 3 f fd ["_law_pen_here"] spFarStr := by
  refine F.ok scFS (fun vs H Q E h => ?_) (fun cdv A outer s H vs Q E hr h => ?_)
  · obtain ⟨_, _, rfl, _⟩ := h; rfl
  · obtain ⟨p, n, rfl, hP, hn, q⟩ := h
    have nd := scFS.nd
    refine ⟨_, pss_cons (ps_par (i := 1) (j := 2) rfl nd rfl rfl (by decide) rfl rfl (pa_cons (pe_lst pa_nil) (pa_cons pe_int pa_nil)) rfl)
      (pss_cons (ps_for PassesOwn.never rfl (pi_range1 (by rfl) B.range (pa_cons (pe_cl D hr (by decide) (by rfl) (pa_cons (pv 0) (pa_cons pe_int pa_nil))) pa_nil)) (pg_name (i := 3) nd rfl (.inl rfl))
        (pss_cons (ps_set (i := 4) nd rfl (.inl rfl) (pe_op op_add (pv 2) (pe_cl PI hr (by decide) (by rfl) (pa_cons (pv 0) (pa_cons (pe_lst (pa_cons pe_int (pa_cons pe_int (pa_cons pe_int (pa_cons (pe_cl FA hr (by decide) (by rfl) (pa_cons (pv 0) (pa_cons (pe_op op_pow pe_int pe_int) pa_nil))) pa_nil))))) pa_nil)))))
        (pss_cons (ps_set (i := 5) nd rfl (.inl rfl) (pe_op op_add (pv 4) (pe_cl PI hr (by decide) (by rfl) (pa_cons (pv 0) (pa_cons (pe_lst (pa_cons pe_int (pa_cons pe_int (pa_cons pe_int (pa_cons (pe_cl FA hr (by decide) (by rfl) (pa_cons (pv 0) (pa_cons (pe_op op_pow pe_int pe_int) pa_nil))) pa_nil))))) pa_nil)))))
        (pss_cons (ps_expr (pe_bm PySem.F.plainAttrs_list PySem.F.slot_list_append PySem.F.type_list_append mt_append (pv 1) (pa_cons (pe_tup (pa_cons (pv 4) (pa_cons (pv 5) pa_nil))) pa_nil)))
        (pss_one (ps_set (i := 2) nd rfl (.inl rfl) (pe_op op_add (pv 5) pe_int)))))))
      (pss_one (ps_ret (pv 1)))), ?_⟩
    obtain ⟨c0, hc0, hcn⟩ := hP.cells
    refine ⟨Nat.zero_le _, fun g ng => ⟨_, _, rfl, ?_⟩⟩
    have ncg : c0 ≠ g := fun e => hcn (by rw [e]; exact ng)
    have s1 : Same H _ := same_lay (o := .lst []) ng
    refine ⟨_, rfl, p, 4, n, rfl, by decide, by decide, hP.same' s1, by omega, fun r H1 r0 r1 P1 F1 => ?_⟩
    have FH := (frmS (p := p) s1).trans F1
    have hg1 := F1.lst (hP.same' s1) upd_same
    refine ⟨r, rfl, by omega, by omega, for_range (lo := 0) (n := r.toNat) (fun i σ G => ∃ (L : List ARow) (low : Int) (s3 s4 s5 : Option V), σ = [some (.ref p), some (.ref g), some (.int low), s3, s4, s5] ∧ G g = some (.lst (refs L)) ∧ TAt G L ∧ Nf (rws L) ∧
        (∀ x ∈ rws L, 0 ≤ x.1 ∧ x.2 + 2 ≤ low) ∧ L.length = i ∧ 0 ≤ low ∧ low ≤ (i : Int) * (2 * 10 ^ 29 + 2) ∧ Pen G p (n + 1 + 22 * i) ∧ Frm p H G)
      ⟨[], 0, none, none, none, rfl, hg1, (fun _ z => nomatch z), Nf.nil, (fun _ z => nomatch z), rfl, by decide, by decide, P1, FH⟩ ?_ ?_⟩
    · rintro i σ G hi ⟨L, low, s3, s4, s5, rfl, hg, hPA, hN, hB, hl, l0, l1, PG, FG⟩
      have hpow : CPow 10 29 := ⟨by decide, by decide, by decide⟩
      refine ⟨_, rfl, _, rfl, _, rfl, _, _, rfl, rfl, hpow, p, _, _, rfl, by decide +kernel, by decide +kernel, PG, by omega, fun r2 H2 a0 a1 P2 F2 => ?_⟩
      refine ⟨by show 4 ≤ sizeLine; decide, fun e1 ne1 => ⟨p, e1, _, _, rfl, .inl (.inl upd_same), Nat.succ_pos _, by show 4 ≤ 1000; decide, P2.new ne1, by omega, fun v H3 hv P3 F3 => ?_⟩⟩
      obtain ⟨x, rfl, hx⟩ := pickI (H0 := H) hv
      have a1' : r2 < 10 ^ 29 := a1
      have x0 : 0 ≤ x ∧ x < 10 ^ 29 := by
        rcases hx with e | e | e | e <;> rw [e] <;> constructor <;> first | decide | omega
      refine ⟨_, _, rfl, rfl, ?_⟩
      have F12 := (F2.trans (Frm.new (o := .lst [.int 0, .int 1, .int 7, .int r2]) ne1)).trans F3
      refine ⟨_, rfl, _, rfl, _, rfl, _, _, rfl, rfl, hpow, p, _, _, rfl, by decide +kernel, by decide +kernel, P3, by omega, fun r3 H4 b0 b1 P4 F4 => ?_⟩
      refine ⟨by show 4 ≤ sizeLine; decide, fun e2 ne2 => ⟨p, e2, _, _, rfl, .inl (.inl upd_same), Nat.succ_pos _, by show 4 ≤ 1000; decide, P4.new ne2, by omega, fun v H5 hv P5 F5 => ?_⟩⟩
      obtain ⟨y, rfl, hy⟩ := pickI (H0 := H) hv
      have b1' : r3 < 10 ^ 29 := b1
      have y0 : 0 ≤ y ∧ y < 10 ^ 29 := by
        rcases hy with e | e | e | e <;> rw [e] <;> constructor <;> first | decide | omega
      refine ⟨_, _, rfl, rfl, ?_⟩
      have F34 := F12.trans ((F4.trans (Frm.new (o := .lst [.int 0, .int 1, .int 4, .int r3]) ne2)).trans F5)
      have hg5 := F34.lst PG hg
      have hPA5 := hPA.frm F34 PG
      refine ⟨_, rfl, .inl ⟨rfl, _, .inl (.inl hg5)⟩, _, rfl, _, rfl, by show 2 ≤ sizeLine; decide, fun t nt => ?_⟩
      have st := same_lay (o := .tup [.int (low + x), .int (low + x + y)]) nt
      have hg6 := st _ _ hg5
      have ngt : g ≠ t := ne_of_none hg5 nt
      have FG5 := FG.trans F34
      have FG6 := FG5.trans (frmS st)
      refine ⟨g, _, _, rfl, rfl, hg6, small1000 (by rw [refs_len]; omega), ?_⟩
      refine ⟨_, rfl, _, _, rfl, rfl, L ++ [(t, (low + x, low + x + y))], low + x + y + 2, _, _, _, rfl, by rw [upd_same, refs_snoc], fun z hz => ?_, ?_, fun z hz => ?_, by rw [List.length_append, hl]; rfl, by omega, ?_, ((P5.same' st).put (FG6.ce c0 hc0) hg6 ncg).mono (by omega), FG6.putNew ng hg6⟩
      · rcases List.mem_append.mp hz with k | k
        · have e6 := st _ _ (hPA5 z k)
          rw [upd_ne (ne_of e6 hg6 (by intro z; cases z))]
          exact e6
        · rw [List.mem_singleton.mp k]
          rw [upd_ne (Ne.symm ngt), upd_same]
      · rw [rws_snoc]
        exact hN.snoc (fun z hz => by have := (hB z hz).2; omega) (by omega)
      · rw [rws_snoc] at hz
        rcases List.mem_append.mp hz with k | k
        · have := hB z k
          constructor <;> omega
        · rw [List.mem_singleton.mp k]
          show 0 ≤ low + x ∧ low + x + y + 2 ≤ low + x + y + 2
          constructor <;> omega
      · have e1 : ((i + 1 : Nat) : Int) = (i : Int) + 1 := by omega
        rw [e1, Int.add_mul, Int.one_mul]
        omega
    · rintro σ G ⟨L, low, s3, s4, s5, rfl, hg, hPA, hN, hB, hl, l0, l1, PG, FG⟩
      refine ⟨_, rfl, q g L _ ng hg hPA hN (fun x hx => ?_) (by omega) (PG.mono (by omega)) FG⟩
      obtain ⟨b1, b2⟩ := hB x hx
      have b3 := hN.ok x hx
      have : (r.toNat : Int) ≤ 3 := by omega
      have : low ≤ 3 * (2 * 10 ^ 29 + 2) := by omega
      have eL : lastP = 10 ^ 30 := rfl
      exact okRow_of b1 b3 (by omega)
end
end OR

namespace OR
open PySem PySem.Spec PyProof.Rows L2
open TL (tl numL)
def spPT (K : PySem.W.Frag) : Sp := fun vs H Q _ => ∃ (g : Addr) (L : List ARow), vs = [.ref g] ∧ H g = some (.lst (refs L)) ∧ TAt H L ∧ (∀ r ∈ rws L, okRow r = true) ∧ L.length ≤ 100 ∧ ∀ H', Same H H' → Q (.str (textOf (rws L))) H'
theorem TAt.same {H H' : Hp} {L : List ARow} (h : TAt H L) (s : Same H H') : TAt H' L := fun q hq => s _ _ (h q hq)
section
variable {P : Program} {w : World} {K : PySem.W.Frag} {mg : Str → Option Value} {base : Heap}
theorem scLT : FnScope ["_law_stretches", "_law_low", "_law_high"] ["_law_stretches"] (defScope sPlText90) := ⟨rfl, rfl, rfl, by decide +kernel, rfl, by decide +kernel, by decide +kernel⟩
theorem ok_pt {f : Addr} {fd : FuncData} (F : Fun K "_law_places_text" "_law_places_text" sPlText90 f fd) (zS : mg "str" = none) : FnOk P w K mg base CX0 1 f fd ["_law_stretches"] (spPT K) := by
  refine F.ok scLT (fun vs H Q E h => ?_) (fun cdv A outer s H vs Q E hr h => ?_)
  · obtain ⟨_, _, rfl, _⟩ := h; rfl
  · obtain ⟨g, L, rfl, hg, hT, hok, hl, q⟩ := h
    have nd := scLT.nd
    have hu64 : (A.deeper (envOfC "_law_places_text" (defScope sPlText90) s.heap.objs.size f cdv)).units + 64 < cLine := hr.units
    refine ⟨_, pss_cons (ps_if (pt_cmpR (op_eqD hu64) (pv 0) (pe_lst pa_nil) (nomark _)) (pss_one (ps_ret pe_str)) pss_nil)
      (pss_one (ps_ret (pe_join pe_str (pe_lc (own := [("_law_low", 1), ("_law_high", 2)]) (g := gTup K 2 (gCons (gName 1) (gCons (gName 2) gNil))) (tt := tYes) rfl nd (pi_list (pv 0)) (blkOk_by (N := ["_law_stretches", "_law_low", "_law_high"]) (sc := defScope sPlText90) (by decide +kernel))
        (fun _ _ _ _ _ => pg_tup rfl (pgs_cons (pg_name (i := 1) nd rfl (.inl rfl)) (pgs_cons (pg_name (i := 2) nd rfl (.inl rfl)) pgs_nil))) (fun _ _ _ _ _ => pts_nil)
        (fun _ _ _ _ _ => pe_ifExp (pt_cmpR op_eq (pv 1) (pv 2) (nomark _)) (pe_callTy call_str_int (by rfl) zS boot_strT (pa_cons (pv 1) pa_nil))
          (pe_op op_add_str (pe_op op_add_str (pe_callTy call_str_int (by rfl) zS boot_strT (pa_cons (pv 1) pa_nil)) pe_str) (pe_callTy call_str_int (by rfl) zS boot_strT (pa_cons (pv 2) pa_nil)))))))), ?_⟩
    refine ⟨_, rfl, Nat.zero_le _, fun e ne => ?_⟩
    have se := same_lay (o := .lst []) ne
    obtain ⟨ds, hd1, hd2, hd3, hd4⟩ := dp_pairs (K := K) (hT.same se).pairs
    have hg1 := se _ _ hg
    refine ⟨.list ds, .list [], .lst (.inl (.inl hg1)) hd1, .lst (.inl (.inl upd_same)) .nil, shp_of hd2 hd3, rfl, _, rfl, ite2 (fun hne => ?_) (fun hne => ?_)⟩
    · have h0 : rws L = [] := by
        cases L with
        | nil => rfl
        | cons _ _ =>
          cases ds with
          | nil => cases hd4
          | cons _ _ => exact absurd hne (by show ¬ (false = true); decide)
      have q1 := q _ se
      unfold textOf at q1
      rw [if_pos h0] at q1
      exact q1
    · have h0 : rws L ≠ [] := by
        cases L with
        | nil =>
          have : ds = [] := List.length_eq_zero_iff.mp hd4
          rw [this] at hne
          exact absurd rfl hne
        | cons _ _ => simp [rws]
      refine ⟨⟨_, rfl⟩, _, rfl, g, rfl, ⟨_, .inl (.inl hg1)⟩, fun D hD => lc_list (K := K) (a := g) (xs := refs L) (fun i G => G D = some (.lst ((((rws L).take i).map sT).map V.str)) ∧ Same (upd H e (.lst [])) G)
        ⟨upd_same, same_lay hD⟩ (fun i G _ ⟨_, s⟩ => .inl (.inl (s _ _ hg1))) ?_ ?_⟩
      · rintro i y G hy ⟨hD2, sG⟩
        obtain ⟨z, hz, hzM, rfl⟩ := refs_get hy
        have hil : i < L.length := (List.getElem?_eq_some_iff.mp hz).1
        have ez := (hT.same se).same sG z hzM
        have e1' : (rws L).take (i + 1) = (rws L).take i ++ [z.2] := by rw [List.take_add_one, rws_get hz]; rfl
        have okz := hok z.2 (mem_rws.mpr ⟨z.1, hzM⟩)
        obtain ⟨h1, h2, h3⟩ := okRow_iff okz
        have l1 := xl (x := z.2.1) (by omega) (by omega)
        have l2 := xl (x := z.2.2) (by omega) (by omega)
        refine ⟨z.1, _, rfl, .inl (.inl ez), rfl, _, _, rfl, _, _, rfl, rfl, rfl, yesT ?_⟩
        have hs : ∀ u : Str, u = sT z.2 → ∃ xs, G D = some (.lst xs) ∧ xs.length < sizeLine ∧ (upd G D (.lst (xs ++ [.str u]))) D = some (.lst ((((rws L).take (i + 1)).map sT).map V.str)) ∧ Same (upd H e (.lst [])) (upd G D (.lst (xs ++ [.str u]))) := fun u eu => by
          refine ⟨_, hD2, small1000 ?_, ?_, same_upd sG hD⟩
          · rw [List.length_map, List.length_map, List.length_take, rws_len]
            omega
          · rw [upd_same, e1', List.map_append, List.map_append, eu]
            rfl
        refine ⟨_, rfl, _, rfl, rfl, _, rfl, ite2 (fun ee => ?_) (fun ee => ?_)⟩
        · have e1 : z.2.1 = z.2.2 := V.int.inj (of_decide_eq_true ee)
          exact ⟨_, rfl, z.2.1, rfl, dlog (by omega) (by omega), hs _ (by unfold sT; rw [if_pos e1]; rfl)⟩
        · have e1 : ¬ z.2.1 = z.2.2 := fun k => ee (decide_eq_true (by rw [k]))
          refine ⟨_, rfl, z.2.1, rfl, dlog (by omega) (by omega), _, _, rfl, rfl, sz1 ?_, _, rfl, z.2.2, rfl, dlog (by omega) (by omega), _, _, rfl, rfl, sz1 ?_, hs _ (by unfold sT; rw [if_neg e1]; rfl)⟩
          · show (dT z.2.1).length + 1 ≤ 20000
            omega
          · rw [len_app]
            show (dT z.2.1).length + 1 + (dT z.2.2).length ≤ 20000
            omega
      · rintro G ⟨hD2, sG⟩
        rw [refs_len, List.take_of_length_le (by rw [rws_len]; exact Nat.le_refl _)] at hD2
        refine ⟨_, D, (rws L).map sT, rfl, rfl, .inl (.inl (.inl hD2)), ?_, ?_⟩
        · have h1 := sum_le ((rws L).map sT) 100 (fun w hw => by
            obtain ⟨r, hr', e⟩ := List.mem_map.mp hw
            rw [← e]
            exact Nat.le_trans (sT_len (hok r hr')) (by decide))
          have h2 : (" " : Str).length = 1 := by decide
          rw [List.length_map, rws_len] at h1
          rw [List.length_map, rws_len, h2]
          omega
        · have q1 := q G (se.trans sG)
          unfold textOf at q1
          rw [if_neg h0] at q1
          exact q1
end
end OR

namespace OR
open PySem PySem.Spec PyProof.Rows L2
open TL (tl numL)
def termT (r : Bool) (a b : Int) : Str := if r = true then addT (lineT a b) else lineT a b
def spTerm : Sp := fun vs H Q _ => ∃ (a b : Int) (r : Bool), vs = [.int a, .int b, .bl r] ∧ Num a ∧ Num b ∧ Q (.str (termT r a b)) H
def bodyT (a b : Int) : Str := if a = 0 then dT (absI b) else if absI a = 1 then ("x" : Str) else dT (absI a) ++ (" x" : Str)
def moreT (a b : Int) : Str := if a = 0 ∨ b = 0 then ("" : Str) else (if 0 < b then (" + " : Str) else (" - " : Str)) ++ dT (absI b)
def firstI (a b : Int) : Int := if a = 0 then b else a
theorem body_more {a b : Int} (h : ¬ (a = 0 ∧ b = 0)) : jn (absWords a b) = bodyT a b ++ moreT a b := by
  unfold absWords bodyT moreT
  by_cases ha : a = 0
  · rw [if_pos ha, if_pos ha, if_pos (show a = 0 ∨ b = 0 from .inl ha), jn_one]
    exact str_ext (by rw [TL.tl_append]; show _ = _ ++ []; rw [List.append_nil])
  · rw [if_neg ha, if_neg ha]
    have eS : jn (slW a) = if absI a = 1 then ("x" : Str) else dT (absI a) ++ (" x" : Str) := by
      unfold slW
      split
      · exact jn_one _
      · rw [jn_cons _ (by simp), jn_one, app_assoc]
        rfl
    unfold hWords
    by_cases hb : b = 0
    · rw [if_pos hb, if_pos (show a = 0 ∨ b = 0 from .inr hb), List.append_nil, eS]
      exact str_ext (by rw [TL.tl_append]; show _ = _ ++ []; rw [List.append_nil])
    · rw [if_neg hb, if_neg (show ¬ (a = 0 ∨ b = 0) from fun z => z.elim ha hb), jn_app (slW_ne a) (by simp), eS, jn_cons _ (by simp), jn_one]
      have e : (" " : Str) ++ (((if 0 < b then ("+" : Str) else ("-" : Str)) ++ (" " : Str)) ++ dT (absI b)) = (if 0 < b then (" + " : Str) else (" - " : Str)) ++ dT (absI b) := by
        rw [← app_assoc]
        congr 1
        split <;> decide
      rw [app_assoc, e]
theorem isNeg_f (a b : Int) : isNeg a b = decide (firstI a b < 0) := by
  unfold isNeg firstI
  split <;> rfl
theorem term_false {a b : Int} (h : ¬ (a = 0 ∧ b = 0)) : ((if firstI a b < 0 then ("-" : Str) else ("" : Str)) ++ bodyT a b) ++ moreT a b = termT false a b := by
  have e : termT false a b = lineT a b := rfl
  rw [e, lineT_abs, body_more h, isNeg_f, app_assoc]
  by_cases hf : firstI a b < 0
  · rw [if_pos hf, decide_eq_true hf, if_pos rfl]
  · rw [if_neg hf, decide_eq_false hf, if_neg (show ¬ (false = true) by decide)]
theorem term_true {a b : Int} (h : ¬ (a = 0 ∧ b = 0)) : ((if firstI a b < 0 then (" - " : Str) else (" + " : Str)) ++ bodyT a b) ++ moreT a b = termT true a b := by
  have e : termT true a b = addT (lineT a b) := rfl
  rw [e, addT_jn, if_neg h]
  unfold addWords
  rw [if_neg h, jn_cons _ (absWords_ne a b), body_more h, isNeg_f]
  by_cases hf : firstI a b < 0
  · rw [if_pos hf, decide_eq_true hf, if_pos rfl, show (" - " : Str) = (" " : Str) ++ (("-" : Str) ++ (" " : Str)) by decide]
    simp only [app_assoc]
  · rw [if_neg hf, decide_eq_false hf, if_neg (show ¬ (false = true) by decide), show (" + " : Str) = (" " : Str) ++ (("+" : Str) ++ (" " : Str)) by decide]
    simp only [app_assoc]
theorem term_zero (r : Bool) : termT r 0 0 = if r = true then ("" : Str) else ("0" : Str) := by
  cases r <;> decide +kernel
theorem absI_len {a : Int} (h : Num a) : (dT (absI a)).length ≤ 90 := dT_len (absI_nn a) (by decide) (by have := absI_nat a; have := absI_nn a; unfold Num at h; omega)
theorem body_len {a b : Int} (ha : Num a) (hb : Num b) : (bodyT a b).length ≤ 92 := by
  unfold bodyT
  have h1 := absI_len ha
  have h2 := absI_len hb
  split
  · omega
  · split
    · decide
    · rw [len_app]
      show (dT (absI a)).length + 2 ≤ 92
      omega
theorem more_len {a b : Int} (hb : Num b) : (moreT a b).length ≤ 93 := by
  unfold moreT
  have h2 := absI_len hb
  split
  · decide
  · rw [len_app]
    split
    · show 3 + (dT (absI b)).length ≤ 93
      omega
    · show 3 + (dT (absI b)).length ≤ 93
      omega
theorem num_log {a : Int} (h : Num a) : a.natAbs.log2 < 1920 := dT_log (Nat.lt_of_lt_of_le h (by decide))
theorem abs_log {a : Int} (h : Num a) : (absI a).natAbs.log2 < 1920 := by rw [absI_nat]; exact num_log h
section
variable {P : Program} {w : World} {K : PySem.W.Frag} {mg : Str → Option Value} {base : Heap}
theorem scTer : FnScope ["_law_slope", "_law_height", "_law_is_rest", "_law_first", "_law_mark", "_law_body", "_law_more"] ["_law_slope", "_law_height", "_law_is_rest"] (defScope sTerm) := ⟨rfl, rfl, rfl, by decide +kernel, rfl, by decide +kernel, by decide +kernel⟩
theorem ok_term {f : Addr} {fd : FuncData} (F : Fun K "_law_term" "_law_term" sTerm f fd) (zS : mg "str" = none) (zA : mg "abs" = none) : FnOk P w K mg base CX0 1 f fd ["_law_slope", "_law_height", "_law_is_rest"] spTerm := by
  refine F.ok scTer (fun vs H Q E h => ?_) (fun cdv A outer s H vs Q E hr h => ?_)
  · obtain ⟨_, _, _, rfl, _⟩ := h; rfl
  · obtain ⟨a, b, r, rfl, ha, hb, q⟩ := h
    have nd := scTer.nd
    refine ⟨_, Evl.pss_cut (ps_if (PW.pt (pw_and (pt_cmpR op_eq (pv 0) pe_int (nomark _)) (pw_and1 (pt_cmpR op_eq (pv 1) pe_int (nomark _))))) (pss_one (ps_ret (pe_ifExp (pt_val (pv 2)) pe_str pe_str))) pss_nil)
      (Evl.pss_cut (ps_set (i := 3) nd rfl (.inl rfl) (pe_ifExp (pt_cmpR op_ne (pv 0) pe_int (nomark _)) (pv 0) (pv 1)))
      (Evl.pss_cut (ps_set (i := 4) nd rfl (.inl rfl) (pe_ifExp (pt_cmpR op_lt (pv 3) pe_int (nomark _)) pe_str pe_str))
      (pss_cons (ps_set (i := 5) nd rfl (.inl rfl) (pe_callTy call_str_int (by rfl) zS boot_strT (pa_cons (pe_callB call_abs (by rfl) zA boot_absO (pa_cons (pv 3) pa_nil)) pa_nil)))
      (Evl.pss_cut (ps_if (pt_cmpR op_ne (pv 0) pe_int (nomark _)) (pss_one (ps_set (i := 5) nd rfl (.inl rfl) (pe_ifExp (pt_cmpR op_eq (pe_callB call_abs (by rfl) zA boot_absO (pa_cons (pv 0) pa_nil)) pe_int (nomark _)) pe_str
          (pe_op op_add_str (pe_callTy call_str_int (by rfl) zS boot_strT (pa_cons (pe_callB call_abs (by rfl) zA boot_absO (pa_cons (pv 0) pa_nil)) pa_nil)) pe_str)))) pss_nil)
      (pss_cons (ps_set (i := 6) nd rfl (.inl rfl) pe_str)
      (Evl.pss_cut (ps_if (PW.pt (pw_and (pt_cmpR op_ne (pv 0) pe_int (nomark _)) (pw_and1 (pt_cmpR op_ne (pv 1) pe_int (nomark _))))) (pss_one (ps_set (i := 6) nd rfl (.inl rfl) (pe_op op_add_str (pe_ifExp (pt_cmpR op_gt (pv 1) pe_int (nomark _)) pe_str pe_str)
          (pe_callTy call_str_int (by rfl) zS boot_strT (pa_cons (pe_callB call_abs (by rfl) zA boot_absO (pa_cons (pv 1) pa_nil)) pa_nil))))) pss_nil)
      (pss_cons (ps_if (pt_val (pv 2)) (pss_one (ps_ret (pe_op op_add_str (pe_op op_add_str (pe_ifExp (pt_cmpR op_lt (pv 3) pe_int (nomark _)) pe_str pe_str) (pv 5)) (pv 6)))) pss_nil)
      (pss_one (ps_ret (pe_op op_add_str (pe_op op_add_str (pv 4) (pv 5)) (pv 6))))))))))), ?_⟩
    refine ⟨fun σ G => (¬ (a = 0 ∧ b = 0)) ∧ σ = [some (.int a), some (.int b), some (.bl r), none, none, none, none] ∧ G = H, ?_, ?_⟩
    · refine ⟨_, rfl, rfl, _, rfl, ite2 (fun e => ⟨_, rfl, rfl, _, rfl, ite2 (fun e2 => ?_) (fun e2 => ⟨fun z => e2 (decide_eq_true (by rw [z.2])), rfl, rfl⟩)⟩) (fun e => iteF ⟨fun z => e (decide_eq_true (by rw [z.1])), rfl, rfl⟩)⟩
      have ha0 : a = 0 := V.int.inj (of_decide_eq_true e)
      have hb0 : b = 0 := V.int.inj (of_decide_eq_true e2)
      subst ha0 hb0
      rw [term_zero] at q
      cases r with
      | true => exact ⟨_, rfl, true, rfl, iteT q⟩
      | false => exact ⟨_, rfl, false, rfl, iteF q⟩
    rintro σ G ⟨h0, rfl, rfl⟩
    have bl := body_len ha hb
    have ml := more_len (a := a) hb
    have hf : Num (firstI a b) := by unfold firstI; split <;> assumption
    let mk : Str := if firstI a b < 0 then ("-" : Str) else ("" : Str)
    have mkl : mk.length ≤ 1 := by show (if firstI a b < 0 then ("-" : Str) else ("" : Str)).length ≤ 1; split <;> decide
    refine ⟨fun σ G' => σ = [some (.int a), some (.int b), some (.bl r), some (.int (firstI a b)), none, none, none] ∧ G' = G, ?_, ?_⟩
    · refine ⟨_, rfl, rfl, _, rfl, ite2 (fun e => ⟨_, rfl, ?_, rfl⟩) (fun e => ⟨_, rfl, ?_, rfl⟩)⟩
      · have ha0 : a ≠ 0 := fun z => by subst z; exact absurd e (by decide)
        show _ = [some (.int a), some (.int b), some (.bl r), some (V.int (firstI a b)), none, none, none]
        unfold firstI
        rw [if_neg ha0]
        rfl
      · have ha0 : a = 0 := Decidable.byContradiction fun z => e (by rw [decide_eq_false (fun k => z (V.int.inj k))]; rfl)
        show _ = [some (.int a), some (.int b), some (.bl r), some (V.int (firstI a b)), none, none, none]
        unfold firstI
        rw [if_pos ha0]
        rfl
    rintro σ G' ⟨rfl, rfl⟩
    refine ⟨fun σ G => σ = [some (.int a), some (.int b), some (.bl r), some (.int (firstI a b)), some (.str mk), none, none] ∧ G = G', ?_, ?_⟩
    · refine ⟨_, rfl, _, _, rfl, rfl, _, rfl, ite2 (fun e => ⟨?_, rfl⟩) (fun e => ⟨?_, rfl⟩)⟩
      · have e1 : firstI a b < 0 := of_decide_eq_true e
        show _ = [some (.int a), some (.int b), some (.bl r), some (V.int (firstI a b)), some (V.str (if firstI a b < 0 then ("-" : Str) else ("" : Str))), none, none]
        rw [if_pos e1]
        rfl
      · have e1 : ¬ firstI a b < 0 := fun z => e (decide_eq_true z)
        show _ = [some (.int a), some (.int b), some (.bl r), some (V.int (firstI a b)), some (V.str (if firstI a b < 0 then ("-" : Str) else ("" : Str))), none, none]
        rw [if_neg e1]
        rfl
    rintro σ G ⟨rfl, rfl⟩
    refine ⟨_, rfl, firstI a b, rfl, _, rfl, (abs_log hf), ?_⟩
    refine ⟨fun σ G' => σ = [some (.int a), some (.int b), some (.bl r), some (.int (firstI a b)), some (.str mk), some (.str (bodyT a b)), none] ∧ G' = G, ?_, ?_⟩
    · refine ⟨_, rfl, rfl, _, rfl, ite2 (fun e => ?_) (fun e => ⟨?_, rfl⟩)⟩
      · have ha0 : a ≠ 0 := fun z => by subst z; exact absurd e (by decide)
        have eb : bodyT a b = if absI a = 1 then ("x" : Str) else dT (absI a) ++ (" x" : Str) := by unfold bodyT; rw [if_neg ha0]
        rw [eb]
        refine ⟨_, rfl, a, rfl, rfl, _, rfl, ite2 (fun e2 => ⟨?_, rfl⟩) (fun e2 => ⟨_, rfl, a, rfl, _, rfl, abs_log ha, _, _, rfl, rfl, sz1 ?_, ?_, rfl⟩)⟩
        · rw [if_pos (show absI a = 1 from V.int.inj (of_decide_eq_true e2))]
          rfl
        · show (dT (absI a)).length + 2 ≤ 20000
          have := absI_len ha
          omega
        · rw [if_neg (show ¬ absI a = 1 from fun z => e2 (decide_eq_true (by rw [← z]; rfl)))]
          rfl
      · have ha0 : a = 0 := Decidable.byContradiction fun z => e (by rw [decide_eq_false (fun k => z (V.int.inj k))]; rfl)
        unfold bodyT firstI
        rw [if_pos ha0, if_pos ha0]
        rfl
    rintro σ G' ⟨rfl, rfl⟩
    refine ⟨fun σ G => σ = [some (.int a), some (.int b), some (.bl r), some (.int (firstI a b)), some (.str mk), some (.str (bodyT a b)), some (.str (moreT a b))] ∧ G = G', ?_, ?_⟩
    · refine ⟨_, rfl, rfl, _, rfl, ite2 (fun e => ⟨_, rfl, rfl, _, rfl, ite2 (fun e2 => ?_) (fun e2 => ⟨?_, rfl⟩)⟩) (fun e => iteF ⟨?_, rfl⟩)⟩
      · have ha0 : a ≠ 0 := fun z => by subst z; exact absurd e (by decide)
        have hb0 : b ≠ 0 := fun z => by subst z; exact absurd e2 (by decide)
        have em : moreT a b = (if 0 < b then (" + " : Str) else (" - " : Str)) ++ dT (absI b) := by unfold moreT; rw [if_neg (show ¬ (a = 0 ∨ b = 0) from fun z => z.elim ha0 hb0)]
        rw [em]
        have hl := absI_len hb
        refine ⟨_, rfl, _, _, rfl, rfl, _, rfl, ite2 (fun e3 => ⟨_, rfl, b, rfl, _, rfl, abs_log hb, _, _, rfl, rfl, sz1 ?_, ?_, rfl⟩) (fun e3 => ⟨_, rfl, b, rfl, _, rfl, abs_log hb, _, _, rfl, rfl, sz1 ?_, ?_, rfl⟩)⟩
        · show 3 + (dT (absI b)).length ≤ 20000
          omega
        · rw [if_pos (show 0 < b from of_decide_eq_true e3)]
          rfl
        · show 3 + (dT (absI b)).length ≤ 20000
          omega
        · rw [if_neg (show ¬ 0 < b from fun z => e3 (decide_eq_true z))]
          rfl
      · have hb0 : b = 0 := Decidable.byContradiction fun z => e2 (by rw [decide_eq_false (fun k => z (V.int.inj k))]; rfl)
        unfold moreT
        rw [if_pos (show a = 0 ∨ b = 0 from .inr hb0)]
        rfl
      · have ha0 : a = 0 := Decidable.byContradiction fun z => e (by rw [decide_eq_false (fun k => z (V.int.inj k))]; rfl)
        unfold moreT
        rw [if_pos (show a = 0 ∨ b = 0 from .inl ha0)]
        rfl
    rintro σ G ⟨rfl, rfl⟩
    cases r with
    | true =>
      have q2 := q
      rw [← term_true h0] at q2
      refine ⟨_, rfl, true, rfl, iteT ⟨_, rfl, _, _, rfl, rfl, _, rfl, ite2 (fun e => ?_) (fun e => ?_)⟩⟩
      · rw [if_pos (show firstI a b < 0 from of_decide_eq_true e)] at q2
        refine ⟨_, rfl, _, _, rfl, rfl, sz1 ?_, _, rfl, _, _, rfl, rfl, sz1 ?_, q2⟩
        · show 3 + (bodyT a b).length ≤ 20000
          omega
        · rw [len_app]
          show 3 + (bodyT a b).length + (moreT a b).length ≤ 20000
          omega
      · rw [if_neg (show ¬ firstI a b < 0 from fun z => e (decide_eq_true z))] at q2
        refine ⟨_, rfl, _, _, rfl, rfl, sz1 ?_, _, rfl, _, _, rfl, rfl, sz1 ?_, q2⟩
        · show 3 + (bodyT a b).length ≤ 20000
          omega
        · rw [len_app]
          show 3 + (bodyT a b).length + (moreT a b).length ≤ 20000
          omega
    | false =>
      have q2 := q
      rw [← term_false h0] at q2
      refine ⟨_, rfl, false, rfl, iteF ⟨_, rfl, _, rfl, _, _, rfl, rfl, sz1 ?_, _, rfl, _, _, rfl, rfl, sz1 ?_, q2⟩⟩
      · show mk.length + (bodyT a b).length ≤ 20000
        omega
      · rw [len_app]
        show mk.length + (bodyT a b).length + (moreT a b).length ≤ 20000
        omega
end
end OR

set_option maxHeartbeats 8000000
namespace OR
open PySem PySem.Spec PyProof.Rows L2
open TL (tl numL)
theorem IsP.frm {C : Addr} {H H' : Hp} {x p : Addr} {n : Nat} {l : List Row} (h : IsP C H x l) (f : Frm p H H') (P : Pen H p n) : IsP C H' x l := by
  obtain ⟨kvs, hp⟩ := P.dict
  obtain ⟨nf, dx, t, fi, b, M, h1, h2, h3, h4, h5, h6, h7⟩ := h
  have go : ∀ (a : Addr) (o : HO), H a = some o → (∀ d, o ≠ .dK d) → H' a = some o := fun a o e no => f.1 a o e (ne_of e hp (no kvs))
  exact ⟨nf, dx, t, fi, b, M, go _ _ h1 (by intro d z; cases z), go _ _ h2 (by intro d z; cases z), fun q hq => go _ _ (h3 q hq) (by intro d z; cases z), h4, go _ _ h5 (by intro d z; cases z), go _ _ h6 (by intro d z; cases z), h7⟩
def spFarC (CP : Addr) (C : Nat → Addr) : Sp := fun vs H Q _ => ∃ (p wl : Addr) (f g : Str) (n : Nat), vs = [.ref p, .ref wl] ∧ H wl = some (.lst [.str f, .str g]) ∧ Word f ∧ Word g ∧ g ≠ f ∧ Pen H p n ∧ n ≤ 600000 ∧
  ∀ (t z : Addr) (i : Nat) (f' : Str) (rows : List Row) (x : List V) (H' : Hp), H' t = some (.tup [.ref z, .str (cText i f' rows x)]) → IsC CP C H' z i f' rows x → Nf rows → Pen H' p (n + 700) → Frm p H H' → Q (.ref t) H'
theorem kind_in {v : V} (h : v ∈ [V.str (kName 0), .str (kName 1), .str (kName 2), .str (kName 3), .str (kName 4), .str (kName 4), .str (kName 5), .str (kName 5), .str (kName 6)]) : ∃ i, i < 7 ∧ v = .str (kName i) := by
  simp only [List.mem_cons, List.not_mem_nil, or_false] at h
  rcases h with e | e | e | e | e | e | e | e | e <;> first | exact ⟨0, by decide, e⟩ | exact ⟨1, by decide, e⟩ | exact ⟨2, by decide, e⟩ | exact ⟨3, by decide, e⟩ | exact ⟨4, by decide, e⟩ | exact ⟨5, by decide, e⟩ | exact ⟨6, by decide, e⟩
theorem sign_of {v : V} (h : v ∈ [V.str "<=", .str ">=", .str "="]) : ∃ s, isSign s ∧ v = .str s := by
  simp only [List.mem_cons, List.not_mem_nil, or_false] at h
  rcases h with e | e | e
  · exact ⟨_, .inl rfl, e⟩
  · exact ⟨_, .inr (.inl rfl), e⟩
  · exact ⟨_, .inr (.inr rfl), e⟩
theorem way_of {v : V} (h : v ∈ [V.str "up", .str "down"]) : ∃ s, isWay s ∧ v = .str s := by
  simp only [List.mem_cons, List.not_mem_nil, or_false] at h
  rcases h with e | e
  · exact ⟨_, .inl rfl, e⟩
  · exact ⟨_, .inr rfl, e⟩
theorem num_of {xs : List Int} {v : V} (hx : ∀ x ∈ xs, Num x) (h : v ∈ xs.map V.int) : ∃ x, Num x ∧ v = .int x := by
  obtain ⟨x, h1, h2⟩ := List.mem_map.mp h
  exact ⟨x, hx x h1, h2.symm⟩
theorem term_len (r : Bool) {a b : Int} (ha : Num a) (hb : Num b) : (termT r a b).length ≤ 200 := by
  by_cases h0 : a = 0 ∧ b = 0
  · obtain ⟨rfl, rfl⟩ := h0
    rw [term_zero]
    split <;> decide
  · have bl := body_len ha hb
    have ml := more_len (a := a) hb
    cases r with
    | true =>
      rw [← term_true h0, len_app, len_app]
      have : (if firstI a b < 0 then (" - " : Str) else (" + " : Str)).length ≤ 3 := by split <;> decide
      omega
    | false =>
      rw [← term_false h0, len_app, len_app]
      have : (if firstI a b < 0 then ("-" : Str) else ("" : Str)).length ≤ 3 := by split <;> decide
      omega
theorem dTall_len {b : Int} (hb : Num b) : (dT b).length ≤ 100 := by
  have h := absI_len hb
  by_cases hn : b < 0
  · have e : dT b = ("-" : Str) ++ dT (absI b) := dT_abs hn
    rw [e, len_app]
    show 1 + (dT (absI b)).length ≤ 100
    omega
  · rw [absI_pos hn] at h
    omega
theorem slopes_num : ∀ x ∈ ([0, 0, 1, -1, 2, -7, 10 ^ 9, -10 ^ 9] : List Int), Num x := by
  show ∀ x ∈ ([0, 0, 1, -1, 2, -7, 10 ^ 9, -10 ^ 9] : List Int), x.natAbs < 10 ^ 90
  decide +kernel
theorem heights_num {r : Int} (h0 : 0 ≤ r) (h1 : r < 10 ^ 30) : ∀ x ∈ ([0, 0, 1, -1, 5, -10 ^ 30, r, 10 ^ 40 * 10 ^ 39, 1 - 10 ^ 40 * 10 ^ 40] : List Int), Num x := by
  have h : ∀ x ∈ ([0, 0, 1, -1, 5, -10 ^ 30, 10 ^ 40 * 10 ^ 39, 1 - 10 ^ 40 * 10 ^ 40] : List Int), Num x := by
    show ∀ x ∈ ([0, 0, 1, -1, 5, -10 ^ 30, 10 ^ 40 * 10 ^ 39, 1 - 10 ^ 40 * 10 ^ 40] : List Int), x.natAbs < 10 ^ 90
    decide +kernel
  intro x hx
  by_cases e : x = r
  · subst e
    unfold Num
    omega
  · apply h
    simp only [List.mem_cons, List.not_mem_nil, or_false] at hx ⊢
    rcases hx with k | k | k | k | k | k | k | k | k
    all_goals first | exact absurd k e | (rw [k]; decide +kernel)
section
variable {P : Program} {w : World} {K : PySem.W.Frag} {mg : Str → Option Value} {base : Heap} {CP : Addr} {C : Nat → Addr}
theorem scFC : FnScope ["_law_pen_here", "_law_words_here", "_law_kind", "_law_stretches", "_law_f", "_law_g", "_law_spots", "_law_head", "_law_sign", "_law_way", "_law_slope", "_law_heights", "_law_height", "_law_rest"] ["_law_pen_here", "_law_words_here"] (defScope sFarClause) := ⟨rfl, rfl, rfl, by decide +kernel, rfl, by decide +kernel, by decide +kernel⟩
theorem ok_farc {f : Addr} {fd : FuncData} (F : Fun K "_law_far_clause" "_law_far_clause" sFarClause f fd) (zS : mg "str" = none) (PI : Cl P w K mg base 2 "_law_pick" ["_law_pen_here", "_law_items"] (spPick K))
    (FA : Cl P w K mg base 2 "_law_far" ["_law_pen_here", "_law_many"] spFar) (FS : Cl P w K mg base 3 "_law_far_stretches" ["_law_pen_here"] spFarStr) (SH : Cl P w K mg base 2 "_law_shuffled" ["_law_pen_here", "_law_items"] (spShuffled K))
    (PT : Cl P w K mg base 1 "_law_places_text" ["_law_stretches"] (spPT K)) (TE : Cl P w K mg base 1 "_law_term" ["_law_slope", "_law_height", "_law_is_rest"] spTerm) (PM : PMk' P w K mg base CP)
    (M0 : CMk P w K mg base C 0 ["self", "function", "places"]) (M1 : CMk P w K mg base C 1 ["self", "function", "places"]) (M2 : CMk P w K mg base C 2 ["self", "function", "places", "other"]) (M3 : CMk P w K mg base C 3 ["self", "function", "places", "way"])
    (M4 : CMk P w K mg base C 4 ["self", "function", "places", "sign", "slope", "height"]) (M5 : CMk P w K mg base C 5 ["self", "function", "places", "sign", "other", "slope", "height"]) (M6 : CMk P w K mg base C 6 ["self", "function", "places", "sign", "height"]) :
    FnOk P w K mg base CX0 6 f fd ["_law_pen_here", "_law_words_here"] (spFarC CP C) := by
  refine F.ok scFC (fun vs H Q E h => ?_) (fun cdv A outer s H vs Q E hr h => ?_)
  · obtain ⟨_, _, _, _, _, rfl, _⟩ := h; rfl
  · obtain ⟨p, wl, f0, g0, n, rfl, hwl, wf0, wg0, hne, hP, hn, q⟩ := h
    have nd := scFC.nd
    refine ⟨_, pss_cons (ps_set (i := 2) nd rfl (.inl rfl) (pe_cl PI hr (by decide) (by rfl) (pa_cons (pv 0) (pa_cons (pe_lst (pa_cons pe_str (pa_cons pe_str (pa_cons pe_str (pa_cons pe_str (pa_cons pe_str (pa_cons pe_str (pa_cons pe_str (pa_cons pe_str (pa_cons pe_str pa_nil)))))))))) pa_nil))))
      (pss_cons (ps_set (i := 3) nd rfl (.inl rfl) (pe_cl FS hr (by decide) (by rfl) (pa_cons (pv 0) pa_nil)))
      (pss_cons (ps_par3 (i := 4) (j := 5) (l := 6) rfl nd rfl rfl rfl (by decide) (by decide) (by decide) rfl rfl rfl (pa_cons (pe_ix ix_list (pv 1) pe_int (fun _ _ => rfl)) (pa_cons (pe_ix ix_list (pv 1) pe_int (fun _ _ => rfl)) (pa_cons (pe_mkP K rfl PM hr (by decide) (by rfl) (pa_cons (pe_cl SH hr (by decide) (by rfl) (pa_cons (pv 0) (pa_cons (pv 3) pa_nil))) pa_nil)) pa_nil))) rfl)
      (pss_cons (ps_set (i := 7) nd rfl (.inl rfl) (pe_op op_add_str (pe_op op_add_str (pe_op op_add_str (pe_op op_add_str (pv 2) pe_str) (pv 4)) pe_str) (pe_cl PT hr (by decide) (by rfl) (pa_cons (pv 3) pa_nil))))
      (pss_cons (ps_par (i := 8) (j := 9) rfl nd rfl rfl (by decide) rfl rfl (pa_cons (pe_cl PI hr (by decide) (by rfl) (pa_cons (pv 0) (pa_cons (pe_lst (pa_cons pe_str (pa_cons pe_str (pa_cons pe_str pa_nil)))) pa_nil))) (pa_cons (pe_cl PI hr (by decide) (by rfl) (pa_cons (pv 0) (pa_cons (pe_lst (pa_cons pe_str (pa_cons pe_str pa_nil))) pa_nil))) pa_nil)) rfl)
      (pss_cons (ps_set (i := 10) nd rfl (.inl rfl) (pe_cl PI hr (by decide) (by rfl) (pa_cons (pv 0) (pa_cons (pe_lst (pa_cons pe_int (pa_cons pe_int (pa_cons pe_int (pa_cons (pe_un un_neg pe_int) (pa_cons pe_int (pa_cons (pe_un un_neg pe_int) (pa_cons (pe_op op_pow pe_int pe_int) (pa_cons (pe_un un_neg (pe_op op_pow pe_int pe_int)) pa_nil))))))))) pa_nil))))
      (pss_cons (ps_set (i := 11) nd rfl (.inl rfl) (pe_lst (pa_cons pe_int (pa_cons pe_int (pa_cons pe_int (pa_cons (pe_un un_neg pe_int) (pa_cons pe_int (pa_cons (pe_un un_neg (pe_op op_pow pe_int pe_int)) (pa_cons (pe_cl FA hr (by decide) (by rfl) (pa_cons (pv 0) (pa_cons (pe_op op_pow pe_int pe_int) pa_nil))) (pa_cons (pe_op op_mulW (pe_op op_pow pe_int pe_int) (pe_op op_pow pe_int pe_int)) (pa_cons (pe_op op_sub pe_int (pe_op op_mulW (pe_op op_pow pe_int pe_int) (pe_op op_pow pe_int pe_int))) pa_nil)))))))))))
      (Evl.pss_cut (ps_set (i := 12) nd rfl (.inl rfl) (pe_cl PI hr (by decide) (by rfl) (pa_cons (pv 0) (pa_cons (pv 11) pa_nil))))
      (pss_cons (ps_if (pt_cmpR op_eq (pv 2) pe_str (nomark _)) (pss_one (ps_ret (pe_tup (pa_cons (pe_mkC M0 rfl hr (by decide) (by rfl) (pa_cons (pv 4) (pa_cons (pv 6) pa_nil))) (pa_cons (pv 7) pa_nil))))) pss_nil)
      (pss_cons (ps_if (pt_cmpR op_eq (pv 2) pe_str (nomark _)) (pss_one (ps_ret (pe_tup (pa_cons (pe_mkC M1 rfl hr (by decide) (by rfl) (pa_cons (pv 4) (pa_cons (pv 6) pa_nil))) (pa_cons (pv 7) pa_nil))))) pss_nil)
      (pss_cons (ps_if (pt_cmpR op_eq (pv 2) pe_str (nomark _)) (pss_one (ps_ret (pe_tup (pa_cons (pe_mkC M2 rfl hr (by decide) (by rfl) (pa_cons (pv 4) (pa_cons (pv 6) (pa_cons (pv 5) pa_nil)))) (pa_cons (pe_op op_add_str (pe_op op_add_str (pv 7) pe_str) (pv 5)) pa_nil))))) pss_nil)
      (pss_cons (ps_if (pt_cmpR op_eq (pv 2) pe_str (nomark _)) (pss_one (ps_ret (pe_tup (pa_cons (pe_mkC M3 rfl hr (by decide) (by rfl) (pa_cons (pv 4) (pa_cons (pv 6) (pa_cons (pv 9) pa_nil)))) (pa_cons (pe_op op_add_str (pe_op op_add_str (pv 7) pe_str) (pv 9)) pa_nil))))) pss_nil)
      (pss_cons (ps_if (pt_cmpR op_eq (pv 2) pe_str (nomark _)) (pss_one (ps_ret (pe_tup (pa_cons (pe_mkC M6 rfl hr (by decide) (by rfl) (pa_cons (pv 4) (pa_cons (pv 6) (pa_cons (pv 8) (pa_cons (pv 12) pa_nil))))) (pa_cons (pe_op op_add_str (pe_op op_add_str (pe_op op_add_str (pe_op op_add_str (pv 7) pe_str) (pv 8)) pe_str) (pe_callTy call_str_int (by rfl) zS boot_strT (pa_cons (pv 12) pa_nil))) pa_nil))))) pss_nil)
      (pss_cons (ps_if (pt_cmpR op_eq (pv 2) pe_str (nomark _)) (pss_one (ps_ret (pe_tup (pa_cons (pe_mkC M4 rfl hr (by decide) (by rfl) (pa_cons (pv 4) (pa_cons (pv 6) (pa_cons (pv 8) (pa_cons (pv 10) (pa_cons (pv 12) pa_nil)))))) (pa_cons (pe_op op_add_str (pe_op op_add_str (pe_op op_add_str (pe_op op_add_str (pv 7) pe_str) (pv 8)) pe_str) (pe_cl TE hr (by decide) (by rfl) (pa_cons (pv 10) (pa_cons (pv 12) (pa_cons pe_bl pa_nil))))) pa_nil))))) pss_nil)
      (pss_cons (ps_set (i := 13) nd rfl (.inl rfl) (pe_cl TE hr (by decide) (by rfl) (pa_cons (pv 10) (pa_cons (pv 12) (pa_cons pe_bl pa_nil)))))
      (pss_one (ps_ret (pe_tup (pa_cons (pe_mkC M5 rfl hr (by decide) (by rfl) (pa_cons (pv 4) (pa_cons (pv 6) (pa_cons (pv 8) (pa_cons (pv 5) (pa_cons (pv 10) (pa_cons (pv 12) pa_nil))))))) (pa_cons (pe_op op_add_str (pe_op op_add_str (pe_op op_add_str (pe_op op_add_str (pe_op op_add_str (pv 7) pe_str) (pv 8)) pe_str) (pv 5)) (pv 13)) pa_nil))))))))))))))))))), ?_⟩
    refine ⟨_, rfl, by show 9 ≤ sizeLine; decide, fun e1 ne1 => ⟨p, e1, _, n, rfl, .inl (.inl upd_same), Nat.succ_pos _, by show 9 ≤ 1000; decide, hP.new ne1, by omega, fun v H1 hv P1 F1 => ?_⟩⟩
    obtain ⟨i, hi, rfl⟩ := kind_in hv
    have G1 := (Frm.new (p := p) ne1).trans F1
    refine ⟨_, rfl, p, _, rfl, P1, by omega, fun g L H2 ng hg hT hN hok hl P2 F2 => ?_⟩
    have G2 := G1.trans F2
    have hwl2 := G2.lst hP hwl
    refine ⟨_, rfl, wl, _, _, _, rfl, rfl, .inl (.inl hwl2), atI_nat (j := 0) rfl, _, rfl, wl, _, _, _, rfl, rfl, .inl (.inl hwl2), atI_nat (j := 1) rfl, ?_⟩
    refine ⟨_, rfl, _, rfl, p, g, L, _, rfl, .inl (.inl hg), hT.pairs, by omega, P2, by omega, fun o M H3 no ho hperm hPM P3 F3 => ?_⟩
    have okM : ∀ r ∈ rws M, okRow r = true := fun r hr' => by
      obtain ⟨a, ha⟩ := mem_rws.mp hr'
      exact hok r (mem_rws.mpr ⟨a, hperm.mem_iff.mp ha⟩)
    refine ⟨o, M, rfl, .inl (.inl (.inl ho)), by rw [hperm.length_eq]; omega, hPM, okM, fun pl l H4 npl hpl hmem hle s4 => ⟨_, _, _, rfl, ?_⟩⟩
    have el : l = rws L := Nf.unique hpl.nf hN fun x => by
      rw [hmem]
      constructor
      · rintro ⟨r, hr', hx⟩
        obtain ⟨a, ha⟩ := mem_rws.mp hr'
        exact ⟨r, mem_rws.mpr ⟨a, hperm.mem_iff.mp ha⟩, hx⟩
      · rintro ⟨r, hr', hx⟩
        obtain ⟨a, ha⟩ := mem_rws.mp hr'
        exact ⟨r, mem_rws.mpr ⟨a, hperm.mem_iff.mpr ha⟩, hx⟩
    subst el
    have G4 := (G2.trans F3).trans (frmS s4)
    have P4 := P3.same' s4
    have hg4 := s4 _ _ (F3.lst P2 hg)
    have hT4 := (hT.frm F3 P2).same s4
    have lk := kName_len i
    have tl0 := textOf_len hok (l := rws L) (by rw [rws_len]; omega)
    have lf := wf0.len
    have lg := wg0.len
    refine ⟨_, rfl, _, _, rfl, rfl, sz1 ?_, _, rfl, _, _, rfl, rfl, sz1 ?_, _, _, rfl, rfl, sz1 ?_, _, rfl, g, L, rfl, hg4, hT4, hok, by omega, fun H5 s5 => ⟨_, _, rfl, rfl, sz1 ?_, ?_⟩⟩
    · show (kName i).length + 1 ≤ 20000
      omega
    · rw [len_app]
      show (kName i).length + 1 + f0.length ≤ 20000
      omega
    · rw [len_app, len_app]
      show (kName i).length + 1 + f0.length + 1 ≤ 20000
      omega
    · rw [len_app, len_app, len_app]
      show (kName i).length + 1 + f0.length + 1 + (textOf (rws L)).length ≤ 20000
      omega
    have G5 := G4.trans (frmS s5)
    have P5 := P4.same' s5
    have hp5 := hpl.same s5
    refine ⟨_, rfl, by show 3 ≤ sizeLine; decide, fun e2 ne2 => ⟨p, e2, _, _, rfl, .inl (.inl upd_same), Nat.succ_pos _, by show 3 ≤ 1000; decide, P5.new ne2, by omega, fun v H6 hv6 P6 F6 => ?_⟩⟩
    obtain ⟨sg, hsg, rfl⟩ := sign_of hv6
    have G6 := (Frm.new (p := p) (o := .lst [.str "<=", .str ">=", .str "="]) ne2).trans F6
    have G06 := G5.trans G6
    have hp6 := hp5.frm G6 P5
    refine ⟨_, rfl, by show 2 ≤ sizeLine; decide, fun e3 ne3 => ⟨p, e3, _, _, rfl, .inl (.inl upd_same), Nat.succ_pos _, by show 2 ≤ 1000; decide, P6.new ne3, by omega, fun v H7 hv7 P7 F7 => ?_⟩⟩
    obtain ⟨wy, hwy, rfl⟩ := way_of hv7
    have G7 := (Frm.new (p := p) (o := .lst [.str "up", .str "down"]) ne3).trans F7
    have G07 := G06.trans G7
    have hp7 := hp6.frm G7 P6
    refine ⟨_, _, rfl, ?_⟩
    have pw9 : CPow 10 9 := ⟨by decide, by decide, by decide⟩
    have pw30 : CPow 10 30 := ⟨by decide, by decide, by decide⟩
    have pw39 : CPow 10 39 := ⟨by decide, by decide, by decide⟩
    have pw40 : CPow 10 40 := ⟨by decide, by decide, by decide⟩
    refine ⟨_, rfl, _, rfl, _, rfl, _, _, rfl, rfl, pw9, _, _, rfl, rfl, pw9, _, rfl, by show 8 ≤ sizeLine; decide, fun e4 ne4 => ⟨p, e4, _, _, rfl, .inl (.inl upd_same), Nat.succ_pos _, by show 8 ≤ 1000; decide, P7.new ne4, by omega, fun v H8 hv8 P8 F8 => ?_⟩⟩
    obtain ⟨a, ha, rfl⟩ := num_of slopes_num hv8
    have G8 := (Frm.new (p := p) (o := .lst (([0, 0, 1, -1, 2, -7, 10 ^ 9, -10 ^ 9] : List Int).map V.int)) ne4).trans F8
    have G08 := G07.trans G8
    have hp8 := hp7.frm G8 P7
    refine ⟨_, rfl, _, _, rfl, rfl, pw30, _, rfl, _, rfl, _, _, rfl, rfl, pw30, p, _, _, rfl, by decide +kernel, by decide +kernel, P8, by omega, fun r H9 r0 r1 P9 F9 => ?_⟩
    refine ⟨_, _, rfl, rfl, pw40, _, _, rfl, rfl, pw39, _, _, rfl, rfl, (by unfold CMulW; decide +kernel), _, _, rfl, rfl, pw40, _, _, rfl, rfl, pw40, _, _, rfl, rfl, (by unfold CMulW; decide +kernel), _, _, rfl, rfl, by show 9 ≤ sizeLine; decide, fun e5 ne5 => ?_⟩
    have P9' := P9.new (o := .lst (([0, 0, 1, -1, 5, -10 ^ 30, r, 10 ^ 40 * 10 ^ 39, 1 - 10 ^ 40 * 10 ^ 40] : List Int).map V.int)) ne5
    have G09 := (G08.trans F9).trans (Frm.new (p := p) (o := .lst (([0, 0, 1, -1, 5, -10 ^ 30, r, 10 ^ 40 * 10 ^ 39, 1 - 10 ^ 40 * 10 ^ 40] : List Int).map V.int)) ne5)
    have hp9 := hp8.frm (F9.trans (Frm.new (p := p) (o := .lst (([0, 0, 1, -1, 5, -10 ^ 30, r, 10 ^ 40 * 10 ^ 39, 1 - 10 ^ 40 * 10 ^ 40] : List Int).map V.int)) ne5)) P8
    refine ⟨fun σ G => ∃ b, Num b ∧ σ = [some (.ref p), some (.ref wl), some (.str (kName i)), some (.ref g), some (.str f0), some (.str g0), some (.ref pl), some (.str (begT i f0 (rws L))), some (.str sg), some (.str wy), some (.int a), some (.ref e5), some (.int b), none] ∧ Pen G p (n + 700) ∧ Frm p H G ∧ IsP CP G pl (rws L), ?_, ?_⟩
    · refine ⟨_, rfl, _, rfl, p, e5, _, _, rfl, .inl (.inl upd_same), Nat.succ_pos _, by show 9 ≤ 1000; decide, P9', by omega, fun v H10 hv10 P10 F10 => ?_⟩
      obtain ⟨b, hb, rfl⟩ := num_of (heights_num r0 r1) hv10
      exact ⟨b, hb, rfl, P10.mono (by omega), G09.trans F10, hp9.frm F10 P9'⟩
    rintro σ H10 ⟨b, hb, rfl, P10, G010, hp10⟩
    clear hp9 G09 P9' hp8 G08 G8 F8 P8 hv8 G07 G7 F7 P7 hv7 G06 G6 F6 P6 hv6 hp7 hp6 hp5
    have lsg : sg.length ≤ 2 := by rcases hsg with e | e | e <;> subst e <;> decide
    have lwy : wy.length ≤ 4 := by rcases hwy with e | e <;> subst e <;> decide
    have fin : ∀ (j : Nat) (x : List V) (z dz : Addr) (H11 : Hp), j < 7 → WF j f0 x → H11 z = some (.ins (C j) dz (cFl j f0 pl x)) → Same H10 H11 → ∀ (t : Addr) (s : Str), H11 t = none → s = cText j f0 (rws L) x → Q (.ref t) (upd H11 t (.tup [.ref z, .str s])) := fun j x z dz H11 hj wfx hz s11 t s nt es => by
      have s12 := same_lay (o := .tup [.ref z, .str s]) nt
      have s13 := s11.trans s12
      exact q t z j f0 (rws L) x _ (by rw [upd_same, es]) ⟨⟨dz, pl, s12 _ _ hz, hp10.same s13⟩, hj, wf0, wfx, hok, by rw [rws_len]; omega⟩ hN ((P10.same' s13).mono (by omega)) (G010.trans (frmS s13))
    have lh : ∀ j, (begT j f0 (rws L)).length ≤ 2100 := fun j => by
      unfold begT
      have := kName_len j
      rw [len_app, len_app, len_app, len_app]
      show (kName j).length + 1 + f0.length + 1 + _ ≤ 2100
      omega
    rcases kinds7' hi with e | e | e | e | e | e | e <;> subst e
    · refine ⟨_, rfl, rfl, _, rfl, ite2 (fun _ => ?_) (fun z => absurd (decide_eq_true rfl) z)⟩
      exact ⟨_, rfl, _, rfl, f0, pl, [], rfl, wf0, rfl, fun z dz H11 nz hz s11 => ⟨_, rfl, by show 2 ≤ sizeLine; decide, fun t nt => fin 0 [] z dz H11 hi rfl hz s11 t _ nt rfl⟩⟩
    · skip
      refine ⟨_, rfl, rfl, _, rfl, ite2 (fun z => absurd (of_decide_eq_true z) (by decide +kernel)) (fun _ => ?_)⟩
      refine ⟨_, rfl, rfl, _, rfl, ite2 (fun _ => ?_) (fun z => absurd (decide_eq_true rfl) z)⟩
      exact ⟨_, rfl, _, rfl, f0, pl, [], rfl, wf0, rfl, fun z dz H11 nz hz s11 => ⟨_, rfl, by show 2 ≤ sizeLine; decide, fun t nt => fin 1 [] z dz H11 hi rfl hz s11 t _ nt rfl⟩⟩
    · skip
      refine ⟨_, rfl, rfl, _, rfl, ite2 (fun z => absurd (of_decide_eq_true z) (by decide +kernel)) (fun _ => ?_)⟩
      refine ⟨_, rfl, rfl, _, rfl, ite2 (fun z => absurd (of_decide_eq_true z) (by decide +kernel)) (fun _ => ?_)⟩
      refine ⟨_, rfl, rfl, _, rfl, ite2 (fun _ => ?_) (fun z => absurd (decide_eq_true rfl) z)⟩
      refine ⟨_, rfl, _, rfl, _, rfl, f0, pl, [.str g0], rfl, wf0, ⟨g0, rfl, wg0, hne⟩, fun z dz H11 nz hz s11 => ?_⟩
      refine ⟨_, rfl, _, _, rfl, rfl, sz1 ?_, _, rfl, _, _, rfl, rfl, sz1 ?_, by show 2 ≤ sizeLine; decide, fun t nt => fin 2 [.str g0] z dz H11 hi ⟨g0, rfl, wg0, hne⟩ hz s11 t _ nt rfl⟩
      · have := lh 2
        show _ + 1 ≤ 20000
        omega
      · have := lh 2
        rw [len_app]
        show _ + 1 + g0.length ≤ 20000
        omega
    · skip
      refine ⟨_, rfl, rfl, _, rfl, ite2 (fun z => absurd (of_decide_eq_true z) (by decide +kernel)) (fun _ => ?_)⟩
      refine ⟨_, rfl, rfl, _, rfl, ite2 (fun z => absurd (of_decide_eq_true z) (by decide +kernel)) (fun _ => ?_)⟩
      refine ⟨_, rfl, rfl, _, rfl, ite2 (fun z => absurd (of_decide_eq_true z) (by decide +kernel)) (fun _ => ?_)⟩
      refine ⟨_, rfl, rfl, _, rfl, ite2 (fun _ => ?_) (fun z => absurd (decide_eq_true rfl) z)⟩
      refine ⟨_, rfl, _, rfl, _, rfl, f0, pl, [.str wy], rfl, wf0, ⟨wy, rfl, hwy⟩, fun z dz H11 nz hz s11 => ?_⟩
      refine ⟨_, rfl, _, _, rfl, rfl, sz1 ?_, _, rfl, _, _, rfl, rfl, sz1 ?_, by show 2 ≤ sizeLine; decide, fun t nt => fin 3 [.str wy] z dz H11 hi ⟨wy, rfl, hwy⟩ hz s11 t _ nt rfl⟩
      · have := lh 3
        show _ + 1 ≤ 20000
        omega
      · have := lh 3
        rw [len_app]
        show _ + 1 + wy.length ≤ 20000
        omega
    · skip
      refine ⟨_, rfl, rfl, _, rfl, ite2 (fun z => absurd (of_decide_eq_true z) (by decide +kernel)) (fun _ => ?_)⟩
      refine ⟨_, rfl, rfl, _, rfl, ite2 (fun z => absurd (of_decide_eq_true z) (by decide +kernel)) (fun _ => ?_)⟩
      refine ⟨_, rfl, rfl, _, rfl, ite2 (fun z => absurd (of_decide_eq_true z) (by decide +kernel)) (fun _ => ?_)⟩
      refine ⟨_, rfl, rfl, _, rfl, ite2 (fun z => absurd (of_decide_eq_true z) (by decide +kernel)) (fun _ => ?_)⟩
      refine ⟨_, rfl, rfl, _, rfl, ite2 (fun z => absurd (of_decide_eq_true z) (by decide +kernel)) (fun _ => ?_)⟩
      refine ⟨_, rfl, rfl, _, rfl, ite2 (fun _ => ?_) (fun z => absurd (decide_eq_true rfl) z)⟩
      have lt := term_len false ha hb
      refine ⟨_, rfl, _, rfl, _, rfl, _, rfl, _, rfl, f0, pl, [.str sg, .int a, .int b], rfl, wf0, ⟨sg, a, b, rfl, hsg, ha, hb⟩, fun z dz H11 nz hz s11 => ?_⟩
      refine ⟨_, rfl, _, _, rfl, rfl, sz1 ?_, _, rfl, _, _, rfl, rfl, sz1 ?_, _, _, rfl, rfl, sz1 ?_, _, rfl, _, rfl, a, b, false, rfl, ha, hb, _, _, rfl, rfl, sz1 ?_, by show 2 ≤ sizeLine; decide, fun t nt => fin 4 [.str sg, .int a, .int b] z dz H11 hi ⟨sg, a, b, rfl, hsg, ha, hb⟩ hz s11 t _ nt rfl⟩
      · have := lh 4
        show _ + 1 ≤ 20000
        omega
      · have := lh 4
        rw [len_app]
        show _ + 1 + sg.length ≤ 20000
        omega
      · have := lh 4
        rw [len_app, len_app]
        show _ + 1 + sg.length + 1 ≤ 20000
        omega
      · have := lh 4
        rw [len_app, len_app, len_app]
        show _ + 1 + sg.length + 1 + (termT false a b).length ≤ 20000
        omega
    · skip
      refine ⟨_, rfl, rfl, _, rfl, ite2 (fun z => absurd (of_decide_eq_true z) (by decide +kernel)) (fun _ => ?_)⟩
      refine ⟨_, rfl, rfl, _, rfl, ite2 (fun z => absurd (of_decide_eq_true z) (by decide +kernel)) (fun _ => ?_)⟩
      refine ⟨_, rfl, rfl, _, rfl, ite2 (fun z => absurd (of_decide_eq_true z) (by decide +kernel)) (fun _ => ?_)⟩
      refine ⟨_, rfl, rfl, _, rfl, ite2 (fun z => absurd (of_decide_eq_true z) (by decide +kernel)) (fun _ => ?_)⟩
      refine ⟨_, rfl, rfl, _, rfl, ite2 (fun z => absurd (of_decide_eq_true z) (by decide +kernel)) (fun _ => ?_)⟩
      refine ⟨_, rfl, rfl, _, rfl, ite2 (fun z => absurd (of_decide_eq_true z) (by decide +kernel)) (fun _ => ?_)⟩
      have lt := term_len true ha hb
      refine ⟨_, rfl, _, rfl, a, b, true, rfl, ha, hb, ?_⟩
      refine ⟨_, rfl, _, rfl, _, rfl, _, rfl, _, rfl, _, rfl, f0, pl, [.str sg, .str g0, .int a, .int b], rfl, wf0, ⟨sg, g0, a, b, rfl, hsg, wg0, hne, ha, hb⟩, fun z dz H11 nz hz s11 => ?_⟩
      refine ⟨_, rfl, _, _, rfl, rfl, sz1 ?_, _, rfl, _, _, rfl, rfl, sz1 ?_, _, _, rfl, rfl, sz1 ?_, _, rfl, _, _, rfl, rfl, sz1 ?_, _, rfl, _, _, rfl, rfl, sz1 ?_, by show 2 ≤ sizeLine; decide, fun t nt => fin 5 [.str sg, .str g0, .int a, .int b] z dz H11 hi ⟨sg, g0, a, b, rfl, hsg, wg0, hne, ha, hb⟩ hz s11 t _ nt rfl⟩
      · have := lh 5
        show _ + 1 ≤ 20000
        omega
      · have := lh 5
        rw [len_app]
        show _ + 1 + sg.length ≤ 20000
        omega
      · have := lh 5
        rw [len_app, len_app]
        show _ + 1 + sg.length + 1 ≤ 20000
        omega
      · have := lh 5
        rw [len_app, len_app, len_app]
        show _ + 1 + sg.length + 1 + g0.length ≤ 20000
        omega
      · have := lh 5
        rw [len_app, len_app, len_app, len_app]
        show _ + 1 + sg.length + 1 + g0.length + (termT true a b).length ≤ 20000
        omega
    · skip
      refine ⟨_, rfl, rfl, _, rfl, ite2 (fun z => absurd (of_decide_eq_true z) (by decide +kernel)) (fun _ => ?_)⟩
      refine ⟨_, rfl, rfl, _, rfl, ite2 (fun z => absurd (of_decide_eq_true z) (by decide +kernel)) (fun _ => ?_)⟩
      refine ⟨_, rfl, rfl, _, rfl, ite2 (fun z => absurd (of_decide_eq_true z) (by decide +kernel)) (fun _ => ?_)⟩
      refine ⟨_, rfl, rfl, _, rfl, ite2 (fun z => absurd (of_decide_eq_true z) (by decide +kernel)) (fun _ => ?_)⟩
      refine ⟨_, rfl, rfl, _, rfl, ite2 (fun _ => ?_) (fun z => absurd (decide_eq_true rfl) z)⟩
      have ldb : (dT b).length ≤ 100 := dTall_len hb
      refine ⟨_, rfl, _, rfl, _, rfl, _, rfl, f0, pl, [.str sg, .int b], rfl, wf0, ⟨sg, b, rfl, hsg, hb⟩, fun z dz H11 nz hz s11 => ?_⟩
      refine ⟨_, rfl, _, _, rfl, rfl, sz1 ?_, _, rfl, _, _, rfl, rfl, sz1 ?_, _, _, rfl, rfl, sz1 ?_, _, rfl, b, rfl, num_log hb, _, _, rfl, rfl, sz1 ?_, by show 2 ≤ sizeLine; decide, fun t nt => fin 6 [.str sg, .int b] z dz H11 hi ⟨sg, b, rfl, hsg, hb⟩ hz s11 t _ nt rfl⟩
      · have := lh 6
        show _ + 1 ≤ 20000
        omega
      · have := lh 6
        rw [len_app]
        show _ + 1 + sg.length ≤ 20000
        omega
      · have := lh 6
        rw [len_app, len_app]
        show _ + 1 + sg.length + 1 ≤ 20000
        omega
      · have := lh 6
        rw [len_app, len_app, len_app]
        show _ + 1 + sg.length + 1 + (dT b).length ≤ 20000
        omega
end
end OR

namespace OR
open PySem PySem.Spec PyProof.Rows L2
open TL (tl numL)
theorem neqS {a b : Str} (h : a ≠ b) : (!decide (V.str a = V.str b)) = true := by simp [h]
theorem eqS (a : Str) : (!decide (V.str a = V.str a)) = false := by simp
theorem noM : ∀ i, ("functions_told" : Str) ∉ allNames i ∧ ("text" : Str) ∉ allNames i ∧ ("line" : Str) ∉ allNames i
  | 0 => by decide +kernel
  | 1 => by decide +kernel
  | 2 => by decide +kernel
  | 3 => by decide +kernel
  | 4 => by decide +kernel
  | 5 => by decide +kernel
  | _ + 6 => by
    show ("functions_told" : Str) ∉ ("kind" :: "function" :: "places" :: ["sign", "height"] : List Str) ∧ ("text" : Str) ∉ ("kind" :: "function" :: "places" :: ["sign", "height"] : List Str) ∧ ("line" : Str) ∉ ("kind" :: "function" :: "places" :: ["sign", "height"] : List Str)
    decide +kernel
/-- a method of one of some classes -/
theorem pe_mtF {X : Cx} {k j : Nat} {I : Nat → Prop} {C : Nat → Addr} {m : Str} {ps : List Str} {sp : Nat → Sp} {o : Expr} {ta : TE} {apos pos : Pos} {pl : Sem Bool} (M : ∀ i, I i → Mt X.prog X.w X.K X.mg X.base k (C i) m ps (sp i)) (c : ∀ i, I i → Cls X.K (C i)) (hr : Room j X.A) (hk : k ≤ j) (he : PE X o ta)
    (ht : eval (.Call (.Attribute o m apos) [] [] pos) X.env = (do
      let ov ← eval o X.env
      standAt apos.atName
      let (f, first) ← holding [ov] (getMethod ov m pl)
      callWith pos f first (backTo pos (starEach [] X.env)) (backToKw pos (keywordEach [] X.env))) := by rfl) : PE X (.Call (.Attribute o m apos) [] [] pos) (fun σ H Q => ∃ i, I i ∧ tMeth (C i) m (sp i) [] E0 ta tNil σ H Q) :=
  ⟨fun pins s σ H Q I0 ⟨i, hi, h⟩ => (pe_mt0 (M i hi) (c i hi) hr hk he ht).run pins s σ H Q I0 h⟩
theorem op_eqF {X : Cx} (K : PySem.W.Frag) (hK : X.K = K) {n : Nat} {C : Nat → Addr} {sp : Nat → Sp} (m : ∀ i, i < 7 → Md X.prog X.w X.K X.mg X.base n (C i) "__eq__" (sp i)) (hr : Room n X.A) : OpR X (compareOp .Eq) (fun x y H Q => ∃ i, i < 7 ∧ rEqO K (C i) (sp i) x y H Q) := by
  intro pins s σ H x y v u Q I rx ry h
  obtain ⟨i, hi, h⟩ := h
  exact op_eqO K hK (m i hi) hr pins s σ H x y v u Q I rx ry h
theorem op_neF {X : Cx} (K : PySem.W.Frag) (hK : X.K = K) {n : Nat} {C : Nat → Addr} {sp : Nat → Sp} (m : ∀ i, i < 7 → Md X.prog X.w X.K X.mg X.base n (C i) "__eq__" (sp i)) (h1 : ∀ i, i < 7 → PySem.W.findIn X.K (.ref (C i)) "__ne__" = some (some (.builtin "object.__ne__"))) (hm : ∀ i, i < 7 → PySem.W.mroIn X.K (C i) (.type "object") = some true) (hr : Room (n + 1) X.A) :
    OpR X (compareOp .NotEq) (fun x y H Q => ∃ i, i < 7 ∧ rNeO K (C i) (sp i) x y H Q) := by
  intro pins s σ H x y v u Q I rx ry h
  obtain ⟨i, hi, h⟩ := h
  exact op_neO K hK (m i hi) (h1 i hi) (hm i hi) hr pins s σ H x y v u Q I rx ry h
structure NF (K : PySem.W.Frag) (C : Nat → Addr) : Prop where
  cc : ∀ i, i < 7 → ∀ j, j < 7 → PySem.W.notFirst K (C i) (.ref (C j)) = true
  cs : ∀ i, i < 7 → PySem.W.notFirst K (C i) (.type "str") = true
  ct : ∀ i, i < 7 → PySem.W.notFirst K (C i) (.type "tuple") = true
section
variable {P : Program} {w : World} {K : PySem.W.Frag} {mg : Str → Option Value} {base : Heap} {C : Nat → Addr} {CP CL : Addr} {ts tw : Addr}
theorem c_eq (T : CTxt K mg C) (N : NF K C) {H : Hp} {z z2 : Addr} {i j : Nat} {f g : Str} {l m : List Row} {x u : List V} {Q : VK} (h : IsC CP C H z i f l x) (h2 : IsC CP C H z2 j g m u) (q : Q (.bl (ceq i f l x j g m u)) H) : ∃ i, i < 7 ∧ rEqO K (C i) (spCEq K CP C i) (.ref z) (.ref z2) H Q := by
  obtain ⟨dx, pl, hz, _⟩ := h.ex
  obtain ⟨dy, pm, hy, _⟩ := h2.ex
  exact ⟨i, h.lt, z, dx, _, rfl, hz, ⟨_, tyC T h2.lt hy, N.cc i h.lt j h2.lt⟩, z, .ref z2, f, l, x, rfl, h, .inl ⟨z2, j, g, m, u, rfl, h2, q⟩⟩
theorem c_ne (T : CTxt K mg C) (N : NF K C) {H : Hp} {z z2 : Addr} {i j : Nat} {f g : Str} {l m : List Row} {x u : List V} {Q : VK} (h : IsC CP C H z i f l x) (h2 : IsC CP C H z2 j g m u) (q : Q (.bl (!ceq i f l x j g m u)) H) : ∃ i, i < 7 ∧ rNeO K (C i) (spCEq K CP C i) (.ref z) (.ref z2) H Q := by
  obtain ⟨dx, pl, hz, _⟩ := h.ex
  obtain ⟨dy, pm, hy, _⟩ := h2.ex
  exact ⟨i, h.lt, z, dx, _, rfl, hz, ⟨_, tyC T h2.lt hy, N.cc i h.lt j h2.lt⟩, z, .ref z2, f, l, x, rfl, h, .inl ⟨z2, j, g, m, u, rfl, h2, _, rfl, q⟩⟩

end
def spLaw (K : PySem.W.Frag) : Sp := fun vs H Q _ => ∃ (a : Addr) (ns : List Int), vs = [.ref a] ∧ SqL K H a (ns.map V.int) ∧ ns.length ≤ 63 ∧ ∀ H', Q (.bl true) H'
theorem cw_few {i : Nat} {f : Str} {rows : List Row} {x : List V} (hi : i < 7) (wf : WF i f x) (hl : rows.length ≤ 20) : (cWords i f rows x).length ≤ 100 := by
  have h1 := rest_len hi wf
  have h2 := plWords_len rows
  rw [cWords_app, List.length_append]
  show (plWords rows).length + 1 + 1 + _ ≤ 100
  omega
section
variable {P : Program} {w : World} {K : PySem.W.Frag} {mg : Str → Option Value} {base : Heap} {C : Nat → Addr} {CP : Addr}
theorem scLaw : FnScope ["_law_script", "_law_pen_here", "_law_turn", "_law_clause", "_law_line"] ["_law_script"] (defScope sLaw) := ⟨rfl, rfl, rfl, by decide +kernel, rfl, by decide +kernel, by decide +kernel⟩
theorem ok_law {f : Addr} {fd : FuncData} (F : Fun K "law" "law" sLaw f fd) (B : Bd mg) (T : CTxt K mg C) (NFK : NF K C)
    (TX : ∀ i, i < 7 → Mt P w K mg base 5 (C i) "text" ["self"] (spCText CP C i)) (EQ : ∀ i, i < 7 → Md P w K mg base 2 (C i) "__eq__" (spCEq K CP C i))
    (N : Cl P w K mg base 1 "_law_pen" ["_law_script"] (spPen K)) (WD : Cl P w K mg base 3 "_law_words" ["_law_pen_here", "_law_many"] spWords)
    (FC : Cl P w K mg base 6 "_law_far_clause" ["_law_pen_here", "_law_words_here"] (spFarC CP C)) (RC : Cl P w K mg base 10 "read_clause" ["text"] (spRC CP C)) :
    FnOk P w K mg base CX0 11 f fd ["_law_script"] (spLaw K) := by
  refine F.ok scLaw (fun vs H Q E h => ?_) (fun cdv A outer s H vs Q E hr h => ?_)
  · obtain ⟨a, ns, rfl, _⟩ := h
    rfl
  · obtain ⟨sc, ns, rfl, hS, hlen, q⟩ := h
    have nd := scLaw.nd
    have hr3 : Room 3 _ := hr.mono (by decide)
    refine ⟨_, pss_cons (ps_set (i := 1) nd rfl (.inl rfl) (pe_cl N hr (by decide) (by rfl) (pa_cons (pv 0) pa_nil)))
      (pss_cons (ps_for PassesOwn.never rfl (pi_range1 (by rfl) B.range (pa_cons pe_int pa_nil)) (pg_name (i := 2) nd rfl (.inl rfl))
        (pss_cons (ps_asg (pe_cl FC hr (by decide) (by rfl) (pa_cons (pv 1) (pa_cons (pe_cl WD hr (by decide) (by rfl) (pa_cons (pv 1) (pa_cons pe_int pa_nil))) pa_nil))) (pg_tup rfl (pgs_cons (pg_name (i := 3) nd rfl (.inl rfl)) (pgs_cons (pg_name (i := 4) nd rfl (.inl rfl)) pgs_nil))))
        (pss_one (ps_if (PW.pt (pw_or (pt_cmpR op_ne (pe_mtF TX T.cl hr (by decide) (pv 3)) (pv 4) (nomark _))
            (pw_or (pt_cmpR (op_neF K rfl EQ T.ne (fun i hi => (T.isi i hi).cm) hr3) (pe_cl RC hr (by decide) (by rfl) (pa_cons (pv 4) pa_nil)) (pv 3) (nomark _))
            (pw_or1 (pt_cmpR op_ne (pe_mtF TX T.cl hr (by decide) (pe_cl RC hr (by decide) (by rfl) (pa_cons (pv 4) pa_nil))) (pv 4) (nomark _)))))) (pss_one (ps_ret pe_bl)) pss_nil))))
      (pss_one (ps_ret pe_bl))), ?_⟩
    refine ⟨_, rfl, sc, ns, rfl, hS, hlen, fun p H1 np P0 S0 => ?_⟩
    refine ⟨14, rfl, by decide, by decide, for_range (lo := 0) (n := 14) (fun k σ G => ∃ s2 s3 s4, σ = [some (.ref sc), some (.ref p), s2, s3, s4] ∧ Pen G p (1200 * k)) ⟨none, none, none, rfl, P0⟩ ?_ ?_⟩
    · rintro k σ G hk ⟨s2, s3, s4, rfl, PG⟩
      refine ⟨_, rfl, _, rfl, p, 2, _, rfl, by decide, PG, by omega, fun wl ws G1 nwl hwl lws wws dws P1 F1 => ?_⟩
      obtain ⟨f1, g, rfl⟩ : ∃ a b, ws = [a, b] := by
        match ws, lws with
        | [a, b], _ => exact ⟨a, b, rfl⟩
      have wf1 := wws f1 (by simp)
      have wg1 := wws g (by simp)
      have ngf : g ≠ f1 := fun e => (List.pairwise_cons.mp dws).1 g (by simp) e.symm
      refine ⟨p, wl, f1, g, _, rfl, hwl, wf1, wg1, ngf, P1, by omega, fun t z i f' rows x G2 ht hC nf P2 F2 => ?_⟩
      rw [cText_jn hC.lt hC.wf] at ht
      have hi := hC.lt
      have gw := gw_all hi hC.w hC.wf hC.ok
      have cw : ClauseW (cWords i f' rows x) i f' rows x := clauseW hi hC.w hC.wf nf hC.ok hC.len
      have cne : cWords i f' rows x ≠ [] := fun e => nomatch e
      have nb : ∀ w ∈ cWords i f' rows x, noBlank w := fun w hw => (gw w hw).1
      have l100 : ∀ w ∈ cWords i f' rows x, w.length ≤ 100 := fun w hw => (gw w hw).2
      have few := cw_few hi hC.wf hC.len (f := f')
      obtain ⟨dx2, pl2, hz2, _⟩ := hC.ex
      refine ⟨t, _, rfl, .inl (.inl ht), rfl, _, _, rfl, _, _, rfl, rfl, ?_⟩
      refine ⟨i, hi, _, rfl, z, dx2, _, rfl, hz2, cFl_no (noM i).2.1, z, f', rows, x, rfl, hC, fun G3 S3 => ?_⟩
      rw [cText_jn hi hC.wf]
      refine ⟨_, rfl, rfl, _, rfl, iteNS rfl ?_⟩
      refine ⟨_, rfl, cWords i f' rows x, i, f', rows, x, rfl, cne, nb, l100, few, cw, fun z4 G4 nz4 hC4 S4 => ?_⟩
      refine ⟨_, rfl, c_ne T NFK hC4 ((hC.same S3).same S4) ⟨_, rfl, ?_⟩⟩
      have e1 : ceq i f' rows x i f' rows x = true := decide_eq_true ⟨rfl, rfl, rfl, rfl⟩
      rw [e1]
      refine iteF ?_
      refine ⟨i, hi, _, rfl, cWords i f' rows x, i, f', rows, x, rfl, cne, nb, l100, few, cw, fun z5 G5 nz5 hC5 S5 => ?_⟩
      obtain ⟨dx5, pl5, hz5, _⟩ := hC5.ex
      refine ⟨z5, dx5, _, rfl, hz5, cFl_no (noM i).2.1, z5, f', rows, x, rfl, hC5, fun G6 S6 => ?_⟩
      rw [cText_jn hi hC.wf]
      refine ⟨_, rfl, rfl, _, rfl, iteNS rfl ?_⟩
      exact ⟨_, _, _, rfl, ((((P2.same' S3).same' S4).same' S5).same' S6).mono (by omega)⟩
    · rintro σ G ⟨s2, s3, s4, rfl, PG⟩
      exact q _
end
end OR

namespace OR
open PySem PySem.Spec PyProof.Rows L2
/-! ### what the top has left -/
/-- an __init__ whose last parameter may be left out: then it is the empty tuple at t0 -/
structure MtD (K : PySem.W.Frag) (C : Addr) (m qual : Str) (st : Stmt) : Prop where
  ex : ∃ f fd t0, FunD K m qual (defArgs st) (defBody st) (defScope st) [.ref t0] [] f fd ∧ PySem.W.findIn K (.ref C) m = some (some (.ref f)) ∧ PySem.W.isFn K (.ref f) = true ∧ ∀ H : Hp, SqT K H t0 []
theorem mtD {K : PySem.W.Frag} {h : Heap} {C : Addr} {m qual : Str} {st : Stmt} {f T t0 : Addr} {oc cT : Value} {od an dT d0 : Option Addr} {osl sT s0 : Array (Option Value)} {kV doc pm cdv ct : Value} {nT n0 : Nat} (_X : K.In h)
    (a : PySem.W.findIn K (.ref C) m = some (some (.ref f))) (l : K.lookup f = some ⟨oc, od, .func (PySem.W.fnOf m qual (defArgs st) (defBody st) (defScope st) (.ref T) kV doc pm an cdv ct), osl⟩)
    (lT : K.lookup T = some ⟨cT, dT, .seq #[.ref t0] nT, sT⟩) (l0 : K.lookup t0 = some ⟨.type "tuple", d0, .seq #[] n0, s0⟩)
    (c : PySem.W.codeIn K cdv qual = true) (k : PySem.W.keepIn K (.ref f) = true) (i : PySem.W.isFn K (.ref f) = true) : MtD K C m qual st :=
  ⟨f, _, t0, ⟨⟨oc, od, .ref T, kV, doc, pm, an, cdv, ct, osl, rfl, l, c, .inr ⟨by simp, T, _, [.ref t0], nT, rfl, lT, rfl, .cons rfl .nil⟩, .inl rfl⟩, k⟩, a, i, fun H => .inr ⟨_, #[], n0, l0, rfl, rfl, Nat.zero_le _, .nil⟩⟩
structure PAt (K : PySem.W.Frag) (C : Addr) : Prop where
  aC : PySem.W.nsIn K mainGlobals "Places" = some (some (.ref C))
  pg : PySem.W.plainGet K C Str.empty = true
  hd : PySem.W.hasDictIn K C = true
  po : PySem.W.plainOver K C = true
  sa : PySem.W.findIn K (.ref C) "__setattr__" = some (some (.builtin "object.__setattr__"))
  mks : PySem.W.makesIn K C = true
  kc : PySem.W.keepIn K (.ref C) = true
  nS : PySem.W.findIn K (.ref C) "stretches" = some none
  nF : PySem.W.findIn K (.ref C) "_firsts" = some none
  nB : PySem.W.findIn K (.ref C) "_before" = some none
  ca : PySem.W.findIn K (.ref C) "__class__" = some (some (.builtin "object.__class__"))
  cn : PySem.W.specialIn K (.builtin "object.__class__") "__get__" = some (some (.builtin "getset_descriptor.__get__"))
  ct : PySem.W.takesIn K (.builtin "object.__class__") = some true
  cm : PySem.W.mroIn K C (.type "object") = some true
  ne : PySem.W.findIn K (.ref C) "__ne__" = some (some (.builtin "object.__ne__"))
  sT : PySem.W.subIn K (.type "tuple") (.ref C) = some false
  sL : PySem.W.subIn K (.type "list") (.ref C) = some false
  kPP : PySem.W.kitOne K (.ref C) (.ref C) = some true
  kT : PySem.W.kitOne K (.type "tuple") (.ref C) = some false
  kL : PySem.W.kitOne K (.type "list") (.ref C) = some false
  sf : PySem.W.selfFirst K C = true
structure ZAt (K : PySem.W.Frag) : Prop where
  isi : PySem.W.nsIn K mainGlobals "isinstance" = some none
  int : PySem.W.nsIn K mainGlobals "int" = some none
  bool : PySem.W.nsIn K mainGlobals "bool" = some none
  tup : PySem.W.nsIn K mainGlobals "tuple" = some none
  list : PySem.W.nsIn K mainGlobals "list" = some none
  len : PySem.W.nsIn K mainGlobals "len" = some none
  max : PySem.W.nsIn K mainGlobals "max" = some none
  min : PySem.W.nsIn K mainGlobals "min" = some none
  sorted : PySem.W.nsIn K mainGlobals "sorted" = some none
  enum : PySem.W.nsIn K mainGlobals "enumerate" = some none
  range : PySem.W.nsIn K mainGlobals "range" = some none
  set : PySem.W.nsIn K mainGlobals "set" = some none
  abs : PySem.W.nsIn K mainGlobals "abs" = some none
theorem lastP_lit : lastP = 1000000000000000000000000000000 := by decide
theorem lp_of {p : Program} {lv : List (Str × PySem.W.WData)} {mg : Str → Option Value} {h : Heap} (X : PySem.W.XL p lv mg h) (hm : (("LAST_PLACE" : Str), PySem.W.WData.int 1000000000000000000000000000000) ∈ lv) : ∃ t, mg "LAST_PLACE" = some (.int lastP t) := by
  obtain ⟨v, hv, hr⟩ := X.2.val _ hm
  cases hr with
  | int i t => exact ⟨t, by rw [lastP_lit]; exact hv⟩
/-- walk_of, told besides what the top's loose names read -/
theorem walk_ofX {l : PySem.W.OpenLaw} {n k : Nat} {q : Program} {loose : List Str} {XP : (Str → Option Value) → Heap → Prop} {YP : World → Heap → Prop} {d : DefRec} {K : Params → PySem.W.Frag} {CX : World → CXT} {sp : World → Sp} {x : Str}
    (hn : l.most = some n) (hn2 : n ≤ sizeLine) (hdf : d.params.defaults = []) (hr : Room k callerA) (hY : ∀ (w : World) (h : Heap), YP w h → (K w.params).In h)
    (F : ∀ (w : World) (mg : Str → Option Value) (fa : Addr) (h : Heap), (K w.params).In h → h.Ns mainGlobals mg → XP mg h → mg d.name = some (.ref fa) →
      ∃ fd : FuncData, (∀ (s : Shared) (u : Value), BindsTo s fd ⟨[u], []⟩ [(x, u)]) ∧ ∀ base : Heap, (K w.params).In base → base.Ns mainGlobals mg → FnOk l.prog w (K w.params) mg base (CX w) k fa fd [x] (sp w))
    (hsp : ∀ (w : World) (H : Hp) (a : Addr) (ns : List Int), ns.length ≤ n → Only H → SqL (K w.params) H a (ns.map V.int) → sp w [.ref a] H (fun v _ => v = .bl true) fun _ _ _ => False)
    (hCX : ∀ (w : World) (H : Hp) (s : Shared) (e : Value) (s' : Shared), CX w [] H s (fun _ _ _ => False) e s' → False) : PySem.W.WalkO q loose XP YP l.row.toRowW d [] (fun f vs => PySem.call f vs) := by
  refine Att.attach_call hn hdf fun w s₀ s₁ mg mb fa o pm cd doc a vs ns G Y ho hd hcd hmg hobj hints hlen hg => ?_
  have KX := hY w _ Y
  obtain ⟨fd, hb, hF⟩ := F w mg fa _ KX G.T.g G.X hmg
  exact law_call KX G.T.g G.T.b G.T.builtins G.T.nolimit hg hobj hints (Nat.le_trans hlen hn2) hr hF hb (fun H hO hS => hsp w H a ns hlen hO hS) fun H e s' => hCX w H s₁ e s'
theorem PAt.txt {K : PySem.W.Frag} {C : Addr} {h : Heap} {mg : Str → Option Value} (L : PAt K C) (X : K.In h) (G : h.Ns mainGlobals mg) (Z : ZAt K) (lp : ∃ t, mg "LAST_PLACE" = some (.int lastP t)) : PTxt K mg C :=
  ⟨⟨L.pg, L.hd, L.po, L.sa⟩, L.nS, L.nF, L.nB, PySem.W.mg_of X G L.aC, ⟨L.ca, L.cn, L.ct, L.cm⟩, L.kPP, PySem.W.mg_none_of X G Z.isi, PySem.W.mg_none_of X G Z.int, PySem.W.mg_none_of X G Z.bool, PySem.W.mg_none_of X G Z.tup, PySem.W.mg_none_of X G Z.list,
    PySem.W.mg_none_of X G Z.len, PySem.W.mg_none_of X G Z.max, PySem.W.mg_none_of X G Z.sorted, PySem.W.mg_none_of X G Z.enum, lp⟩
theorem pmk_of {P : Program} {w : World} {K : PySem.W.Frag} {mg : Str → Option Value} {base : Heap} {C : Addr} (T : PTxt K mg C) (L : PAt K C) (mI : MtD K C "__init__" "Places.__init__" sPlInit)
    (S : Cl P w K mg base 3 "_is_stretch" ["value"] spIsStretchP) (J : Cl P w K mg base 1 "_joined" ["stretches"] (spJoined K)) (B : Cl P w K mg base 1 "_counts_before" ["stretches"] (spCounts K)) : PMk' P w K mg base C := by
  obtain ⟨f, fd, t0, F, a, i, ht⟩ := mI.ex
  obtain ⟨ds, r1, b1⟩ := F.binds1 (ps := ["self", "stretches"]) 2 1 (by simp) rfl fun T kV doc pm an cdv ct us its hu hi => match us, its, hu, hi with | [u, v], [x], _, _ => ⟨_, rfl, rfl⟩
  obtain ⟨es, r2, b2⟩ := F.binds1 (ps := ["self", "stretches"]) 1 0 (by simp) rfl fun T kV doc pm an cdv ct us its hu hi => match us, its, hu, hi with | [u], [x], _, _ => ⟨_, rfl, rfl⟩
  cases r1
  obtain ⟨u, rfl, ru⟩ := r2.one
  cases (show u = Value.ref t0 from ru)
  exact ⟨T, f, fd, t0, ⟨L.mks, a, i, L.kc⟩, ok_plinit F T S J B, b1, b2, ht⟩
end OR

namespace OR
open PySem PySem.Spec PyProof.Rows L2
/-- the class Line behind the top -/
structure LAt (K : PySem.W.Frag) (C : Addr) : Prop where
  aC : PySem.W.nsIn K mainGlobals "Line" = some (some (.ref C))
  pg : PySem.W.plainGet K C Str.empty = true
  hd : PySem.W.hasDictIn K C = true
  po : PySem.W.plainOver K C = true
  sa : PySem.W.findIn K (.ref C) "__setattr__" = some (some (.builtin "object.__setattr__"))
  mks : PySem.W.makesIn K C = true
  kc : PySem.W.keepIn K (.ref C) = true
  nS : PySem.W.findIn K (.ref C) "slope" = some none
  nH : PySem.W.findIn K (.ref C) "height" = some none
  sf : PySem.W.selfFirst K C = true
  ca : PySem.W.findIn K (.ref C) "__class__" = some (some (.builtin "object.__class__"))
  cn : PySem.W.specialIn K (.builtin "object.__class__") "__get__" = some (some (.builtin "getset_descriptor.__get__"))
  ct : PySem.W.takesIn K (.builtin "object.__class__") = some true
  cm : PySem.W.mroIn K C (.type "object") = some true
  ne : PySem.W.findIn K (.ref C) "__ne__" = some (some (.builtin "object.__ne__"))
  kLL : PySem.W.kitOne K (.ref C) (.ref C) = some true
  kIL : PySem.W.kitOne K (.type "int") (.ref C) = some false
  kTL : PySem.W.kitOne K (.type "tuple") (.ref C) = some false
theorem LAt.txt {K : PySem.W.Frag} {C : Addr} {h : Heap} {mg : Str → Option Value} (L : LAt K C) (X : K.In h) (G : h.Ns mainGlobals mg) (Z : ZAt K) : LTxt K mg C :=
  ⟨⟨L.pg, L.hd, L.po, L.sa⟩, L.nS, L.nH, PySem.W.mg_of X G L.aC, L.sf, ⟨L.ca, L.cn, L.ct, L.cm⟩, L.kLL, L.kIL, L.kTL, PySem.W.mg_none_of X G Z.isi, PySem.W.mg_none_of X G Z.int, PySem.W.mg_none_of X G Z.bool⟩
theorem blk_lit : (10 : Int) ^ 60 = 1000000000000000000000000000000000000000000000000000000000000 := by decide
theorem blk_of {p : Program} {lv : List (Str × PySem.W.WData)} {mg : Str → Option Value} {h : Heap} (X : PySem.W.XL p lv mg h) (hm : (("_BLOCK" : Str), PySem.W.WData.int 1000000000000000000000000000000000000000000000000000000000000) ∈ lv) : ∃ t, mg "_BLOCK" = some (.int (10 ^ 60) t) := by
  obtain ⟨v, hv, hr⟩ := X.2.val _ hm
  cases hr with
  | int i t => exact ⟨t, by rw [blk_lit]; exact hv⟩
theorem lmk_of {P : Program} {w : World} {K : PySem.W.Frag} {mg : Str → Option Value} {base : Heap} {C : Addr} (T : LTxt K mg C) (L : LAt K C) (mI : MtAt K C "__init__" "__init__" "Line.__init__" sLInit) : LMk P w K mg base C := ⟨T, by
    obtain ⟨f, fd, F, a, b, c⟩ := mI.ex
    exact ⟨f, fd, ⟨L.mks, a, b, L.kc⟩, ok_linit F T, F.binds fun _ _ _ _ _ _ us hl => match us, hl with | [_, _, _], _ => rfl⟩⟩
/-- a class of clauses behind the top -/
structure CAt (K : PySem.W.Frag) (C : Addr) (nm : Str) (ns : List Str) : Prop where
  aC : PySem.W.nsIn K mainGlobals nm = some (some (.ref C))
  pg : PySem.W.plainGet K C Str.empty = true
  hd : PySem.W.hasDictIn K C = true
  po : PySem.W.plainOver K C = true
  sa : PySem.W.findIn K (.ref C) "__setattr__" = some (some (.builtin "object.__setattr__"))
  mks : PySem.W.makesIn K C = true
  kc : PySem.W.keepIn K (.ref C) = true
  no : ∀ n ∈ ns, PySem.W.findIn K (.ref C) n = some none
  sf : PySem.W.selfFirst K C = true
  ca : PySem.W.findIn K (.ref C) "__class__" = some (some (.builtin "object.__class__"))
  cn : PySem.W.specialIn K (.builtin "object.__class__") "__get__" = some (some (.builtin "getset_descriptor.__get__"))
  ct : PySem.W.takesIn K (.builtin "object.__class__") = some true
  cm : PySem.W.mroIn K C (.type "object") = some true
  ne : PySem.W.findIn K (.ref C) "__ne__" = some (some (.builtin "object.__ne__"))
  kS : PySem.W.kitOne K (.type "str") (.ref C) = some false
  kT : PySem.W.kitOne K (.type "tuple") (.ref C) = some false
  nS : PySem.W.subIn K (.type "str") (.ref C) = some false
  nT : PySem.W.subIn K (.type "tuple") (.ref C) = some false
theorem fa0 {α : Type} {p : α → Prop} : ∀ x ∈ ([] : List α), p x := fun x h => by cases h
theorem fa1 {α : Type} {p : α → Prop} {a : α} {l : List α} (h : p a) (t : ∀ x ∈ l, p x) : ∀ x ∈ a :: l, p x := fun x hx => by
  rcases List.mem_cons.mp hx with e | e
  · subst e; exact h
  · exact t x e
def cf (c0 c1 c2 c3 c4 c5 c6 : Addr) : Nat → Addr
  | 0 => c0
  | 1 => c1
  | 2 => c2
  | 3 => c3
  | 4 => c4
  | 5 => c5
  | _ => c6
theorem all7 {p : Nat → Prop} (h0 : p 0) (h1 : p 1) (h2 : p 2) (h3 : p 3) (h4 : p 4) (h5 : p 5) (h6 : p 6) : ∀ i, i < 7 → p i := fun i h => by
  rcases kinds7' h with e | e | e | e | e | e | e <;> subst e <;> assumption
/-- which class is which -/
structure K7 (K : PySem.W.Frag) (c0 c1 c2 c3 c4 c5 c6 : Addr) : Prop where
  q00 : PySem.W.kitOne K (.ref c0) (.ref c0) = some true
  q01 : PySem.W.kitOne K (.ref c0) (.ref c1) = some false
  q02 : PySem.W.kitOne K (.ref c0) (.ref c2) = some false
  q03 : PySem.W.kitOne K (.ref c0) (.ref c3) = some false
  q04 : PySem.W.kitOne K (.ref c0) (.ref c4) = some false
  q05 : PySem.W.kitOne K (.ref c0) (.ref c5) = some false
  q06 : PySem.W.kitOne K (.ref c0) (.ref c6) = some false
  q10 : PySem.W.kitOne K (.ref c1) (.ref c0) = some false
  q11 : PySem.W.kitOne K (.ref c1) (.ref c1) = some true
  q12 : PySem.W.kitOne K (.ref c1) (.ref c2) = some false
  q13 : PySem.W.kitOne K (.ref c1) (.ref c3) = some false
  q14 : PySem.W.kitOne K (.ref c1) (.ref c4) = some false
  q15 : PySem.W.kitOne K (.ref c1) (.ref c5) = some false
  q16 : PySem.W.kitOne K (.ref c1) (.ref c6) = some false
  q20 : PySem.W.kitOne K (.ref c2) (.ref c0) = some false
  q21 : PySem.W.kitOne K (.ref c2) (.ref c1) = some false
  q22 : PySem.W.kitOne K (.ref c2) (.ref c2) = some true
  q23 : PySem.W.kitOne K (.ref c2) (.ref c3) = some false
  q24 : PySem.W.kitOne K (.ref c2) (.ref c4) = some false
  q25 : PySem.W.kitOne K (.ref c2) (.ref c5) = some false
  q26 : PySem.W.kitOne K (.ref c2) (.ref c6) = some false
  q30 : PySem.W.kitOne K (.ref c3) (.ref c0) = some false
  q31 : PySem.W.kitOne K (.ref c3) (.ref c1) = some false
  q32 : PySem.W.kitOne K (.ref c3) (.ref c2) = some false
  q33 : PySem.W.kitOne K (.ref c3) (.ref c3) = some true
  q34 : PySem.W.kitOne K (.ref c3) (.ref c4) = some false
  q35 : PySem.W.kitOne K (.ref c3) (.ref c5) = some false
  q36 : PySem.W.kitOne K (.ref c3) (.ref c6) = some false
  q40 : PySem.W.kitOne K (.ref c4) (.ref c0) = some false
  q41 : PySem.W.kitOne K (.ref c4) (.ref c1) = some false
  q42 : PySem.W.kitOne K (.ref c4) (.ref c2) = some false
  q43 : PySem.W.kitOne K (.ref c4) (.ref c3) = some false
  q44 : PySem.W.kitOne K (.ref c4) (.ref c4) = some true
  q45 : PySem.W.kitOne K (.ref c4) (.ref c5) = some false
  q46 : PySem.W.kitOne K (.ref c4) (.ref c6) = some false
  q50 : PySem.W.kitOne K (.ref c5) (.ref c0) = some false
  q51 : PySem.W.kitOne K (.ref c5) (.ref c1) = some false
  q52 : PySem.W.kitOne K (.ref c5) (.ref c2) = some false
  q53 : PySem.W.kitOne K (.ref c5) (.ref c3) = some false
  q54 : PySem.W.kitOne K (.ref c5) (.ref c4) = some false
  q55 : PySem.W.kitOne K (.ref c5) (.ref c5) = some true
  q56 : PySem.W.kitOne K (.ref c5) (.ref c6) = some false
  q60 : PySem.W.kitOne K (.ref c6) (.ref c0) = some false
  q61 : PySem.W.kitOne K (.ref c6) (.ref c1) = some false
  q62 : PySem.W.kitOne K (.ref c6) (.ref c2) = some false
  q63 : PySem.W.kitOne K (.ref c6) (.ref c3) = some false
  q64 : PySem.W.kitOne K (.ref c6) (.ref c4) = some false
  q65 : PySem.W.kitOne K (.ref c6) (.ref c5) = some false
  q66 : PySem.W.kitOne K (.ref c6) (.ref c6) = some true
  s01 : PySem.W.subIn K (.ref c0) (.ref c1) = some false
  s02 : PySem.W.subIn K (.ref c0) (.ref c2) = some false
  s03 : PySem.W.subIn K (.ref c0) (.ref c3) = some false
  s04 : PySem.W.subIn K (.ref c0) (.ref c4) = some false
  s05 : PySem.W.subIn K (.ref c0) (.ref c5) = some false
  s06 : PySem.W.subIn K (.ref c0) (.ref c6) = some false
  s10 : PySem.W.subIn K (.ref c1) (.ref c0) = some false
  s12 : PySem.W.subIn K (.ref c1) (.ref c2) = some false
  s13 : PySem.W.subIn K (.ref c1) (.ref c3) = some false
  s14 : PySem.W.subIn K (.ref c1) (.ref c4) = some false
  s15 : PySem.W.subIn K (.ref c1) (.ref c5) = some false
  s16 : PySem.W.subIn K (.ref c1) (.ref c6) = some false
  s20 : PySem.W.subIn K (.ref c2) (.ref c0) = some false
  s21 : PySem.W.subIn K (.ref c2) (.ref c1) = some false
  s23 : PySem.W.subIn K (.ref c2) (.ref c3) = some false
  s24 : PySem.W.subIn K (.ref c2) (.ref c4) = some false
  s25 : PySem.W.subIn K (.ref c2) (.ref c5) = some false
  s26 : PySem.W.subIn K (.ref c2) (.ref c6) = some false
  s30 : PySem.W.subIn K (.ref c3) (.ref c0) = some false
  s31 : PySem.W.subIn K (.ref c3) (.ref c1) = some false
  s32 : PySem.W.subIn K (.ref c3) (.ref c2) = some false
  s34 : PySem.W.subIn K (.ref c3) (.ref c4) = some false
  s35 : PySem.W.subIn K (.ref c3) (.ref c5) = some false
  s36 : PySem.W.subIn K (.ref c3) (.ref c6) = some false
  s40 : PySem.W.subIn K (.ref c4) (.ref c0) = some false
  s41 : PySem.W.subIn K (.ref c4) (.ref c1) = some false
  s42 : PySem.W.subIn K (.ref c4) (.ref c2) = some false
  s43 : PySem.W.subIn K (.ref c4) (.ref c3) = some false
  s45 : PySem.W.subIn K (.ref c4) (.ref c5) = some false
  s46 : PySem.W.subIn K (.ref c4) (.ref c6) = some false
  s50 : PySem.W.subIn K (.ref c5) (.ref c0) = some false
  s51 : PySem.W.subIn K (.ref c5) (.ref c1) = some false
  s52 : PySem.W.subIn K (.ref c5) (.ref c2) = some false
  s53 : PySem.W.subIn K (.ref c5) (.ref c3) = some false
  s54 : PySem.W.subIn K (.ref c5) (.ref c4) = some false
  s56 : PySem.W.subIn K (.ref c5) (.ref c6) = some false
  s60 : PySem.W.subIn K (.ref c6) (.ref c0) = some false
  s61 : PySem.W.subIn K (.ref c6) (.ref c1) = some false
  s62 : PySem.W.subIn K (.ref c6) (.ref c2) = some false
  s63 : PySem.W.subIn K (.ref c6) (.ref c3) = some false
  s64 : PySem.W.subIn K (.ref c6) (.ref c4) = some false
  s65 : PySem.W.subIn K (.ref c6) (.ref c5) = some false

theorem K7.kk {K : PySem.W.Frag} {c0 c1 c2 c3 c4 c5 c6 : Addr} (k : K7 K c0 c1 c2 c3 c4 c5 c6) : ∀ i, i < 7 → ∀ j, j < 7 → PySem.W.kitOne K (.ref (cf c0 c1 c2 c3 c4 c5 c6 i)) (.ref (cf c0 c1 c2 c3 c4 c5 c6 j)) = some (decide (i = j)) :=
  all7 (all7 k.q00 k.q01 k.q02 k.q03 k.q04 k.q05 k.q06) (all7 k.q10 k.q11 k.q12 k.q13 k.q14 k.q15 k.q16) (all7 k.q20 k.q21 k.q22 k.q23 k.q24 k.q25 k.q26) (all7 k.q30 k.q31 k.q32 k.q33 k.q34 k.q35 k.q36) (all7 k.q40 k.q41 k.q42 k.q43 k.q44 k.q45 k.q46) (all7 k.q50 k.q51 k.q52 k.q53 k.q54 k.q55 k.q56) (all7 k.q60 k.q61 k.q62 k.q63 k.q64 k.q65 k.q66)
theorem nf_of {K : PySem.W.Frag} {C : Addr} {v : Value} (h : PySem.W.subIn K v (.ref C) = some false) : PySem.W.notFirst K C v = true := by simp [PySem.W.notFirst, h]
theorem K7.cc {K : PySem.W.Frag} {c0 c1 c2 c3 c4 c5 c6 : Addr} (k : K7 K c0 c1 c2 c3 c4 c5 c6) : ∀ i, i < 7 → ∀ j, j < 7 → PySem.W.notFirst K (cf c0 c1 c2 c3 c4 c5 c6 i) (.ref (cf c0 c1 c2 c3 c4 c5 c6 j)) = true :=
  all7 (all7 nf_self (nf_of k.s10) (nf_of k.s20) (nf_of k.s30) (nf_of k.s40) (nf_of k.s50) (nf_of k.s60)) (all7 (nf_of k.s01) nf_self (nf_of k.s21) (nf_of k.s31) (nf_of k.s41) (nf_of k.s51) (nf_of k.s61)) (all7 (nf_of k.s02) (nf_of k.s12) nf_self (nf_of k.s32) (nf_of k.s42) (nf_of k.s52) (nf_of k.s62)) (all7 (nf_of k.s03) (nf_of k.s13) (nf_of k.s23) nf_self (nf_of k.s43) (nf_of k.s53) (nf_of k.s63)) (all7 (nf_of k.s04) (nf_of k.s14) (nf_of k.s24) (nf_of k.s34) nf_self (nf_of k.s54) (nf_of k.s64)) (all7 (nf_of k.s05) (nf_of k.s15) (nf_of k.s25) (nf_of k.s35) (nf_of k.s45) nf_self (nf_of k.s65)) (all7 (nf_of k.s06) (nf_of k.s16) (nf_of k.s26) (nf_of k.s36) (nf_of k.s46) (nf_of k.s56) nf_self)
/-- the class Reader behind the top -/
structure RAt (K : PySem.W.Frag) (C : Addr) : Prop where
  aC : PySem.W.nsIn K mainGlobals "Reader" = some (some (.ref C))
  pg : PySem.W.plainGet K C Str.empty = true
  hd : PySem.W.hasDictIn K C = true
  po : PySem.W.plainOver K C = true
  sa : PySem.W.findIn K (.ref C) "__setattr__" = some (some (.builtin "object.__setattr__"))
  mks : PySem.W.makesIn K C = true
  kc : PySem.W.keepIn K (.ref C) = true
  nW : PySem.W.findIn K (.ref C) "_words" = some none
  nA : PySem.W.findIn K (.ref C) "_at" = some none
  nF : PySem.W.findIn K (.ref C) "_functions" = some none
  nL : PySem.W.findIn K (.ref C) "_last" = some none
theorem RAt.txt {K : PySem.W.Frag} {C : Addr} {h : Heap} {mg : Str → Option Value} (L : RAt K C) (X : K.In h) (G : h.Ns mainGlobals mg) : RdTxt K mg C :=
  ⟨⟨L.pg, L.hd, L.po, L.sa⟩, L.nW, L.nA, L.nF, L.nL, PySem.W.mg_of X G L.aC⟩
/-- a function of the top at its address -/
structure FnAtA (K : PySem.W.Frag) (x : Str) (st : Stmt) (f : Addr) : Prop where
  ex : ∃ fd, Fun K x x st f fd
theorem fnAtA {K : PySem.W.Frag} {h : Heap} {x : Str} {st : Stmt} {f : Addr} {oc : Value} {od an : Option Addr} {osl : Array (Option Value)} {kV doc pm cdv ct : Value} (_X : K.In h)
    (l : K.lookup f = some ⟨oc, od, .func (PySem.W.fnOf x x (defArgs st) (defBody st) (defScope st) .none kV doc pm an cdv ct), osl⟩)
    (c : PySem.W.codeIn K cdv x = true) (k : PySem.W.keepIn K (.ref f) = true) : FnAtA K x st f := ⟨_, fun_mk l c k⟩
theorem held_of {P : Program} {w : World} {K : PySem.W.Frag} {mg : Str → Option Value} {base : Heap} {x : Str} {st : Stmt} {f : Addr} {k : Nat} {ps : List Str} {sp : Sp} (a : FnAtA K x st f)
    (hb : ∀ (kV doc pm : Value) (an : Option Addr) (cdv ct : Value) (us : List Value), us.length = ps.length → bindArgs (PySem.W.fnOf x x (defArgs st) (defBody st) (defScope st) .none kV doc pm an cdv ct) ⟨us, []⟩ = pure (ps.zip us))
    (ok : ∀ fd, Fun K x x st f fd → FnOk P w K mg base CX0 k f fd ps sp) : ∃ fd, FnOk P w K mg base CX0 k f fd ps sp ∧ PySem.W.keepIn K (.ref f) = true ∧ Binds K fd ps [] := by
  obtain ⟨fd, F⟩ := a.ex
  exact ⟨fd, ok fd F, F.kp, F.binds hb⟩
/-- a tuple of texts at the top -/
structure TpAt (K : PySem.W.Frag) (nm : Str) (xs : List Str) : Prop where
  ex : ∃ ts, PySem.W.nsIn K mainGlobals nm = some (some (.ref ts)) ∧ ∀ H : Hp, SqT K H ts (xs.map V.str)
theorem tp3 {K : PySem.W.Frag} {h : Heap} {nm x y z : Str} {f : Addr} {tx ty tz : Nat} {d : Option Addr} {n : Nat} {s : Array (Option Value)} (_X : K.In h) (a : PySem.W.nsIn K mainGlobals nm = some (some (.ref f))) (l : K.lookup f = some ⟨.type "tuple", d, .seq #[.str x tx, .str y ty, .str z tz] n, s⟩) : TpAt K nm [x, y, z] :=
  ⟨f, a, fun H => .inr ⟨_, _, n, l, rfl, rfl, (by show 3 ≤ sizeLine; decide), .cons ⟨_, rfl⟩ (.cons ⟨_, rfl⟩ (.cons ⟨_, rfl⟩ .nil))⟩⟩
theorem tp2 {K : PySem.W.Frag} {h : Heap} {nm x y : Str} {f : Addr} {tx ty : Nat} {d : Option Addr} {n : Nat} {s : Array (Option Value)} (_X : K.In h) (a : PySem.W.nsIn K mainGlobals nm = some (some (.ref f))) (l : K.lookup f = some ⟨.type "tuple", d, .seq #[.str x tx, .str y ty] n, s⟩) : TpAt K nm [x, y] :=
  ⟨f, a, fun H => .inr ⟨_, _, n, l, rfl, rfl, (by show 2 ≤ sizeLine; decide), .cons ⟨_, rfl⟩ (.cons ⟨_, rfl⟩ .nil)⟩⟩
end OR

namespace OR
open PySem PySem.Spec PyProof.Rows L2
/-- what the proof reads of the heap behind the top -/
def K90 : Params → PySem.W.Frag := fun P =>
  (nat_lit 2, (⟨.none, none, .dict #[] 0, #[]⟩ : Obj)) ::
  (nat_lit 3, (⟨(.type "dict"), none, .dict #[⟨PyData.keyHash P "__name__", (.str "__name__" 165), (.str "law_openranges_k90_clauses_as_texts" 1815)⟩, ⟨PyData.keyHash P "__doc__", (.str "__doc__" 166), .none⟩, ⟨PyData.keyHash P "__package__", (.str "__package__" 167), .none⟩, ⟨PyData.keyHash P "__loader__", (.str "__loader__" 168), (.builtin "__main__.__loader__#opaque")⟩, ⟨PyData.keyHash P "__spec__", (.str "__spec__" 169), .none⟩, ⟨PyData.keyHash P "__annotations__", (.str "__annotations__" 170), (.ref 6)⟩, ⟨PyData.keyHash P "__builtins__", (.str "__builtins__" 171), (.ref 4)⟩, ⟨PyData.keyHash P "__file__", (.str "__file__" 173), (.str "/claim/cut.py" 172)⟩, ⟨PyData.keyHash P "__cached__", (.str "__cached__" 174), .none⟩, ⟨PyData.keyHash P "_wall", (.str "_wall" 193), (.ref 21)⟩, ⟨PyData.keyHash P "RangesError", (.str "RangesError" 213), (.ref 31)⟩, ⟨PyData.keyHash P "BadStretch", (.str "BadStretch" 238), (.ref 51)⟩, ⟨PyData.keyHash P "BadText", (.str "BadText" 263), (.ref 70)⟩, ⟨PyData.keyHash P "BadWord", (.str "BadWord" 288), (.ref 89)⟩, ⟨PyData.keyHash P "SameFunction", (.str "SameFunction" 313), (.ref 108)⟩, ⟨PyData.keyHash P "BadSign", (.str "BadSign" 338), (.ref 127)⟩, ⟨PyData.keyHash P "NoPlace", (.str "NoPlace" 363), (.ref 146)⟩, ⟨PyData.keyHash P "LAST_PLACE", (.str "LAST_PLACE" 369), (.int 1000000000000000000000000000000 368)⟩, ⟨PyData.keyHash P "_BLOCK_DIGITS", (.str "_BLOCK_DIGITS" 371), (.int 60 370)⟩, ⟨PyData.keyHash P "_BLOCK", (.str "_BLOCK" 375), (.int 1000000000000000000000000000000000000000000000000000000000000 374)⟩, ⟨PyData.keyHash P "is_integer", (.str "is_integer" 382), (.ref 155)⟩, ⟨PyData.keyHash P "is_place", (.str "is_place" 389), (.ref 162)⟩, ⟨PyData.keyHash P "decimal", (.str "decimal" 400), (.ref 169)⟩, ⟨PyData.keyHash P "read_decimal", (.str "read_decimal" 411), (.ref 176)⟩, ⟨PyData.keyHash P "read_place", (.str "read_place" 419), (.ref 183)⟩, ⟨PyData.keyHash P "Line", (.str "Line" 549), (.ref 284)⟩, ⟨PyData.keyHash P "_rising_text", (.str "_rising_text" 556), (.ref 295)⟩, ⟨PyData.keyHash P "_LETTERS", (.str "_LETTERS" 560), (.str "abcdefghijklmnopqrstuvwxyz" 559)⟩, ⟨PyData.keyHash P "_MOST_LETTERS", (.str "_MOST_LETTERS" 562), (.int 8 561)⟩, ⟨PyData.keyHash P "is_word", (.str "is_word" 568), (.ref 300)⟩, ⟨PyData.keyHash P "check_word", (.str "check_word" 575), (.ref 307)⟩, ⟨PyData.keyHash P "check_two_words", (.str "check_two_words" 583), (.ref 314)⟩, ⟨PyData.keyHash P "check_sign", (.str "check_sign" 591), (.ref 321)⟩, ⟨PyData.keyHash P "SIGNS", (.str "SIGNS" 597), (.ref 322)⟩, ⟨PyData.keyHash P "WAYS", (.str "WAYS" 600), (.ref 323)⟩, ⟨PyData.keyHash P "Answers", (.str "Answers" 686), (.ref 389)⟩, ⟨PyData.keyHash P "Refuses", (.str "Refuses" 772), (.ref 459)⟩, ⟨PyData.keyHash P "Needs", (.str "Needs" 860), (.ref 529)⟩, ⟨PyData.keyHash P "Spreads", (.str "Spreads" 948), (.ref 599)⟩, ⟨PyData.keyHash P "Bound", (.str "Bound" 1048), (.ref 676)⟩, ⟨PyData.keyHash P "Pair", (.str "Pair" 1151), (.ref 753)⟩, ⟨PyData.keyHash P "Step", (.str "Step" 1241), (.ref 823)⟩, ⟨PyData.keyHash P "_beginning", (.str "_beginning" 1248), (.ref 834)⟩, ⟨PyData.keyHash P "_added_text", (.str "_added_text" 1256), (.ref 841)⟩, ⟨PyData.keyHash P "overlaps", (.str "overlaps" 1271), (.ref 848)⟩, ⟨PyData.keyHash P "Places", (.str "Places" 1464), (.ref 999)⟩, ⟨PyData.keyHash P "read_stretches", (.str "read_stretches" 1477), (.ref 1010)⟩, ⟨PyData.keyHash P "_is_stretch", (.str "_is_stretch" 1486), (.ref 1017)⟩, ⟨PyData.keyHash P "_joined", (.str "_joined" 1492), (.ref 1022)⟩, ⟨PyData.keyHash P "_counts_before", (.str "_counts_before" 1503), (.ref 1029)⟩, ⟨PyData.keyHash P "_how_many_upto", (.str "_how_many_upto" 1514), (.ref 1036)⟩, ⟨PyData.keyHash P "_common", (.str "_common" 1520), (.ref 1041)⟩, ⟨PyData.keyHash P "_gaps", (.str "_gaps" 1531), (.ref 1048)⟩, ⟨PyData.keyHash P "_stretch_text", (.str "_stretch_text" 1539), (.ref 1055)⟩, ⟨PyData.keyHash P "_read_stretch", (.str "_read_stretch" 1551), (.ref 1062)⟩, ⟨PyData.keyHash P "Reader", (.str "Reader" 1649), (.ref 1135)⟩, ⟨PyData.keyHash P "read_whole_clause", (.str "read_whole_clause" 1661), (.ref 1146)⟩, ⟨PyData.keyHash P "_read_answers", (.str "_read_answers" 1670), (.ref 1153)⟩, ⟨PyData.keyHash P "_read_refuses", (.str "_read_refuses" 1679), (.ref 1160)⟩, ⟨PyData.keyHash P "_read_needs", (.str "_read_needs" 1688), (.ref 1167)⟩, ⟨PyData.keyHash P "_read_spreads", (.str "_read_spreads" 1697), (.ref 1174)⟩, ⟨PyData.keyHash P "_read_bound", (.str "_read_bound" 1708), (.ref 1181)⟩, ⟨PyData.keyHash P "_read_pair", (.str "_read_pair" 1720), (.ref 1188)⟩, ⟨PyData.keyHash P "_read_step", (.str "_read_step" 1731), (.ref 1195)⟩, ⟨PyData.keyHash P "_read_other", (.str "_read_other" 1740), (.ref 1202)⟩, ⟨PyData.keyHash P "_read_line", (.str "_read_line" 1748), (.ref 1209)⟩, ⟨PyData.keyHash P "_read_added_line", (.str "_read_added_line" 1756), (.ref 1216)⟩, ⟨PyData.keyHash P "_line_from", (.str "_line_from" 1766), (.ref 1223)⟩, ⟨PyData.keyHash P "_read_height", (.str "_read_height" 1774), (.ref 1230)⟩, ⟨PyData.keyHash P "_read_plus_or_minus", (.str "_read_plus_or_minus" 1781), (.ref 1237)⟩, ⟨PyData.keyHash P "_above_nought", (.str "_above_nought" 1790), (.ref 1244)⟩, ⟨PyData.keyHash P "_KINDS", (.str "_KINDS" 1805), (.ref 1245)⟩, ⟨PyData.keyHash P "read_clause", (.str "read_clause" 1814), (.ref 1252)⟩, ⟨PyData.keyHash P "_law_pen", (.str "_law_pen" 1823), (.ref 1259)⟩, ⟨PyData.keyHash P "_law_draw", (.str "_law_draw" 1835), (.ref 1266)⟩, ⟨PyData.keyHash P "_law_pick", (.str "_law_pick" 1843), (.ref 1273)⟩, ⟨PyData.keyHash P "_law_shuffled", (.str "_law_shuffled" 1853), (.ref 1280)⟩, ⟨PyData.keyHash P "_law_words", (.str "_law_words" 1859), (.ref 1285)⟩, ⟨PyData.keyHash P "_law_far", (.str "_law_far" 1870), (.ref 1292)⟩, ⟨PyData.keyHash P "_law_places_text", (.str "_law_places_text" 1876), (.ref 1297)⟩, ⟨PyData.keyHash P "_law_far_stretches", (.str "_law_far_stretches" 1888), (.ref 1304)⟩, ⟨PyData.keyHash P "_law_term", (.str "_law_term" 1901), (.ref 1311)⟩, ⟨PyData.keyHash P "_law_far_clause", (.str "_law_far_clause" 1921), (.ref 1318)⟩, ⟨PyData.keyHash P "law", (.str "law" 1932), (.ref 1325)⟩] 84, #[]⟩ : Obj)) ::
  (nat_lit 154, (⟨(.type "code"), none, .fields #[.str "is_integer" 376, .str "is_integer" 377, .str "/claim/cut.py" 378, .int 35 0, .int 1 0, .int 0 0, .int 0 0, .int 3 0, .ref 149, .bool true, .int 181 0, .ref 150, .none, .ref 151, .ref 152, .ref 153, .int 380 0, .int 35 0, .str "/claim/cut.py" 381], #[]⟩ : Obj)) ::
  (nat_lit 155, (⟨(.type "function"), none, .func (PySem.W.fnOf "is_integer" "is_integer" (defArgs sIsInt) (defBody sIsInt) (defScope sIsInt) .none .none .none (.str "openranges.integers" 364) none (.ref 154) .none), #[]⟩ : Obj)) ::
  (nat_lit 161, (⟨(.type "code"), none, .fields #[.str "is_place" 383, .str "is_place" 384, .str "/claim/cut.py" 385, .int 37 0, .int 1 0, .int 0 0, .int 0 0, .int 3 0, .ref 156, .bool true, .int 181 0, .ref 157, .none, .ref 158, .ref 159, .ref 160, .int 387 0, .int 37 0, .str "/claim/cut.py" 388], #[]⟩ : Obj)) ::
  (nat_lit 162, (⟨(.type "function"), none, .func (PySem.W.fnOf "is_place" "is_place" (defArgs sIsPlace) (defBody sIsPlace) (defScope sIsPlace) .none .none .none (.str "openranges.integers" 364) none (.ref 161) .none), #[]⟩ : Obj)) ::
  (nat_lit 168, (⟨(.type "code"), none, .fields #[.str "decimal" 390, .str "decimal" 391, .str "/claim/cut.py" 392, .int 39 0, .int 1 0, .int 0 0, .int 0 0, .int 3 0, .ref 163, .bool true, .int 181 0, .ref 164, .none, .ref 165, .ref 166, .ref 167, .int 398 0, .int 39 0, .str "/claim/cut.py" 399], #[]⟩ : Obj)) ::
  (nat_lit 169, (⟨(.type "function"), none, .func (PySem.W.fnOf "decimal" "decimal" (defArgs sDec) (defBody sDec) (defScope sDec) .none .none .none (.str "openranges.integers" 364) none (.ref 168) .none), #[]⟩ : Obj)) ::
  (nat_lit 175, (⟨(.type "code"), none, .fields #[.str "read_decimal" 401, .str "read_decimal" 402, .str "/claim/cut.py" 403, .int 48 0, .int 1 0, .int 0 0, .int 0 0, .int 3 0, .ref 170, .bool true, .int 181 0, .ref 171, .none, .ref 172, .ref 173, .ref 174, .int 409 0, .int 48 0, .str "/claim/cut.py" 410], #[]⟩ : Obj)) ::
  (nat_lit 176, (⟨(.type "function"), none, .func (PySem.W.fnOf "read_decimal" "read_decimal" (defArgs sRDec) (defBody sRDec) (defScope sRDec) .none .none .none (.str "openranges.integers" 364) none (.ref 175) .none), #[]⟩ : Obj)) ::
  (nat_lit 182, (⟨(.type "code"), none, .fields #[.str "read_place" 412, .str "read_place" 413, .str "/claim/cut.py" 414, .int 57 0, .int 1 0, .int 0 0, .int 0 0, .int 3 0, .ref 177, .bool true, .int 181 0, .ref 178, .none, .ref 179, .ref 180, .ref 181, .int 417 0, .int 57 0, .str "/claim/cut.py" 418], #[]⟩ : Obj)) ::
  (nat_lit 183, (⟨(.type "function"), none, .func (PySem.W.fnOf "read_place" "read_place" (defArgs sRPl) (defBody sRPl) (defScope sRPl) .none .none .none (.str "openranges.integers" 364) none (.ref 182) .none), #[]⟩ : Obj)) ::
  (nat_lit 196, (⟨(.type "code"), none, .fields #[.str "__init__" 434, .str "Line.__init__" 435, .str "/claim/cut.py" 436, .int 63 0, .int 3 0, .int 0 0, .int 0 0, .int 3 0, .ref 191, .bool true, .int 181 0, .ref 192, .none, .ref 193, .ref 194, .ref 195, .int 440 0, .int 63 0, .str "/claim/cut.py" 441], #[]⟩ : Obj)) ::
  (nat_lit 197, (⟨(.type "function"), none, .func (PySem.W.fnOf "__init__" "Line.__init__" (defArgs sLInit) (defBody sLInit) (defScope sLInit) .none .none .none (.str "openranges.lines" 420) none (.ref 196) .none), #[]⟩ : Obj)) ::
  (nat_lit 280, (⟨(.type "code"), none, .fields #[.str "text" 530, .str "Line.text" 531, .str "/claim/cut.py" 532, .int 108 0, .int 1 0, .int 0 0, .int 0 0, .int 3 0, .ref 275, .bool true, .int 181 0, .ref 276, .none, .ref 277, .ref 278, .ref 279, .int 536 0, .int 108 0, .str "/claim/cut.py" 537], #[]⟩ : Obj)) ::
  (nat_lit 281, (⟨(.type "function"), none, .func (PySem.W.fnOf "text" "Line.text" (defArgs sLText) (defBody sLText) (defScope sLText) .none .none .none (.str "openranges.lines" 420) none (.ref 280) .none), #[]⟩ : Obj)) ::
  (nat_lit 283, (⟨(.type "dict"), none, .dict #[⟨PyData.keyHash P "__module__", (.str "__module__" 429), (.str "openranges.lines" 420)⟩, ⟨PyData.keyHash P "__firstlineno__", (.str "__firstlineno__" 433), (.int 61 432)⟩, ⟨PyData.keyHash P "__init__", (.str "__init__" 442), (.ref 197)⟩, ⟨PyData.keyHash P "__call__", (.str "__call__" 450), (.ref 204)⟩, ⟨PyData.keyHash P "__eq__", (.str "__eq__" 458), (.ref 211)⟩, ⟨PyData.keyHash P "__add__", (.str "__add__" 466), (.ref 218)⟩, ⟨PyData.keyHash P "__radd__", (.str "__radd__" 474), (.ref 225)⟩, ⟨PyData.keyHash P "__neg__", (.str "__neg__" 481), (.ref 232)⟩, ⟨PyData.keyHash P "__sub__", (.str "__sub__" 489), (.ref 239)⟩, ⟨PyData.keyHash P "__rsub__", (.str "__rsub__" 497), (.ref 246)⟩, ⟨PyData.keyHash P "__mul__", (.str "__mul__" 505), (.ref 253)⟩, ⟨PyData.keyHash P "__rmul__", (.str "__rmul__" 513), (.ref 260)⟩, ⟨PyData.keyHash P "moved", (.str "moved" 521), (.ref 267)⟩, ⟨PyData.keyHash P "mirrored", (.str "mirrored" 529), (.ref 274)⟩, ⟨PyData.keyHash P "text", (.str "text" 538), (.ref 281)⟩, ⟨PyData.keyHash P "__static_attributes__", (.str "__static_attributes__" 541), (.ref 282)⟩, ⟨PyData.keyHash P "__dict__", (.str "__dict__" 543), (.ref 285)⟩, ⟨PyData.keyHash P "__weakref__", (.str "__weakref__" 545), (.ref 286)⟩, ⟨PyData.keyHash P "__doc__", (.str "__doc__" 546), .none⟩, ⟨PyData.keyHash P "__hash__", (.str "__hash__" 547), .none⟩] 5, #[]⟩ : Obj)) ::
  (nat_lit 284, (⟨(.type "type"), none, .cls ⟨"Line", [.type "object"], [.ref 284, .type "object"], 283, "Line", true, [], [], false, none, false⟩, #[none, none, some (.str "Line" 422), some (.str "Line" 430), some (.builtin "object.__new__"), some (.bool true)]⟩ : Obj)) ::
  (nat_lit 294, (⟨(.type "code"), none, .fields #[.str "_rising_text" 550, .str "_rising_text" 551, .str "/claim/cut.py" 552, .int 116 0, .int 1 0, .int 0 0, .int 0 0, .int 3 0, .ref 289, .bool true, .int 181 0, .ref 290, .none, .ref 291, .ref 292, .ref 293, .int 554 0, .int 116 0, .str "/claim/cut.py" 555], #[]⟩ : Obj)) ::
  (nat_lit 295, (⟨(.type "function"), none, .func (PySem.W.fnOf "_rising_text" "_rising_text" (defArgs sRise) (defBody sRise) (defScope sRise) .none .none .none (.str "openranges.lines" 420) none (.ref 294) .none), #[]⟩ : Obj)) ::
  (nat_lit 299, (⟨(.type "code"), none, .fields #[.str "is_word" 563, .str "is_word" 564, .str "/claim/cut.py" 565, .int 125 0, .int 1 0, .int 0 0, .int 0 0, .int 3 0, .ref 296, .bool true, .int 181 0, .ref 297, .none, .none, .none, .ref 298, .int 566 0, .int 125 0, .str "/claim/cut.py" 567], #[]⟩ : Obj)) ::
  (nat_lit 300, (⟨(.type "function"), none, .func (PySem.W.fnOf "is_word" "is_word" (defArgs sIsWord) (defBody sIsWord) (defScope sIsWord) .none .none .none (.str "openranges.words" 557) none (.ref 299) .none), #[]⟩ : Obj)) ::
  (nat_lit 306, (⟨(.type "code"), none, .fields #[.str "check_word" 569, .str "check_word" 570, .str "/claim/cut.py" 571, .int 129 0, .int 1 0, .int 0 0, .int 0 0, .int 3 0, .ref 301, .bool true, .int 181 0, .ref 302, .none, .ref 303, .ref 304, .ref 305, .int 573 0, .int 129 0, .str "/claim/cut.py" 574], #[]⟩ : Obj)) ::
  (nat_lit 307, (⟨(.type "function"), none, .func (PySem.W.fnOf "check_word" "check_word" (defArgs sChkW) (defBody sChkW) (defScope sChkW) .none .none .none (.str "openranges.words" 557) none (.ref 306) .none), #[]⟩ : Obj)) ::
  (nat_lit 313, (⟨(.type "code"), none, .fields #[.str "check_two_words" 576, .str "check_two_words" 577, .str "/claim/cut.py" 578, .int 132 0, .int 2 0, .int 0 0, .int 0 0, .int 3 0, .ref 308, .bool true, .int 181 0, .ref 309, .none, .ref 310, .ref 311, .ref 312, .int 581 0, .int 132 0, .str "/claim/cut.py" 582], #[]⟩ : Obj)) ::
  (nat_lit 314, (⟨(.type "function"), none, .func (PySem.W.fnOf "check_two_words" "check_two_words" (defArgs sChkTwo) (defBody sChkTwo) (defScope sChkTwo) .none .none .none (.str "openranges.words" 557) none (.ref 313) .none), #[]⟩ : Obj)) ::
  (nat_lit 320, (⟨(.type "code"), none, .fields #[.str "check_sign" 584, .str "check_sign" 585, .str "/claim/cut.py" 586, .int 137 0, .int 2 0, .int 0 0, .int 0 0, .int 3 0, .ref 315, .bool true, .int 181 0, .ref 316, .none, .ref 317, .ref 318, .ref 319, .int 589 0, .int 137 0, .str "/claim/cut.py" 590], #[]⟩ : Obj)) ::
  (nat_lit 321, (⟨(.type "function"), none, .func (PySem.W.fnOf "check_sign" "check_sign" (defArgs sChkSign) (defBody sChkSign) (defScope sChkSign) .none .none .none (.str "openranges.words" 557) none (.ref 320) .none), #[]⟩ : Obj)) ::
  (nat_lit 322, (⟨(.type "tuple"), none, .seq #[.str "<=" 594, .str ">=" 595, .str "=" 596] 0, #[]⟩ : Obj)) ::
  (nat_lit 323, (⟨(.type "tuple"), none, .seq #[.str "up" 598, .str "down" 599] 0, #[]⟩ : Obj)) ::
  (nat_lit 336, (⟨(.type "code"), none, .fields #[.str "__init__" 613, .str "Answers.__init__" 614, .str "/claim/cut.py" 615, .int 145 0, .int 3 0, .int 0 0, .int 0 0, .int 3 0, .ref 331, .bool true, .int 181 0, .ref 332, .none, .ref 333, .ref 334, .ref 335, .int 619 0, .int 145 0, .str "/claim/cut.py" 620], #[]⟩ : Obj)) ::
  (nat_lit 337, (⟨(.type "function"), none, .func (PySem.W.fnOf "__init__" "Answers.__init__" (defArgs sAnsInit) (defBody sAnsInit) (defScope sAnsInit) .none .none .none (.str "openranges.clauses" 592) none (.ref 336) .none), #[]⟩ : Obj)) ::
  (nat_lit 343, (⟨(.type "code"), none, .fields #[.str "__eq__" 622, .str "Answers.__eq__" 623, .str "/claim/cut.py" 624, .int 151 0, .int 2 0, .int 0 0, .int 0 0, .int 3 0, .ref 338, .bool true, .int 181 0, .ref 339, .none, .ref 340, .ref 341, .ref 342, .int 627 0, .int 151 0, .str "/claim/cut.py" 628], #[]⟩ : Obj)) ::
  (nat_lit 344, (⟨(.type "function"), none, .func (PySem.W.fnOf "__eq__" "Answers.__eq__" (defArgs sAnsEq) (defBody sAnsEq) (defScope sAnsEq) .none .none .none (.str "openranges.clauses" 592) none (.ref 343) .none), #[]⟩ : Obj)) ::
  (nat_lit 385, (⟨(.type "code"), none, .fields #[.str "text" 668, .str "Answers.text" 669, .str "/claim/cut.py" 670, .int 169 0, .int 1 0, .int 0 0, .int 0 0, .int 3 0, .ref 380, .bool true, .int 181 0, .ref 381, .none, .ref 382, .ref 383, .ref 384, .int 672 0, .int 169 0, .str "/claim/cut.py" 673], #[]⟩ : Obj)) ::
  (nat_lit 386, (⟨(.type "function"), none, .func (PySem.W.fnOf "text" "Answers.text" (defArgs sAnsTxt) (defBody sAnsTxt) (defScope sAnsTxt) .none .none .none (.str "openranges.clauses" 592) none (.ref 385) .none), #[]⟩ : Obj)) ::
  (nat_lit 388, (⟨(.type "dict"), none, .dict #[⟨PyData.keyHash P "__module__", (.str "__module__" 608), (.str "openranges.clauses" 592)⟩, ⟨PyData.keyHash P "__firstlineno__", (.str "__firstlineno__" 612), (.int 143 611)⟩, ⟨PyData.keyHash P "__init__", (.str "__init__" 621), (.ref 337)⟩, ⟨PyData.keyHash P "__eq__", (.str "__eq__" 629), (.ref 344)⟩, ⟨PyData.keyHash P "functions_told", (.str "functions_told" 636), (.ref 351)⟩, ⟨PyData.keyHash P "negated", (.str "negated" 643), (.ref 358)⟩, ⟨PyData.keyHash P "times", (.str "times" 651), (.ref 365)⟩, ⟨PyData.keyHash P "moved", (.str "moved" 659), (.ref 372)⟩, ⟨PyData.keyHash P "mirrored", (.str "mirrored" 667), (.ref 379)⟩, ⟨PyData.keyHash P "text", (.str "text" 674), (.ref 386)⟩, ⟨PyData.keyHash P "__static_attributes__", (.str "__static_attributes__" 678), (.ref 387)⟩, ⟨PyData.keyHash P "__dict__", (.str "__dict__" 680), (.ref 390)⟩, ⟨PyData.keyHash P "__weakref__", (.str "__weakref__" 682), (.ref 391)⟩, ⟨PyData.keyHash P "__doc__", (.str "__doc__" 683), .none⟩, ⟨PyData.keyHash P "__hash__", (.str "__hash__" 684), .none⟩] 5, #[]⟩ : Obj)) ::
  (nat_lit 389, (⟨(.type "type"), none, .cls ⟨"Answers", [.type "object"], [.ref 389, .type "object"], 388, "Answers", true, [], [], false, none, false⟩, #[none, none, some (.str "Answers" 601), some (.str "Answers" 609), some (.builtin "object.__new__"), some (.bool true)]⟩ : Obj)) ::
  (nat_lit 406, (⟨(.type "code"), none, .fields #[.str "__init__" 699, .str "Refuses.__init__" 700, .str "/claim/cut.py" 701, .int 173 0, .int 3 0, .int 0 0, .int 0 0, .int 3 0, .ref 401, .bool true, .int 181 0, .ref 402, .none, .ref 403, .ref 404, .ref 405, .int 705 0, .int 173 0, .str "/claim/cut.py" 706], #[]⟩ : Obj)) ::
  (nat_lit 407, (⟨(.type "function"), none, .func (PySem.W.fnOf "__init__" "Refuses.__init__" (defArgs sRefInit) (defBody sRefInit) (defScope sRefInit) .none .none .none (.str "openranges.clauses" 592) none (.ref 406) .none), #[]⟩ : Obj)) ::
  (nat_lit 413, (⟨(.type "code"), none, .fields #[.str "__eq__" 708, .str "Refuses.__eq__" 709, .str "/claim/cut.py" 710, .int 179 0, .int 2 0, .int 0 0, .int 0 0, .int 3 0, .ref 408, .bool true, .int 181 0, .ref 409, .none, .ref 410, .ref 411, .ref 412, .int 713 0, .int 179 0, .str "/claim/cut.py" 714], #[]⟩ : Obj)) ::
  (nat_lit 414, (⟨(.type "function"), none, .func (PySem.W.fnOf "__eq__" "Refuses.__eq__" (defArgs sRefEq) (defBody sRefEq) (defScope sRefEq) .none .none .none (.str "openranges.clauses" 592) none (.ref 413) .none), #[]⟩ : Obj)) ::
  (nat_lit 455, (⟨(.type "code"), none, .fields #[.str "text" 754, .str "Refuses.text" 755, .str "/claim/cut.py" 756, .int 197 0, .int 1 0, .int 0 0, .int 0 0, .int 3 0, .ref 450, .bool true, .int 181 0, .ref 451, .none, .ref 452, .ref 453, .ref 454, .int 758 0, .int 197 0, .str "/claim/cut.py" 759], #[]⟩ : Obj)) ::
  (nat_lit 456, (⟨(.type "function"), none, .func (PySem.W.fnOf "text" "Refuses.text" (defArgs sRefTxt) (defBody sRefTxt) (defScope sRefTxt) .none .none .none (.str "openranges.clauses" 592) none (.ref 455) .none), #[]⟩ : Obj)) ::
  (nat_lit 458, (⟨(.type "dict"), none, .dict #[⟨PyData.keyHash P "__module__", (.str "__module__" 694), (.str "openranges.clauses" 592)⟩, ⟨PyData.keyHash P "__firstlineno__", (.str "__firstlineno__" 698), (.int 171 697)⟩, ⟨PyData.keyHash P "__init__", (.str "__init__" 707), (.ref 407)⟩, ⟨PyData.keyHash P "__eq__", (.str "__eq__" 715), (.ref 414)⟩, ⟨PyData.keyHash P "functions_told", (.str "functions_told" 722), (.ref 421)⟩, ⟨PyData.keyHash P "negated", (.str "negated" 729), (.ref 428)⟩, ⟨PyData.keyHash P "times", (.str "times" 737), (.ref 435)⟩, ⟨PyData.keyHash P "moved", (.str "moved" 745), (.ref 442)⟩, ⟨PyData.keyHash P "mirrored", (.str "mirrored" 753), (.ref 449)⟩, ⟨PyData.keyHash P "text", (.str "text" 760), (.ref 456)⟩, ⟨PyData.keyHash P "__static_attributes__", (.str "__static_attributes__" 764), (.ref 457)⟩, ⟨PyData.keyHash P "__dict__", (.str "__dict__" 766), (.ref 460)⟩, ⟨PyData.keyHash P "__weakref__", (.str "__weakref__" 768), (.ref 461)⟩, ⟨PyData.keyHash P "__doc__", (.str "__doc__" 769), .none⟩, ⟨PyData.keyHash P "__hash__", (.str "__hash__" 770), .none⟩] 5, #[]⟩ : Obj)) ::
  (nat_lit 459, (⟨(.type "type"), none, .cls ⟨"Refuses", [.type "object"], [.ref 459, .type "object"], 458, "Refuses", true, [], [], false, none, false⟩, #[none, none, some (.str "Refuses" 687), some (.str "Refuses" 695), some (.builtin "object.__new__"), some (.bool true)]⟩ : Obj)) ::
  (nat_lit 476, (⟨(.type "code"), none, .fields #[.str "__init__" 785, .str "Needs.__init__" 786, .str "/claim/cut.py" 787, .int 201 0, .int 4 0, .int 0 0, .int 0 0, .int 3 0, .ref 471, .bool true, .int 181 0, .ref 472, .none, .ref 473, .ref 474, .ref 475, .int 792 0, .int 201 0, .str "/claim/cut.py" 793], #[]⟩ : Obj)) ::
  (nat_lit 477, (⟨(.type "function"), none, .func (PySem.W.fnOf "__init__" "Needs.__init__" (defArgs sNeeInit) (defBody sNeeInit) (defScope sNeeInit) .none .none .none (.str "openranges.clauses" 592) none (.ref 476) .none), #[]⟩ : Obj)) ::
  (nat_lit 483, (⟨(.type "code"), none, .fields #[.str "__eq__" 795, .str "Needs.__eq__" 796, .str "/claim/cut.py" 797, .int 208 0, .int 2 0, .int 0 0, .int 0 0, .int 3 0, .ref 478, .bool true, .int 181 0, .ref 479, .none, .ref 480, .ref 481, .ref 482, .int 800 0, .int 208 0, .str "/claim/cut.py" 801], #[]⟩ : Obj)) ::
  (nat_lit 484, (⟨(.type "function"), none, .func (PySem.W.fnOf "__eq__" "Needs.__eq__" (defArgs sNeeEq) (defBody sNeeEq) (defScope sNeeEq) .none .none .none (.str "openranges.clauses" 592) none (.ref 483) .none), #[]⟩ : Obj)) ::
  (nat_lit 525, (⟨(.type "code"), none, .fields #[.str "text" 841, .str "Needs.text" 842, .str "/claim/cut.py" 843, .int 228 0, .int 1 0, .int 0 0, .int 0 0, .int 3 0, .ref 520, .bool true, .int 181 0, .ref 521, .none, .ref 522, .ref 523, .ref 524, .int 845 0, .int 228 0, .str "/claim/cut.py" 846], #[]⟩ : Obj)) ::
  (nat_lit 526, (⟨(.type "function"), none, .func (PySem.W.fnOf "text" "Needs.text" (defArgs sNeeTxt) (defBody sNeeTxt) (defScope sNeeTxt) .none .none .none (.str "openranges.clauses" 592) none (.ref 525) .none), #[]⟩ : Obj)) ::
  (nat_lit 528, (⟨(.type "dict"), none, .dict #[⟨PyData.keyHash P "__module__", (.str "__module__" 780), (.str "openranges.clauses" 592)⟩, ⟨PyData.keyHash P "__firstlineno__", (.str "__firstlineno__" 784), (.int 199 783)⟩, ⟨PyData.keyHash P "__init__", (.str "__init__" 794), (.ref 477)⟩, ⟨PyData.keyHash P "__eq__", (.str "__eq__" 802), (.ref 484)⟩, ⟨PyData.keyHash P "functions_told", (.str "functions_told" 809), (.ref 491)⟩, ⟨PyData.keyHash P "negated", (.str "negated" 816), (.ref 498)⟩, ⟨PyData.keyHash P "times", (.str "times" 824), (.ref 505)⟩, ⟨PyData.keyHash P "moved", (.str "moved" 832), (.ref 512)⟩, ⟨PyData.keyHash P "mirrored", (.str "mirrored" 840), (.ref 519)⟩, ⟨PyData.keyHash P "text", (.str "text" 847), (.ref 526)⟩, ⟨PyData.keyHash P "__static_attributes__", (.str "__static_attributes__" 852), (.ref 527)⟩, ⟨PyData.keyHash P "__dict__", (.str "__dict__" 854), (.ref 530)⟩, ⟨PyData.keyHash P "__weakref__", (.str "__weakref__" 856), (.ref 531)⟩, ⟨PyData.keyHash P "__doc__", (.str "__doc__" 857), .none⟩, ⟨PyData.keyHash P "__hash__", (.str "__hash__" 858), .none⟩] 5, #[]⟩ : Obj)) ::
  (nat_lit 529, (⟨(.type "type"), none, .cls ⟨"Needs", [.type "object"], [.ref 529, .type "object"], 528, "Needs", true, [], [], false, none, false⟩, #[none, none, some (.str "Needs" 773), some (.str "Needs" 781), some (.builtin "object.__new__"), some (.bool true)]⟩ : Obj)) ::
  (nat_lit 546, (⟨(.type "code"), none, .fields #[.str "__init__" 873, .str "Spreads.__init__" 874, .str "/claim/cut.py" 875, .int 232 0, .int 4 0, .int 0 0, .int 0 0, .int 3 0, .ref 541, .bool true, .int 181 0, .ref 542, .none, .ref 543, .ref 544, .ref 545, .int 880 0, .int 232 0, .str "/claim/cut.py" 881], #[]⟩ : Obj)) ::
  (nat_lit 547, (⟨(.type "function"), none, .func (PySem.W.fnOf "__init__" "Spreads.__init__" (defArgs sSprInit) (defBody sSprInit) (defScope sSprInit) .none .none .none (.str "openranges.clauses" 592) none (.ref 546) .none), #[]⟩ : Obj)) ::
  (nat_lit 553, (⟨(.type "code"), none, .fields #[.str "__eq__" 883, .str "Spreads.__eq__" 884, .str "/claim/cut.py" 885, .int 240 0, .int 2 0, .int 0 0, .int 0 0, .int 3 0, .ref 548, .bool true, .int 181 0, .ref 549, .none, .ref 550, .ref 551, .ref 552, .int 888 0, .int 240 0, .str "/claim/cut.py" 889], #[]⟩ : Obj)) ::
  (nat_lit 554, (⟨(.type "function"), none, .func (PySem.W.fnOf "__eq__" "Spreads.__eq__" (defArgs sSprEq) (defBody sSprEq) (defScope sSprEq) .none .none .none (.str "openranges.clauses" 592) none (.ref 553) .none), #[]⟩ : Obj)) ::
  (nat_lit 595, (⟨(.type "code"), none, .fields #[.str "text" 929, .str "Spreads.text" 930, .str "/claim/cut.py" 931, .int 260 0, .int 1 0, .int 0 0, .int 0 0, .int 3 0, .ref 590, .bool true, .int 181 0, .ref 591, .none, .ref 592, .ref 593, .ref 594, .int 933 0, .int 260 0, .str "/claim/cut.py" 934], #[]⟩ : Obj)) ::
  (nat_lit 596, (⟨(.type "function"), none, .func (PySem.W.fnOf "text" "Spreads.text" (defArgs sSprTxt) (defBody sSprTxt) (defScope sSprTxt) .none .none .none (.str "openranges.clauses" 592) none (.ref 595) .none), #[]⟩ : Obj)) ::
  (nat_lit 598, (⟨(.type "dict"), none, .dict #[⟨PyData.keyHash P "__module__", (.str "__module__" 868), (.str "openranges.clauses" 592)⟩, ⟨PyData.keyHash P "__firstlineno__", (.str "__firstlineno__" 872), (.int 230 871)⟩, ⟨PyData.keyHash P "__init__", (.str "__init__" 882), (.ref 547)⟩, ⟨PyData.keyHash P "__eq__", (.str "__eq__" 890), (.ref 554)⟩, ⟨PyData.keyHash P "functions_told", (.str "functions_told" 897), (.ref 561)⟩, ⟨PyData.keyHash P "negated", (.str "negated" 904), (.ref 568)⟩, ⟨PyData.keyHash P "times", (.str "times" 912), (.ref 575)⟩, ⟨PyData.keyHash P "moved", (.str "moved" 920), (.ref 582)⟩, ⟨PyData.keyHash P "mirrored", (.str "mirrored" 928), (.ref 589)⟩, ⟨PyData.keyHash P "text", (.str "text" 935), (.ref 596)⟩, ⟨PyData.keyHash P "__static_attributes__", (.str "__static_attributes__" 940), (.ref 597)⟩, ⟨PyData.keyHash P "__dict__", (.str "__dict__" 942), (.ref 600)⟩, ⟨PyData.keyHash P "__weakref__", (.str "__weakref__" 944), (.ref 601)⟩, ⟨PyData.keyHash P "__doc__", (.str "__doc__" 945), .none⟩, ⟨PyData.keyHash P "__hash__", (.str "__hash__" 946), .none⟩] 5, #[]⟩ : Obj)) ::
  (nat_lit 599, (⟨(.type "type"), none, .cls ⟨"Spreads", [.type "object"], [.ref 599, .type "object"], 598, "Spreads", true, [], [], false, none, false⟩, #[none, none, some (.str "Spreads" 861), some (.str "Spreads" 869), some (.builtin "object.__new__"), some (.bool true)]⟩ : Obj)) ::
  (nat_lit 616, (⟨(.type "code"), none, .fields #[.str "__init__" 961, .str "Bound.__init__" 962, .str "/claim/cut.py" 963, .int 264 0, .int 6 0, .int 0 0, .int 0 0, .int 3 0, .ref 611, .bool true, .int 181 0, .ref 612, .none, .ref 613, .ref 614, .ref 615, .int 970 0, .int 264 0, .str "/claim/cut.py" 971], #[]⟩ : Obj)) ::
  (nat_lit 617, (⟨(.type "function"), none, .func (PySem.W.fnOf "__init__" "Bound.__init__" (defArgs sBouInit) (defBody sBouInit) (defScope sBouInit) .none .none .none (.str "openranges.clauses" 592) none (.ref 616) .none), #[]⟩ : Obj)) ::
  (nat_lit 623, (⟨(.type "code"), none, .fields #[.str "__eq__" 973, .str "Bound.__eq__" 974, .str "/claim/cut.py" 975, .int 274 0, .int 2 0, .int 0 0, .int 0 0, .int 3 0, .ref 618, .bool true, .int 181 0, .ref 619, .none, .ref 620, .ref 621, .ref 622, .int 979 0, .int 274 0, .str "/claim/cut.py" 980], #[]⟩ : Obj)) ::
  (nat_lit 624, (⟨(.type "function"), none, .func (PySem.W.fnOf "__eq__" "Bound.__eq__" (defArgs sBouEq) (defBody sBouEq) (defScope sBouEq) .none .none .none (.str "openranges.clauses" 592) none (.ref 623) .none), #[]⟩ : Obj)) ::
  (nat_lit 630, (⟨(.type "code"), none, .fields #[.str "line" 982, .str "Bound.line" 983, .str "/claim/cut.py" 984, .int 280 0, .int 1 0, .int 0 0, .int 0 0, .int 3 0, .ref 625, .bool true, .int 181 0, .ref 626, .none, .ref 627, .ref 628, .ref 629, .int 986 0, .int 280 0, .str "/claim/cut.py" 987], #[]⟩ : Obj)) ::
  (nat_lit 631, (⟨(.type "function"), none, .func (PySem.W.fnOf "line" "Bound.line" (defArgs sBouLine) (defBody sBouLine) (defScope sBouLine) .none .none .none (.str "openranges.clauses" 592) none (.ref 630) .none), #[]⟩ : Obj)) ::
  (nat_lit 672, (⟨(.type "code"), none, .fields #[.str "text" 1027, .str "Bound.text" 1028, .str "/claim/cut.py" 1029, .int 298 0, .int 1 0, .int 0 0, .int 0 0, .int 3 0, .ref 667, .bool true, .int 181 0, .ref 668, .none, .ref 669, .ref 670, .ref 671, .int 1031 0, .int 298 0, .str "/claim/cut.py" 1032], #[]⟩ : Obj)) ::
  (nat_lit 673, (⟨(.type "function"), none, .func (PySem.W.fnOf "text" "Bound.text" (defArgs sBouTxt) (defBody sBouTxt) (defScope sBouTxt) .none .none .none (.str "openranges.clauses" 592) none (.ref 672) .none), #[]⟩ : Obj)) ::
  (nat_lit 675, (⟨(.type "dict"), none, .dict #[⟨PyData.keyHash P "__module__", (.str "__module__" 956), (.str "openranges.clauses" 592)⟩, ⟨PyData.keyHash P "__firstlineno__", (.str "__firstlineno__" 960), (.int 262 959)⟩, ⟨PyData.keyHash P "__init__", (.str "__init__" 972), (.ref 617)⟩, ⟨PyData.keyHash P "__eq__", (.str "__eq__" 981), (.ref 624)⟩, ⟨PyData.keyHash P "line", (.str "line" 988), (.ref 631)⟩, ⟨PyData.keyHash P "functions_told", (.str "functions_told" 995), (.ref 638)⟩, ⟨PyData.keyHash P "negated", (.str "negated" 1002), (.ref 645)⟩, ⟨PyData.keyHash P "times", (.str "times" 1010), (.ref 652)⟩, ⟨PyData.keyHash P "moved", (.str "moved" 1018), (.ref 659)⟩, ⟨PyData.keyHash P "mirrored", (.str "mirrored" 1026), (.ref 666)⟩, ⟨PyData.keyHash P "text", (.str "text" 1033), (.ref 673)⟩, ⟨PyData.keyHash P "__static_attributes__", (.str "__static_attributes__" 1040), (.ref 674)⟩, ⟨PyData.keyHash P "__dict__", (.str "__dict__" 1042), (.ref 677)⟩, ⟨PyData.keyHash P "__weakref__", (.str "__weakref__" 1044), (.ref 678)⟩, ⟨PyData.keyHash P "__doc__", (.str "__doc__" 1045), .none⟩, ⟨PyData.keyHash P "__hash__", (.str "__hash__" 1046), .none⟩] 5, #[]⟩ : Obj)) ::
  (nat_lit 676, (⟨(.type "type"), none, .cls ⟨"Bound", [.type "object"], [.ref 676, .type "object"], 675, "Bound", true, [], [], false, none, false⟩, #[none, none, some (.str "Bound" 949), some (.str "Bound" 957), some (.builtin "object.__new__"), some (.bool true)]⟩ : Obj)) ::
  (nat_lit 693, (⟨(.type "code"), none, .fields #[.str "__init__" 1061, .str "Pair.__init__" 1062, .str "/claim/cut.py" 1063, .int 302 0, .int 7 0, .int 0 0, .int 0 0, .int 3 0, .ref 688, .bool true, .int 181 0, .ref 689, .none, .ref 690, .ref 691, .ref 692, .int 1071 0, .int 302 0, .str "/claim/cut.py" 1072], #[]⟩ : Obj)) ::
  (nat_lit 694, (⟨(.type "function"), none, .func (PySem.W.fnOf "__init__" "Pair.__init__" (defArgs sPaiInit) (defBody sPaiInit) (defScope sPaiInit) .none .none .none (.str "openranges.clauses" 592) none (.ref 693) .none), #[]⟩ : Obj)) ::
  (nat_lit 700, (⟨(.type "code"), none, .fields #[.str "__eq__" 1074, .str "Pair.__eq__" 1075, .str "/claim/cut.py" 1076, .int 313 0, .int 2 0, .int 0 0, .int 0 0, .int 3 0, .ref 695, .bool true, .int 181 0, .ref 696, .none, .ref 697, .ref 698, .ref 699, .int 1081 0, .int 313 0, .str "/claim/cut.py" 1082], #[]⟩ : Obj)) ::
  (nat_lit 701, (⟨(.type "function"), none, .func (PySem.W.fnOf "__eq__" "Pair.__eq__" (defArgs sPaiEq) (defBody sPaiEq) (defScope sPaiEq) .none .none .none (.str "openranges.clauses" 592) none (.ref 700) .none), #[]⟩ : Obj)) ::
  (nat_lit 707, (⟨(.type "code"), none, .fields #[.str "line" 1084, .str "Pair.line" 1085, .str "/claim/cut.py" 1086, .int 320 0, .int 1 0, .int 0 0, .int 0 0, .int 3 0, .ref 702, .bool true, .int 181 0, .ref 703, .none, .ref 704, .ref 705, .ref 706, .int 1088 0, .int 320 0, .str "/claim/cut.py" 1089], #[]⟩ : Obj)) ::
  (nat_lit 708, (⟨(.type "function"), none, .func (PySem.W.fnOf "line" "Pair.line" (defArgs sPaiLine) (defBody sPaiLine) (defScope sPaiLine) .none .none .none (.str "openranges.clauses" 592) none (.ref 707) .none), #[]⟩ : Obj)) ::
  (nat_lit 749, (⟨(.type "code"), none, .fields #[.str "text" 1129, .str "Pair.text" 1130, .str "/claim/cut.py" 1131, .int 338 0, .int 1 0, .int 0 0, .int 0 0, .int 3 0, .ref 744, .bool true, .int 181 0, .ref 745, .none, .ref 746, .ref 747, .ref 748, .int 1133 0, .int 338 0, .str "/claim/cut.py" 1134], #[]⟩ : Obj)) ::
  (nat_lit 750, (⟨(.type "function"), none, .func (PySem.W.fnOf "text" "Pair.text" (defArgs sPaiTxt) (defBody sPaiTxt) (defScope sPaiTxt) .none .none .none (.str "openranges.clauses" 592) none (.ref 749) .none), #[]⟩ : Obj)) ::
  (nat_lit 752, (⟨(.type "dict"), none, .dict #[⟨PyData.keyHash P "__module__", (.str "__module__" 1056), (.str "openranges.clauses" 592)⟩, ⟨PyData.keyHash P "__firstlineno__", (.str "__firstlineno__" 1060), (.int 300 1059)⟩, ⟨PyData.keyHash P "__init__", (.str "__init__" 1073), (.ref 694)⟩, ⟨PyData.keyHash P "__eq__", (.str "__eq__" 1083), (.ref 701)⟩, ⟨PyData.keyHash P "line", (.str "line" 1090), (.ref 708)⟩, ⟨PyData.keyHash P "functions_told", (.str "functions_told" 1097), (.ref 715)⟩, ⟨PyData.keyHash P "negated", (.str "negated" 1104), (.ref 722)⟩, ⟨PyData.keyHash P "times", (.str "times" 1112), (.ref 729)⟩, ⟨PyData.keyHash P "moved", (.str "moved" 1120), (.ref 736)⟩, ⟨PyData.keyHash P "mirrored", (.str "mirrored" 1128), (.ref 743)⟩, ⟨PyData.keyHash P "text", (.str "text" 1135), (.ref 750)⟩, ⟨PyData.keyHash P "__static_attributes__", (.str "__static_attributes__" 1143), (.ref 751)⟩, ⟨PyData.keyHash P "__dict__", (.str "__dict__" 1145), (.ref 754)⟩, ⟨PyData.keyHash P "__weakref__", (.str "__weakref__" 1147), (.ref 755)⟩, ⟨PyData.keyHash P "__doc__", (.str "__doc__" 1148), .none⟩, ⟨PyData.keyHash P "__hash__", (.str "__hash__" 1149), .none⟩] 5, #[]⟩ : Obj)) ::
  (nat_lit 753, (⟨(.type "type"), none, .cls ⟨"Pair", [.type "object"], [.ref 753, .type "object"], 752, "Pair", true, [], [], false, none, false⟩, #[none, none, some (.str "Pair" 1049), some (.str "Pair" 1057), some (.builtin "object.__new__"), some (.bool true)]⟩ : Obj)) ::
  (nat_lit 770, (⟨(.type "code"), none, .fields #[.str "__init__" 1164, .str "Step.__init__" 1165, .str "/claim/cut.py" 1166, .int 342 0, .int 5 0, .int 0 0, .int 0 0, .int 3 0, .ref 765, .bool true, .int 181 0, .ref 766, .none, .ref 767, .ref 768, .ref 769, .int 1172 0, .int 342 0, .str "/claim/cut.py" 1173], #[]⟩ : Obj)) ::
  (nat_lit 771, (⟨(.type "function"), none, .func (PySem.W.fnOf "__init__" "Step.__init__" (defArgs sSteInit) (defBody sSteInit) (defScope sSteInit) .none .none .none (.str "openranges.clauses" 592) none (.ref 770) .none), #[]⟩ : Obj)) ::
  (nat_lit 777, (⟨(.type "code"), none, .fields #[.str "__eq__" 1175, .str "Step.__eq__" 1176, .str "/claim/cut.py" 1177, .int 351 0, .int 2 0, .int 0 0, .int 0 0, .int 3 0, .ref 772, .bool true, .int 181 0, .ref 773, .none, .ref 774, .ref 775, .ref 776, .int 1180 0, .int 351 0, .str "/claim/cut.py" 1181], #[]⟩ : Obj)) ::
  (nat_lit 778, (⟨(.type "function"), none, .func (PySem.W.fnOf "__eq__" "Step.__eq__" (defArgs sSteEq) (defBody sSteEq) (defScope sSteEq) .none .none .none (.str "openranges.clauses" 592) none (.ref 777) .none), #[]⟩ : Obj)) ::
  (nat_lit 819, (⟨(.type "code"), none, .fields #[.str "text" 1221, .str "Step.text" 1222, .str "/claim/cut.py" 1223, .int 371 0, .int 1 0, .int 0 0, .int 0 0, .int 3 0, .ref 814, .bool true, .int 181 0, .ref 815, .none, .ref 816, .ref 817, .ref 818, .int 1225 0, .int 371 0, .str "/claim/cut.py" 1226], #[]⟩ : Obj)) ::
  (nat_lit 820, (⟨(.type "function"), none, .func (PySem.W.fnOf "text" "Step.text" (defArgs sSteTxt) (defBody sSteTxt) (defScope sSteTxt) .none .none .none (.str "openranges.clauses" 592) none (.ref 819) .none), #[]⟩ : Obj)) ::
  (nat_lit 822, (⟨(.type "dict"), none, .dict #[⟨PyData.keyHash P "__module__", (.str "__module__" 1159), (.str "openranges.clauses" 592)⟩, ⟨PyData.keyHash P "__firstlineno__", (.str "__firstlineno__" 1163), (.int 340 1162)⟩, ⟨PyData.keyHash P "__init__", (.str "__init__" 1174), (.ref 771)⟩, ⟨PyData.keyHash P "__eq__", (.str "__eq__" 1182), (.ref 778)⟩, ⟨PyData.keyHash P "functions_told", (.str "functions_told" 1189), (.ref 785)⟩, ⟨PyData.keyHash P "negated", (.str "negated" 1196), (.ref 792)⟩, ⟨PyData.keyHash P "times", (.str "times" 1204), (.ref 799)⟩, ⟨PyData.keyHash P "moved", (.str "moved" 1212), (.ref 806)⟩, ⟨PyData.keyHash P "mirrored", (.str "mirrored" 1220), (.ref 813)⟩, ⟨PyData.keyHash P "text", (.str "text" 1227), (.ref 820)⟩, ⟨PyData.keyHash P "__static_attributes__", (.str "__static_attributes__" 1233), (.ref 821)⟩, ⟨PyData.keyHash P "__dict__", (.str "__dict__" 1235), (.ref 824)⟩, ⟨PyData.keyHash P "__weakref__", (.str "__weakref__" 1237), (.ref 825)⟩, ⟨PyData.keyHash P "__doc__", (.str "__doc__" 1238), .none⟩, ⟨PyData.keyHash P "__hash__", (.str "__hash__" 1239), .none⟩] 5, #[]⟩ : Obj)) ::
  (nat_lit 823, (⟨(.type "type"), none, .cls ⟨"Step", [.type "object"], [.ref 823, .type "object"], 822, "Step", true, [], [], false, none, false⟩, #[none, none, some (.str "Step" 1152), some (.str "Step" 1160), some (.builtin "object.__new__"), some (.bool true)]⟩ : Obj)) ::
  (nat_lit 833, (⟨(.type "code"), none, .fields #[.str "_beginning" 1242, .str "_beginning" 1243, .str "/claim/cut.py" 1244, .int 373 0, .int 1 0, .int 0 0, .int 0 0, .int 3 0, .ref 828, .bool true, .int 181 0, .ref 829, .none, .ref 830, .ref 831, .ref 832, .int 1246 0, .int 373 0, .str "/claim/cut.py" 1247], #[]⟩ : Obj)) ::
  (nat_lit 834, (⟨(.type "function"), none, .func (PySem.W.fnOf "_beginning" "_beginning" (defArgs sBegin) (defBody sBegin) (defScope sBegin) .none .none .none (.str "openranges.clauses" 592) none (.ref 833) .none), #[]⟩ : Obj)) ::
  (nat_lit 840, (⟨(.type "code"), none, .fields #[.str "_added_text" 1249, .str "_added_text" 1250, .str "/claim/cut.py" 1251, .int 375 0, .int 1 0, .int 0 0, .int 0 0, .int 3 0, .ref 835, .bool true, .int 181 0, .ref 836, .none, .ref 837, .ref 838, .ref 839, .int 1254 0, .int 375 0, .str "/claim/cut.py" 1255], #[]⟩ : Obj)) ::
  (nat_lit 841, (⟨(.type "function"), none, .func (PySem.W.fnOf "_added_text" "_added_text" (defArgs sAdded) (defBody sAdded) (defScope sAdded) .none .none .none (.str "openranges.clauses" 592) none (.ref 840) .none), #[]⟩ : Obj)) ::
  (nat_lit 856, (⟨(.type "tuple"), none, .seq #[] 0, #[]⟩ : Obj)) ::
  (nat_lit 857, (⟨(.type "tuple"), none, .seq #[.ref 856] 0, #[]⟩ : Obj)) ::
  (nat_lit 861, (⟨(.type "code"), none, .fields #[.str "__init__" 1286, .str "Places.__init__" 1287, .str "/claim/cut.py" 1288, .int 398 0, .int 2 0, .int 0 0, .int 0 0, .int 3 0, .ref 858, .bool true, .int 181 0, .ref 859, .none, .none, .none, .ref 860, .int 1289 0, .int 398 0, .str "/claim/cut.py" 1290], #[]⟩ : Obj)) ::
  (nat_lit 862, (⟨(.type "function"), none, .func (PySem.W.fnOf "__init__" "Places.__init__" (defArgs sPlInit) (defBody sPlInit) (defScope sPlInit) (.ref 857) .none .none (.str "openranges.places" 1272) none (.ref 861) .none), #[]⟩ : Obj)) ::
  (nat_lit 868, (⟨(.type "code"), none, .fields #[.str "__eq__" 1292, .str "Places.__eq__" 1293, .str "/claim/cut.py" 1294, .int 406 0, .int 2 0, .int 0 0, .int 0 0, .int 3 0, .ref 863, .bool true, .int 181 0, .ref 864, .none, .ref 865, .ref 866, .ref 867, .int 1297 0, .int 406 0, .str "/claim/cut.py" 1298], #[]⟩ : Obj)) ::
  (nat_lit 869, (⟨(.type "function"), none, .func (PySem.W.fnOf "__eq__" "Places.__eq__" (defArgs sPlEq) (defBody sPlEq) (defScope sPlEq) .none .none .none (.str "openranges.places" 1272) none (.ref 868) .none), #[]⟩ : Obj)) ::
  (nat_lit 985, (⟨(.type "code"), none, .fields #[.str "text" 1426, .str "Places.text" 1427, .str "/claim/cut.py" 1428, .int 466 0, .int 1 0, .int 0 0, .int 0 0, .int 3 0, .ref 982, .bool true, .int 181 0, .ref 983, .none, .none, .none, .ref 984, .int 1429 0, .int 466 0, .str "/claim/cut.py" 1430], #[]⟩ : Obj)) ::
  (nat_lit 986, (⟨(.type "function"), none, .func (PySem.W.fnOf "text" "Places.text" (defArgs sPlText) (defBody sPlText) (defScope sPlText) .none .none .none (.str "openranges.places" 1272) none (.ref 985) .none), #[]⟩ : Obj)) ::
  (nat_lit 995, (⟨(.type "classmethod"), (some 994), .fields #[.ref 993, .bool false], #[]⟩ : Obj)) ::
  (nat_lit 998, (⟨(.type "dict"), none, .dict #[⟨PyData.keyHash P "__module__", (.str "__module__" 1281), (.str "openranges.places" 1272)⟩, ⟨PyData.keyHash P "__firstlineno__", (.str "__firstlineno__" 1285), (.int 396 1284)⟩, ⟨PyData.keyHash P "__init__", (.str "__init__" 1291), (.ref 862)⟩, ⟨PyData.keyHash P "__eq__", (.str "__eq__" 1299), (.ref 869)⟩, ⟨PyData.keyHash P "__bool__", (.str "__bool__" 1306), (.ref 876)⟩, ⟨PyData.keyHash P "__contains__", (.str "__contains__" 1315), (.ref 883)⟩, ⟨PyData.keyHash P "__getitem__", (.str "__getitem__" 1324), (.ref 890)⟩, ⟨PyData.keyHash P "__iter__", (.str "__iter__" 1331), (.ref 897)⟩, ⟨PyData.keyHash P "__or__", (.str "__or__" 1339), (.ref 904)⟩, ⟨PyData.keyHash P "__and__", (.str "__and__" 1347), (.ref 911)⟩, ⟨PyData.keyHash P "__sub__", (.str "__sub__" 1355), (.ref 918)⟩, ⟨PyData.keyHash P "__xor__", (.str "__xor__" 1363), (.ref 925)⟩, ⟨PyData.keyHash P "size", (.str "size" 1372), (.ref 932)⟩, ⟨PyData.keyHash P "rank", (.str "rank" 1380), (.ref 939)⟩, ⟨PyData.keyHash P "least", (.str "least" 1387), (.ref 946)⟩, ⟨PyData.keyHash P "greatest", (.str "greatest" 1394), (.ref 953)⟩, ⟨PyData.keyHash P "within", (.str "within" 1402), (.ref 960)⟩, ⟨PyData.keyHash P "shifted", (.str "shifted" 1410), (.ref 967)⟩, ⟨PyData.keyHash P "mirrored", (.str "mirrored" 1418), (.ref 974)⟩, ⟨PyData.keyHash P "inner", (.str "inner" 1425), (.ref 981)⟩, ⟨PyData.keyHash P "text", (.str "text" 1431), (.ref 986)⟩, ⟨PyData.keyHash P "read", (.str "read" 1452), (.ref 995)⟩, ⟨PyData.keyHash P "__static_attributes__", (.str "__static_attributes__" 1456), (.ref 997)⟩, ⟨PyData.keyHash P "__dict__", (.str "__dict__" 1458), (.ref 1000)⟩, ⟨PyData.keyHash P "__weakref__", (.str "__weakref__" 1460), (.ref 1001)⟩, ⟨PyData.keyHash P "__doc__", (.str "__doc__" 1461), .none⟩, ⟨PyData.keyHash P "__hash__", (.str "__hash__" 1462), .none⟩] 5, #[]⟩ : Obj)) ::
  (nat_lit 999, (⟨(.type "type"), none, .cls ⟨"Places", [.type "object"], [.ref 999, .type "object"], 998, "Places", true, [], [], false, none, false⟩, #[none, none, some (.str "Places" 1274), some (.str "Places" 1282), some (.builtin "object.__new__"), some (.bool true)]⟩ : Obj)) ::
  (nat_lit 1009, (⟨(.type "code"), none, .fields #[.str "read_stretches" 1465, .str "read_stretches" 1466, .str "/claim/cut.py" 1467, .int 481 0, .int 4 0, .int 0 0, .int 0 0, .int 3 0, .ref 1004, .bool true, .int 181 0, .ref 1005, .none, .ref 1006, .ref 1007, .ref 1008, .int 1475 0, .int 481 0, .str "/claim/cut.py" 1476], #[]⟩ : Obj)) ::
  (nat_lit 1010, (⟨(.type "function"), none, .func (PySem.W.fnOf "read_stretches" "read_stretches" (defArgs sRStrs) (defBody sRStrs) (defScope sRStrs) .none .none .none (.str "openranges.places" 1272) none (.ref 1009) .none), #[]⟩ : Obj)) ::
  (nat_lit 1016, (⟨(.type "code"), none, .fields #[.str "_is_stretch" 1478, .str "_is_stretch" 1479, .str "/claim/cut.py" 1480, .int 489 0, .int 1 0, .int 0 0, .int 0 0, .int 3 0, .ref 1011, .bool true, .int 181 0, .ref 1012, .none, .ref 1013, .ref 1014, .ref 1015, .int 1484 0, .int 489 0, .str "/claim/cut.py" 1485], #[]⟩ : Obj)) ::
  (nat_lit 1017, (⟨(.type "function"), none, .func (PySem.W.fnOf "_is_stretch" "_is_stretch" (defArgs sIsStretch) (defBody sIsStretch) (defScope sIsStretch) .none .none .none (.str "openranges.places" 1272) none (.ref 1016) .none), #[]⟩ : Obj)) ::
  (nat_lit 1021, (⟨(.type "code"), none, .fields #[.str "_joined" 1487, .str "_joined" 1488, .str "/claim/cut.py" 1489, .int 494 0, .int 1 0, .int 0 0, .int 0 0, .int 3 0, .ref 1018, .bool true, .int 181 0, .ref 1019, .none, .none, .none, .ref 1020, .int 1490 0, .int 494 0, .str "/claim/cut.py" 1491], #[]⟩ : Obj)) ::
  (nat_lit 1022, (⟨(.type "function"), none, .func (PySem.W.fnOf "_joined" "_joined" (defArgs sJoined) (defBody sJoined) (defScope sJoined) .none .none .none (.str "openranges.places" 1272) none (.ref 1021) .none), #[]⟩ : Obj)) ::
  (nat_lit 1028, (⟨(.type "code"), none, .fields #[.str "_counts_before" 1493, .str "_counts_before" 1494, .str "/claim/cut.py" 1495, .int 502 0, .int 1 0, .int 0 0, .int 0 0, .int 3 0, .ref 1023, .bool true, .int 181 0, .ref 1024, .none, .ref 1025, .ref 1026, .ref 1027, .int 1501 0, .int 502 0, .str "/claim/cut.py" 1502], #[]⟩ : Obj)) ::
  (nat_lit 1029, (⟨(.type "function"), none, .func (PySem.W.fnOf "_counts_before" "_counts_before" (defArgs sCounts) (defBody sCounts) (defScope sCounts) .none .none .none (.str "openranges.places" 1272) none (.ref 1028) .none), #[]⟩ : Obj)) ::
  (nat_lit 1054, (⟨(.type "code"), none, .fields #[.str "_stretch_text" 1532, .str "_stretch_text" 1533, .str "/claim/cut.py" 1534, .int 531 0, .int 2 0, .int 0 0, .int 0 0, .int 3 0, .ref 1049, .bool true, .int 181 0, .ref 1050, .none, .ref 1051, .ref 1052, .ref 1053, .int 1537 0, .int 531 0, .str "/claim/cut.py" 1538], #[]⟩ : Obj)) ::
  (nat_lit 1055, (⟨(.type "function"), none, .func (PySem.W.fnOf "_stretch_text" "_stretch_text" (defArgs sSText) (defBody sSText) (defScope sSText) .none .none .none (.str "openranges.places" 1272) none (.ref 1054) .none), #[]⟩ : Obj)) ::
  (nat_lit 1061, (⟨(.type "code"), none, .fields #[.str "_read_stretch" 1540, .str "_read_stretch" 1541, .str "/claim/cut.py" 1542, .int 533 0, .int 1 0, .int 0 0, .int 0 0, .int 3 0, .ref 1056, .bool true, .int 181 0, .ref 1057, .none, .ref 1058, .ref 1059, .ref 1060, .int 1549 0, .int 533 0, .str "/claim/cut.py" 1550], #[]⟩ : Obj)) ::
  (nat_lit 1062, (⟨(.type "function"), none, .func (PySem.W.fnOf "_read_stretch" "_read_stretch" (defArgs sRStr) (defBody sRStr) (defScope sRStr) .none .none .none (.str "openranges.places" 1272) none (.ref 1061) .none), #[]⟩ : Obj)) ::
  (nat_lit 1075, (⟨(.type "code"), none, .fields #[.str "__init__" 1566, .str "Reader.__init__" 1567, .str "/claim/cut.py" 1568, .int 547 0, .int 5 0, .int 0 0, .int 0 0, .int 3 0, .ref 1070, .bool true, .int 181 0, .ref 1071, .none, .ref 1072, .ref 1073, .ref 1074, .int 1574 0, .int 547 0, .str "/claim/cut.py" 1575], #[]⟩ : Obj)) ::
  (nat_lit 1076, (⟨(.type "function"), none, .func (PySem.W.fnOf "__init__" "Reader.__init__" (defArgs sRdInit) (defBody sRdInit) (defScope sRdInit) .none .none .none (.str "openranges.reader" 1552) none (.ref 1075) .none), #[]⟩ : Obj)) ::
  (nat_lit 1082, (⟨(.type "code"), none, .fields #[.str "is_done" 1577, .str "Reader.is_done" 1578, .str "/claim/cut.py" 1579, .int 553 0, .int 1 0, .int 0 0, .int 0 0, .int 3 0, .ref 1077, .bool true, .int 181 0, .ref 1078, .none, .ref 1079, .ref 1080, .ref 1081, .int 1581 0, .int 553 0, .str "/claim/cut.py" 1582], #[]⟩ : Obj)) ::
  (nat_lit 1083, (⟨(.type "function"), none, .func (PySem.W.fnOf "is_done" "Reader.is_done" (defArgs sRdDone) (defBody sRdDone) (defScope sRdDone) .none .none .none (.str "openranges.reader" 1552) none (.ref 1082) .none), #[]⟩ : Obj)) ::
  (nat_lit 1089, (⟨(.type "code"), none, .fields #[.str "peek" 1584, .str "Reader.peek" 1585, .str "/claim/cut.py" 1586, .int 556 0, .int 1 0, .int 0 0, .int 0 0, .int 3 0, .ref 1084, .bool true, .int 181 0, .ref 1085, .none, .ref 1086, .ref 1087, .ref 1088, .int 1588 0, .int 556 0, .str "/claim/cut.py" 1589], #[]⟩ : Obj)) ::
  (nat_lit 1090, (⟨(.type "function"), none, .func (PySem.W.fnOf "peek" "Reader.peek" (defArgs sRdPeek) (defBody sRdPeek) (defScope sRdPeek) .none .none .none (.str "openranges.reader" 1552) none (.ref 1089) .none), #[]⟩ : Obj)) ::
  (nat_lit 1096, (⟨(.type "code"), none, .fields #[.str "take" 1591, .str "Reader.take" 1592, .str "/claim/cut.py" 1593, .int 559 0, .int 1 0, .int 0 0, .int 0 0, .int 3 0, .ref 1091, .bool true, .int 181 0, .ref 1092, .none, .ref 1093, .ref 1094, .ref 1095, .int 1595 0, .int 559 0, .str "/claim/cut.py" 1596], #[]⟩ : Obj)) ::
  (nat_lit 1097, (⟨(.type "function"), none, .func (PySem.W.fnOf "take" "Reader.take" (defArgs sRdTake) (defBody sRdTake) (defScope sRdTake) .none .none .none (.str "openranges.reader" 1552) none (.ref 1096) .none), #[]⟩ : Obj)) ::
  (nat_lit 1103, (⟨(.type "code"), none, .fields #[.str "check_last" 1598, .str "Reader.check_last" 1599, .str "/claim/cut.py" 1600, .int 565 0, .int 2 0, .int 0 0, .int 0 0, .int 3 0, .ref 1098, .bool true, .int 181 0, .ref 1099, .none, .ref 1100, .ref 1101, .ref 1102, .int 1603 0, .int 565 0, .str "/claim/cut.py" 1604], #[]⟩ : Obj)) ::
  (nat_lit 1104, (⟨(.type "function"), none, .func (PySem.W.fnOf "check_last" "Reader.check_last" (defArgs sRdLast) (defBody sRdLast) (defScope sRdLast) .none .none .none (.str "openranges.reader" 1552) none (.ref 1103) .none), #[]⟩ : Obj)) ::
  (nat_lit 1110, (⟨(.type "code"), none, .fields #[.str "take_one_of" 1606, .str "Reader.take_one_of" 1607, .str "/claim/cut.py" 1608, .int 569 0, .int 2 0, .int 0 0, .int 0 0, .int 3 0, .ref 1105, .bool true, .int 181 0, .ref 1106, .none, .ref 1107, .ref 1108, .ref 1109, .int 1612 0, .int 569 0, .str "/claim/cut.py" 1613], #[]⟩ : Obj)) ::
  (nat_lit 1111, (⟨(.type "function"), none, .func (PySem.W.fnOf "take_one_of" "Reader.take_one_of" (defArgs sRdOne) (defBody sRdOne) (defScope sRdOne) .none .none .none (.str "openranges.reader" 1552) none (.ref 1110) .none), #[]⟩ : Obj)) ::
  (nat_lit 1117, (⟨(.type "code"), none, .fields #[.str "take_function" 1615, .str "Reader.take_function" 1616, .str "/claim/cut.py" 1617, .int 574 0, .int 1 0, .int 0 0, .int 0 0, .int 3 0, .ref 1112, .bool true, .int 181 0, .ref 1113, .none, .ref 1114, .ref 1115, .ref 1116, .int 1620 0, .int 574 0, .str "/claim/cut.py" 1621], #[]⟩ : Obj)) ::
  (nat_lit 1118, (⟨(.type "function"), none, .func (PySem.W.fnOf "take_function" "Reader.take_function" (defArgs sRdFun) (defBody sRdFun) (defScope sRdFun) .none .none .none (.str "openranges.reader" 1552) none (.ref 1117) .none), #[]⟩ : Obj)) ::
  (nat_lit 1124, (⟨(.type "code"), none, .fields #[.str "take_places" 1623, .str "Reader.take_places" 1624, .str "/claim/cut.py" 1625, .int 579 0, .int 1 0, .int 0 0, .int 0 0, .int 3 0, .ref 1119, .bool true, .int 181 0, .ref 1120, .none, .ref 1121, .ref 1122, .ref 1123, .int 1628 0, .int 579 0, .str "/claim/cut.py" 1629], #[]⟩ : Obj)) ::
  (nat_lit 1125, (⟨(.type "function"), none, .func (PySem.W.fnOf "take_places" "Reader.take_places" (defArgs sRdPls) (defBody sRdPls) (defScope sRdPls) .none .none .none (.str "openranges.reader" 1552) none (.ref 1124) .none), #[]⟩ : Obj)) ::
  (nat_lit 1131, (⟨(.type "code"), none, .fields #[.str "check_done" 1631, .str "Reader.check_done" 1632, .str "/claim/cut.py" 1633, .int 590 0, .int 1 0, .int 0 0, .int 0 0, .int 3 0, .ref 1126, .bool true, .int 181 0, .ref 1127, .none, .ref 1128, .ref 1129, .ref 1130, .int 1635 0, .int 590 0, .str "/claim/cut.py" 1636], #[]⟩ : Obj)) ::
  (nat_lit 1132, (⟨(.type "function"), none, .func (PySem.W.fnOf "check_done" "Reader.check_done" (defArgs sRdCkD) (defBody sRdCkD) (defScope sRdCkD) .none .none .none (.str "openranges.reader" 1552) none (.ref 1131) .none), #[]⟩ : Obj)) ::
  (nat_lit 1134, (⟨(.type "dict"), none, .dict #[⟨PyData.keyHash P "__module__", (.str "__module__" 1561), (.str "openranges.reader" 1552)⟩, ⟨PyData.keyHash P "__firstlineno__", (.str "__firstlineno__" 1565), (.int 545 1564)⟩, ⟨PyData.keyHash P "__init__", (.str "__init__" 1576), (.ref 1076)⟩, ⟨PyData.keyHash P "is_done", (.str "is_done" 1583), (.ref 1083)⟩, ⟨PyData.keyHash P "peek", (.str "peek" 1590), (.ref 1090)⟩, ⟨PyData.keyHash P "take", (.str "take" 1597), (.ref 1097)⟩, ⟨PyData.keyHash P "check_last", (.str "check_last" 1605), (.ref 1104)⟩, ⟨PyData.keyHash P "take_one_of", (.str "take_one_of" 1614), (.ref 1111)⟩, ⟨PyData.keyHash P "take_function", (.str "take_function" 1622), (.ref 1118)⟩, ⟨PyData.keyHash P "take_places", (.str "take_places" 1630), (.ref 1125)⟩, ⟨PyData.keyHash P "check_done", (.str "check_done" 1637), (.ref 1132)⟩, ⟨PyData.keyHash P "__static_attributes__", (.str "__static_attributes__" 1642), (.ref 1133)⟩, ⟨PyData.keyHash P "__dict__", (.str "__dict__" 1644), (.ref 1136)⟩, ⟨PyData.keyHash P "__weakref__", (.str "__weakref__" 1646), (.ref 1137)⟩, ⟨PyData.keyHash P "__doc__", (.str "__doc__" 1647), .none⟩] 4, #[]⟩ : Obj)) ::
  (nat_lit 1135, (⟨(.type "type"), none, .cls ⟨"Reader", [.type "object"], [.ref 1135, .type "object"], 1134, "Reader", true, [], [], false, none, false⟩, #[none, none, some (.str "Reader" 1554), some (.str "Reader" 1562), some (.builtin "object.__new__"), some (.bool true)]⟩ : Obj)) ::
  (nat_lit 1145, (⟨(.type "code"), none, .fields #[.str "read_whole_clause" 1650, .str "read_whole_clause" 1651, .str "/claim/cut.py" 1652, .int 593 0, .int 1 0, .int 0 0, .int 0 0, .int 3 0, .ref 1140, .bool true, .int 181 0, .ref 1141, .none, .ref 1142, .ref 1143, .ref 1144, .int 1659 0, .int 593 0, .str "/claim/cut.py" 1660], #[]⟩ : Obj)) ::
  (nat_lit 1146, (⟨(.type "function"), none, .func (PySem.W.fnOf "read_whole_clause" "read_whole_clause" (defArgs sRWC) (defBody sRWC) (defScope sRWC) .none .none .none (.str "openranges.reader" 1552) none (.ref 1145) .none), #[]⟩ : Obj)) ::
  (nat_lit 1152, (⟨(.type "code"), none, .fields #[.str "_read_answers" 1662, .str "_read_answers" 1663, .str "/claim/cut.py" 1664, .int 601 0, .int 3 0, .int 0 0, .int 0 0, .int 3 0, .ref 1147, .bool true, .int 181 0, .ref 1148, .none, .ref 1149, .ref 1150, .ref 1151, .int 1668 0, .int 601 0, .str "/claim/cut.py" 1669], #[]⟩ : Obj)) ::
  (nat_lit 1153, (⟨(.type "function"), none, .func (PySem.W.fnOf "_read_answers" "_read_answers" (defArgs sRAns) (defBody sRAns) (defScope sRAns) .none .none .none (.str "openranges.reader" 1552) none (.ref 1152) .none), #[]⟩ : Obj)) ::
  (nat_lit 1159, (⟨(.type "code"), none, .fields #[.str "_read_refuses" 1671, .str "_read_refuses" 1672, .str "/claim/cut.py" 1673, .int 603 0, .int 3 0, .int 0 0, .int 0 0, .int 3 0, .ref 1154, .bool true, .int 181 0, .ref 1155, .none, .ref 1156, .ref 1157, .ref 1158, .int 1677 0, .int 603 0, .str "/claim/cut.py" 1678], #[]⟩ : Obj)) ::
  (nat_lit 1160, (⟨(.type "function"), none, .func (PySem.W.fnOf "_read_refuses" "_read_refuses" (defArgs sRRef) (defBody sRRef) (defScope sRRef) .none .none .none (.str "openranges.reader" 1552) none (.ref 1159) .none), #[]⟩ : Obj)) ::
  (nat_lit 1166, (⟨(.type "code"), none, .fields #[.str "_read_needs" 1680, .str "_read_needs" 1681, .str "/claim/cut.py" 1682, .int 605 0, .int 3 0, .int 0 0, .int 0 0, .int 3 0, .ref 1161, .bool true, .int 181 0, .ref 1162, .none, .ref 1163, .ref 1164, .ref 1165, .int 1686 0, .int 605 0, .str "/claim/cut.py" 1687], #[]⟩ : Obj)) ::
  (nat_lit 1167, (⟨(.type "function"), none, .func (PySem.W.fnOf "_read_needs" "_read_needs" (defArgs sRNee) (defBody sRNee) (defScope sRNee) .none .none .none (.str "openranges.reader" 1552) none (.ref 1166) .none), #[]⟩ : Obj)) ::
  (nat_lit 1173, (⟨(.type "code"), none, .fields #[.str "_read_spreads" 1689, .str "_read_spreads" 1690, .str "/claim/cut.py" 1691, .int 607 0, .int 3 0, .int 0 0, .int 0 0, .int 3 0, .ref 1168, .bool true, .int 181 0, .ref 1169, .none, .ref 1170, .ref 1171, .ref 1172, .int 1695 0, .int 607 0, .str "/claim/cut.py" 1696], #[]⟩ : Obj)) ::
  (nat_lit 1174, (⟨(.type "function"), none, .func (PySem.W.fnOf "_read_spreads" "_read_spreads" (defArgs sRSpr) (defBody sRSpr) (defScope sRSpr) .none .none .none (.str "openranges.reader" 1552) none (.ref 1173) .none), #[]⟩ : Obj)) ::
  (nat_lit 1180, (⟨(.type "code"), none, .fields #[.str "_read_bound" 1698, .str "_read_bound" 1699, .str "/claim/cut.py" 1700, .int 609 0, .int 3 0, .int 0 0, .int 0 0, .int 3 0, .ref 1175, .bool true, .int 181 0, .ref 1176, .none, .ref 1177, .ref 1178, .ref 1179, .int 1706 0, .int 609 0, .str "/claim/cut.py" 1707], #[]⟩ : Obj)) ::
  (nat_lit 1181, (⟨(.type "function"), none, .func (PySem.W.fnOf "_read_bound" "_read_bound" (defArgs sRBou) (defBody sRBou) (defScope sRBou) .none .none .none (.str "openranges.reader" 1552) none (.ref 1180) .none), #[]⟩ : Obj)) ::
  (nat_lit 1187, (⟨(.type "code"), none, .fields #[.str "_read_pair" 1709, .str "_read_pair" 1710, .str "/claim/cut.py" 1711, .int 613 0, .int 3 0, .int 0 0, .int 0 0, .int 3 0, .ref 1182, .bool true, .int 181 0, .ref 1183, .none, .ref 1184, .ref 1185, .ref 1186, .int 1718 0, .int 613 0, .str "/claim/cut.py" 1719], #[]⟩ : Obj)) ::
  (nat_lit 1188, (⟨(.type "function"), none, .func (PySem.W.fnOf "_read_pair" "_read_pair" (defArgs sRPai) (defBody sRPai) (defScope sRPai) .none .none .none (.str "openranges.reader" 1552) none (.ref 1187) .none), #[]⟩ : Obj)) ::
  (nat_lit 1194, (⟨(.type "code"), none, .fields #[.str "_read_step" 1721, .str "_read_step" 1722, .str "/claim/cut.py" 1723, .int 618 0, .int 3 0, .int 0 0, .int 0 0, .int 3 0, .ref 1189, .bool true, .int 181 0, .ref 1190, .none, .ref 1191, .ref 1192, .ref 1193, .int 1729 0, .int 618 0, .str "/claim/cut.py" 1730], #[]⟩ : Obj)) ::
  (nat_lit 1195, (⟨(.type "function"), none, .func (PySem.W.fnOf "_read_step" "_read_step" (defArgs sRSte) (defBody sRSte) (defScope sRSte) .none .none .none (.str "openranges.reader" 1552) none (.ref 1194) .none), #[]⟩ : Obj)) ::
  (nat_lit 1201, (⟨(.type "code"), none, .fields #[.str "_read_other" 1732, .str "_read_other" 1733, .str "/claim/cut.py" 1734, .int 623 0, .int 2 0, .int 0 0, .int 0 0, .int 3 0, .ref 1196, .bool true, .int 181 0, .ref 1197, .none, .ref 1198, .ref 1199, .ref 1200, .int 1738 0, .int 623 0, .str "/claim/cut.py" 1739], #[]⟩ : Obj)) ::
  (nat_lit 1202, (⟨(.type "function"), none, .func (PySem.W.fnOf "_read_other" "_read_other" (defArgs sROther) (defBody sROther) (defScope sROther) .none .none .none (.str "openranges.reader" 1552) none (.ref 1201) .none), #[]⟩ : Obj)) ::
  (nat_lit 1208, (⟨(.type "code"), none, .fields #[.str "_read_line" 1741, .str "_read_line" 1742, .str "/claim/cut.py" 1743, .int 627 0, .int 1 0, .int 0 0, .int 0 0, .int 3 0, .ref 1203, .bool true, .int 181 0, .ref 1204, .none, .ref 1205, .ref 1206, .ref 1207, .int 1746 0, .int 627 0, .str "/claim/cut.py" 1747], #[]⟩ : Obj)) ::
  (nat_lit 1209, (⟨(.type "function"), none, .func (PySem.W.fnOf "_read_line" "_read_line" (defArgs sRLine) (defBody sRLine) (defScope sRLine) .none .none .none (.str "openranges.reader" 1552) none (.ref 1208) .none), #[]⟩ : Obj)) ::
  (nat_lit 1215, (⟨(.type "code"), none, .fields #[.str "_read_added_line" 1749, .str "_read_added_line" 1750, .str "/claim/cut.py" 1751, .int 632 0, .int 1 0, .int 0 0, .int 0 0, .int 3 0, .ref 1210, .bool true, .int 181 0, .ref 1211, .none, .ref 1212, .ref 1213, .ref 1214, .int 1754 0, .int 632 0, .str "/claim/cut.py" 1755], #[]⟩ : Obj)) ::
  (nat_lit 1216, (⟨(.type "function"), none, .func (PySem.W.fnOf "_read_added_line" "_read_added_line" (defArgs sRAdd) (defBody sRAdd) (defScope sRAdd) .none .none .none (.str "openranges.reader" 1552) none (.ref 1215) .none), #[]⟩ : Obj)) ::
  (nat_lit 1222, (⟨(.type "code"), none, .fields #[.str "_line_from" 1757, .str "_line_from" 1758, .str "/claim/cut.py" 1759, .int 637 0, .int 3 0, .int 0 0, .int 0 0, .int 3 0, .ref 1217, .bool true, .int 181 0, .ref 1218, .none, .ref 1219, .ref 1220, .ref 1221, .int 1764 0, .int 637 0, .str "/claim/cut.py" 1765], #[]⟩ : Obj)) ::
  (nat_lit 1223, (⟨(.type "function"), none, .func (PySem.W.fnOf "_line_from" "_line_from" (defArgs sLineFrom) (defBody sLineFrom) (defScope sLineFrom) .none .none .none (.str "openranges.reader" 1552) none (.ref 1222) .none), #[]⟩ : Obj)) ::
  (nat_lit 1229, (⟨(.type "code"), none, .fields #[.str "_read_height" 1767, .str "_read_height" 1768, .str "/claim/cut.py" 1769, .int 645 0, .int 1 0, .int 0 0, .int 0 0, .int 3 0, .ref 1224, .bool true, .int 181 0, .ref 1225, .none, .ref 1226, .ref 1227, .ref 1228, .int 1772 0, .int 645 0, .str "/claim/cut.py" 1773], #[]⟩ : Obj)) ::
  (nat_lit 1230, (⟨(.type "function"), none, .func (PySem.W.fnOf "_read_height" "_read_height" (defArgs sRHeight) (defBody sRHeight) (defScope sRHeight) .none .none .none (.str "openranges.reader" 1552) none (.ref 1229) .none), #[]⟩ : Obj)) ::
  (nat_lit 1236, (⟨(.type "code"), none, .fields #[.str "_read_plus_or_minus" 1775, .str "_read_plus_or_minus" 1776, .str "/claim/cut.py" 1777, .int 650 0, .int 1 0, .int 0 0, .int 0 0, .int 3 0, .ref 1231, .bool true, .int 181 0, .ref 1232, .none, .ref 1233, .ref 1234, .ref 1235, .int 1779 0, .int 650 0, .str "/claim/cut.py" 1780], #[]⟩ : Obj)) ::
  (nat_lit 1237, (⟨(.type "function"), none, .func (PySem.W.fnOf "_read_plus_or_minus" "_read_plus_or_minus" (defArgs sRSignPM) (defBody sRSignPM) (defScope sRSignPM) .none .none .none (.str "openranges.reader" 1552) none (.ref 1236) .none), #[]⟩ : Obj)) ::
  (nat_lit 1243, (⟨(.type "code"), none, .fields #[.str "_above_nought" 1782, .str "_above_nought" 1783, .str "/claim/cut.py" 1784, .int 652 0, .int 2 0, .int 0 0, .int 0 0, .int 3 0, .ref 1238, .bool true, .int 181 0, .ref 1239, .none, .ref 1240, .ref 1241, .ref 1242, .int 1788 0, .int 652 0, .str "/claim/cut.py" 1789], #[]⟩ : Obj)) ::
  (nat_lit 1244, (⟨(.type "function"), none, .func (PySem.W.fnOf "_above_nought" "_above_nought" (defArgs sAbove) (defBody sAbove) (defScope sAbove) .none .none .none (.str "openranges.reader" 1552) none (.ref 1243) .none), #[]⟩ : Obj)) ::
  (nat_lit 1245, (⟨(.type "dict"), none, .dict #[⟨PyData.keyHash P "answers", (.str "answers" 1791), (.ref 1153)⟩, ⟨PyData.keyHash P "refuses", (.str "refuses" 1792), (.ref 1160)⟩, ⟨PyData.keyHash P "needs", (.str "needs" 1793), (.ref 1167)⟩, ⟨PyData.keyHash P "spreads", (.str "spreads" 1794), (.ref 1174)⟩, ⟨PyData.keyHash P "bound", (.str "bound" 1795), (.ref 1181)⟩, ⟨PyData.keyHash P "pair", (.str "pair" 1796), (.ref 1188)⟩, ⟨PyData.keyHash P "step", (.str "step" 1797), (.ref 1195)⟩] 7, #[]⟩ : Obj)) ::
  (nat_lit 1251, (⟨(.type "code"), none, .fields #[.str "read_clause" 1808, .str "read_clause" 1809, .str "/claim/cut.py" 1810, .int 658 0, .int 1 0, .int 0 0, .int 0 0, .int 3 0, .ref 1246, .bool true, .int 181 0, .ref 1247, .none, .ref 1248, .ref 1249, .ref 1250, .int 1812 0, .int 658 0, .str "/claim/cut.py" 1813], #[]⟩ : Obj)) ::
  (nat_lit 1252, (⟨(.type "function"), none, .func (PySem.W.fnOf "read_clause" "read_clause" (defArgs sRClause) (defBody sRClause) (defScope sRClause) .none .none .none (.str "openranges.texts" 1806) none (.ref 1251) .none), #[]⟩ : Obj)) ::
  (nat_lit 1258, (⟨(.type "code"), none, .fields #[.str "_law_pen" 1817, .str "_law_pen" 1818, .str "/claim/cut.py" 1819, .int 663 0, .int 1 0, .int 0 0, .int 0 0, .int 3 0, .ref 1253, .bool true, .int 181 0, .ref 1254, .none, .ref 1255, .ref 1256, .ref 1257, .int 1821 0, .int 663 0, .str "/claim/cut.py" 1822], #[]⟩ : Obj)) ::
  (nat_lit 1259, (⟨(.type "function"), none, .func (PySem.W.fnOf "_law_pen" "_law_pen" (defArgs sPen) (defBody sPen) (defScope sPen) .none .none .none (.str "law_openranges_k90_clauses_as_texts" 1815) none (.ref 1258) .none), #[]⟩ : Obj)) ::
  (nat_lit 1265, (⟨(.type "code"), none, .fields #[.str "_law_draw" 1824, .str "_law_draw" 1825, .str "/claim/cut.py" 1826, .int 665 0, .int 2 0, .int 0 0, .int 0 0, .int 3 0, .ref 1260, .bool true, .int 181 0, .ref 1261, .none, .ref 1262, .ref 1263, .ref 1264, .int 1833 0, .int 665 0, .str "/claim/cut.py" 1834], #[]⟩ : Obj)) ::
  (nat_lit 1266, (⟨(.type "function"), none, .func (PySem.W.fnOf "_law_draw" "_law_draw" (defArgs sDraw) (defBody sDraw) (defScope sDraw) .none .none .none (.str "law_openranges_k90_clauses_as_texts" 1815) none (.ref 1265) .none), #[]⟩ : Obj)) ::
  (nat_lit 1272, (⟨(.type "code"), none, .fields #[.str "_law_pick" 1836, .str "_law_pick" 1837, .str "/claim/cut.py" 1838, .int 682 0, .int 2 0, .int 0 0, .int 0 0, .int 3 0, .ref 1267, .bool true, .int 181 0, .ref 1268, .none, .ref 1269, .ref 1270, .ref 1271, .int 1841 0, .int 682 0, .str "/claim/cut.py" 1842], #[]⟩ : Obj)) ::
  (nat_lit 1273, (⟨(.type "function"), none, .func (PySem.W.fnOf "_law_pick" "_law_pick" (defArgs sPick) (defBody sPick) (defScope sPick) .none .none .none (.str "law_openranges_k90_clauses_as_texts" 1815) none (.ref 1272) .none), #[]⟩ : Obj)) ::
  (nat_lit 1279, (⟨(.type "code"), none, .fields #[.str "_law_shuffled" 1844, .str "_law_shuffled" 1845, .str "/claim/cut.py" 1846, .int 684 0, .int 2 0, .int 0 0, .int 0 0, .int 3 0, .ref 1274, .bool true, .int 181 0, .ref 1275, .none, .ref 1276, .ref 1277, .ref 1278, .int 1851 0, .int 684 0, .str "/claim/cut.py" 1852], #[]⟩ : Obj)) ::
  (nat_lit 1280, (⟨(.type "function"), none, .func (PySem.W.fnOf "_law_shuffled" "_law_shuffled" (defArgs sShuffled) (defBody sShuffled) (defScope sShuffled) .none .none .none (.str "law_openranges_k90_clauses_as_texts" 1815) none (.ref 1279) .none), #[]⟩ : Obj)) ::
  (nat_lit 1284, (⟨(.type "code"), none, .fields #[.str "_law_words" 1854, .str "_law_words" 1855, .str "/claim/cut.py" 1856, .int 689 0, .int 2 0, .int 0 0, .int 0 0, .int 3 0, .ref 1281, .bool true, .int 181 0, .ref 1282, .none, .none, .none, .ref 1283, .int 1857 0, .int 689 0, .str "/claim/cut.py" 1858], #[]⟩ : Obj)) ::
  (nat_lit 1285, (⟨(.type "function"), none, .func (PySem.W.fnOf "_law_words" "_law_words" (defArgs sWords) (defBody sWords) (defScope sWords) .none .none .none (.str "law_openranges_k90_clauses_as_texts" 1815) none (.ref 1284) .none), #[]⟩ : Obj)) ::
  (nat_lit 1291, (⟨(.type "code"), none, .fields #[.str "_law_far" 1860, .str "_law_far" 1861, .str "/claim/cut.py" 1862, .int 699 0, .int 2 0, .int 0 0, .int 0 0, .int 3 0, .ref 1286, .bool true, .int 181 0, .ref 1287, .none, .ref 1288, .ref 1289, .ref 1290, .int 1868 0, .int 699 0, .str "/claim/cut.py" 1869], #[]⟩ : Obj)) ::
  (nat_lit 1292, (⟨(.type "function"), none, .func (PySem.W.fnOf "_law_far" "_law_far" (defArgs sFar) (defBody sFar) (defScope sFar) .none .none .none (.str "law_openranges_k90_clauses_as_texts" 1815) none (.ref 1291) .none), #[]⟩ : Obj)) ::
  (nat_lit 1296, (⟨(.type "code"), none, .fields #[.str "_law_places_text" 1871, .str "_law_places_text" 1872, .str "/claim/cut.py" 1873, .int 709 0, .int 1 0, .int 0 0, .int 0 0, .int 3 0, .ref 1293, .bool true, .int 181 0, .ref 1294, .none, .none, .none, .ref 1295, .int 1874 0, .int 709 0, .str "/claim/cut.py" 1875], #[]⟩ : Obj)) ::
  (nat_lit 1297, (⟨(.type "function"), none, .func (PySem.W.fnOf "_law_places_text" "_law_places_text" (defArgs sPlText90) (defBody sPlText90) (defScope sPlText90) .none .none .none (.str "law_openranges_k90_clauses_as_texts" 1815) none (.ref 1296) .none), #[]⟩ : Obj)) ::
  (nat_lit 1303, (⟨(.type "code"), none, .fields #[.str "_law_far_stretches" 1877, .str "_law_far_stretches" 1878, .str "/claim/cut.py" 1879, .int 713 0, .int 1 0, .int 0 0, .int 0 0, .int 3 0, .ref 1298, .bool true, .int 181 0, .ref 1299, .none, .ref 1300, .ref 1301, .ref 1302, .int 1886 0, .int 713 0, .str "/claim/cut.py" 1887], #[]⟩ : Obj)) ::
  (nat_lit 1304, (⟨(.type "function"), none, .func (PySem.W.fnOf "_law_far_stretches" "_law_far_stretches" (defArgs sFarStr) (defBody sFarStr) (defScope sFarStr) .none .none .none (.str "law_openranges_k90_clauses_as_texts" 1815) none (.ref 1303) .none), #[]⟩ : Obj)) ::
  (nat_lit 1310, (⟨(.type "code"), none, .fields #[.str "_law_term" 1889, .str "_law_term" 1890, .str "/claim/cut.py" 1891, .int 721 0, .int 3 0, .int 0 0, .int 0 0, .int 3 0, .ref 1305, .bool true, .int 181 0, .ref 1306, .none, .ref 1307, .ref 1308, .ref 1309, .int 1899 0, .int 721 0, .str "/claim/cut.py" 1900], #[]⟩ : Obj)) ::
  (nat_lit 1311, (⟨(.type "function"), none, .func (PySem.W.fnOf "_law_term" "_law_term" (defArgs sTerm) (defBody sTerm) (defScope sTerm) .none .none .none (.str "law_openranges_k90_clauses_as_texts" 1815) none (.ref 1310) .none), #[]⟩ : Obj)) ::
  (nat_lit 1317, (⟨(.type "code"), none, .fields #[.str "_law_far_clause" 1902, .str "_law_far_clause" 1903, .str "/claim/cut.py" 1904, .int 735 0, .int 2 0, .int 0 0, .int 0 0, .int 3 0, .ref 1312, .bool true, .int 181 0, .ref 1313, .none, .ref 1314, .ref 1315, .ref 1316, .int 1919 0, .int 735 0, .str "/claim/cut.py" 1920], #[]⟩ : Obj)) ::
  (nat_lit 1318, (⟨(.type "function"), none, .func (PySem.W.fnOf "_law_far_clause" "_law_far_clause" (defArgs sFarClause) (defBody sFarClause) (defScope sFarClause) .none .none .none (.str "law_openranges_k90_clauses_as_texts" 1815) none (.ref 1317) .none), #[]⟩ : Obj)) ::
  (nat_lit 1324, (⟨(.type "code"), none, .fields #[.str "law" 1922, .str "law" 1923, .str "/claim/cut.py" 1924, .int 758 0, .int 1 0, .int 0 0, .int 0 0, .int 3 0, .ref 1319, .bool true, .int 181 0, .ref 1320, .none, .ref 1321, .ref 1322, .ref 1323, .int 1930 0, .int 758 0, .str "/claim/cut.py" 1931], #[]⟩ : Obj)) ::
  (nat_lit 1325, (⟨(.type "function"), none, .func (PySem.W.fnOf "law" "law" (defArgs sLaw) (defBody sLaw) (defScope sLaw) .none .none .none (.str "law_openranges_k90_clauses_as_texts" 1815) none (.ref 1324) .none), #[]⟩ : Obj)) :: []
end OR

namespace OR
open PySem PySem.Spec PyProof.Rows L2
set_option maxHeartbeats 0 in
theorem all_mk {l : PySem.W.OpenLaw} {w : World} {K : PySem.W.Frag} {h : Heap} {mg : Str → Option Value} {fa CP CL CR aK r0 r1 r2 r3 r4 r5 r6 c0 c1 c2 c3 c4 c5 c6 : Addr} {kvs : List (Str × Value)} (X : K.In h) (G : h.Ns mainGlobals mg) (hfa : mg "law" = some (.ref fa)) (L : PAt K CP) (LL : LAt K CL) (LR : RAt K CR) (hneR : CR ≠ CP) (Z : ZAt K)
    (z_str : PySem.W.nsIn K mainGlobals "str" = some none) (z_divmod : PySem.W.nsIn K mainGlobals "divmod" = some none) (z_all : PySem.W.nsIn K mainGlobals "all" = some none) (lp : ∃ t, mg "LAST_PLACE" = some (.int lastP t)) (bk : ∃ t, mg "_BLOCK" = some (.int (10 ^ 60) t)) (bd0 : ∃ t, PySem.W.nsIn K mainGlobals "_BLOCK_DIGITS" = some (some (.int 60 t)))
    (aKat : PySem.W.nsIn K mainGlobals "_KINDS" = some (some (.ref aK))) (tab : KTab K w aK kvs) (keys : kvs.map (·.1) = [kName 0, kName 1, kName 2, kName 3, kName 4, kName 5, kName 6])
    (n0 : PySem.W.nsIn K aK "answers" = some (some (.ref r0))) (n1 : PySem.W.nsIn K aK "refuses" = some (some (.ref r1))) (n2 : PySem.W.nsIn K aK "needs" = some (some (.ref r2))) (n3 : PySem.W.nsIn K aK "spreads" = some (some (.ref r3))) (n4 : PySem.W.nsIn K aK "bound" = some (some (.ref r4))) (n5 : PySem.W.nsIn K aK "pair" = some (some (.ref r5))) (n6 : PySem.W.nsIn K aK "step" = some (some (.ref r6)))
    (let_ : ∃ t, PySem.W.nsIn K mainGlobals "_LETTERS" = some (some (.str "abcdefghijklmnopqrstuvwxyz" t))) (most : ∃ t, PySem.W.nsIn K mainGlobals "_MOST_LETTERS" = some (some (.int 8 t))) (tS : TpAt K "SIGNS" ["<=", ">=", "="]) (tW : TpAt K "WAYS" ["up", "down"])
    (k0 : CAt K c0 "Answers" ["kind", "function", "places"]) (k1 : CAt K c1 "Refuses" ["kind", "function", "places"]) (k2 : CAt K c2 "Needs" ["kind", "function", "places", "other"]) (k3 : CAt K c3 "Spreads" ["kind", "function", "places", "way"]) (k4 : CAt K c4 "Bound" ["kind", "function", "places", "sign", "slope", "height"]) (k5 : CAt K c5 "Pair" ["kind", "function", "places", "sign", "other", "slope", "height"]) (k6 : CAt K c6 "Step" ["kind", "function", "places", "sign", "height"]) (k7 : K7 K c0 c1 c2 c3 c4 c5 c6)
    (mI : MtD K CP "__init__" "Places.__init__" sPlInit) (fDI : FnAt K "is_integer" sIsInt) (fDP : FnAt K "is_place" sIsPlace) (fDS : FnAt K "_is_stretch" sIsStretch) (fDJ : FnAt K "_joined" sJoined) (fDC : FnAt K "_counts_before" sCounts) (hEQP : MtAt K CP "__eq__" "__eq__" "Places.__eq__" sPlEq) (fDST : FnAt K "_stretch_text" sSText) (hTEP : MtAt K CP "text" "text" "Places.text" sPlText) (mIL : MtAt K CL "__init__" "__init__" "Line.__init__" sLInit) (fDDec : FnAt K "decimal" sDec) (fDRi : FnAt K "_rising_text" sRise) (hTEL : MtAt K CL "text" "text" "Line.text" sLText) (fIW : FnAt K "is_word" sIsWord) (fCW : FnAt K "check_word" sChkW) (fCT : FnAt K "check_two_words" sChkTwo) (fCS : FnAt K "check_sign" sChkSign) (fBG : FnAt K "_beginning" sBegin) (fAD : FnAt K "_added_text" sAdded) (hmL4 : MtAt K c4 "line" "line" "Bound.line" sBouLine) (hmL5 : MtAt K c5 "line" "line" "Pair.line" sPaiLine) (mI0 : MtAt K c0 "__init__" "__init__" "Answers.__init__" sAnsInit) (hmE0 : MtAt K c0 "__eq__" "__eq__" "Answers.__eq__" sAnsEq) (hmX0 : MtAt K c0 "text" "text" "Answers.text" sAnsTxt) (mI1 : MtAt K c1 "__init__" "__init__" "Refuses.__init__" sRefInit) (hmE1 : MtAt K c1 "__eq__" "__eq__" "Refuses.__eq__" sRefEq) (hmX1 : MtAt K c1 "text" "text" "Refuses.text" sRefTxt) (mI2 : MtAt K c2 "__init__" "__init__" "Needs.__init__" sNeeInit) (hmE2 : MtAt K c2 "__eq__" "__eq__" "Needs.__eq__" sNeeEq) (hmX2 : MtAt K c2 "text" "text" "Needs.text" sNeeTxt) (mI3 : MtAt K c3 "__init__" "__init__" "Spreads.__init__" sSprInit) (hmE3 : MtAt K c3 "__eq__" "__eq__" "Spreads.__eq__" sSprEq) (hmX3 : MtAt K c3 "text" "text" "Spreads.text" sSprTxt) (mI4 : MtAt K c4 "__init__" "__init__" "Bound.__init__" sBouInit) (hmE4 : MtAt K c4 "__eq__" "__eq__" "Bound.__eq__" sBouEq) (hmX4 : MtAt K c4 "text" "text" "Bound.text" sBouTxt) (mI5 : MtAt K c5 "__init__" "__init__" "Pair.__init__" sPaiInit) (hmE5 : MtAt K c5 "__eq__" "__eq__" "Pair.__eq__" sPaiEq) (hmX5 : MtAt K c5 "text" "text" "Pair.text" sPaiTxt) (mI6 : MtAt K c6 "__init__" "__init__" "Step.__init__" sSteInit) (hmE6 : MtAt K c6 "__eq__" "__eq__" "Step.__eq__" sSteEq) (hmX6 : MtAt K c6 "text" "text" "Step.text" sSteTxt) (fRDec : FnAt K "read_decimal" sRDec) (fRPl : FnAt K "read_place" sRPl) (fRStr : FnAt K "_read_stretch" sRStr) (fRStrs : FnAt K "read_stretches" sRStrs) (mIR : MtAt K CR "__init__" "__init__" "Reader.__init__" sRdInit) (hRD : MtAt K CR "is_done" "is_done" "Reader.is_done" sRdDone) (hRPk : MtAt K CR "peek" "peek" "Reader.peek" sRdPeek) (hRTk : MtAt K CR "take" "take" "Reader.take" sRdTake) (hRLa : MtAt K CR "check_last" "check_last" "Reader.check_last" sRdLast) (hROO : MtAt K CR "take_one_of" "take_one_of" "Reader.take_one_of" sRdOne) (hRTF : MtAt K CR "take_function" "take_function" "Reader.take_function" sRdFun) (hRTP : MtAt K CR "take_places" "take_places" "Reader.take_places" sRdPls) (hRCD : MtAt K CR "check_done" "check_done" "Reader.check_done" sRdCkD) (fRPM : FnAt K "_read_plus_or_minus" sRSignPM) (fRAN : FnAt K "_above_nought" sAbove) (fRHe : FnAt K "_read_height" sRHeight) (fRLF : FnAt K "_line_from" sLineFrom) (fRLi : FnAt K "_read_line" sRLine) (fRAd : FnAt K "_read_added_line" sRAdd) (fROt : FnAt K "_read_other" sROther) (fK0 : FnAtA K "_read_answers" sRAns r0) (fK1 : FnAtA K "_read_refuses" sRRef r1) (fK2 : FnAtA K "_read_needs" sRNee r2) (fK3 : FnAtA K "_read_spreads" sRSpr r3) (fK4 : FnAtA K "_read_bound" sRBou r4) (fK5 : FnAtA K "_read_pair" sRPai r5) (fK6 : FnAtA K "_read_step" sRSte r6) (fRWC : FnAt K "read_whole_clause" sRWC) (fRC : FnAt K "read_clause" sRClause) (fDPen : FnAt K "_law_pen" sPen) (fDDraw : FnAt K "_law_draw" sDraw) (fDPick : FnAt K "_law_pick" sPick) (fDShuf : FnAt K "_law_shuffled" sShuffled) (fDWords : FnAt K "_law_words" sWords) (fDFar : FnAt K "_law_far" sFar) (fDPT : FnAt K "_law_places_text" sPlText90) (fDFS : FnAt K "_law_far_stretches" sFarStr) (fDTe : FnAt K "_law_term" sTerm) (fDFC : FnAt K "_law_far_clause" sFarClause) (fLaw : FnAt K "law" sLaw) :
    ∃ fd : FuncData, (∀ (s : Shared) (v : Value), BindsTo s fd ⟨[v], []⟩ [("_law_script", v)]) ∧ ∀ base : Heap, K.In base → base.Ns mainGlobals mg → FnOk l.prog w K mg base CX0 11 fa fd ["_law_script"] (spLaw K) := by
  obtain ⟨f, fd, F, e⟩ := fLaw.ex
  have e := hfa.symm.trans (PySem.W.mg_of X G e)
  cases e
  refine ⟨fd, fun s v => ?_, fun base _ _ => ?_⟩
  · obtain ⟨oc, od, kV, doc, pm, an, cdv, ct, osl, rfl, _⟩ := F.ex
    exact .of_eq rfl
  have PT : PTxt K mg CP := L.txt X G Z lp
  have LT : LTxt K mg CL := LL.txt X G Z
  have none : ∀ {x : Str}, PySem.W.nsIn K mainGlobals x = some none → mg x = none := fun z => PySem.W.mg_none_of X G z
  have BL : Bl mg := ⟨none Z.int, none Z.len, none Z.abs, none Z.list⟩
  have B : Bd mg := ⟨none Z.range, none Z.min, none Z.max, none Z.int, none Z.len, none Z.list, none Z.set, none Z.sorted⟩
  have ST : STxt mg := ⟨none z_str, none Z.int, none Z.len, none Z.enum, none Z.isi, lp⟩
  have bd : ∃ t, mg "_BLOCK_DIGITS" = some (.int 60 t) := bd0.imp fun t e => PySem.W.mg_of X G e
  have TT : TTxt mg := ⟨none Z.abs, none z_str, none z_divmod, bk, bd⟩
  have NT : NTxt mg := ⟨none Z.len, none Z.range, none Z.int, bd, bk⟩
  have RT : RdTxt K mg CR := LR.txt X G
  obtain ⟨ts, gS, hS⟩ := tS.ex
  obtain ⟨tw, gW, hW⟩ := tW.ex
  have WT : WTxt K mg ts tw := ⟨none Z.isi, none z_str, none Z.len, none z_all, let_.imp fun t e => PySem.W.mg_of X G e, most.imp fun t e => PySem.W.mg_of X G e, PySem.W.mg_of X G gS, PySem.W.mg_of X G gW, hS, hW⟩
  let C : Nat → Addr := cf c0 c1 c2 c3 c4 c5 c6
  have T : CTxt K mg C := ⟨all7 ⟨k0.pg, k0.hd, k0.po, k0.sa⟩ ⟨k1.pg, k1.hd, k1.po, k1.sa⟩ ⟨k2.pg, k2.hd, k2.po, k2.sa⟩ ⟨k3.pg, k3.hd, k3.po, k3.sa⟩ ⟨k4.pg, k4.hd, k4.po, k4.sa⟩ ⟨k5.pg, k5.hd, k5.po, k5.sa⟩ ⟨k6.pg, k6.hd, k6.po, k6.sa⟩, all7 k0.no k1.no k2.no k3.no k4.no k5.no k6.no, all7 ⟨k0.ca, k0.cn, k0.ct, k0.cm⟩ ⟨k1.ca, k1.cn, k1.ct, k1.cm⟩ ⟨k2.ca, k2.cn, k2.ct, k2.cm⟩ ⟨k3.ca, k3.cn, k3.ct, k3.cm⟩ ⟨k4.ca, k4.cn, k4.ct, k4.cm⟩ ⟨k5.ca, k5.cn, k5.ct, k5.cm⟩ ⟨k6.ca, k6.cn, k6.ct, k6.cm⟩, k7.kk, all7 (PySem.W.mg_of X G k0.aC) (PySem.W.mg_of X G k1.aC) (PySem.W.mg_of X G k2.aC) (PySem.W.mg_of X G k3.aC) (PySem.W.mg_of X G k4.aC) (PySem.W.mg_of X G k5.aC) (PySem.W.mg_of X G k6.aC), all7 k0.sf k1.sf k2.sf k3.sf k4.sf k5.sf k6.sf, all7 k0.ne k1.ne k2.ne k3.ne k4.ne k5.ne k6.ne, all7 k0.kS k1.kS k2.kS k3.kS k4.kS k5.kS k6.kS, all7 k0.kT k1.kT k2.kT k3.kT k4.kT k5.kT k6.kT⟩
  have NFK : NF K C := ⟨k7.cc, all7 (nf_of k0.nS) (nf_of k1.nS) (nf_of k2.nS) (nf_of k3.nS) (nf_of k4.nS) (nf_of k5.nS) (nf_of k6.nS), all7 (nf_of k0.nT) (nf_of k1.nT) (nf_of k2.nT) (nf_of k3.nT) (nf_of k4.nT) (nf_of k5.nT) (nf_of k6.nT)⟩
  have DI : Cl l.prog w K mg base 1 "is_integer" ["value"] (spIsIntG K) := cl_of fDI X G (fun _ _ _ _ _ _ us hl => match us, hl with | [_], _ => rfl) fun f fd F => ok_isintG F PT
  have DP : Cl l.prog w K mg base 2 "is_place" ["value"] (spIsPlace K) := cl_of fDP X G (fun _ _ _ _ _ _ us hl => match us, hl with | [_], _ => rfl) fun f fd F => ok_isplace F PT DI
  have DS : Cl l.prog w K mg base 3 "_is_stretch" ["value"] spIsStretchP := cl_of fDS X G (fun _ _ _ _ _ _ us hl => match us, hl with | [_], _ => rfl) fun f fd F => ok_isstretch F PT DP
  have DJ : Cl l.prog w K mg base 1 "_joined" ["stretches"] (spJoined K) := cl_of fDJ X G (fun _ _ _ _ _ _ us hl => match us, hl with | [_], _ => rfl) fun f fd F => ok_joined F PT
  have DC : Cl l.prog w K mg base 1 "_counts_before" ["stretches"] (spCounts K) := cl_of fDC X G (fun _ _ _ _ _ _ us hl => match us, hl with | [_], _ => rfl) fun f fd F => ok_counts F PT
  have PM : PMk' l.prog w K mg base CP := pmk_of PT L mI DS DJ DC
  have EQP : Md l.prog w K mg base 1 CP "__eq__" (spPlEq K CP) := md_of hEQP (ps := ["self", "other"]) (fun _ _ _ _ _ _ us hl => match us, hl with | [_, _], _ => rfl) fun f fd F => ok_pleq F PT
  have DST : Cl l.prog w K mg base 1 "_stretch_text" ["first", "last"] spSText := cl_of fDST X G (fun _ _ _ _ _ _ us hl => match us, hl with | [_, _], _ => rfl) fun f fd F => ok_stext F ST
  have TEP : Mt l.prog w K mg base 2 CP "text" ["self"] (spPText CP) := mt_of hTEP (ps := ["self"]) (fun _ _ _ _ _ _ us hl => match us, hl with | [_], _ => rfl) fun f fd F => ok_ptext F PT DST
  have LM : LMk l.prog w K mg base CL := lmk_of LT LL mIL
  have DDec : Cl l.prog w K mg base 1 "decimal" ["number"] spDec := cl_of fDDec X G (fun _ _ _ _ _ _ us hl => match us, hl with | [_], _ => rfl) fun f fd F => ok_dec F TT
  have DRi : Cl l.prog w K mg base 2 "_rising_text" ["slope"] spRise := cl_of fDRi X G (fun _ _ _ _ _ _ us hl => match us, hl with | [_], _ => rfl) fun f fd F => ok_rise F DDec
  have TEL : Mt l.prog w K mg base 3 CL "text" ["self"] (spText CL) := mt_of hTEL (ps := ["self"]) (fun _ _ _ _ _ _ us hl => match us, hl with | [_], _ => rfl) fun f fd F => ok_text F LT TT DDec DRi
  have IW : Cl l.prog w K mg base 1 "is_word" ["value"] spIsWord := cl_of fIW X G (fun _ _ _ _ _ _ us hl => match us, hl with | [_], _ => rfl) fun f fd F => ok_isword F WT
  have CW : Cl l.prog w K mg base 2 "check_word" ["value"] spChkW := cl_of fCW X G (fun _ _ _ _ _ _ us hl => match us, hl with | [_], _ => rfl) fun f fd F => ok_chkw F IW
  have CT : Cl l.prog w K mg base 3 "check_two_words" ["function", "other"] spChkTwo := cl_of fCT X G (fun _ _ _ _ _ _ us hl => match us, hl with | [_, _], _ => rfl) fun f fd F => ok_chktwo F CW
  have CS : Cl l.prog w K mg base 1 "check_sign" ["value", "allowed"] (spChkS K) := cl_of fCS X G (fun _ _ _ _ _ _ us hl => match us, hl with | [_, _], _ => rfl) fun f fd F => ok_chks F
  have BG : Cl l.prog w K mg base 3 "_beginning" ["clause"] (spBegin CP C) := cl_of fBG X G (fun _ _ _ _ _ _ us hl => match us, hl with | [_], _ => rfl) fun f fd F => ok_begin F T PT TEP
  have AD : Cl l.prog w K mg base 4 "_added_text" ["line"] (spAdded CL) := cl_of fAD X G (fun _ _ _ _ _ _ us hl => match us, hl with | [_], _ => rfl) fun f fd F => ok_added F LT TEL
  have mL4 : Mt l.prog w K mg base 3 c4 "line" ["self"] (spCLine CP CL C 4) := mt_of hmL4 (ps := ["self"]) (fun _ _ _ _ _ _ us hl => match us, hl with | [_], _ => rfl) fun f fd F => ok_BouL F T LM
  have mL5 : Mt l.prog w K mg base 3 c5 "line" ["self"] (spCLine CP CL C 5) := mt_of hmL5 (ps := ["self"]) (fun _ _ _ _ _ _ us hl => match us, hl with | [_], _ => rfl) fun f fd F => ok_PaiL F T LM
  have M0 : CMk l.prog w K mg base C 0 ["self", "function", "places"] := ⟨by
    obtain ⟨f, fd, F, a, b, c⟩ := mI0.ex
    exact ⟨f, fd, ⟨k0.mks, a, b, k0.kc⟩, ok_AnsI F T CW, F.binds (fun _ _ _ _ _ _ us hl => match us, hl with | [_, _, _], _ => rfl)⟩, T.mgC 0 (by decide)⟩
  have mE0 : Md l.prog w K mg base 2 c0 "__eq__" (spCEq K CP C 0) := md_of hmE0 (ps := ["self", "other"]) (fun _ _ _ _ _ _ us hl => match us, hl with | [_, _], _ => rfl) fun f fd F => ok_AnsE F T PT EQP
  have mX0 : Mt l.prog w K mg base 5 c0 "text" ["self"] (spCText CP C 0) := mt_of hmX0 (ps := ["self"]) (fun _ _ _ _ _ _ us hl => match us, hl with | [_], _ => rfl) fun f fd F => ok_AnsX F T BG
  have M1 : CMk l.prog w K mg base C 1 ["self", "function", "places"] := ⟨by
    obtain ⟨f, fd, F, a, b, c⟩ := mI1.ex
    exact ⟨f, fd, ⟨k1.mks, a, b, k1.kc⟩, ok_RefI F T CW, F.binds (fun _ _ _ _ _ _ us hl => match us, hl with | [_, _, _], _ => rfl)⟩, T.mgC 1 (by decide)⟩
  have mE1 : Md l.prog w K mg base 2 c1 "__eq__" (spCEq K CP C 1) := md_of hmE1 (ps := ["self", "other"]) (fun _ _ _ _ _ _ us hl => match us, hl with | [_, _], _ => rfl) fun f fd F => ok_RefE F T PT EQP
  have mX1 : Mt l.prog w K mg base 5 c1 "text" ["self"] (spCText CP C 1) := mt_of hmX1 (ps := ["self"]) (fun _ _ _ _ _ _ us hl => match us, hl with | [_], _ => rfl) fun f fd F => ok_RefX F T BG
  have M2 : CMk l.prog w K mg base C 2 ["self", "function", "places", "other"] := ⟨by
    obtain ⟨f, fd, F, a, b, c⟩ := mI2.ex
    exact ⟨f, fd, ⟨k2.mks, a, b, k2.kc⟩, ok_NeeI F T CT, F.binds (fun _ _ _ _ _ _ us hl => match us, hl with | [_, _, _, _], _ => rfl)⟩, T.mgC 2 (by decide)⟩
  have mE2 : Md l.prog w K mg base 2 c2 "__eq__" (spCEq K CP C 2) := md_of hmE2 (ps := ["self", "other"]) (fun _ _ _ _ _ _ us hl => match us, hl with | [_, _], _ => rfl) fun f fd F => ok_NeeE F T PT EQP
  have mX2 : Mt l.prog w K mg base 5 c2 "text" ["self"] (spCText CP C 2) := mt_of hmX2 (ps := ["self"]) (fun _ _ _ _ _ _ us hl => match us, hl with | [_], _ => rfl) fun f fd F => ok_NeeX F T BG
  have M3 : CMk l.prog w K mg base C 3 ["self", "function", "places", "way"] := ⟨by
    obtain ⟨f, fd, F, a, b, c⟩ := mI3.ex
    exact ⟨f, fd, ⟨k3.mks, a, b, k3.kc⟩, ok_SprI F T CW CS WT, F.binds (fun _ _ _ _ _ _ us hl => match us, hl with | [_, _, _, _], _ => rfl)⟩, T.mgC 3 (by decide)⟩
  have mE3 : Md l.prog w K mg base 2 c3 "__eq__" (spCEq K CP C 3) := md_of hmE3 (ps := ["self", "other"]) (fun _ _ _ _ _ _ us hl => match us, hl with | [_, _], _ => rfl) fun f fd F => ok_SprE F T PT EQP
  have mX3 : Mt l.prog w K mg base 5 c3 "text" ["self"] (spCText CP C 3) := mt_of hmX3 (ps := ["self"]) (fun _ _ _ _ _ _ us hl => match us, hl with | [_], _ => rfl) fun f fd F => ok_SprX F T BG
  have M4 : CMk l.prog w K mg base C 4 ["self", "function", "places", "sign", "slope", "height"] := ⟨by
    obtain ⟨f, fd, F, a, b, c⟩ := mI4.ex
    exact ⟨f, fd, ⟨k4.mks, a, b, k4.kc⟩, ok_BouI F T CW CS WT, F.binds (fun _ _ _ _ _ _ us hl => match us, hl with | [_, _, _, _, _, _], _ => rfl)⟩, T.mgC 4 (by decide)⟩
  have mE4 : Md l.prog w K mg base 2 c4 "__eq__" (spCEq K CP C 4) := md_of hmE4 (ps := ["self", "other"]) (fun _ _ _ _ _ _ us hl => match us, hl with | [_, _], _ => rfl) fun f fd F => ok_BouE F T PT EQP
  have mX4 : Mt l.prog w K mg base 5 c4 "text" ["self"] (spCText CP C 4) := mt_of hmX4 (ps := ["self"]) (fun _ _ _ _ _ _ us hl => match us, hl with | [_], _ => rfl) fun f fd F => ok_BouX F T BG mL4 LT TEL
  have M5 : CMk l.prog w K mg base C 5 ["self", "function", "places", "sign", "other", "slope", "height"] := ⟨by
    obtain ⟨f, fd, F, a, b, c⟩ := mI5.ex
    exact ⟨f, fd, ⟨k5.mks, a, b, k5.kc⟩, ok_PaiI F T CT CS WT, F.binds (fun _ _ _ _ _ _ us hl => match us, hl with | [_, _, _, _, _, _, _], _ => rfl)⟩, T.mgC 5 (by decide)⟩
  have mE5 : Md l.prog w K mg base 2 c5 "__eq__" (spCEq K CP C 5) := md_of hmE5 (ps := ["self", "other"]) (fun _ _ _ _ _ _ us hl => match us, hl with | [_, _], _ => rfl) fun f fd F => ok_PaiE F T PT EQP
  have mX5 : Mt l.prog w K mg base 5 c5 "text" ["self"] (spCText CP C 5) := mt_of hmX5 (ps := ["self"]) (fun _ _ _ _ _ _ us hl => match us, hl with | [_], _ => rfl) fun f fd F => ok_PaiX F T BG mL5 AD
  have M6 : CMk l.prog w K mg base C 6 ["self", "function", "places", "sign", "height"] := ⟨by
    obtain ⟨f, fd, F, a, b, c⟩ := mI6.ex
    exact ⟨f, fd, ⟨k6.mks, a, b, k6.kc⟩, ok_SteI F T CW CS WT, F.binds (fun _ _ _ _ _ _ us hl => match us, hl with | [_, _, _, _, _], _ => rfl)⟩, T.mgC 6 (by decide)⟩
  have mE6 : Md l.prog w K mg base 2 c6 "__eq__" (spCEq K CP C 6) := md_of hmE6 (ps := ["self", "other"]) (fun _ _ _ _ _ _ us hl => match us, hl with | [_, _], _ => rfl) fun f fd F => ok_SteE F T PT EQP
  have mX6 : Mt l.prog w K mg base 5 c6 "text" ["self"] (spCText CP C 6) := mt_of hmX6 (ps := ["self"]) (fun _ _ _ _ _ _ us hl => match us, hl with | [_], _ => rfl) fun f fd F => ok_SteX F T BG DDec
  have RDec : Cl l.prog w K mg base 1 "read_decimal" ["text"] spRDec := cl_of fRDec X G (fun _ _ _ _ _ _ us hl => match us, hl with | [_], _ => rfl) fun f fd F => ok_rdec F NT
  have RPl : Cl l.prog w K mg base 3 "read_place" ["text"] spRPl := cl_of fRPl X G (fun _ _ _ _ _ _ us hl => match us, hl with | [_], _ => rfl) fun f fd F => ok_rpl F RDec DP
  have RStr : Cl l.prog w K mg base 4 "_read_stretch" ["word"] spRStr := cl_of fRStr X G (fun _ _ _ _ _ _ us hl => match us, hl with | [_], _ => rfl) fun f fd F => ok_rstr F RPl
  have RStrs : Cl l.prog w K mg base 5 "read_stretches" ["words", "begin", "end", "last"] (spRStrsG K) := cl_of fRStrs X G (fun _ _ _ _ _ _ us hl => match us, hl with | [_, _, _, _], _ => rfl) fun f fd F => ok_rstrsG F (none Z.range) RStr
  have RD : Mt l.prog w K mg base 1 CR "is_done" ["self"] (spDone K CR) := mt_of hRD (ps := ["self"]) (fun _ _ _ _ _ _ us hl => match us, hl with | [_], _ => rfl) fun f fd F => ok_done F RT (none Z.len)
  have RPk : Mt l.prog w K mg base 2 CR "peek" ["self"] (spPeek K CR) := mt_of hRPk (ps := ["self"]) (fun _ _ _ _ _ _ us hl => match us, hl with | [_], _ => rfl) fun f fd F => ok_peek F RT RD
  have RTk : Mt l.prog w K mg base 2 CR "take" ["self"] (spTake K CR) := mt_of hRTk (ps := ["self"]) (fun _ _ _ _ _ _ us hl => match us, hl with | [_], _ => rfl) fun f fd F => ok_take F RT RD
  have RLa : Mt l.prog w K mg base 1 CR "check_last" ["self", "is_right"] spLastOk := mt_of hRLa (ps := ["self", "is_right"]) (fun _ _ _ _ _ _ us hl => match us, hl with | [_, _], _ => rfl) fun f fd F => ok_last F
  have ROO : Mt l.prog w K mg base 3 CR "take_one_of" ["self", "allowed"] (spOneOf K CR) := mt_of hROO (ps := ["self", "allowed"]) (fun _ _ _ _ _ _ us hl => match us, hl with | [_, _], _ => rfl) fun f fd F => ok_oneof F RT RTk RLa
  have RTF : Mt l.prog w K mg base 3 CR "take_function" ["self"] (spTakeF K CR) := mt_of hRTF (ps := ["self"]) (fun _ _ _ _ _ _ us hl => match us, hl with | [_], _ => rfl) fun f fd F => ok_takef F RT RTk RLa IW
  have RTP : Mt l.prog w K mg base 6 CR "take_places" ["self"] (spTakeP K CR CP) := mt_of hRTP (ps := ["self"]) (fun _ _ _ _ _ _ us hl => match us, hl with | [_], _ => rfl) fun f fd F => ok_takep F RT RD RPk PM RStrs
  have RCD : Mt l.prog w K mg base 2 CR "check_done" ["self"] (spCkD K CR) := mt_of hRCD (ps := ["self"]) (fun _ _ _ _ _ _ us hl => match us, hl with | [_], _ => rfl) fun f fd F => ok_ckd F RT RD
  have RPM : Cl l.prog w K mg base 4 "_read_plus_or_minus" ["reader"] (spPM K CR) := cl_of fRPM X G (fun _ _ _ _ _ _ us hl => match us, hl with | [_], _ => rfl) fun f fd F => ok_pm F RT ROO
  have RAN : Cl l.prog w K mg base 2 "_above_nought" ["reader", "word"] (spAboveR K CR) := cl_of fRAN X G (fun _ _ _ _ _ _ us hl => match us, hl with | [_, _], _ => rfl) fun f fd F => ok_above F RT RDec RLa
  have RHe : Cl l.prog w K mg base 5 "_read_height" ["reader"] (spHeight K CR) := cl_of fRHe X G (fun _ _ _ _ _ _ us hl => match us, hl with | [_], _ => rfl) fun f fd F => ok_height F RT RD RTk RPM RAN
  have RLF : Cl l.prog w K mg base 6 "_line_from" ["reader", "term", "by"] (spLineFrom K CR CL) := cl_of fRLF X G (fun _ _ _ _ _ _ us hl => match us, hl with | [_, _, _], _ => rfl) fun f fd F => ok_linefrom F RT LM RPk RTk RHe RAN
  have RLi : Cl l.prog w K mg base 7 "_read_line" ["reader"] (spRLine K CR CL) := cl_of fRLi X G (fun _ _ _ _ _ _ us hl => match us, hl with | [_], _ => rfl) fun f fd F => ok_rline F RT LM RTk RLF
  have RAd : Cl l.prog w K mg base 7 "_read_added_line" ["reader"] (spRAdd K CR CL) := cl_of fRAd X G (fun _ _ _ _ _ _ us hl => match us, hl with | [_], _ => rfl) fun f fd F => ok_radd F RT LM RD RTk RPM RLF
  have ROt : Cl l.prog w K mg base 4 "_read_other" ["reader", "function"] (spROther K CR) := cl_of fROt X G (fun _ _ _ _ _ _ us hl => match us, hl with | [_, _], _ => rfl) fun f fd F => ok_rother F RT RTF RLa
  have KH : KHeld l.prog w K mg base CR C aK (cf r0 r1 r2 r3 r4 r5 r6) kvs := ⟨PySem.W.mg_of X G aKat, tab, keys, all7 n0 n1 n2 n3 n4 n5 n6, all7 (held_of fK0 (fun _ _ _ _ _ _ us hl => match us, hl with | [_, _, _], _ => rfl) (fun fd F => (ok_rd0 F M0).mono (by decide))) (held_of fK1 (fun _ _ _ _ _ _ us hl => match us, hl with | [_, _, _], _ => rfl) (fun fd F => (ok_rd1 F M1).mono (by decide))) (held_of fK2 (fun _ _ _ _ _ _ us hl => match us, hl with | [_, _, _], _ => rfl) (fun fd F => (ok_rd2 F M2 ROt).mono (by decide))) (held_of fK3 (fun _ _ _ _ _ _ us hl => match us, hl with | [_, _, _], _ => rfl) (fun fd F => (ok_rd3 F RT WT M3 ROO).mono (by decide))) (held_of fK4 (fun _ _ _ _ _ _ us hl => match us, hl with | [_, _, _], _ => rfl) (fun fd F => (ok_rd4 F RT WT LT M4 ROO RLi).mono (by decide))) (held_of fK5 (fun _ _ _ _ _ _ us hl => match us, hl with | [_, _, _], _ => rfl) (fun fd F => (ok_rd5 F RT WT LT M5 ROO ROt RAd).mono (by decide))) (held_of fK6 (fun _ _ _ _ _ _ us hl => match us, hl with | [_, _, _], _ => rfl) (fun fd F => (ok_rd6 F RT WT M6 ROO RTk RLa RDec).mono (by decide)))⟩
  have RWC : Cl l.prog w K mg base 9 "read_whole_clause" ["reader"] (spRWC K CR CP C) := cl_of fRWC X G (fun _ _ _ _ _ _ us hl => match us, hl with | [_], _ => rfl) fun f fd F => ok_rwc F RT (none Z.list) hneR ROO RTF RTP RCD KH
  have RC : Cl l.prog w K mg base 10 "read_clause" ["text"] (spRC CP C) := by
    obtain ⟨fi, fdi, Fi, a, b, c⟩ := mIR.ex
    exact cl_of fRC X G (fun _ _ _ _ _ _ us hl => match us, hl with | [_], _ => rfl) fun f fd F => ok_rclause F RT ST ⟨LR.mks, a, b, LR.kc⟩ (ok_rinit Fi RT) (Fi.binds (fun _ _ _ _ _ _ us hl => match us, hl with | [_, _, _, _, _], _ => rfl)) RWC
  have DPen : Cl l.prog w K mg base 1 "_law_pen" ["_law_script"] (spPen K) := cl_of fDPen X G (fun _ _ _ _ _ _ us hl => match us, hl with | [_], _ => rfl) fun f fd F => ok_pen F BL
  have DDraw : Cl l.prog w K mg base 1 "_law_draw" ["_law_pen_here", "_law_many"] spDraw := cl_of fDDraw X G (fun _ _ _ _ _ _ us hl => match us, hl with | [_, _], _ => rfl) fun f fd F => ok_draw F BL
  have DPick : Cl l.prog w K mg base 2 "_law_pick" ["_law_pen_here", "_law_items"] (spPick K) := cl_of fDPick X G (fun _ _ _ _ _ _ us hl => match us, hl with | [_, _], _ => rfl) fun f fd F => ok_pick F BL DDraw
  have DPickS : Cl l.prog w K mg base 2 "_law_pick" ["_law_pen_here", "_law_items"] spPickS := cl_of fDPick X G (fun _ _ _ _ _ _ us hl => match us, hl with | [_, _], _ => rfl) fun f fd F => ok_pickS F BL DDraw
  have DShuf : Cl l.prog w K mg base 2 "_law_shuffled" ["_law_pen_here", "_law_items"] (spShuffled K) := cl_of fDShuf X G (fun _ _ _ _ _ _ us hl => match us, hl with | [_, _], _ => rfl) fun f fd F => ok_shuffled F B DDraw
  have DShufS : Cl l.prog w K mg base 2 "_law_shuffled" ["_law_pen_here", "_law_items"] (spShufS K) := cl_of fDShuf X G (fun _ _ _ _ _ _ us hl => match us, hl with | [_, _], _ => rfl) fun f fd F => ok_shufs F B DDraw
  have DWords : Cl l.prog w K mg base 3 "_law_words" ["_law_pen_here", "_law_many"] spWords := cl_of fDWords X G (fun _ _ _ _ _ _ us hl => match us, hl with | [_, _], _ => rfl) fun f fd F => ok_words F B DDraw DPick DPickS DShufS
  have DFar : Cl l.prog w K mg base 2 "_law_far" ["_law_pen_here", "_law_many"] spFar := cl_of fDFar X G (fun _ _ _ _ _ _ us hl => match us, hl with | [_, _], _ => rfl) fun f fd F => ok_far F B DDraw
  have DPT : Cl l.prog w K mg base 1 "_law_places_text" ["_law_stretches"] (spPT K) := cl_of fDPT X G (fun _ _ _ _ _ _ us hl => match us, hl with | [_], _ => rfl) fun f fd F => ok_pt F (none z_str)
  have DFS : Cl l.prog w K mg base 3 "_law_far_stretches" ["_law_pen_here"] spFarStr := cl_of fDFS X G (fun _ _ _ _ _ _ us hl => match us, hl with | [_], _ => rfl) fun f fd F => ok_farstr F B DDraw DPick DFar
  have DTe : Cl l.prog w K mg base 1 "_law_term" ["_law_slope", "_law_height", "_law_is_rest"] spTerm := cl_of fDTe X G (fun _ _ _ _ _ _ us hl => match us, hl with | [_, _, _], _ => rfl) fun f fd F => ok_term F (none z_str) (none Z.abs)
  have DFC : Cl l.prog w K mg base 6 "_law_far_clause" ["_law_pen_here", "_law_words_here"] (spFarC CP C) := cl_of fDFC X G (fun _ _ _ _ _ _ us hl => match us, hl with | [_, _], _ => rfl) fun f fd F => ok_farc F (none z_str) DPick DFar DFS DShuf DPT DTe PM M0 M1 M2 M3 M4 M5 M6
  exact ok_law F B T NFK (all7 mX0 mX1 mX2 mX3 mX4 mX5 mX6) (all7 mE0 mE1 mE2 mE3 mE4 mE5 mE6) DPen DWords DFC RC
end OR
namespace PySem.W.Fast
def tw9498416796882283051 : Nat := 0
theorem te9498416796882283051 : True := trivial
def tw9242663237016645756 : Nat := 0
theorem te9242663237016645756 : True := trivial
def tw15621272897032184407 : Nat := 0
theorem te15621272897032184407 : True := trivial
def tw9682757342323761536 : Nat := 0
theorem te9682757342323761536 : True := trivial
end PySem.W.Fast
open PySem PySem.W PyProof.Rows
set_option maxRecDepth 100000 in
set_option maxHeartbeats 0 in
theorem PySem.Challenge.cw_openranges_k90_clauses_as_texts_holds : PySem.Challenge.rw_openranges_k90_clauses_as_texts.Holds := by
  w_on; o_law; o_head (kHook OR.K90 (nat_lit 2 :: nat_lit 3 :: nat_lit 154 :: nat_lit 155 :: nat_lit 161 :: nat_lit 162 :: nat_lit 168 :: nat_lit 169 :: nat_lit 175 :: nat_lit 176 :: nat_lit 182 :: nat_lit 183 :: nat_lit 196 :: nat_lit 197 :: nat_lit 280 :: nat_lit 281 :: nat_lit 283 :: nat_lit 284 :: nat_lit 294 :: nat_lit 295 :: nat_lit 299 :: nat_lit 300 :: nat_lit 306 :: nat_lit 307 :: nat_lit 313 :: nat_lit 314 :: nat_lit 320 :: nat_lit 321 :: nat_lit 322 :: nat_lit 323 :: nat_lit 336 :: nat_lit 337 :: nat_lit 343 :: nat_lit 344 :: nat_lit 385 :: nat_lit 386 :: nat_lit 388 :: nat_lit 389 :: nat_lit 406 :: nat_lit 407 :: nat_lit 413 :: nat_lit 414 :: nat_lit 455 :: nat_lit 456 :: nat_lit 458 :: nat_lit 459 :: nat_lit 476 :: nat_lit 477 :: nat_lit 483 :: nat_lit 484 :: nat_lit 525 :: nat_lit 526 :: nat_lit 528 :: nat_lit 529 :: nat_lit 546 :: nat_lit 547 :: nat_lit 553 :: nat_lit 554 :: nat_lit 595 :: nat_lit 596 :: nat_lit 598 :: nat_lit 599 :: nat_lit 616 :: nat_lit 617 :: nat_lit 623 :: nat_lit 624 :: nat_lit 630 :: nat_lit 631 :: nat_lit 672 :: nat_lit 673 :: nat_lit 675 :: nat_lit 676 :: nat_lit 693 :: nat_lit 694 :: nat_lit 700 :: nat_lit 701 :: nat_lit 707 :: nat_lit 708 :: nat_lit 749 :: nat_lit 750 :: nat_lit 752 :: nat_lit 753 :: nat_lit 770 :: nat_lit 771 :: nat_lit 777 :: nat_lit 778 :: nat_lit 819 :: nat_lit 820 :: nat_lit 822 :: nat_lit 823 :: nat_lit 833 :: nat_lit 834 :: nat_lit 840 :: nat_lit 841 :: nat_lit 856 :: nat_lit 857 :: nat_lit 861 :: nat_lit 862 :: nat_lit 868 :: nat_lit 869 :: nat_lit 985 :: nat_lit 986 :: nat_lit 995 :: nat_lit 998 :: nat_lit 999 :: nat_lit 1009 :: nat_lit 1010 :: nat_lit 1016 :: nat_lit 1017 :: nat_lit 1021 :: nat_lit 1022 :: nat_lit 1028 :: nat_lit 1029 :: nat_lit 1054 :: nat_lit 1055 :: nat_lit 1061 :: nat_lit 1062 :: nat_lit 1075 :: nat_lit 1076 :: nat_lit 1082 :: nat_lit 1083 :: nat_lit 1089 :: nat_lit 1090 :: nat_lit 1096 :: nat_lit 1097 :: nat_lit 1103 :: nat_lit 1104 :: nat_lit 1110 :: nat_lit 1111 :: nat_lit 1117 :: nat_lit 1118 :: nat_lit 1124 :: nat_lit 1125 :: nat_lit 1131 :: nat_lit 1132 :: nat_lit 1134 :: nat_lit 1135 :: nat_lit 1145 :: nat_lit 1146 :: nat_lit 1152 :: nat_lit 1153 :: nat_lit 1159 :: nat_lit 1160 :: nat_lit 1166 :: nat_lit 1167 :: nat_lit 1173 :: nat_lit 1174 :: nat_lit 1180 :: nat_lit 1181 :: nat_lit 1187 :: nat_lit 1188 :: nat_lit 1194 :: nat_lit 1195 :: nat_lit 1201 :: nat_lit 1202 :: nat_lit 1208 :: nat_lit 1209 :: nat_lit 1215 :: nat_lit 1216 :: nat_lit 1222 :: nat_lit 1223 :: nat_lit 1229 :: nat_lit 1230 :: nat_lit 1236 :: nat_lit 1237 :: nat_lit 1243 :: nat_lit 1244 :: nat_lit 1245 :: nat_lit 1251 :: nat_lit 1252 :: nat_lit 1258 :: nat_lit 1259 :: nat_lit 1265 :: nat_lit 1266 :: nat_lit 1272 :: nat_lit 1273 :: nat_lit 1279 :: nat_lit 1280 :: nat_lit 1284 :: nat_lit 1285 :: nat_lit 1291 :: nat_lit 1292 :: nat_lit 1296 :: nat_lit 1297 :: nat_lit 1303 :: nat_lit 1304 :: nat_lit 1310 :: nat_lit 1311 :: nat_lit 1317 :: nat_lit 1318 :: nat_lit 1324 :: nat_lit 1325 :: []) (fun _ => by kernel_rfl)); (case hw => w_witness2)
  k_fill
  refine OR.walk_ofX (l := PySem.Challenge.rw_openranges_k90_clauses_as_texts) (n := 63) (k := 11) (x := "_law_script") (CX := fun _ => L2.CX0) (sp := fun w => OR.spLaw _) rfl (by decide) rfl ⟨rfl, by decide, by decide⟩ (fun w h Y => PySem.W.kIn_of Y) ?F (fun _ _ a ns hl _ hS => ⟨a, ns, rfl, hS, hl, fun _ => rfl⟩) (fun _ _ _ _ _ h => h)
  case F =>
    intro w mg fa h KX G XL hmg
    refine' OR.all_mk (aK := 1245) (r0 := 1153) (r1 := 1160) (r2 := 1167) (r3 := 1174) (r4 := 1181) (r5 := 1188) (r6 := 1195) (kvs := [("answers", .ref 1153), ("refuses", .ref 1160), ("needs", .ref 1167), ("spreads", .ref 1174), ("bound", .ref 1181), ("pair", .ref 1188), ("step", .ref 1195)]) KX G hmg ?L ?LL ?LR ?hneR ?Z ?z_str ?z_divmod ?z_all ?lp ?bk ?bd0 ?aKat ?tab ?keys ?n0 ?n1 ?n2 ?n3 ?n4 ?n5 ?n6 ?let_ ?most ?tS ?tW ?k0 ?k1 ?k2 ?k3 ?k4 ?k5 ?k6 ?k7 ?mI ?fDI ?fDP ?fDS ?fDJ ?fDC ?hEQP ?fDST ?hTEP ?mIL ?fDDec ?fDRi ?hTEL ?fIW ?fCW ?fCT ?fCS ?fBG ?fAD ?hmL4 ?hmL5 ?mI0 ?hmE0 ?hmX0 ?mI1 ?hmE1 ?hmX1 ?mI2 ?hmE2 ?hmX2 ?mI3 ?hmE3 ?hmX3 ?mI4 ?hmE4 ?hmX4 ?mI5 ?hmE5 ?hmX5 ?mI6 ?hmE6 ?hmX6 ?fRDec ?fRPl ?fRStr ?fRStrs ?mIR ?hRD ?hRPk ?hRTk ?hRLa ?hROO ?hRTF ?hRTP ?hRCD ?fRPM ?fRAN ?fRHe ?fRLF ?fRLi ?fRAd ?fROt ?fK0 ?fK1 ?fK2 ?fK3 ?fK4 ?fK5 ?fK6 ?fRWC ?fRC ?fDPen ?fDDraw ?fDPick ?fDShuf ?fDWords ?fDFar ?fDPT ?fDFS ?fDTe ?fDFC ?fLaw
    case lp => exact OR.lp_of XL (by first | exact List.Mem.head _ | exact .tail _ (.head _) | exact .tail _ (.tail _ (.head _)))
    case bk => exact OR.blk_of XL (by first | exact List.Mem.head _ | exact .tail _ (.head _) | exact .tail _ (.tail _ (.head _)))
    all_goals try clear hmg XL
    case L =>
      refine' OR.PAt.mk ?aC ?pg ?hd ?po ?sa ?mks ?kc ?nS ?nF ?nB ?ca ?cn ?ct ?cm ?ne ?sT ?sL ?kPP ?kT ?kL ?sf
      (case aC => k_is); (case pg => k_is); (case hd => k_is); (case po => k_is); (case sa => k_is); (case mks => k_is); (case kc => k_is); (case nS => k_is); (case nF => k_is); (case nB => k_is); (case ca => k_is); (case cn => k_is); (case ct => k_is); (case cm => k_is); (case ne => k_is); (case sT => k_is); (case sL => k_is); (case kPP => kit_is); (case kT => kit_is); (case kL => kit_is); (case sf => k_is)
    case LL =>
      refine' OR.LAt.mk ?aC ?pg ?hd ?po ?sa ?mks ?kc ?nS ?nH ?sf ?ca ?cn ?ct ?cm ?ne ?kLL ?kIL ?kTL
      (case aC => k_is); (case pg => k_is); (case hd => k_is); (case po => k_is); (case sa => k_is); (case mks => k_is); (case kc => k_is); (case nS => k_is); (case nH => k_is); (case sf => k_is); (case ca => k_is); (case cn => k_is); (case ct => k_is); (case cm => k_is); (case ne => k_is); (case kLL => kit_is); (case kIL => kit_is); (case kTL => kit_is)
    case LR =>
      refine' OR.RAt.mk ?aC ?pg ?hd ?po ?sa ?mks ?kc ?nW ?nA ?nF ?nL
      (case aC => k_is); (case pg => k_is); (case hd => k_is); (case po => k_is); (case sa => k_is); (case mks => k_is); (case kc => k_is); (case nW => k_is); (case nA => k_is); (case nF => k_is); (case nL => k_is)
    case hneR => decide
    case Z =>
      refine' OR.ZAt.mk ?isi ?int ?bool ?tup ?list ?len ?max ?min ?sorted ?enum ?range ?set ?abs
      (case isi => k_is); (case int => k_is); (case bool => k_is); (case tup => k_is); (case list => k_is); (case len => k_is); (case max => k_is); (case min => k_is); (case sorted => k_is); (case enum => k_is); (case range => k_is); (case set => k_is); (case abs => k_is)
    case z_str => k_is
    case z_divmod => k_is
    case z_all => k_is

    case bd0 => exact ⟨_, by k_is⟩
    case aKat => k_is
    case tab => exact ⟨⟨_, _, by k_is, by exact ⟨⟨_, _, rfl, rfl⟩, ⟨_, _, rfl, rfl⟩, ⟨_, _, rfl, rfl⟩, ⟨_, _, rfl, rfl⟩, ⟨_, _, rfl, rfl⟩, ⟨_, _, rfl, rfl⟩, ⟨_, _, rfl, rfl⟩, trivial⟩, by exact .cons rfl rfl (.cons rfl rfl (.cons rfl rfl (.cons rfl rfl (.cons rfl rfl (.cons rfl rfl (.cons rfl rfl (.nil)))))))⟩, by decide +kernel, by show 7 ≤ 100; decide, by decide⟩
    case keys => rfl
    case n0 => k_is
    case n1 => k_is
    case n2 => k_is
    case n3 => k_is
    case n4 => k_is
    case n5 => k_is
    case n6 => k_is
    case let_ => exact ⟨_, by k_is⟩
    case most => exact ⟨_, by k_is⟩
    case tS => refine' OR.tp3 KX ?a ?l; (case a => k_is); (case l => k_is)
    case tW => refine' OR.tp2 KX ?a ?l; (case a => k_is); (case l => k_is)
    case k0 =>
      refine' OR.CAt.mk ?aC ?pg ?hd ?po ?sa ?mks ?kc ?no ?sf ?ca ?cn ?ct ?cm ?ne ?kS ?kT ?nS ?nT
      (case aC => k_is); (case pg => k_is); (case hd => k_is); (case po => k_is); (case sa => k_is); (case mks => k_is); (case kc => k_is); (case no => refine' OR.fa1 ?n0 (OR.fa1 ?n1 (OR.fa1 ?n2 (OR.fa0))); (case n0 => k_is); (case n1 => k_is); (case n2 => k_is)); (case sf => k_is); (case ca => k_is); (case cn => k_is); (case ct => k_is); (case cm => k_is); (case ne => k_is); (case kS => kit_is); (case kT => kit_is); (case nS => k_is); (case nT => k_is)
    case k1 =>
      refine' OR.CAt.mk ?aC ?pg ?hd ?po ?sa ?mks ?kc ?no ?sf ?ca ?cn ?ct ?cm ?ne ?kS ?kT ?nS ?nT
      (case aC => k_is); (case pg => k_is); (case hd => k_is); (case po => k_is); (case sa => k_is); (case mks => k_is); (case kc => k_is); (case no => refine' OR.fa1 ?n0 (OR.fa1 ?n1 (OR.fa1 ?n2 (OR.fa0))); (case n0 => k_is); (case n1 => k_is); (case n2 => k_is)); (case sf => k_is); (case ca => k_is); (case cn => k_is); (case ct => k_is); (case cm => k_is); (case ne => k_is); (case kS => kit_is); (case kT => kit_is); (case nS => k_is); (case nT => k_is)
    case k2 =>
      refine' OR.CAt.mk ?aC ?pg ?hd ?po ?sa ?mks ?kc ?no ?sf ?ca ?cn ?ct ?cm ?ne ?kS ?kT ?nS ?nT
      (case aC => k_is); (case pg => k_is); (case hd => k_is); (case po => k_is); (case sa => k_is); (case mks => k_is); (case kc => k_is); (case no => refine' OR.fa1 ?n0 (OR.fa1 ?n1 (OR.fa1 ?n2 (OR.fa1 ?n3 (OR.fa0)))); (case n0 => k_is); (case n1 => k_is); (case n2 => k_is); (case n3 => k_is)); (case sf => k_is); (case ca => k_is); (case cn => k_is); (case ct => k_is); (case cm => k_is); (case ne => k_is); (case kS => kit_is); (case kT => kit_is); (case nS => k_is); (case nT => k_is)
    case k3 =>
      refine' OR.CAt.mk ?aC ?pg ?hd ?po ?sa ?mks ?kc ?no ?sf ?ca ?cn ?ct ?cm ?ne ?kS ?kT ?nS ?nT
      (case aC => k_is); (case pg => k_is); (case hd => k_is); (case po => k_is); (case sa => k_is); (case mks => k_is); (case kc => k_is); (case no => refine' OR.fa1 ?n0 (OR.fa1 ?n1 (OR.fa1 ?n2 (OR.fa1 ?n3 (OR.fa0)))); (case n0 => k_is); (case n1 => k_is); (case n2 => k_is); (case n3 => k_is)); (case sf => k_is); (case ca => k_is); (case cn => k_is); (case ct => k_is); (case cm => k_is); (case ne => k_is); (case kS => kit_is); (case kT => kit_is); (case nS => k_is); (case nT => k_is)
    case k4 =>
      refine' OR.CAt.mk ?aC ?pg ?hd ?po ?sa ?mks ?kc ?no ?sf ?ca ?cn ?ct ?cm ?ne ?kS ?kT ?nS ?nT
      (case aC => k_is); (case pg => k_is); (case hd => k_is); (case po => k_is); (case sa => k_is); (case mks => k_is); (case kc => k_is); (case no => refine' OR.fa1 ?n0 (OR.fa1 ?n1 (OR.fa1 ?n2 (OR.fa1 ?n3 (OR.fa1 ?n4 (OR.fa1 ?n5 (OR.fa0)))))); (case n0 => k_is); (case n1 => k_is); (case n2 => k_is); (case n3 => k_is); (case n4 => k_is); (case n5 => k_is)); (case sf => k_is); (case ca => k_is); (case cn => k_is); (case ct => k_is); (case cm => k_is); (case ne => k_is); (case kS => kit_is); (case kT => kit_is); (case nS => k_is); (case nT => k_is)
    case k5 =>
      refine' OR.CAt.mk ?aC ?pg ?hd ?po ?sa ?mks ?kc ?no ?sf ?ca ?cn ?ct ?cm ?ne ?kS ?kT ?nS ?nT
      (case aC => k_is); (case pg => k_is); (case hd => k_is); (case po => k_is); (case sa => k_is); (case mks => k_is); (case kc => k_is); (case no => refine' OR.fa1 ?n0 (OR.fa1 ?n1 (OR.fa1 ?n2 (OR.fa1 ?n3 (OR.fa1 ?n4 (OR.fa1 ?n5 (OR.fa1 ?n6 (OR.fa0))))))); (case n0 => k_is); (case n1 => k_is); (case n2 => k_is); (case n3 => k_is); (case n4 => k_is); (case n5 => k_is); (case n6 => k_is)); (case sf => k_is); (case ca => k_is); (case cn => k_is); (case ct => k_is); (case cm => k_is); (case ne => k_is); (case kS => kit_is); (case kT => kit_is); (case nS => k_is); (case nT => k_is)
    case k6 =>
      refine' OR.CAt.mk ?aC ?pg ?hd ?po ?sa ?mks ?kc ?no ?sf ?ca ?cn ?ct ?cm ?ne ?kS ?kT ?nS ?nT
      (case aC => k_is); (case pg => k_is); (case hd => k_is); (case po => k_is); (case sa => k_is); (case mks => k_is); (case kc => k_is); (case no => refine' OR.fa1 ?n0 (OR.fa1 ?n1 (OR.fa1 ?n2 (OR.fa1 ?n3 (OR.fa1 ?n4 (OR.fa0))))); (case n0 => k_is); (case n1 => k_is); (case n2 => k_is); (case n3 => k_is); (case n4 => k_is)); (case sf => k_is); (case ca => k_is); (case cn => k_is); (case ct => k_is); (case cm => k_is); (case ne => k_is); (case kS => kit_is); (case kT => kit_is); (case nS => k_is); (case nT => k_is)
    case k7 =>
      refine' OR.K7.mk ?q00 ?q01 ?q02 ?q03 ?q04 ?q05 ?q06 ?q10 ?q11 ?q12 ?q13 ?q14 ?q15 ?q16 ?q20 ?q21 ?q22 ?q23 ?q24 ?q25 ?q26 ?q30 ?q31 ?q32 ?q33 ?q34 ?q35 ?q36 ?q40 ?q41 ?q42 ?q43 ?q44 ?q45 ?q46 ?q50 ?q51 ?q52 ?q53 ?q54 ?q55 ?q56 ?q60 ?q61 ?q62 ?q63 ?q64 ?q65 ?q66 ?s01 ?s02 ?s03 ?s04 ?s05 ?s06 ?s10 ?s12 ?s13 ?s14 ?s15 ?s16 ?s20 ?s21 ?s23 ?s24 ?s25 ?s26 ?s30 ?s31 ?s32 ?s34 ?s35 ?s36 ?s40 ?s41 ?s42 ?s43 ?s45 ?s46 ?s50 ?s51 ?s52 ?s53 ?s54 ?s56 ?s60 ?s61 ?s62 ?s63 ?s64 ?s65
      (case q00 => kit_is); (case q01 => kit_is); (case q02 => kit_is); (case q03 => kit_is); (case q04 => kit_is); (case q05 => kit_is); (case q06 => kit_is); (case q10 => kit_is); (case q11 => kit_is); (case q12 => kit_is); (case q13 => kit_is); (case q14 => kit_is); (case q15 => kit_is); (case q16 => kit_is); (case q20 => kit_is); (case q21 => kit_is); (case q22 => kit_is); (case q23 => kit_is); (case q24 => kit_is); (case q25 => kit_is); (case q26 => kit_is); (case q30 => kit_is); (case q31 => kit_is); (case q32 => kit_is); (case q33 => kit_is); (case q34 => kit_is); (case q35 => kit_is); (case q36 => kit_is); (case q40 => kit_is); (case q41 => kit_is); (case q42 => kit_is); (case q43 => kit_is); (case q44 => kit_is); (case q45 => kit_is); (case q46 => kit_is); (case q50 => kit_is); (case q51 => kit_is); (case q52 => kit_is); (case q53 => kit_is); (case q54 => kit_is); (case q55 => kit_is); (case q56 => kit_is); (case q60 => kit_is); (case q61 => kit_is); (case q62 => kit_is); (case q63 => kit_is); (case q64 => kit_is); (case q65 => kit_is); (case q66 => kit_is)
      (case s01 => k_is); (case s02 => k_is); (case s03 => k_is); (case s04 => k_is); (case s05 => k_is); (case s06 => k_is); (case s10 => k_is); (case s12 => k_is); (case s13 => k_is); (case s14 => k_is); (case s15 => k_is); (case s16 => k_is); (case s20 => k_is); (case s21 => k_is); (case s23 => k_is); (case s24 => k_is); (case s25 => k_is); (case s26 => k_is); (case s30 => k_is); (case s31 => k_is); (case s32 => k_is); (case s34 => k_is); (case s35 => k_is); (case s36 => k_is); (case s40 => k_is); (case s41 => k_is); (case s42 => k_is); (case s43 => k_is); (case s45 => k_is); (case s46 => k_is); (case s50 => k_is); (case s51 => k_is); (case s52 => k_is); (case s53 => k_is); (case s54 => k_is); (case s56 => k_is); (case s60 => k_is); (case s61 => k_is); (case s62 => k_is); (case s63 => k_is); (case s64 => k_is); (case s65 => k_is)
    case mI => refine' OR.mtD KX ?a ?l ?lT ?l0 ?c ?k ?i; (case a => k_is); (case l => k_is); (case lT => k_is); (case l0 => k_is); (case c => k_is); (case k => k_is); (case i => k_is)
    case fDI => refine' OR.fnAt KX ?a ?l ?c ?k; (case a => k_is); (case l => k_is); (case c => k_is); (case k => k_is)
    case fDP => refine' OR.fnAt KX ?a ?l ?c ?k; (case a => k_is); (case l => k_is); (case c => k_is); (case k => k_is)
    case fDS => refine' OR.fnAt KX ?a ?l ?c ?k; (case a => k_is); (case l => k_is); (case c => k_is); (case k => k_is)
    case fDJ => refine' OR.fnAt KX ?a ?l ?c ?k; (case a => k_is); (case l => k_is); (case c => k_is); (case k => k_is)
    case fDC => refine' OR.fnAt KX ?a ?l ?c ?k; (case a => k_is); (case l => k_is); (case c => k_is); (case k => k_is)
    case hEQP => refine' OR.mtAt KX ?a ?l ?c ?k ?i ?nn; (case a => k_is); (case l => k_is); (case c => k_is); (case k => k_is); (case i => k_is); (case nn => k_is)
    case fDST => refine' OR.fnAt KX ?a ?l ?c ?k; (case a => k_is); (case l => k_is); (case c => k_is); (case k => k_is)
    case hTEP => refine' OR.mtAt KX ?a ?l ?c ?k ?i ?nn; (case a => k_is); (case l => k_is); (case c => k_is); (case k => k_is); (case i => k_is); (case nn => k_is)
    case mIL => refine' OR.mtAt KX ?a ?l ?c ?k ?i ?nn; (case a => k_is); (case l => k_is); (case c => k_is); (case k => k_is); (case i => k_is); (case nn => k_is)
    case fDDec => refine' OR.fnAt KX ?a ?l ?c ?k; (case a => k_is); (case l => k_is); (case c => k_is); (case k => k_is)
    case fDRi => refine' OR.fnAt KX ?a ?l ?c ?k; (case a => k_is); (case l => k_is); (case c => k_is); (case k => k_is)
    case hTEL => refine' OR.mtAt KX ?a ?l ?c ?k ?i ?nn; (case a => k_is); (case l => k_is); (case c => k_is); (case k => k_is); (case i => k_is); (case nn => k_is)
    case fIW => refine' OR.fnAt KX ?a ?l ?c ?k; (case a => k_is); (case l => k_is); (case c => k_is); (case k => k_is)
    case fCW => refine' OR.fnAt KX ?a ?l ?c ?k; (case a => k_is); (case l => k_is); (case c => k_is); (case k => k_is)
    case fCT => refine' OR.fnAt KX ?a ?l ?c ?k; (case a => k_is); (case l => k_is); (case c => k_is); (case k => k_is)
    case fCS => refine' OR.fnAt KX ?a ?l ?c ?k; (case a => k_is); (case l => k_is); (case c => k_is); (case k => k_is)
    case fBG => refine' OR.fnAt KX ?a ?l ?c ?k; (case a => k_is); (case l => k_is); (case c => k_is); (case k => k_is)
    case fAD => refine' OR.fnAt KX ?a ?l ?c ?k; (case a => k_is); (case l => k_is); (case c => k_is); (case k => k_is)
    case hmL4 => refine' OR.mtAt KX ?a ?l ?c ?k ?i ?nn; (case a => k_is); (case l => k_is); (case c => k_is); (case k => k_is); (case i => k_is); (case nn => k_is)
    case hmL5 => refine' OR.mtAt KX ?a ?l ?c ?k ?i ?nn; (case a => k_is); (case l => k_is); (case c => k_is); (case k => k_is); (case i => k_is); (case nn => k_is)
    case mI0 => refine' OR.mtAt KX ?a ?l ?c ?k ?i ?nn; (case a => k_is); (case l => k_is); (case c => k_is); (case k => k_is); (case i => k_is); (case nn => k_is)
    case hmE0 => refine' OR.mtAt KX ?a ?l ?c ?k ?i ?nn; (case a => k_is); (case l => k_is); (case c => k_is); (case k => k_is); (case i => k_is); (case nn => k_is)
    case hmX0 => refine' OR.mtAt KX ?a ?l ?c ?k ?i ?nn; (case a => k_is); (case l => k_is); (case c => k_is); (case k => k_is); (case i => k_is); (case nn => k_is)
    case mI1 => refine' OR.mtAt KX ?a ?l ?c ?k ?i ?nn; (case a => k_is); (case l => k_is); (case c => k_is); (case k => k_is); (case i => k_is); (case nn => k_is)
    case hmE1 => refine' OR.mtAt KX ?a ?l ?c ?k ?i ?nn; (case a => k_is); (case l => k_is); (case c => k_is); (case k => k_is); (case i => k_is); (case nn => k_is)
    case hmX1 => refine' OR.mtAt KX ?a ?l ?c ?k ?i ?nn; (case a => k_is); (case l => k_is); (case c => k_is); (case k => k_is); (case i => k_is); (case nn => k_is)
    case mI2 => refine' OR.mtAt KX ?a ?l ?c ?k ?i ?nn; (case a => k_is); (case l => k_is); (case c => k_is); (case k => k_is); (case i => k_is); (case nn => k_is)
    case hmE2 => refine' OR.mtAt KX ?a ?l ?c ?k ?i ?nn; (case a => k_is); (case l => k_is); (case c => k_is); (case k => k_is); (case i => k_is); (case nn => k_is)
    case hmX2 => refine' OR.mtAt KX ?a ?l ?c ?k ?i ?nn; (case a => k_is); (case l => k_is); (case c => k_is); (case k => k_is); (case i => k_is); (case nn => k_is)
    case mI3 => refine' OR.mtAt KX ?a ?l ?c ?k ?i ?nn; (case a => k_is); (case l => k_is); (case c => k_is); (case k => k_is); (case i => k_is); (case nn => k_is)
    case hmE3 => refine' OR.mtAt KX ?a ?l ?c ?k ?i ?nn; (case a => k_is); (case l => k_is); (case c => k_is); (case k => k_is); (case i => k_is); (case nn => k_is)
    case hmX3 => refine' OR.mtAt KX ?a ?l ?c ?k ?i ?nn; (case a => k_is); (case l => k_is); (case c => k_is); (case k => k_is); (case i => k_is); (case nn => k_is)
    case mI4 => refine' OR.mtAt KX ?a ?l ?c ?k ?i ?nn; (case a => k_is); (case l => k_is); (case c => k_is); (case k => k_is); (case i => k_is); (case nn => k_is)
    case hmE4 => refine' OR.mtAt KX ?a ?l ?c ?k ?i ?nn; (case a => k_is); (case l => k_is); (case c => k_is); (case k => k_is); (case i => k_is); (case nn => k_is)
    case hmX4 => refine' OR.mtAt KX ?a ?l ?c ?k ?i ?nn; (case a => k_is); (case l => k_is); (case c => k_is); (case k => k_is); (case i => k_is); (case nn => k_is)
    case mI5 => refine' OR.mtAt KX ?a ?l ?c ?k ?i ?nn; (case a => k_is); (case l => k_is); (case c => k_is); (case k => k_is); (case i => k_is); (case nn => k_is)
    case hmE5 => refine' OR.mtAt KX ?a ?l ?c ?k ?i ?nn; (case a => k_is); (case l => k_is); (case c => k_is); (case k => k_is); (case i => k_is); (case nn => k_is)
    case hmX5 => refine' OR.mtAt KX ?a ?l ?c ?k ?i ?nn; (case a => k_is); (case l => k_is); (case c => k_is); (case k => k_is); (case i => k_is); (case nn => k_is)
    case mI6 => refine' OR.mtAt KX ?a ?l ?c ?k ?i ?nn; (case a => k_is); (case l => k_is); (case c => k_is); (case k => k_is); (case i => k_is); (case nn => k_is)
    case hmE6 => refine' OR.mtAt KX ?a ?l ?c ?k ?i ?nn; (case a => k_is); (case l => k_is); (case c => k_is); (case k => k_is); (case i => k_is); (case nn => k_is)
    case hmX6 => refine' OR.mtAt KX ?a ?l ?c ?k ?i ?nn; (case a => k_is); (case l => k_is); (case c => k_is); (case k => k_is); (case i => k_is); (case nn => k_is)
    case fRDec => refine' OR.fnAt KX ?a ?l ?c ?k; (case a => k_is); (case l => k_is); (case c => k_is); (case k => k_is)
    case fRPl => refine' OR.fnAt KX ?a ?l ?c ?k; (case a => k_is); (case l => k_is); (case c => k_is); (case k => k_is)
    case fRStr => refine' OR.fnAt KX ?a ?l ?c ?k; (case a => k_is); (case l => k_is); (case c => k_is); (case k => k_is)
    case fRStrs => refine' OR.fnAt KX ?a ?l ?c ?k; (case a => k_is); (case l => k_is); (case c => k_is); (case k => k_is)
    case mIR => refine' OR.mtAt KX ?a ?l ?c ?k ?i ?nn; (case a => k_is); (case l => k_is); (case c => k_is); (case k => k_is); (case i => k_is); (case nn => k_is)
    case hRD => refine' OR.mtAt KX ?a ?l ?c ?k ?i ?nn; (case a => k_is); (case l => k_is); (case c => k_is); (case k => k_is); (case i => k_is); (case nn => k_is)
    case hRPk => refine' OR.mtAt KX ?a ?l ?c ?k ?i ?nn; (case a => k_is); (case l => k_is); (case c => k_is); (case k => k_is); (case i => k_is); (case nn => k_is)
    case hRTk => refine' OR.mtAt KX ?a ?l ?c ?k ?i ?nn; (case a => k_is); (case l => k_is); (case c => k_is); (case k => k_is); (case i => k_is); (case nn => k_is)
    case hRLa => refine' OR.mtAt KX ?a ?l ?c ?k ?i ?nn; (case a => k_is); (case l => k_is); (case c => k_is); (case k => k_is); (case i => k_is); (case nn => k_is)
    case hROO => refine' OR.mtAt KX ?a ?l ?c ?k ?i ?nn; (case a => k_is); (case l => k_is); (case c => k_is); (case k => k_is); (case i => k_is); (case nn => k_is)
    case hRTF => refine' OR.mtAt KX ?a ?l ?c ?k ?i ?nn; (case a => k_is); (case l => k_is); (case c => k_is); (case k => k_is); (case i => k_is); (case nn => k_is)
    case hRTP => refine' OR.mtAt KX ?a ?l ?c ?k ?i ?nn; (case a => k_is); (case l => k_is); (case c => k_is); (case k => k_is); (case i => k_is); (case nn => k_is)
    case hRCD => refine' OR.mtAt KX ?a ?l ?c ?k ?i ?nn; (case a => k_is); (case l => k_is); (case c => k_is); (case k => k_is); (case i => k_is); (case nn => k_is)
    case fRPM => refine' OR.fnAt KX ?a ?l ?c ?k; (case a => k_is); (case l => k_is); (case c => k_is); (case k => k_is)
    case fRAN => refine' OR.fnAt KX ?a ?l ?c ?k; (case a => k_is); (case l => k_is); (case c => k_is); (case k => k_is)
    case fRHe => refine' OR.fnAt KX ?a ?l ?c ?k; (case a => k_is); (case l => k_is); (case c => k_is); (case k => k_is)
    case fRLF => refine' OR.fnAt KX ?a ?l ?c ?k; (case a => k_is); (case l => k_is); (case c => k_is); (case k => k_is)
    case fRLi => refine' OR.fnAt KX ?a ?l ?c ?k; (case a => k_is); (case l => k_is); (case c => k_is); (case k => k_is)
    case fRAd => refine' OR.fnAt KX ?a ?l ?c ?k; (case a => k_is); (case l => k_is); (case c => k_is); (case k => k_is)
    case fROt => refine' OR.fnAt KX ?a ?l ?c ?k; (case a => k_is); (case l => k_is); (case c => k_is); (case k => k_is)
    case fK0 => refine' OR.fnAtA KX ?l ?c ?k; (case l => k_is); (case c => k_is); (case k => k_is)
    case fK1 => refine' OR.fnAtA KX ?l ?c ?k; (case l => k_is); (case c => k_is); (case k => k_is)
    case fK2 => refine' OR.fnAtA KX ?l ?c ?k; (case l => k_is); (case c => k_is); (case k => k_is)
    case fK3 => refine' OR.fnAtA KX ?l ?c ?k; (case l => k_is); (case c => k_is); (case k => k_is)
    case fK4 => refine' OR.fnAtA KX ?l ?c ?k; (case l => k_is); (case c => k_is); (case k => k_is)
    case fK5 => refine' OR.fnAtA KX ?l ?c ?k; (case l => k_is); (case c => k_is); (case k => k_is)
    case fK6 => refine' OR.fnAtA KX ?l ?c ?k; (case l => k_is); (case c => k_is); (case k => k_is)
    case fRWC => refine' OR.fnAt KX ?a ?l ?c ?k; (case a => k_is); (case l => k_is); (case c => k_is); (case k => k_is)
    case fRC => refine' OR.fnAt KX ?a ?l ?c ?k; (case a => k_is); (case l => k_is); (case c => k_is); (case k => k_is)
    case fDPen => refine' OR.fnAt KX ?a ?l ?c ?k; (case a => k_is); (case l => k_is); (case c => k_is); (case k => k_is)
    case fDDraw => refine' OR.fnAt KX ?a ?l ?c ?k; (case a => k_is); (case l => k_is); (case c => k_is); (case k => k_is)
    case fDPick => refine' OR.fnAt KX ?a ?l ?c ?k; (case a => k_is); (case l => k_is); (case c => k_is); (case k => k_is)
    case fDShuf => refine' OR.fnAt KX ?a ?l ?c ?k; (case a => k_is); (case l => k_is); (case c => k_is); (case k => k_is)
    case fDWords => refine' OR.fnAt KX ?a ?l ?c ?k; (case a => k_is); (case l => k_is); (case c => k_is); (case k => k_is)
    case fDFar => refine' OR.fnAt KX ?a ?l ?c ?k; (case a => k_is); (case l => k_is); (case c => k_is); (case k => k_is)
    case fDPT => refine' OR.fnAt KX ?a ?l ?c ?k; (case a => k_is); (case l => k_is); (case c => k_is); (case k => k_is)
    case fDFS => refine' OR.fnAt KX ?a ?l ?c ?k; (case a => k_is); (case l => k_is); (case c => k_is); (case k => k_is)
    case fDTe => refine' OR.fnAt KX ?a ?l ?c ?k; (case a => k_is); (case l => k_is); (case c => k_is); (case k => k_is)
    case fDFC => refine' OR.fnAt KX ?a ?l ?c ?k; (case a => k_is); (case l => k_is); (case c => k_is); (case k => k_is)
    case fLaw => refine' OR.fnAt KX ?a ?l ?c ?k; (case a => k_is); (case l => k_is); (case c => k_is); (case k => k_is)

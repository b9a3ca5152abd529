import PyProof.Rows.All
import Wide.All
import OpenK.AllK
import Wide.FinOn
import HandS.ForMost
import HandS.Wide
import HandS.IsInst
import HandS.TupAny
import HandS.TupLe
import HandS.Star
import HandS.Evl
import HandS.SortRule
import HandS.NoneIn
import HandS.Defaults
import HandS.TupSets
import HandS.Keys
import HandS.Small
import KE.KOpsOwn
import HandS.SlotsOwn
import KE.RegKIsAll
import PyProof.Draws
import HandS.ForExc
import HandS.Text
import HandS.FStr
import HandS.StrMore
import HandS.MapJoin
import HandS.Style
import HandS.Records
import HandS.Rev
import HandS.Flow
import HandS.WideBits
import HandS.CallLocal
import HandS.Codes
import HandS.OwnEq
import HandS.ExcField
import HandS.ExcInit
import HandS.ExcIs
import HandS.ExcOwn
import KE.KExcIs
import PySem.Challenge.RW_openranges_k26_rules_refused
set_option Elab.async false
set_option linter.all false
set_option maxRecDepth 100000
namespace OR
open PySem PySem.Spec PyProof.Rows L2
def top (i : Nat) : Stmt := PySem.Challenge.pw_openranges_k26_rules_refused.main.body.getD i (.Pass ⟨0, 0, 0, 0⟩)
abbrev pWall : Stmt := top 0
abbrev sIsInt : Stmt := top 5
abbrev sIsPlace : Stmt := top 6
abbrev sDec : Stmt := top 7
abbrev sRDec : Stmt := top 8
abbrev sRPl : Stmt := top 9
abbrev sLInit : Stmt := inClass (top 11) 0
abbrev sLineCall : Stmt := inClass (top 11) 1
abbrev sLEq : Stmt := inClass (top 11) 2
abbrev sLineAdd : Stmt := inClass (top 11) 3
abbrev sLineRadd : Stmt := inClass (top 11) 4
abbrev sLineNeg : Stmt := inClass (top 11) 5
abbrev sLineSub : Stmt := inClass (top 11) 6
abbrev sLineRsub : Stmt := inClass (top 11) 7
abbrev sLineMul : Stmt := inClass (top 11) 8
abbrev sLineRmul : Stmt := inClass (top 11) 9
abbrev sLineMoved : Stmt := inClass (top 11) 10
abbrev sLineMirrored : Stmt := inClass (top 11) 11
abbrev sLText : Stmt := inClass (top 11) 12
abbrev sRise : Stmt := top 12
abbrev sBadStretchInit : Stmt := inClass (top 15) 0
abbrev sBadTextInit : Stmt := inClass (top 16) 0
abbrev sBadWordInit : Stmt := inClass (top 17) 0
abbrev sSameFunctionInit : Stmt := inClass (top 18) 0
abbrev sBadSignInit : Stmt := inClass (top 19) 0
abbrev sBadFunctionsInit : Stmt := inClass (top 20) 0
abbrev sTwiceInit : Stmt := inClass (top 21) 0
abbrev sTooManyInit : Stmt := inClass (top 22) 0
abbrev sNoFunctionInit : Stmt := inClass (top 23) 0
abbrev sNoPlaceInit : Stmt := inClass (top 24) 0
abbrev sNoClauseInit : Stmt := inClass (top 25) 0
abbrev sIsWord : Stmt := top 29
abbrev sChkW : Stmt := top 30
abbrev sChkTwo : Stmt := top 31
abbrev sChkSign : Stmt := top 32
abbrev sAnsInit : Stmt := inClass (top 36) 0
abbrev sAnsEq : Stmt := inClass (top 36) 1
abbrev sAnsTold : Stmt := inClass (top 36) 2
abbrev sAnsNeg : Stmt := inClass (top 36) 3
abbrev sAnsTim : Stmt := inClass (top 36) 4
abbrev sAnsMov : Stmt := inClass (top 36) 5
abbrev sAnsMir : Stmt := inClass (top 36) 6
abbrev sAnsTxt : Stmt := inClass (top 36) 7
abbrev sRefInit : Stmt := inClass (top 37) 0
abbrev sRefEq : Stmt := inClass (top 37) 1
abbrev sRefTold : Stmt := inClass (top 37) 2
abbrev sRefNeg : Stmt := inClass (top 37) 3
abbrev sRefTim : Stmt := inClass (top 37) 4
abbrev sRefMov : Stmt := inClass (top 37) 5
abbrev sRefMir : Stmt := inClass (top 37) 6
abbrev sRefTxt : Stmt := inClass (top 37) 7
abbrev sNeeInit : Stmt := inClass (top 38) 0
abbrev sNeeEq : Stmt := inClass (top 38) 1
abbrev sNeeTold : Stmt := inClass (top 38) 2
abbrev sNeeNeg : Stmt := inClass (top 38) 3
abbrev sNeeTim : Stmt := inClass (top 38) 4
abbrev sNeeMov : Stmt := inClass (top 38) 5
abbrev sNeeMir : Stmt := inClass (top 38) 6
abbrev sNeeTxt : Stmt := inClass (top 38) 7
abbrev sSprInit : Stmt := inClass (top 39) 0
abbrev sSprEq : Stmt := inClass (top 39) 1
abbrev sSprTold : Stmt := inClass (top 39) 2
abbrev sSprNeg : Stmt := inClass (top 39) 3
abbrev sSprTim : Stmt := inClass (top 39) 4
abbrev sSprMov : Stmt := inClass (top 39) 5
abbrev sSprMir : Stmt := inClass (top 39) 6
abbrev sSprTxt : Stmt := inClass (top 39) 7
abbrev sBouInit : Stmt := inClass (top 40) 0
abbrev sBouEq : Stmt := inClass (top 40) 1
abbrev sBouLine : Stmt := inClass (top 40) 2
abbrev sBouTold : Stmt := inClass (top 40) 3
abbrev sBouNeg : Stmt := inClass (top 40) 4
abbrev sBouTim : Stmt := inClass (top 40) 5
abbrev sBouMov : Stmt := inClass (top 40) 6
abbrev sBouMir : Stmt := inClass (top 40) 7
abbrev sBouTxt : Stmt := inClass (top 40) 8
abbrev sPaiInit : Stmt := inClass (top 41) 0
abbrev sPaiEq : Stmt := inClass (top 41) 1
abbrev sPaiLine : Stmt := inClass (top 41) 2
abbrev sPaiTold : Stmt := inClass (top 41) 3
abbrev sPaiNeg : Stmt := inClass (top 41) 4
abbrev sPaiTim : Stmt := inClass (top 41) 5
abbrev sPaiMov : Stmt := inClass (top 41) 6
abbrev sPaiMir : Stmt := inClass (top 41) 7
abbrev sPaiTxt : Stmt := inClass (top 41) 8
abbrev sSteInit : Stmt := inClass (top 42) 0
abbrev sSteEq : Stmt := inClass (top 42) 1
abbrev sSteTold : Stmt := inClass (top 42) 2
abbrev sSteNeg : Stmt := inClass (top 42) 3
abbrev sSteTim : Stmt := inClass (top 42) 4
abbrev sSteMov : Stmt := inClass (top 42) 5
abbrev sSteMir : Stmt := inClass (top 42) 6
abbrev sSteTxt : Stmt := inClass (top 42) 7
abbrev sIsClause : Stmt := top 43
abbrev sBegin : Stmt := top 44
abbrev sAdded : Stmt := top 45
abbrev sRuInit : Stmt := inClass (top 49) 0
abbrev sRuEq : Stmt := inClass (top 49) 1
abbrev sChkFits : Stmt := top 50
abbrev sChkFuns : Stmt := top 51
abbrev pOverlaps : Stmt := top 53
abbrev sPlInit : Stmt := inClass (top 55) 0
abbrev sPlEq : Stmt := inClass (top 55) 1
abbrev sPlBool : Stmt := inClass (top 55) 2
abbrev sPlacesContains : Stmt := inClass (top 55) 3
abbrev sPlacesGetitem : Stmt := inClass (top 55) 4
abbrev sPlacesIter : Stmt := inClass (top 55) 5
abbrev sPlacesOr : Stmt := inClass (top 55) 6
abbrev sPlacesAnd : Stmt := inClass (top 55) 7
abbrev sPlacesSub : Stmt := inClass (top 55) 8
abbrev sPlacesXor : Stmt := inClass (top 55) 9
abbrev sPlacesSize : Stmt := inClass (top 55) 10
abbrev sPlacesRank : Stmt := inClass (top 55) 11
abbrev sPlacesLeast : Stmt := inClass (top 55) 12
abbrev sPlacesGreatest : Stmt := inClass (top 55) 13
abbrev sPlacesWithin : Stmt := inClass (top 55) 14
abbrev sPlacesShifted : Stmt := inClass (top 55) 15
abbrev sPlacesMirrored : Stmt := inClass (top 55) 16
abbrev sPlacesInner : Stmt := inClass (top 55) 17
abbrev sPlText : Stmt := inClass (top 55) 18
abbrev sPlacesRead : Stmt := inClass (top 55) 19
abbrev sRStrs : Stmt := top 56
abbrev sIsStretch : Stmt := top 57
abbrev sJoined : Stmt := top 58
abbrev sCounts : Stmt := top 59
abbrev pHowManyUpto : Stmt := top 60
abbrev pCommon : Stmt := top 61
abbrev pGaps : Stmt := top 62
abbrev sSText : Stmt := top 63
abbrev sRStr : Stmt := top 64
abbrev sPenOf : Stmt := top 66
abbrev sDraw : Stmt := top 67
abbrev sPick : Stmt := top 68
abbrev sWordsOf : Stmt := top 69
abbrev sNormal : Stmt := top 70
abbrev sNear : Stmt := top 71
abbrev sStretches : Stmt := top 72
abbrev sWorth : Stmt := top 73
abbrev sSlopeOf : Stmt := top 74
abbrev sNumberClause : Stmt := top 75
abbrev sClauseOf : Stmt := top 76
abbrev sWorldOf : Stmt := top 77
abbrev sMadeOf : Stmt := top 78
abbrev sRefusal : Stmt := top 79
abbrev sLIsWord : Stmt := top 80
abbrev sDue : Stmt := top 81
abbrev sLaw : Stmt := top 82
end OR

namespace OR
open PySem PySem.Spec PyProof.Rows L2
/-! ### the pen: a dict of the cells, how many have begun, what is left of the last one -/
theorem kBC : ¬ ((Sum.inr ("begun" : Str) : Key) = Sum.inr ("cells" : Str)) := by decide +kernel
theorem kLC : ¬ ((Sum.inr ("left" : Str) : Key) = Sum.inr ("cells" : Str)) := by decide +kernel
theorem kLB : ¬ ((Sum.inr ("left" : Str) : Key) = Sum.inr ("begun" : Str)) := by decide +kernel
def penK (c : Addr) (k l : Int) : List (Key × V) := [(.inr ("cells" : Str), .ref c), (.inr ("begun" : Str), .int k), (.inr ("left" : Str), .int l)]
theorem pen_cells (c : Addr) (k l : Int) : valV (penK c k l) (.inr ("cells" : Str)) = some (.ref c) := valV_pos rfl
theorem pen_begun (c : Addr) (k l : Int) : valV (penK c k l) (.inr ("begun" : Str)) = some (.int k) :=
  (valV_neg (fun e => kBC e.symm)).trans (valV_pos rfl)
theorem pen_left (c : Addr) (k l : Int) : valV (penK c k l) (.inr ("left" : Str)) = some (.int l) :=
  (valV_neg (fun e => kLC e.symm)).trans ((valV_neg (fun e => kLB e.symm)).trans (valV_pos rfl))
theorem pen_put_left (c : Addr) (k l y : Int) : putK (penK c k l) (.inr ("left" : Str)) (.int y) = penK c k y := by
  have h1 : ¬ ((Sum.inr ("cells" : Str) : Key) = Sum.inr ("left" : Str)) := fun e => kLC e.symm
  have h2 : ¬ ((Sum.inr ("begun" : Str) : Key) = Sum.inr ("left" : Str)) := fun e => kLB e.symm
  unfold putK penK
  simp only [List.any_cons, List.any_nil, List.map_cons, List.map_nil, h1, h2, decide_true, decide_false, Bool.or_false, Bool.false_or, if_true, if_false]
theorem pen_put_begun (c : Addr) (k l y : Int) : putK (penK c k l) (.inr ("begun" : Str)) (.int y) = penK c y l := by
  have h1 : ¬ ((Sum.inr ("cells" : Str) : Key) = Sum.inr ("begun" : Str)) := fun e => kBC e.symm
  have h2 : ¬ ((Sum.inr ("left" : Str) : Key) = Sum.inr ("begun" : Str)) := kLB
  unfold putK penK
  simp only [List.any_cons, List.any_nil, List.map_cons, List.map_nil, h1, h2, decide_true, decide_false, Bool.or_false, Bool.false_or, Bool.or_true, if_true, if_false]
/-- a pen at p after at most n draws -/
def Pen (H : Hp) (p : Addr) (n : Nat) : Prop := ∃ (c : Addr) (ns : List Int) (k l : Int), H p = some (.dK (penK c k l)) ∧ H c = some (.lst (ns.map V.int)) ∧ ns.length ≤ 63 ∧ 0 ≤ k ∧ k ≤ n ∧ 0 ≤ l
/-- where the pen at p keeps its cells -/
def cellsAt (H : Hp) (p c : Addr) : Prop := ∃ k l, H p = some (.dK (penK c k l))
theorem penK_inj {c c' : Addr} {k l k' l' : Int} (h : penK c k l = penK c' k' l') : c = c' := by
  unfold penK at h
  injection h with h1 _
  injection h1 with _ h2
  injection h2
theorem cellsAt.inj {H : Hp} {p c : Addr} {k l : Int} {c' : Addr} (h : cellsAt H p c) (e : H p = some (.dK (penK c' k l))) : c = c' := by
  obtain ⟨k', l', e'⟩ := h
  rw [e] at e'
  injection e' with e'
  injection e' with e'
  exact (penK_inj e').symm
/-- all but what stands at p is as it was, and the pen there has the same cells -/
structure Frm (p : Addr) (H H' : Hp) : Prop where
  at_ : ∀ b o, H b = some o → b ≠ p → H' b = some o
  ce : ∀ c, cellsAt H p c → cellsAt H' p c
instance {p : Addr} {H H' : Hp} : CoeFun (Frm p H H') (fun _ => ∀ b o, H b = some o → b ≠ p → H' b = some o) := ⟨Frm.at_⟩
theorem Frm.refl (p : Addr) (H : Hp) : Frm p H H := ⟨fun _ _ h _ => h, fun _ h => h⟩
theorem Frm.trans {p : Addr} {H H1 H2 : Hp} (a : Frm p H H1) (b : Frm p H1 H2) : Frm p H H2 := ⟨fun c o h n => b c o (a c o h n) n, fun c h => b.ce c (a.ce c h)⟩
theorem Frm.pen {p c : Addr} {H : Hp} {k l k' l' : Int} (h : H p = some (.dK (penK c k l))) : Frm p H (upd H p (.dK (penK c k' l'))) :=
  ⟨fun b x e n => by rw [upd_ne n]; exact e, fun c' h' => by rw [h'.inj h]; exact ⟨k', l', upd_same⟩⟩
theorem Frm.new {p q : Addr} {H : Hp} {o : HO} (h : H q = none) : Frm p H (upd H q o) :=
  ⟨fun b x e _ => by rw [upd_ne (ne_of_none e h)]; exact e, fun c ⟨k, l, e⟩ => ⟨k, l, by rw [upd_ne (ne_of_none e h)]; exact e⟩⟩
/-- a list that is not the pen's cells is changed -/
theorem Pen.put {H : Hp} {p c a : Addr} {n : Nat} {xs : List V} {o : HO} (P : Pen H p n) (hc : cellsAt H p c) (h : H a = some (.lst xs)) (n1 : c ≠ a) : Pen (upd H a o) p n := by
  obtain ⟨c', ns, k, l, h1, h2, h3⟩ := P
  obtain rfl := hc.inj h1
  exact ⟨c, ns, k, l, by rw [upd_ne (ne_of h1 h (by intro z; cases z))]; exact h1, by rw [upd_ne n1]; exact h2, h3⟩
theorem Pen.cells {H : Hp} {p : Addr} {n : Nat} (P : Pen H p n) : ∃ c, cellsAt H p c ∧ H c ≠ none := by
  obtain ⟨c, ns, k, l, h1, h2, _⟩ := P
  exact ⟨c, ⟨k, l, h1⟩, by rw [h2]; exact fun z => nomatch z⟩
theorem Pen.dict {H : Hp} {p : Addr} {n : Nat} (P : Pen H p n) : ∃ kvs, H p = some (.dK kvs) := by
  obtain ⟨c, ns, k, l, h1, _⟩ := P
  exact ⟨_, h1⟩
/-- what stands at a list, a tuple or an object is not the pen -/
theorem Frm.lst {H H' : Hp} {p a : Addr} {n : Nat} {xs : List V} (f : Frm p H H') (P : Pen H p n) (h : H a = some (.lst xs)) : H' a = some (.lst xs) := by
  obtain ⟨kvs, hp⟩ := P.dict
  exact f _ _ h (ne_of h hp (by intro z; cases z))
theorem Pen.mono {H : Hp} {p : Addr} {n m : Nat} (P : Pen H p n) (h : n ≤ m) : Pen H p m := by
  obtain ⟨c, ns, k, l, h1, h2, h3, h4, h5, h6⟩ := P
  exact ⟨c, ns, k, l, h1, h2, h3, h4, by omega, h6⟩
theorem Pen.new {H : Hp} {p q : Addr} {n : Nat} {o : HO} (P : Pen H p n) (h : H q = none) : Pen (upd H q o) p n := by
  obtain ⟨c, ns, k, l, h1, h2, h3, h4, h5, h6⟩ := P
  exact ⟨c, ns, k, l, by rw [upd_ne (ne_of_none h1 h)]; exact h1, by rw [upd_ne (ne_of_none h2 h)]; exact h2, h3, h4, h5, h6⟩
/-! ### the promises -/
/-- a draw: some number below m -/
def spDraw : Sp := fun vs H Q _ => ∃ (p : Addr) (m : Int) (n : Nat), vs = [.ref p, .int m] ∧ 0 < m ∧ m.natAbs < 2 ^ 200 ∧ Pen H p n ∧ n ≤ 1000000 ∧
  ∀ (r : Int) (H' : Hp), 0 ≤ r → r < m → Pen H' p (n + 1) → Frm p H H' → Q (.int r) H'
/-- a def that lets nothing out, as it is called by its name -/
structure Cl (P : Program) (w : World) (K : PySem.W.Frag) (mg : Str → Option Value) (base : Heap) (k : Nat) (x : Str) (ps : List Str) (sp : Sp) : Prop where
  ex : ∃ (f : Addr) (fd : FuncData), FnOk P w K mg base CX0 k f fd ps sp ∧ mg x = some (.ref f) ∧ PySem.W.keepIn K (.ref f) = true ∧ Binds K fd ps []
theorem pe_cl {X : Cx} {k j : Nat} {x : Str} {ps : List Str} {sp : Sp} {e : Expr} {es : List Expr} {t : TA} {p pos : Pos} (c : Cl X.prog X.w X.K X.mg X.base k x ps sp) (hr : Room j X.A) (hk : k ≤ j) (hg : Gl X x) (ha : PA X (e :: es) t)
    (hdb : (x == ("__debug__" : Str)) = false := by decide) (he : starEach (e :: es) X.env = (false, eval e X.env) :: starEach es X.env := by rfl) (hpl : (backTo pos (starEach es X.env)).any (·.1) = false := by rfl) :
    PE X (.Call (.Name x p) (e :: es) [] pos) (tCall sp [] E0 t) := by
  obtain ⟨f, fd, F, hm, hkp, hb⟩ := c.ex
  exact pe_call F (hr.mono hk) hg hm hkp hb .nil pass0 ha hdb he hpl
theorem Frm.seq {K : PySem.W.Frag} {H H' : Hp} {p a : Addr} {n : Nat} {xs : List V} (f : Frm p H H') (P : Pen H p n) (h : SqL K H a xs) : SqL K H' a xs := by
  obtain ⟨c, ns, k, l, hp, _⟩ := P
  rcases h with (h | ⟨o, h⟩) | h
  · exact .inl (.inl (f _ _ h (ne_of h hp (by intro z; cases z))))
  · exact .inl (.inr ⟨o, f _ _ h (ne_of h hp (by intro z; cases z))⟩)
  · exact .inr h
theorem Frm.tup {K : PySem.W.Frag} {H H' : Hp} {p a : Addr} {n : Nat} {xs : List V} (f : Frm p H H') (P : Pen H p n) (h : SqT K H a xs) : SqT K H' a xs := by
  obtain ⟨c, ns, k, l, hp, _⟩ := P
  rcases h with (h | ⟨o, h⟩) | h
  · exact .inl (.inl (f _ _ h (ne_of h hp (by intro z; cases z))))
  · exact .inl (.inr ⟨o, f _ _ h (ne_of h hp (by intro z; cases z))⟩)
  · exact .inr h
/-- an item of a list that is not empty -/
def spPick (K : PySem.W.Frag) : Sp := fun vs H Q _ => ∃ (p a : Addr) (xs : List V) (n : Nat), vs = [.ref p, .ref a] ∧ SqL K H a xs ∧ 0 < xs.length ∧ xs.length ≤ 1000 ∧ Pen H p n ∧ n ≤ 1000000 ∧
  ∀ (v : V) (H' : Hp), v ∈ xs → Pen H' p (n + 1) → Frm p H H' → Q v H'
/-- some number, not too great -/
def spWhole : Sp := fun vs H Q _ => ∃ (p : Addr) (n : Nat), vs = [.ref p] ∧ Pen H p n ∧ n ≤ 900000 ∧
  ∀ (r : Int) (H' : Hp), -(10 ^ 30) < r → r < 10 ^ 30 → Pen H' p (n + 3) → Frm p H H' → Q (.int r) H'
/-- the pen, made of the script -/
def spPen (K : PySem.W.Frag) : Sp := fun vs H Q _ => ∃ (a : Addr) (ns : List Int), vs = [.ref a] ∧ SqL K H a (ns.map V.int) ∧ ns.length ≤ 63 ∧
  ∀ (p : Addr) (H' : Hp), H p = none → Pen H' p 0 → Same H H' → Q (.ref p) H'
structure Bl (mg : Str → Option Value) : Prop where
  int : mg "int" = none
  len : mg "len" = none
  abs : mg "abs" = none
  list : mg "list" = none
theorem dg {H : Hp} {p : Addr} {kvs : List (Key × V)} {x : Str} {v : V} (h : H p = some (.dK kvs)) (e : valV kvs (.inr x) = some v) : DGet H p (.str x) (some v) := e ▸ DGet.k (k := .inr x) h
theorem dp {H : Hp} {p : Addr} {kvs kvs' : List (Key × V)} {x : Str} {v : V} (h : H p = some (.dK kvs)) (e : putK kvs (.inr x) v = kvs') (hl : kvs.length < sizeLine) : DPut H p (.str x) v (upd H p (.dK kvs')) := e ▸ DPut.k (k := .inr x) h hl
theorem pen_small (c : Addr) (k l : Int) : (penK c k l).length < sizeLine := by show 3 < sizeLine; decide
theorem mod_bd (a b : Int) (h : 0 < b) : 0 ≤ a % b ∧ a % b < b := ⟨Int.emod_nonneg a (by omega), Int.emod_lt_of_pos a h⟩
theorem boot_absO : bootBuiltins ("abs" : Str) = some (.builtin "abs") := by decide +kernel
section
variable {P : Program} {w : World} {K : PySem.W.Frag} {mg : Str → Option Value} {base : Heap}
theorem scDraw : FnScope ["_law_pen", "_law_many", "_law_digit", "_law_place", "_law_size", "_law_told", "_law_blend"] ["_law_pen", "_law_many"] (defScope sDraw) := ⟨rfl, rfl, rfl, by decide +kernel, rfl, by decide +kernel, by decide +kernel⟩
theorem div200 {m : Int} (h : 0 < m) (h2 : m.natAbs < 2 ^ 200) (i : Int) : CDivW i m := wide_div h h2 (by decide) (by decide)
theorem ok_draw {f : Addr} {fd : FuncData} (F : Fun K "_law_draw" "_law_draw" sDraw f fd) (B : Bl mg) : FnOk P w K mg base CX0 1 f fd ["_law_pen", "_law_many"] spDraw := by
  refine F.ok scDraw (fun vs H Q E h => ?_) (fun cdv A outer s H vs Q E hr h => ?_)
  · obtain ⟨p, m, n, rfl, _⟩ := h
    rfl
  · obtain ⟨p, m, n, rfl, hm, hmb, ⟨c, ns, k, l, hp, hc, hns, hk0, hkn, hl⟩, hn, q⟩ := h
    have hu := hu_of hr
    have ncp : c ≠ p := ne_of hc hp (by intro z; cases z)
    have nd := scDraw.nd
    refine ⟨_, pss_cons (ps_if (pt_cmpR op_gt (pe_dget hu (pv 0) pe_str (fun _ _ => rfl)) pe_int (nomark _))
        (pss_cons (ps_set (i := 2) nd rfl (.inl rfl) (pe_op op_mod (pe_callTy call_int1 (by rfl) B.int boot_int (pa_cons (pe_dget hu (pv 0) pe_str (fun _ _ => rfl)) pa_nil)) (pv 1)))
        (pss_cons (ps_dput hu (pv 0) pe_str (pe_op op_fdivW (pe_dget hu (pv 0) pe_str (fun _ _ => rfl)) (pv 1)) rfl)
        (pss_one (ps_ret (pv 2))))) pss_nil)
      (pss_cons (ps_par (i := 3) (j := 4) rfl nd rfl rfl (by decide) rfl rfl (pa_cons (pe_dget hu (pv 0) pe_str (fun _ _ => rfl)) (pa_cons (pe_callB call_len_seq (by rfl) B.len PySem.boot_len (pa_cons (pe_dget hu (pv 0) pe_str (fun _ _ => rfl)) pa_nil)) pa_nil)) rfl)
      (pss_cons (ps_dput hu (pv 0) pe_str (pe_op op_add (pv 3) pe_int) rfl)
      (Evl.pss_cut (ps_set (i := 5) nd rfl (.inl rfl) (pe_ifExp (pt_cmpR op_gt (pv 4) pe_int (nomark _))
          (pe_ix ix_list (pe_dget hu (pv 0) pe_str (fun _ _ => rfl)) (pe_op op_mod (pe_callTy call_int1 (by rfl) B.int boot_int (pa_cons (pv 3) pa_nil)) (pv 4)) (fun _ _ => rfl))
          (pe_op op_add (pe_op op_mul pe_int (pv 3)) pe_int)))
      (Evl.pss_cut (ps_if (PW.pt (pw_and (pt_cmpR op_lt (pv 3) (pv 4) (nomark _)) (pw_and1 (pt_cmpR op_ge (pe_callB call_abs (by rfl) B.abs boot_absO (pa_cons (pv 5) pa_nil)) (pe_op op_pow pe_int pe_int) (nomark _)))))
        (pss_cons (ps_dput hu (pv 0) pe_str (pe_op op_fdivW (pe_op op_sub (pe_callB call_abs (by rfl) B.abs boot_absO (pa_cons (pv 5) pa_nil)) (pe_op op_pow pe_int pe_int)) (pv 1)) rfl)
        (pss_one (ps_ret (pe_op op_mod (pe_callTy call_int1 (by rfl) B.int boot_int (pa_cons (pe_op op_sub (pe_callB call_abs (by rfl) B.abs boot_absO (pa_cons (pv 5) pa_nil)) (pe_op op_pow pe_int pe_int)) pa_nil)) (pv 1))))) pss_nil)
      (pss_cons (ps_set (i := 6) nd rfl (.inl rfl) (pe_op op_mod (pe_callTy call_int1 (by rfl) B.int boot_int (pa_cons
          (pe_op op_add (pe_op op_add (pe_op op_mul (pe_op op_mod (pe_callTy call_int1 (by rfl) B.int boot_int (pa_cons (pv 5) pa_nil)) pe_int) pe_int) (pe_op op_mul (pe_op op_mul pe_int (pv 3)) (pv 3))) pe_int) pa_nil)) pe_int))
      (pss_cons (ps_set (i := 6) nd rfl (.inl rfl) (pe_op op_mod (pe_callTy call_int1 (by rfl) B.int boot_int (pa_cons
          (pe_op op_add (pe_op op_add (pe_op op_add (pe_op op_mul (pv 6) (pv 6)) (pe_op op_mul pe_int (pv 6))) (pe_op op_mul pe_int (pv 3))) pe_int) pa_nil)) pe_int))
      (pss_one (ps_ret (pe_op op_mod (pe_callTy call_int1 (by rfl) B.int boot_int (pa_cons (pe_op op_fdiv (pe_op op_mod (pe_callTy call_int1 (by rfl) B.int boot_int (pa_cons (pe_op op_mul (pv 6) (pe_op op_add (pv 6) pe_int)) pa_nil)) pe_int) pe_int) pa_nil)) (pv 1)))))))))), ?_⟩
    -- if pen['left'] > 0
    have dL : DGet H p (.str "left") (some (.int l)) := dg hp (pen_left c k l)
    have dB : DGet H p (.str "begun") (some (.int k)) := dg hp (pen_begun c k l)
    have dC : DGet H p (.str "cells") (some (.ref c)) := dg hp (pen_cells c k l)
    refine ⟨_, rfl, p, .int l, rfl, dL, _, _, rfl, rfl, _, rfl, ite2 (fun e => ?_) (fun e => ?_)⟩
    · have hl1 : 0 < l := of_decide_eq_true e
      refine ⟨_, rfl, p, .int l, rfl, dL, .inl ⟨l, rfl, _, rfl, l, m, rfl, rfl, hm, ?_⟩⟩
      refine ⟨_, rfl, p, .int l, rfl, dL, _, rfl, l, m, rfl, rfl, div200 hm hmb l, _, rfl, p, _, rfl, dp hp (pen_put_left c k l _) (pen_small c k l), _, rfl, ?_⟩
      refine q (l % m) _ (mod_bd l m hm).1 (mod_bd l m hm).2 ⟨c, ns, k, l / m, upd_same, by rw [upd_ne ncp]; exact hc, hns, hk0, by omega, Int.ediv_nonneg hl (by omega)⟩ (Frm.pen hp)
    · -- k, size = pen['begun'], len(pen['cells'])
      have hcL : SqL K H c (ns.map V.int) := .inl (.inl hc)
      refine ⟨_, rfl, p, .int k, rfl, dB, _, rfl, p, .ref c, rfl, dC, c, _, rfl, .inl hcL, _, _, rfl, ?_⟩
      refine ⟨_, rfl, _, _, rfl, rfl, _, rfl, p, _, rfl, dp hp (pen_put_begun c k l _) (pen_small c k l), ?_⟩
      -- cell = ..
      have hl0 : l = 0 := by
        have : ¬ (0 < l) := fun z => e (decide_eq_true z)
        omega
      have hp1 : (upd H p (.dK (penK c (k + 1) l))) p = some (.dK (penK c (k + 1) l)) := upd_same
      have hc1 : (upd H p (.dK (penK c (k + 1) l))) c = some (.lst (ns.map V.int)) := by rw [upd_ne ncp]; exact hc
      have dC1 := dg (x := "cells") hp1 (pen_cells c (k + 1) l)
      have hcL1 : SqL K (upd H p (.dK (penK c (k + 1) l))) c (ns.map V.int) := .inl (.inl hc1)
      have fin : ∀ (r y : Int), 0 ≤ r → r < m → 0 ≤ y → ∀ H', H' = upd H p (.dK (penK c (k + 1) y)) → Q (.int r) H' := fun r y h0 h1 hy H' e => by
        subst e
        exact q r _ h0 h1 ⟨c, ns, k + 1, y, upd_same, by rw [upd_ne ncp]; exact hc, hns, by omega, by omega, hy⟩ (Frm.pen hp)
      refine ⟨fun σ' H' => ∃ cell : Int, σ' = [some (.ref p), some (.int m), none, some (.int k), some (.int ((ns.map V.int).length : Int)), some (.int cell), none] ∧ H' = upd H p (.dK (penK c (k + 1) l)), ?_, ?_⟩
      · refine ⟨_, rfl, _, _, rfl, rfl, _, rfl, ite2 (fun e2 => ?_) (fun e2 => ?_)⟩
        · have hsz : (0 : Int) < ((ns.map V.int).length : Int) := of_decide_eq_true e2
          have hb := mod_bd k _ hsz
          have hj : (k % ((ns.map V.int).length : Int)).toNat < ns.length := by
            rw [List.length_map] at hb ⊢
            omega
          refine ⟨_, rfl, p, _, rfl, dC1, _, rfl, .inl ⟨k, rfl, _, rfl, k, _, rfl, rfl, hsz, c, ns.map V.int, _, .int ns[(k % ((ns.map V.int).length : Int)).toNat], rfl, rfl, hcL1, ?_, ?_⟩⟩
          · have := atI_nat (xs := ns.map V.int) (j := (k % ((ns.map V.int).length : Int)).toNat) (v := .int ns[(k % ((ns.map V.int).length : Int)).toNat]) (by rw [List.getElem?_map, List.getElem?_eq_getElem hj]; rfl)
            rw [Int.toNat_of_nonneg hb.1] at this
            exact this
          · exact ⟨_, rfl, rfl⟩
        · refine ⟨_, rfl, _, _, rfl, rfl, .inl ⟨by decide, by decide⟩, _, _, rfl, rfl, ?_⟩
          exact ⟨_, rfl, rfl⟩
      · rintro σ' H' ⟨cell, rfl, rfl⟩
        refine ⟨fun σ' H' => σ' = [some (.ref p), some (.int m), none, some (.int k), some (.int ((ns.map V.int).length : Int)), some (.int cell), none] ∧ H' = upd H p (.dK (penK c (k + 1) l)), ?_, ?_⟩
        · have hpow : CPow 10 18 := ⟨by decide, by decide, by decide⟩
          refine ⟨_, rfl, _, rfl, _, _, rfl, rfl, _, rfl, ite2 (fun e2 => ?_) (fun e2 => ?_)⟩
          · refine ⟨_, rfl, cell, rfl, _, _, rfl, rfl, hpow, _, _, rfl, rfl, _, rfl, ite2 (fun e3 => ?_) (fun e3 => ?_)⟩
            · have hge := of_decide_eq_true e3
              refine ⟨_, rfl, cell, rfl, _, _, rfl, rfl, hpow, _, _, rfl, rfl, _, rfl, _, _, rfl, rfl, div200 hm hmb _, _, rfl, p, _, rfl, dp hp1 (pen_put_left c (k + 1) l _) (pen_small c _ l), ?_⟩
              refine ⟨_, rfl, cell, rfl, _, _, rfl, rfl, hpow, _, _, rfl, rfl, .inl ⟨_, rfl, _, rfl, _, _, rfl, rfl, hm, ?_⟩⟩
              refine fin _ (((if cell < 0 then -cell else cell) - 10 ^ (18 : Int).toNat) / m) (mod_bd _ m hm).1 (mod_bd _ m hm).2 (Int.ediv_nonneg ?_ (by omega)) _ ?_
              · show (0 : Int) ≤ (if cell < 0 then -cell else cell) - 10 ^ (18 : Int).toNat
                have : (10 : Int) ^ (18 : Int).toNat ≤ (if cell < 0 then -cell else cell) := hge
                omega
              · rw [upd_upd]
            · exact ⟨rfl, rfl⟩
          · exact iteF ⟨rfl, rfl⟩
        · rintro σ' H' ⟨rfl, rfl⟩
          refine ⟨_, rfl, .inl ⟨_, rfl, _, _, rfl, rfl, (by show (0 : Int) < 4294967279; decide), _, _, rfl, rfl, .inr ⟨by decide, by decide⟩, _, rfl, _, _, rfl, rfl, .inl ⟨by decide, by decide⟩, _, rfl, _, _, rfl, rfl, .inl ?_, _, _, rfl, rfl, _, _, rfl, rfl, .inl ⟨_, rfl, _, _, rfl, rfl, (by show (0 : Int) < 4294967291; decide), ?_⟩⟩⟩
          · constructor <;> omega
          generalize hM : (cell % 4294967279 * 50923 + 31249 * k * k + 977) % 4294967291 = M
          have hMb : 0 ≤ M ∧ M < 4294967291 := hM ▸ mod_bd _ _ (by decide)
          refine ⟨_, rfl, _, rfl, _, _, rfl, rfl, .inl (by constructor <;> omega), _, rfl, _, _, rfl, rfl, .inl ⟨by decide, by decide⟩, _, _, rfl, rfl, _, rfl, _, _, rfl, rfl, .inl ⟨by decide, by decide⟩, _, _, rfl, rfl, _, _, rfl, rfl, .inl ⟨_, rfl, _, _, rfl, rfl, (by show (0 : Int) < 4294967231; decide), ?_⟩⟩
          generalize hM2 : (M * M + 70001 * M + 41 * k + 13) % 4294967231 = M2
          have hMb2 : 0 ≤ M2 ∧ M2 < 4294967231 := hM2 ▸ mod_bd _ _ (by decide)
          refine ⟨_, rfl, _, rfl, _, _, rfl, rfl, _, _, rfl, rfl, .inl (by constructor <;> omega), .inl ⟨_, rfl, _, _, rfl, rfl, (by show (0 : Int) < 4294967189; decide), _, _, rfl, rfl, ⟨by decide, by decide⟩, .inl ⟨_, rfl, _, rfl, _, _, rfl, rfl, hm, ?_⟩⟩⟩
          exact fin _ l (mod_bd _ m hm).1 (mod_bd _ m hm).2 hl _ rfl
theorem scPick : FnScope ["_law_pen", "_law_options"] ["_law_pen", "_law_options"] (defScope sPick) := ⟨rfl, rfl, rfl, by decide +kernel, rfl, by decide +kernel, by decide +kernel⟩
theorem ok_pick {f : Addr} {fd : FuncData} (F : Fun K "_law_pick" "_law_pick" sPick f fd) (B : Bl mg) (D : Cl P w K mg base 1 "_law_draw" ["_law_pen", "_law_many"] spDraw) : FnOk P w K mg base CX0 2 f fd ["_law_pen", "_law_options"] (spPick K) := by
  refine F.ok scPick (fun vs H Q E h => ?_) (fun cdv A outer s H vs Q E hr h => ?_)
  · obtain ⟨p, a, xs, n, rfl, _⟩ := h
    rfl
  · obtain ⟨p, a, xs, n, rfl, hS, h0, h1, hP, hn, q⟩ := h
    refine ⟨_, pss_one (ps_ret (pe_ix ix_list (pv 1) (pe_cl D hr (by decide) (by rfl) (pa_cons (pv 0) (pa_cons (pe_callB call_len_seq (by rfl) B.len PySem.boot_len (pa_cons (pv 1) pa_nil)) pa_nil))) (fun _ _ => rfl))), ?_⟩
    refine ⟨_, rfl, _, rfl, _, rfl, a, xs, rfl, .inl hS, p, xs.length, n, rfl, by omega, ?_, hP, hn, fun r H' hr0 hr1 hP' hF => ?_⟩
    · have : xs.length < 2 ^ 200 := Nat.lt_of_le_of_lt h1 (by decide)
      simpa using this
    · have hj : r.toNat < xs.length := by omega
      refine ⟨a, xs, r, xs[r.toNat], rfl, rfl, hF.seq hP hS, ?_, q _ _ (List.getElem_mem hj) hP' hF⟩
      have := atI_nat (xs := xs) (j := r.toNat) (v := xs[r.toNat]) (List.getElem?_eq_getElem hj)
      rw [Int.toNat_of_nonneg hr0] at this
      exact this
theorem scPen : FnScope ["_law_script"] ["_law_script"] (defScope sPenOf) := ⟨rfl, rfl, rfl, by decide +kernel, rfl, by decide +kernel, by decide +kernel⟩
theorem cut63 (ns : List Int) : cutV (ns.map V.int) none (some 63) = (ns.take 63).map V.int := by
  unfold cutV
  rw [HT.sIx_none, show HT.sIx (ns.map V.int).length (ns.map V.int).length (some 63) = min 63 (ns.map V.int).length from HT.sIx_nat _ _ 63, List.drop_zero, Nat.sub_zero, List.map_take]
  rcases Nat.le_total 63 (ns.map V.int).length with h | h
  · rw [Nat.min_eq_left h]
  · rw [Nat.min_eq_right h, List.take_of_length_le (Nat.le_refl _), List.take_of_length_le h]
theorem ok_pen {f : Addr} {fd : FuncData} (F : Fun K "_law_pen_of" "_law_pen_of" sPenOf f fd) (B : Bl mg) : FnOk P w K mg base CX0 1 f fd ["_law_script"] (spPen K) := by
  refine F.ok scPen (fun vs H Q E h => ?_) (fun cdv A outer s H vs Q E hr h => ?_)
  · obtain ⟨a, ns, rfl, _⟩ := h
    rfl
  · obtain ⟨a, ns, rfl, hS, hlen, q⟩ := h
    refine ⟨_, pss_one (ps_ret (pe_disp (pps_cons pe_str (pe_callTy call_list_of (by rfl) B.list (by decide +kernel) (pa_cons (pe_slice sl_list (pv 0) po_none (po_some pe_int)) pa_nil)) (pps_cons pe_str pe_int (pps_cons pe_str pe_int pps_nil))) rfl rfl (by simp) (by decide))), ?_⟩
    intro p hp
    have s1 : Same H (upd H p (.dK [])) := fun b o e => by rw [upd_ne (ne_of_none e hp)]; exact e
    refine ⟨_, rfl, _, rfl, a, _, rfl, s1.seq hS, fun x hx => ?_⟩
    refine ⟨x, _, rfl, .inl (.inl (.inl upd_same)), fun c hc => ?_⟩
    have npx : p ≠ x := ne_of_none upd_same hx
    have npc : p ≠ c := by
      intro e
      subst e
      rw [upd_ne npx, upd_same] at hc
      cases hc
    have a1 : putK ([] : List (Key × V)) (.inr ("cells" : Str)) (.ref c) = [(.inr ("cells" : Str), .ref c)] := putK_new _ valV_nil
    have a2 : putK ([(.inr ("cells" : Str), .ref c)] : List (Key × V)) (.inr ("begun" : Str)) (.int 0) = [(.inr ("cells" : Str), .ref c), (.inr ("begun" : Str), .int 0)] := putK_new _ ((valV_neg (fun e => kBC e.symm)).trans valV_nil)
    have a3 : putK ([(.inr ("cells" : Str), .ref c), (.inr ("begun" : Str), .int 0)] : List (Key × V)) (.inr ("left" : Str)) (.int 0) = penK c 0 0 := putK_new _ ((valV_neg (fun e => kLC e.symm)).trans ((valV_neg (fun e => kLB e.symm)).trans valV_nil))
    have e3 : mergeK [] (penK c 0 0) = penK c 0 0 := by
      show putK (putK (putK ([] : List (Key × V)) (.inr ("cells" : Str)) (.ref c)) (.inr ("begun" : Str)) (.int 0)) (.inr ("left" : Str)) (.int 0) = penK c 0 0
      rw [a1, a2, a3]
    refine ⟨by rw [upd_ne npc, upd_ne npx, upd_same], penK c 0 0, rfl, by show 3 ≤ 15; decide, ?_⟩
    rw [e3]
    refine q p _ hp ⟨c, ns.take 63, 0, 0, upd_same, ?_, by rw [List.length_take]; omega, by omega, by omega, by omega⟩ fun b o e => ?_
    · rw [upd_ne npc.symm, upd_same, cut63]
    · have h1 := s1 b o e
      have nbx : b ≠ x := ne_of_none h1 hx
      have h2 : (upd (upd H p (.dK [])) x (.lst (cutV (ns.map V.int) none (some 63)))) b = some o := by rw [upd_ne nbx]; exact h1
      rw [upd_ne (ne_of_none e hp), upd_ne (ne_of_none h2 hc)]
      exact h2
end
end OR

namespace OR
open PySem PySem.Spec PyProof.Rows L2
/-! ### own classes: double-underscore methods behind the signs -/
/-- a method of the class at C, called with its object and arguments by position -/
structure Md (P : Program) (w : World) (K : PySem.W.Frag) (mg : Str → Option Value) (base : Heap) (k : Nat) (C : Addr) (m : Str) (sp : Sp) : Prop where
  ex : ∃ f, FnR P w K mg base CX0 k f sp ∧ PySem.W.findIn K (.ref C) m = some (some (.ref f)) ∧ PySem.W.isFn K (.ref f) = true ∧ PySem.W.fnIn K f = true
theorem fnR_of {P : Program} {w : World} {K : PySem.W.Frag} {mg : Str → Option Value} {base : Heap} {k : Nat} {f : Addr} {fd : FuncData} {ps : List Str} {sp : Sp} (F : FnOk P w K mg base CX0 k f fd ps sp) (hb : Binds K fd ps []) : FnR P w K mg base CX0 k f sp :=
  (F.raw hb .nil).imp fun vs H Q E h => by rw [List.append_nil]; exact h
section
variable {X : Cx} {n : Nat} {C : Addr} {sp : Sp}
def rBinS (C : Addr) (sp : Sp) : R2 := fun x y H Q => ∃ a b dx dy fs gs, x = .ref a ∧ y = .ref b ∧ H a = some (.ins C dx fs) ∧ H b = some (.ins C dy gs) ∧ sp [x, y] H Q E0
theorem op_binS {op : Operator} (m : Md X.prog X.w X.K X.mg X.base n C (PySem.dunder op.info.2) sp) (sf : PySem.W.selfFirst X.K C = true) (hr : Room n X.A) : OpR X (binaryOp op) (rBinS C sp) := by
  intro pins s σ H x y v u Q I rx ry h
  obtain ⟨f, F, hs, hf, _⟩ := m.ex
  obtain ⟨a, b, dx, dy, fs, gs, rfl, rfl, ha, hb, q⟩ := h
  cases (show v = Value.ref a from rx)
  cases (show u = Value.ref b from ry)
  obtain ⟨mA, J, _⟩ := ins_get I.hok ha
  obtain ⟨mB, J', _⟩ := ins_get I.hok hb
  obtain ⟨od, J, _⟩ := J.look
  obtain ⟨od', J', _⟩ := J'.look
  obtain ⟨m, hF⟩ := I.fr
  refine PySem.W.binop_K hF I.ok.mod.kin J J'.type sf hs hf ?_
  refine wpAny_mono (wpAny_call (run_fnR (us := [.ref a, .ref b]) (vs := [.ref a, .ref b]) F hr pass0 I (.cons rfl (.cons rfl .nil)) q)) (fun w s' z => ?_) fun _ _ x => x
  obtain ⟨z', H', I', rz, qz⟩ := z
  exact SlX.cmpback rz ⟨z', H', I', rz, qz⟩
/-- what + and the like ask of the class for an int on the right -/
structure BinI (K : PySem.W.Frag) (C : Addr) (op : Operator) : Prop where
  rc : ∃ rc, PySem.W.findIn K (.ref C) (PySem.dunderR op.info.2) = some rc ∧ (rc = none ∨ ∃ g : Addr, rc = some (.ref g))
  fo : ∃ fo, PySem.W.findIn K (.type "int") (PySem.dunder op.info.2) = some fo
  ro : ∃ ro, PySem.W.findIn K (.type "int") (PySem.dunderR op.info.2) = some ro
  sub : PySem.W.subIn K (.type "int") (.ref C) = some false
def rBinI (C : Addr) (sp : Sp) : R2 := fun x y H Q => ∃ a dx fs i, x = .ref a ∧ y = .int i ∧ H a = some (.ins C dx fs) ∧ sp [x, y] H Q E0
theorem op_binI {op : Operator} (m : Md X.prog X.w X.K X.mg X.base n C (PySem.dunder op.info.2) sp) (b : BinI X.K C op) (sf : PySem.W.selfFirst X.K C = true) (hr : Room n X.A) : OpR X (binaryOp op) (rBinI C sp) := by
  intro pins s σ H x y v u Q I rx ry h
  obtain ⟨f, F, hs, hf, _⟩ := m.ex
  obtain ⟨a, dx, fs, i, rfl, rfl, ha, q⟩ := h
  cases (show v = Value.ref a from rx)
  obtain ⟨t, rfl⟩ := (show ∃ t, u = Value.int i t from ry)
  obtain ⟨mA, J, _⟩ := ins_get I.hok ha
  obtain ⟨od, J, _⟩ := J.look
  obtain ⟨m, hF⟩ := I.fr
  obtain ⟨rc, hrc, hp⟩ := b.rc
  obtain ⟨fo, h1⟩ := b.fo
  obtain ⟨ro, h2⟩ := b.ro
  refine PySem.W.ksp_binT (T := "int") hF I.ok.mod.kin J rfl sf hs hf hrc hp h1 h2 b.sub ?_
  refine wpAny_mono (wpAny_call (run_fnR (us := [.ref a, .int i t]) (vs := [.ref a, .int i]) F hr pass0 I (.cons rfl (.cons ⟨t, rfl⟩ .nil)) q)) (fun w s' z => ?_) fun _ _ x => x
  obtain ⟨z', H', I', rz, qz⟩ := z
  exact SlX.cmpback rz ⟨z', H', I', rz, qz⟩
def rNegO (C : Addr) (sp : Sp) : V → Hp → VK → Prop := fun x H Q => ∃ a dx fs, x = .ref a ∧ H a = some (.ins C dx fs) ∧ sp [x] H Q E0
theorem un_negO (m : Md X.prog X.w X.K X.mg X.base n C "__neg__" sp) (hr : Room n X.A) : UnR X (unaryOp .USub) (rNegO C sp) := by
  intro pins s σ H x v Q I rx h
  obtain ⟨f, F, hs, hf, _⟩ := m.ex
  obtain ⟨a, dx, fs, rfl, ha, q⟩ := h
  cases (show v = Value.ref a from rx)
  obtain ⟨mA, J, _⟩ := ins_get I.hok ha
  obtain ⟨od, J, _⟩ := J.look
  obtain ⟨m, hF⟩ := I.fr
  refine PySem.W.ksp_neg hF I.ok.mod.kin J hs hf ?_
  refine wpAny_mono (wpAny_call (run_fnR (us := [.ref a]) (vs := [.ref a]) F hr pass0 I (.cons rfl .nil) q)) (fun w s' z => ?_) fun _ _ x => x
  exact z
end
/-- a reading may ask for more -/
theorem pe_imp {X : Cx} {e : Expr} {t t' : TE} (h : PE X e t) (i : ∀ σ H Q, t' σ H Q → t σ H Q) : PE X e t' := ⟨fun pins s σ H Q I q => h.run pins s σ H Q I (i σ H Q q)⟩
structure FnAt (K : PySem.W.Frag) (x : Str) (st : Stmt) : Prop where
  ex : ∃ f fd, Fun K x x st f fd ∧ PySem.W.nsIn K mainGlobals x = some (some (.ref f))
theorem fnAt {K : PySem.W.Frag} {h : Heap} {x : Str} {st : Stmt} {f : Addr} {oc : Value} {od an : Option Addr} {osl : Array (Option Value)} {kV doc pm cdv ct : Value} (_X : K.In h)
    (a : PySem.W.nsIn K mainGlobals x = some (some (.ref f))) (l : K.lookup f = some ⟨oc, od, .func (PySem.W.fnOf x x (defArgs st) (defBody st) (defScope st) .none kV doc pm an cdv ct), osl⟩)
    (c : PySem.W.codeIn K cdv x = true) (k : PySem.W.keepIn K (.ref f) = true) : FnAt K x st := ⟨f, _, fun_mk l c k, a⟩
structure MtAt (K : PySem.W.Frag) (C : Addr) (m m' qual : Str) (st : Stmt) : Prop where
  ex : ∃ f fd, Fun K m qual st f fd ∧ PySem.W.findIn K (.ref C) m' = some (some (.ref f)) ∧ PySem.W.isFn K (.ref f) = true ∧ PySem.W.fnIn K f = true
theorem mtAt {K : PySem.W.Frag} {h : Heap} {C : Addr} {m m' qual : Str} {st : Stmt} {f : Addr} {oc : Value} {od an : Option Addr} {osl : Array (Option Value)} {kV doc pm cdv ct : Value} (_X : K.In h)
    (a : PySem.W.findIn K (.ref C) m' = some (some (.ref f))) (l : K.lookup f = some ⟨oc, od, .func (PySem.W.fnOf m qual (defArgs st) (defBody st) (defScope st) .none kV doc pm an cdv ct), osl⟩)
    (c : PySem.W.codeIn K cdv qual = true) (k : PySem.W.keepIn K (.ref f) = true) (i : PySem.W.isFn K (.ref f) = true) (n : PySem.W.fnIn K f = true) : MtAt K C m m' qual st := ⟨f, _, fun_mk l c k, a, i, n⟩
section
variable {P : Program} {w : World} {K : PySem.W.Frag} {mg : Str → Option Value} {base h : Heap}
theorem cl_of {x : Str} {st : Stmt} {k : Nat} {ps : List Str} {sp : Sp} (a : FnAt K x st) (X : K.In h) (G : h.Ns mainGlobals mg)
    (hb : ∀ (kV doc pm : Value) (an : Option Addr) (cdv ct : Value) (us : List Value), us.length = ps.length → bindArgs (PySem.W.fnOf x x (defArgs st) (defBody st) (defScope st) .none kV doc pm an cdv ct) ⟨us, []⟩ = pure (ps.zip us))
    (ok : ∀ f fd, Fun K x x st f fd → FnOk P w K mg base CX0 k f fd ps sp) : Cl P w K mg base k x ps sp := by
  obtain ⟨f, fd, F, e⟩ := a.ex
  exact ⟨f, fd, ok f fd F, PySem.W.mg_of X G e, F.kp, F.binds hb⟩
theorem md_of {C : Addr} {m m' qual : Str} {st : Stmt} {k : Nat} {ps : List Str} {sp : Sp} (a : MtAt K C m m' qual st)
    (hb : ∀ (kV doc pm : Value) (an : Option Addr) (cdv ct : Value) (us : List Value), us.length = ps.length → bindArgs (PySem.W.fnOf m qual (defArgs st) (defBody st) (defScope st) .none kV doc pm an cdv ct) ⟨us, []⟩ = pure (ps.zip us))
    (ok : ∀ f fd, Fun K m qual st f fd → FnOk P w K mg base CX0 k f fd ps sp) : Md P w K mg base k C m' sp := by
  obtain ⟨f, fd, F, e, i, n⟩ := a.ex
  exact ⟨f, fnR_of (ok f fd F) (F.binds hb), e, i, n⟩
end
end OR

namespace OR
open PySem PySem.Spec PyProof.Rows L2
open AutoSeq1 (wpAny_loadPart')
/-! ### enumerate of a tuple -/
section
variable {prog : Program} {w : World} {A : Around} {E : Value → Shared → Prop} {s : Shared}
theorem nextOf_tup_item {it t : Addr} {i : Nat} {items : Array Value} {x : Value} {Q : Value → Shared → Prop} (hit : s.heap.IsTupleIter it t i) (ht : s.heap.IsTuple t items) (hx : items[i]? = some x)
    (hQ : ∀ h', h'.IsTupleIter it t (i + 1) → Heap.SameBut it s.heap h' → Q x { s with heap := h' }) : wpAny (model prog w) A (Builtin.SmallTypes.nextOf (.ref it)) Q E s := by
  obtain ⟨o, ho, hc, hd⟩ := id hit
  obtain ⟨ol, hol, _, nl, hdl⟩ := ht
  unfold Builtin.SmallTypes.nextOf
  refine wpAny_bind (wpAny_callSpecial?_slot (name := Str.ofString "__next__") hit.typeIs F.slot_tuple_iterator_next (wpAny_call_entry F.slot_tuple_iterator_next hit.typeIs F.entry_tuple_iterator_next ?_ (F.args_tuple_iterator_next_1 _)))
  show wpAny _ _ (field (.ref it) 0 >>= _) _ _ s
  refine wpAny_bind (wpAny_field ho hd (x := .ref t) rfl ?_)
  show wpAny _ _ (if (Value.ref t == Value.none) = true then _ else _) _ _ s
  rw [if_neg (show ¬ ((Value.ref t == Value.none) = true) by exact Bool.false_ne_true)]
  show wpAny _ _ (field (.ref it) 1 >>= _) _ _ s
  refine wpAny_bind (wpAny_field ho hd (x := .int i 0) rfl ?_)
  show wpAny _ _ (seqItems? (.ref t) >>= _) _ _ s
  refine wpAny_bind (wpAny_seqItems hol hdl ?_)
  simp only [Int.toNat_natCast, hx]
  refine wpAny_bind (wpAny_setField ho hd (by simp) (wpAny_pure ⟨x, rfl, wpAny_pure (hQ _ ⟨_, Heap.get?_update_self _ ho (Obj.isFreed_of_fields (Obj.data_mapFields hd _)), (Obj.cls_mapFields ..).trans hc, by
    rw [Obj.data_mapFields hd]; simp [rawInt]⟩ (Heap.SameBut.update ..))⟩))
theorem nextOf_tup_end {it t : Addr} {i : Nat} {items : Array Value} {Q : Value → Shared → Prop} (hh : A.handled = none) (hit : s.heap.IsTupleIter it t i) (ht : s.heap.IsTuple t items) (hx : items[i]? = none)
    (hE : ∀ h' e, Heap.ExtBut it s.heap h' → (∃ o, h'.get? e = some o ∧ o.cls = .type "StopIteration") → E (.ref e) { s with heap := h' }) : wpAny (model prog w) A (Builtin.SmallTypes.nextOf (.ref it)) Q E s := by
  obtain ⟨o, ho, hc, hd⟩ := id hit
  obtain ⟨ol, hol, _, nl, hdl⟩ := ht
  unfold Builtin.SmallTypes.nextOf
  refine wpAny_bind (wpAny_callSpecial?_slot (name := Str.ofString "__next__") hit.typeIs F.slot_tuple_iterator_next (wpAny_call_entry F.slot_tuple_iterator_next hit.typeIs F.entry_tuple_iterator_next ?_ (F.args_tuple_iterator_next_1 _)))
  show wpAny _ _ (field (.ref it) 0 >>= _) _ _ s
  refine wpAny_bind (wpAny_field ho hd (x := .ref t) rfl ?_)
  show wpAny _ _ (if (Value.ref t == Value.none) = true then _ else _) _ _ s
  rw [if_neg (show ¬ ((Value.ref t == Value.none) = true) by exact Bool.false_ne_true)]
  show wpAny _ _ (field (.ref it) 1 >>= _) _ _ s
  refine wpAny_bind (wpAny_field ho hd (x := .int i 0) rfl ?_)
  show wpAny _ _ (seqItems? (.ref t) >>= _) _ _ s
  refine wpAny_bind (wpAny_seqItems hol hdl ?_)
  simp only [Int.toNat_natCast, hx]
  refine wpAny_bind (wpAny_rule (wpAny_bind (wpAny_setField ho hd (by simp) ?_)))
  show wpAny _ _ (newExc (.type "StopIteration") [] >>= _) _ _ _
  refine wpAny_bind ?_
  simp only [newExc, newTuple]
  refine wpAny_bind (wpAny_newObj_type ?_ (by size_fits))
  refine wpAny_bind (m := firstArgMember _ _) (wpAny_of_eq (a := Value.none) (by first | rfl | (simp only [firstArgMember]; rfl)) ?_)
  refine wpAny_newObj_type ?_ (by size_fits)
  simp only [raiseNew]
  refine wpAny_bind (wpAny_handled ?_)
  first | rw [show A.in1.handled = none from hh] | rw [hh]
  refine wpAny_bind (wpAny_pure (wpAny_throw ?_))
  exact hE _ _ (((Heap.SameBut.update ..).extBut.push _).push _) ⟨_, Heap.get?_push_size _ rfl, rfl⟩
theorem draws_tup (hh : A.handled = none) (it t : Addr) (hne : t ≠ it) (items : Array Value) :
    Draws prog w A it [it, t] items.size (fun i v => items[i]? = some v) (fun i h => h.IsTupleIter it t i ∧ h.IsTuple t items) where
  live := fun _ _ st => let ⟨o, ho, _⟩ := st.1; ⟨o, ho⟩
  frame := fun _ _ _ st hk => ⟨let ⟨o, ho, r⟩ := st.1; ⟨o, hk it (by simp) o ho, r⟩, let ⟨o, ho, r⟩ := st.2; ⟨o, hk t (by simp) o ho, r⟩⟩
  item := fun i s Q E hi st hQ => by
    refine nextOf_tup_item st.1 st.2 (x := items[i]) (by simp [hi]) fun h' hit' hs' => ?_
    exact hQ _ h' s.toks (by simp [hi]) ⟨hit', st.2.extBut hs'.extBut hne⟩ hs'
  done := fun s Q E st hE => nextOf_tup_end hh st.1 st.2 (by simp) hE
theorem meets_enum_tup (l : Addr) (items : Array Value) (n : Nat) (dct : Option Addr) (sl : Array (Option Value)) :
    Meets (Builtin.«enumerate.__new__» ⟨[.type "enumerate", .ref l], []⟩) (fun _ R s => s.heap.get? l = some { cls := .type "tuple", dict := dct, data := .seq items n, slots := sl } ∧
      R (.ok (.ret (.ref (s.heap.push { cls := .type "tuple_iterator", data := .fields #[.ref l, .int 0 0] }).objs.size)))
        { s with heap := (s.heap.push { cls := .type "tuple_iterator", data := .fields #[.ref l, .int 0 0] }).push { cls := .type "enumerate", data := .fields #[.none, .bool false, .ref s.heap.objs.size, rawInt 0, .none, .none] } }) :=
  .of_wp fun prog w A R s h => by
    obtain ⟨hp, g, d, tk, os⟩ := s
    obtain ⟨hl, h⟩ := h
    have hsub := sub_enumerate
    have hL : Heap.IsTuple (Shared.heap ⟨hp, g, d, tk, os⟩) l items := ⟨_, hl, rfl, n, rfl⟩
    wp_walk using wpAny_loadPart' hl
    refine wpAny_stack_any fun st => wpAny_pure ?_
    split
    · rename_i c _ _ _ _ _
      cases (c == Value.type "enumerate")
      · wp_walk using wpAny_loadPart' hl, wpAny_pyIter_tuple hL
        exact ⟨_, rfl, h⟩
      · wp_walk using wpAny_loadPart' hl, wpAny_pyIter_tuple hL
        exact ⟨_, rfl, h⟩
    · wp_walk using wpAny_loadPart' hl, wpAny_pyIter_tuple hL
      exact ⟨_, rfl, h⟩
theorem call_enum_tup {l : Addr} {items : Array Value} {Q : Value → Shared → Prop} (hL : s.heap.IsTuple l items)
    (h : ∀ h', IsEnum h' (s.heap.objs.size + 1) s.heap.objs.size 0 .none → h'.IsTupleIter s.heap.objs.size l 0 → h'.objs.size = s.heap.objs.size + 2 →
      (∀ b o, s.heap.get? b = some o → h'.get? b = some o) → Q (.ref (s.heap.objs.size + 1)) { s with heap := h' }) :
    wpAny (model prog w) A (call (.type "enumerate") [.ref l]) Q E s := by
  obtain ⟨⟨c, dct, dt, sl⟩, hl, hc, n, hd⟩ := hL
  replace hc : c = .type "tuple" := hc
  replace hd : dt = .seq items n := hd
  subst hc hd
  refine callType_new F.called_enumerate (by decide) (F.typeCall_enumerate_1 _) (F.newCall_enumerate_1 _) (fun obj => F.args_object_init_2 obj _) F.entry_enumerate_new (meets_enum_tup l items n dct sl) ⟨hl, ?_⟩
  have hz : (s.heap.push { cls := .type "tuple_iterator", data := .fields #[.ref l, .int 0 0] }).objs.size = s.heap.objs.size + 1 := Heap.size_push ..
  show _ ∧ _
  rw [hz]
  have he : IsEnum ((s.heap.push { cls := .type "tuple_iterator", data := .fields #[.ref l, .int 0 0] }).push
      { cls := .type "enumerate", data := .fields #[.none, .bool false, .ref s.heap.objs.size, rawInt 0, .none, .none] }) (s.heap.objs.size + 1) s.heap.objs.size 0 .none := by
    have := Heap.get?_push_size (s.heap.push { cls := .type "tuple_iterator", data := .fields #[.ref l, .int 0 0] })
      (o := { cls := .type "enumerate", data := .fields #[.none, .bool false, .ref s.heap.objs.size, rawInt 0, .none, .none] }) rfl
    rw [hz] at this; exact this
  refine ⟨⟨_, he, rfl⟩, h _ he ⟨_, Heap.get?_push_of_some _ (Heap.get?_push_size _ rfl), rfl, rfl⟩ (by rw [Heap.size_push, hz]) fun b o x => Heap.get?_push_of_some _ (Heap.get?_push_of_some _ x)⟩
end
/-- the tuple at a as it stands at each turn, each item in a new pair -/
def IteT (K : PySem.W.Frag) (a : Addr) : It :=
  ⟨fun i H => ∃ (xs : List V) (x : V), SqT K H a xs ∧ xs[i]? = some x, fun i H v H' => ∃ T x, v = .ref T ∧ H T = none ∧ H' = upd H T (.tup [.int (i : Nat), x]) ∧ ∀ xs, SqT K H a xs → xs[i]? = some x, fun i H => ∃ xs : List V, SqT K H a xs ∧ xs.length ≤ i⟩
theorem turn_enumT {P : Program} {w : World} {K : PySem.W.Frag} {elts : List Expr} {kk : Nat} {tpos : Pos} (a e it : Addr) (hai : a ≠ it) (hea : e ≠ a) :
    Turn P w K (.Tuple elts kk tpos) (IteT K a) [e, it] e (fun i h => (∃ old, IsEnum h e it ((i : Nat) : Int) old) ∧ h.IsTupleIter it a i ∧ e ≠ it) where
  mem := by simp
  obj := fun i h st b hb => by
    obtain ⟨⟨old, he⟩, ⟨o, ho, hc, hd⟩, _⟩ := st
    have e' : b = e ∨ b = it := by simpa using hb
    rcases e' with z | z
    · rw [z]; exact ⟨_, he, fun v q => nomatch q⟩
    · rw [z]; exact ⟨o, ho, fun v q => by rw [hd] at q; cases q⟩
  keep := fun i h h' st k => by
    obtain ⟨⟨old, he⟩, ⟨o, ho, r⟩, hne⟩ := st
    exact ⟨⟨old, k e (by simp) _ he⟩, ⟨o, k it (by simp) o ho, r⟩, hne⟩
  item := by
    intro X hP hw hK hc i pins s σ H E I hf st hg
    subst hP hw hK
    obtain ⟨⟨old, he⟩, hit, hne⟩ := st
    obtain ⟨xs, x, hq, hx⟩ := hg
    obtain ⟨its, rv, p, hz⟩ := I.tuple hq
    obtain ⟨u, hu, ru⟩ := rv.get hx
    have hel : e < s.heap.objs.size := Heap.lt_size he
    have hil : it < s.heap.objs.size := by obtain ⟨_, q, _⟩ := hit; exact Heap.lt_size q
    have hD := draws_tup (prog := X.prog) (w := X.w) (A := X.A.in1) (I.ok.hd hc) it a hai its.toArray
    have hlt : i < its.toArray.size := by
      have := (List.getElem?_eq_some_iff.mp hu).1
      simpa using this
    refine wpAny_pyNext_enum_itemD hD he ⟨hit, show s.heap.IsTuple a its.toArray from p⟩ hlt hne (by simp [hne, hea]) fun y h' tk hy ho hst' hT hsz hk => ?_
    obtain rfl : y = u := by
      have h1 : its[i]? = some y := by simpa using hy
      rw [hu] at h1
      exact (Option.some.inj h1).symm
    refine ⟨_, rfl, wpAny_letOwnedTupleGo_enum (s := { s with heap := h', toks := tk + 1 }) ho fun h'' he' sb => ?_⟩
    have hT2 : h''.get? s.heap.objs.size = some { cls := .type "tuple", data := .seq #[.int i tk, y] } := (sb.2 _ (Nat.ne_of_gt hel)).trans hT
    have new : ObjOk X.prog X.w (upd H s.heap.objs.size (.tup [.int (i : Nat), x])) h'' s.heap.objs.size (.tup [.int (i : Nat), x]) :=
      ⟨by show 2 ≤ sizeLine; decide, [.int i tk, y], .cons ⟨_, rfl⟩ (.cons ru .nil), ⟨_, hT2, rfl, _, rfl⟩⟩
    have I1 : Inv X pins σ (upd H s.heap.objs.size (.tup [.int (i : Nat), x])) { s with heap := h'', toks := tk + 1 } :=
      I.turnedNew (ch := [e, it]) (fun b ob hb q => (sb.2 b (fun z => hb (by simp [z]))).trans (hk b ob (fun z => hb (by simp [z])) (fun z => hb (by simp [z])) q)) hf (Nat.le_refl _) new
    refine ⟨.ref s.heap.objs.size, _, I1, rfl, ⟨_, x, rfl, I.hok.fresh (Nat.le_refl _), rfl, fun ys hy => by rw [I.tuple_inj hy hq]; exact hx⟩, ⟨⟨y, ?_⟩, ?_, hne⟩, fun b hb => ?_⟩
    · have e1 : ((i + 1 : Nat) : Int) = (i : Int) + 1 := by omega
      rw [e1]; exact he'
    · obtain ⟨o, ho', r⟩ := hst'.1
      exact ⟨o, (sb.2 it (Ne.symm hne)).trans ho', r⟩
    · have hb' : b < s.heap.objs.size := by
        have e' : b = e ∨ b = it := by simpa using hb
        rcases e' with z | z
        · rw [z]; exact hel
        · rw [z]; exact hil
      rw [upd_ne (Nat.ne_of_lt hb')]
      exact (hf b hb).1
  done := by
    intro X hP hw hK hc i pins s σ H E I hf st hg
    subst hP hw hK
    obtain ⟨⟨old, he⟩, hit, hne⟩ := st
    obtain ⟨xs, hq, hx⟩ := hg
    obtain ⟨its, rv, p, hz⟩ := I.tuple hq
    obtain ⟨f0, f1, f2, f3, f4, f5⟩ := hf it (by simp)
    have hl := rv.length
    have hT : s.TypeIs (.ref e) "enumerate" := ⟨_, he, rfl⟩
    unfold pyNext
    refine wpAny_bind (wpAny_attempt (wpAny_callSpecial?_slot (name := Str.ofString "__next__") hT F.slot_enumerate_next (wpAny_call_entry F.slot_enumerate_next hT F.entry_enumerate_next ?_ (F.args_enumerate_next_1 _))))
    show wpAny _ _ (field (.ref e) 2 >>= _) _ _ _
    refine wpAny_bind (wpAny_field he rfl (x := .ref it) rfl ?_)
    refine wpAny_bind (nextOf_tup_end (I.ok.hd hc) hit (show s.heap.IsTuple a its.toArray from p) (by simp; omega) fun h' x he' hx' => ?_)
    obtain ⟨o, ho, hc'⟩ := hx'
    refine wpAny_bind (wpAny_isInstance (T := "StopIteration") (b := true) ⟨o, ho, hc'⟩ isSubtype_stop ?_)
    exact wpAny_pure ⟨rfl, I.turned (t' := s.toks) (fun b o hb q => he' b o hb q) f0 f1 f3 f4 f5⟩
  self := fun A i s Q E st h => let ⟨⟨_, he⟩, _⟩ := st; wpAny_pyIter_enum he h
def iEnumT (K : PySem.W.Frag) (ta : TA) : TI := fun σ H R => ta σ H fun vs H1 => ∃ a xs, vs = [.ref a] ∧ SqT K H1 a xs ∧ R (IteT K a) H1
theorem pi_enumT {X : Cx} {e : Expr} {ta : TA} {p pos tpos : Pos} {elts : List Expr} {kk : Nat} (hg : Gl X "enumerate") (hm : X.mg "enumerate" = none) (ha : PA X [e] ta) (hs : starEach [e] X.env = [(false, eval e X.env)] := by rfl) :
    PI X (.Tuple elts kk tpos) (.Call (.Name "enumerate" p) [e] [] pos) (iEnumT X.K ta) := by
  refine ⟨fun pins s σ H R I h => ?_⟩
  refine Call_ (ld_blt I hg hm boot_enumerate (PyProof.Rows.callWith_type1 (thn (ha.run pos pins s σ H _ I h) fun us s1 ⟨vs, H1, I1, r1, q1⟩ => ?_) hs rfl))
  obtain ⟨a, xs, ex, hq, q⟩ := q1
  subst ex
  cases r1 with
  | cons r rr =>
    cases rr
    cases r
    obtain ⟨its, rv, p', hz⟩ := I1.tuple hq
    have pt : s1.heap.IsTuple a its.toArray := p'
    have hal : a < s1.heap.objs.size := by obtain ⟨o, ho, _⟩ := pt; exact Heap.lt_size ho
    refine call_enum_tup pt fun h' he hit hsz hk => wpAny_pyIter_enum he ?_
    have I2 : Inv X pins σ H1 { s1 with heap := h' } := I1.kept (t' := s1.toks) hk
    refine ⟨s1.heap.objs.size + 1, [s1.heap.objs.size + 1, s1.heap.objs.size], _, _, H1, rfl, I2, turn_enumT a (s1.heap.objs.size + 1) s1.heap.objs.size (Nat.ne_of_lt hal) (Nat.ne_of_gt (Nat.lt_succ_of_lt hal)), ⟨⟨.none, he⟩, hit, Nat.succ_ne_self _⟩, fun b hb => ?_, q⟩
    have e' : b = s1.heap.objs.size + 1 ∨ b = s1.heap.objs.size := by simpa using hb
    have hle : s1.heap.objs.size ≤ b := by
      rcases e' with z | z
      · rw [z]; exact Nat.le_add_right _ _
      · rw [z]; exact Nat.le_refl _
    exact I1.fpOk hle (I1.hok.fresh hle)
/-- either reading of what is walked -/
theorem pi_or {X : Cx} {tg iter : Expr} {w1 w2 : TI} (h1 : PI X tg iter w1) (h2 : PI X tg iter w2) : PI X tg iter (fun σ H R => w1 σ H R ∨ w2 σ H R) :=
  ⟨fun pins s σ H R I q => q.elim (h1.run pins s σ H R I) (h2.run pins s σ H R I)⟩
theorem pg_or {X : Cx} {tg : Expr} {g1 g2 : TG} (h1 : PG X tg g1) (h2 : PG X tg g2) : PG X tg (fun v σ H Q => g1 v σ H Q ∨ g2 v σ H Q) :=
  ⟨fun pins s σ H x v Q I r q => q.elim (h1.run pins s σ H x v Q I r) (h2.run pins s σ H x v Q I r)⟩
end OR

namespace OR
abbrev Row := Int × Int
def mem (l : List Row) (x : Int) : Prop := ∃ r ∈ l, r.1 ≤ x ∧ x ≤ r.2
theorem mem_nil (x : Int) : ¬ mem [] x := fun ⟨_, h, _⟩ => nomatch h
theorem mem_cons {r : Row} {l : List Row} {x : Int} : mem (r :: l) x ↔ (r.1 ≤ x ∧ x ≤ r.2) ∨ mem l x := by
  constructor
  · rintro ⟨q, hq, h⟩
    rcases List.mem_cons.mp hq with e | e
    · subst e
      exact .inl h
    · exact .inr ⟨q, e, h⟩
  · rintro (h | ⟨q, hq, h⟩)
    · exact ⟨r, List.mem_cons_self, h⟩
    · exact ⟨q, List.mem_cons_of_mem _ hq, h⟩
theorem mem_append {l m : List Row} {x : Int} : mem (l ++ m) x ↔ mem l x ∨ mem m x := by
  constructor
  · rintro ⟨q, hq, h⟩
    rcases List.mem_append.mp hq with e | e
    · exact .inl ⟨q, e, h⟩
    · exact .inr ⟨q, e, h⟩
  · rintro (⟨q, hq, h⟩ | ⟨q, hq, h⟩)
    · exact ⟨q, List.mem_append_left _ hq, h⟩
    · exact ⟨q, List.mem_append_right _ hq, h⟩
theorem mem_same {l m : List Row} (h : ∀ r, r ∈ l ↔ r ∈ m) (x : Int) : mem l x ↔ mem m x :=
  ⟨fun ⟨q, hq, k⟩ => ⟨q, (h q).mp hq, k⟩, fun ⟨q, hq, k⟩ => ⟨q, (h q).mpr hq, k⟩⟩
theorem mem_reverse {l : List Row} {x : Int} : mem l.reverse x ↔ mem l x := mem_same (fun _ => List.mem_reverse) x
/-- the one form: in order, with a gap between any two -/
structure Nf (l : List Row) : Prop where
  ok : ∀ r ∈ l, r.1 ≤ r.2
  gap : l.Pairwise fun r s => r.2 + 1 < s.1
theorem Nf.nil : Nf [] := ⟨fun _ h => (nomatch h), .nil⟩
theorem Nf.tail {r : Row} {l : List Row} (h : Nf (r :: l)) : Nf l := ⟨fun q hq => h.ok q (List.mem_cons_of_mem _ hq), (List.pairwise_cons.mp h.gap).2⟩
theorem Nf.head {r : Row} {l : List Row} (h : Nf (r :: l)) : r.1 ≤ r.2 := h.ok r List.mem_cons_self
theorem Nf.behind {r : Row} {l : List Row} (h : Nf (r :: l)) {x : Int} (m : mem l x) : r.2 + 1 < x := by
  obtain ⟨q, hq, h1, _⟩ := m
  have := (List.pairwise_cons.mp h.gap).1 q hq
  omega
/-- the one form is told by its places -/
theorem Nf.unique : ∀ {l m : List Row}, Nf l → Nf m → (∀ x, mem l x ↔ mem m x) → l = m
  | [], [], _, _, _ => rfl
  | [], s :: m, _, hm, h => absurd ((h s.1).mpr (mem_cons.mpr (.inl ⟨Int.le_refl _, hm.head⟩))) (mem_nil _)
  | r :: l, [], hl, _, h => absurd ((h r.1).mp (mem_cons.mpr (.inl ⟨Int.le_refl _, hl.head⟩))) (mem_nil _)
  | r :: l, s :: m, hl, hm, h => by
    have lr := hl.head
    have ls := hm.head
    have least : ∀ {x}, mem (r :: l) x → r.1 ≤ x := fun {x} hx => by
      rcases mem_cons.mp hx with k | k
      · exact k.1
      · have := hl.behind k; omega
    have least' : ∀ {x}, mem (s :: m) x → s.1 ≤ x := fun {x} hx => by
      rcases mem_cons.mp hx with k | k
      · exact k.1
      · have := hm.behind k; omega
    have e1 : r.1 = s.1 := by
      have a := least ((h s.1).mpr (mem_cons.mpr (.inl ⟨Int.le_refl _, ls⟩)))
      have b := least' ((h r.1).mp (mem_cons.mpr (.inl ⟨Int.le_refl _, lr⟩)))
      omega
    have nr : ¬ mem (r :: l) (r.2 + 1) := fun k => by
      rcases mem_cons.mp k with k | k
      · omega
      · have := hl.behind k; omega
    have ns : ¬ mem (s :: m) (s.2 + 1) := fun k => by
      rcases mem_cons.mp k with k | k
      · omega
      · have := hm.behind k; omega
    have e2 : r.2 = s.2 := by
      rcases Int.lt_trichotomy r.2 s.2 with k | k | k
      · exact absurd ((h _).mpr (mem_cons.mpr (.inl ⟨by omega, by omega⟩))) nr
      · exact k
      · exact absurd ((h _).mp (mem_cons.mpr (.inl ⟨by omega, by omega⟩))) ns
    have e : r = s := Prod.ext e1 e2
    subst e
    congr 1
    refine Nf.unique hl.tail hm.tail fun x => ⟨fun k => ?_, fun k => ?_⟩
    · have b := hl.behind k
      rcases mem_cons.mp ((h x).mp (mem_cons.mpr (.inr k))) with z | z
      · omega
      · exact z
    · have b := hm.behind k
      rcases mem_cons.mp ((h x).mpr (mem_cons.mpr (.inr k))) with z | z
      · omega
      · exact z
/-- a row more behind rows in one form, which are written backwards -/
def jstep : List Row → Row → List Row
  | [], r => [r]
  | q :: t, r => if r.1 ≤ q.2 + 1 then (q.1, if r.2 > q.2 then r.2 else q.2) :: t else r :: q :: t
def jfold (l : List Row) : List Row := l.foldl jstep []
/-- what the fold keeps: acc stands backwards -/
structure Jn (acc : List Row) (done : List Row) (b : Int) : Prop where
  nf : Nf acc.reverse
  up : ∀ q ∈ acc, q.1 ≤ b
  me : ∀ x, mem acc x ↔ mem done x
theorem nf_snoc {l : List Row} {r : Row} (h : Nf l) (hr : r.1 ≤ r.2) (hg : ∀ q ∈ l, q.2 + 1 < r.1) : Nf (l ++ [r]) := by
  refine ⟨fun q hq => ?_, List.pairwise_append.mpr ⟨h.gap, List.pairwise_singleton _ _, fun a ha b hb => ?_⟩⟩
  · rcases List.mem_append.mp hq with k | k
    · exact h.ok q k
    · rw [List.mem_singleton.mp k]; exact hr
  · rw [List.mem_singleton.mp hb]; exact hg a ha
theorem nf_unsnoc {l : List Row} {r : Row} (h : Nf (l ++ [r])) : Nf l ∧ r.1 ≤ r.2 ∧ ∀ q ∈ l, q.2 + 1 < r.1 := by
  have g := List.pairwise_append.mp h.gap
  exact ⟨⟨fun q hq => h.ok q (List.mem_append_left _ hq), g.1⟩, h.ok r (List.mem_append_right _ (List.mem_singleton.mpr rfl)), fun q hq => g.2.2 q hq r (List.mem_singleton.mpr rfl)⟩
theorem Jn.step {acc done : List Row} {b : Int} {r : Row} (h : Jn acc done b) (hb : b ≤ r.1) (hr : r.1 ≤ r.2) : Jn (jstep acc r) (done ++ [r]) r.1 := by
  have tailm : ∀ x, mem [r] x ↔ (r.1 ≤ x ∧ x ≤ r.2) := fun x => by
    rw [mem_cons]
    exact ⟨fun k => k.elim id fun z => absurd z (mem_nil _), .inl⟩
  cases acc with
  | nil =>
    refine ⟨nf_snoc Nf.nil hr (fun _ z => nomatch z), fun q hq => ?_, fun x => ?_⟩
    · rw [List.mem_singleton.mp hq]; exact Int.le_refl _
    · rw [mem_append, ← h.me x]
      exact ⟨.inr, fun k => k.elim (fun z => absurd z (mem_nil _)) id⟩
  | cons q t =>
    have n := h.nf
    rw [List.reverse_cons] at n
    obtain ⟨nt, hq, gq⟩ := nf_unsnoc n
    have hqr : q.1 ≤ r.1 := Int.le_trans (h.up q List.mem_cons_self) hb
    show Jn (if r.1 ≤ q.2 + 1 then (q.1, if r.2 > q.2 then r.2 else q.2) :: t else r :: q :: t) (done ++ [r]) r.1
    by_cases c : r.1 ≤ q.2 + 1
    · rw [if_pos c]
      refine ⟨?_, fun z hz => ?_, fun x => ?_⟩
      · rw [List.reverse_cons]
        refine nf_snoc nt ?_ fun z hz => gq z hz
        show q.1 ≤ (if r.2 > q.2 then r.2 else q.2)
        split <;> omega
      · rcases List.mem_cons.mp hz with e | e
        · subst e; exact hqr
        · exact Int.le_trans (h.up z (List.mem_cons_of_mem _ e)) hb
      · rw [mem_append, ← h.me x, mem_cons, mem_cons, tailm]
        show ((q.1 ≤ x ∧ x ≤ (if r.2 > q.2 then r.2 else q.2)) ∨ mem t x) ↔ _
        constructor
        · rintro (⟨k1, k2⟩ | k)
          · by_cases hx : x ≤ q.2
            · exact .inl (.inl ⟨k1, hx⟩)
            · split at k2
              · exact .inr ⟨by omega, k2⟩
              · omega
          · exact .inl (.inr k)
        · rintro ((⟨k1, k2⟩ | k) | ⟨k1, k2⟩)
          · refine .inl ⟨k1, ?_⟩
            split <;> omega
          · exact .inr k
          · refine .inl ⟨by omega, ?_⟩
            split <;> omega
    · rw [if_neg c]
      refine ⟨?_, fun z hz => ?_, fun x => ?_⟩
      · rw [List.reverse_cons, List.reverse_cons]
        refine nf_snoc n hr fun z hz => ?_
        rcases List.mem_append.mp hz with k | k
        · have := gq z k; omega
        · rw [List.mem_singleton.mp k]; omega
      · rcases List.mem_cons.mp hz with e | e
        · subst e; exact Int.le_refl _
        · exact Int.le_trans (h.up z e) hb
      · rw [mem_append, ← h.me x, mem_cons, tailm]
        exact ⟨fun k => k.elim .inr .inl, fun k => k.elim .inr .inl⟩
theorem Jn.nil (b : Int) : Jn [] [] b := ⟨Nf.nil, fun _ h => (nomatch h), fun _ => Iff.rfl⟩
/-- the fold over rows that ascend -/
theorem jfold_go : ∀ (l acc done : List Row) (b : Int), Jn acc done b → (∀ r ∈ l, r.1 ≤ r.2) → (∀ r ∈ l, b ≤ r.1) → l.Pairwise (fun r s => r.1 ≤ s.1) → ∃ b', Jn (l.foldl jstep acc) (done ++ l) b'
  | [], acc, done, b, h, _, _, _ => ⟨b, by rw [List.append_nil]; exact h⟩
  | r :: l, acc, done, b, h, ho, hb, hs => by
    have p := List.pairwise_cons.mp hs
    obtain ⟨b', h'⟩ := jfold_go l (jstep acc r) (done ++ [r]) r.1 (h.step (hb r List.mem_cons_self) (ho r List.mem_cons_self)) (fun q hq => ho q (List.mem_cons_of_mem _ hq)) (fun q hq => p.1 q hq) p.2
    exact ⟨b', by rw [List.append_assoc] at h'; exact h'⟩
theorem jfold_ok {l : List Row} (ho : ∀ r ∈ l, r.1 ≤ r.2) (hs : l.Pairwise (fun r s => r.1 ≤ s.1)) : Nf (jfold l).reverse ∧ ∀ x, mem (jfold l).reverse x ↔ mem l x := by
  cases l with
  | nil => exact ⟨Nf.nil, fun _ => Iff.rfl⟩
  | cons r l =>
    have p := List.pairwise_cons.mp hs
    obtain ⟨b', h⟩ := jfold_go (r :: l) [] [] r.1 (Jn.nil _) ho (fun q hq => by
      rcases List.mem_cons.mp hq with e | e
      · subst e; exact Int.le_refl _
      · exact p.1 q e) hs
    exact ⟨h.nf, fun x => by rw [mem_reverse]; exact h.me x⟩
end OR

namespace OR
open PySem PySem.Spec PyProof.Rows L2
/-! ### the code of Places -/
def lastP : Int := 10 ^ 30
def placeB (n : Int) : Bool := decide (0 ≤ n) && decide (n ≤ lastP)
def okRow (r : Row) : Bool := placeB r.1 && (placeB r.2 && decide (r.1 ≤ r.2))
structure PTxt (K : PySem.W.Frag) (mg : Str → Option Value) (C : Addr) : Prop where
  cl : Cls K C
  nS : NoAttr K C "stretches"
  nF : NoAttr K C "_firsts"
  nB : NoAttr K C "_before"
  mgC : mg "Places" = some (.ref C)
  isi : SlX.SIsi K C
  kPP : PySem.W.kitOne K (.ref C) (.ref C) = some true
  zIsi : mg "isinstance" = none
  zInt : mg "int" = none
  zBool : mg "bool" = none
  zTup : mg "tuple" = none
  zList : mg "list" = none
  zLen : mg "len" = none
  zMax : mg "max" = none
  zSort : mg "sorted" = none
  zEnum : mg "enumerate" = none
  last : ∃ t, mg "LAST_PLACE" = some (.int lastP t)
theorem bt_isi : bootBuiltins ("isinstance" : Str) = some (.builtin "isinstance") := by decide +kernel
theorem bt_int : bootBuiltins ("int" : Str) = some (.type "int") := by decide +kernel
theorem bt_bool : bootBuiltins ("bool" : Str) = some (.type "bool") := by decide +kernel
theorem bt_tup : bootBuiltins ("tuple" : Str) = some (.type "tuple") := by decide +kernel
theorem bt_list : bootBuiltins ("list" : Str) = some (.type "list") := by decide +kernel
theorem bt_max : bootBuiltins ("max" : Str) = some (.builtin "max") := by decide +kernel
theorem bt_min : bootBuiltins ("min" : Str) = some (.builtin "min") := by decide +kernel
theorem bt_sorted : bootBuiltins ("sorted" : Str) = some (.builtin "sorted") := by decide +kernel
/-- any value whose type is known -/
def spIsIntG (K : PySem.W.Frag) : Sp := fun vs H Q _ => ∃ (x : V) (T : String) (b1 b2 : Bool), vs = [x] ∧ TyX K H x (.type T) ∧ kitB T "int" = some b1 ∧ kitB T "bool" = some b2 ∧ Q (.bl (b1 && !b2)) H
def spIsPlace (K : PySem.W.Frag) : Sp := fun vs H Q _ => ∃ x, vs = [x] ∧ ((∃ n, x = .int n ∧ Q (.bl (placeB n)) H) ∨ ∃ (T : String) (b1 b2 : Bool), TyX K H x (.type T) ∧ kitB T "int" = some b1 ∧ kitB T "bool" = some b2 ∧ (b1 && !b2) = false ∧ Q (.bl false) H)
/-- a pair of integers, a tuple or a list -/
def PairAt (H : Hp) (a : Addr) (r : Row) : Prop := H a = some (.tup [.int r.1, .int r.2]) ∨ H a = some (.lst [.int r.1, .int r.2])
def spIsStretchP : Sp := fun vs H Q _ => ∃ a r, vs = [.ref a] ∧ PairAt H a r ∧ ∀ H', Same H H' → Q (.bl (okRow r)) H'
section
variable {P : Program} {w : World} {K : PySem.W.Frag} {mg : Str → Option Value} {base : Heap}
theorem scIsI : FnScope ["value"] ["value"] (defScope sIsInt) := ⟨rfl, rfl, rfl, by decide +kernel, rfl, by decide +kernel, by decide +kernel⟩
theorem ok_isintG {f C : Addr} {fd : FuncData} (F : Fun K "is_integer" "is_integer" sIsInt f fd) (T : PTxt K mg C) : FnOk P w K mg base CX0 1 f fd ["value"] (spIsIntG K) := by
  refine F.ok scIsI (fun vs H Q E h => ?_) (fun cdv A outer s H vs Q E hr h => ?_)
  · obtain ⟨x, _, _, _, rfl, _⟩ := h
    rfl
  · obtain ⟨x, ty, b1, b2, rfl, hT, h1, h2, q⟩ := h
    refine ⟨_, pss_one (ps_ret (pe_and (pe_callB call_isi (by rfl) T.zIsi bt_isi (pa_cons (pv 0) (pa_cons (pe_bltn (v := .ty "int") (by rfl) T.zInt bt_int rfl) pa_nil)))
      (pe_one (pe_not (pe_callB call_isi (by rfl) T.zIsi bt_isi (pa_cons (pv 0) (pa_cons (pe_bltn (v := .ty "bool") (by rfl) T.zBool bt_bool rfl) pa_nil))))))), ?_⟩
    refine ⟨_, rfl, x, .ty "int", _, _, b1, rfl, .ty "int", hT, kit_ty h1, b1, rfl, ?_⟩
    cases b1 with
    | true => exact iteT ⟨_, rfl, x, .ty "bool", _, _, b2, rfl, .ty "bool", hT, kit_ty h2, b2, rfl, q⟩
    | false => exact iteF q
theorem scIsP : FnScope ["value"] ["value"] (defScope sIsPlace) := ⟨rfl, rfl, rfl, by decide +kernel, rfl, by decide +kernel, by decide +kernel⟩
theorem ok_isplace {f C : Addr} {fd : FuncData} (F : Fun K "is_place" "is_place" sIsPlace f fd) (T : PTxt K mg C) (I : Cl P w K mg base 1 "is_integer" ["value"] (spIsIntG K)) : FnOk P w K mg base CX0 2 f fd ["value"] (spIsPlace K) := by
  refine F.ok scIsP (fun vs H Q E h => ?_) (fun cdv A outer s H vs Q E hr h => ?_)
  · obtain ⟨x, rfl, _⟩ := h
    rfl
  · obtain ⟨x, rfl, h⟩ := h
    obtain ⟨tl, hl⟩ := T.last
    refine ⟨_, pss_one (ps_ret (pe_and (pe_cl I hr (by decide) (by rfl) (pa_cons (pv 0) pa_nil)) (pe_one (pe_chain op_le op_le pe_int (pv 0) (pe_glob (v := .int lastP) (by rfl) hl ⟨tl, rfl⟩))))), ?_⟩
    rcases h with ⟨n, rfl, q⟩ | ⟨ty, b1, b2, hT, h1, h2, hb, q⟩
    · refine ⟨_, rfl, .int n, "int", true, false, rfl, .base (.int n), by decide +kernel, by decide +kernel, true, rfl, iteT ?_⟩
      refine ⟨_, rfl, _, _, rfl, rfl, _, rfl, ?_⟩
      unfold placeB at q
      cases e : decide ((0 : Int) ≤ n) with
      | true =>
        rw [e] at q
        exact iteT ⟨_, _, rfl, rfl, q⟩
      | false =>
        rw [e] at q
        exact iteF q
    · exact ⟨_, rfl, x, ty, b1, b2, rfl, hT, h1, h2, _, rfl, by rw [hb]; exact iteF q⟩
theorem scIsS : FnScope ["value", "first", "last"] ["value"] (defScope sIsStretch) := ⟨rfl, rfl, rfl, by decide +kernel, rfl, by decide +kernel, by decide +kernel⟩
theorem ok_isstretch {f C : Addr} {fd : FuncData} (F : Fun K "_is_stretch" "_is_stretch" sIsStretch f fd) (T : PTxt K mg C) (I : Cl P w K mg base 2 "is_place" ["value"] (spIsPlace K)) : FnOk P w K mg base CX0 3 f fd ["value"] spIsStretchP := by
  refine F.ok scIsS (fun vs H Q E h => ?_) (fun cdv A outer s H vs Q E hr h => ?_)
  · obtain ⟨a, r, rfl, _⟩ := h
    rfl
  · obtain ⟨a, r, rfl, hp, q⟩ := h
    have nd := scIsS.nd
    refine ⟨_, pss_cons (ps_if (PW.pt (pw_or (pt_not (pt_val (pe_callB call_isiT (by rfl) T.zIsi bt_isi (pa_cons (pv 0) (pa_cons (pe_tup (pa_cons (pe_bltn (v := .ty "tuple") (by rfl) T.zTup bt_tup rfl) (pa_cons (pe_bltn (v := .ty "list") (by rfl) T.zList bt_list rfl) pa_nil))) pa_nil)))))
        (pw_or1 (pt_cmpR op_ne (pe_callB call_len_seq (by rfl) T.zLen PySem.boot_len (pa_cons (pv 0) pa_nil)) pe_int (nomark _))))) (pss_one (ps_ret pe_bl)) pss_nil)
      (pss_cons (ps_asg (pv 0) (pg_or (pg_tup rfl (pgs_cons (pg_name (i := 1) nd rfl (.inl rfl)) (pgs_cons (pg_name (i := 2) nd rfl (.inl rfl)) pgs_nil))) (pg_unl rfl (pgs_cons (pg_name (i := 1) nd rfl (.inl rfl)) (pgs_cons (pg_name (i := 2) nd rfl (.inl rfl)) pgs_nil)))))
      (pss_one (ps_ret (pe_and (pe_cl I hr (by decide) (by rfl) (pa_cons (pv 1) pa_nil)) (pe_and (pe_cl I hr (by decide) (by rfl) (pa_cons (pv 2) pa_nil)) (pe_one (pe_cmpR op_le (pv 1) (pv 2) (nomark _)))))))), ?_⟩
    refine ⟨_, rfl, by show 2 ≤ sizeLine; decide, fun t ht => ?_⟩
    have S1 : Same H (upd H t (.tup [.ty "tuple", .ty "list"])) := fun b o e => by rw [upd_ne (ne_of_none e ht)]; exact e
    have hp1 : PairAt (upd H t (.tup [.ty "tuple", .ty "list"])) a r := hp.elim (fun e => .inl (S1 _ _ e)) fun e => .inr (S1 _ _ e)
    have hseq : SqL K (upd H t (.tup [.ty "tuple", .ty "list"])) a [.int r.1, .int r.2] ∨ SqT K (upd H t (.tup [.ty "tuple", .ty "list"])) a [.int r.1, .int r.2] := hp1.elim (fun e => .inr (.inl (.inl e))) fun e => .inl (.inl (.inl e))
    have hty : ∃ T, TyX K (upd H t (.tup [.ty "tuple", .ty "list"])) (.ref a) (.type T) ∧ PySem.W.kitAny K (.type T) [.type "tuple", .type "list"] = some true := by
      rcases hp1 with e | e
      · exact ⟨"tuple", .base (.tup e), kitAny_cons (kit_ty (b := "tuple") (r := true) (by decide +kernel)) (fun z => nomatch z) fun _ => rfl⟩
      · exact ⟨"list", .base (.lst e), kitAny_cons (kit_ty (b := "tuple") (r := false) (by decide +kernel)) (fun _ => kitAny_cons (kit_ty (b := "list") (r := true) (by decide +kernel)) (fun z => nomatch z) fun _ => rfl) fun z => nomatch z⟩
    obtain ⟨ty, hT, hk⟩ := hty
    refine ⟨.ref a, t, _, .type ty, [.type "tuple", .type "list"], true, rfl, upd_same, .cons (.ty "tuple") (.cons (.ty "list") .nil), hT, hk, true, rfl, iteF ?_⟩
    refine ⟨_, rfl, a, _, rfl, hseq, rfl, _, rfl, iteNS rfl ?_⟩
    have fin : ∀ (Q' : Prop), (Q (.bl (okRow r)) (upd H t (.tup [.ty "tuple", .ty "list"])) → Q') → Q' := fun Q' k => k (q _ S1)
    have tail : ∀ σ : L2.St, σ = [some (.ref a), some (.int r.1), some (.int r.2)] → (tRet (tAndV (tCall (spIsPlace K) [] E0 (tCons (tVar 1) tNil)) (tAndV (tCall (spIsPlace K) [] E0 (tCons (tVar 2) tNil)) (tOp (rI0 fun i j => .bl (decide (i ≤ j))) (tVar 1) (tVar 2))))) { nx := fun _ H' => Q .non H', rt := Q } σ (upd H t (.tup [.ty "tuple", .ty "list"])) := by
      intro σ e
      subst e
      refine ⟨_, rfl, _, rfl, .inl ⟨r.1, rfl, _, rfl, ?_⟩⟩
      have q1 := q _ S1
      unfold okRow at q1
      cases e1 : placeB r.1 with
      | false => rw [e1] at q1; exact iteF q1
      | true =>
        rw [e1] at q1
        refine iteT ⟨_, rfl, _, rfl, .inl ⟨r.2, rfl, _, rfl, ?_⟩⟩
        cases e2 : placeB r.2 with
        | false => rw [e2] at q1; exact iteF q1
        | true =>
          rw [e2] at q1
          exact iteT ⟨_, rfl, _, rfl, _, _, rfl, rfl, q1⟩
    rcases hp1 with e | e
    · exact ⟨_, rfl, .inl ⟨a, _, rfl, .inl (.inl e), rfl, _, _, rfl, _, _, rfl, rfl, tail _ rfl⟩⟩
    · exact ⟨_, rfl, .inr ⟨a, _, rfl, .inl (.inl e), rfl, _, _, rfl, _, _, rfl, rfl, tail _ rfl⟩⟩
end
end OR

namespace OR
open PySem PySem.Spec PyProof.Rows L2
/-- all but what stands at p is as it was -/
def Fre (p : Addr) (H H' : Hp) : Prop := ∀ b o, H b = some o → b ≠ p → H' b = some o
theorem Fre.refl (p : Addr) (H : Hp) : Fre p H H := fun _ _ h _ => h
theorem Fre.trans {p : Addr} {H H1 H2 : Hp} (a : Fre p H H1) (b : Fre p H1 H2) : Fre p H H2 := fun c o h n => b c o (a c o h n) n
theorem Fre.put {p : Addr} {H : Hp} {o : HO} : Fre p H (upd H p o) := fun b x e n => by rw [upd_ne n]; exact e
/-! ### rows of pairs in the heap -/
abbrev ARow := Addr × Row
def refs (L : List ARow) : List V := L.map fun p => V.ref p.1
def rws (L : List ARow) : List Row := L.map (·.2)
def AtR (H : Hp) (L : List ARow) : Prop := ∀ p ∈ L, H p.1 = some (.tup [.int p.2.1, .int p.2.2])
def PairsAt (H : Hp) (L : List ARow) : Prop := ∀ p ∈ L, PairAt H p.1 p.2
theorem AtR.same {H H' : Hp} {L : List ARow} (h : AtR H L) (s : Same H H') : AtR H' L := fun p hp => s _ _ (h p hp)
theorem PairsAt.same {H H' : Hp} {L : List ARow} (h : PairsAt H L) (s : Same H H') : PairsAt H' L := fun p hp => (h p hp).elim (fun e => .inl (s _ _ e)) fun e => .inr (s _ _ e)
theorem AtR.pairs {H : Hp} {L : List ARow} (h : AtR H L) : PairsAt H L := fun p hp => .inl (h p hp)
theorem refs_len (L : List ARow) : (refs L).length = L.length := List.length_map ..
theorem rws_len (L : List ARow) : (rws L).length = L.length := List.length_map ..
theorem refs_snoc (L : List ARow) (p : ARow) : refs (L ++ [p]) = refs L ++ [.ref p.1] := by unfold refs; rw [List.map_append]; rfl
theorem rws_snoc (L : List ARow) (p : ARow) : rws (L ++ [p]) = rws L ++ [p.2] := by unfold rws; rw [List.map_append]; rfl
theorem refs_get {L : List ARow} {i : Nat} {v : V} (h : (refs L)[i]? = some v) : ∃ p, L[i]? = some p ∧ p ∈ L ∧ v = .ref p.1 := by
  unfold refs at h
  rw [List.getElem?_map] at h
  cases e : L[i]? with
  | none => rw [e] at h; cases h
  | some p => rw [e] at h; exact ⟨p, rfl, List.mem_of_getElem? e, (Option.some.inj h).symm⟩
theorem rws_get {L : List ARow} {i : Nat} {p : ARow} (h : L[i]? = some p) : (rws L)[i]? = some p.2 := by
  unfold rws
  rw [List.getElem?_map, h]
  rfl
theorem mem_rws {L : List ARow} {r : Row} : r ∈ rws L ↔ ∃ a, (a, r) ∈ L := by
  unfold rws
  rw [List.mem_map]
  exact ⟨fun ⟨p, hp, e⟩ => ⟨p.1, by rw [← e]; exact hp⟩, fun ⟨a, h⟩ => ⟨(a, r), h, rfl⟩⟩
/-- what a reference to a pair is worth -/
def kOf (H : Hp) : V → Int × Int
  | .ref a => match H a with
    | some (.tup [.int x, .int y]) => (x, y)
    | _ => (0, 0)
  | _ => (0, 0)
theorem kOf_at {H : Hp} {a : Addr} {x y : Int} (h : H a = some (.tup [.int x, .int y])) : kOf H (.ref a) = (x, y) := by
  show (match H a with
    | some (.tup [.int x, .int y]) => (x, y)
    | _ => (0, 0)) = (x, y)
  rw [h]
def adr : V → Addr
  | .ref a => a
  | _ => 0
/-- an arrangement of references is one of rows -/
theorem refs_perm {H : Hp} {M : List ARow} {ys : List V} (hM : AtR H M) (hp : ys.Perm (refs M)) : ∃ S : List ARow, ys = refs S ∧ AtR H S ∧ (∀ r, r ∈ rws S ↔ r ∈ rws M) ∧ S.length = M.length ∧ rws S = ys.map (kOf H) := by
  have each : ∀ y ∈ ys, ∃ p ∈ M, y = .ref p.1 ∧ kOf H y = p.2 := fun y hy => by
    have := hp.mem_iff.mp hy
    unfold refs at this
    obtain ⟨p, hpM, e⟩ := List.mem_map.mp this
    subst e
    exact ⟨p, hpM, rfl, kOf_at (hM p hpM)⟩
  have back : ∀ p ∈ M, V.ref p.1 ∈ ys := fun p hpM => hp.mem_iff.mpr (List.mem_map.mpr ⟨p, hpM, rfl⟩)
  refine ⟨ys.map fun y => (adr y, kOf H y), ?_, ?_, fun r => ?_, ?_, ?_⟩
  · unfold refs
    rw [List.map_map]
    refine Eq.trans (List.map_id ys).symm (List.map_congr_left fun y hy => ?_)
    obtain ⟨p, _, rfl, _⟩ := each y hy
    rfl
  · intro q hq
    obtain ⟨y, hy, e⟩ := List.mem_map.mp hq
    obtain ⟨p, hpM, rfl, k⟩ := each y hy
    subst e
    show H p.1 = some (.tup [.int (kOf H (.ref p.1)).1, .int (kOf H (.ref p.1)).2])
    rw [k]
    exact hM p hpM
  · unfold rws
    rw [List.map_map, List.mem_map, List.mem_map]
    constructor
    · rintro ⟨y, hy, e⟩
      obtain ⟨p, hpM, rfl, k⟩ := each y hy
      exact ⟨p, hpM, by rw [← e]; exact k.symm⟩
    · rintro ⟨p, hpM, e⟩
      exact ⟨.ref p.1, back p hpM, by rw [← e]; exact kOf_at (hM p hpM)⟩
  · rw [List.length_map, hp.length_eq, refs_len]
  · unfold rws
    rw [List.map_map]
    rfl
theorem jstep_len : ∀ (acc : List Row) (r : Row), (jstep acc r).length ≤ acc.length + 1
  | [], r => Nat.le_refl _
  | q :: t, r => by
    show (if r.1 ≤ q.2 + 1 then (q.1, if r.2 > q.2 then r.2 else q.2) :: t else r :: q :: t).length ≤ _
    split
    · exact Nat.le_succ _
    · exact Nat.le_refl _
theorem jfold_len : ∀ (l acc : List Row), (l.foldl jstep acc).length ≤ acc.length + l.length
  | [], acc => Nat.le_refl _
  | r :: l, acc => by
    have h1 := jfold_len l (jstep acc r)
    have h2 := jstep_len acc r
    show (l.foldl jstep (jstep acc r)).length ≤ _
    rw [List.length_cons]
    omega
theorem ixN_last (n : Nat) : ixN (n + 1) (-1) = some n := by
  unfold ixN
  rw [if_neg (by omega), if_pos (by omega)]
  congr 1
  omega
theorem set_last (xs : List V) (v u : V) : (xs ++ [v]).set xs.length u = xs ++ [u] := by
  rw [List.set_append_right _ _ (Nat.le_refl _), Nat.sub_self]
  rfl
def rTupOf (K : PySem.W.Frag) : List V → Hp → VK → Prop := fun xs H Q => ∃ p ys, xs = [.ref p] ∧ ((SqL K H p ys ∧ ∀ l, H l = none → Q (.ref l) (upd H l (.tup ys))) ∨ (SqT K H p ys ∧ Q (.ref p) H))
theorem call_tupOf {X : Cx} (K : PySem.W.Frag) (h : X.K = K) : CallR X (.type "tuple") (rTupOf K) := by
  subst h
  exact call_tuple_of
theorem yesT {σ : L2.St} {H : Hp} {A B : Hp → Prop} (h : A H) : tYes σ H (fun b H3 => if b = true then A H3 else B H3) := by
  show if true = true then A H else B H
  rw [if_pos rfl]
  exact h
theorem same_upd {H H' : Hp} {b : Addr} {u : HO} (s : Same H H') (h : H b = none) : Same H (upd H' b u) := fun c v e => by rw [upd_ne (ne_of_none e h)]; exact s c v e
theorem same_lay {H : Hp} {q : Addr} {o : HO} (h : H q = none) : Same H (upd H q o) := fun b x e => by rw [upd_ne (ne_of_none e h)]; exact e
theorem sameT {K : PySem.W.Frag} {H H' : Hp} {a : Addr} {xs : List V} (e : Same H H') (h : SqT K H a xs) : SqT K H' a xs := by
  rcases h with (h | ⟨o, h⟩) | h
  · exact .inl (.inl (e _ _ h))
  · exact .inl (.inr ⟨o, e _ _ h⟩)
  · exact .inr h
def spJoined (K : PySem.W.Frag) : Sp := fun vs H Q _ => ∃ (a : Addr) (L : List ARow), vs = [.ref a] ∧ (SqL K H a (refs L) ∨ SqT K H a (refs L)) ∧ L.length ≤ 1000 ∧ PairsAt H L ∧ (∀ r ∈ rws L, r.1 ≤ r.2) ∧
  ∀ (t : Addr) (M : List ARow) (H' : Hp), Same H H' → H t = none → H' t = some (.tup (refs M)) → AtR H' M → Nf (rws M) → (∀ x, mem (rws M) x ↔ mem (rws L) x) → M.length ≤ L.length → Q (.ref t) H'
section
variable {P : Program} {w : World} {K : PySem.W.Frag} {mg : Str → Option Value} {base : Heap}
theorem scJ : FnScope ["stretches", "rows", "first", "last", "stretch"] ["stretches"] (defScope sJoined) := ⟨rfl, rfl, rfl, by decide +kernel, rfl, by decide +kernel, by decide +kernel⟩
theorem small_l {n : Nat} (h : n ≤ 1000) : n ≤ sizeLine := Nat.le_of_lt (small1000 h)
theorem ok_joined {f C : Addr} {fd : FuncData} (F : Fun K "_joined" "_joined" sJoined f fd) (T : PTxt K mg C) : FnOk P w K mg base CX0 1 f fd ["stretches"] (spJoined K) := by
  refine F.ok scJ (fun vs H Q E h => ?_) (fun cdv A outer s H vs Q E hr h => ?_)
  · obtain ⟨a, L, rfl, _⟩ := h
    rfl
  · obtain ⟨a, L, rfl, hS, hlen, hP, hok, q⟩ := h
    have nd := scJ.nd
    refine ⟨_, pss_cons (ps_set (i := 1) nd rfl (.inl rfl) (pe_lst pa_nil))
      (pss_cons (ps_for PassesOwn.never rfl (pi_list (pe_callB cr_sortedPO (by rfl) T.zSort bt_sorted (pa_cons
            (pe_lc (own := [("stretch", 4)]) (g := gName 4) (tt := tYes) rfl nd (pi_or (pi_list (pv 0)) (pi_tup (pv 0))) (blkOk_by (N := ["stretches", "rows", "first", "last", "stretch"]) (sc := defScope sJoined) (by decide +kernel))
              (fun _ _ _ _ _ => pg_name (i := 4) nd rfl (.inl rfl)) (fun _ _ _ _ _ => pts_nil) (fun _ _ _ _ _ => pe_callTy (call_tupOf K rfl) (by rfl) T.zTup bt_tup (pa_cons (pv 4) pa_nil))) pa_nil)))
          (pg_tup rfl (pgs_cons (pg_name (i := 2) nd rfl (.inl rfl)) (pgs_cons (pg_name (i := 3) nd rfl (.inl rfl)) pgs_nil)))
        (pss_one (ps_if (PW.pt (pw_and (pt_truth (pv 1) (by intro _; rfl)) (pw_and1 (pt_cmpR op_le (pv 2) (pe_op op_add (pe_ix ix_tup (pe_ix ix_list (pv 1) (pe_un un_neg pe_int) (fun _ _ => rfl)) pe_int (fun _ _ => rfl)) pe_int) (nomark _)))))
          (pss_one (ps_asg (pe_tup (pa_cons (pe_ix ix_tup (pe_ix ix_list (pv 1) (pe_un un_neg pe_int) (fun _ _ => rfl)) pe_int (fun _ _ => rfl))
              (pa_cons (pe_callB (call_max2 rfl) (by rfl) T.zMax bt_max (pa_cons (pe_ix ix_tup (pe_ix ix_list (pv 1) (pe_un un_neg pe_int) (fun _ _ => rfl)) pe_int (fun _ _ => rfl)) (pa_cons (pv 3) pa_nil))) pa_nil)))
            (pg_sub (pv 1) (pe_un un_neg pe_int) set_list)))
          (pss_one (ps_expr (pe_bm PySem.F.plainAttrs_list PySem.F.slot_list_append PySem.F.type_list_append mt_append (pv 1) (pa_cons (pe_tup (pa_cons (pv 2) (pa_cons (pv 3) pa_nil))) pa_nil)))))))
      (pss_one (ps_ret (pe_callTy call_tuple_of (by rfl) T.zTup bt_tup (pa_cons (pv 1) pa_nil))))), ?_⟩
    refine ⟨Nat.zero_le _, fun o no => ?_⟩
    have S1 : Same H (upd H o (.lst [])) := fun b u e => by rw [upd_ne (ne_of_none e no)]; exact e
    rcases hS with hS | hS
    · refine .inl ⟨_, rfl, a, rfl, ⟨_, S1.seq hS⟩, fun D hD => lc_list (K := K) (a := a) (xs := refs L) (fun i H2 => ∃ M : List ARow, H2 D = some (.lst (refs M)) ∧ AtR H2 M ∧ rws M = (rws L).take i ∧ Same (upd H o (.lst [])) H2)
        ⟨[], upd_same, (fun _ z => nomatch z), rfl, same_lay hD⟩ (fun i H2 _ ⟨_, _, _, _, s⟩ => s.seq (S1.seq hS)) ?_ ?_⟩
      · intro i x H2 hx hI
        obtain ⟨M, hD2, hM, eM, s2⟩ := hI
        obtain ⟨p, hp, hpL, rfl⟩ := refs_get hx
        have hil : i < L.length := (List.getElem?_eq_some_iff.mp hp).1
        have hlM : M.length = i := by
          rw [← rws_len M, eM, List.length_take, rws_len]
          omega
        have e1 : (rws L).take (i + 1) = (rws L).take i ++ [p.2] := by rw [List.take_add_one, rws_get hp]; rfl
        have nDp : ∀ q ∈ M, q.1 ≠ D := fun q hq => ne_of (hM q hq) hD2 (by intro z; cases z)
        refine ⟨rfl, yesT ?_⟩
        refine ⟨_, rfl, p.1, [.int p.2.1, .int p.2.2], rfl, ?_⟩
        rcases hP p hpL with e | e
        · have e3 := s2 _ _ (S1 _ _ e)
          refine .inr ⟨.inl (.inl e3), refs M, hD2, small1000 (by rw [refs_len, hlM]; omega), M ++ [p], ?_, ?_, ?_, same_upd s2 hD⟩
          · rw [upd_same, refs_snoc]
          · intro q hq
            rcases List.mem_append.mp hq with k | k
            · rw [upd_ne (nDp q k)]; exact hM q k
            · rw [List.mem_singleton.mp k, upd_ne (ne_of e3 hD2 (by intro z; cases z))]; exact e3
          · rw [rws_snoc, eM, e1]
        · have e3 := s2 _ _ (S1 _ _ e)
          refine .inl ⟨.inl (.inl e3), fun l hl => ?_⟩
          have nDl : D ≠ l := ne_of_none hD2 hl
          have s3 := same_lay (o := .tup [.int p.2.1, .int p.2.2]) hl
          refine ⟨refs M, s3 _ _ hD2, small1000 (by rw [refs_len, hlM]; omega), M ++ [(l, p.2)], ?_, ?_, ?_, same_upd (s2.trans s3) hD⟩
          · rw [upd_same, refs_snoc]
          · intro q hq
            rcases List.mem_append.mp hq with k | k
            · rw [upd_ne (nDp q k)]; exact s3 _ _ (hM q k)
            · rw [List.mem_singleton.mp k, upd_ne nDl.symm, upd_same]
          · rw [rws_snoc, eM, e1]
      · intro H2 hI
        obtain ⟨M, hD2, hM, eM, s2⟩ := hI
        rw [refs_len, List.take_of_length_le (by rw [rws_len]; exact Nat.le_refl _)] at eM
        have no2 : H2 o = some (.lst []) := s2 _ _ upd_same
        have lM : M.length = L.length := by rw [← rws_len M, eM, rws_len]
        -- sorted
        refine ⟨D, refs M, kOf H2, rfl, .inl (.inl hD2), fun y hy => ?_, fun ys p hs hb np => ?_⟩
        · unfold refs at hy
          obtain ⟨z, hz, rfl⟩ := List.mem_map.mp hy
          exact ⟨z.1, rfl, by rw [kOf_at (hM z hz)]; exact hM z hz⟩
        obtain ⟨S, rfl, hSA, hSm, hSl, hSk⟩ := refs_perm hM hb.perm
        have hso : (rws S).Pairwise fun r s => r.1 ≤ s.1 := by
          rw [hSk]
          refine List.pairwise_map.mpr (hs.imp fun {x y} hxy => ?_)
          have := SrtO.lexB_no.mp hxy
          omega
        have hSok : ∀ r ∈ rws S, r.1 ≤ r.2 := fun r hr => hok r (by rw [← eM]; exact (hSm r).mp hr)
        obtain ⟨hnf, hme⟩ := jfold_ok hSok hso
        have s3 := same_lay (o := .lst (refs S)) np
        have nop : o ≠ p := ne_of_none no2 np
        refine ⟨p, rfl, ⟨_, .inl (.inl upd_same)⟩, for_list (K := K) (a := p) (xs := refs S) (fun i σ H' => ∃ f l, ∃ A : List ARow, σ = [some (.ref a), some (.ref o), f, l, none] ∧ H' o = some (.lst (refs A)) ∧ AtR H' A ∧ rws A = (((rws S).take i).foldl jstep []).reverse ∧ Fre o (upd H2 p (.lst (refs S))) H' ∧ A.length ≤ i)
          ⟨none, none, [], rfl, by rw [upd_ne nop]; exact no2, (fun _ z => nomatch z), rfl, Fre.refl _ _, Nat.le_refl _⟩ (fun i σ H' _ ⟨_, _, _, _, _, _, _, fr, _⟩ => .inl (.inl (fr _ _ upd_same nop.symm))) ?_ ?_⟩
        · rintro i y σ H' hy ⟨f, l, A, rfl, hoA, hA, eA, fr, hAl⟩
          obtain ⟨z, hz, hzS, rfl⟩ := refs_get hy
          have hil : i < S.length := (List.getElem?_eq_some_iff.mp hz).1
          have ez : H' z.1 = some (.tup [.int z.2.1, .int z.2.2]) := fr _ _ (s3 _ _ (hSA z hzS)) (ne_of (hSA z hzS) no2 (by intro q; cases q))
          have e1 : ((rws S).take (i + 1)).foldl jstep [] = jstep (((rws S).take i).foldl jstep []) z.2 := by
            rw [List.take_add_one, rws_get hz, List.foldl_append]
            rfl
          have nAo : ∀ q ∈ A, q.1 ≠ o := fun q hq => ne_of (hA q hq) hoA (by intro w; cases w)
          refine ⟨z.1, _, rfl, .inl (.inl ez), rfl, _, _, rfl, _, _, rfl, rfl, ?_⟩
          refine ⟨_, rfl, !(refs A).isEmpty, .inl ⟨refs A, .inl (.inl hoA), rfl⟩, ?_⟩
          -- the row goes to the end
          have app : ∀ (hj : jstep (((rws S).take i).foldl jstep []) z.2 = z.2 :: ((rws S).take i).foldl jstep []) (T : Addr), H' T = none →
              ∃ f' l', ∃ A' : List ARow, [some (V.ref a), some (.ref o), some (.int z.2.1), some (.int z.2.2), none] = [some (.ref a), some (.ref o), f', l', none] ∧ (upd (upd H' T (.tup [.int z.2.1, .int z.2.2])) o (.lst (refs A ++ [.ref T]))) o = some (.lst (refs A')) ∧ AtR (upd (upd H' T (.tup [.int z.2.1, .int z.2.2])) o (.lst (refs A ++ [.ref T]))) A' ∧
                rws A' = (((rws S).take (i + 1)).foldl jstep []).reverse ∧ Fre o (upd H2 p (.lst (refs S))) (upd (upd H' T (.tup [.int z.2.1, .int z.2.2])) o (.lst (refs A ++ [.ref T]))) ∧ A'.length ≤ i + 1 := by
            intro hj Tn hT
            have s4 := same_lay (o := .tup [.int z.2.1, .int z.2.2]) hT
            have noT : Tn ≠ o := by
              intro e
              rw [e] at hT
              rw [hT] at hoA
              cases hoA
            refine ⟨_, _, A ++ [(Tn, z.2)], rfl, by rw [upd_same, refs_snoc], ?_, ?_, (fr.trans (fun b u e _ => s4 b u e)).trans Fre.put, by rw [List.length_append]; exact Nat.succ_le_succ hAl⟩
            · intro q hq
              rcases List.mem_append.mp hq with k | k
              · rw [upd_ne (nAo q k)]; exact s4 _ _ (hA q k)
              · rw [List.mem_singleton.mp k, upd_ne noT, upd_same]
            · rw [rws_snoc, eA, e1, hj, List.reverse_cons]
          have alen : (refs A).length < sizeLine := small1000 (by rw [refs_len]; omega)
          have two : 2 ≤ sizeLine := by decide
          cases hacc : ((rws S).take i).foldl jstep [] with
          | nil =>
            have eA0 : A = [] := by
              rw [hacc] at eA
              exact List.map_eq_nil_iff.mp eA
            refine ite2 (fun k => ?_) (fun _ => iteF ?_)
            · rw [eA0] at k
              exact absurd k (by decide)
            · refine ⟨_, rfl, .inl ⟨rfl, _, .inl (.inl hoA)⟩, _, rfl, _, rfl, two, fun Tn hT => ?_⟩
              refine ⟨o, refs A, _, rfl, rfl, same_lay hT _ _ hoA, alen, ?_⟩
              exact app (by rw [hacc]; rfl) Tn hT
          | cons q0 t0 =>
            have eA1 : rws A = t0.reverse ++ [q0] := by rw [eA, hacc, List.reverse_cons]
            obtain ⟨B, A2, rfl, eB, eA2⟩ := List.map_eq_append_iff.mp eA1
            obtain ⟨⟨aq, q1⟩, A3, rfl, eq1, eA3⟩ := List.map_eq_cons_iff.mp eA2
            obtain rfl := List.map_eq_nil_iff.mp eA3
            obtain rfl : q1 = q0 := eq1
            have haq : H' aq = some (.tup [.int q1.1, .int q1.2]) := hA (aq, q1) (List.mem_append_right _ (List.mem_singleton.mpr rfl))
            rw [refs_snoc] at hoA
            have hSo : SqL K H' o (refs B ++ [.ref aq]) := .inl (.inl hoA)
            have hSq : SqT K H' aq [.int q1.1, .int q1.2] := .inl (.inl haq)
            have g0 : atI [V.int q1.1, .int q1.2] 0 = some (.int q1.1) := atI_nat (j := 0) rfl
            have g1 : atI [V.int q1.1, .int q1.2] 1 = some (.int q1.2) := atI_nat (j := 1) rfl
            have gl : atI (refs B ++ [V.ref aq]) (-1) = some (.ref aq) := atI_last _ _
            refine ite2 (fun _ => ?_) (fun k => ?_)
            · refine ⟨_, rfl, _, rfl, 1, rfl, o, _, -1, _, rfl, rfl, hSo, gl, aq, _, 1, _, rfl, rfl, hSq, g1, _, _, rfl, rfl, _, _, rfl, rfl, _, rfl, ite2 (fun c => ?_) (fun c => ?_)⟩
              · have hc : z.2.1 ≤ q1.2 + 1 := of_decide_eq_true c
                refine ⟨_, rfl, 1, rfl, o, _, -1, _, rfl, rfl, hSo, gl, aq, _, 0, _, rfl, rfl, hSq, g0, _, rfl, 1, rfl, o, _, -1, _, rfl, rfl, hSo, gl, aq, _, 1, _, rfl, rfl, hSq, g1, _, rfl, _, _, rfl, two, fun Tn hT => ?_⟩
                have s4 := same_lay (o := .tup [.int q1.1, .int (if z.2.2 > q1.2 then z.2.2 else q1.2)]) hT
                have noT : Tn ≠ o := by
                  intro e
                  rw [e] at hT
                  rw [hT] at hoA
                  cases hoA
                have ixe : ixN (refs B ++ [V.ref aq]).length (-1) = some (refs B).length := by
                  rw [List.length_append]
                  exact ixN_last _
                refine ⟨_, rfl, 1, rfl, o, _, -1, _, rfl, rfl, s4 _ _ hoA, ixe, ?_⟩
                refine ⟨_, _, B ++ [(Tn, (q1.1, if z.2.2 > q1.2 then z.2.2 else q1.2))], rfl, by rw [upd_same, set_last, refs_snoc], ?_, ?_, (fr.trans (fun b u e _ => s4 b u e)).trans Fre.put, ?_⟩
                · intro q hq
                  rcases List.mem_append.mp hq with k | k
                  · rw [upd_ne (nAo q (List.mem_append_left _ k))]; exact s4 _ _ (hA q (List.mem_append_left _ k))
                  · rw [List.mem_singleton.mp k, upd_ne noT, upd_same]
                · rw [rws_snoc, e1, hacc]
                  show rws B ++ [(q1.1, if z.2.2 > q1.2 then z.2.2 else q1.2)] = (if z.2.1 ≤ q1.2 + 1 then (q1.1, if z.2.2 > q1.2 then z.2.2 else q1.2) :: t0 else z.2 :: q1 :: t0).reverse
                  rw [if_pos hc, List.reverse_cons]
                  exact congrArg (· ++ [(q1.1, if z.2.2 > q1.2 then z.2.2 else q1.2)]) eB
                · rw [List.length_append] at hAl ⊢
                  exact Nat.le_succ_of_le hAl
              · have hc : ¬ z.2.1 ≤ q1.2 + 1 := fun w => c (decide_eq_true w)
                refine ⟨_, rfl, .inl ⟨rfl, _, .inl (.inl hoA)⟩, _, rfl, _, rfl, two, fun Tn hT => ?_⟩
                refine ⟨o, _, _, rfl, rfl, same_lay hT _ _ hoA, by rw [← refs_snoc]; exact alen, ?_⟩
                rw [← refs_snoc]
                refine app ?_ Tn hT
                rw [hacc]
                show (if z.2.1 ≤ q1.2 + 1 then (q1.1, if z.2.2 > q1.2 then z.2.2 else q1.2) :: t0 else z.2 :: q1 :: t0) = z.2 :: q1 :: t0
                rw [if_neg hc]
            · exfalso
              apply k
              rw [refs_snoc]
              simp
        · rintro σ H' ⟨f, l, A, rfl, hoA, hA, eA, fr, hAl⟩
          rw [refs_len, List.take_of_length_le (by rw [rws_len]; exact Nat.le_refl _)] at eA
          have eN : rws A = (jfold (rws S)).reverse := eA
          refine ⟨_, rfl, o, refs A, rfl, .inl ⟨.inl (.inl hoA), fun t ht => ?_⟩⟩
          have s5 := same_lay (o := .tup (refs A)) ht
          have s6 : Same H H' := fun b u e => fr b u (s3 b u (s2 b u (S1 b u e))) (ne_of_none e no)
          refine q t A _ (s6.trans s5) (s6.free ht) upd_same (hA.same s5) (by rw [eN]; exact hnf) (fun x => ?_) ?_
          · rw [eN, hme x, ← eM]
            exact mem_same hSm x
          · rw [refs_len] at hAl
            omega
    · refine .inr ⟨_, rfl, a, rfl, ⟨_, sameT S1 hS⟩, fun D hD => lc_tup (K := K) (a := a) (xs := refs L) (fun i H2 => ∃ M : List ARow, H2 D = some (.lst (refs M)) ∧ AtR H2 M ∧ rws M = (rws L).take i ∧ Same (upd H o (.lst [])) H2)
        ⟨[], upd_same, (fun _ z => nomatch z), rfl, same_lay hD⟩ (fun i H2 _ ⟨_, _, _, _, s⟩ => sameT s (sameT S1 hS)) ?_ ?_⟩
      · intro i x H2 hx hI
        obtain ⟨M, hD2, hM, eM, s2⟩ := hI
        obtain ⟨p, hp, hpL, rfl⟩ := refs_get hx
        have hil : i < L.length := (List.getElem?_eq_some_iff.mp hp).1
        have hlM : M.length = i := by
          rw [← rws_len M, eM, List.length_take, rws_len]
          omega
        have e1 : (rws L).take (i + 1) = (rws L).take i ++ [p.2] := by rw [List.take_add_one, rws_get hp]; rfl
        have nDp : ∀ q ∈ M, q.1 ≠ D := fun q hq => ne_of (hM q hq) hD2 (by intro z; cases z)
        refine ⟨rfl, yesT ?_⟩
        refine ⟨_, rfl, p.1, [.int p.2.1, .int p.2.2], rfl, ?_⟩
        rcases hP p hpL with e | e
        · have e3 := s2 _ _ (S1 _ _ e)
          refine .inr ⟨.inl (.inl e3), refs M, hD2, small1000 (by rw [refs_len, hlM]; omega), M ++ [p], ?_, ?_, ?_, same_upd s2 hD⟩
          · rw [upd_same, refs_snoc]
          · intro q hq
            rcases List.mem_append.mp hq with k | k
            · rw [upd_ne (nDp q k)]; exact hM q k
            · rw [List.mem_singleton.mp k, upd_ne (ne_of e3 hD2 (by intro z; cases z))]; exact e3
          · rw [rws_snoc, eM, e1]
        · have e3 := s2 _ _ (S1 _ _ e)
          refine .inl ⟨.inl (.inl e3), fun l hl => ?_⟩
          have nDl : D ≠ l := ne_of_none hD2 hl
          have s3 := same_lay (o := .tup [.int p.2.1, .int p.2.2]) hl
          refine ⟨refs M, s3 _ _ hD2, small1000 (by rw [refs_len, hlM]; omega), M ++ [(l, p.2)], ?_, ?_, ?_, same_upd (s2.trans s3) hD⟩
          · rw [upd_same, refs_snoc]
          · intro q hq
            rcases List.mem_append.mp hq with k | k
            · rw [upd_ne (nDp q k)]; exact s3 _ _ (hM q k)
            · rw [List.mem_singleton.mp k, upd_ne nDl.symm, upd_same]
          · rw [rws_snoc, eM, e1]
      · intro H2 hI
        obtain ⟨M, hD2, hM, eM, s2⟩ := hI
        rw [refs_len, List.take_of_length_le (by rw [rws_len]; exact Nat.le_refl _)] at eM
        have no2 : H2 o = some (.lst []) := s2 _ _ upd_same
        have lM : M.length = L.length := by rw [← rws_len M, eM, rws_len]
        -- sorted
        refine ⟨D, refs M, kOf H2, rfl, .inl (.inl hD2), fun y hy => ?_, fun ys p hs hb np => ?_⟩
        · unfold refs at hy
          obtain ⟨z, hz, rfl⟩ := List.mem_map.mp hy
          exact ⟨z.1, rfl, by rw [kOf_at (hM z hz)]; exact hM z hz⟩
        obtain ⟨S, rfl, hSA, hSm, hSl, hSk⟩ := refs_perm hM hb.perm
        have hso : (rws S).Pairwise fun r s => r.1 ≤ s.1 := by
          rw [hSk]
          refine List.pairwise_map.mpr (hs.imp fun {x y} hxy => ?_)
          have := SrtO.lexB_no.mp hxy
          omega
        have hSok : ∀ r ∈ rws S, r.1 ≤ r.2 := fun r hr => hok r (by rw [← eM]; exact (hSm r).mp hr)
        obtain ⟨hnf, hme⟩ := jfold_ok hSok hso
        have s3 := same_lay (o := .lst (refs S)) np
        have nop : o ≠ p := ne_of_none no2 np
        refine ⟨p, rfl, ⟨_, .inl (.inl upd_same)⟩, for_list (K := K) (a := p) (xs := refs S) (fun i σ H' => ∃ f l, ∃ A : List ARow, σ = [some (.ref a), some (.ref o), f, l, none] ∧ H' o = some (.lst (refs A)) ∧ AtR H' A ∧ rws A = (((rws S).take i).foldl jstep []).reverse ∧ Fre o (upd H2 p (.lst (refs S))) H' ∧ A.length ≤ i)
          ⟨none, none, [], rfl, by rw [upd_ne nop]; exact no2, (fun _ z => nomatch z), rfl, Fre.refl _ _, Nat.le_refl _⟩ (fun i σ H' _ ⟨_, _, _, _, _, _, _, fr, _⟩ => .inl (.inl (fr _ _ upd_same nop.symm))) ?_ ?_⟩
        · rintro i y σ H' hy ⟨f, l, A, rfl, hoA, hA, eA, fr, hAl⟩
          obtain ⟨z, hz, hzS, rfl⟩ := refs_get hy
          have hil : i < S.length := (List.getElem?_eq_some_iff.mp hz).1
          have ez : H' z.1 = some (.tup [.int z.2.1, .int z.2.2]) := fr _ _ (s3 _ _ (hSA z hzS)) (ne_of (hSA z hzS) no2 (by intro q; cases q))
          have e1 : ((rws S).take (i + 1)).foldl jstep [] = jstep (((rws S).take i).foldl jstep []) z.2 := by
            rw [List.take_add_one, rws_get hz, List.foldl_append]
            rfl
          have nAo : ∀ q ∈ A, q.1 ≠ o := fun q hq => ne_of (hA q hq) hoA (by intro w; cases w)
          refine ⟨z.1, _, rfl, .inl (.inl ez), rfl, _, _, rfl, _, _, rfl, rfl, ?_⟩
          refine ⟨_, rfl, !(refs A).isEmpty, .inl ⟨refs A, .inl (.inl hoA), rfl⟩, ?_⟩
          -- the row goes to the end
          have app : ∀ (hj : jstep (((rws S).take i).foldl jstep []) z.2 = z.2 :: ((rws S).take i).foldl jstep []) (T : Addr), H' T = none →
              ∃ f' l', ∃ A' : List ARow, [some (V.ref a), some (.ref o), some (.int z.2.1), some (.int z.2.2), none] = [some (.ref a), some (.ref o), f', l', none] ∧ (upd (upd H' T (.tup [.int z.2.1, .int z.2.2])) o (.lst (refs A ++ [.ref T]))) o = some (.lst (refs A')) ∧ AtR (upd (upd H' T (.tup [.int z.2.1, .int z.2.2])) o (.lst (refs A ++ [.ref T]))) A' ∧
                rws A' = (((rws S).take (i + 1)).foldl jstep []).reverse ∧ Fre o (upd H2 p (.lst (refs S))) (upd (upd H' T (.tup [.int z.2.1, .int z.2.2])) o (.lst (refs A ++ [.ref T]))) ∧ A'.length ≤ i + 1 := by
            intro hj Tn hT
            have s4 := same_lay (o := .tup [.int z.2.1, .int z.2.2]) hT
            have noT : Tn ≠ o := by
              intro e
              rw [e] at hT
              rw [hT] at hoA
              cases hoA
            refine ⟨_, _, A ++ [(Tn, z.2)], rfl, by rw [upd_same, refs_snoc], ?_, ?_, (fr.trans (fun b u e _ => s4 b u e)).trans Fre.put, by rw [List.length_append]; exact Nat.succ_le_succ hAl⟩
            · intro q hq
              rcases List.mem_append.mp hq with k | k
              · rw [upd_ne (nAo q k)]; exact s4 _ _ (hA q k)
              · rw [List.mem_singleton.mp k, upd_ne noT, upd_same]
            · rw [rws_snoc, eA, e1, hj, List.reverse_cons]
          have alen : (refs A).length < sizeLine := small1000 (by rw [refs_len]; omega)
          have two : 2 ≤ sizeLine := by decide
          cases hacc : ((rws S).take i).foldl jstep [] with
          | nil =>
            have eA0 : A = [] := by
              rw [hacc] at eA
              exact List.map_eq_nil_iff.mp eA
            refine ite2 (fun k => ?_) (fun _ => iteF ?_)
            · rw [eA0] at k
              exact absurd k (by decide)
            · refine ⟨_, rfl, .inl ⟨rfl, _, .inl (.inl hoA)⟩, _, rfl, _, rfl, two, fun Tn hT => ?_⟩
              refine ⟨o, refs A, _, rfl, rfl, same_lay hT _ _ hoA, alen, ?_⟩
              exact app (by rw [hacc]; rfl) Tn hT
          | cons q0 t0 =>
            have eA1 : rws A = t0.reverse ++ [q0] := by rw [eA, hacc, List.reverse_cons]
            obtain ⟨B, A2, rfl, eB, eA2⟩ := List.map_eq_append_iff.mp eA1
            obtain ⟨⟨aq, q1⟩, A3, rfl, eq1, eA3⟩ := List.map_eq_cons_iff.mp eA2
            obtain rfl := List.map_eq_nil_iff.mp eA3
            obtain rfl : q1 = q0 := eq1
            have haq : H' aq = some (.tup [.int q1.1, .int q1.2]) := hA (aq, q1) (List.mem_append_right _ (List.mem_singleton.mpr rfl))
            rw [refs_snoc] at hoA
            have hSo : SqL K H' o (refs B ++ [.ref aq]) := .inl (.inl hoA)
            have hSq : SqT K H' aq [.int q1.1, .int q1.2] := .inl (.inl haq)
            have g0 : atI [V.int q1.1, .int q1.2] 0 = some (.int q1.1) := atI_nat (j := 0) rfl
            have g1 : atI [V.int q1.1, .int q1.2] 1 = some (.int q1.2) := atI_nat (j := 1) rfl
            have gl : atI (refs B ++ [V.ref aq]) (-1) = some (.ref aq) := atI_last _ _
            refine ite2 (fun _ => ?_) (fun k => ?_)
            · refine ⟨_, rfl, _, rfl, 1, rfl, o, _, -1, _, rfl, rfl, hSo, gl, aq, _, 1, _, rfl, rfl, hSq, g1, _, _, rfl, rfl, _, _, rfl, rfl, _, rfl, ite2 (fun c => ?_) (fun c => ?_)⟩
              · have hc : z.2.1 ≤ q1.2 + 1 := of_decide_eq_true c
                refine ⟨_, rfl, 1, rfl, o, _, -1, _, rfl, rfl, hSo, gl, aq, _, 0, _, rfl, rfl, hSq, g0, _, rfl, 1, rfl, o, _, -1, _, rfl, rfl, hSo, gl, aq, _, 1, _, rfl, rfl, hSq, g1, _, rfl, _, _, rfl, two, fun Tn hT => ?_⟩
                have s4 := same_lay (o := .tup [.int q1.1, .int (if z.2.2 > q1.2 then z.2.2 else q1.2)]) hT
                have noT : Tn ≠ o := by
                  intro e
                  rw [e] at hT
                  rw [hT] at hoA
                  cases hoA
                have ixe : ixN (refs B ++ [V.ref aq]).length (-1) = some (refs B).length := by
                  rw [List.length_append]
                  exact ixN_last _
                refine ⟨_, rfl, 1, rfl, o, _, -1, _, rfl, rfl, s4 _ _ hoA, ixe, ?_⟩
                refine ⟨_, _, B ++ [(Tn, (q1.1, if z.2.2 > q1.2 then z.2.2 else q1.2))], rfl, by rw [upd_same, set_last, refs_snoc], ?_, ?_, (fr.trans (fun b u e _ => s4 b u e)).trans Fre.put, ?_⟩
                · intro q hq
                  rcases List.mem_append.mp hq with k | k
                  · rw [upd_ne (nAo q (List.mem_append_left _ k))]; exact s4 _ _ (hA q (List.mem_append_left _ k))
                  · rw [List.mem_singleton.mp k, upd_ne noT, upd_same]
                · rw [rws_snoc, e1, hacc]
                  show rws B ++ [(q1.1, if z.2.2 > q1.2 then z.2.2 else q1.2)] = (if z.2.1 ≤ q1.2 + 1 then (q1.1, if z.2.2 > q1.2 then z.2.2 else q1.2) :: t0 else z.2 :: q1 :: t0).reverse
                  rw [if_pos hc, List.reverse_cons]
                  exact congrArg (· ++ [(q1.1, if z.2.2 > q1.2 then z.2.2 else q1.2)]) eB
                · rw [List.length_append] at hAl ⊢
                  exact Nat.le_succ_of_le hAl
              · have hc : ¬ z.2.1 ≤ q1.2 + 1 := fun w => c (decide_eq_true w)
                refine ⟨_, rfl, .inl ⟨rfl, _, .inl (.inl hoA)⟩, _, rfl, _, rfl, two, fun Tn hT => ?_⟩
                refine ⟨o, _, _, rfl, rfl, same_lay hT _ _ hoA, by rw [← refs_snoc]; exact alen, ?_⟩
                rw [← refs_snoc]
                refine app ?_ Tn hT
                rw [hacc]
                show (if z.2.1 ≤ q1.2 + 1 then (q1.1, if z.2.2 > q1.2 then z.2.2 else q1.2) :: t0 else z.2 :: q1 :: t0) = z.2 :: q1 :: t0
                rw [if_neg hc]
            · exfalso
              apply k
              rw [refs_snoc]
              simp
        · rintro σ H' ⟨f, l, A, rfl, hoA, hA, eA, fr, hAl⟩
          rw [refs_len, List.take_of_length_le (by rw [rws_len]; exact Nat.le_refl _)] at eA
          have eN : rws A = (jfold (rws S)).reverse := eA
          refine ⟨_, rfl, o, refs A, rfl, .inl ⟨.inl (.inl hoA), fun t ht => ?_⟩⟩
          have s5 := same_lay (o := .tup (refs A)) ht
          have s6 : Same H H' := fun b u e => fr b u (s3 b u (s2 b u (S1 b u e))) (ne_of_none e no)
          refine q t A _ (s6.trans s5) (s6.free ht) upd_same (hA.same s5) (by rw [eN]; exact hnf) (fun x => ?_) ?_
          · rw [eN, hme x, ← eM]
            exact mem_same hSm x
          · rw [refs_len] at hAl
            omega
end
end OR

namespace OR
open PySem PySem.Spec PyProof.Rows L2
/-! ### counts before, and __init__ -/
def tot (l : List Row) : Int := l.foldl (fun t r => t + r.2 - r.1 + 1) 0
def befs (l : List Row) : List Int := (List.range l.length).map fun j => tot (l.take j)
theorem tot_snoc (l : List Row) (r : Row) : tot (l ++ [r]) = tot l + r.2 - r.1 + 1 := by
  unfold tot
  rw [List.foldl_append]
  rfl
def spCounts (K : PySem.W.Frag) : Sp := fun vs H Q _ => ∃ (t : Addr) (M : List ARow), vs = [.ref t] ∧ H t = some (.tup (refs M)) ∧ AtR H M ∧ M.length ≤ 1000 ∧
  ∀ (b : Addr) (H' : Hp), Same H H' → H b = none → H' b = some (.tup ((befs (rws M)).map V.int)) → Q (.ref b) H'
/-- an instance of Places with these rows -/
theorem kFS : ¬ (("_firsts" : Str) = "stretches") := by decide +kernel
theorem kBS : ¬ (("_before" : Str) = "stretches") := by decide +kernel
theorem kBF : ¬ (("_before" : Str) = "_firsts") := by decide +kernel
def pFl (t f b : Addr) : List (Str × V) := putF "_before" (.ref b) (putF "_firsts" (.ref f) (putF "stretches" (.ref t) []))
theorem pFl_s (t f b : Addr) : (pFl t f b).lookup ("stretches" : Str) = some (.ref t) := by
  unfold pFl
  rw [lookup_putF, if_neg (fun e => kBS e.symm), lookup_putF, if_neg (fun e => kFS e.symm), lookup_putF, if_pos rfl]
theorem pFl_f (t f b : Addr) : (pFl t f b).lookup ("_firsts" : Str) = some (.ref f) := by
  unfold pFl
  rw [lookup_putF, if_neg (fun e => kBF e.symm), lookup_putF, if_pos rfl]
theorem pFl_b (t f b : Addr) : (pFl t f b).lookup ("_before" : Str) = some (.ref b) := by
  unfold pFl
  rw [lookup_putF, if_pos rfl]
theorem pFl_no (t f b : Addr) {m : Str} (h1 : ¬ m = "_before") (h2 : ¬ m = "_firsts") (h3 : ¬ m = "stretches") : (pFl t f b).lookup m = none := by
  unfold pFl
  rw [lookup_putF, if_neg h1, lookup_putF, if_neg h2, lookup_putF, if_neg h3]
  rfl
structure IsP (C : Addr) (H : Hp) (x : Addr) (l : List Row) : Prop where
  nf : Nf l
  ex : ∃ (dx t f b : Addr) (M : List ARow), H x = some (.ins C dx (pFl t f b)) ∧ H t = some (.tup (refs M)) ∧ AtR H M ∧ rws M = l ∧ H f = some (.tup (l.map fun r => V.int r.1)) ∧ H b = some (.tup ((befs l).map V.int)) ∧ M.length ≤ 1000
theorem IsP.same {C : Addr} {H H' : Hp} {x : Addr} {l : List Row} (h : IsP C H x l) (s : Same H H') : IsP C H' x l := by
  obtain ⟨nf, dx, t, f, b, M, h1, h2, h3, h4, h5, h6, h7⟩ := h
  exact ⟨nf, dx, t, f, b, M, s _ _ h1, s _ _ h2, h3.same s, h4, s _ _ h5, s _ _ h6, h7⟩
/-- enumerate, turn by turn -/
theorem for_enum {K : PySem.W.Frag} {a : Addr} {xs : List V} {g : TG} {tb : TS} {D : Ends} {σ : L2.St} {H : Hp} (Pv : Nat → L2.St → Hp → Prop) (h0 : Pv 0 σ H) (hl : ∀ i σ H, i ≤ xs.length → Pv i σ H → SqL K H a xs)
    (hs : ∀ i x σ H T, xs[i]? = some x → Pv i σ H → H T = none → g (.ref T) σ (upd H T (.tup [.int (i : Nat), x])) fun σ2 H2 => tb { D with nx := Pv (i + 1), ct := Pv (i + 1), bk := D.nx } σ2 H2) (hd : ∀ σ H, Pv xs.length σ H → D.nx σ H) :
    ∃ W : Nat → Nat → L2.St → Hp → Prop, (∃ m, W 0 m σ H) ∧ ∀ i m σ H, W i m σ H →
      ((Ite K a).stop i H ∧ D.nx σ H) ∨ ((Ite K a).go i H ∧ ∃ N : L2.St → Hp → Prop, (∀ σ' H', N σ' H' → ∃ m', m' < m ∧ W (i + 1) m' σ' H') ∧ ∀ x H', (Ite K a).yld i H x H' → g x σ H' fun σ2 H2 => tb { D with nx := N, ct := N, bk := D.nx } σ2 H2) := by
  refine ⟨fun i m σ H => m = xs.length - i ∧ i ≤ xs.length ∧ Pv i σ H, ⟨xs.length, by simp, Nat.zero_le _, h0⟩, ?_⟩
  rintro i m σ H ⟨rfl, hi, p⟩
  have q := hl i σ H hi p
  by_cases hlt : i < xs.length
  · refine .inr ⟨⟨xs, xs[i], q, by simp [hlt]⟩, Pv (i + 1), fun σ' H' p' => ⟨xs.length - (i + 1), by omega, rfl, hlt, p'⟩, fun v H' y => ?_⟩
    obtain ⟨T, x, rfl, hT, rfl, hx⟩ := y
    exact hs i x σ H T (hx xs q) p hT
  · obtain rfl : i = xs.length := by omega
    exact .inl ⟨⟨xs, q, Nat.le_refl _⟩, hd σ H p⟩
theorem for_enumT {K : PySem.W.Frag} {a : Addr} {xs : List V} {g : TG} {tb : TS} {D : Ends} {σ : L2.St} {H : Hp} (Pv : Nat → L2.St → Hp → Prop) (h0 : Pv 0 σ H) (hl : ∀ i σ H, i ≤ xs.length → Pv i σ H → SqT K H a xs)
    (hs : ∀ i x σ H T, xs[i]? = some x → Pv i σ H → H T = none → g (.ref T) σ (upd H T (.tup [.int (i : Nat), x])) fun σ2 H2 => tb { D with nx := Pv (i + 1), ct := Pv (i + 1), bk := D.nx } σ2 H2) (hd : ∀ σ H, Pv xs.length σ H → D.nx σ H) :
    ∃ W : Nat → Nat → L2.St → Hp → Prop, (∃ m, W 0 m σ H) ∧ ∀ i m σ H, W i m σ H →
      ((IteT K a).stop i H ∧ D.nx σ H) ∨ ((IteT K a).go i H ∧ ∃ N : L2.St → Hp → Prop, (∀ σ' H', N σ' H' → ∃ m', m' < m ∧ W (i + 1) m' σ' H') ∧ ∀ x H', (IteT K a).yld i H x H' → g x σ H' fun σ2 H2 => tb { D with nx := N, ct := N, bk := D.nx } σ2 H2) := by
  refine ⟨fun i m σ H => m = xs.length - i ∧ i ≤ xs.length ∧ Pv i σ H, ⟨xs.length, by simp, Nat.zero_le _, h0⟩, ?_⟩
  rintro i m σ H ⟨rfl, hi, p⟩
  have q := hl i σ H hi p
  by_cases hlt : i < xs.length
  · refine .inr ⟨⟨xs, xs[i], q, by simp [hlt]⟩, Pv (i + 1), fun σ' H' p' => ⟨xs.length - (i + 1), by omega, rfl, hlt, p'⟩, fun v H' y => ?_⟩
    obtain ⟨T, x, rfl, hT, rfl, hx⟩ := y
    exact hs i x σ H T (hx xs q) p hT
  · obtain rfl : i = xs.length := by omega
    exact .inl ⟨⟨xs, q, Nat.le_refl _⟩, hd σ H p⟩
def spPlInit (K : PySem.W.Frag) (C : Addr) : Sp := fun vs H Q _ => ∃ (x dx a : Addr) (L : List ARow), vs = [.ref x, .ref a] ∧ H x = some (.ins C dx []) ∧ (SqL K H a (refs L) ∨ SqT K H a (refs L)) ∧ L.length ≤ 1000 ∧ PairsAt H L ∧ (∀ r ∈ rws L, okRow r = true) ∧
  ∀ (l : List Row) (H' : Hp), (∀ c o, H c = some o → c ≠ x → H' c = some o) → IsP C H' x l → (∀ z, mem l z ↔ mem (rws L) z) → l.length ≤ L.length → Q .non H'
theorem okRow_le {r : Row} (h : okRow r = true) : r.1 ≤ r.2 := by
  unfold okRow at h
  simp only [Bool.and_eq_true, decide_eq_true_eq] at h
  exact h.2.2
section
variable {P : Program} {w : World} {K : PySem.W.Frag} {mg : Str → Option Value} {base : Heap}
theorem scC : FnScope ["stretches", "counts", "total", "first", "last"] ["stretches"] (defScope sCounts) := ⟨rfl, rfl, rfl, by decide +kernel, rfl, by decide +kernel, by decide +kernel⟩
theorem ok_counts {f C : Addr} {fd : FuncData} (F : Fun K "_counts_before" "_counts_before" sCounts f fd) (T : PTxt K mg C) : FnOk P w K mg base CX0 1 f fd ["stretches"] (spCounts K) := by
  refine F.ok scC (fun vs H Q E h => ?_) (fun cdv A outer s H vs Q E hr h => ?_)
  · obtain ⟨t, M, rfl, _⟩ := h
    rfl
  · obtain ⟨t, M, rfl, ht, hM, hlen, q⟩ := h
    have nd := scC.nd
    refine ⟨_, pss_cons (ps_set (i := 1) nd rfl (.inl rfl) (pe_lst pa_nil))
      (pss_cons (ps_set (i := 2) nd rfl (.inl rfl) pe_int)
      (pss_cons (ps_for PassesOwn.never rfl (pi_tup (pv 0)) (pg_tup rfl (pgs_cons (pg_name (i := 3) nd rfl (.inl rfl)) (pgs_cons (pg_name (i := 4) nd rfl (.inl rfl)) pgs_nil)))
        (pss_cons (ps_expr (pe_bm PySem.F.plainAttrs_list PySem.F.slot_list_append PySem.F.type_list_append mt_append (pv 1) (pa_cons (pv 2) pa_nil)))
        (pss_one (ps_set (i := 2) nd rfl (.inl rfl) (pe_op op_add (pe_op op_sub (pe_op op_add (pv 2) (pv 4)) (pv 3)) pe_int)))))
      (pss_one (ps_ret (pe_callTy call_tuple_of (by rfl) T.zTup bt_tup (pa_cons (pv 1) pa_nil)))))), ?_⟩
    refine ⟨Nat.zero_le _, fun o no => ?_⟩
    have s1 := same_lay (o := .lst []) no
    refine ⟨_, rfl, t, rfl, ⟨_, .inl (.inl (s1 _ _ ht))⟩, for_tup (K := K) (a := t) (xs := refs M) (fun i σ H' => ∃ f l, σ = [some (.ref t), some (.ref o), some (.int (tot ((rws M).take i))), f, l] ∧ H' o = some (.lst (((List.range i).map fun j => tot ((rws M).take j)).map V.int)) ∧ Fre o (upd H o (.lst [])) H')
      ⟨none, none, rfl, upd_same, Fre.refl _ _⟩ (fun i σ H' _ ⟨_, _, _, _, fr⟩ => .inl (.inl (fr _ _ (s1 _ _ ht) (ne_of_none ht no)))) ?_ ?_⟩
    · rintro i y σ H' hy ⟨f, l, rfl, ho, fr⟩
      obtain ⟨z, hz, hzM, rfl⟩ := refs_get hy
      have hil : i < M.length := (List.getElem?_eq_some_iff.mp hz).1
      have ez : H' z.1 = some (.tup [.int z.2.1, .int z.2.2]) := fr _ _ (s1 _ _ (hM z hzM)) (ne_of_none (hM z hzM) no)
      refine ⟨z.1, _, rfl, .inl (.inl ez), rfl, _, _, rfl, _, _, rfl, rfl, ?_⟩
      refine ⟨_, rfl, .inl ⟨rfl, _, .inl (.inl ho)⟩, _, rfl, o, _, _, rfl, rfl, ho, small1000 (by rw [List.length_map, List.length_map, List.length_range]; omega), ?_⟩
      refine ⟨_, rfl, _, rfl, _, _, rfl, rfl, _, rfl, _, _, rfl, rfl, _, _, rfl, rfl, ?_⟩
      have e1 : (rws M).take (i + 1) = (rws M).take i ++ [z.2] := by rw [List.take_add_one, rws_get hz]; rfl
      refine ⟨some (.int z.2.1), some (.int z.2.2), ?_, ?_, fr.trans Fre.put⟩
      · rw [e1, tot_snoc]
        rfl
      · rw [upd_same, List.range_succ, List.map_append, List.map_append]
        rfl
    · rintro σ H' ⟨f, l, rfl, ho, fr⟩
      refine ⟨_, rfl, o, _, rfl, .inl ⟨.inl (.inl ho), fun b hb => ?_⟩⟩
      have s2 := same_lay (o := .tup (((List.range (refs M).length).map fun j => tot ((rws M).take j)).map V.int)) hb
      have s3 : Same H H' := fun c u e => fr c u (s1 c u e) (ne_of_none e no)
      refine q b _ (s3.trans s2) (s3.free hb) ?_
      rw [upd_same]
      unfold befs
      rw [rws_len, refs_len]
theorem scPI : FnScope ["self", "stretches", "index", "stretch", "first", "_"] ["self", "stretches"] (defScope sPlInit) := ⟨rfl, rfl, rfl, by decide +kernel, rfl, by decide +kernel, by decide +kernel⟩
theorem ok_plinit {f C : Addr} {fd : FuncData} {dvs : List V} (F : FunD K "__init__" "Places.__init__" (defArgs sPlInit) (defBody sPlInit) (defScope sPlInit) dvs [] f fd) (T : PTxt K mg C) (S : Cl P w K mg base 3 "_is_stretch" ["value"] spIsStretchP)
    (J : Cl P w K mg base 1 "_joined" ["stretches"] (spJoined K)) (B : Cl P w K mg base 1 "_counts_before" ["stretches"] (spCounts K)) : FnOk P w K mg base CX0 4 f fd ["self", "stretches"] (spPlInit K C) := by
  refine F.ok scPI (fun vs H Q E h => ?_) (fun cdv A outer s H vs Q E hr h => ?_)
  · obtain ⟨x, dx, a, L, rfl, _⟩ := h
    rfl
  · obtain ⟨x, dx, a, L, rfl, hx, hS, hlen, hP, hok, q⟩ := h
    have nd := scPI.nd
    have hb := PSs.nox (X := cxOf CX0 P w K mg base ["self", "stretches", "index", "stretch", "first", "_"] "Places.__init__" (defScope sPlInit) f cdv A outer s H E) (st := defBody sPlInit) (pss_cons (ps_for PassesOwn.never rfl (pi_or (pi_enum (by rfl) T.zEnum (pa_cons (pv 1) pa_nil)) (pi_enumT (by rfl) T.zEnum (pa_cons (pv 1) pa_nil)))
          (pg_tup rfl (pgs_cons (pg_name (i := 2) nd rfl (.inl rfl)) (pgs_cons (pg_name (i := 3) nd rfl (.inl rfl)) pgs_nil)))
        (pss_one (ps_if (pt_not (pt_val (pe_cl S hr (by decide) (by rfl) (pa_cons (pv 3) pa_nil)))) (pss_one ps_never) pss_nil)))
      (pss_cons (ps_fld (pv 0) (pe_cl J hr (by decide) (by rfl) (pa_cons (pv 1) pa_nil)) rfl)
      (pss_cons (ps_fld (pv 0) (pe_callTy call_tuple_of (by rfl) T.zTup bt_tup (pa_cons
          (pe_lc (own := [("first", 4), ("_", 5)]) (g := gTup K 2 (gCons (gName 4) (gCons (gName 5) gNil))) (tt := tYes) rfl nd (pi_tup (pe_fld (pv 0) rfl)) (blkOk_by (N := ["self", "stretches", "index", "stretch", "first", "_"]) (sc := defScope sPlInit) (by decide +kernel))
            (fun _ _ _ _ _ => pg_tup rfl (pgs_cons (pg_name (i := 4) nd rfl (.inl rfl)) (pgs_cons (pg_name (i := 5) nd rfl (.inl rfl)) pgs_nil))) (fun _ _ _ _ _ => pts_nil) (fun _ _ _ _ _ => pv 4)) pa_nil)) rfl)
      (pss_one (ps_fld (pv 0) (pe_cl B hr (by decide) (by rfl) (pa_cons (pe_fld (pv 0) rfl) pa_nil)) rfl)))))
    refine ⟨_, hb, ?_⟩
    clear hb
    -- what follows the loop
    have after : ∀ (σ : L2.St) (H1 : Hp) (i1 s1 : Option V), σ = [some (.ref x), some (.ref a), i1, s1, none, none] → Same H H1 → (tSeq (sFld K (tVar 0) (tCall (spJoined K) [] E0 (tCons (tVar 1) tNil)) "stretches")
        (tSeq (sFld K (tVar 0) (tCB (fun xs H Q => ∃ p ys, xs = [V.ref p] ∧ ((SqL K H p ys ∧ ∀ l, H l = none → Q (.ref l) (upd H l (.tup ys))) ∨ (SqT K H p ys ∧ Q (.ref p) H))) (tCons (tLc (iTup K (tFld K (tVar 0) "stretches")) (gTup K 2 (gCons (gName 4) (gCons (gName 5) gNil))) tYes (tVar 4) [4, 5]) tNil)) "_firsts")
        (sFld K (tVar 0) (tCall (spCounts K) [] E0 (tCons (tFld K (tVar 0) "stretches") tNil)) "_before"))) { nx := fun _ H' => Q .non H', rt := Q } σ H1 := by
      rintro σ H1 i1 s1 rfl S1
      have hS1 : SqL K H1 a (refs L) ∨ SqT K H1 a (refs L) := hS.elim (fun e => .inl (S1.seq e)) fun e => .inr (sameT S1 e)
      refine ⟨_, rfl, a, L, rfl, hS1, hlen, hP.same S1, fun r hr => okRow_le (hok r hr), fun t M H2 S2 nt ht hM hnf hme hlM => ?_⟩
      have hx2 := S2 _ _ (S1 _ _ hx)
      refine ⟨_, rfl, x, C, dx, [], rfl, hx2, T.cl, T.nS, (by show 0 < 1000; decide), ?_⟩
      have ntx : t ≠ x := ne_of ht hx2 (by intro z; cases z)
      have nMx : ∀ p ∈ M, p.1 ≠ x := fun p hp => ne_of (hM p hp) hx2 (by intro z; cases z)
      -- firsts
      generalize hH3 : upd H2 x (.ins C dx (putF "stretches" (.ref t) [])) = H3
      have hx3 : H3 x = some (.ins C dx (putF "stretches" (.ref t) [])) := by rw [← hH3, upd_same]
      have ht3 : H3 t = some (.tup (refs M)) := by rw [← hH3, upd_ne ntx]; exact ht
      have hM3 : AtR H3 M := fun p hp => by rw [← hH3, upd_ne (nMx p hp)]; exact hM p hp
      have f3 : ∀ c o, H c = some o → c ≠ x → H3 c = some o := fun c o e n => by rw [← hH3, upd_ne n]; exact S2 _ _ (S1 _ _ e)
      have lk : (putF "stretches" (V.ref t) []).lookup ("stretches" : Str) = some (V.ref t) := by rw [lookup_putF, if_pos rfl]
      refine ⟨_, rfl, x, C, dx, _, _, rfl, hx3, T.cl, T.nS, lk, t, rfl, ⟨_, .inl (.inl ht3)⟩, fun D hD => lc_tup (K := K) (a := t) (xs := refs M) (fun i H4 => H4 D = some (.lst ((rws M).take i |>.map fun r => V.int r.1)) ∧ Same H3 H4)
        ⟨upd_same, same_lay hD⟩ (fun i H4 _ ⟨_, s⟩ => .inl (.inl (s _ _ ht3))) ?_ ?_⟩
      · rintro i y H4 hy ⟨hD4, s4⟩
        obtain ⟨z, hz, hzM, rfl⟩ := refs_get hy
        have hil : i < M.length := (List.getElem?_eq_some_iff.mp hz).1
        have ez := s4 _ _ (hM3 z hzM)
        refine ⟨z.1, _, rfl, .inl (.inl ez), rfl, _, _, rfl, _, _, rfl, rfl, rfl, yesT ?_⟩
        refine ⟨_, rfl, _, hD4, small1000 (by rw [List.length_map, List.length_take]; omega), ?_, same_upd s4 hD⟩
        have e1 : (rws M).take (i + 1) = (rws M).take i ++ [z.2] := by rw [List.take_add_one, rws_get hz]; rfl
        rw [upd_same, e1, List.map_append]
        rfl
      · rintro H4 ⟨hD4, s4⟩
        rw [refs_len, List.take_of_length_le (by rw [rws_len]; exact Nat.le_refl _)] at hD4
        refine ⟨D, _, rfl, .inl ⟨.inl (.inl hD4), fun f nf => ?_⟩⟩
        have s5 := same_lay (o := .tup ((rws M).map fun r => V.int r.1)) nf
        have s35 := s4.trans s5
        have hx5 := s35 _ _ hx3
        refine ⟨_, rfl, x, C, dx, _, rfl, hx5, T.cl, T.nF, (by show 1 < 1000; decide), ?_⟩
        have nfx : f ≠ x := by
          intro e
          rw [e] at nf
          rw [s4 _ _ hx3] at nf
          cases nf
        generalize hH6 : upd (upd H4 f (.tup ((rws M).map fun r => V.int r.1))) x (.ins C dx (putF "_firsts" (.ref f) (putF "stretches" (.ref t) []))) = H6
        have hx6 : H6 x = some (.ins C dx (putF "_firsts" (.ref f) (putF "stretches" (.ref t) []))) := by rw [← hH6, upd_same]
        have ht6 : H6 t = some (.tup (refs M)) := by rw [← hH6, upd_ne ntx]; exact s35 _ _ ht3
        have hM6 : AtR H6 M := fun p hp => by rw [← hH6, upd_ne (nMx p hp)]; exact s35 _ _ (hM3 p hp)
        have hf6 : H6 f = some (.tup ((rws M).map fun r => V.int r.1)) := by rw [← hH6, upd_ne nfx, upd_same]
        have f6 : ∀ c o, H c = some o → c ≠ x → H6 c = some o := fun c o e n => by rw [← hH6, upd_ne n]; exact s35 _ _ (f3 c o e n)
        have lk6 : (putF "_firsts" (V.ref f) (putF "stretches" (V.ref t) [])).lookup ("stretches" : Str) = some (V.ref t) := by
          rw [lookup_putF, if_neg (fun e => kFS e.symm), lookup_putF, if_pos rfl]
        refine ⟨_, rfl, x, C, dx, _, _, rfl, hx6, T.cl, T.nS, lk6, t, M, rfl, ht6, hM6, Nat.le_trans hlM hlen, fun b H7 s7 nb hb => ?_⟩
        have hx7 := s7 _ _ hx6
        refine ⟨_, rfl, x, C, dx, _, rfl, hx7, T.cl, T.nB, (by show 2 < 1000; decide), ?_⟩
        have nbx : b ≠ x := ne_of hb hx7 (by intro z; cases z)
        refine q (rws M) _ (fun c o e n => by rw [upd_ne n]; exact s7 _ _ (f6 c o e n)) ⟨hnf, dx, t, f, b, M, upd_same, ?_, fun p hp => ?_, rfl, ?_, ?_, Nat.le_trans hlM hlen⟩ hme (by rw [rws_len]; exact hlM)
        · rw [upd_ne ntx]; exact s7 _ _ ht6
        · rw [upd_ne (nMx p hp)]; exact s7 _ _ (hM6 p hp)
        · rw [upd_ne nfx]; exact s7 _ _ hf6
        · rw [upd_ne nbx]; exact hb
    rcases hS with hS' | hS'
    · refine .inl ⟨_, rfl, a, refs L, rfl, hS', for_enum (K := K) (a := a) (xs := refs L) (fun i σ H' => ∃ i1 s1, σ = [some (.ref x), some (.ref a), i1, s1, none, none] ∧ Same H H')
        ⟨none, none, rfl, Same.refl _⟩ (fun i σ H' _ ⟨_, _, _, s⟩ => s.seq hS') ?_ ?_⟩
      · rintro i y σ H' Tn hy ⟨i1, s1, rfl, S1⟩ hT
        obtain ⟨z, hz, hzL, rfl⟩ := refs_get hy
        have s2 := same_lay (o := .tup [.int (i : Nat), .ref z.1]) hT
        have pz := (hP.same (S1.trans s2)) z hzL
        have okz : okRow z.2 = true := hok z.2 (mem_rws.mpr ⟨z.1, hzL⟩)
        refine ⟨Tn, _, rfl, .inl (.inl upd_same), rfl, _, _, rfl, _, _, rfl, rfl, ?_⟩
        refine ⟨_, rfl, z.1, z.2, rfl, pz, fun H'' S3 => ⟨_, rfl, ?_⟩⟩
        rw [okz]
        exact iteF ⟨_, _, rfl, (S1.trans s2).trans S3⟩
      · rintro σ H' ⟨i1, s1, rfl, S1⟩
        exact after _ _ i1 s1 rfl S1
    · refine .inr ⟨_, rfl, a, refs L, rfl, hS', for_enumT (K := K) (a := a) (xs := refs L) (fun i σ H' => ∃ i1 s1, σ = [some (.ref x), some (.ref a), i1, s1, none, none] ∧ Same H H')
        ⟨none, none, rfl, Same.refl _⟩ (fun i σ H' _ ⟨_, _, _, s⟩ => sameT s hS') ?_ ?_⟩
      · rintro i y σ H' Tn hy ⟨i1, s1, rfl, S1⟩ hT
        obtain ⟨z, hz, hzL, rfl⟩ := refs_get hy
        have s2 := same_lay (o := .tup [.int (i : Nat), .ref z.1]) hT
        have pz := (hP.same (S1.trans s2)) z hzL
        have okz : okRow z.2 = true := hok z.2 (mem_rws.mpr ⟨z.1, hzL⟩)
        refine ⟨Tn, _, rfl, .inl (.inl upd_same), rfl, _, _, rfl, _, _, rfl, rfl, ?_⟩
        refine ⟨_, rfl, z.1, z.2, rfl, pz, fun H'' S3 => ⟨_, rfl, ?_⟩⟩
        rw [okz]
        exact iteF ⟨_, _, rfl, (S1.trans s2).trans S3⟩
      · rintro σ H' ⟨i1, s1, rfl, S1⟩
        exact after _ _ i1 s1 rfl S1
end
end OR

namespace OR
open PySem PySem.Spec PyProof.Rows L2
/-! ### deep data made of rows -/
def rowD (r : Row) : PyData := .tuple [.int r.1, .int r.2]
theorem dp_row {K : PySem.W.Frag} {H : Hp} {a : Addr} {r : Row} (h : H a = some (.tup [.int r.1, .int r.2])) : Dp K H (.ref a) (rowD r) := .tup (.inl (.inl h)) (.cons (.int _) (.cons (.int _) .nil))
theorem dp_rows {K : PySem.W.Frag} {H : Hp} : ∀ {L : List ARow}, AtR H L → DpAll K H (refs L) ((rws L).map rowD)
  | [], _ => .nil
  | p :: L, h => .cons (dp_row (h p List.mem_cons_self)) (dp_rows fun q hq => h q (List.mem_cons_of_mem _ hq))
theorem lay_rows : ∀ l : List Row, PyData.canLayAll0 (l.map rowD) = true
  | [] => rfl
  | r :: l => by
    show (PyData.canLay0 (rowD r) && PyData.canLayAll0 (l.map rowD)) = true
    rw [lay_rows l]
    rfl
theorem dep_rows : ∀ l : List Row, PyData.depthAll (l.map rowD) ≤ 1
  | [] => Nat.zero_le _
  | r :: l => by
    show max (PyData.depth (rowD r)) (PyData.depthAll (l.map rowD)) ≤ 1
    have := dep_rows l
    have e : PyData.depth (rowD r) = 1 := rfl
    omega
theorem shp_tup (l : List Row) : SeqAt.shaped (.tuple (l.map rowD)) = true := by
  unfold SeqAt.shaped
  rw [show PyData.canLay0 (.tuple (l.map rowD)) = true from lay_rows l, Bool.true_and]
  refine decide_eq_true ?_
  show PyData.depthAll (l.map rowD) + 1 ≤ 64
  have := dep_rows l
  omega
theorem shp_lst (l : List Row) : SeqAt.shaped (.list (l.map rowD)) = true := by
  unfold SeqAt.shaped
  rw [show PyData.canLay0 (.list (l.map rowD)) = true from lay_rows l, Bool.true_and]
  refine decide_eq_true ?_
  show PyData.depthAll (l.map rowD) + 1 ≤ 64
  have := dep_rows l
  omega
theorem eqv_row (r s : Row) : PyData.eqv (rowD r) (rowD s) = decide (r = s) := by
  show ((r.1 == s.1) && ((r.2 == s.2) && true)) = decide (r = s)
  rw [Bool.and_true]
  by_cases h : r = s
  · subst h
    simp
  · rw [decide_eq_false h]
    by_cases h1 : r.1 = s.1
    · have h2 : r.2 ≠ s.2 := fun e => h (Prod.ext h1 e)
      simp [h2]
    · simp [h1]
theorem eqv_rows : ∀ l m : List Row, PyData.eqvAll (l.map rowD) (m.map rowD) = decide (l = m)
  | [], [] => by simp [PyData.eqvAll]
  | [], _ :: _ => by simp [PyData.eqvAll]
  | _ :: _, [] => by simp [PyData.eqvAll]
  | r :: l, s :: m => by
    show (PyData.eqv (rowD r) (rowD s) && PyData.eqvAll (l.map rowD) (m.map rowD)) = decide (r :: l = s :: m)
    rw [eqv_row, eqv_rows l m]
    by_cases h1 : r = s
    · by_cases h2 : l = m
      · simp [h1, h2]
      · simp [h1, h2]
    · simp [h1]
theorem AtR.frm {H H' : Hp} {L : List ARow} {p : Addr} {n : Nat} (h : AtR H L) (f : Frm p H H') (P : Pen H p n) : AtR H' L := fun q hq => by
  obtain ⟨c, ns, k, l, hp, _⟩ := P
  exact f _ _ (h q hq) (ne_of (h q hq) hp (by intro z; cases z))
theorem Frm.free {p q : Addr} {H H' : Hp} {n : Nat} (f : Frm p H H') (P : Pen H' p n) (h : H' q = none) : H q = none := by
  obtain ⟨c, ns, k, l, hp, _⟩ := P
  cases e : H q with
  | none => rfl
  | some o =>
    by_cases ep : q = p
    · rw [ep, hp] at h
      cases h
    · rw [f q o e ep] at h
      cases h
theorem frmS {p : Addr} {H H' : Hp} (s : Same H H') : Frm p H H' := ⟨fun b o e _ => s b o e, fun c ⟨k, l, e⟩ => ⟨k, l, s _ _ e⟩⟩
theorem Pen.same' {H H' : Hp} {p : Addr} {n : Nat} (P : Pen H p n) (s : Same H H') : Pen H' p n := by
  obtain ⟨c, ns, k, l, h1, h2, h⟩ := P
  exact ⟨c, ns, k, l, s _ _ h1, s _ _ h2, h⟩
/-! ### the law's drawing of rows -/
def spSpot : Sp := fun vs H Q _ => ∃ (p : Addr) (n : Nat), vs = [.ref p] ∧ Pen H p n ∧ n ≤ 900000 ∧ ∀ (r : Int) (H' : Hp), placeB r = true → Pen H' p (n + 2) → Frm p H H' → Q (.int r) H'
def spDrawn : Sp := fun vs H Q _ => ∃ (p : Addr) (m n : Nat), vs = [.ref p, .int m] ∧ m ≤ 20 ∧ Pen H p n ∧ n ≤ 700000 ∧
  ∀ (a : Addr) (L : List ARow) (H' : Hp), H a = none → H' a = some (.lst (refs L)) → AtR H' L → (∀ r ∈ rws L, okRow r = true) → L.length ≤ m → Pen H' p (n + 1000) → Frm p H H' → Q (.ref a) H'
theorem place_of {r : Int} (h0 : 0 ≤ r) (h1 : r ≤ lastP) : placeB r = true := by
  unfold placeB
  rw [decide_eq_true h0, decide_eq_true h1]
  rfl
theorem place_iff {r : Int} (h : placeB r = true) : 0 ≤ r ∧ r ≤ lastP := by
  unfold placeB at h
  simp only [Bool.and_eq_true, decide_eq_true_eq] at h
  exact h
theorem okRow_of {a b : Int} (h0 : 0 ≤ a) (h1 : a ≤ b) (h2 : b ≤ lastP) : okRow (a, b) = true := by
  unfold okRow
  rw [place_of (r := a) h0 (Int.le_trans h1 h2), place_of (r := b) (Int.le_trans h0 h1) h2, Bool.true_and, Bool.true_and]
  exact decide_eq_true h1
theorem okRow_iff {r : Row} (h : okRow r = true) : 0 ≤ r.1 ∧ r.1 ≤ r.2 ∧ r.2 ≤ lastP := by
  unfold okRow at h
  rw [Bool.and_eq_true, Bool.and_eq_true, decide_eq_true_eq] at h
  exact ⟨(place_iff h.1).1, h.2.2, (place_iff h.2.1).2⟩
structure Bd (mg : Str → Option Value) : Prop where
  range : mg "range" = none
  min : mg "min" = none
  max : mg "max" = none
  int : mg "int" = none
  len : mg "len" = none
  list : mg "list" = none
  set : mg "set" = none
  sorted : mg "sorted" = none
end OR

namespace OR
open PySem PySem.Spec PyProof.Rows L2
/-! ### own ==, !=, bool -/
section
variable {prog : Program} {w : World} {A : Around} {E : Value → Shared → Prop} {s : Shared} {K : PySem.W.Frag} {x C L f : Addr} {h₀ : Heap} {m : Str → Option Value} {ox : Obj} {od : Option Obj} {b tb : Value}
theorem ifBound_ne {M : Model} {args : List Value} {Q : Option Value → Shared → Prop} (X : K.In s.heap) (I : PySem.W.InstAt s.heap x ox C od) (hs : PySem.W.findIn K (.ref C) "__ne__" = some (some (.builtin "object.__ne__")))
    (h : wpAny M A (call (.builtin "object.__ne__") (.ref x :: args)) (fun v => Q (some v)) E s) : wpAny M A (callSpecialIfBound? (.ref x) "__ne__" args) Q E s := by
  simp only [callSpecialIfBound?, bindSpecialIfBound?]
  refine wpAny_holding (wpAny_bind (wpAny_bind (wpAny_bind (I.type.here ((PySem.W.looks_findIn X hs).here ?_)))))
  simp only [PySem.F.cmp_object.ne.bind]
  refine wpAny_bind (wpAny_askSetting (wpAny_ite ?_))
  have fin : wpAny M A (call (.builtin "object.__ne__") ([.ref x] ++ args) >>= fun v => pure (some v)) Q E s := wpAny_bind (wpAny_mono h (fun v s' h' => wpAny_pure h') fun _ _ h' => h')
  split
  · exact wpAny_bind (wpAny_pure (wpAny_pure fin))
  · exact wpAny_tryCatch (wpAny_bind (wpAny_pure (wpAny_pure fin)))
theorem check_ne {M : Model} {Q : Unit → Shared → Prop} (X : K.In s.heap) (I : PySem.W.InstAt s.heap x ox C od) (hm : PySem.W.mroIn K C (.type "object") = some true) (hq : Q () s) :
    wpAny M A (PySem.checkBuiltinCall "object.__ne__" ⟨[.ref x, b], []⟩) Q E s := by
  have hsig : ∃ sig, Manifest.signature? "object.__ne__" = sig := ⟨_, rfl⟩
  obtain ⟨sig, hsig⟩ := hsig
  have ha := PySem.F.cmpArgs_ne (.ref x) b
  unfold argsOk at ha
  simp only [PySem.checkBuiltinCall, PySem.F.cmpKind_ne, PySem.F.cmpSplit_ne]
  refine wpAny_bind (m := PySem.isInstance _ _) ?_
  unfold PySem.isInstance
  refine wpAny_bind (I.type.here ((PySem.W.looks_mroIn X hm).here ?_))
  rw [hsig] at ha ⊢
  cases sig with
  | none => exact wpAny_pure hq
  | some sg =>
    have h2 : Bind.checkArgs "object.__ne__" sg ⟨[.ref x, b], []⟩ = pure () := ha
    show wpAny M A (Bind.checkArgs "object.__ne__" sg ⟨[.ref x, b], []⟩) Q E _
    rw [h2]; exact wpAny_pure hq
/-- x != b by the own == of x -/
theorem ne_K {Q : Value → Shared → Prop} (hu : A.units + 1 < cLine) (F : PyProof.Rows.Fr h₀ L s.heap m) (X₀ : K.In h₀) (I : PySem.W.InstAt s.heap x ox C od) (hb : PySem.W.Looks (model prog w) s.heap (typeOf b) tb) (hn : PySem.W.notFirst K C tb = true)
    (h1 : PySem.W.findIn K (.ref C) "__ne__" = some (some (.builtin "object.__ne__"))) (hm : PySem.W.mroIn K C (.type "object") = some true) (hs : PySem.W.findIn K (.ref C) "__eq__" = some (some (.ref f))) (hf : PySem.W.isFn K (.ref f) = true)
    (h : wpAny (model prog w) A.in1 (call (.ref f) [.ref x, b]) (fun v s' => ∃ k, v = .bool k ∧ Q (.bool (!k)) s') E s) : wpAny (model prog w) A (richCompare .NotEq (.ref x) b) Q E s := by
  have X := X₀.keeps F.keep
  have entry : wpAny (model prog w) A.in1 (Builtin.«object.__ne__» ⟨[.ref x, b], []⟩) (fun r s' => ∃ k, r = .done (.ret (.bool (!k))) ∧ Q (.bool (!k)) s') E s := by
    unfold Builtin.«object.__ne__»
    refine wpAny_bind (m := PySem.slotArgs "__ne__" 1 _) (wpAny_pure ?_)
    refine wpAny_bind (wpAny_cRoomFor hu ?_)
    refine wpAny_bind (m := callSpecialIfBound? (.ref x) (Str.ofString "__eq__") [b]) (PySem.W.ifBound_K X I hs hf (wpAny_mono h (fun r s' hr => ?_) fun _ _ e => e))
    obtain ⟨k, rfl, hq⟩ := hr
    refine wpAny_bind (m := truthy (.bool k)) (wpAny_truthy_bool ?_)
    exact wpAny_pure ⟨k, rfl, hq⟩
  have one : wpAny (model prog w) A (tryCompare (.ref x) "__ne__" b) (fun r s' => ∃ v, r = some v ∧ Q v s') E s := by
    unfold tryCompare
    refine wpAny_bind (ifBound_ne X I h1 (wpAny_call (codeAny_call_builtin PySem.F.cmp_object.ne.plain PySem.F.cmpEntry_ne (check_ne X I hm (wpAny_mono entry (fun r s' z => ?_) fun _ _ e => e)))))
    obtain ⟨k, rfl, hq⟩ := z
    exact wpAny_pure ⟨_, rfl, hq⟩
  unfold richCompare
  simp only [oneThing_ref]
  refine wpAny_holding (wpAny_bind (wpAny_cRoomFor (by omega) ?_))
  refine wpAny_bind (I.type.here (wpAny_bind (hb.here ?_)))
  split
  · rename_i q
    have e : PySem.W.subIn K tb (.ref C) = some false := by
      rcases Bool.or_eq_true_iff.mp hn with e | e
      · rw [beq_iff_eq.mp e] at q; simp at q
      · exact beq_iff_eq.mp e
    refine wpAny_bind ((PySem.W.looks_subIn X e).here ?_)
    simp only [Bool.false_eq_true, if_false]
    refine wpAny_bind (wpAny_mono one (fun r s' z => ?_) fun _ _ e => e)
    obtain ⟨v, rfl, hq⟩ := z
    exact wpAny_pure hq
  · refine wpAny_bind (wpAny_pure ?_)
    simp only [Bool.false_eq_true, if_false]
    refine wpAny_bind (wpAny_mono one (fun r s' z => ?_) fun _ _ e => e)
    obtain ⟨v, rfl, hq⟩ := z
    exact wpAny_pure hq
theorem bool_truth {v : Value} {Q : Value → Shared → Prop} (h : wpAny (model prog w) A.in1.in1 (truthy v) (fun b s' => Q (.bool b) s') E s) : wpAny (model prog w) A (call (.type "bool") [v]) Q E s := by
  refine PySem.callType_codes (T := "bool") (Bi := Builtin.«object.__init__») (Q₁ := fun r s₁ => ∃ b, r = Value.bool b ∧ Q r s₁) PySem.F.called_bool (PySem.F.typeCall_bool_1 _) PySem.F.entry_object_init ?_ ?_
  · refine codeAny_of_tree ?_
    show wpAny _ A.in1.in1 (do checkBuiltinCall "bool.__new__" ⟨[.type "bool", v], []⟩; again (.builtin "bool.__new__" ⟨[.type "bool", v], []⟩)) _ _ s
    refine wpAny_bind (wpAny_of_eq (PySem.F.newCall_bool_1 _) (wpAny_pure ⟨plainId_quiet (by decide +kernel) _, codeAny_builtin PySem.F.entry_bool_new ?_⟩))
    rw [Around.under_plainId (by decide +kernel) _]
    unfold Builtin.«bool.__new__»
    refine wpAny_bind (wpAny_of_eq (a := true) (by first | rfl | kernel_rfl | (unfold isType; rw [isSubtype_type]; kernel_rfl)) ?_)
    refine PySem.W.KFB.if_not rfl ?_
    refine wpAny_bind (wpAny_of_eq (a := true) PySem.F.conv_sub_bool ?_)
    refine PySem.W.KFB.if_not rfl ?_
    refine wpAny_bind (wpAny_of_eq (a := [v]) rfl ?_)
    refine wpAny_bind (wpAny_mono h (fun b s' hq => ?_) fun _ _ e => e)
    exact wpAny_pure ⟨b, rfl, hq⟩
  · rintro obj s₁ ⟨b, rfl, hq⟩
    exact ⟨rfl, PySem.F.args_object_init_2 _ _, object_init_meets PySem.F.called_bool.init.lookup PySem.F.called_bool.made (by decide) prog w A.in1 _ s₁ ⟨rfl, rfl, hq⟩⟩
end
section
variable {X : Cx} {n : Nat} {C : Addr} {sp : Sp}
/-- what stands on the right: an instance of the class, or a value of a type that is no class below -/
def RightOf (K : PySem.W.Frag) (C : Addr) (H : Hp) (y : V) : Prop := ∃ tb, TyX K H y tb ∧ PySem.W.notFirst K C tb = true
/-- x == y by the own == of x -/
def rEqO (K : PySem.W.Frag) (C : Addr) (sp : Sp) : R2 := fun x y H Q => ∃ a dx fs, x = .ref a ∧ H a = some (.ins C dx fs) ∧ RightOf K C H y ∧ sp [x, y] H Q E0
theorem op_eqO (K : PySem.W.Frag) (hK : X.K = K) (m : Md X.prog X.w X.K X.mg X.base n C "__eq__" sp) (hr : Room n X.A) : OpR X (compareOp .Eq) (rEqO K C sp) := by
  subst hK
  intro pins s σ H x y v u Q I rx ry h
  obtain ⟨f, F, hs, hf, _⟩ := m.ex
  obtain ⟨a, dx, fs, rfl, ha, ⟨tb, hy, hn⟩, q⟩ := h
  cases (show v = Value.ref a from rx)
  obtain ⟨mA, J, _⟩ := ins_get I.hok ha
  obtain ⟨od, J, _⟩ := J.look
  obtain ⟨Pk, hk, hp, _⟩ := kit_of I ry hy
  obtain ⟨m, hF⟩ := I.fr
  refine PySem.W.cmp_K (op := .Eq) (tb := tb) hr.units0 hF I.ok.mod.kin J (hk.ty _ _ I.kIn hp) hn hs hf ?_
  refine wpAny_mono (wpAny_call (run_fnR (us := [.ref a, u]) (vs := [.ref a, y]) F hr pass0 I (.cons rfl (.cons ry .nil)) q)) (fun w s' z => ?_) fun _ _ x => x
  obtain ⟨z', H', I', rz, qz⟩ := z
  exact SlX.cmpback rz ⟨z', H', I', rz, qz⟩
/-- x != y by the own == of x -/
def rNeO (K : PySem.W.Frag) (C : Addr) (sp : Sp) : R2 := fun x y H Q => ∃ a dx fs, x = .ref a ∧ H a = some (.ins C dx fs) ∧ RightOf K C H y ∧ sp [x, y] H (fun z H' => ∃ k, z = .bl k ∧ Q (.bl (!k)) H') E0
theorem op_neO (K : PySem.W.Frag) (hK : X.K = K) (m : Md X.prog X.w X.K X.mg X.base n C "__eq__" sp) (h1 : PySem.W.findIn X.K (.ref C) "__ne__" = some (some (.builtin "object.__ne__"))) (hm : PySem.W.mroIn X.K C (.type "object") = some true) (hr : Room (n + 1) X.A) : OpR X (compareOp .NotEq) (rNeO K C sp) := by
  subst hK
  intro pins s σ H x y v u Q I rx ry h
  obtain ⟨f, F, hs, hf, _⟩ := m.ex
  obtain ⟨a, dx, fs, rfl, ha, ⟨tb, hy, hn⟩, q⟩ := h
  cases (show v = Value.ref a from rx)
  obtain ⟨mA, J, _⟩ := ins_get I.hok ha
  obtain ⟨od, J, _⟩ := J.look
  obtain ⟨Pk, hk, hp, _⟩ := kit_of I ry hy
  obtain ⟨m, hF⟩ := I.fr
  refine ne_K (tb := tb) (by have := hr.units; omega) hF I.ok.mod.kin J (hk.ty _ _ I.kIn hp) hn h1 hm hs hf ?_
  refine wpAny_mono (wpAny_call (SlX.run_at (us := [.ref a, u]) (ws := [.ref a, y]) F hr.in1 I.env0.in1 pass0 I (.cons rfl (.cons ry .nil)) q)) (fun w s' z => ?_) fun _ _ x => x
  obtain ⟨z', H', I', rz, k, ek, qz⟩ := z
  subst ek
  cases (show w = Value.bool k from rz)
  exact ⟨k, rfl, .bl (!k), H', I', rfl, qz⟩
/-- the truth of x by its own bool -/
def rTruO (C : Addr) (sp : Sp) : V → Hp → (Bool → Hp → Prop) → Prop := fun x H Q => ∃ a dx fs, x = .ref a ∧ H a = some (.ins C dx fs) ∧ sp [x] H (fun z H' => ∃ k, z = .bl k ∧ Q k H') E0
theorem tru_own (m : Md X.prog X.w X.K X.mg X.base n C "__bool__" sp) (hr : Room n X.A) : TruR X (rTruO C sp) := by
  intro pins s σ H x v Q I rx h
  obtain ⟨f, F, hs, hf, _⟩ := m.ex
  obtain ⟨a, dx, fs, rfl, ha, q⟩ := h
  cases (show v = Value.ref a from rx)
  obtain ⟨mA, J, _⟩ := ins_get I.hok ha
  obtain ⟨od, J, _⟩ := J.look
  obtain ⟨m, hF⟩ := I.fr
  refine PySem.W.truthy_K hF I.ok.mod.kin J hs hf ?_
  refine wpAny_mono (wpAny_call (run_fnR (us := [.ref a]) (vs := [.ref a]) F hr pass0 I (.cons rfl .nil) q)) (fun w s' z => ?_) fun _ _ x => x
  obtain ⟨z', H', I', rz, k, ek, qz⟩ := z
  subst ek
  cases (show w = Value.bool k from rz)
  exact ⟨H', I', qz⟩
/-- bool(x) by its own bool -/
def rBoolO (C : Addr) (sp : Sp) : List V → Hp → VK → Prop := fun xs H Q => ∃ a dx fs, xs = [.ref a] ∧ H a = some (.ins C dx fs) ∧ sp xs H (fun z H' => ∃ k, z = .bl k ∧ Q z H') E0
theorem call_boolO (m : Md X.prog X.w X.K X.mg X.base n C "__bool__" sp) (hr : Room (n + 2) X.A) : CallR X (.type "bool") (rBoolO C sp) := by
  intro pins s σ H xs us Q I r h
  obtain ⟨f, F, hs, hf, _⟩ := m.ex
  obtain ⟨a, dx, fs, rfl, ha, q⟩ := h
  obtain ⟨u, rfl, ru⟩ := r.one
  cases (show u = Value.ref a from ru)
  obtain ⟨mA, J, _⟩ := ins_get I.hok ha
  obtain ⟨od, J, _⟩ := J.look
  obtain ⟨m, hF⟩ := I.fr
  have hr2 : Room n X.A.in1.in1 := (show Room (n + 1) X.A.in1 from Room.in1 hr).in1
  refine bool_truth (PySem.W.truthy_K hF I.ok.mod.kin J hs hf ?_)
  refine wpAny_mono (wpAny_call (SlX.run_at (us := [.ref a]) (ws := [.ref a]) F hr2 I.env0.in1.in1 pass0 I (.cons rfl .nil) q)) (fun w s' z => ?_) fun _ _ x => x
  obtain ⟨z', H', I', rz, k, ek, qz⟩ := z
  subst ek
  cases (show w = Value.bool k from rz)
  exact ⟨.bl k, H', I', rfl, qz⟩
/-- bool(a tuple) -/
theorem call_boolT (K : PySem.W.Frag) (hK : X.K = K) : CallR X (.type "bool") (fun xs H Q => ∃ (a : Addr) (zs : List V), xs = [.ref a] ∧ SqT K H a zs ∧ Q (.bl (!zs.isEmpty)) H) := by
  subst hK
  intro pins s σ H xs us Q I r h
  obtain ⟨a, zs, rfl, hq, q⟩ := h
  obtain rfl := Vals.ref1 r
  obtain ⟨its, rv, pl, hz⟩ := I.tuple hq
  have hl := line63
  have hlen := rv.length
  exact bool_truth (truthy_tuple pl (by simp only [List.size_toArray]; omega) ⟨.bl (!zs.isEmpty), H, I.tok _, by rw [isEmpty_of rv]; rfl, q⟩)
end
end OR

namespace OR
open PySem PySem.Spec PyProof.Rows L2
/-! ### Places: made, compared, its truth -/
structure PMk' (P : Program) (w : World) (K : PySem.W.Frag) (mg : Str → Option Value) (base : Heap) (C : Addr) : Prop where
  T : PTxt K mg C
  made : ∃ f fd t0, Mk K C f ∧ FnOk P w K mg base CX0 4 f fd ["self", "stretches"] (spPlInit K C) ∧ Binds K fd ["self", "stretches"] [] ∧ Binds K fd ["self", "stretches"] [.ref t0] ∧ ∀ H : Hp, SqT K H t0 []
def tMkP (K : PySem.W.Frag) (C : Addr) (t : TA) : TE := fun σ H Q => t σ H fun vs H1 => ∃ (a : Addr) (L : List ARow), vs = [.ref a] ∧ (SqL K H1 a (refs L) ∨ SqT K H1 a (refs L)) ∧ L.length ≤ 1000 ∧ PairsAt H1 L ∧ (∀ r ∈ rws L, okRow r = true) ∧
  ∀ (x : Addr) (l : List Row) (H' : Hp), H1 x = none → IsP C H' x l → (∀ z, mem l z ↔ mem (rws L) z) → l.length ≤ L.length → Same H1 H' → Q (.ref x) H'
def tMkP0 (C : Addr) : TE := fun σ H Q => ∀ (x : Addr) (H' : Hp), H x = none → IsP C H' x [] → Same H H' → Q (.ref x) H'
theorem made_same {C x dx : Addr} {H H' : Hp} (nx : H x = none) (ndx : H dx = none) (hs : ∀ c o, (upd (upd H dx (.own x)) x (.ins C dx [])) c = some o → c ≠ x → H' c = some o) : Same H H' := fun c o e => by
  have ncx : c ≠ x := ne_of_none e nx
  refine hs c o ?_ ncx
  rw [upd_ne ncx, upd_ne (ne_of_none e ndx)]
  exact e
theorem pe_mkP {X : Cx} (K : PySem.W.Frag) (hK : X.K = K) {C : Addr} {j : Nat} {e : Expr} {es : List Expr} {t : TA} {p pos : Pos} (M : PMk' X.prog X.w X.K X.mg X.base C) (hr : Room j X.A) (hj : 5 ≤ j) (hg : Gl X "Places") (ha : PA X (e :: es) t)
    (he : starEach (e :: es) X.env = (false, eval e X.env) :: starEach es X.env := by rfl) (hpl : (backTo pos (starEach es X.env)).any (·.1) = false := by rfl) : PE X (.Call (.Name "Places" p) (e :: es) [] pos) (tMkP K C t) := by
  subst hK
  obtain ⟨f, fd, t0, mk, F, hb, _⟩ := M.made
  refine ⟨fun pins s σ H Q I h => ?_⟩
  refine wpAny_Call_Name_kw (ld_glob I hg M.T.mgC ?_ (by decide))
  refine PySem.W.callWith_K (h₀ := X.base) I.ok.mod.kin mk.kp (thn (ha.run pos pins s σ H _ I h) fun us s1 ⟨vs, H1, I1, r, q⟩ => ⟨I1.kIn, ?_⟩) he hpl
  obtain ⟨a, L, rfl, hS, hlen, hP, hok, q⟩ := q
  refine run_make mk F (hr.mono hj) hb .nil pass0 I1 r fun x dx nx ndx nex => ?_
  have S1 : Same H1 (upd (upd H1 dx (.own x)) x (.ins C dx [])) := fun c o e => by rw [upd_ne (ne_of_none e nx), upd_ne (ne_of_none e ndx)]; exact e
  exact ⟨x, dx, a, L, rfl, upd_same, hS.elim (fun e => .inl (S1.seq e)) (fun e => .inr (sameT S1 e)), hlen, hP.same S1, hok, fun l H' hs hp hme hle => ⟨rfl, q x l H' nx hp hme hle (made_same nx ndx hs)⟩⟩
theorem pe_mkP0 {X : Cx} {C : Addr} {j : Nat} {p pos : Pos} (M : PMk' X.prog X.w X.K X.mg X.base C) (hr : Room j X.A) (hj : 5 ≤ j) (hg : Gl X "Places") : PE X (.Call (.Name "Places" p) [] [] pos) (tMkP0 C) := by
  obtain ⟨f, fd, t0, mk, F, _, hb, ht⟩ := M.made
  refine ⟨fun pins s σ H Q I q => ?_⟩
  refine wpAny_Call_Name_kw (ld_glob I hg M.T.mgC ?_ (by decide))
  refine PySem.W.callWith_K0 I.kIn mk.kp (run_make (us := []) (vs := []) (dvs := [.ref t0]) mk F (hr.mono hj) hb (.cons rfl .nil) pass0 I .nil fun x dx nx ndx nex => ?_)
  refine ⟨x, dx, t0, [], rfl, upd_same, .inr (ht _), Nat.zero_le _, (fun _ z => nomatch z), (fun _ z => nomatch z), fun l H' hs hp hme _ => ⟨rfl, ?_⟩⟩
  have el : l = [] := Nf.unique hp.nf Nf.nil hme
  subst el
  exact q x H' nx hp (made_same nx ndx hs)
def spPlEq (K : PySem.W.Frag) (C : Addr) : Sp := fun vs H Q _ => ∃ x l y, vs = [.ref x, y] ∧ IsP C H x l ∧ ((∃ b m, y = .ref b ∧ IsP C H b m ∧ Q (.bl (decide (l = m))) H) ∨ (∃ T : String, TyX K H y (.type T) ∧ PySem.W.kitOne K (.type T) (.ref C) = some false ∧ Q (.bl false) H))
def spPlBool (C : Addr) : Sp := fun vs H Q _ => ∃ x l, vs = [.ref x] ∧ IsP C H x l ∧ Q (.bl (!l.isEmpty)) H
section
variable {P : Program} {w : World} {K : PySem.W.Frag} {mg : Str → Option Value} {base : Heap}
theorem tyP {C : Addr} (T : PTxt K mg C) {H : Hp} {x dx : Addr} {fs : List (Str × V)} (hx : H x = some (.ins C dx fs)) : TyX K H (.ref x) (.ref C) := .base (.ins hx T.cl T.isi.ca T.isi.cn T.isi.ct T.isi.cm)
theorem scEq : FnScope ["self", "other"] ["self", "other"] (defScope sPlEq) := ⟨rfl, rfl, rfl, by decide +kernel, rfl, by decide +kernel, by decide +kernel⟩
theorem ok_pleq {f C : Addr} {fd : FuncData} (F : Fun K "__eq__" "Places.__eq__" sPlEq f fd) (T : PTxt K mg C) : FnOk P w K mg base CX0 1 f fd ["self", "other"] (spPlEq K C) := by
  refine F.ok scEq (fun vs H Q E h => ?_) (fun cdv A outer s H vs Q E hr h => ?_)
  · obtain ⟨x, l, y, rfl, _⟩ := h
    rfl
  · obtain ⟨x, l, y, rfl, ⟨_, dx, t, fi, b, M, hx, ht, hM, rfl, _⟩, h⟩ := h
    have hu64 : (A.deeper (envOfC "Places.__eq__" (defScope sPlEq) s.heap.objs.size f cdv)).units + 64 < cLine := hr.units
    refine ⟨_, pss_one (ps_ret (pe_and (pe_callB call_isi (by rfl) T.zIsi bt_isi (pa_cons (pv 1) (pa_cons (pe_glob (v := .ref C) (by rfl) T.mgC rfl) pa_nil)))
      (pe_one (pe_cmpR (op_eqD hu64) (pe_fld (pv 0) rfl) (pe_fld (pv 1) rfl) (nomark _))))), ?_⟩
    rcases h with ⟨y, m, rfl, ⟨_, dy, t2, f2, b2, M2, hy, ht2, hM2, rfl, _⟩, q⟩ | ⟨ty, hT, hk, q⟩
    · refine ⟨_, rfl, .ref y, .ref C, _, _, true, rfl, .own C, tyP T hy, T.kPP, true, rfl, iteT ?_⟩
      refine ⟨_, rfl, x, C, dx, _, _, rfl, hx, T.cl, T.nS, pFl_s _ _ _, _, rfl, y, C, dy, _, _, rfl, hy, T.cl, T.nS, pFl_s _ _ _, .tuple ((rws M).map rowD), .tuple ((rws M2).map rowD), .tup (.inl (.inl ht)) (dp_rows hM), .tup (.inl (.inl ht2)) (dp_rows hM2), shp_tup _, shp_tup _, ?_⟩
      have e : PyData.eqv (.tuple ((rws M).map rowD)) (.tuple ((rws M2).map rowD)) = decide (rws M = rws M2) := eqv_rows _ _
      rw [e]
      exact q
    · exact ⟨_, rfl, y, .ref C, _, _, false, rfl, .own C, hT, hk, false, rfl, iteF q⟩
theorem scBo : FnScope ["self"] ["self"] (defScope sPlBool) := ⟨rfl, rfl, rfl, by decide +kernel, rfl, by decide +kernel, by decide +kernel⟩
theorem ok_plbool {f C : Addr} {fd : FuncData} (F : Fun K "__bool__" "Places.__bool__" sPlBool f fd) (T : PTxt K mg C) : FnOk P w K mg base CX0 1 f fd ["self"] (spPlBool C) := by
  refine F.ok scBo (fun vs H Q E h => ?_) (fun cdv A outer s H vs Q E hr h => ?_)
  · obtain ⟨x, l, rfl, _⟩ := h
    rfl
  · obtain ⟨x, l, rfl, ⟨_, dx, t, fi, b, M, hx, ht, hM, rfl, _⟩, q⟩ := h
    refine ⟨_, pss_one (ps_ret (pe_callTy (call_boolT K rfl) (by rfl) T.zBool bt_bool (pa_cons (pe_fld (pv 0) rfl) pa_nil))), ?_⟩
    refine ⟨_, rfl, x, C, dx, _, _, rfl, hx, T.cl, T.nS, pFl_s _ _ _, t, refs M, rfl, .inl (.inl ht), ?_⟩
    have e : (refs M).isEmpty = (rws M).isEmpty := by cases M <;> rfl
    rw [e]
    exact q
end
end OR

namespace OR
open PySem PySem.Spec PyProof.Rows L2
open TL (tl numL)
theorem boot_strT : bootBuiltins ("str" : Str) = some (.type "str") := by decide +kernel
theorem sz1 {n : Nat} (h : n ≤ 20000) : n ≤ sizeLine := Nat.le_trans h (by decide)
/-! ### words, signs -/
def letters : Str := "abcdefghijklmnopqrstuvwxyz"
structure Word (s : Str) : Prop where
  pos : 1 ≤ s.length
  len : s.length ≤ 8
  az : ∀ c ∈ tl s, 97 ≤ c ∧ c ≤ 122
theorem az_in {c : Nat} (h0 : 97 ≤ c) (h1 : c ≤ 122) : c ∈ tl letters := by
  have e : tl letters = (List.range 26).map (· + 97) := by decide +kernel
  rw [e]
  exact List.mem_map.mpr ⟨c - 97, List.mem_range.mpr (by omega), by omega⟩
structure WTxt (K : PySem.W.Frag) (mg : Str → Option Value) (ts tw : Addr) : Prop where
  zIsi : mg "isinstance" = none
  zStr : mg "str" = none
  zLen : mg "len" = none
  zAll : mg "all" = none
  let_ : ∃ t, mg "_LETTERS" = some (.str letters t)
  most : ∃ t, mg "_MOST_LETTERS" = some (.int 8 t)
  gS : mg "SIGNS" = some (.ref ts)
  gW : mg "WAYS" = some (.ref tw)
  hS : ∀ H : Hp, SqT K H ts [.str ("<=" : Str), .str (">=" : Str), .str ("=" : Str)]
  hW : ∀ H : Hp, SqT K H tw [.str ("up" : Str), .str ("down" : Str)]
def spIsWord : Sp := fun vs H Q _ => ∃ s : Str, vs = [.str s] ∧ Word s ∧ ∀ H', Same H H' → Q (.bl true) H'
def spChkW : Sp := fun vs H Q _ => ∃ s : Str, vs = [.str s] ∧ Word s ∧ ∀ H', Same H H' → Q .non H'
def spChkTwo : Sp := fun vs H Q _ => ∃ s t : Str, vs = [.str s, .str t] ∧ Word s ∧ Word t ∧ s ≠ t ∧ ∀ H', Same H H' → Q .non H'
def isSign (s : Str) : Prop := s = "<=" ∨ s = ">=" ∨ s = "="
def isWay (s : Str) : Prop := s = "up" ∨ s = "down"
def spChkS (K : PySem.W.Frag) : Sp := fun vs H Q _ => ∃ (s : Str) (a : Addr) (xs : List Str), vs = [.str s, .ref a] ∧ SqT K H a (xs.map V.str) ∧ s ∈ xs ∧ Q .non H
theorem bt_all : bootBuiltins ("all" : Str) = some (.builtin "all") := by decide +kernel
theorem lc_str {x : Str} {g : TG} {tt : TT} {te : TE} {vs : List Nat} {σ : L2.St} {H1 : Hp} {D : Addr} {Qd : Hp → Prop} (Pv : Nat → Hp → Prop) (h0 : Pv 0 (upd H1 D (.lst [])))
    (hs : ∀ i c H, (tl x)[i]? = some c → Pv i H → g (.str ⟨#[c]⟩) (wipe σ vs) H fun σ2 H2 => wipe σ2 vs = wipe σ vs ∧ tt σ2 H2 fun b H3 =>
      if b = true then te σ2 H3 fun y H4 => ∃ acc, H4 D = some (.lst acc) ∧ acc.length < sizeLine ∧ Pv (i + 1) (upd H4 D (.lst (acc ++ [y]))) else Pv (i + 1) H3) (hd : ∀ H, Pv x.length H → Qd H) :
    ∃ W : Nat → Nat → Hp → Prop, (∃ m, W 0 m (upd H1 D (.lst []))) ∧ ∀ i m H, W i m H →
      ((Its x).stop i H ∧ Qd H) ∨ ((Its x).go i H ∧ ∃ Nx : Hp → Prop, (∀ H', Nx H' → ∃ m', m' < m ∧ W (i + 1) m' H') ∧ ∀ y H', (Its x).yld i H y H' → g y (wipe σ vs) H' fun σ2 H2 => wipe σ2 vs = wipe σ vs ∧ tt σ2 H2 fun b H3 =>
        if b = true then te σ2 H3 fun y H4 => ∃ acc, H4 D = some (.lst acc) ∧ acc.length < sizeLine ∧ Nx (upd H4 D (.lst (acc ++ [y]))) else Nx H3) := by
  have hl : x.length = x.cps.size := rfl
  refine ⟨fun i m H => m = x.length - i ∧ i ≤ x.length ∧ Pv i H, ⟨x.length, by simp, Nat.zero_le _, h0⟩, ?_⟩
  rintro i m H ⟨rfl, hi, p⟩
  by_cases hlt : i < x.length
  · refine .inr ⟨hlt, Pv (i + 1), fun H' p' => ⟨x.length - (i + 1), by omega, rfl, hlt, p'⟩, fun y H' hy => ?_⟩
    obtain ⟨e, c, hc, e2⟩ := hy
    subst e e2
    refine hs i c _ ?_ p
    show x.cps.toList[i]? = some c
    rw [Array.getElem?_toList]
    exact hc
  · have e : i = x.length := by omega
    subst e
    exact .inl ⟨Nat.le_refl _, hd H p⟩
section
variable {P : Program} {w : World} {K : PySem.W.Frag} {mg : Str → Option Value} {base : Heap} {ts tw : Addr}
theorem scIW : FnScope ["value", "letter"] ["value"] (defScope sIsWord) := ⟨rfl, rfl, rfl, by decide +kernel, rfl, by decide +kernel, by decide +kernel⟩
theorem ok_isword {f : Addr} {fd : FuncData} (F : Fun K "is_word" "is_word" sIsWord f fd) (T : WTxt K mg ts tw) : FnOk P w K mg base CX0 1 f fd ["value"] spIsWord := by
  obtain ⟨t1, hl⟩ := T.let_
  obtain ⟨t2, hm⟩ := T.most
  refine F.ok scIW (fun vs H Q E h => ?_) (fun cdv A outer s H vs Q E hr h => ?_)
  · obtain ⟨s, rfl, _⟩ := h
    rfl
  · obtain ⟨x, rfl, hw, q⟩ := h
    have nd := scIW.nd
    refine ⟨_, pss_cons (ps_if (PW.pt (pw_or (pt_not (pt_val (pe_callB call_isi (by rfl) T.zIsi bt_isi (pa_cons (pv 0) (pa_cons (pe_bltn (v := .ty "str") (by rfl) T.zStr boot_strT rfl) pa_nil)))))
          (pw_or1 (pt_not (pt_chain op_le op_le pe_int (pe_callB call_len_str (by rfl) T.zLen PySem.boot_len (pa_cons (pv 0) pa_nil)) (pe_glob (v := .int 8) (by rfl) hm ⟨_, rfl⟩)))))) (pss_one (ps_ret pe_bl)) pss_nil)
      (pss_one (ps_ret (pe_callB (cr_all rfl) (by rfl) T.zAll bt_all (pa_cons
        (pe_lc (own := [("letter", 1)]) (g := gName 1) (tt := tYes) rfl nd (pi_str (pv 0)) (blkOk_by (N := ["value", "letter"]) (sc := defScope sIsWord) (by decide +kernel))
          (fun _ _ _ _ _ => pg_name (i := 1) nd rfl (.inl rfl)) (fun _ _ _ _ _ => pts_nil) (fun _ _ _ _ _ => pe_cmpR op_in_sign (pv 1) (pe_glob (v := .str letters) (by rfl) hl ⟨_, rfl⟩) (by rfl))) pa_nil)))), ?_⟩
    have hp := hw.pos
    have hq := hw.len
    refine ⟨_, rfl, _, .ty "str", _, _, true, rfl, .ty "str", .base (.str _), kit_ty (by decide +kernel), _, rfl, iteF ?_⟩
    refine ⟨_, rfl, x, rfl, sz1 (by omega), _, _, rfl, rfl, _, rfl, ite2 (fun _ => ?_) (fun z => absurd (decide_eq_true (show (1 : Int) ≤ (x.length : Nat) by omega)) z)⟩
    refine ⟨_, _, rfl, rfl, _, rfl, ite2 (fun z => ?_) (fun _ => ?_)⟩
    · exfalso
      have h8 : decide (((x.length : Nat) : Int) ≤ 8) = true := decide_eq_true (by omega)
      rw [h8] at z
      exact absurd z (by decide)
    · refine ⟨_, rfl, x, rfl, fun D hD => lc_str (x := x) (fun i G => G D = some (.lst ((List.replicate i true).map V.bl)) ∧ Same H G) ⟨upd_same, same_lay hD⟩ ?_ ?_⟩
      · rintro i c G hc ⟨hd, s⟩
        have hz := hw.az c (List.mem_of_getElem? hc)
        have hi : i < x.length := by
          have := (List.getElem?_eq_some_iff.mp hc).1
          rw [TL.len_tl]
          exact this
        refine ⟨rfl, yesT ?_⟩
        refine ⟨_, rfl, c, letters, rfl, rfl, _, hd, small1000 (by rw [List.length_map, List.length_replicate]; omega), ?_, same_upd s hD⟩
        rw [upd_same, List.replicate_succ', List.map_append, show decide (c ∈ letters.cps.toList) = true from decide_eq_true (az_in hz.1 hz.2)]
        rfl
      · rintro G ⟨hd, s⟩
        refine ⟨D, _, rfl, .inl (.inl hd), ?_⟩
        have e : (List.replicate x.length true).all id = true := by
          rw [List.all_eq_true]
          intro b hb
          exact (List.mem_replicate.mp hb).2
        rw [e]
        exact q G s
theorem scKW : FnScope ["value"] ["value"] (defScope sChkW) := ⟨rfl, rfl, rfl, by decide +kernel, rfl, by decide +kernel, by decide +kernel⟩
theorem ok_chkw {f : Addr} {fd : FuncData} (F : Fun K "check_word" "check_word" sChkW f fd) (IW : Cl P w K mg base 1 "is_word" ["value"] spIsWord) : FnOk P w K mg base CX0 2 f fd ["value"] spChkW := by
  refine F.ok scKW (fun vs H Q E h => ?_) (fun cdv A outer s H vs Q E hr h => ?_)
  · obtain ⟨s, rfl, _⟩ := h
    rfl
  · obtain ⟨x, rfl, hw, q⟩ := h
    refine ⟨_, pss_one (ps_if (pt_not (pt_val (pe_cl IW hr (by decide) (by rfl) (pa_cons (pv 0) pa_nil)))) (pss_one ps_never) pss_nil), ?_⟩
    exact ⟨_, rfl, x, rfl, hw, fun H' s => ⟨_, rfl, iteF (q H' s)⟩⟩
theorem scKT : FnScope ["function", "other"] ["function", "other"] (defScope sChkTwo) := ⟨rfl, rfl, rfl, by decide +kernel, rfl, by decide +kernel, by decide +kernel⟩
theorem ok_chktwo {f : Addr} {fd : FuncData} (F : Fun K "check_two_words" "check_two_words" sChkTwo f fd) (CW : Cl P w K mg base 2 "check_word" ["value"] spChkW) : FnOk P w K mg base CX0 3 f fd ["function", "other"] spChkTwo := by
  refine F.ok scKT (fun vs H Q E h => ?_) (fun cdv A outer s H vs Q E hr h => ?_)
  · obtain ⟨s, t, rfl, _⟩ := h
    rfl
  · obtain ⟨x, y, rfl, hx, hy, ne, q⟩ := h
    refine ⟨_, pss_cons (ps_expr (pe_cl CW hr (by decide) (by rfl) (pa_cons (pv 0) pa_nil))) (pss_cons (ps_expr (pe_cl CW hr (by decide) (by rfl) (pa_cons (pv 1) pa_nil))) (pss_one (ps_if (pt_cmpR op_eq (pv 0) (pv 1) (nomark _)) (pss_one ps_never) pss_nil))), ?_⟩
    refine ⟨_, rfl, x, rfl, hx, fun H1 s1 => ⟨_, rfl, y, rfl, hy, fun H2 s2 => ⟨_, rfl, _, rfl, rfl, _, rfl, ite2 (fun z => absurd (V.str.inj (of_decide_eq_true z)) ne) (fun _ => q H2 (s1.trans s2))⟩⟩⟩
theorem scKS : FnScope ["value", "allowed"] ["value", "allowed"] (defScope sChkSign) := ⟨rfl, rfl, rfl, by decide +kernel, rfl, by decide +kernel, by decide +kernel⟩
theorem op_notIn_seqK {X : Cx} (K : PySem.W.Frag) (hK : X.K = K) : OpR X (compareOp .NotIn) (rIn K true) := by
  subst hK
  exact op_notIn_seq
theorem in_strs {s : Str} {xs : List Str} (h : s ∈ xs) : inV (.str s) (xs.map V.str) = true := by
  unfold inV
  rw [List.any_eq_true]
  exact ⟨.str s, List.mem_map.mpr ⟨s, h, rfl⟩, by simp [eqV]⟩
theorem notin_strs {s : Str} {xs : List Str} (h : s ∉ xs) : inV (.str s) (xs.map V.str) = false := by
  unfold inV
  rw [List.any_eq_false]
  intro v hv
  obtain ⟨t, ht, rfl⟩ := List.mem_map.mp hv
  have : t ≠ s := fun e => h (e ▸ ht)
  simp [eqV, this]
theorem flat_strs (xs : List Str) : (xs.map V.str).all flatV = true := by
  rw [List.all_eq_true]
  intro v hv
  obtain ⟨t, ht, rfl⟩ := List.mem_map.mp hv
  rfl
theorem ok_chks {f : Addr} {fd : FuncData} (F : Fun K "check_sign" "check_sign" sChkSign f fd) : FnOk P w K mg base CX0 1 f fd ["value", "allowed"] (spChkS K) := by
  refine F.ok scKS (fun vs H Q E h => ?_) (fun cdv A outer s H vs Q E hr h => ?_)
  · obtain ⟨s, a, xs, rfl, _⟩ := h
    rfl
  · obtain ⟨x, a, xs, rfl, hS, hx, q⟩ := h
    refine ⟨_, pss_one (ps_if (pt_cmpR (op_notIn_seqK K rfl) (pv 0) (pv 1) (by rfl)) (pss_one ps_never) pss_nil), ?_⟩
    refine ⟨_, rfl, _, rfl, a, _, rfl, .inr hS, rfl, flat_strs xs, _, rfl, ?_⟩
    rw [in_strs hx]
    exact iteF q
end
end OR

namespace OR
open PySem PySem.Spec PyProof.Rows L2
open TL (tl numL)
theorem nf_self {K : PySem.W.Frag} {C : Addr} : PySem.W.notFirst K C (.ref C) = true := by simp [PySem.W.notFirst]
theorem ne_q {K : PySem.W.Frag} {mg : Str → Option Value} {C : Addr} (T : PTxt K mg C) {H : Hp} {x y : Addr} {l m : List Row} {Q : VK} (hx : IsP C H x l) (hy : IsP C H y m) (k : Q (.bl (!decide (l = m))) H) : rNeO K C (spPlEq K C) (.ref x) (.ref y) H Q := by
  obtain ⟨_, dx, _, _, _, _, e1, _⟩ := id hx
  obtain ⟨_, dy, _, _, _, _, e2, _⟩ := id hy
  exact ⟨x, dx, _, rfl, e1, ⟨.ref C, tyP T e2, nf_self⟩, x, l, .ref y, rfl, hx, .inl ⟨y, m, rfl, hy, _, rfl, k⟩⟩
theorem eq_q {K : PySem.W.Frag} {mg : Str → Option Value} {C : Addr} (T : PTxt K mg C) {H : Hp} {x y : Addr} {l m : List Row} {Q : VK} (hx : IsP C H x l) (hy : IsP C H y m) (k : Q (.bl (decide (l = m))) H) : rEqO K C (spPlEq K C) (.ref x) (.ref y) H Q := by
  obtain ⟨_, dx, _, _, _, _, e1, _⟩ := id hx
  obtain ⟨_, dy, _, _, _, _, e2, _⟩ := id hy
  exact ⟨x, dx, _, rfl, e1, ⟨.ref C, tyP T e2, nf_self⟩, x, l, .ref y, rfl, hx, .inl ⟨y, m, rfl, hy, k⟩⟩
structure Mt (P : Program) (w : World) (K : PySem.W.Frag) (mg : Str → Option Value) (base : Heap) (k : Nat) (C : Addr) (m : Str) (ps : List Str) (sp : Sp) : Prop where
  ex : ∃ (f : Addr) (fd : FuncData), Meth K C m f ∧ FnOk P w K mg base CX0 k f fd ps sp ∧ Binds K fd ps []
theorem pe_mt {X : Cx} {k j : Nat} {C : Addr} {m : Str} {ps : List Str} {sp : Sp} {o e : Expr} {es : List Expr} {ta : TE} {t : TA} {apos pos : Pos} {pl : Sem Bool} (M : Mt X.prog X.w X.K X.mg X.base k C m ps sp) (c : Cls X.K C) (hr : Room j X.A) (hk : k ≤ j) (he : PE X o ta) (ha : PA X (e :: es) t)
    (hst : starEach (e :: es) X.env = (false, eval e X.env) :: starEach es X.env := by rfl) (hpl : (backTo pos (starEach es X.env)).any (·.1) = false := by rfl)
    (ht : eval (.Call (.Attribute o m apos) (e :: es) [] pos) X.env = (do
      let ov ← eval o X.env
      standAt apos.atName
      let (f, first) ← holding [ov] (getMethod ov m pl)
      callWith pos f first (backTo pos (starEach (e :: es) X.env)) (backToKw pos (keywordEach [] X.env))) := by rfl) : PE X (.Call (.Attribute o m apos) (e :: es) [] pos) (tMeth C m sp [] E0 ta t) := by
  obtain ⟨f, fd, hm, F, hb⟩ := M.ex
  exact pe_meth he c hm F (hr.mono hk) hb .nil pass0 ha hst hpl ht
theorem mt_of {P : Program} {w : World} {K : PySem.W.Frag} {mg : Str → Option Value} {base : Heap} {C : Addr} {m m' qual : Str} {st : Stmt} {k : Nat} {ps : List Str} {sp : Sp} (a : MtAt K C m m' qual st)
    (hb : ∀ (kV doc pm : Value) (an : Option Addr) (cdv ct : Value) (us : List Value), us.length = ps.length → bindArgs (PySem.W.fnOf m qual (defArgs st) (defBody st) (defScope st) .none kV doc pm an cdv ct) ⟨us, []⟩ = pure (ps.zip us))
    (ok : ∀ f fd, Fun K m qual st f fd → FnOk P w K mg base CX0 k f fd ps sp) : Mt P w K mg base k C m' ps sp := by
  obtain ⟨f, fd, F, e, i, n⟩ := a.ex
  exact ⟨f, fd, ⟨e, i, F.kp⟩, ok f fd F, F.binds hb⟩
theorem pe_mt0 {X : Cx} {k j : Nat} {C : Addr} {m : Str} {ps : List Str} {sp : Sp} {o : Expr} {ta : TE} {apos pos : Pos} {pl : Sem Bool} (M : Mt X.prog X.w X.K X.mg X.base k C m ps sp) (c : Cls X.K C) (hr : Room j X.A) (hk : k ≤ j) (he : PE X o ta)
    (ht : eval (.Call (.Attribute o m apos) [] [] pos) X.env = (do
      let ov ← eval o X.env
      standAt apos.atName
      let (f, first) ← holding [ov] (getMethod ov m pl)
      callWith pos f first (backTo pos (starEach [] X.env)) (backToKw pos (keywordEach [] X.env))) := by rfl) : PE X (.Call (.Attribute o m apos) [] [] pos) (tMeth C m sp [] E0 ta tNil) := by
  obtain ⟨f, fd, hm, F, hb⟩ := M.ex
  exact pe_meth0 he c hm F (hr.mono hk) hb .nil pass0 ht
theorem pe_fldK {X : Cx} {e : Expr} {f : Str} {pos : Pos} {ta : TE} (K : PySem.W.Frag) (hK : X.K = K) (he : PE X e ta) (hb : attributeBase e f X.env (eval e X.env) = eval e X.env) : PE X (.Attribute e f pos) (tFld K ta f) := by
  subst hK
  exact pe_fld he hb
/-! ### clauses as they stand -/
def kName : Nat → Str
  | 0 => "answers"
  | 1 => "refuses"
  | 2 => "needs"
  | 3 => "spreads"
  | 4 => "bound"
  | 5 => "pair"
  | _ => "step"
def clsName : Nat → Str
  | 0 => "Answers"
  | 1 => "Refuses"
  | 2 => "Needs"
  | 3 => "Spreads"
  | 4 => "Bound"
  | 5 => "Pair"
  | _ => "Step"
def xNames : Nat → List Str
  | 0 => []
  | 1 => []
  | 2 => ["other"]
  | 3 => ["way"]
  | 4 => ["sign", "slope", "height"]
  | 5 => ["sign", "other", "slope", "height"]
  | _ => ["sign", "height"]
def allNames (i : Nat) : List Str := "kind" :: "function" :: "places" :: xNames i
def cVals (i : Nat) (f : Str) (pl : Addr) (x : List V) : List V := .str (kName i) :: .str f :: .ref pl :: x
def putAll : List (Str × V) → List (Str × V) → List (Str × V)
  | [], acc => acc
  | (n, v) :: r, acc => putAll r (putF n v acc)
def cFl (i : Nat) (f : Str) (pl : Addr) (x : List V) : List (Str × V) := putAll ((allNames i).zip (cVals i f pl x)) []
theorem nodup_all : ∀ i, (allNames i).Nodup
  | 0 => by decide +kernel
  | 1 => by decide +kernel
  | 2 => by decide +kernel
  | 3 => by decide +kernel
  | 4 => by decide +kernel
  | 5 => by decide +kernel
  | _ + 6 => by
    show ("kind" :: "function" :: "places" :: ["sign", "height"] : List Str).Nodup
    decide +kernel
theorem lookup_none {m : Str} : ∀ {l : List (Str × V)}, (∀ p ∈ l, p.1 ≠ m) → l.lookup m = none
  | [], _ => rfl
  | (n, v) :: r, h => by
    have h1 : (m == n) = false := beq_eq_false_iff_ne.mpr fun e => h (n, v) List.mem_cons_self e.symm
    rw [List.lookup_cons, h1]
    exact lookup_none fun p hp => h p (List.mem_cons_of_mem _ hp)
theorem putAll_lookup {m : Str} : ∀ (l acc : List (Str × V)), (l.map (·.1)).Nodup → (putAll l acc).lookup m = ((l.lookup m).or (acc.lookup m))
  | [], acc, _ => by simp [putAll]
  | (n, v) :: r, acc, h => by
    rw [List.map_cons, List.nodup_cons] at h
    show (putAll r (putF n v acc)).lookup m = _
    rw [putAll_lookup r _ h.2, lookup_putF, List.lookup_cons]
    by_cases e : m = n
    · subst e
      rw [if_pos rfl, lookup_none (l := r) (fun p hp ep => h.1 (List.mem_map.mpr ⟨p, hp, ep⟩))]
      simp
    · rw [if_neg e, beq_eq_false_iff_ne.mpr e]
theorem zip_lookup {n : Str} {v : V} : ∀ {ns : List Str} {vs : List V} {j : Nat}, ns.Nodup → ns[j]? = some n → vs[j]? = some v → (ns.zip vs).lookup n = some v
  | [], _, _, _, h, _ => by simp at h
  | _ :: _, [], _, _, _, h => by simp at h
  | a :: ns, b :: vs, 0, _, h1, h2 => by
    have e1 : a = n := Option.some.inj h1
    have e2 : b = v := Option.some.inj h2
    subst e1 e2
    rw [List.zip_cons_cons, List.lookup_cons, beq_self_eq_true]
  | a :: ns, b :: vs, j + 1, hd, h1, h2 => by
    have hd' := List.nodup_cons.mp hd
    have hm : n ∈ ns := List.mem_of_getElem? (show ns[j]? = some n from h1)
    have ne : n ≠ a := fun e => hd'.1 (e ▸ hm)
    rw [List.zip_cons_cons, List.lookup_cons, beq_eq_false_iff_ne.mpr ne]
    exact zip_lookup hd'.2 (show ns[j]? = some n from h1) (show vs[j]? = some v from h2)
theorem zip_fst_sub {ns : List Str} {vs : List V} : ∀ {p : Str × V}, p ∈ ns.zip vs → p.1 ∈ ns := fun h => (List.of_mem_zip h).1
theorem zip_nodup : ∀ {ns : List Str} {vs : List V}, ns.Nodup → ((ns.zip vs).map (·.1)).Nodup
  | [], _, _ => by simp
  | _ :: _, [], _ => by simp
  | a :: ns, b :: vs, h => by
    have h' := List.nodup_cons.mp h
    rw [List.zip_cons_cons, List.map_cons, List.nodup_cons]
    refine ⟨fun hm => ?_, zip_nodup h'.2⟩
    obtain ⟨p, hp, e⟩ := List.mem_map.mp hm
    have e2 : p.1 = a := e
    exact h'.1 (by rw [← e2]; exact zip_fst_sub hp)
theorem cFl_at {i j : Nat} {f n : Str} {pl : Addr} {x : List V} {v : V} (hn : (allNames i)[j]? = some n) (hv : (cVals i f pl x)[j]? = some v) : (cFl i f pl x).lookup n = some v := by
  unfold cFl
  rw [putAll_lookup _ _ (zip_nodup (nodup_all i)), zip_lookup (nodup_all i) hn hv]
  rfl
theorem cFl_no {i : Nat} {f n : Str} {pl : Addr} {x : List V} (hn : n ∉ allNames i) : (cFl i f pl x).lookup n = none := by
  unfold cFl
  rw [putAll_lookup _ _ (zip_nodup (nodup_all i)), lookup_none (l := (allNames i).zip (cVals i f pl x)) (m := n) (fun p hp e => hn (by rw [← e]; exact zip_fst_sub hp))]
  rfl
def Num (a : Int) : Prop := a.natAbs < 10 ^ 90
def WF : Nat → Str → List V → Prop
  | 0, _, x => x = []
  | 1, _, x => x = []
  | 2, f, x => ∃ g, x = [.str g] ∧ Word g ∧ g ≠ f
  | 3, _, x => ∃ w, x = [.str w] ∧ isWay w
  | 4, _, x => ∃ s a b, x = [.str s, .int a, .int b] ∧ isSign s ∧ Num a ∧ Num b
  | 5, f, x => ∃ s g a b, x = [.str s, .str g, .int a, .int b] ∧ isSign s ∧ Word g ∧ g ≠ f ∧ Num a ∧ Num b
  | _, _, x => ∃ s b, x = [.str s, .int b] ∧ isSign s ∧ Num b
structure IsC (CP : Addr) (C : Nat → Addr) (H : Hp) (z : Addr) (i : Nat) (f : Str) (l : List Row) (x : List V) : Prop where
  ex : ∃ dx pl, H z = some (.ins (C i) dx (cFl i f pl x)) ∧ IsP CP H pl l
  lt : i < 7
  w : Word f
  wf : WF i f x
  ok : ∀ r ∈ l, okRow r = true
  len : l.length ≤ 20
theorem IsC.same {CP : Addr} {C : Nat → Addr} {H H' : Hp} {z : Addr} {i : Nat} {f : Str} {l : List Row} {x : List V} (h : IsC CP C H z i f l x) (s : Same H H') : IsC CP C H' z i f l x := by
  obtain ⟨⟨dx, pl, e, hp⟩, a, b, c, d, g⟩ := h
  exact ⟨⟨dx, pl, s _ _ e, hp.same s⟩, a, b, c, d, g⟩
def ceq (i : Nat) (f : Str) (l : List Row) (x : List V) (j : Nat) (g : Str) (m : List Row) (u : List V) : Bool := decide (i = j ∧ f = g ∧ l = m ∧ x = u)
structure CTxt (K : PySem.W.Frag) (mg : Str → Option Value) (C : Nat → Addr) : Prop where
  cl : ∀ i, i < 7 → Cls K (C i)
  no : ∀ i, i < 7 → ∀ n ∈ allNames i, NoAttr K (C i) n
  isi : ∀ i, i < 7 → SlX.SIsi K (C i)
  kk : ∀ i, i < 7 → ∀ j, j < 7 → PySem.W.kitOne K (.ref (C i)) (.ref (C j)) = some (decide (i = j))
  mgC : ∀ i, i < 7 → mg (clsName i) = some (.ref (C i))
  sf : ∀ i, i < 7 → PySem.W.selfFirst K (C i) = true
  ne : ∀ i, i < 7 → PySem.W.findIn K (.ref (C i)) "__ne__" = some (some (.builtin "object.__ne__"))
  kS : ∀ i, i < 7 → PySem.W.kitOne K (.type "str") (.ref (C i)) = some false
  kT : ∀ i, i < 7 → PySem.W.kitOne K (.type "tuple") (.ref (C i)) = some false
section
variable {P : Program} {w : World} {K : PySem.W.Frag} {mg : Str → Option Value} {base : Heap} {C : Nat → Addr} {CP : Addr}
theorem tyC (T : CTxt K mg C) {H : Hp} {z dx : Addr} {i : Nat} {fs : List (Str × V)} (hi : i < 7) (hz : H z = some (.ins (C i) dx fs)) : TyX K H (.ref z) (.ref (C i)) := .base (.ins hz (T.cl i hi) (T.isi i hi).ca (T.isi i hi).cn (T.isi i hi).ct (T.isi i hi).cm)
/-- a field is read -/
theorem fld (T : CTxt K mg C) {H : Hp} {z dx pl : Addr} {i j : Nat} {f n : Str} {x : List V} {v : V} {Q : V → Prop} (hz : H z = some (.ins (C i) dx (cFl i f pl x))) (hi : i < 7) (hn : (allNames i)[j]? = some n) (hv : (cVals i f pl x)[j]? = some v) (q : Q v) :
    ∃ a C' dx fs v', V.ref z = .ref a ∧ H a = some (.ins C' dx fs) ∧ Cls K C' ∧ NoAttr K C' n ∧ fs.lookup n = some v' ∧ Q v' :=
  ⟨z, C i, dx, _, v, rfl, hz, T.cl i hi, T.no i hi n (List.mem_of_getElem? hn), cFl_at hn hv, q⟩
def spCInit (C : Nat → Addr) (i : Nat) : Sp := fun vs H Q _ => ∃ (p dx : Addr) (f : Str) (pl : Addr) (x : List V), vs = .ref p :: .str f :: .ref pl :: x ∧ Word f ∧ WF i f x ∧ H p = some (.ins (C i) dx []) ∧
  ∀ H', H' p = some (.ins (C i) dx (cFl i f pl x)) → (∀ c o, H c = some o → c ≠ p → H' c = some o) → Q .non H'
def spCEq (K : PySem.W.Frag) (CP : Addr) (C : Nat → Addr) (i : Nat) : Sp := fun vs H Q _ => ∃ (a : Addr) (y : V) (f : Str) (l : List Row) (x : List V), vs = [.ref a, y] ∧ IsC CP C H a i f l x ∧
  ((∃ b j g m u, y = .ref b ∧ IsC CP C H b j g m u ∧ Q (.bl (ceq i f l x j g m u)) H) ∨ (∃ T : String, TyX K H y (.type T) ∧ PySem.W.kitOne K (.type T) (.ref (C i)) = some false ∧ Q (.bl false) H))
def told : Nat → Str → List V → List V
  | 2, f, [g] => [.str f, g]
  | 5, f, [_, g, _, _] => [.str f, g]
  | _, f, _ => [.str f]
def spCTold (CP : Addr) (C : Nat → Addr) (i : Nat) : Sp := fun vs H Q _ => ∃ (z : Addr) (f : Str) (l : List Row) (x : List V), vs = [.ref z] ∧ IsC CP C H z i f l x ∧ ∀ t, H t = none → Q (.ref t) (upd H t (.tup (told i f x)))
end
end OR

namespace OR
open PySem PySem.Spec PyProof.Rows L2
open TL (tl numL)
theorem sign_in {s : Str} (h : isSign s) : s ∈ (["<=", ">=", "="] : List Str) := by
  rcases h with e | e | e <;> subst e <;> simp
theorem way_in {s : Str} (h : isWay s) : s ∈ (["up", "down"] : List Str) := by
  rcases h with e | e <;> subst e <;> simp
section
variable {P : Program} {w : World} {K : PySem.W.Frag} {mg : Str → Option Value} {base : Heap} {C : Nat → Addr} {CP : Addr} {ts tw : Addr}
theorem scAnsI : FnScope ["self", "function", "places"] ["self", "function", "places"] (defScope sAnsInit) := ⟨rfl, rfl, rfl, by decide +kernel, rfl, by decide +kernel, by decide +kernel⟩
theorem ok_AnsI {f : Addr} {fd : FuncData} (F : Fun K "__init__" "Answers.__init__" sAnsInit f fd) (T : CTxt K mg C) (CW : Cl P w K mg base 2 "check_word" ["value"] spChkW) : FnOk P w K mg base CX0 4 f fd ["self", "function", "places"] (spCInit C 0) := by
  refine F.ok scAnsI (fun vs H Q E h => ?_) (fun cdv A outer s0 H vs Q E hr h => ?_)
  · obtain ⟨p, dx, f', pl, x, rfl, _, rfl, _⟩ := h
    rfl
  · obtain ⟨p, dx, f', pl, x, rfl, hw, rfl, hp, q⟩ := h
    have hi : 0 < 7 := by decide
    refine ⟨_, pss_cons (ps_expr (pe_cl CW hr (by decide) (by rfl) (pa_cons (pv 1) pa_nil)))
      (pss_cons (ps_fld (pv 0) pe_str rfl)
      (pss_cons (ps_fld (pv 0) (pv 1) rfl)
      (pss_one (ps_fld (pv 0) (pv 2) rfl)))), ?_⟩
    refine ⟨_, rfl, f', rfl, hw, fun H1 S1 => ⟨_, rfl, p, C 0, dx, [], rfl, S1 _ _ hp, T.cl 0 hi, T.no 0 hi _ (List.mem_of_getElem? (i := 0) rfl), (by show 0 < 1000; decide), _, rfl, _, rfl, p, C 0, dx, _, rfl, upd_same, T.cl 0 hi, T.no 0 hi _ (List.mem_of_getElem? (i := 1) rfl), (by show 1 < 1000; decide), _, rfl, _, rfl, p, C 0, dx, _, rfl, upd_same, T.cl 0 hi, T.no 0 hi _ (List.mem_of_getElem? (i := 2) rfl), (by show 2 < 1000; decide), ?_⟩⟩
    refine q _ upd_same fun c o e n => ?_
    simp only [upd_ne n]
    exact S1 _ _ e
theorem scRefI : FnScope ["self", "function", "places"] ["self", "function", "places"] (defScope sRefInit) := ⟨rfl, rfl, rfl, by decide +kernel, rfl, by decide +kernel, by decide +kernel⟩
theorem ok_RefI {f : Addr} {fd : FuncData} (F : Fun K "__init__" "Refuses.__init__" sRefInit f fd) (T : CTxt K mg C) (CW : Cl P w K mg base 2 "check_word" ["value"] spChkW) : FnOk P w K mg base CX0 4 f fd ["self", "function", "places"] (spCInit C 1) := by
  refine F.ok scRefI (fun vs H Q E h => ?_) (fun cdv A outer s0 H vs Q E hr h => ?_)
  · obtain ⟨p, dx, f', pl, x, rfl, _, rfl, _⟩ := h
    rfl
  · obtain ⟨p, dx, f', pl, x, rfl, hw, rfl, hp, q⟩ := h
    have hi : 1 < 7 := by decide
    refine ⟨_, pss_cons (ps_expr (pe_cl CW hr (by decide) (by rfl) (pa_cons (pv 1) pa_nil)))
      (pss_cons (ps_fld (pv 0) pe_str rfl)
      (pss_cons (ps_fld (pv 0) (pv 1) rfl)
      (pss_one (ps_fld (pv 0) (pv 2) rfl)))), ?_⟩
    refine ⟨_, rfl, f', rfl, hw, fun H1 S1 => ⟨_, rfl, p, C 1, dx, [], rfl, S1 _ _ hp, T.cl 1 hi, T.no 1 hi _ (List.mem_of_getElem? (i := 0) rfl), (by show 0 < 1000; decide), _, rfl, _, rfl, p, C 1, dx, _, rfl, upd_same, T.cl 1 hi, T.no 1 hi _ (List.mem_of_getElem? (i := 1) rfl), (by show 1 < 1000; decide), _, rfl, _, rfl, p, C 1, dx, _, rfl, upd_same, T.cl 1 hi, T.no 1 hi _ (List.mem_of_getElem? (i := 2) rfl), (by show 2 < 1000; decide), ?_⟩⟩
    refine q _ upd_same fun c o e n => ?_
    simp only [upd_ne n]
    exact S1 _ _ e
theorem scNeeI : FnScope ["self", "function", "places", "other"] ["self", "function", "places", "other"] (defScope sNeeInit) := ⟨rfl, rfl, rfl, by decide +kernel, rfl, by decide +kernel, by decide +kernel⟩
theorem ok_NeeI {f : Addr} {fd : FuncData} (F : Fun K "__init__" "Needs.__init__" sNeeInit f fd) (T : CTxt K mg C) (CT : Cl P w K mg base 3 "check_two_words" ["function", "other"] spChkTwo) : FnOk P w K mg base CX0 4 f fd ["self", "function", "places", "other"] (spCInit C 2) := by
  refine F.ok scNeeI (fun vs H Q E h => ?_) (fun cdv A outer s0 H vs Q E hr h => ?_)
  · obtain ⟨p, dx, f', pl, x, rfl, _, ⟨g, rfl, hg, ng⟩, _⟩ := h
    rfl
  · obtain ⟨p, dx, f', pl, x, rfl, hw, ⟨g, rfl, hg, ng⟩, hp, q⟩ := h
    have hi : 2 < 7 := by decide
    refine ⟨_, pss_cons (ps_expr (pe_cl CT hr (by decide) (by rfl) (pa_cons (pv 1) (pa_cons (pv 3) pa_nil))))
      (pss_cons (ps_fld (pv 0) pe_str rfl)
      (pss_cons (ps_fld (pv 0) (pv 1) rfl)
      (pss_cons (ps_fld (pv 0) (pv 2) rfl)
      (pss_one (ps_fld (pv 0) (pv 3) rfl))))), ?_⟩
    refine ⟨_, rfl, _, rfl, f', g, rfl, hw, hg, ng.symm, fun H1 S1 => ⟨_, rfl, p, C 2, dx, [], rfl, S1 _ _ hp, T.cl 2 hi, T.no 2 hi _ (List.mem_of_getElem? (i := 0) rfl), (by show 0 < 1000; decide), _, rfl, _, rfl, p, C 2, dx, _, rfl, upd_same, T.cl 2 hi, T.no 2 hi _ (List.mem_of_getElem? (i := 1) rfl), (by show 1 < 1000; decide), _, rfl, _, rfl, p, C 2, dx, _, rfl, upd_same, T.cl 2 hi, T.no 2 hi _ (List.mem_of_getElem? (i := 2) rfl), (by show 2 < 1000; decide), _, rfl, _, rfl, p, C 2, dx, _, rfl, upd_same, T.cl 2 hi, T.no 2 hi _ (List.mem_of_getElem? (i := 3) rfl), (by show 3 < 1000; decide), ?_⟩⟩
    refine q _ upd_same fun c o e n => ?_
    simp only [upd_ne n]
    exact S1 _ _ e
theorem scSprI : FnScope ["self", "function", "places", "way"] ["self", "function", "places", "way"] (defScope sSprInit) := ⟨rfl, rfl, rfl, by decide +kernel, rfl, by decide +kernel, by decide +kernel⟩
theorem ok_SprI {f : Addr} {fd : FuncData} (F : Fun K "__init__" "Spreads.__init__" sSprInit f fd) (T : CTxt K mg C) (CW : Cl P w K mg base 2 "check_word" ["value"] spChkW) (CS : Cl P w K mg base 1 "check_sign" ["value", "allowed"] (spChkS K)) (WT : WTxt K mg ts tw) : FnOk P w K mg base CX0 4 f fd ["self", "function", "places", "way"] (spCInit C 3) := by
  refine F.ok scSprI (fun vs H Q E h => ?_) (fun cdv A outer s0 H vs Q E hr h => ?_)
  · obtain ⟨p, dx, f', pl, x, rfl, _, ⟨w, rfl, hs⟩, _⟩ := h
    rfl
  · obtain ⟨p, dx, f', pl, x, rfl, hw, ⟨w, rfl, hs⟩, hp, q⟩ := h
    have hi : 3 < 7 := by decide
    refine ⟨_, pss_cons (ps_expr (pe_cl CW hr (by decide) (by rfl) (pa_cons (pv 1) pa_nil)))
      (pss_cons (ps_expr (pe_cl CS hr (by decide) (by rfl) (pa_cons (pv 3) (pa_cons (pe_glob (v := .ref tw) (by rfl) WT.gW rfl) pa_nil))))
      (pss_cons (ps_fld (pv 0) pe_str rfl)
      (pss_cons (ps_fld (pv 0) (pv 1) rfl)
      (pss_cons (ps_fld (pv 0) (pv 2) rfl)
      (pss_one (ps_fld (pv 0) (pv 3) rfl)))))), ?_⟩
    refine ⟨_, rfl, f', rfl, hw, fun H1 S1 => ⟨_, rfl, w, tw, ["up", "down"], rfl, WT.hW _, way_in hs, _, rfl, p, C 3, dx, [], rfl, S1 _ _ hp, T.cl 3 hi, T.no 3 hi _ (List.mem_of_getElem? (i := 0) rfl), (by show 0 < 1000; decide), _, rfl, _, rfl, p, C 3, dx, _, rfl, upd_same, T.cl 3 hi, T.no 3 hi _ (List.mem_of_getElem? (i := 1) rfl), (by show 1 < 1000; decide), _, rfl, _, rfl, p, C 3, dx, _, rfl, upd_same, T.cl 3 hi, T.no 3 hi _ (List.mem_of_getElem? (i := 2) rfl), (by show 2 < 1000; decide), _, rfl, _, rfl, p, C 3, dx, _, rfl, upd_same, T.cl 3 hi, T.no 3 hi _ (List.mem_of_getElem? (i := 3) rfl), (by show 3 < 1000; decide), ?_⟩⟩
    refine q _ upd_same fun c o e n => ?_
    simp only [upd_ne n]
    exact S1 _ _ e
theorem scBouI : FnScope ["self", "function", "places", "sign", "slope", "height"] ["self", "function", "places", "sign", "slope", "height"] (defScope sBouInit) := ⟨rfl, rfl, rfl, by decide +kernel, rfl, by decide +kernel, by decide +kernel⟩
theorem ok_BouI {f : Addr} {fd : FuncData} (F : Fun K "__init__" "Bound.__init__" sBouInit f fd) (T : CTxt K mg C) (CW : Cl P w K mg base 2 "check_word" ["value"] spChkW) (CS : Cl P w K mg base 1 "check_sign" ["value", "allowed"] (spChkS K)) (WT : WTxt K mg ts tw) : FnOk P w K mg base CX0 4 f fd ["self", "function", "places", "sign", "slope", "height"] (spCInit C 4) := by
  refine F.ok scBouI (fun vs H Q E h => ?_) (fun cdv A outer s0 H vs Q E hr h => ?_)
  · obtain ⟨p, dx, f', pl, x, rfl, _, ⟨s, a, b, rfl, hs, na, nb⟩, _⟩ := h
    rfl
  · obtain ⟨p, dx, f', pl, x, rfl, hw, ⟨s, a, b, rfl, hs, na, nb⟩, hp, q⟩ := h
    have hi : 4 < 7 := by decide
    refine ⟨_, pss_cons (ps_expr (pe_cl CW hr (by decide) (by rfl) (pa_cons (pv 1) pa_nil)))
      (pss_cons (ps_expr (pe_cl CS hr (by decide) (by rfl) (pa_cons (pv 3) (pa_cons (pe_glob (v := .ref ts) (by rfl) WT.gS rfl) pa_nil))))
      (pss_cons (ps_fld (pv 0) pe_str rfl)
      (pss_cons (ps_fld (pv 0) (pv 1) rfl)
      (pss_cons (ps_fld (pv 0) (pv 2) rfl)
      (pss_cons (ps_fld (pv 0) (pv 3) rfl)
      (pss_cons (ps_fld (pv 0) (pv 4) rfl)
      (pss_one (ps_fld (pv 0) (pv 5) rfl)))))))), ?_⟩
    refine ⟨_, rfl, f', rfl, hw, fun H1 S1 => ⟨_, rfl, s, ts, ["<=", ">=", "="], rfl, WT.hS _, sign_in hs, _, rfl, p, C 4, dx, [], rfl, S1 _ _ hp, T.cl 4 hi, T.no 4 hi _ (List.mem_of_getElem? (i := 0) rfl), (by show 0 < 1000; decide), _, rfl, _, rfl, p, C 4, dx, _, rfl, upd_same, T.cl 4 hi, T.no 4 hi _ (List.mem_of_getElem? (i := 1) rfl), (by show 1 < 1000; decide), _, rfl, _, rfl, p, C 4, dx, _, rfl, upd_same, T.cl 4 hi, T.no 4 hi _ (List.mem_of_getElem? (i := 2) rfl), (by show 2 < 1000; decide), _, rfl, _, rfl, p, C 4, dx, _, rfl, upd_same, T.cl 4 hi, T.no 4 hi _ (List.mem_of_getElem? (i := 3) rfl), (by show 3 < 1000; decide), _, rfl, _, rfl, p, C 4, dx, _, rfl, upd_same, T.cl 4 hi, T.no 4 hi _ (List.mem_of_getElem? (i := 4) rfl), (by show 4 < 1000; decide), _, rfl, _, rfl, p, C 4, dx, _, rfl, upd_same, T.cl 4 hi, T.no 4 hi _ (List.mem_of_getElem? (i := 5) rfl), (by show 5 < 1000; decide), ?_⟩⟩
    refine q _ upd_same fun c o e n => ?_
    simp only [upd_ne n]
    exact S1 _ _ e
theorem scPaiI : FnScope ["self", "function", "places", "sign", "other", "slope", "height"] ["self", "function", "places", "sign", "other", "slope", "height"] (defScope sPaiInit) := ⟨rfl, rfl, rfl, by decide +kernel, rfl, by decide +kernel, by decide +kernel⟩
theorem ok_PaiI {f : Addr} {fd : FuncData} (F : Fun K "__init__" "Pair.__init__" sPaiInit f fd) (T : CTxt K mg C) (CT : Cl P w K mg base 3 "check_two_words" ["function", "other"] spChkTwo) (CS : Cl P w K mg base 1 "check_sign" ["value", "allowed"] (spChkS K)) (WT : WTxt K mg ts tw) : FnOk P w K mg base CX0 4 f fd ["self", "function", "places", "sign", "other", "slope", "height"] (spCInit C 5) := by
  refine F.ok scPaiI (fun vs H Q E h => ?_) (fun cdv A outer s0 H vs Q E hr h => ?_)
  · obtain ⟨p, dx, f', pl, x, rfl, _, ⟨s, g, a, b, rfl, hs, hg, ng, na, nb⟩, _⟩ := h
    rfl
  · obtain ⟨p, dx, f', pl, x, rfl, hw, ⟨s, g, a, b, rfl, hs, hg, ng, na, nb⟩, hp, q⟩ := h
    have hi : 5 < 7 := by decide
    refine ⟨_, pss_cons (ps_expr (pe_cl CT hr (by decide) (by rfl) (pa_cons (pv 1) (pa_cons (pv 4) pa_nil))))
      (pss_cons (ps_expr (pe_cl CS hr (by decide) (by rfl) (pa_cons (pv 3) (pa_cons (pe_glob (v := .ref ts) (by rfl) WT.gS rfl) pa_nil))))
      (pss_cons (ps_fld (pv 0) pe_str rfl)
      (pss_cons (ps_fld (pv 0) (pv 1) rfl)
      (pss_cons (ps_fld (pv 0) (pv 2) rfl)
      (pss_cons (ps_fld (pv 0) (pv 3) rfl)
      (pss_cons (ps_fld (pv 0) (pv 4) rfl)
      (pss_cons (ps_fld (pv 0) (pv 5) rfl)
      (pss_one (ps_fld (pv 0) (pv 6) rfl))))))))), ?_⟩
    refine ⟨_, rfl, _, rfl, f', g, rfl, hw, hg, ng.symm, fun H1 S1 => ⟨_, rfl, s, ts, ["<=", ">=", "="], rfl, WT.hS _, sign_in hs, _, rfl, p, C 5, dx, [], rfl, S1 _ _ hp, T.cl 5 hi, T.no 5 hi _ (List.mem_of_getElem? (i := 0) rfl), (by show 0 < 1000; decide), _, rfl, _, rfl, p, C 5, dx, _, rfl, upd_same, T.cl 5 hi, T.no 5 hi _ (List.mem_of_getElem? (i := 1) rfl), (by show 1 < 1000; decide), _, rfl, _, rfl, p, C 5, dx, _, rfl, upd_same, T.cl 5 hi, T.no 5 hi _ (List.mem_of_getElem? (i := 2) rfl), (by show 2 < 1000; decide), _, rfl, _, rfl, p, C 5, dx, _, rfl, upd_same, T.cl 5 hi, T.no 5 hi _ (List.mem_of_getElem? (i := 3) rfl), (by show 3 < 1000; decide), _, rfl, _, rfl, p, C 5, dx, _, rfl, upd_same, T.cl 5 hi, T.no 5 hi _ (List.mem_of_getElem? (i := 4) rfl), (by show 4 < 1000; decide), _, rfl, _, rfl, p, C 5, dx, _, rfl, upd_same, T.cl 5 hi, T.no 5 hi _ (List.mem_of_getElem? (i := 5) rfl), (by show 5 < 1000; decide), _, rfl, _, rfl, p, C 5, dx, _, rfl, upd_same, T.cl 5 hi, T.no 5 hi _ (List.mem_of_getElem? (i := 6) rfl), (by show 6 < 1000; decide), ?_⟩⟩
    refine q _ upd_same fun c o e n => ?_
    simp only [upd_ne n]
    exact S1 _ _ e
theorem scSteI : FnScope ["self", "function", "places", "sign", "height"] ["self", "function", "places", "sign", "height"] (defScope sSteInit) := ⟨rfl, rfl, rfl, by decide +kernel, rfl, by decide +kernel, by decide +kernel⟩
theorem ok_SteI {f : Addr} {fd : FuncData} (F : Fun K "__init__" "Step.__init__" sSteInit f fd) (T : CTxt K mg C) (CW : Cl P w K mg base 2 "check_word" ["value"] spChkW) (CS : Cl P w K mg base 1 "check_sign" ["value", "allowed"] (spChkS K)) (WT : WTxt K mg ts tw) : FnOk P w K mg base CX0 4 f fd ["self", "function", "places", "sign", "height"] (spCInit C 6) := by
  refine F.ok scSteI (fun vs H Q E h => ?_) (fun cdv A outer s0 H vs Q E hr h => ?_)
  · obtain ⟨p, dx, f', pl, x, rfl, _, ⟨s, b, rfl, hs, nb⟩, _⟩ := h
    rfl
  · obtain ⟨p, dx, f', pl, x, rfl, hw, ⟨s, b, rfl, hs, nb⟩, hp, q⟩ := h
    have hi : 6 < 7 := by decide
    refine ⟨_, pss_cons (ps_expr (pe_cl CW hr (by decide) (by rfl) (pa_cons (pv 1) pa_nil)))
      (pss_cons (ps_expr (pe_cl CS hr (by decide) (by rfl) (pa_cons (pv 3) (pa_cons (pe_glob (v := .ref ts) (by rfl) WT.gS rfl) pa_nil))))
      (pss_cons (ps_fld (pv 0) pe_str rfl)
      (pss_cons (ps_fld (pv 0) (pv 1) rfl)
      (pss_cons (ps_fld (pv 0) (pv 2) rfl)
      (pss_cons (ps_fld (pv 0) (pv 3) rfl)
      (pss_one (ps_fld (pv 0) (pv 4) rfl))))))), ?_⟩
    refine ⟨_, rfl, f', rfl, hw, fun H1 S1 => ⟨_, rfl, s, ts, ["<=", ">=", "="], rfl, WT.hS _, sign_in hs, _, rfl, p, C 6, dx, [], rfl, S1 _ _ hp, T.cl 6 hi, T.no 6 hi _ (List.mem_of_getElem? (i := 0) rfl), (by show 0 < 1000; decide), _, rfl, _, rfl, p, C 6, dx, _, rfl, upd_same, T.cl 6 hi, T.no 6 hi _ (List.mem_of_getElem? (i := 1) rfl), (by show 1 < 1000; decide), _, rfl, _, rfl, p, C 6, dx, _, rfl, upd_same, T.cl 6 hi, T.no 6 hi _ (List.mem_of_getElem? (i := 2) rfl), (by show 2 < 1000; decide), _, rfl, _, rfl, p, C 6, dx, _, rfl, upd_same, T.cl 6 hi, T.no 6 hi _ (List.mem_of_getElem? (i := 3) rfl), (by show 3 < 1000; decide), _, rfl, _, rfl, p, C 6, dx, _, rfl, upd_same, T.cl 6 hi, T.no 6 hi _ (List.mem_of_getElem? (i := 4) rfl), (by show 4 < 1000; decide), ?_⟩⟩
    refine q _ upd_same fun c o e n => ?_
    simp only [upd_ne n]
    exact S1 _ _ e
end
end OR

namespace OR
open PySem PySem.Spec PyProof.Rows L2
open TL (tl numL)
section
variable {P : Program} {w : World} {K : PySem.W.Frag} {mg : Str → Option Value} {base : Heap} {C : Nat → Addr} {CP : Addr} {ts tw : Addr}
theorem scAnsE : FnScope ["self", "other"] ["self", "other"] (defScope sAnsEq) := ⟨rfl, rfl, rfl, by decide +kernel, rfl, by decide +kernel, by decide +kernel⟩
theorem ok_AnsE {f : Addr} {fd : FuncData} (F : Fun K "__eq__" "Answers.__eq__" sAnsEq f fd) (T : CTxt K mg C) (PT : PTxt K mg CP) (EQ : Md P w K mg base 1 CP "__eq__" (spPlEq K CP)) : FnOk P w K mg base CX0 2 f fd ["self", "other"] (spCEq K CP C 0) := by
  refine F.ok scAnsE (fun vs H Q E h => ?_) (fun cdv A outer s0 H vs Q E hr h => ?_)
  · obtain ⟨p, y, f1, l, x, rfl, _⟩ := h
    rfl
  · obtain ⟨p, y, f1, l, x, rfl, hA, h⟩ := h
    have hi : 0 < 7 := by decide
    have nd := scAnsE.nd
    refine ⟨_, pss_one (ps_ret (pe_and (pe_callB call_isi (by rfl) PT.zIsi bt_isi (pa_cons (pv 1) (pa_cons (pe_glob (v := .ref (C 0)) (by rfl) (T.mgC 0 hi) rfl) pa_nil))) (pe_and (pe_cmpR op_eq (pe_fld (pv 0) rfl) (pe_fld (pv 1) rfl) (nomark _)) (pe_one (pe_cmpR (op_eqO K rfl EQ (hr.mono (by decide))) (pe_fld (pv 0) rfl) (pe_fld (pv 1) rfl) (nomark _)))))), ?_⟩
    obtain ⟨⟨dx, pl, hz, hp⟩, _, _, wf, _, _⟩ := hA
    rcases h with ⟨z2, j, f2, m, u, rfl, hB, q⟩ | ⟨Ty, hT, hk, q⟩
    · by_cases e : j = 0
      · subst e
        obtain ⟨⟨dy, pm, hy, hpm⟩, _, _, wf2, _, _⟩ := hB
        cases (show x = [] from wf)
        cases (show u = [] from wf2)
        have key : ceq 0 f1 l [] 0 f2 m [] = decide (f1 = f2 ∧ l = m) := by
          unfold ceq
          exact decide_eq_decide.mpr (by simp)
        rw [key] at q
        have no : ¬ (f1 = f2 ∧ l = m) → Q (.bl false) H := fun h => by
          rw [decide_eq_false h] at q
          exact q
        clear key
        refine ⟨_, rfl, .ref z2, .ref (C 0), _, _, true, rfl, .own (C 0), tyC T hi hy, T.kk 0 hi 0 hi, _, rfl, iteT ?_⟩
        refine ⟨_, rfl, fld T hz hi (j := 1) rfl rfl ⟨_, rfl, fld T hy hi (j := 1) rfl rfl ⟨rfl, _, rfl, ite2 (fun e1 => ?_) (fun e1 => (no fun z => e1 (decide_eq_true (by rw [z.1]))))⟩⟩⟩
        have E_function := V.str.inj (of_decide_eq_true e1)
        exact ⟨_, rfl, fld T hz hi (j := 2) rfl rfl ⟨_, rfl, fld T hy hi (j := 2) rfl rfl (eq_q PT hp hpm (by rw [show decide (f1 = f2 ∧ l = m) = decide (l = m) from decide_eq_decide.mpr ⟨fun z => z.2, fun zz => ⟨E_function, zz⟩⟩] at q; exact q))⟩⟩
      · have kf : PySem.W.kitOne K (.ref (C j)) (.ref (C 0)) = some false := by
          rw [T.kk j hB.lt 0 hi, decide_eq_false e]
        rw [show ceq 0 f1 l x j f2 m u = false from decide_eq_false fun z => e z.1.symm] at q
        obtain ⟨dy, pm, hy, _⟩ := hB.ex
        exact ⟨_, rfl, .ref z2, .ref (C 0), _, _, false, rfl, .own (C 0), tyC T hB.lt hy, kf, _, rfl, iteF q⟩
    · exact ⟨_, rfl, y, .ref (C 0), _, _, false, rfl, .own (C 0), hT, hk, _, rfl, iteF q⟩
theorem scRefE : FnScope ["self", "other"] ["self", "other"] (defScope sRefEq) := ⟨rfl, rfl, rfl, by decide +kernel, rfl, by decide +kernel, by decide +kernel⟩
theorem ok_RefE {f : Addr} {fd : FuncData} (F : Fun K "__eq__" "Refuses.__eq__" sRefEq f fd) (T : CTxt K mg C) (PT : PTxt K mg CP) (EQ : Md P w K mg base 1 CP "__eq__" (spPlEq K CP)) : FnOk P w K mg base CX0 2 f fd ["self", "other"] (spCEq K CP C 1) := by
  refine F.ok scRefE (fun vs H Q E h => ?_) (fun cdv A outer s0 H vs Q E hr h => ?_)
  · obtain ⟨p, y, f1, l, x, rfl, _⟩ := h
    rfl
  · obtain ⟨p, y, f1, l, x, rfl, hA, h⟩ := h
    have hi : 1 < 7 := by decide
    have nd := scRefE.nd
    refine ⟨_, pss_one (ps_ret (pe_and (pe_callB call_isi (by rfl) PT.zIsi bt_isi (pa_cons (pv 1) (pa_cons (pe_glob (v := .ref (C 1)) (by rfl) (T.mgC 1 hi) rfl) pa_nil))) (pe_and (pe_cmpR op_eq (pe_fld (pv 0) rfl) (pe_fld (pv 1) rfl) (nomark _)) (pe_one (pe_cmpR (op_eqO K rfl EQ (hr.mono (by decide))) (pe_fld (pv 0) rfl) (pe_fld (pv 1) rfl) (nomark _)))))), ?_⟩
    obtain ⟨⟨dx, pl, hz, hp⟩, _, _, wf, _, _⟩ := hA
    rcases h with ⟨z2, j, f2, m, u, rfl, hB, q⟩ | ⟨Ty, hT, hk, q⟩
    · by_cases e : j = 1
      · subst e
        obtain ⟨⟨dy, pm, hy, hpm⟩, _, _, wf2, _, _⟩ := hB
        cases (show x = [] from wf)
        cases (show u = [] from wf2)
        have key : ceq 1 f1 l [] 1 f2 m [] = decide (f1 = f2 ∧ l = m) := by
          unfold ceq
          exact decide_eq_decide.mpr (by simp)
        rw [key] at q
        have no : ¬ (f1 = f2 ∧ l = m) → Q (.bl false) H := fun h => by
          rw [decide_eq_false h] at q
          exact q
        clear key
        refine ⟨_, rfl, .ref z2, .ref (C 1), _, _, true, rfl, .own (C 1), tyC T hi hy, T.kk 1 hi 1 hi, _, rfl, iteT ?_⟩
        refine ⟨_, rfl, fld T hz hi (j := 1) rfl rfl ⟨_, rfl, fld T hy hi (j := 1) rfl rfl ⟨rfl, _, rfl, ite2 (fun e1 => ?_) (fun e1 => (no fun z => e1 (decide_eq_true (by rw [z.1]))))⟩⟩⟩
        have E_function := V.str.inj (of_decide_eq_true e1)
        exact ⟨_, rfl, fld T hz hi (j := 2) rfl rfl ⟨_, rfl, fld T hy hi (j := 2) rfl rfl (eq_q PT hp hpm (by rw [show decide (f1 = f2 ∧ l = m) = decide (l = m) from decide_eq_decide.mpr ⟨fun z => z.2, fun zz => ⟨E_function, zz⟩⟩] at q; exact q))⟩⟩
      · have kf : PySem.W.kitOne K (.ref (C j)) (.ref (C 1)) = some false := by
          rw [T.kk j hB.lt 1 hi, decide_eq_false e]
        rw [show ceq 1 f1 l x j f2 m u = false from decide_eq_false fun z => e z.1.symm] at q
        obtain ⟨dy, pm, hy, _⟩ := hB.ex
        exact ⟨_, rfl, .ref z2, .ref (C 1), _, _, false, rfl, .own (C 1), tyC T hB.lt hy, kf, _, rfl, iteF q⟩
    · exact ⟨_, rfl, y, .ref (C 1), _, _, false, rfl, .own (C 1), hT, hk, _, rfl, iteF q⟩
theorem scNeeE : FnScope ["self", "other"] ["self", "other"] (defScope sNeeEq) := ⟨rfl, rfl, rfl, by decide +kernel, rfl, by decide +kernel, by decide +kernel⟩
theorem ok_NeeE {f : Addr} {fd : FuncData} (F : Fun K "__eq__" "Needs.__eq__" sNeeEq f fd) (T : CTxt K mg C) (PT : PTxt K mg CP) (EQ : Md P w K mg base 1 CP "__eq__" (spPlEq K CP)) : FnOk P w K mg base CX0 2 f fd ["self", "other"] (spCEq K CP C 2) := by
  refine F.ok scNeeE (fun vs H Q E h => ?_) (fun cdv A outer s0 H vs Q E hr h => ?_)
  · obtain ⟨p, y, f1, l, x, rfl, _⟩ := h
    rfl
  · obtain ⟨p, y, f1, l, x, rfl, hA, h⟩ := h
    have hi : 2 < 7 := by decide
    have nd := scNeeE.nd
    refine ⟨_, pss_cons (ps_if (pt_not (pt_val (pe_callB call_isi (by rfl) PT.zIsi bt_isi (pa_cons (pv 1) (pa_cons (pe_glob (v := .ref (C 2)) (by rfl) (T.mgC 2 hi) rfl) pa_nil))))) (pss_one (ps_ret pe_bl)) pss_nil)
      (pss_one (ps_ret (pe_and (pe_cmpR op_eq (pe_fld (pv 0) rfl) (pe_fld (pv 1) rfl) (nomark _)) (pe_and (pe_cmpR (op_eqO K rfl EQ (hr.mono (by decide))) (pe_fld (pv 0) rfl) (pe_fld (pv 1) rfl) (nomark _)) (pe_one (pe_cmpR op_eq (pe_fld (pv 0) rfl) (pe_fld (pv 1) rfl) (nomark _))))))), ?_⟩
    obtain ⟨⟨dx, pl, hz, hp⟩, _, _, wf, _, _⟩ := hA
    rcases h with ⟨z2, j, f2, m, u, rfl, hB, q⟩ | ⟨Ty, hT, hk, q⟩
    · by_cases e : j = 2
      · subst e
        obtain ⟨⟨dy, pm, hy, hpm⟩, _, _, wf2, _, _⟩ := hB
        obtain ⟨g, rfl, hg, ng⟩ := wf
        obtain ⟨g', rfl, _, _⟩ := wf2
        have key : ceq 2 f1 l [.str g] 2 f2 m [.str g'] = decide (f1 = f2 ∧ l = m ∧ g = g') := by
          unfold ceq
          exact decide_eq_decide.mpr (by simp)
        rw [key] at q
        have no : ¬ (f1 = f2 ∧ l = m ∧ g = g') → Q (.bl false) H := fun h => by
          rw [decide_eq_false h] at q
          exact q
        clear key
        refine ⟨_, rfl, .ref z2, .ref (C 2), _, _, true, rfl, .own (C 2), tyC T hi hy, T.kk 2 hi 2 hi, _, rfl, iteF ?_⟩
        refine ⟨_, rfl, fld T hz hi (j := 1) rfl rfl ⟨_, rfl, fld T hy hi (j := 1) rfl rfl ⟨rfl, _, rfl, ite2 (fun e1 => ?_) (fun e1 => (no fun z => e1 (decide_eq_true (by rw [z.1]))))⟩⟩⟩
        have E_function := V.str.inj (of_decide_eq_true e1)
        refine ⟨_, rfl, fld T hz hi (j := 2) rfl rfl ⟨_, rfl, fld T hy hi (j := 2) rfl rfl (eq_q PT hp hpm ⟨_, rfl, ite2 (fun e2 => ?_) (fun e2 => no fun z => e2 (decide_eq_true z.2.1))⟩)⟩⟩
        have E_places : l = m := of_decide_eq_true e2
        exact ⟨_, rfl, fld T hz hi (j := 3) rfl rfl ⟨_, rfl, fld T hy hi (j := 3) rfl rfl ⟨rfl, (by rw [show decide (f1 = f2 ∧ l = m ∧ g = g') = decide (V.str g = V.str g') from decide_eq_decide.mpr ⟨fun z => by rw [z.2.2], fun zz => ⟨E_function, E_places, V.str.inj zz⟩⟩] at q; exact q)⟩⟩⟩
      · have kf : PySem.W.kitOne K (.ref (C j)) (.ref (C 2)) = some false := by
          rw [T.kk j hB.lt 2 hi, decide_eq_false e]
        rw [show ceq 2 f1 l x j f2 m u = false from decide_eq_false fun z => e z.1.symm] at q
        obtain ⟨dy, pm, hy, _⟩ := hB.ex
        exact ⟨_, rfl, .ref z2, .ref (C 2), _, _, false, rfl, .own (C 2), tyC T hB.lt hy, kf, _, rfl, iteT q⟩
    · exact ⟨_, rfl, y, .ref (C 2), _, _, false, rfl, .own (C 2), hT, hk, _, rfl, iteT q⟩
theorem scSprE : FnScope ["self", "other"] ["self", "other"] (defScope sSprEq) := ⟨rfl, rfl, rfl, by decide +kernel, rfl, by decide +kernel, by decide +kernel⟩
theorem ok_SprE {f : Addr} {fd : FuncData} (F : Fun K "__eq__" "Spreads.__eq__" sSprEq f fd) (T : CTxt K mg C) (PT : PTxt K mg CP) (EQ : Md P w K mg base 1 CP "__eq__" (spPlEq K CP)) : FnOk P w K mg base CX0 2 f fd ["self", "other"] (spCEq K CP C 3) := by
  refine F.ok scSprE (fun vs H Q E h => ?_) (fun cdv A outer s0 H vs Q E hr h => ?_)
  · obtain ⟨p, y, f1, l, x, rfl, _⟩ := h
    rfl
  · obtain ⟨p, y, f1, l, x, rfl, hA, h⟩ := h
    have hi : 3 < 7 := by decide
    have nd := scSprE.nd
    refine ⟨_, pss_cons (ps_if (pt_not (pt_val (pe_callB call_isi (by rfl) PT.zIsi bt_isi (pa_cons (pv 1) (pa_cons (pe_glob (v := .ref (C 3)) (by rfl) (T.mgC 3 hi) rfl) pa_nil))))) (pss_one (ps_ret pe_bl)) pss_nil)
      (pss_one (ps_ret (pe_and (pe_cmpR op_eq (pe_fld (pv 0) rfl) (pe_fld (pv 1) rfl) (nomark _)) (pe_and (pe_cmpR (op_eqO K rfl EQ (hr.mono (by decide))) (pe_fld (pv 0) rfl) (pe_fld (pv 1) rfl) (nomark _)) (pe_one (pe_cmpR op_eq (pe_fld (pv 0) rfl) (pe_fld (pv 1) rfl) (nomark _))))))), ?_⟩
    obtain ⟨⟨dx, pl, hz, hp⟩, _, _, wf, _, _⟩ := hA
    rcases h with ⟨z2, j, f2, m, u, rfl, hB, q⟩ | ⟨Ty, hT, hk, q⟩
    · by_cases e : j = 3
      · subst e
        obtain ⟨⟨dy, pm, hy, hpm⟩, _, _, wf2, _, _⟩ := hB
        obtain ⟨w, rfl, hs⟩ := wf
        obtain ⟨w', rfl, _⟩ := wf2
        have key : ceq 3 f1 l [.str w] 3 f2 m [.str w'] = decide (f1 = f2 ∧ l = m ∧ w = w') := by
          unfold ceq
          exact decide_eq_decide.mpr (by simp)
        rw [key] at q
        have no : ¬ (f1 = f2 ∧ l = m ∧ w = w') → Q (.bl false) H := fun h => by
          rw [decide_eq_false h] at q
          exact q
        clear key
        refine ⟨_, rfl, .ref z2, .ref (C 3), _, _, true, rfl, .own (C 3), tyC T hi hy, T.kk 3 hi 3 hi, _, rfl, iteF ?_⟩
        refine ⟨_, rfl, fld T hz hi (j := 1) rfl rfl ⟨_, rfl, fld T hy hi (j := 1) rfl rfl ⟨rfl, _, rfl, ite2 (fun e1 => ?_) (fun e1 => (no fun z => e1 (decide_eq_true (by rw [z.1]))))⟩⟩⟩
        have E_function := V.str.inj (of_decide_eq_true e1)
        refine ⟨_, rfl, fld T hz hi (j := 2) rfl rfl ⟨_, rfl, fld T hy hi (j := 2) rfl rfl (eq_q PT hp hpm ⟨_, rfl, ite2 (fun e2 => ?_) (fun e2 => no fun z => e2 (decide_eq_true z.2.1))⟩)⟩⟩
        have E_places : l = m := of_decide_eq_true e2
        exact ⟨_, rfl, fld T hz hi (j := 3) rfl rfl ⟨_, rfl, fld T hy hi (j := 3) rfl rfl ⟨rfl, (by rw [show decide (f1 = f2 ∧ l = m ∧ w = w') = decide (V.str w = V.str w') from decide_eq_decide.mpr ⟨fun z => by rw [z.2.2], fun zz => ⟨E_function, E_places, V.str.inj zz⟩⟩] at q; exact q)⟩⟩⟩
      · have kf : PySem.W.kitOne K (.ref (C j)) (.ref (C 3)) = some false := by
          rw [T.kk j hB.lt 3 hi, decide_eq_false e]
        rw [show ceq 3 f1 l x j f2 m u = false from decide_eq_false fun z => e z.1.symm] at q
        obtain ⟨dy, pm, hy, _⟩ := hB.ex
        exact ⟨_, rfl, .ref z2, .ref (C 3), _, _, false, rfl, .own (C 3), tyC T hB.lt hy, kf, _, rfl, iteT q⟩
    · exact ⟨_, rfl, y, .ref (C 3), _, _, false, rfl, .own (C 3), hT, hk, _, rfl, iteT q⟩
theorem scBouE : FnScope ["self", "other", "same_line"] ["self", "other"] (defScope sBouEq) := ⟨rfl, rfl, rfl, by decide +kernel, rfl, by decide +kernel, by decide +kernel⟩
theorem ok_BouE {f : Addr} {fd : FuncData} (F : Fun K "__eq__" "Bound.__eq__" sBouEq f fd) (T : CTxt K mg C) (PT : PTxt K mg CP) (EQ : Md P w K mg base 1 CP "__eq__" (spPlEq K CP)) : FnOk P w K mg base CX0 2 f fd ["self", "other"] (spCEq K CP C 4) := by
  refine F.ok scBouE (fun vs H Q E h => ?_) (fun cdv A outer s0 H vs Q E hr h => ?_)
  · obtain ⟨p, y, f1, l, x, rfl, _⟩ := h
    rfl
  · obtain ⟨p, y, f1, l, x, rfl, hA, h⟩ := h
    have hi : 4 < 7 := by decide
    have nd := scBouE.nd
    refine ⟨_, pss_cons (ps_if (PW.pt (pw_or (pt_not (pt_val (pe_callB call_isi (by rfl) PT.zIsi bt_isi (pa_cons (pv 1) (pa_cons (pe_glob (v := .ref (C 4)) (by rfl) (T.mgC 4 hi) rfl) pa_nil))))) (pw_or1 (pt_cmpR op_ne (pe_fld (pv 0) rfl) (pe_fld (pv 1) rfl) (nomark _))))) (pss_one (ps_ret pe_bl)) pss_nil)
      (Evl.pss_cut (ps_set (i := 2) nd rfl (.inl rfl) (pe_and (pe_cmpR op_eq (pe_fld (pv 0) rfl) (pe_fld (pv 1) rfl) (nomark _)) (pe_one (pe_cmpR op_eq (pe_fld (pv 0) rfl) (pe_fld (pv 1) rfl) (nomark _)))))
      (pss_one (ps_ret (pe_and (pv 2) (pe_and (pe_cmpR op_eq (pe_fld (pv 0) rfl) (pe_fld (pv 1) rfl) (nomark _)) (pe_one (pe_cmpR (op_eqO K rfl EQ (hr.mono (by decide))) (pe_fld (pv 0) rfl) (pe_fld (pv 1) rfl) (nomark _)))))))), ?_⟩
    obtain ⟨⟨dx, pl, hz, hp⟩, _, _, wf, _, _⟩ := hA
    rcases h with ⟨z2, j, f2, m, u, rfl, hB, q⟩ | ⟨Ty, hT, hk, q⟩
    · by_cases e : j = 4
      · subst e
        obtain ⟨⟨dy, pm, hy, hpm⟩, _, _, wf2, _, _⟩ := hB
        obtain ⟨s, a, b, rfl, hs, na, nb⟩ := wf
        obtain ⟨s', a', b', rfl, _, _, _⟩ := wf2
        have key : ceq 4 f1 l [.str s, .int a, .int b] 4 f2 m [.str s', .int a', .int b'] = decide (f1 = f2 ∧ l = m ∧ s = s' ∧ a = a' ∧ b = b') := by
          unfold ceq
          exact decide_eq_decide.mpr (by simp)
        rw [key] at q
        have no : ¬ (f1 = f2 ∧ l = m ∧ s = s' ∧ a = a' ∧ b = b') → Q (.bl false) H := fun h => by
          rw [decide_eq_false h] at q
          exact q
        clear key
        refine ⟨_, rfl, .ref z2, .ref (C 4), _, _, true, rfl, .own (C 4), tyC T hi hy, T.kk 4 hi 4 hi, _, rfl, iteF ?_⟩
        refine ⟨_, rfl, fld T hz hi (j := 3) rfl rfl ⟨_, rfl, fld T hy hi (j := 3) rfl rfl ⟨rfl, _, rfl, ?_⟩⟩⟩
        by_cases e0 : V.str s = V.str s'
        · have E_sign := V.str.inj e0
          refine iteNS e0 ?_
          refine ⟨fun σ' H' => σ' = [some (V.ref p), some (.ref z2), some (.bl (decide (a = a' ∧ b = b')))] ∧ H' = H, ?_, ?_⟩
          · refine ⟨_, rfl, fld T hz hi (j := 4) rfl rfl ⟨_, rfl, fld T hy hi (j := 4) rfl rfl ⟨rfl, _, rfl, ite2 (fun e1 => ?_) (fun e1 => ?_)⟩⟩⟩
            · refine ⟨_, rfl, fld T hz hi (j := 5) rfl rfl ⟨_, rfl, fld T hy hi (j := 5) rfl rfl ⟨rfl, ?_, rfl⟩⟩⟩
              rw [show decide (a = a' ∧ b = b') = decide (V.int b = V.int b') from decide_eq_decide.mpr ⟨fun z => by rw [z.2], fun zz => ⟨V.int.inj (of_decide_eq_true e1), V.int.inj zz⟩⟩]
              rfl
            · refine ⟨?_, rfl⟩
              rw [decide_eq_false (fun z : a = a' ∧ b = b' => e1 (decide_eq_true (by rw [z.1])))]
              rfl
          rintro σ' H' ⟨rfl, rfl⟩
          refine ⟨_, rfl, _, rfl, ite2 (fun e1 => ?_) (fun e1 => no fun z => e1 (decide_eq_true ⟨z.2.2.2.1, z.2.2.2.2⟩))⟩
          obtain ⟨E_slope, E_height⟩ := of_decide_eq_true e1
          refine ⟨_, rfl, fld T hz hi (j := 1) rfl rfl ⟨_, rfl, fld T hy hi (j := 1) rfl rfl ⟨rfl, _, rfl, ite2 (fun e2 => ?_) (fun e2 => (no fun z => e2 (decide_eq_true (by rw [z.1]))))⟩⟩⟩
          have E_function := V.str.inj (of_decide_eq_true e2)
          exact ⟨_, rfl, fld T hz hi (j := 2) rfl rfl ⟨_, rfl, fld T hy hi (j := 2) rfl rfl (eq_q PT hp hpm (by rw [show decide (f1 = f2 ∧ l = m ∧ s = s' ∧ a = a' ∧ b = b') = decide (l = m) from decide_eq_decide.mpr ⟨fun z => z.2.1, fun zz => ⟨E_function, zz, E_sign, E_slope, E_height⟩⟩] at q; exact q))⟩⟩
        · rw [decide_eq_false e0]
          exact iteT (no fun z => e0 (by rw [z.2.2.1]))
      · have kf : PySem.W.kitOne K (.ref (C j)) (.ref (C 4)) = some false := by
          rw [T.kk j hB.lt 4 hi, decide_eq_false e]
        rw [show ceq 4 f1 l x j f2 m u = false from decide_eq_false fun z => e z.1.symm] at q
        obtain ⟨dy, pm, hy, _⟩ := hB.ex
        exact ⟨_, rfl, .ref z2, .ref (C 4), _, _, false, rfl, .own (C 4), tyC T hB.lt hy, kf, _, rfl, iteT q⟩
    · exact ⟨_, rfl, y, .ref (C 4), _, _, false, rfl, .own (C 4), hT, hk, _, rfl, iteT q⟩
theorem scPaiE : FnScope ["self", "other", "same_functions", "same_line"] ["self", "other"] (defScope sPaiEq) := ⟨rfl, rfl, rfl, by decide +kernel, rfl, by decide +kernel, by decide +kernel⟩
theorem ok_PaiE {f : Addr} {fd : FuncData} (F : Fun K "__eq__" "Pair.__eq__" sPaiEq f fd) (T : CTxt K mg C) (PT : PTxt K mg CP) (EQ : Md P w K mg base 1 CP "__eq__" (spPlEq K CP)) : FnOk P w K mg base CX0 2 f fd ["self", "other"] (spCEq K CP C 5) := by
  refine F.ok scPaiE (fun vs H Q E h => ?_) (fun cdv A outer s0 H vs Q E hr h => ?_)
  · obtain ⟨p, y, f1, l, x, rfl, _⟩ := h
    rfl
  · obtain ⟨p, y, f1, l, x, rfl, hA, h⟩ := h
    have hi : 5 < 7 := by decide
    have nd := scPaiE.nd
    refine ⟨_, pss_cons (ps_if (PW.pt (pw_or (pt_not (pt_val (pe_callB call_isi (by rfl) PT.zIsi bt_isi (pa_cons (pv 1) (pa_cons (pe_glob (v := .ref (C 5)) (by rfl) (T.mgC 5 hi) rfl) pa_nil))))) (pw_or1 (pt_cmpR op_ne (pe_fld (pv 0) rfl) (pe_fld (pv 1) rfl) (nomark _))))) (pss_one (ps_ret pe_bl)) pss_nil)
      (Evl.pss_cut (ps_set (i := 2) nd rfl (.inl rfl) (pe_and (pe_cmpR op_eq (pe_fld (pv 0) rfl) (pe_fld (pv 1) rfl) (nomark _)) (pe_one (pe_cmpR op_eq (pe_fld (pv 0) rfl) (pe_fld (pv 1) rfl) (nomark _)))))
      (Evl.pss_cut (ps_set (i := 3) nd rfl (.inl rfl) (pe_and (pe_cmpR op_eq (pe_fld (pv 0) rfl) (pe_fld (pv 1) rfl) (nomark _)) (pe_one (pe_cmpR op_eq (pe_fld (pv 0) rfl) (pe_fld (pv 1) rfl) (nomark _)))))
      (pss_one (ps_ret (pe_and (pv 2) (pe_and (pv 3) (pe_one (pe_cmpR (op_eqO K rfl EQ (hr.mono (by decide))) (pe_fld (pv 0) rfl) (pe_fld (pv 1) rfl) (nomark _))))))))), ?_⟩
    obtain ⟨⟨dx, pl, hz, hp⟩, _, _, wf, _, _⟩ := hA
    rcases h with ⟨z2, j, f2, m, u, rfl, hB, q⟩ | ⟨Ty, hT, hk, q⟩
    · by_cases e : j = 5
      · subst e
        obtain ⟨⟨dy, pm, hy, hpm⟩, _, _, wf2, _, _⟩ := hB
        obtain ⟨s, g, a, b, rfl, hs, hg, ng, na, nb⟩ := wf
        obtain ⟨s', g', a', b', rfl, _, _, _, _, _⟩ := wf2
        have key : ceq 5 f1 l [.str s, .str g, .int a, .int b] 5 f2 m [.str s', .str g', .int a', .int b'] = decide (f1 = f2 ∧ l = m ∧ s = s' ∧ g = g' ∧ a = a' ∧ b = b') := by
          unfold ceq
          exact decide_eq_decide.mpr (by simp)
        rw [key] at q
        have no : ¬ (f1 = f2 ∧ l = m ∧ s = s' ∧ g = g' ∧ a = a' ∧ b = b') → Q (.bl false) H := fun h => by
          rw [decide_eq_false h] at q
          exact q
        clear key
        refine ⟨_, rfl, .ref z2, .ref (C 5), _, _, true, rfl, .own (C 5), tyC T hi hy, T.kk 5 hi 5 hi, _, rfl, iteF ?_⟩
        refine ⟨_, rfl, fld T hz hi (j := 3) rfl rfl ⟨_, rfl, fld T hy hi (j := 3) rfl rfl ⟨rfl, _, rfl, ?_⟩⟩⟩
        by_cases e0 : V.str s = V.str s'
        · have E_sign := V.str.inj e0
          refine iteNS e0 ?_
          refine ⟨fun σ' H' => σ' = [some (V.ref p), some (.ref z2), some (.bl (decide (f1 = f2 ∧ g = g'))), none] ∧ H' = H, ?_, ?_⟩
          · refine ⟨_, rfl, fld T hz hi (j := 1) rfl rfl ⟨_, rfl, fld T hy hi (j := 1) rfl rfl ⟨rfl, _, rfl, ite2 (fun e1 => ?_) (fun e1 => ?_)⟩⟩⟩
            · refine ⟨_, rfl, fld T hz hi (j := 4) rfl rfl ⟨_, rfl, fld T hy hi (j := 4) rfl rfl ⟨rfl, ?_, rfl⟩⟩⟩
              rw [show decide (f1 = f2 ∧ g = g') = decide (V.str g = V.str g') from decide_eq_decide.mpr ⟨fun z => by rw [z.2], fun zz => ⟨V.str.inj (of_decide_eq_true e1), V.str.inj zz⟩⟩]
              rfl
            · refine ⟨?_, rfl⟩
              rw [decide_eq_false (fun z : f1 = f2 ∧ g = g' => e1 (decide_eq_true (by rw [z.1])))]
              rfl
          rintro σ' H' ⟨rfl, rfl⟩
          refine ⟨fun σ' H'' => σ' = [some (V.ref p), some (.ref z2), some (.bl (decide (f1 = f2 ∧ g = g'))), some (.bl (decide (a = a' ∧ b = b')))] ∧ H'' = H', ?_, ?_⟩
          · refine ⟨_, rfl, fld T hz hi (j := 5) rfl rfl ⟨_, rfl, fld T hy hi (j := 5) rfl rfl ⟨rfl, _, rfl, ite2 (fun e1 => ?_) (fun e1 => ?_)⟩⟩⟩
            · refine ⟨_, rfl, fld T hz hi (j := 6) rfl rfl ⟨_, rfl, fld T hy hi (j := 6) rfl rfl ⟨rfl, ?_, rfl⟩⟩⟩
              rw [show decide (a = a' ∧ b = b') = decide (V.int b = V.int b') from decide_eq_decide.mpr ⟨fun z => by rw [z.2], fun zz => ⟨V.int.inj (of_decide_eq_true e1), V.int.inj zz⟩⟩]
              rfl
            · refine ⟨?_, rfl⟩
              rw [decide_eq_false (fun z : a = a' ∧ b = b' => e1 (decide_eq_true (by rw [z.1])))]
              rfl
          rintro σ' H' ⟨rfl, rfl⟩
          refine ⟨_, rfl, _, rfl, ite2 (fun e1 => ?_) (fun e1 => no fun z => e1 (decide_eq_true ⟨z.1, z.2.2.2.1⟩))⟩
          obtain ⟨E_function, E_other⟩ := of_decide_eq_true e1
          refine ⟨_, rfl, _, rfl, ite2 (fun e2 => ?_) (fun e2 => no fun z => e2 (decide_eq_true ⟨z.2.2.2.2.1, z.2.2.2.2.2⟩))⟩
          obtain ⟨E_slope, E_height⟩ := of_decide_eq_true e2
          exact ⟨_, rfl, fld T hz hi (j := 2) rfl rfl ⟨_, rfl, fld T hy hi (j := 2) rfl rfl (eq_q PT hp hpm (by rw [show decide (f1 = f2 ∧ l = m ∧ s = s' ∧ g = g' ∧ a = a' ∧ b = b') = decide (l = m) from decide_eq_decide.mpr ⟨fun z => z.2.1, fun zz => ⟨E_function, zz, E_sign, E_other, E_slope, E_height⟩⟩] at q; exact q))⟩⟩
        · rw [decide_eq_false e0]
          exact iteT (no fun z => e0 (by rw [z.2.2.1]))
      · have kf : PySem.W.kitOne K (.ref (C j)) (.ref (C 5)) = some false := by
          rw [T.kk j hB.lt 5 hi, decide_eq_false e]
        rw [show ceq 5 f1 l x j f2 m u = false from decide_eq_false fun z => e z.1.symm] at q
        obtain ⟨dy, pm, hy, _⟩ := hB.ex
        exact ⟨_, rfl, .ref z2, .ref (C 5), _, _, false, rfl, .own (C 5), tyC T hB.lt hy, kf, _, rfl, iteT q⟩
    · exact ⟨_, rfl, y, .ref (C 5), _, _, false, rfl, .own (C 5), hT, hk, _, rfl, iteT q⟩
theorem scSteE : FnScope ["self", "other"] ["self", "other"] (defScope sSteEq) := ⟨rfl, rfl, rfl, by decide +kernel, rfl, by decide +kernel, by decide +kernel⟩
theorem ok_SteE {f : Addr} {fd : FuncData} (F : Fun K "__eq__" "Step.__eq__" sSteEq f fd) (T : CTxt K mg C) (PT : PTxt K mg CP) (EQ : Md P w K mg base 1 CP "__eq__" (spPlEq K CP)) : FnOk P w K mg base CX0 2 f fd ["self", "other"] (spCEq K CP C 6) := by
  refine F.ok scSteE (fun vs H Q E h => ?_) (fun cdv A outer s0 H vs Q E hr h => ?_)
  · obtain ⟨p, y, f1, l, x, rfl, _⟩ := h
    rfl
  · obtain ⟨p, y, f1, l, x, rfl, hA, h⟩ := h
    have hi : 6 < 7 := by decide
    have nd := scSteE.nd
    refine ⟨_, pss_cons (ps_if (PW.pt (pw_or (pt_not (pt_val (pe_callB call_isi (by rfl) PT.zIsi bt_isi (pa_cons (pv 1) (pa_cons (pe_glob (v := .ref (C 6)) (by rfl) (T.mgC 6 hi) rfl) pa_nil))))) (pw_or1 (pt_cmpR op_ne (pe_fld (pv 0) rfl) (pe_fld (pv 1) rfl) (nomark _))))) (pss_one (ps_ret pe_bl)) pss_nil)
      (pss_one (ps_ret (pe_and (pe_cmpR op_eq (pe_fld (pv 0) rfl) (pe_fld (pv 1) rfl) (nomark _)) (pe_and (pe_cmpR (op_eqO K rfl EQ (hr.mono (by decide))) (pe_fld (pv 0) rfl) (pe_fld (pv 1) rfl) (nomark _)) (pe_one (pe_cmpR op_eq (pe_fld (pv 0) rfl) (pe_fld (pv 1) rfl) (nomark _))))))), ?_⟩
    obtain ⟨⟨dx, pl, hz, hp⟩, _, _, wf, _, _⟩ := hA
    rcases h with ⟨z2, j, f2, m, u, rfl, hB, q⟩ | ⟨Ty, hT, hk, q⟩
    · by_cases e : j = 6
      · subst e
        obtain ⟨⟨dy, pm, hy, hpm⟩, _, _, wf2, _, _⟩ := hB
        obtain ⟨s, b, rfl, hs, nb⟩ := wf
        obtain ⟨s', b', rfl, _, _⟩ := wf2
        have key : ceq 6 f1 l [.str s, .int b] 6 f2 m [.str s', .int b'] = decide (f1 = f2 ∧ l = m ∧ s = s' ∧ b = b') := by
          unfold ceq
          exact decide_eq_decide.mpr (by simp)
        rw [key] at q
        have no : ¬ (f1 = f2 ∧ l = m ∧ s = s' ∧ b = b') → Q (.bl false) H := fun h => by
          rw [decide_eq_false h] at q
          exact q
        clear key
        refine ⟨_, rfl, .ref z2, .ref (C 6), _, _, true, rfl, .own (C 6), tyC T hi hy, T.kk 6 hi 6 hi, _, rfl, iteF ?_⟩
        refine ⟨_, rfl, fld T hz hi (j := 3) rfl rfl ⟨_, rfl, fld T hy hi (j := 3) rfl rfl ⟨rfl, _, rfl, ?_⟩⟩⟩
        by_cases e0 : V.str s = V.str s'
        · have E_sign := V.str.inj e0
          refine iteNS e0 ?_
          refine ⟨_, rfl, fld T hz hi (j := 1) rfl rfl ⟨_, rfl, fld T hy hi (j := 1) rfl rfl ⟨rfl, _, rfl, ite2 (fun e1 => ?_) (fun e1 => (no fun z => e1 (decide_eq_true (by rw [z.1]))))⟩⟩⟩
          have E_function := V.str.inj (of_decide_eq_true e1)
          refine ⟨_, rfl, fld T hz hi (j := 2) rfl rfl ⟨_, rfl, fld T hy hi (j := 2) rfl rfl (eq_q PT hp hpm ⟨_, rfl, ite2 (fun e2 => ?_) (fun e2 => no fun z => e2 (decide_eq_true z.2.1))⟩)⟩⟩
          have E_places : l = m := of_decide_eq_true e2
          exact ⟨_, rfl, fld T hz hi (j := 4) rfl rfl ⟨_, rfl, fld T hy hi (j := 4) rfl rfl ⟨rfl, (by rw [show decide (f1 = f2 ∧ l = m ∧ s = s' ∧ b = b') = decide (V.int b = V.int b') from decide_eq_decide.mpr ⟨fun z => by rw [z.2.2.2], fun zz => ⟨E_function, E_places, E_sign, V.int.inj zz⟩⟩] at q; exact q)⟩⟩⟩
        · rw [decide_eq_false e0]
          exact iteT (no fun z => e0 (by rw [z.2.2.1]))
      · have kf : PySem.W.kitOne K (.ref (C j)) (.ref (C 6)) = some false := by
          rw [T.kk j hB.lt 6 hi, decide_eq_false e]
        rw [show ceq 6 f1 l x j f2 m u = false from decide_eq_false fun z => e z.1.symm] at q
        obtain ⟨dy, pm, hy, _⟩ := hB.ex
        exact ⟨_, rfl, .ref z2, .ref (C 6), _, _, false, rfl, .own (C 6), tyC T hB.lt hy, kf, _, rfl, iteT q⟩
    · exact ⟨_, rfl, y, .ref (C 6), _, _, false, rfl, .own (C 6), hT, hk, _, rfl, iteT q⟩
end
end OR

namespace OR
open PySem PySem.Spec PyProof.Rows L2
/-! ### == and != of lists and tuples whose items have their own ==: both answers -/
section
open PySem.SeqAt
open AutoSeq1 (wpAny_loadPart')
open MeetsSeq MeetsSeq2 MeetsSeq3 SeqRoads2
variable {prog : Program} {w : World} {A : Around} {R : Result → Shared → Prop}
/-- what stands at two lists of N items each; J: behind two items that are not equal -/
structure TwoL (l b : Addr) (N : Nat) (s : Shared) (xs ys : Array Value) : Prop where
  ga : ∃ n, s.heap.get? l = some { cls := .type "list", data := .seq xs n }
  gb : ∃ n, s.heap.get? b = some { cls := .type "list", data := .seq ys n }
  za : xs.size = N
  zb : ys.size = N
structure Loop (prog : Program) (w : World) (A : Around) (E : Value → Shared → Prop) (l b : Addr) (N : Nat) (I : Nat → Shared → Prop) (J : Shared → Prop) : Prop where
  at_ : ∀ i s, I i s → ∃ xs ys, TwoL l b N s xs ys ∧ ∀ (h1 : i < xs.size) (h2 : i < ys.size),
    wpAny (model prog w) A.in1 (eqBool xs[i] ys[i]) (fun r t => (r = true ∧ I (i + 1) t) ∨ (r = false ∧ J t)) E s
  no : ∀ t, J t → ∃ xs ys, TwoL l b N t xs ys
theorem loop_eq (l b : Addr) (N : Nat) (I : Nat → Shared → Prop) (J : Shared → Prop) (hl : Loop prog w A (fun e t => R (.error e) t) l b N I J)
    (yes : ∀ t, I N t → R (.ok (.ret (.bool true))) t) (no : ∀ t, J t → R (.ok (.ret (.bool false))) t) (k : Nat) :
    ∀ i : Nat, N - i = k → i ≤ N → ∀ s, I i s →
      wpAny (model prog w) A.in1 (Builtin.«list.__eq__.loop» ⟨[.ref l, .ref b, rawInt i, rawInt 2], []⟩) (GQ.FinOf prog w A R) (fun e t => R (.error e) t) s := by
  induction k with
  | zero =>
    intro i hk hi s h
    obtain ⟨xs, ys, ⟨⟨n1, ga⟩, ⟨n2, gb⟩, za, zb⟩, _⟩ := hl.at_ _ _ h
    obtain rfl : i = N := by omega
    have hR := yes s h
    obtain ⟨hp, g, d, tk, os⟩ := s
    wp_walk using wpAny_loadPart' ga, wpAny_loadPart' gb
    have o1 : xs[((i : Nat) : Int).toNat]? = none := by simp; omega
    have o2 : ys[((i : Nat) : Int).toNat]? = none := by simp; omega
    rw [o1, o2]
    wp_walk using wpAny_loadPart' ga, wpAny_loadPart' gb
    show R (.ok (.ret (.bool (xs.size == ys.size)))) _
    rw [za, zb]
    simpa using hR
  | succ k ih =>
    intro i hk hi s h
    obtain ⟨xs, ys, ⟨⟨n1, ga⟩, ⟨n2, gb⟩, za, zb⟩, turn⟩ := hl.at_ _ _ h
    have i1 : i < xs.size := by omega
    have i2 : i < ys.size := by omega
    have ht := turn i1 i2
    obtain ⟨hp, g, d, tk, os⟩ := s
    wp_walk using wpAny_loadPart' ga, wpAny_loadPart' gb
    have o1 : xs[((i : Nat) : Int).toNat]? = some xs[i] := by simp [i1]
    have o2 : ys[((i : Nat) : Int).toNat]? = some ys[i] := by simp [i2]
    have hc : ((i : Int) + 1) = ((i + 1 : Nat) : Int) := by omega
    rw [o1, o2]
    refine wpAny_bind (wpAny_mono ht (fun r t h2 => ?_) fun _ _ x => x)
    rcases h2 with ⟨rfl, h2⟩ | ⟨rfl, h2⟩
    · have hrec := ih (i + 1) (by omega) (by omega) t h2
      obtain ⟨hp2, g2, d2, tk2, os2⟩ := t
      wp_walk
      rw [hc]
      exact ⟨plainId_quiet plain_eq_loop _, codeAny_builtin entry_eq_loop (by
        rw [Around.under_plainId plain_eq_loop _]; exact hrec)⟩
    · obtain ⟨us, vs, ⟨⟨m1, ha⟩, ⟨m2, hb⟩, ya, yb⟩⟩ := hl.no _ h2
      have hR := no _ h2
      have p1 : i < us.size := by omega
      have p2 : i < vs.size := by omega
      have q1 : us[((i : Nat) : Int).toNat]? = some us[i] := by simp [p1]
      have q2 : vs[((i : Nat) : Int).toNat]? = some vs[i] := by simp [p2]
      obtain ⟨hp2, g2, d2, tk2, os2⟩ := t
      wp_walk using wpAny_loadPart' ha, wpAny_loadPart' hb
      rw [q1, q2]
      wp_walk
      simpa using hR
theorem list_eq (l b : Addr) (N : Nat) (I : Nat → Shared → Prop) (J : Shared → Prop) (hl : Loop prog w A (fun e t => R (.error e) t) l b N I J)
    (yes : ∀ t, I N t → R (.ok (.ret (.bool true))) t) (no : ∀ t, J t → R (.ok (.ret (.bool false))) t) {s : Shared} (h : I 0 s) :
    wpAny (model prog w) A.in1 (Builtin.«list.__eq__» ⟨[.ref l, .ref b], []⟩) (GQ.FinOf prog w A R) (fun e t => R (.error e) t) s := by
  obtain ⟨xs, ys, ⟨⟨n1, ga⟩, ⟨n2, gb⟩, za, zb⟩, _⟩ := hl.at_ _ _ h
  have hrec := loop_eq (A := A) (R := R) l b N I J hl yes no _ 0 rfl (Nat.zero_le _) s h
  obtain ⟨hp, g, d, tk, os⟩ := s
  have f3 := AutoSeq1.sub_list_list
  have hz : ¬ (xs.size != ys.size) = true := by simp [za, zb]
  wp_walk using wpAny_loadPart' ga, wpAny_loadPart' gb
  exact ⟨plainId_quiet plain_eq_loop _, codeAny_builtin entry_eq_loop (by
    rw [Around.under_plainId plain_eq_loop _]; exact hrec)⟩
theorem listLen_eq (l b : Addr) (xs ys : Array Value) (n1 n2 : Nat) (hz : (xs.size != ys.size) = true) {s : Shared} (ga : s.heap.get? l = some { cls := .type "list", data := .seq xs n1 }) (gb : s.heap.get? b = some { cls := .type "list", data := .seq ys n2 }) (no : R (.ok (.ret (.bool false))) s) :
    wpAny (model prog w) A.in1 (Builtin.«list.__eq__» ⟨[.ref l, .ref b], []⟩) (GQ.FinOf prog w A R) (fun e t => R (.error e) t) s := by
  obtain ⟨hp, g, d, tk, os⟩ := s
  have f3 := AutoSeq1.sub_list_list
  wp_walk using wpAny_loadPart' ga, wpAny_loadPart' gb
  exact no
theorem tup_eq (l b : Addr) (xs ys : Array Value) (n1 n2 : Nat) (dd dd2 : Option Addr) (sl sl2 : Array (Option Value)) (I : Nat → Shared → Prop) (J : Shared → Prop)
    (turn : ∀ i (h1 : i < xs.size) (h2 : i < ys.size) s, I i s → wpAny (model prog w) A.in1 (eqBool xs[i] ys[i]) (fun r t => (r = true ∧ I (i + 1) t) ∨ (r = false ∧ J t)) (fun e t => R (.error e) t) s)
    (fin : ∀ s, I (min xs.size ys.size) s → R (.ok (.ret (.bool (xs.size == ys.size)))) s) (no : ∀ t, J t → R (.ok (.ret (.bool false))) t) {s : Shared} (ga : s.heap.get? l = some { cls := .type "tuple", dict := dd, data := .seq xs n1, slots := sl }) (gb : s.heap.get? b = some { cls := .type "tuple", dict := dd2, data := .seq ys n2, slots := sl2 }) (h : I 0 s) :
    wpAny (model prog w) A.in1 (Builtin.«tuple.__eq__» ⟨[.ref l, .ref b], []⟩) (GQ.FinOf prog w A R) (fun e t => R (.error e) t) s := by
  have f2 := AutoSeq1.sub_tuple_tuple
  have hZ : (xs.toList.zip ys.toList).length = min xs.size ys.size := by simp
  have h0 := h
  obtain ⟨hp, g, d, tk, os⟩ := s
  wp_walk using wpAny_loadPart' ga, wpAny_loadPart' gb, wpAny_forIn_list _ (fun rest z t => z.1 = none ∧ ∃ i, rest = (xs.toList.zip ys.toList).drop i ∧ i ≤ min xs.size ys.size ∧ I i t) _
  case turn =>
    rintro ⟨y, x⟩ rest z t ⟨hz', i, hz, hi, hI⟩
    have lt : i < (xs.toList.zip ys.toList).length := by
      rcases Nat.lt_or_ge i (xs.toList.zip ys.toList).length with k | k
      · exact k
      · rw [List.drop_of_length_le k] at hz; cases hz
    have h1 : i < xs.size := by omega
    have h2 : i < ys.size := by omega
    rw [List.drop_eq_getElem_cons lt] at hz
    injection hz with hyx hrest
    have hy : y = xs[i] := by have := congrArg Prod.fst hyx; simpa using this
    have hx : x = ys[i] := by have := congrArg Prod.snd hyx; simpa using this
    subst hy hx
    refine wpAny_bind (wpAny_mono (turn i h1 h2 t hI) (fun r t2 q2 => ?_) fun _ _ x => x)
    rcases q2 with ⟨rfl, q2⟩ | ⟨rfl, q2⟩
    · wp_walk
      exact ⟨rfl, i + 1, hrest, by omega, q2⟩
    · have hR := no _ q2
      wp_walk
      exact hR
  case fin =>
    rintro ⟨b1, b2⟩ t ⟨hb', i, hz, hi, hI⟩
    simp only at hb'
    subst hb'
    have ge : min xs.size ys.size ≤ i := by
      rcases Nat.lt_or_ge i (xs.toList.zip ys.toList).length with k | k
      · rw [List.drop_eq_getElem_cons k] at hz; cases hz
      · exact hZ ▸ k
    obtain rfl : i = min xs.size ys.size := by omega
    have hR := fin t hI
    wp_walk
    simpa [Builtin.Tuple.tupleCompareSizes, bne] using hR
  case h =>
    exact ⟨rfl, 0, rfl, Nat.zero_le _, h0⟩
theorem loop_ne (l b : Addr) (N : Nat) (I : Nat → Shared → Prop) (J : Shared → Prop) (hl : Loop prog w A (fun e t => R (.error e) t) l b N I J)
    (yes : ∀ t, I N t → R (.ok (.ret (.bool false))) t) (no : ∀ t, J t → R (.ok (.ret (.bool true))) t) (k : Nat) :
    ∀ i : Nat, N - i = k → i ≤ N → ∀ s, I i s →
      wpAny (model prog w) A.in1 (Builtin.«list.__eq__.loop» ⟨[.ref l, .ref b, rawInt i, rawInt 3], []⟩) (GQ.FinOf prog w A R) (fun e t => R (.error e) t) s := by
  induction k with
  | zero =>
    intro i hk hi s h
    obtain ⟨xs, ys, ⟨⟨n1, ga⟩, ⟨n2, gb⟩, za, zb⟩, _⟩ := hl.at_ _ _ h
    obtain rfl : i = N := by omega
    have hR := yes s h
    obtain ⟨hp, g, d, tk, os⟩ := s
    wp_walk using wpAny_loadPart' ga, wpAny_loadPart' gb
    have o1 : xs[((i : Nat) : Int).toNat]? = none := by simp; omega
    have o2 : ys[((i : Nat) : Int).toNat]? = none := by simp; omega
    rw [o1, o2]
    wp_walk using wpAny_loadPart' ga, wpAny_loadPart' gb
    show R (.ok (.ret (.bool (xs.size != ys.size)))) _
    rw [za, zb]
    simpa using hR
  | succ k ih =>
    intro i hk hi s h
    obtain ⟨xs, ys, ⟨⟨n1, ga⟩, ⟨n2, gb⟩, za, zb⟩, turn⟩ := hl.at_ _ _ h
    have i1 : i < xs.size := by omega
    have i2 : i < ys.size := by omega
    have ht := turn i1 i2
    obtain ⟨hp, g, d, tk, os⟩ := s
    wp_walk using wpAny_loadPart' ga, wpAny_loadPart' gb
    have o1 : xs[((i : Nat) : Int).toNat]? = some xs[i] := by simp [i1]
    have o2 : ys[((i : Nat) : Int).toNat]? = some ys[i] := by simp [i2]
    have hc : ((i : Int) + 1) = ((i + 1 : Nat) : Int) := by omega
    rw [o1, o2]
    refine wpAny_bind (wpAny_mono ht (fun r t h2 => ?_) fun _ _ x => x)
    rcases h2 with ⟨rfl, h2⟩ | ⟨rfl, h2⟩
    · have hrec := ih (i + 1) (by omega) (by omega) t h2
      obtain ⟨hp2, g2, d2, tk2, os2⟩ := t
      wp_walk
      rw [hc]
      exact ⟨plainId_quiet plain_eq_loop _, codeAny_builtin entry_eq_loop (by
        rw [Around.under_plainId plain_eq_loop _]; exact hrec)⟩
    · obtain ⟨us, vs, ⟨⟨m1, ha⟩, ⟨m2, hb⟩, ya, yb⟩⟩ := hl.no _ h2
      have hR := no _ h2
      have p1 : i < us.size := by omega
      have p2 : i < vs.size := by omega
      have q1 : us[((i : Nat) : Int).toNat]? = some us[i] := by simp [p1]
      have q2 : vs[((i : Nat) : Int).toNat]? = some vs[i] := by simp [p2]
      obtain ⟨hp2, g2, d2, tk2, os2⟩ := t
      wp_walk using wpAny_loadPart' ha, wpAny_loadPart' hb
      rw [q1, q2]
      wp_walk
      simpa using hR
theorem list_ne (l b : Addr) (N : Nat) (I : Nat → Shared → Prop) (J : Shared → Prop) (hl : Loop prog w A (fun e t => R (.error e) t) l b N I J)
    (yes : ∀ t, I N t → R (.ok (.ret (.bool false))) t) (no : ∀ t, J t → R (.ok (.ret (.bool true))) t) {s : Shared} (h : I 0 s) :
    wpAny (model prog w) A.in1 (Builtin.«list.__ne__» ⟨[.ref l, .ref b], []⟩) (GQ.FinOf prog w A R) (fun e t => R (.error e) t) s := by
  obtain ⟨xs, ys, ⟨⟨n1, ga⟩, ⟨n2, gb⟩, za, zb⟩, _⟩ := hl.at_ _ _ h
  have hrec := loop_ne (A := A) (R := R) l b N I J hl yes no _ 0 rfl (Nat.zero_le _) s h
  obtain ⟨hp, g, d, tk, os⟩ := s
  have f3 := AutoSeq1.sub_list_list
  have hz : ¬ (xs.size != ys.size) = true := by simp [za, zb]
  wp_walk using wpAny_loadPart' ga, wpAny_loadPart' gb
  exact ⟨plainId_quiet plain_eq_loop _, codeAny_builtin entry_eq_loop (by
    rw [Around.under_plainId plain_eq_loop _]; exact hrec)⟩
theorem listLen_ne (l b : Addr) (xs ys : Array Value) (n1 n2 : Nat) (hz : (xs.size != ys.size) = true) {s : Shared} (ga : s.heap.get? l = some { cls := .type "list", data := .seq xs n1 }) (gb : s.heap.get? b = some { cls := .type "list", data := .seq ys n2 }) (no : R (.ok (.ret (.bool true))) s) :
    wpAny (model prog w) A.in1 (Builtin.«list.__ne__» ⟨[.ref l, .ref b], []⟩) (GQ.FinOf prog w A R) (fun e t => R (.error e) t) s := by
  obtain ⟨hp, g, d, tk, os⟩ := s
  have f3 := AutoSeq1.sub_list_list
  wp_walk using wpAny_loadPart' ga, wpAny_loadPart' gb
  exact no
theorem tup_ne (l b : Addr) (xs ys : Array Value) (n1 n2 : Nat) (dd dd2 : Option Addr) (sl sl2 : Array (Option Value)) (I : Nat → Shared → Prop) (J : Shared → Prop)
    (turn : ∀ i (h1 : i < xs.size) (h2 : i < ys.size) s, I i s → wpAny (model prog w) A.in1 (eqBool xs[i] ys[i]) (fun r t => (r = true ∧ I (i + 1) t) ∨ (r = false ∧ J t)) (fun e t => R (.error e) t) s)
    (fin : ∀ s, I (min xs.size ys.size) s → R (.ok (.ret (.bool (xs.size != ys.size)))) s) (no : ∀ t, J t → R (.ok (.ret (.bool true))) t) {s : Shared} (ga : s.heap.get? l = some { cls := .type "tuple", dict := dd, data := .seq xs n1, slots := sl }) (gb : s.heap.get? b = some { cls := .type "tuple", dict := dd2, data := .seq ys n2, slots := sl2 }) (h : I 0 s) :
    wpAny (model prog w) A.in1 (Builtin.«tuple.__ne__» ⟨[.ref l, .ref b], []⟩) (GQ.FinOf prog w A R) (fun e t => R (.error e) t) s := by
  have f2 := AutoSeq1.sub_tuple_tuple
  have hZ : (xs.toList.zip ys.toList).length = min xs.size ys.size := by simp
  have h0 := h
  obtain ⟨hp, g, d, tk, os⟩ := s
  wp_walk using wpAny_loadPart' ga, wpAny_loadPart' gb, wpAny_forIn_list _ (fun rest z t => z.1 = none ∧ ∃ i, rest = (xs.toList.zip ys.toList).drop i ∧ i ≤ min xs.size ys.size ∧ I i t) _
  case turn =>
    rintro ⟨y, x⟩ rest z t ⟨hz', i, hz, hi, hI⟩
    have lt : i < (xs.toList.zip ys.toList).length := by
      rcases Nat.lt_or_ge i (xs.toList.zip ys.toList).length with k | k
      · exact k
      · rw [List.drop_of_length_le k] at hz; cases hz
    have h1 : i < xs.size := by omega
    have h2 : i < ys.size := by omega
    rw [List.drop_eq_getElem_cons lt] at hz
    injection hz with hyx hrest
    have hy : y = xs[i] := by have := congrArg Prod.fst hyx; simpa using this
    have hx : x = ys[i] := by have := congrArg Prod.snd hyx; simpa using this
    subst hy hx
    refine wpAny_bind (wpAny_mono (turn i h1 h2 t hI) (fun r t2 q2 => ?_) fun _ _ x => x)
    rcases q2 with ⟨rfl, q2⟩ | ⟨rfl, q2⟩
    · wp_walk
      exact ⟨rfl, i + 1, hrest, by omega, q2⟩
    · have hR := no _ q2
      wp_walk
      exact hR
  case fin =>
    rintro ⟨b1, b2⟩ t ⟨hb', i, hz, hi, hI⟩
    simp only at hb'
    subst hb'
    have ge : min xs.size ys.size ≤ i := by
      rcases Nat.lt_or_ge i (xs.toList.zip ys.toList).length with k | k
      · rw [List.drop_eq_getElem_cons k] at hz; cases hz
      · exact hZ ▸ k
    obtain rfl : i = min xs.size ys.size := by omega
    have hR := fin t hI
    wp_walk
    simpa [Builtin.Tuple.tupleCompareSizes, bne] using hR
  case h =>
    exact ⟨rfl, 0, rfl, Nat.zero_le _, h0⟩
end
end OR

namespace OR
open PySem PySem.Spec PyProof.Rows L2
/-! ### values that stand for models -/
abbrev Rep (α : Type) := Hp → V → α → Prop
inductive All2 {α β : Type} (p : α → β → Prop) : List α → List β → Prop where
  | nil : All2 p [] []
  | cons {a : α} {b : β} {as : List α} {bs : List β} (h : p a b) (t : All2 p as bs) : All2 p (a :: as) (b :: bs)
namespace All2
variable {α β : Type} {p q : α → β → Prop}
theorem length : ∀ {as : List α} {bs : List β}, All2 p as bs → as.length = bs.length
  | _, _, .nil => rfl
  | _, _, .cons _ t => by rw [List.length_cons, List.length_cons, t.length]
theorem imp (f : ∀ a b, p a b → q a b) : ∀ {as : List α} {bs : List β}, All2 p as bs → All2 q as bs
  | _, _, .nil => .nil
  | _, _, .cons h t => .cons (f _ _ h) (t.imp f)
theorem append : ∀ {as as' : List α} {bs bs' : List β}, All2 p as bs → All2 p as' bs' → All2 p (as ++ as') (bs ++ bs')
  | _, _, _, _, .nil, h => h
  | _, _, _, _, .cons h t, h' => .cons h (t.append h')
theorem get : ∀ {as : List α} {bs : List β}, All2 p as bs → ∀ {i : Nat} {a : α} {b : β}, as[i]? = some a → bs[i]? = some b → p a b
  | _, _, .nil, _, _, _, h, _ => by simp at h
  | _, _, .cons h _, 0, _, _, h1, h2 => by
    simp at h1 h2
    subst h1 h2
    exact h
  | _, _, .cons _ t, i + 1, _, _, h1, h2 => t.get (i := i) (by simpa using h1) (by simpa using h2)
theorem getL : ∀ {as : List α} {bs : List β}, All2 p as bs → ∀ {i : Nat} {a : α}, as[i]? = some a → ∃ b, bs[i]? = some b ∧ p a b
  | _, _, .nil, _, _, h => by simp at h
  | _, _, .cons (b := b) h _, 0, _, h1 => by
    simp at h1
    subst h1
    exact ⟨b, rfl, h⟩
  | _, _, .cons _ t, i + 1, _, h1 => t.getL (i := i) (by simpa using h1)
theorem take : ∀ {as : List α} {bs : List β}, All2 p as bs → ∀ n, All2 p (as.take n) (bs.take n)
  | _, _, .nil, n => by simp; exact .nil
  | _, _, .cons h t, 0 => by simp; exact .nil
  | _, _, .cons h t, n + 1 => by rw [List.take_succ_cons, List.take_succ_cons]; exact .cons h (t.take n)
theorem drop : ∀ {as : List α} {bs : List β}, All2 p as bs → ∀ n, All2 p (as.drop n) (bs.drop n)
  | _, _, .nil, n => by simp; exact .nil
  | _, _, .cons h t, 0 => by rw [List.drop_zero, List.drop_zero]; exact .cons h t
  | _, _, .cons h t, n + 1 => by rw [List.drop_succ_cons, List.drop_succ_cons]; exact t.drop n
theorem mem : ∀ {as : List α} {bs : List β}, All2 p as bs → ∀ {a : α}, a ∈ as → ∃ b, b ∈ bs ∧ p a b
  | _, _, .nil, _, h => nomatch h
  | _, _, .cons (b := b) h t, a, hm => by
    rcases List.mem_cons.mp hm with e | e
    · subst e
      exact ⟨b, List.mem_cons_self, h⟩
    · obtain ⟨c, hc, hp⟩ := t.mem e
      exact ⟨c, List.mem_cons_of_mem _ hc, hp⟩
end All2
/-- == inside lists and tuples gives whether the models are equal, and only makes objects -/
def EqR {α : Type} [DecidableEq α] (X : Cx) (n : Nat) (Rp : Rep α) : Prop :=
  ∀ (A : Around) (pins : List (Addr × Obj)) (s : Shared) (σ : L2.St) (H : Hp) (x y : V) (u v : Value) (a b : α), Sub X n A → Inv X pins σ H s → RelV x u → RelV y v → Rp H x a → Rp H y b →
    wpAny (model X.prog X.w) A (eqBool u v) (fun r t => r = decide (a = b) ∧ ∃ H', Inv X pins σ H' t ∧ Ext H H') X.xe s
/-- the same of the comparison itself; neg: of != -/
def RcR {α : Type} [DecidableEq α] (X : Cx) (n : Nat) (neg : Bool) (Rp : Rep α) : Prop :=
  ∀ (A : Around) (pins : List (Addr × Obj)) (s : Shared) (σ : L2.St) (H : Hp) (x y : V) (u v : Value) (a b : α), Sub X n A → Inv X pins σ H s → RelV x u → RelV y v → Rp H x a → Rp H y b →
    wpAny (model X.prog X.w) A (richCompare (if neg then .NotEq else .Eq) u v) (fun r t => r = .bool (xor neg (decide (a = b))) ∧ ∃ H', Inv X pins σ H' t ∧ Ext H H') X.xe s
structure MonR {α : Type} (Rp : Rep α) : Prop where
  up : ∀ {H H' : Hp} {x : V} {a : α}, Ext H H' → Rp H x a → Rp H' x a
  fn : ∀ {H : Hp} {x : V} {a b : α}, Rp H x a → Rp H x b → a = b
def LRep {α : Type} (Rp : Rep α) : Rep (List α) := fun H x L => ∃ a xs, x = .ref a ∧ H a = some (.lst xs) ∧ All2 (Rp H) xs L
def TRep {α : Type} (K : PySem.W.Frag) (Rp : Rep α) : Rep (List α) := fun H x L => ∃ a xs, x = .ref a ∧ SqT K H a xs ∧ All2 (Rp H) xs L
theorem all2_fn {α : Type} {Rp : V → α → Prop} (fn : ∀ (x : V) (a b : α), Rp x a → Rp x b → a = b) : ∀ {xs : List V} {L M : List α}, All2 Rp xs L → All2 Rp xs M → L = M
  | _, _, _, .nil, .nil => rfl
  | _, _, _, .cons h t, .cons h' t' => by rw [fn _ _ _ h h', all2_fn fn t t']
theorem mon_LRep {α : Type} {Rp : Rep α} (m : MonR Rp) : MonR (LRep Rp) := ⟨fun e ⟨a, xs, hx, h, p⟩ => ⟨a, xs, hx, e _ _ h, p.imp fun _ _ => m.up e⟩, fun ⟨a, xs, hx, h, p⟩ ⟨b, ys, hy, h', p'⟩ => by
  subst hx
  cases hy
  rw [h] at h'
  cases h'
  exact all2_fn (Rp := Rp _) (fun _ _ _ h h' => m.fn h h') p p'⟩
theorem takes_step {α : Type} {L M : List α} {i : Nat} {a b : α} (ha : L[i]? = some a) (hb : M[i]? = some b) (h : L.take i = M.take i) (e : a = b) : L.take (i + 1) = M.take (i + 1) := by
  rw [List.take_add_one, List.take_add_one, h, ha, hb, e]
theorem ne_at {α : Type} {L M : List α} {i : Nat} {a b : α} (ha : L[i]? = some a) (hb : M[i]? = some b) (h : a ≠ b) : L ≠ M := fun e => h (by
  subst e
  rw [ha] at hb
  exact Option.some.inj hb)
section
variable {α : Type} [DecidableEq α] {X : Cx} {n : Nat} {Rp : Rep α}
/-- what the loop over the items keeps, and what is left behind two items that differ -/
def KeepI (X : Cx) (pins : List (Addr × Obj)) (σ : L2.St) (H : Hp) (L M : List α) (i : Nat) (t : Shared) : Prop := (∃ H', Inv X pins σ H' t ∧ Ext H H') ∧ L.take i = M.take i
def GoneJ (X : Cx) (pins : List (Addr × Obj)) (σ : L2.St) (H : Hp) (L M : List α) (t : Shared) : Prop := (∃ H', Inv X pins σ H' t ∧ Ext H H') ∧ L ≠ M
theorem step_items (m : MonR Rp) (h : EqR X n Rp) {A : Around} (sb : Sub X (n + 1) A) {pins : List (Addr × Obj)} {σ : L2.St} {H : Hp} {xs ys : List V} {L M : List α} {us vs : List Value} (pa : All2 (Rp H) xs L) (pb : All2 (Rp H) ys M) (r1 : Vals xs us) (r2 : Vals ys vs)
    (i : Nat) (h1 : i < us.toArray.size) (h2 : i < vs.toArray.size) (t : Shared) (k : KeepI X pins σ H L M i t) :
    wpAny (model X.prog X.w) A.in1 (eqBool us.toArray[i] vs.toArray[i]) (fun r t2 => (r = true ∧ KeepI X pins σ H L M (i + 1) t2) ∨ (r = false ∧ GoneJ X pins σ H L M t2)) X.xe t := by
  obtain ⟨⟨H1, I1, e1⟩, k⟩ := k
  have b1 : i < us.length := by simpa using h1
  have b2 : i < vs.length := by simpa using h2
  have g1 : us[i]? = some us.toArray[i] := by rw [List.getElem?_eq_getElem b1] <;> simp
  have g2 : vs[i]? = some vs.toArray[i] := by rw [List.getElem?_eq_getElem b2] <;> simp
  have c1 : i < xs.length := by rw [r1.length]; exact b1
  have c2 : i < ys.length := by rw [r2.length]; exact b2
  obtain ⟨u, hu, ru⟩ := r1.get (List.getElem?_eq_getElem c1)
  obtain ⟨v, hv, rv⟩ := r2.get (List.getElem?_eq_getElem c2)
  obtain ⟨a, ha, qa⟩ := pa.getL (List.getElem?_eq_getElem c1)
  obtain ⟨b, hb, qb⟩ := pb.getL (List.getElem?_eq_getElem c2)
  rw [g1] at hu
  rw [g2] at hv
  rw [Option.some.inj hu, Option.some.inj hv]
  refine wpAny_mono (h A.in1 pins t σ H1 _ _ u v a b sb.in1 I1 ru rv (m.up e1 qa) (m.up e1 qb)) (fun r t2 q => ?_) fun _ _ x => x
  obtain ⟨hr, H2, I2, e2⟩ := q
  by_cases e : a = b
  · exact .inl ⟨by rw [hr]; exact decide_eq_true e, ⟨H2, I2, e1.trans e2⟩, takes_step ha hb k e⟩
  · exact .inr ⟨by rw [hr]; exact decide_eq_false e, ⟨H2, I2, e1.trans e2⟩, ne_at ha hb e⟩
theorem two_lists {pins : List (Addr × Obj)} {σ : L2.St} {H H1 : Hp} {t : Shared} {a b : Addr} {xs ys : List V} (I : Inv X pins σ H1 t) (e : Ext H H1) (ha : H a = some (.lst xs)) (hb : H b = some (.lst ys)) (hz : xs.length = ys.length) :
    ∃ us vs, TwoL a b xs.length t us.toArray vs.toArray ∧ Vals xs us ∧ Vals ys vs := by
  obtain ⟨z, us, k, r, g⟩ := I.hok a _ (e _ _ ha)
  obtain ⟨z2, vs, k2, r2, g2⟩ := I.hok b _ (e _ _ hb)
  exact ⟨us, vs, ⟨⟨k, g⟩, ⟨k2, g2⟩, by rw [List.size_toArray, ← r.length], by rw [List.size_toArray, ← r2.length, ← hz]⟩, r, r2⟩
theorem loopI (m : MonR Rp) (h : EqR X n Rp) {A : Around} (sb : Sub X (n + 1) A) {pins : List (Addr × Obj)} {σ : L2.St} {H : Hp} {a b : Addr} {xs ys : List V} {L M : List α} (ha : H a = some (.lst xs)) (hb : H b = some (.lst ys)) (pa : All2 (Rp H) xs L) (pb : All2 (Rp H) ys M) (hz : xs.length = ys.length) :
    Loop X.prog X.w A X.xe a b xs.length (KeepI X pins σ H L M) (GoneJ X pins σ H L M) := by
  refine ⟨fun i t k => ?_, fun t k => ?_⟩
  · obtain ⟨H1, I1, e1⟩ := id k.1
    obtain ⟨us, vs, tw, r, r2⟩ := two_lists I1 e1 ha hb hz
    exact ⟨_, _, tw, fun h1 h2 => step_items m h sb pa pb r r2 i h1 h2 t k⟩
  · obtain ⟨H1, I1, e1⟩ := id k.1
    obtain ⟨us, vs, tw, _, _⟩ := two_lists I1 e1 ha hb hz
    exact ⟨_, _, tw⟩
theorem len_ne {xs ys : List V} {H : Hp} {L M : List α} (pa : All2 (Rp H) xs L) (pb : All2 (Rp H) ys M) (hz : xs.length ≠ ys.length) : L ≠ M := fun e => hz (by rw [pa.length, pb.length, e])
theorem take_all {L M : List α} {xs ys : List V} {H : Hp} (pa : All2 (Rp H) xs L) (pb : All2 (Rp H) ys M) (hz : xs.length = ys.length) (h : L.take xs.length = M.take xs.length) : L = M := by
  rw [List.take_of_length_le (by rw [pa.length]; exact Nat.le_refl _), List.take_of_length_le (by rw [hz, pb.length]; exact Nat.le_refl _)] at h
  exact h
theorem rcR_list (m : MonR Rp) (h : EqR X n Rp) (neg : Bool) : RcR X (n + 1) neg (LRep Rp) := by
  intro A pins s σ H x y u v L M sb I rx ry ⟨a, xs, ex, ha, pa⟩ ⟨b, ys, ey, hb, pb⟩
  subst ex ey
  obtain rfl : u = Value.ref a := rx
  obtain rfl : v = Value.ref b := ry
  obtain ⟨z, us, k, r, g⟩ := I.hok a _ ha
  obtain ⟨z2, vs, k2, r2, g2⟩ := I.hok b _ hb
  have here : ∃ H', Inv X pins σ H' s ∧ Ext H H' := ⟨H, I, Ext.rfl'⟩
  by_cases hz : xs.length = ys.length
  · have lo := loopI (pins := pins) (σ := σ) m h sb ha hb pa pb hz
    have st : KeepI X pins σ H L M 0 s := ⟨here, by rw [List.take_zero, List.take_zero]⟩
    cases neg with
    | false =>
      refine wpAny_richCompare_same_room (op := .Eq) ⟨_, g, rfl⟩ ⟨_, g2, rfl⟩ F.slot_list_eq (GQ.call_here F.slot_list_eq ⟨_, g, rfl⟩ F.entry_list_eq (F.args_list_eq_2 _ _) ?_) sb.room.units0
      refine list_eq (R := wants (fun v s' => v ≠ .notImplemented ∧ _) X.xe) a b xs.length _ _ lo (fun t k => ⟨(fun x => nomatch x), ?_, k.1⟩) (fun t k => ⟨(fun x => nomatch x), ?_, k.1⟩) st
      · rw [decide_eq_true (take_all pa pb hz k.2)]; simp
      · rw [decide_eq_false k.2]; rfl
    | true =>
      refine wpAny_richCompare_same_room (op := .NotEq) ⟨_, g, rfl⟩ ⟨_, g2, rfl⟩ F.slot_list_ne (GQ.call_here F.slot_list_ne ⟨_, g, rfl⟩ F.entry_list_ne (F.args_list_ne_2 _ _) ?_) sb.room.units0
      refine list_ne (R := wants (fun v s' => v ≠ .notImplemented ∧ _) X.xe) a b xs.length _ _ lo (fun t k => ⟨(fun x => nomatch x), ?_, k.1⟩) (fun t k => ⟨(fun x => nomatch x), ?_, k.1⟩) st
      · rw [decide_eq_true (take_all pa pb hz k.2)]; simp
      · rw [decide_eq_false k.2]; rfl
  · have sz : (us.toArray.size != vs.toArray.size) = true := by
      rw [List.size_toArray, List.size_toArray, ← r.length, ← r2.length]
      exact bne_iff_ne.mpr hz
    have d := decide_eq_false (len_ne pa pb hz)
    cases neg with
    | false =>
      refine wpAny_richCompare_same_room (op := .Eq) ⟨_, g, rfl⟩ ⟨_, g2, rfl⟩ F.slot_list_eq (GQ.call_here F.slot_list_eq ⟨_, g, rfl⟩ F.entry_list_eq (F.args_list_eq_2 _ _) ?_) sb.room.units0
      refine listLen_eq (R := wants (fun v s' => v ≠ .notImplemented ∧ _) X.xe) a b _ _ _ _ sz g g2 ⟨(fun x => nomatch x), ?_, here⟩
      rw [d]; rfl
    | true =>
      refine wpAny_richCompare_same_room (op := .NotEq) ⟨_, g, rfl⟩ ⟨_, g2, rfl⟩ F.slot_list_ne (GQ.call_here F.slot_list_ne ⟨_, g, rfl⟩ F.entry_list_ne (F.args_list_ne_2 _ _) ?_) sb.room.units0
      refine listLen_ne (R := wants (fun v s' => v ≠ .notImplemented ∧ _) X.xe) a b _ _ _ _ sz g g2 ⟨(fun x => nomatch x), ?_, here⟩
      rw [d]; rfl
theorem rcR_tup (m : MonR Rp) (h : EqR X n Rp) (neg : Bool) : RcR X (n + 1) neg (TRep X.K Rp) := by
  intro A pins s σ H x y u v L M sb I rx ry ⟨a, xs, ex, ha, pa⟩ ⟨b, ys, ey, hb, pb⟩
  subst ex ey
  obtain rfl : u = Value.ref a := rx
  obtain rfl : v = Value.ref b := ry
  obtain ⟨us, r, e, z⟩ := I.tuple ha
  obtain ⟨vs, r2, e2, z2⟩ := I.tuple hb
  have here : ∃ H', Inv X pins σ H' s ∧ Ext H H' := ⟨H, I, Ext.rfl'⟩
  have st : KeepI X pins σ H L M 0 s := ⟨here, by rw [List.take_zero, List.take_zero]⟩
  have fin : ∀ t, KeepI X pins σ H L M (min us.toArray.size vs.toArray.size) t → (us.toArray.size == vs.toArray.size) = decide (L = M) := fun t k => by
    have k2 := k.2
    rw [List.size_toArray, List.size_toArray, ← r.length, ← r2.length] at k2 ⊢
    by_cases hz : xs.length = ys.length
    · rw [← hz, Nat.min_self] at k2
      rw [decide_eq_true (take_all pa pb hz k2), hz]
      simp
    · rw [decide_eq_false (len_ne pa pb hz)]
      exact beq_eq_false_iff_ne.mpr hz
  obtain ⟨⟨cls, dd, data, sl⟩, ho, hc, n1, hd⟩ := id e
  obtain ⟨⟨cls2, dd2, data2, sl2⟩, ho2, hc2, n2, hd2⟩ := id e2
  simp only at hc hd hc2 hd2
  subst hc hd hc2 hd2
  cases neg with
  | false =>
    refine wpAny_richCompare_same_room (op := .Eq) ⟨_, ho, rfl⟩ ⟨_, ho2, rfl⟩ F.slot_tuple_eq (GQ.call_here F.slot_tuple_eq ⟨_, ho, rfl⟩ F.entry_tuple_eq (F.args_tuple_eq_2 _ _) ?_) sb.room.units0
    refine tup_eq (R := wants (fun v s' => v ≠ .notImplemented ∧ _) X.xe) a b _ _ _ _ _ _ _ _ (KeepI X pins σ H L M) (GoneJ X pins σ H L M) (fun i h1 h2 t k => step_items m h sb pa pb r r2 i h1 h2 t k) (fun t k => ⟨(fun x => nomatch x), ?_, k.1⟩) (fun t k => ⟨(fun x => nomatch x), ?_, k.1⟩) ho ho2 st
    · rw [fin t k]; simp
    · rw [decide_eq_false k.2]; rfl
  | true =>
    refine wpAny_richCompare_same_room (op := .NotEq) ⟨_, ho, rfl⟩ ⟨_, ho2, rfl⟩ F.slot_tuple_ne (GQ.call_here F.slot_tuple_ne ⟨_, ho, rfl⟩ F.entry_tuple_ne (F.args_tuple_ne_2 _ _) ?_) sb.room.units0
    refine tup_ne (R := wants (fun v s' => v ≠ .notImplemented ∧ _) X.xe) a b _ _ _ _ _ _ _ _ (KeepI X pins σ H L M) (GoneJ X pins σ H L M) (fun i h1 h2 t k => step_items m h sb pa pb r r2 i h1 h2 t k) (fun t k => ⟨(fun x => nomatch x), ?_, k.1⟩) (fun t k => ⟨(fun x => nomatch x), ?_, k.1⟩) ho ho2 st
    · rw [bne, fin t k]; simp
    · rw [decide_eq_false k.2]; rfl
/-- from the comparison of references to == inside a list -/
theorem RcR.eqR (m : MonR Rp) (h : RcR X n false Rp) (hr : ∀ H x a, Rp H x a → ∃ p, x = .ref p) : EqR X n Rp := by
  intro A pins s σ H x y u v L M sb I rx ry hx hy
  obtain ⟨a, ea⟩ := hr _ _ _ hx
  obtain ⟨b, eb⟩ := hr _ _ _ hy
  subst ea eb
  obtain rfl : u = Value.ref a := rx
  obtain rfl : v = Value.ref b := ry
  by_cases hab : a = b
  · subst hab
    refine SeqAt.EqAt.same (A := A) (s := s) (.ref a) X.prog X.w X.xe _ ⟨?_, H, I, Ext.rfl'⟩
    rw [decide_eq_true (m.fn hx hy)]
  · refine GQ.eqBool_refG hab (wpAny_mono (h A pins s σ H (.ref a) (.ref b) _ _ L M sb I rfl rfl hx hy) (fun r t q => ?_) fun _ _ x => x)
    obtain ⟨er, q⟩ := q
    refine ⟨decide (L = M), ?_, rfl, q⟩
    rw [er]; simp
/-- x == y, x != y as expressions -/
def rCmpR (neg : Bool) (Rp : Rep α) : R2 := fun x y H Q => ∃ a b, Rp H x a ∧ Rp H y b ∧ ∀ H', Ext H H' → Q (.bl (xor neg (decide (a = b)))) H'
theorem op_eqR (h : RcR X n false Rp) (hr : Room n X.A) : OpR X (compareOp .Eq) (rCmpR false Rp) := by
  intro pins s σ H x y v u Q I rx ry ⟨a, b, ha, hb, q⟩
  show wpAny (model X.prog X.w) X.A (richCompare .Eq v u) (EP X pins σ Q) X.xe s
  refine wpAny_mono (h X.A pins s σ H x y v u a b ⟨hr, rfl⟩ I rx ry ha hb) (fun r t z => ?_) fun _ _ x => x
  obtain ⟨er, H', I', e⟩ := z
  subst er
  exact ⟨.bl _, H', I', rfl, q H' e⟩
theorem op_neR (h : RcR X n true Rp) (hr : Room n X.A) : OpR X (compareOp .NotEq) (rCmpR true Rp) := by
  intro pins s σ H x y v u Q I rx ry ⟨a, b, ha, hb, q⟩
  show wpAny (model X.prog X.w) X.A (richCompare .NotEq v u) (EP X pins σ Q) X.xe s
  refine wpAny_mono (h X.A pins s σ H x y v u a b ⟨hr, rfl⟩ I rx ry ha hb) (fun r t z => ?_) fun _ _ x => x
  obtain ⟨er, H', I', e⟩ := z
  subst er
  exact ⟨.bl _, H', I', rfl, q H' e⟩
end
end OR

namespace OR
open PySem PySem.Spec PyProof.Rows L2
/-! ### clauses as models -/
structure NF (K : PySem.W.Frag) (C : Nat → Addr) : Prop where
  cc : ∀ i, i < 7 → ∀ j, j < 7 → PySem.W.notFirst K (C i) (.ref (C j)) = true
  cs : ∀ i, i < 7 → PySem.W.notFirst K (C i) (.type "str") = true
  ct : ∀ i, i < 7 → PySem.W.notFirst K (C i) (.type "tuple") = true
theorem rows_fn {H : Hp} : ∀ {M N : List ARow}, AtR H M → AtR H N → refs M = refs N → rws M = rws N
  | [], [], _, _, _ => rfl
  | [], _ :: _, _, _, e => by cases e
  | _ :: _, [], _, _, e => by cases e
  | p :: M, q :: N, h, h', e => by
    have e' : V.ref p.1 :: refs M = V.ref q.1 :: refs N := e
    injection e' with e1 e2
    injection e1 with e1
    have a := h p List.mem_cons_self
    have b := h' q List.mem_cons_self
    rw [e1, b] at a
    injection a with a
    injection a with a
    injection a with a1 a2
    injection a1 with a1
    injection a2 with a2 _
    injection a2 with a2
    show p.2 :: rws M = q.2 :: rws N
    rw [rows_fn (fun z hz => h z (List.mem_cons_of_mem _ hz)) (fun z hz => h' z (List.mem_cons_of_mem _ hz)) e2]
    rw [Prod.ext (x := p.2) (y := q.2) a1.symm a2.symm]
theorem IsP.fn {C : Addr} {H : Hp} {x : Addr} {l m : List Row} (h : IsP C H x l) (h' : IsP C H x m) : l = m := by
  obtain ⟨_, dx, t, f, b, M, h1, h2, h3, rfl, _⟩ := h
  obtain ⟨_, dy, u, g, c, N, k1, k2, k3, rfl, _⟩ := h'
  rw [h1] at k1
  injection k1 with k1
  injection k1 with _ _ k1
  have e := pFl_s t f b
  rw [k1, pFl_s] at e
  injection e with e
  injection e with e
  rw [e, h2] at k2
  injection k2 with k2
  injection k2 with k2
  exact rows_fn h3 k3 k2
theorem kName_inj : ∀ {i j : Nat}, i < 7 → j < 7 → kName i = kName j → i = j := by
  have : ∀ i, i < 7 → ∀ j, j < 7 → kName i = kName j → i = j := by decide +kernel
  exact fun {i j} hi hj => this i hi j hj
theorem x_fn {i : Nat} {f g : Str} {pl pm : Addr} {x u : List V} (hi : i < 7) (h : WF i f x) (h' : WF i g u) (e : cFl i f pl x = cFl i g pm u) : x = u := by
  have at_ : ∀ (j : Nat) (n : Str) (a b : V), (allNames i)[j + 3]? = some n → x[j]? = some a → u[j]? = some b → a = b := fun j n a b hn ha hb => by
    have l1 := cFl_at (f := f) (pl := pl) (x := x) (v := a) hn (show (cVals i f pl x)[j + 3]? = some a from ha)
    have l2 := cFl_at (f := g) (pl := pm) (x := u) (v := b) hn (show (cVals i g pm u)[j + 3]? = some b from hb)
    rw [e, l2] at l1
    exact (Option.some.inj l1).symm
  match i, hi, h, h' with
  | 0, _, h, h' => rw [show x = [] from h, show u = [] from h']
  | 1, _, h, h' => rw [show x = [] from h, show u = [] from h']
  | 2, _, ⟨a, h, _⟩, ⟨b, h', _⟩ => subst h h'; rw [at_ 0 _ _ _ rfl rfl rfl]
  | 3, _, ⟨a, h, _⟩, ⟨b, h', _⟩ => subst h h'; rw [at_ 0 _ _ _ rfl rfl rfl]
  | 4, _, ⟨a, b, c, h, _⟩, ⟨a', b', c', h', _⟩ => subst h h'; rw [at_ 0 _ _ _ rfl rfl rfl, at_ 1 _ _ _ rfl rfl rfl, at_ 2 _ _ _ rfl rfl rfl]
  | 5, _, ⟨a, b, c, d, h, _⟩, ⟨a', b', c', d', h', _⟩ => subst h h'; rw [at_ 0 _ _ _ rfl rfl rfl, at_ 1 _ _ _ rfl rfl rfl, at_ 2 _ _ _ rfl rfl rfl, at_ 3 _ _ _ rfl rfl rfl]
  | 6, _, ⟨a, b, h, _⟩, ⟨a', b', h', _⟩ => subst h h'; rw [at_ 0 _ _ _ rfl rfl rfl, at_ 1 _ _ _ rfl rfl rfl]
  | n + 7, hi, _, _ => omega
abbrev CM := Nat × Str × List Row × List V
def CRep (CP : Addr) (C : Nat → Addr) : Rep CM := fun H x m => ∃ z, x = .ref z ∧ IsC CP C H z m.1 m.2.1 m.2.2.1 m.2.2.2
theorem IsC.fn {CP : Addr} {C : Nat → Addr} {H : Hp} {z : Addr} {i j : Nat} {f g : Str} {l m : List Row} {x u : List V} (h : IsC CP C H z i f l x) (h' : IsC CP C H z j g m u) : i = j ∧ f = g ∧ l = m ∧ x = u := by
  obtain ⟨⟨dx, pl, h1, h2⟩, hi, _, hw, _⟩ := h
  obtain ⟨⟨dy, pm, k1, k2⟩, hj, _, kw, _⟩ := h'
  rw [h1] at k1
  injection k1 with k1
  injection k1 with _ _ k1
  have e0 := cFl_at (i := i) (f := f) (pl := pl) (x := x) (j := 0) (n := "kind") (v := .str (kName i)) rfl rfl
  rw [k1, cFl_at (i := j) (j := 0) (v := .str (kName j)) rfl rfl] at e0
  injection e0 with e0
  injection e0 with e0
  obtain rfl := kName_inj hj hi e0
  have e1 := cFl_at (i := j) (f := f) (pl := pl) (x := x) (j := 1) (n := "function") (v := .str f) rfl rfl
  rw [k1, cFl_at (i := j) (j := 1) (v := .str g) rfl rfl] at e1
  injection e1 with e1
  injection e1 with e1
  have e2 := cFl_at (i := j) (f := f) (pl := pl) (x := x) (j := 2) (n := "places") (v := .ref pl) rfl rfl
  rw [k1, cFl_at (i := j) (j := 2) (v := .ref pm) rfl rfl] at e2
  injection e2 with e2
  injection e2 with e2
  subst e2
  exact ⟨rfl, e1.symm, h2.fn k2, x_fn hi hw kw k1⟩
theorem mon_CRep {CP : Addr} {C : Nat → Addr} : MonR (CRep CP C) := ⟨fun e ⟨z, hx, h⟩ => ⟨z, hx, h.same e⟩, fun {H x a b} ⟨z, hx, h⟩ ⟨z', hx', h'⟩ => by
  subst hx
  cases hx'
  obtain ⟨e1, e2, e3, e4⟩ := h.fn h'
  obtain ⟨a1, a2, a3, a4⟩ := a
  obtain ⟨b1, b2, b3, b4⟩ := b
  simp only at e1 e2 e3 e4
  rw [e1, e2, e3, e4]⟩
theorem ceq_dec {a b : CM} : ceq a.1 a.2.1 a.2.2.1 a.2.2.2 b.1 b.2.1 b.2.2.1 b.2.2.2 = decide (a = b) := by
  obtain ⟨a1, a2, a3, a4⟩ := a
  obtain ⟨b1, b2, b3, b4⟩ := b
  unfold ceq
  simp only [Prod.mk.injEq]
theorem env_sub {X : Cx} {n : Nat} {A : Around} (sb : Sub X n A) {pins : List (Addr × Obj)} {σ : L2.St} {H : Hp} {s : Shared} (I : Inv X pins σ H s) : Env0 X.prog X.w X.K X.mg X.base A X.stack s H := by
  have e := I.env0
  exact ⟨by rw [sb.fr]; exact e.frames, e.mod, e.bs, e.bsz, e.funs, e.frf, e.hok, e.bare⟩
theorem rcR_cl {X : Cx} {CP : Addr} {C : Nat → Addr} (T : CTxt X.K X.mg C) (N : NF X.K C) (EQ : ∀ i, i < 7 → Md X.prog X.w X.K X.mg X.base 2 (C i) "__eq__" (spCEq X.K CP C i)) : RcR X 2 false (CRep CP C) := by
  intro A pins s σ H x y u v a b sb I rx ry ⟨z, ex, ha⟩ ⟨z', ey, hb⟩
  subst ex ey
  obtain rfl : u = Value.ref z := rx
  obtain rfl : v = Value.ref z' := ry
  obtain ⟨dx, pl, h1, _⟩ := id ha.ex
  obtain ⟨dy, pm, k1, _⟩ := id hb.ex
  obtain ⟨f, F, hs, hf, _⟩ := (EQ _ ha.lt).ex
  obtain ⟨mA, J, _⟩ := ins_get I.hok h1
  obtain ⟨mB, J', _⟩ := ins_get I.hok k1
  obtain ⟨od, J, _⟩ := J.look
  obtain ⟨od', J', _⟩ := J'.look
  obtain ⟨m, hF⟩ := I.fr
  refine PySem.W.cmp_K (op := .Eq) (tb := .ref (C b.1)) sb.room.units0 hF I.ok.mod.kin J J'.type (N.cc _ ha.lt _ hb.lt) hs hf ?_
  have q : spCEq X.K CP C a.1 [.ref z, .ref z'] H (fun r G => r = .bl (decide (a = b)) ∧ Ext H G) E0 := ⟨z, .ref z', _, _, _, rfl, ha, .inl ⟨z', _, _, _, _, rfl, hb, by rw [ceq_dec], Ext.rfl'⟩⟩
  refine wpAny_mono (wpAny_call (SlX.run_at (us := [.ref z, .ref z']) (ws := [.ref z, .ref z']) F sb.room (env_sub sb I) pass0 I (.cons rfl (.cons rfl .nil)) q)) (fun r t z => ?_) fun _ _ x => x
  obtain ⟨r', H', I', rz, er, e⟩ := z
  subst er
  cases (show r = Value.bool (decide (a = b)) from rz)
  exact ⟨by rw [Bool.false_xor], H', I', e⟩
theorem eqR_cl {X : Cx} {CP : Addr} {C : Nat → Addr} (T : CTxt X.K X.mg C) (N : NF X.K C) (EQ : ∀ i, i < 7 → Md X.prog X.w X.K X.mg X.base 2 (C i) "__eq__" (spCEq X.K CP C i)) : EqR X 2 (CRep CP C) :=
  (rcR_cl T N EQ).eqR mon_CRep fun _ _ _ ⟨z, e, _⟩ => ⟨z, e⟩
end OR

namespace OR
open PySem PySem.Spec PyProof.Rows L2
section
variable {P : Program} {w : World} {K : PySem.W.Frag} {mg : Str → Option Value} {base : Heap} {C : Nat → Addr} {CP : Addr}
theorem scAnsF : FnScope ["self"] ["self"] (defScope sAnsTold) := ⟨rfl, rfl, rfl, by decide +kernel, rfl, by decide +kernel, by decide +kernel⟩
theorem ok_AnsF {f : Addr} {fd : FuncData} (F : Fun K "functions_told" "Answers.functions_told" sAnsTold f fd) (T : CTxt K mg C) : FnOk P w K mg base CX0 1 f fd ["self"] (spCTold CP C 0) := by
  refine F.ok scAnsF (fun vs H Q E h => ?_) (fun cdv A outer s0 H vs Q E hr h => ?_)
  · obtain ⟨z, f1, l, x, rfl, _⟩ := h
    rfl
  · obtain ⟨z, f1, l, x, rfl, hA, q⟩ := h
    obtain ⟨⟨dx, pl, hz, hp⟩, hi, hw, wf, ok, hl⟩ := hA
    cases (show x = [] from wf)
    exact ⟨_, pss_one (ps_ret (pe_tup (pa_cons (pe_fld (pv 0) rfl) pa_nil))), ⟨_, rfl, fld T hz hi (j := 1) rfl rfl ⟨by show 1 ≤ sizeLine; decide, fun t ht => q t ht⟩⟩⟩
theorem scRefF : FnScope ["self"] ["self"] (defScope sRefTold) := ⟨rfl, rfl, rfl, by decide +kernel, rfl, by decide +kernel, by decide +kernel⟩
theorem ok_RefF {f : Addr} {fd : FuncData} (F : Fun K "functions_told" "Refuses.functions_told" sRefTold f fd) (T : CTxt K mg C) : FnOk P w K mg base CX0 1 f fd ["self"] (spCTold CP C 1) := by
  refine F.ok scRefF (fun vs H Q E h => ?_) (fun cdv A outer s0 H vs Q E hr h => ?_)
  · obtain ⟨z, f1, l, x, rfl, _⟩ := h
    rfl
  · obtain ⟨z, f1, l, x, rfl, hA, q⟩ := h
    obtain ⟨⟨dx, pl, hz, hp⟩, hi, hw, wf, ok, hl⟩ := hA
    cases (show x = [] from wf)
    exact ⟨_, pss_one (ps_ret (pe_tup (pa_cons (pe_fld (pv 0) rfl) pa_nil))), ⟨_, rfl, fld T hz hi (j := 1) rfl rfl ⟨by show 1 ≤ sizeLine; decide, fun t ht => q t ht⟩⟩⟩
theorem scNeeF : FnScope ["self"] ["self"] (defScope sNeeTold) := ⟨rfl, rfl, rfl, by decide +kernel, rfl, by decide +kernel, by decide +kernel⟩
theorem ok_NeeF {f : Addr} {fd : FuncData} (F : Fun K "functions_told" "Needs.functions_told" sNeeTold f fd) (T : CTxt K mg C) : FnOk P w K mg base CX0 1 f fd ["self"] (spCTold CP C 2) := by
  refine F.ok scNeeF (fun vs H Q E h => ?_) (fun cdv A outer s0 H vs Q E hr h => ?_)
  · obtain ⟨z, f1, l, x, rfl, _⟩ := h
    rfl
  · obtain ⟨z, f1, l, x, rfl, hA, q⟩ := h
    obtain ⟨⟨dx, pl, hz, hp⟩, hi, hw, wf, ok, hl⟩ := hA
    obtain ⟨g, rfl, hg, ng⟩ := wf
    exact ⟨_, pss_one (ps_ret (pe_tup (pa_cons (pe_fld (pv 0) rfl) (pa_cons (pe_fld (pv 0) rfl) pa_nil)))), ⟨_, rfl, fld T hz hi (j := 1) rfl rfl ⟨_, rfl, fld T hz hi (j := 3) rfl rfl ⟨by show 2 ≤ sizeLine; decide, fun t ht => q t ht⟩⟩⟩⟩
theorem scSprF : FnScope ["self"] ["self"] (defScope sSprTold) := ⟨rfl, rfl, rfl, by decide +kernel, rfl, by decide +kernel, by decide +kernel⟩
theorem ok_SprF {f : Addr} {fd : FuncData} (F : Fun K "functions_told" "Spreads.functions_told" sSprTold f fd) (T : CTxt K mg C) : FnOk P w K mg base CX0 1 f fd ["self"] (spCTold CP C 3) := by
  refine F.ok scSprF (fun vs H Q E h => ?_) (fun cdv A outer s0 H vs Q E hr h => ?_)
  · obtain ⟨z, f1, l, x, rfl, _⟩ := h
    rfl
  · obtain ⟨z, f1, l, x, rfl, hA, q⟩ := h
    obtain ⟨⟨dx, pl, hz, hp⟩, hi, hw, wf, ok, hl⟩ := hA
    obtain ⟨w, rfl, hs⟩ := wf
    exact ⟨_, pss_one (ps_ret (pe_tup (pa_cons (pe_fld (pv 0) rfl) pa_nil))), ⟨_, rfl, fld T hz hi (j := 1) rfl rfl ⟨by show 1 ≤ sizeLine; decide, fun t ht => q t ht⟩⟩⟩
theorem scBouF : FnScope ["self"] ["self"] (defScope sBouTold) := ⟨rfl, rfl, rfl, by decide +kernel, rfl, by decide +kernel, by decide +kernel⟩
theorem ok_BouF {f : Addr} {fd : FuncData} (F : Fun K "functions_told" "Bound.functions_told" sBouTold f fd) (T : CTxt K mg C) : FnOk P w K mg base CX0 1 f fd ["self"] (spCTold CP C 4) := by
  refine F.ok scBouF (fun vs H Q E h => ?_) (fun cdv A outer s0 H vs Q E hr h => ?_)
  · obtain ⟨z, f1, l, x, rfl, _⟩ := h
    rfl
  · obtain ⟨z, f1, l, x, rfl, hA, q⟩ := h
    obtain ⟨⟨dx, pl, hz, hp⟩, hi, hw, wf, ok, hl⟩ := hA
    obtain ⟨s, a, b, rfl, hs, na, nb⟩ := wf
    exact ⟨_, pss_one (ps_ret (pe_tup (pa_cons (pe_fld (pv 0) rfl) pa_nil))), ⟨_, rfl, fld T hz hi (j := 1) rfl rfl ⟨by show 1 ≤ sizeLine; decide, fun t ht => q t ht⟩⟩⟩
theorem scPaiF : FnScope ["self"] ["self"] (defScope sPaiTold) := ⟨rfl, rfl, rfl, by decide +kernel, rfl, by decide +kernel, by decide +kernel⟩
theorem ok_PaiF {f : Addr} {fd : FuncData} (F : Fun K "functions_told" "Pair.functions_told" sPaiTold f fd) (T : CTxt K mg C) : FnOk P w K mg base CX0 1 f fd ["self"] (spCTold CP C 5) := by
  refine F.ok scPaiF (fun vs H Q E h => ?_) (fun cdv A outer s0 H vs Q E hr h => ?_)
  · obtain ⟨z, f1, l, x, rfl, _⟩ := h
    rfl
  · obtain ⟨z, f1, l, x, rfl, hA, q⟩ := h
    obtain ⟨⟨dx, pl, hz, hp⟩, hi, hw, wf, ok, hl⟩ := hA
    obtain ⟨s, g, a, b, rfl, hs, hg, ng, na, nb⟩ := wf
    exact ⟨_, pss_one (ps_ret (pe_tup (pa_cons (pe_fld (pv 0) rfl) (pa_cons (pe_fld (pv 0) rfl) pa_nil)))), ⟨_, rfl, fld T hz hi (j := 1) rfl rfl ⟨_, rfl, fld T hz hi (j := 4) rfl rfl ⟨by show 2 ≤ sizeLine; decide, fun t ht => q t ht⟩⟩⟩⟩
theorem scSteF : FnScope ["self"] ["self"] (defScope sSteTold) := ⟨rfl, rfl, rfl, by decide +kernel, rfl, by decide +kernel, by decide +kernel⟩
theorem ok_SteF {f : Addr} {fd : FuncData} (F : Fun K "functions_told" "Step.functions_told" sSteTold f fd) (T : CTxt K mg C) : FnOk P w K mg base CX0 1 f fd ["self"] (spCTold CP C 6) := by
  refine F.ok scSteF (fun vs H Q E h => ?_) (fun cdv A outer s0 H vs Q E hr h => ?_)
  · obtain ⟨z, f1, l, x, rfl, _⟩ := h
    rfl
  · obtain ⟨z, f1, l, x, rfl, hA, q⟩ := h
    obtain ⟨⟨dx, pl, hz, hp⟩, hi, hw, wf, ok, hl⟩ := hA
    obtain ⟨s, b, rfl, hs, nb⟩ := wf
    exact ⟨_, pss_one (ps_ret (pe_tup (pa_cons (pe_fld (pv 0) rfl) pa_nil))), ⟨_, rfl, fld T hz hi (j := 1) rfl rfl ⟨by show 1 ≤ sizeLine; decide, fun t ht => q t ht⟩⟩⟩
end
/-! ### the greatest place -/
def greatV (l : List Row) : V := match l.getLast? with
  | none => .non
  | some r => .int r.2
def spLeast (C : Addr) (g : List Row → V) : Sp := fun vs H Q _ => ∃ p l, vs = [.ref p] ∧ IsP C H p l ∧ Q (g l) H
theorem greatV_le {l : List Row} {n : Int} (h : ∀ r ∈ l, r.2 ≤ n) : greatV l = .non ∨ ∃ k, greatV l = .int k ∧ k ≤ n := by
  unfold greatV
  cases e : l.getLast? with
  | none => exact .inl rfl
  | some r => exact .inr ⟨r.2, rfl, h r (List.mem_of_getLast? e)⟩
section
variable {P : Program} {w : World} {K : PySem.W.Frag} {mg : Str → Option Value} {base : Heap}
theorem scGr : FnScope ["self"] ["self"] (defScope sPlacesGreatest) := ⟨rfl, rfl, rfl, by decide +kernel, rfl, by decide +kernel, by decide +kernel⟩
theorem ok_great {f C : Addr} {fd : FuncData} (F : Fun K "greatest" "Places.greatest" sPlacesGreatest f fd) (T : PTxt K mg C) : FnOk P w K mg base CX0 1 f fd ["self"] (spLeast C greatV) := by
  refine F.ok scGr (fun vs H Q E h => ?_) (fun cdv A outer s H vs Q E hr h => ?_)
  · obtain ⟨p, l, rfl, _⟩ := h
    rfl
  · obtain ⟨p, l, rfl, hp, q⟩ := h
    refine ⟨_, pss_one (ps_ret (pe_ifExp (pt_truth (pe_fld (pv 0) rfl) (by intro _; rfl)) (pe_ix ix_tup (pe_ix ix_tup (pe_fld (pv 0) rfl) (pe_un un_neg pe_int) (fun _ _ => rfl)) pe_int (fun _ _ => rfl)) pe_non)), ?_⟩
    obtain ⟨nf, dx, t, fi, b, M, e1, e2, e3, e4, _⟩ := id hp
    refine ⟨_, rfl, p, C, dx, _, _, rfl, e1, T.cl, T.nS, pFl_s _ _ _, !(refs M).isEmpty, .inr (.inl ⟨refs M, .inl (.inl e2), rfl⟩), ?_⟩
    subst e4
    by_cases c : M = []
    · subst c
      exact iteF q
    · obtain ⟨M', z, rfl⟩ : ∃ M' z, M = M' ++ [z] := ⟨_, _, (List.dropLast_concat_getLast c).symm⟩
      rw [refs_snoc] at e2 ⊢
      have en : (!(refs M' ++ [V.ref z.1]).isEmpty) = true := by simp
      rw [en]
      have ez := e3 z (List.mem_append_right _ (List.mem_singleton.mpr rfl))
      have eg : greatV (rws (M' ++ [z])) = .int z.2.2 := by
        unfold greatV
        rw [rws_snoc, List.getLast?_concat]
      rw [eg] at q
      exact iteT ⟨_, rfl, p, C, dx, _, _, rfl, e1, T.cl, T.nS, pFl_s _ _ _, 1, rfl, t, _, -1, .ref z.1, rfl, rfl, .inl (.inl e2), atI_last _ _, z.1, _, 1, .int z.2.2, rfl, rfl, .inl (.inl ez), atI_nat (j := 1) rfl, q⟩
end
end OR

namespace OR
open PySem PySem.Spec PyProof.Rows L2
/-! ### rules -/
def SqE (K : PySem.W.Frag) (H : Hp) (a : Addr) (xs : List V) : Prop := SqL K H a xs ∨ SqT K H a xs
theorem SqE.same {K : PySem.W.Frag} {H H' : Hp} {a : Addr} {xs : List V} (h : SqE K H a xs) (s : Same H H') : SqE K H' a xs := h.elim (fun e => .inl (s.seq e)) fun e => .inr (sameT s e)
theorem noM : ∀ i, ("functions_told" : Str) ∉ allNames i
  | 0 => by decide +kernel
  | 1 => by decide +kernel
  | 2 => by decide +kernel
  | 3 => by decide +kernel
  | 4 => by decide +kernel
  | 5 => by decide +kernel
  | _ + 6 => by
    show ("functions_told" : Str) ∉ ("kind" :: "function" :: "places" :: ["sign", "height"] : List Str)
    decide +kernel
/-- a method of one of some classes -/
theorem pe_mtF {X : Cx} {k j : Nat} {I : Nat → Prop} {C : Nat → Addr} {m : Str} {ps : List Str} {sp : Nat → Sp} {o : Expr} {ta : TE} {apos pos : Pos} {pl : Sem Bool} (M : ∀ i, I i → Mt X.prog X.w X.K X.mg X.base k (C i) m ps (sp i)) (c : ∀ i, I i → Cls X.K (C i)) (hr : Room j X.A) (hk : k ≤ j) (he : PE X o ta)
    (ht : eval (.Call (.Attribute o m apos) [] [] pos) X.env = (do
      let ov ← eval o X.env
      standAt apos.atName
      let (f, first) ← holding [ov] (getMethod ov m pl)
      callWith pos f first (backTo pos (starEach [] X.env)) (backToKw pos (keywordEach [] X.env))) := by rfl) : PE X (.Call (.Attribute o m apos) [] [] pos) (fun σ H Q => ∃ i, I i ∧ tMeth (C i) m (sp i) [] E0 ta tNil σ H Q) :=
  ⟨fun pins s σ H Q I0 ⟨i, hi, h⟩ => (pe_mt0 (M i hi) (c i hi) hr hk he ht).run pins s σ H Q I0 h⟩
/-- a clause over these functions and the places up to last -/
structure Fits (fs : List Str) (n : Int) (m : CM) : Prop where
  told : ∀ v ∈ told m.1 m.2.1 m.2.2.2, ∃ g ∈ fs, v = .str g
  rows : ∀ r ∈ m.2.2.1, r.2 ≤ n
structure RTxt (K : PySem.W.Frag) (mg : Str → Option Value) (CR : Addr) : Prop where
  cl : Cls K CR
  nF : NoAttr K CR "functions"
  nL : NoAttr K CR "last"
  nT : NoAttr K CR "told"
  mgC : mg "Rules" = some (.ref CR)
  isi : SlX.SIsi K CR
  kRR : PySem.W.kitOne K (.ref CR) (.ref CR) = some true
  few : ∃ t, mg "MOST_FUNCTIONS" = some (.int 3 t)
  most : ∃ t, mg "_MOST_CLAUSES" = some (.int 60 t)
theorem kLF : ¬ (("last" : Str) = "functions") := by decide +kernel
theorem kTF : ¬ (("told" : Str) = "functions") := by decide +kernel
theorem kTL : ¬ (("told" : Str) = "last") := by decide +kernel
def rFl (f : Addr) (n : Int) (t : Addr) : List (Str × V) := putF "told" (.ref t) (putF "last" (.int n) (putF "functions" (.ref f) []))
theorem rFl_f (f : Addr) (n : Int) (t : Addr) : (rFl f n t).lookup ("functions" : Str) = some (.ref f) := by
  unfold rFl
  rw [lookup_putF, if_neg (fun e => kTF e.symm), lookup_putF, if_neg (fun e => kLF e.symm), lookup_putF, if_pos rfl]
theorem rFl_l (f : Addr) (n : Int) (t : Addr) : (rFl f n t).lookup ("last" : Str) = some (.int n) := by
  unfold rFl
  rw [lookup_putF, if_neg (fun e => kTL e.symm), lookup_putF, if_pos rfl]
theorem rFl_t (f : Addr) (n : Int) (t : Addr) : (rFl f n t).lookup ("told" : Str) = some (.ref t) := by
  unfold rFl
  rw [lookup_putF, if_pos rfl]
/-- rules, as they stand -/
def IsR (K : PySem.W.Frag) (CR CP : Addr) (C : Nat → Addr) (H : Hp) (x : Addr) (fs : List Str) (n : Int) (ms : List CM) : Prop :=
  ∃ dx f t xs, H x = some (.ins CR dx (rFl f n t)) ∧ SqT K H f (fs.map V.str) ∧ SqT K H t xs ∧ All2 (CRep CP C H) xs ms
theorem IsR.same {K : PySem.W.Frag} {CR CP : Addr} {C : Nat → Addr} {H H' : Hp} {x : Addr} {fs : List Str} {n : Int} {ms : List CM} (h : IsR K CR CP C H x fs n ms) (s : Same H H') : IsR K CR CP C H' x fs n ms := by
  obtain ⟨dx, f, t, xs, h1, h2, h3, h4⟩ := h
  exact ⟨dx, f, t, xs, s _ _ h1, sameT s h2, sameT s h3, h4.imp fun _ _ => mon_CRep.up s⟩
section
variable {P : Program} {w : World} {K : PySem.W.Frag} {mg : Str → Option Value} {base : Heap} {C : Nat → Addr} {CP CR : Addr}
def spIsClause (CP : Addr) (C : Nat → Addr) : Sp := fun vs H Q _ => ∃ z m, vs = [.ref z] ∧ CRep CP C H (.ref z) m ∧ ∀ H', Same H H' → Q (.bl true) H'
def spFits (K : PySem.W.Frag) (CP : Addr) (C : Nat → Addr) : Sp := fun vs H Q _ => ∃ (z a : Addr) (n : Int) (m : CM) (fs : List Str), vs = [.ref z, .ref a, .int n] ∧ CRep CP C H (.ref z) m ∧ SqE K H a (fs.map V.str) ∧ Fits fs n m ∧ ∀ H', Same H H' → Q .non H'
def GoodFs (fs : List Str) : Prop := 1 ≤ fs.length ∧ fs.length ≤ 3 ∧ (∀ f ∈ fs, Word f) ∧ fs.Pairwise (· ≠ ·)
def spChkFuns (K : PySem.W.Frag) : Sp := fun vs H Q _ => ∃ (a : Addr) (fs : List Str), vs = [.ref a] ∧ SqE K H a (fs.map V.str) ∧ GoodFs fs ∧ ∀ H', Same H H' → Q .non H'
theorem any_of (T : CTxt K mg C) {i : Nat} (hi : i < 7) : PySem.W.kitAny K (.ref (C i)) [.ref (C 0), .ref (C 1), .ref (C 2), .ref (C 3), .ref (C 4), .ref (C 5), .ref (C 6)] = some true := by
  have k := T.kk i hi
  unfold PySem.W.kitAny; rw [k 0 (by decide)]
  unfold PySem.W.kitAny; rw [k 1 (by decide)]
  unfold PySem.W.kitAny; rw [k 2 (by decide)]
  unfold PySem.W.kitAny; rw [k 3 (by decide)]
  unfold PySem.W.kitAny; rw [k 4 (by decide)]
  unfold PySem.W.kitAny; rw [k 5 (by decide)]
  unfold PySem.W.kitAny; rw [k 6 (by decide)]
  rcases (show i = 0 ∨ i = 1 ∨ i = 2 ∨ i = 3 ∨ i = 4 ∨ i = 5 ∨ i = 6 by omega) with e | e | e | e | e | e | e <;> subst e <;> rfl
theorem scIC : FnScope ["value"] ["value"] (defScope sIsClause) := ⟨rfl, rfl, rfl, by decide +kernel, rfl, by decide +kernel, by decide +kernel⟩
theorem ok_isclause {f : Addr} {fd : FuncData} (F : Fun K "is_clause" "is_clause" sIsClause f fd) (T : CTxt K mg C) (Z : PTxt K mg CP) : FnOk P w K mg base CX0 1 f fd ["value"] (spIsClause CP C) := by
  refine F.ok scIC (fun vs H Q E h => ?_) (fun cdv A outer s H vs Q E hr h => ?_)
  · obtain ⟨z, m, rfl, _⟩ := h
    rfl
  · obtain ⟨z, m, rfl, ⟨z', e, hC⟩, q⟩ := h
    injection e with e
    subst e
    refine ⟨_, pss_one (ps_ret (pe_callB call_isiT (by rfl) Z.zIsi bt_isi (pa_cons (pv 0) (pa_cons (pe_tup (pa_cons (pe_glob (v := .ref (C 0)) (by rfl) (T.mgC 0 (by decide)) rfl) (pa_cons (pe_glob (v := .ref (C 1)) (by rfl) (T.mgC 1 (by decide)) rfl) (pa_cons (pe_glob (v := .ref (C 2)) (by rfl) (T.mgC 2 (by decide)) rfl)
      (pa_cons (pe_glob (v := .ref (C 3)) (by rfl) (T.mgC 3 (by decide)) rfl) (pa_cons (pe_glob (v := .ref (C 4)) (by rfl) (T.mgC 4 (by decide)) rfl) (pa_cons (pe_glob (v := .ref (C 5)) (by rfl) (T.mgC 5 (by decide)) rfl) (pa_cons (pe_glob (v := .ref (C 6)) (by rfl) (T.mgC 6 (by decide)) rfl) pa_nil)))))))) pa_nil)))), ?_⟩
    obtain ⟨dx, pl, hz, _⟩ := hC.ex
    refine ⟨_, rfl, by show 7 ≤ sizeLine; decide, fun t nt => ?_⟩
    have s1 := same_lay (o := .tup [.ref (C 0), .ref (C 1), .ref (C 2), .ref (C 3), .ref (C 4), .ref (C 5), .ref (C 6)]) nt
    exact ⟨.ref z, t, _, _, _, true, rfl, upd_same, .cons (.own _) (.cons (.own _) (.cons (.own _) (.cons (.own _) (.cons (.own _) (.cons (.own _) (.cons (.own _) .nil)))))), tyC T hC.lt (s1 _ _ hz), any_of T hC.lt, q _ s1⟩
theorem scKF : FnScope ["clause", "functions", "last", "function", "greatest"] ["clause", "functions", "last"] (defScope sChkFits) := ⟨rfl, rfl, rfl, by decide +kernel, rfl, by decide +kernel, by decide +kernel⟩
theorem ok_fits {f : Addr} {fd : FuncData} (F : Fun K "check_fits" "check_fits" sChkFits f fd) (T : CTxt K mg C) (PT : PTxt K mg CP) (TO : ∀ i, i < 7 → Mt P w K mg base 1 (C i) "functions_told" ["self"] (spCTold CP C i)) (GR : Mt P w K mg base 1 CP "greatest" ["self"] (spLeast CP greatV)) : FnOk P w K mg base CX0 2 f fd ["clause", "functions", "last"] (spFits K CP C) := by
  refine F.ok scKF (fun vs H Q E h => ?_) (fun cdv A outer s H vs Q E hr h => ?_)
  · obtain ⟨z, a, n, m, fs, rfl, _⟩ := h
    rfl
  · obtain ⟨z, a, n, m, fs, rfl, ⟨z', e, hC⟩, hS, hF, q⟩ := h
    injection e with e
    subst e
    have nd := scKF.nd
    refine ⟨_, pss_cons (ps_for PassesOwn.never rfl (pi_tup (pe_mtF TO T.cl hr (by decide) (pv 0))) (pg_name (i := 3) nd rfl (.inl rfl))
          (pss_one (ps_if (pt_cmpR (op_notIn_seqK K rfl) (pv 3) (pv 1) (by rfl))
              (pss_one ps_never)
              pss_nil)))
      (pss_cons (ps_set (i := 4) nd rfl (.inl rfl) (pe_mt0 GR PT.cl hr (by decide) (pe_fld (pv 0) rfl)))
      (pss_one (ps_if (PW.pt (pw_and (pt_cmp (pc_notN (pv 4))) (pw_and1 (pt_cmpR op_gt (pv 4) (pv 2) (nomark _)))))
          (pss_one ps_never)
          pss_nil))), ?_⟩
    obtain ⟨dx, pl, hz, hp⟩ := hC.ex
    obtain ⟨_, dxp, t1, f1, b1, M, hpi, _⟩ := id hp
    refine ⟨m.1, hC.lt, _, rfl, z, dx, _, rfl, hz, cFl_no (noM _), z, m.2.1, m.2.2.1, m.2.2.2, rfl, hC, fun t nt => ?_⟩
    have s1 := same_lay (o := .tup (told m.1 m.2.1 m.2.2.2)) nt
    refine ⟨t, rfl, ⟨_, .inl (.inl upd_same)⟩, for_tup (K := K) (a := t) (xs := told m.1 m.2.1 m.2.2.2) (fun i σ G => (∃ s3, σ = [some (.ref z), some (.ref a), some (.int n), s3, none]) ∧ G = upd H t (.tup (told m.1 m.2.1 m.2.2.2)))
      ⟨⟨none, rfl⟩, rfl⟩ (fun i σ G _ ⟨_, e⟩ => by rw [e]; exact .inl (.inl upd_same)) ?_ ?_⟩
    · rintro i y σ G hy ⟨⟨s3, rfl⟩, rfl⟩
      obtain ⟨g, hg, rfl⟩ := hF.told y (List.mem_of_getElem? hy)
      refine ⟨_, rfl, _, rfl, a, _, rfl, (hS.same s1), rfl, flat_strs fs, _, rfl, ?_⟩
      rw [in_strs hg]
      exact iteF ⟨⟨_, rfl⟩, rfl⟩
    · rintro σ G ⟨⟨s3, rfl⟩, rfl⟩
      refine ⟨_, rfl, z, C m.1, dx, _, .ref pl, rfl, s1 _ _ hz, T.cl _ hC.lt, T.no _ hC.lt "places" (List.mem_of_getElem? (i := 2) rfl), cFl_at (j := 2) rfl rfl, pl, dxp, _, rfl, s1 _ _ hpi, pFl_no _ _ _ (by decide +kernel) (by decide +kernel) (by decide +kernel), pl, _, rfl, hp.same s1, ?_⟩
      rcases greatV_le hF.rows with e | ⟨k, e, hk⟩
      · rw [e]
        exact ⟨_, rfl, _, rfl, iteF (iteF (q _ s1))⟩
      · rw [e]
        refine ⟨_, rfl, _, rfl, iteT ⟨_, rfl, _, rfl, _, _, rfl, rfl, _, rfl, ite2 (fun c => ?_) (fun _ => q _ s1)⟩⟩
        exact absurd (of_decide_eq_true c) (by omega)
end
end OR

namespace OR
open PySem PySem.Spec PyProof.Rows L2
theorem cut_strs (fs : List Str) (i : Nat) : cutV (fs.map V.str) none (some (i : Int)) = (fs.take i).map V.str := by
  unfold cutV
  rw [HT.sIx_none, HT.sIx_nat, List.drop_zero, Nat.sub_zero, List.map_take]
  rcases Nat.le_total i (fs.map V.str).length with h | h
  · rw [Nat.min_eq_left h]
  · rw [Nat.min_eq_right h, List.take_of_length_le (Nat.le_refl _), List.take_of_length_le h]
theorem not_full {fs : List Str} {i : Nat} (h : i < fs.length) : ¬ (HT.sIx (fs.map V.str).length 0 none = 0 ∧ HT.sIx (fs.map V.str).length (fs.map V.str).length (some (i : Int)) = (fs.map V.str).length) := fun ⟨_, e⟩ => by
  rw [HT.sIx_nat, List.length_map] at e
  omega
theorem fresh_at {fs : List Str} {i : Nat} {g : Str} (hp : fs.Pairwise (· ≠ ·)) (hg : fs[i]? = some g) : g ∉ fs.take i := fun hm => by
  obtain ⟨hi, e⟩ := List.getElem?_eq_some_iff.mp hg
  obtain ⟨j, hj, e2⟩ := List.mem_iff_getElem.mp hm
  rw [List.length_take] at hj
  have hji : j < i := by omega
  rw [List.getElem_take] at e2
  exact List.pairwise_iff_getElem.mp hp j i (by omega) hi hji (by rw [e2, e])
theorem op_in_seqK {X : Cx} (K : PySem.W.Frag) (hK : X.K = K) : OpR X (compareOp .In) (rIn K false) := by
  subst hK
  exact op_in_seq
theorem tupOf_E {K : PySem.W.Frag} {H : Hp} {a : Addr} {xs : List V} {Q : VK} (h : SqE K H a xs) (q : ∀ t H', SqT K H' t xs → Same H H' → Q (.ref t) H') : rTupOf K [.ref a] H Q := by
  rcases h with h | h
  · exact ⟨a, xs, rfl, .inl ⟨h, fun l nl => q l _ (.inl (.inl upd_same)) (same_lay nl)⟩⟩
  · exact ⟨a, xs, rfl, .inr ⟨h, q a H h (Same.refl _)⟩⟩
theorem SqE.len {K : PySem.W.Frag} {H : Hp} {a : Addr} {xs : List V} (h : SqE K H a xs) : SqL K H a xs ∨ SqT K H a xs := h
/-- a tuple stays where an instance changes -/
theorem tup_fre {K : PySem.W.Frag} {H H' : Hp} {x t C dx : Addr} {fs : List (Str × V)} {xs : List V} (h : SqT K H t xs) (hx : H x = some (.ins C dx fs)) (f : Fre x H H') : SqT K H' t xs := by
  rcases h with (h | ⟨o, h⟩) | h
  · exact .inl (.inl (f _ _ h (ne_of h hx (by intro z; cases z))))
  · exact .inl (.inr ⟨o, f _ _ h (ne_of h hx (by intro z; cases z))⟩)
  · exact .inr h
theorem lst_fre {K : PySem.W.Frag} {H H' : Hp} {x t C dx : Addr} {fs : List (Str × V)} {xs : List V} (h : SqL K H t xs) (hx : H x = some (.ins C dx fs)) (f : Fre x H H') : SqL K H' t xs := by
  rcases h with (h | ⟨o, h⟩) | h
  · exact .inl (.inl (f _ _ h (ne_of h hx (by intro z; cases z))))
  · exact .inl (.inr ⟨o, f _ _ h (ne_of h hx (by intro z; cases z))⟩)
  · exact .inr h
theorem SqE.fre {K : PySem.W.Frag} {H H' : Hp} {x t C dx : Addr} {fs : List (Str × V)} {xs : List V} (h : SqE K H t xs) (hx : H x = some (.ins C dx fs)) (f : Fre x H H') : SqE K H' t xs := h.elim (fun h => .inl (lst_fre h hx f)) fun h => .inr (tup_fre h hx f)
section
variable {P : Program} {w : World} {K : PySem.W.Frag} {mg : Str → Option Value} {base : Heap} {C : Nat → Addr} {CP CR : Addr}
theorem scCF : FnScope ["functions", "index", "word"] ["functions"] (defScope sChkFuns) := ⟨rfl, rfl, rfl, by decide +kernel, rfl, by decide +kernel, by decide +kernel⟩
theorem ok_chkfuns {f : Addr} {fd : FuncData} (F : Fun K "_check_functions" "_check_functions" sChkFuns f fd) (T : PTxt K mg CP) (R : RTxt K mg CR) (KW : Cl P w K mg base 2 "check_word" ["value"] spChkW) : FnOk P w K mg base CX0 3 f fd ["functions"] (spChkFuns K) := by
  refine F.ok scCF (fun vs H Q E h => ?_) (fun cdv A outer s H vs Q E hr h => ?_)
  · obtain ⟨a, fs, rfl, _⟩ := h
    rfl
  · obtain ⟨a, fs, rfl, hS, hg_, q⟩ := h
    obtain ⟨t3, hm⟩ := R.few
    have nd := scCF.nd
    refine ⟨_, pss_cons (ps_if (pt_not (pt_chain op_le op_le pe_int (pe_callB call_len_seq (by rfl) T.zLen PySem.boot_len (pa_cons (pv 0) pa_nil)) (pe_glob (v := .int 3) (by rfl) hm ⟨_, rfl⟩)))
          (pss_one ps_never)
          pss_nil)
      (pss_one (ps_for PassesOwn.never rfl (pi_or (pi_enum (by rfl) T.zEnum (pa_cons (pv 0) pa_nil)) (pi_enumT (by rfl) T.zEnum (pa_cons (pv 0) pa_nil))) (pg_tup rfl (pgs_cons (pg_name (i := 1) nd rfl (.inl rfl)) (pgs_cons (pg_name (i := 2) nd rfl (.inl rfl)) pgs_nil)))
          (pss_cons (ps_expr (pe_cl KW hr (by decide) (by rfl) (pa_cons (pv 2) pa_nil)))
          (pss_one (ps_if (pt_cmpR (op_in_seqK K rfl) (pv 2) (pe_slice (SlR.or sl_list sl_tup) (pv 0) po_none (po_some (pv 1))) (by rfl))
              (pss_one ps_never)
              pss_nil))))), ?_⟩
    have l1 := hg_.1
    have l3 := hg_.2.1
    refine ⟨_, rfl, a, _, rfl, hS, _, _, rfl, rfl, _, rfl, ite2 (fun _ => ?_) (fun z => absurd (decide_eq_true (show (1 : Int) ≤ ((fs.map V.str).length : Nat) by rw [List.length_map]; omega)) z)⟩
    refine ⟨_, _, rfl, rfl, _, rfl, ite2 (fun z => ?_) (fun _ => ?_)⟩
    · exfalso
      have h8 : decide ((((fs.map V.str).length : Nat) : Int) ≤ 3) = true := decide_eq_true (by rw [List.length_map]; omega)
      rw [h8] at z
      exact absurd z (by decide)
    rcases hS with hS | hS
    · refine .inl ⟨_, rfl, a, fs.map V.str, rfl, hS, for_enum (K := K) (a := a) (xs := fs.map V.str) (fun i σ G => (∃ s1 s2, σ = [some (.ref a), s1, s2]) ∧ Same H G)
        ⟨⟨none, none, rfl⟩, Same.refl _⟩ (fun i σ G _ ⟨_, s⟩ => s.seq hS) ?_ ?_⟩
      · rintro i y σ G Tn hy ⟨⟨s1, s2, rfl⟩, S1⟩ hT
        rw [List.getElem?_map] at hy
        obtain ⟨g, hg, rfl⟩ := Option.map_eq_some_iff.mp hy
        have hi : i < fs.length := (List.getElem?_eq_some_iff.mp hg).1
        have S2 := S1.trans (same_lay (o := .tup [.int (i : Nat), .str g]) hT)
        refine ⟨Tn, _, rfl, .inl (.inl upd_same), rfl, _, _, rfl, _, _, rfl, rfl, ?_⟩
        refine ⟨_, rfl, g, rfl, hg_.2.2.1 g (List.mem_of_getElem? hg), fun G2 S3 => ?_⟩
        have S4 := S2.trans S3
        refine ⟨_, rfl, _, rfl, _, rfl, _, rfl, .inl ⟨a, _, rfl, S4.seq hS, fun l nl => ?_⟩⟩
        have S5 := S4.trans (same_lay (o := .lst (cutV (fs.map V.str) none (some (i : Int)))) nl)
        refine ⟨l, _, rfl, .inl (.inl (.inl upd_same)), rfl, ?_, _, rfl, ?_⟩
        · rw [cut_strs]; exact flat_strs _
        · rw [cut_strs] at S5
          rw [cut_strs, notin_strs (fresh_at hg_.2.2.2 hg)]
          exact iteF ⟨⟨_, _, rfl⟩, S5⟩
      · rintro σ G ⟨⟨s1, s2, rfl⟩, S1⟩
        exact q G S1
    · refine .inr ⟨_, rfl, a, fs.map V.str, rfl, hS, for_enumT (K := K) (a := a) (xs := fs.map V.str) (fun i σ G => (∃ s1 s2, σ = [some (.ref a), s1, s2]) ∧ Same H G)
        ⟨⟨none, none, rfl⟩, Same.refl _⟩ (fun i σ G _ ⟨_, s⟩ => sameT s hS) ?_ ?_⟩
      · rintro i y σ G Tn hy ⟨⟨s1, s2, rfl⟩, S1⟩ hT
        rw [List.getElem?_map] at hy
        obtain ⟨g, hg, rfl⟩ := Option.map_eq_some_iff.mp hy
        have hi : i < fs.length := (List.getElem?_eq_some_iff.mp hg).1
        have S2 := S1.trans (same_lay (o := .tup [.int (i : Nat), .str g]) hT)
        refine ⟨Tn, _, rfl, .inl (.inl upd_same), rfl, _, _, rfl, _, _, rfl, rfl, ?_⟩
        refine ⟨_, rfl, g, rfl, hg_.2.2.1 g (List.mem_of_getElem? hg), fun G2 S3 => ?_⟩
        have S4 := S2.trans S3
        refine ⟨_, rfl, _, rfl, _, rfl, _, rfl, .inr ⟨a, _, rfl, sameT S4 hS, not_full hi, fun l nl => ?_⟩⟩
        have S5 := S4.trans (same_lay (o := .tup (cutV (fs.map V.str) none (some (i : Int)))) nl)
        refine ⟨l, _, rfl, .inr (.inl (.inl upd_same)), rfl, ?_, _, rfl, ?_⟩
        · rw [cut_strs]; exact flat_strs _
        · rw [cut_strs] at S5
          rw [cut_strs, notin_strs (fresh_at hg_.2.2.2 hg)]
          exact iteF ⟨⟨_, _, rfl⟩, S5⟩
      · rintro σ G ⟨⟨s1, s2, rfl⟩, S1⟩
        exact q G S1
def spRuInit (K : PySem.W.Frag) (CR CP : Addr) (C : Nat → Addr) : Sp := fun vs H Q _ => ∃ (x dx a b : Addr) (n : Int) (fs : List Str) (xs : List V) (ms : List CM), vs = [.ref x, .ref a, .int n, .ref b] ∧ H x = some (.ins CR dx []) ∧ SqE K H a (fs.map V.str) ∧ GoodFs fs ∧ placeB n = true ∧
  SqE K H b xs ∧ All2 (CRep CP C H) xs ms ∧ ms.length ≤ 60 ∧ (∀ m ∈ ms, Fits fs n m) ∧ ∀ (ft tt : Addr) H', H' x = some (.ins CR dx (rFl ft n tt)) → SqT K H' ft (fs.map V.str) → SqT K H' tt xs → Fre x H H' → Q .non H'
theorem scRI : FnScope ["self", "functions", "last", "told", "index", "clause"] ["self", "functions", "last", "told"] (defScope sRuInit) := ⟨rfl, rfl, rfl, by decide +kernel, rfl, by decide +kernel, by decide +kernel⟩
theorem ok_ruinit {f : Addr} {fd : FuncData} (F : Fun K "__init__" "Rules.__init__" sRuInit f fd) (T : PTxt K mg CP) (R : RTxt K mg CR) (CF : Cl P w K mg base 3 "_check_functions" ["functions"] (spChkFuns K)) (IP : Cl P w K mg base 2 "is_place" ["value"] (spIsPlace K))
    (IC : Cl P w K mg base 1 "is_clause" ["value"] (spIsClause CP C)) (KF : Cl P w K mg base 2 "check_fits" ["clause", "functions", "last"] (spFits K CP C)) : FnOk P w K mg base CX0 4 f fd ["self", "functions", "last", "told"] (spRuInit K CR CP C) := by
  refine F.ok scRI (fun vs H Q E h => ?_) (fun cdv A outer s H vs Q E hr h => ?_)
  · obtain ⟨x, dx, a, b, n, fs, xs, ms, rfl, _⟩ := h
    rfl
  · obtain ⟨x, dx, a, b, n, fs, xs, ms, rfl, hx, hS, hg, hn, hB, hA, hl, hF, q⟩ := h
    obtain ⟨t60, hm⟩ := R.most
    have nd := scRI.nd
    refine ⟨_, pss_cons (ps_expr (pe_cl CF hr (by decide) (by rfl) (pa_cons (pv 1) pa_nil)))
      (pss_cons (ps_if (pt_not (pt_val (pe_cl IP hr (by decide) (by rfl) (pa_cons (pv 2) pa_nil))))
          (pss_one ps_never)
          pss_nil)
      (pss_cons (ps_if (pt_cmpR op_gt (pe_callB call_len_seq (by rfl) T.zLen PySem.boot_len (pa_cons (pv 3) pa_nil)) (pe_glob (v := .int 60) (by rfl) hm ⟨_, rfl⟩) (nomark _))
          (pss_one ps_never)
          pss_nil)
      (pss_cons (ps_for PassesOwn.never rfl (pi_or (pi_enum (by rfl) T.zEnum (pa_cons (pv 3) pa_nil)) (pi_enumT (by rfl) T.zEnum (pa_cons (pv 3) pa_nil))) (pg_tup rfl (pgs_cons (pg_name (i := 4) nd rfl (.inl rfl)) (pgs_cons (pg_name (i := 5) nd rfl (.inl rfl)) pgs_nil)))
          (pss_cons (ps_if (pt_not (pt_val (pe_cl IC hr (by decide) (by rfl) (pa_cons (pv 5) pa_nil))))
              (pss_one ps_never)
              pss_nil)
          (pss_one (ps_expr (pe_cl KF hr (by decide) (by rfl) (pa_cons (pv 5) (pa_cons (pv 1) (pa_cons (pv 2) pa_nil))))))))
      (pss_cons (ps_fld (pv 0) (pe_callTy (call_tupOf K rfl) (by rfl) T.zTup bt_tup (pa_cons (pv 1) pa_nil)) rfl)
      (pss_cons (ps_fld (pv 0) (pv 2) rfl)
      (pss_one (ps_fld (pv 0) (pe_callTy (call_tupOf K rfl) (by rfl) T.zTup bt_tup (pa_cons (pv 3) pa_nil)) rfl))))))), ?_⟩
    have lx : xs.length = ms.length := hA.length
    refine ⟨_, rfl, a, fs, rfl, hS, hg, fun H0 S0 => ?_⟩
    refine ⟨_, rfl, .int n, rfl, .inl ⟨n, rfl, _, rfl, ?_⟩⟩
    rw [hn]
    refine iteF ⟨_, rfl, b, xs, rfl, hB.same S0, _, _, rfl, rfl, _, rfl, ite2 (fun z => absurd (of_decide_eq_true z) (by omega)) (fun _ => ?_)⟩
    have after : ∀ (σ : L2.St) (G : Hp) (i1 s1 : Option V), σ = [some (.ref x), some (.ref a), some (.int n), some (.ref b), i1, s1] → Same H G → (tSeq (sFld K (tVar 0) (tCB (rTupOf K) (tCons (tVar 1) tNil)) "functions") (tSeq (sFld K (tVar 0) (tVar 2) "last") (sFld K (tVar 0) (tCB (rTupOf K) (tCons (tVar 3) tNil)) "told")))
        { nx := fun _ H' => Q .non H', rt := Q } σ G := by
      rintro σ G i1 s1 rfl SG
      refine ⟨_, rfl, ?_⟩
      dsimp only [tNil]
      refine tupOf_E (hS.same SG) fun t G1 ht S1 => ?_
      have hx1 := S1 _ _ (SG _ _ hx)
      refine ⟨_, rfl, x, CR, dx, _, rfl, hx1, R.cl, R.nF, (by show 0 < 1000; decide), ?_⟩
      refine ⟨_, rfl, _, rfl, x, CR, dx, _, rfl, upd_same, R.cl, R.nL, (by show 1 < 1000; decide), ?_⟩
      rw [upd_upd]
      have f2 : Fre x G1 (upd G1 x (.ins CR dx (putF "last" (.int n) (putF "functions" (.ref t) [])))) := Fre.put
      refine ⟨_, rfl, ?_⟩
      dsimp only [tNil]
      refine tupOf_E ((hB.same (SG.trans S1)).fre hx1 f2) fun t2 G2 ht2 S2 => ?_
      have hx2 : G2 x = _ := S2 _ _ (upd_same)
      refine ⟨_, rfl, x, CR, dx, _, rfl, hx2, R.cl, R.nT, (by show 2 < 1000; decide), ?_⟩
      have f3 : Fre x G2 (upd G2 x (.ins CR dx (rFl t n t2))) := Fre.put
      refine q t t2 _ upd_same (tup_fre (sameT S2 (tup_fre ht hx1 f2)) hx2 f3) (tup_fre ht2 hx2 f3) ?_
      exact fun c o e nc => f3 _ _ (S2 _ _ (f2 _ _ (S1 _ _ (SG _ _ e)) nc)) nc
    have hS := hS
    rcases hB with hB | hB
    · refine .inl ⟨_, rfl, b, xs, rfl, S0.seq hB, for_enum (K := K) (a := b) (xs := xs) (fun i σ G => (∃ s1 s2, σ = [some (.ref x), some (.ref a), some (.int n), some (.ref b), s1, s2]) ∧ Same H G)
        ⟨⟨none, none, rfl⟩, S0⟩ (fun i σ G _ ⟨_, s⟩ => s.seq hB) ?_ ?_⟩
      · rintro i y σ G Tn hy ⟨⟨s1, s2, rfl⟩, S1⟩ hT
        obtain ⟨m, hm, hC⟩ := hA.getL hy
        obtain ⟨z, rfl, _⟩ := id hC
        have S2 := S1.trans (same_lay (o := .tup [.int (i : Nat), .ref z]) hT)
        refine ⟨Tn, _, rfl, .inl (.inl upd_same), rfl, _, _, rfl, _, _, rfl, rfl, ?_⟩
        refine ⟨_, rfl, z, m, rfl, mon_CRep.up S2 hC, fun G2 S3 => ⟨_, rfl, iteF ?_⟩⟩
        have S4 := S2.trans S3
        refine ⟨_, rfl, _, rfl, _, rfl, z, a, n, m, fs, rfl, mon_CRep.up S4 hC, hS.same S4, hF m (List.mem_of_getElem? hm), fun G3 S5 => ?_⟩
        exact ⟨⟨_, _, rfl⟩, S4.trans S5⟩
      · rintro σ G ⟨⟨s1, s2, rfl⟩, S1⟩
        exact after _ G s1 s2 rfl S1
    · refine .inr ⟨_, rfl, b, xs, rfl, sameT S0 hB, for_enumT (K := K) (a := b) (xs := xs) (fun i σ G => (∃ s1 s2, σ = [some (.ref x), some (.ref a), some (.int n), some (.ref b), s1, s2]) ∧ Same H G)
        ⟨⟨none, none, rfl⟩, S0⟩ (fun i σ G _ ⟨_, s⟩ => sameT s hB) ?_ ?_⟩
      · rintro i y σ G Tn hy ⟨⟨s1, s2, rfl⟩, S1⟩ hT
        obtain ⟨m, hm, hC⟩ := hA.getL hy
        obtain ⟨z, rfl, _⟩ := id hC
        have S2 := S1.trans (same_lay (o := .tup [.int (i : Nat), .ref z]) hT)
        refine ⟨Tn, _, rfl, .inl (.inl upd_same), rfl, _, _, rfl, _, _, rfl, rfl, ?_⟩
        refine ⟨_, rfl, z, m, rfl, mon_CRep.up S2 hC, fun G2 S3 => ⟨_, rfl, iteF ?_⟩⟩
        have S4 := S2.trans S3
        refine ⟨_, rfl, _, rfl, _, rfl, z, a, n, m, fs, rfl, mon_CRep.up S4 hC, hS.same S4, hF m (List.mem_of_getElem? hm), fun G3 S5 => ?_⟩
        exact ⟨⟨_, _, rfl⟩, S4.trans S5⟩
      · rintro σ G ⟨⟨s1, s2, rfl⟩, S1⟩
        exact after _ G s1 s2 rfl S1
end
end OR

namespace OR
open PySem PySem.Spec PyProof.Rows L2
theorem dp_strs {K : PySem.W.Frag} {H : Hp} : ∀ ws : List Str, DpAll K H (ws.map V.str) (ws.map PyData.str)
  | [] => .nil
  | w :: r => .cons (.str w) (dp_strs r)
def SmallS (w : Str) : Prop := ∀ c ∈ w.cps.toList, c < 200
theorem Word.small {w : Str} (h : Word w) : SmallS w := fun c hc => by have := h.az c hc; omega
theorem strOk_of {w : Str} (h : SmallS w) : PyData.strOk w = true := by
  unfold PyData.strOk
  rw [← Array.all_toList, List.all_eq_true]
  intro c hc
  have := h c hc
  exact decide_eq_true (by omega)
theorem lay_strs : ∀ {ws : List Str}, (∀ w ∈ ws, SmallS w) → PyData.canLayAll0 (ws.map PyData.str) = true
  | [], _ => rfl
  | w :: r, h => by
    show (PyData.strOk w && PyData.canLayAll0 (r.map PyData.str)) = true
    rw [lay_strs fun x hx => h x (List.mem_cons_of_mem _ hx), Bool.and_true]
    exact strOk_of (h w List.mem_cons_self)
theorem dep_strs : ∀ ws : List Str, PyData.depthAll (ws.map PyData.str) = 0
  | [] => rfl
  | w :: r => by
    show max (PyData.depth (.str w)) (PyData.depthAll (r.map PyData.str)) = 0
    rw [dep_strs r]
    rfl
theorem shpT_strs {ws : List Str} (h : ∀ w ∈ ws, SmallS w) : SeqAt.shaped (.tuple (ws.map PyData.str)) = true := by
  unfold SeqAt.shaped
  rw [show PyData.canLay0 (.tuple (ws.map PyData.str)) = true from lay_strs h, Bool.true_and]
  refine decide_eq_true ?_
  show PyData.depthAll (ws.map PyData.str) + 1 ≤ 64
  rw [dep_strs]
  decide
theorem shpL_strs {ws : List Str} (h : ∀ w ∈ ws, SmallS w) : SeqAt.shaped (.list (ws.map PyData.str)) = true := by
  unfold SeqAt.shaped
  rw [show PyData.canLay0 (.list (ws.map PyData.str)) = true from lay_strs h, Bool.true_and]
  refine decide_eq_true ?_
  show PyData.depthAll (ws.map PyData.str) + 1 ≤ 64
  rw [dep_strs]
  decide
theorem eqvAll_strs : ∀ (xs ys : List Str), PyData.eqvAll (xs.map PyData.str) (ys.map PyData.str) = decide (xs = ys)
  | [], [] => rfl
  | [], _ :: _ => rfl
  | _ :: _, [] => rfl
  | x :: xs, y :: ys => by
    show (PyData.eqv (.str x) (.str y) && PyData.eqvAll (xs.map PyData.str) (ys.map PyData.str)) = _
    rw [eqvAll_strs xs ys]
    show (x == y && decide (xs = ys)) = _
    by_cases e : x = y
    · subst e
      by_cases e2 : xs = ys <;> simp [e2]
    · simp [e]
theorem eqvT_strs (xs ys : List Str) : PyData.eqv (.tuple (xs.map PyData.str)) (.tuple (ys.map PyData.str)) = decide (xs = ys) := eqvAll_strs xs ys
theorem eqvL_strs (xs ys : List Str) : PyData.eqv (.list (xs.map PyData.str)) (.list (ys.map PyData.str)) = decide (xs = ys) := eqvAll_strs xs ys
section
variable {P : Program} {w : World} {K : PySem.W.Frag} {mg : Str → Option Value} {base : Heap} {C : Nat → Addr} {CP CR : Addr}
theorem tyR {H : Hp} {x dx : Addr} {fs : List (Str × V)} (R : RTxt K mg CR) (hx : H x = some (.ins CR dx fs)) : TyX K H (.ref x) (.ref CR) := .base (.ins hx R.cl R.isi.ca R.isi.cn R.isi.ct R.isi.cm)
instance decCML : DecidableEq (List CM) := @instDecidableEqList CM (fun a b => instDecidableEqProd a b)
def req (fs : List Str) (n : Int) (ms : List CM) (gs : List Str) (k : Int) (ns : List CM) : Bool := decide (fs = gs) && (decide (n = k) && decide (ms = ns))
def spRuEq (K : PySem.W.Frag) (CR CP : Addr) (C : Nat → Addr) : Sp := fun vs H Q _ => ∃ (a : Addr) (y : V) (fs : List Str) (n : Int) (ms : List CM), vs = [.ref a, y] ∧ IsR K CR CP C H a fs n ms ∧ (∀ f ∈ fs, SmallS f) ∧
  ((∃ b gs k ns, y = .ref b ∧ IsR K CR CP C H b gs k ns ∧ (∀ f ∈ gs, SmallS f) ∧ ∀ H', Same H H' → Q (.bl (req fs n ms gs k ns)) H') ∨ (∃ T : String, TyX K H y (.type T) ∧ PySem.W.kitOne K (.type T) (.ref CR) = some false ∧ Q (.bl false) H))
theorem scRE : FnScope ["self", "other"] ["self", "other"] (defScope sRuEq) := ⟨rfl, rfl, rfl, by decide +kernel, rfl, by decide +kernel, by decide +kernel⟩
theorem ok_rueq {f : Addr} {fd : FuncData} (F : Fun K "__eq__" "Rules.__eq__" sRuEq f fd) (T : PTxt K mg CP) (R : RTxt K mg CR) (CT : CTxt K mg C) (N : NF K C) (EQ : ∀ i, i < 7 → Md P w K mg base 2 (C i) "__eq__" (spCEq K CP C i)) : FnOk P w K mg base CX0 4 f fd ["self", "other"] (spRuEq K CR CP C) := by
  refine F.ok scRE (fun vs H Q E h => ?_) (fun cdv A outer s H vs Q E hr h => ?_)
  · obtain ⟨x, y, fs, n, ms, rfl, _⟩ := h
    rfl
  · obtain ⟨x, y, fs, n, ms, rfl, ⟨dx, ft, t, xs, hx, hf, ht, hA⟩, sf, h⟩ := h
    have hu64 : (A.deeper (envOfC "Rules.__eq__" (defScope sRuEq) s.heap.objs.size f cdv)).units + 64 < cLine := hr.units
    have nd := scRE.nd
    refine ⟨_, pss_cons (ps_if (pt_not (pt_val (pe_callB call_isi (by rfl) T.zIsi bt_isi (pa_cons (pv 1) (pa_cons (pe_glob (v := .ref CR) (by rfl) R.mgC rfl) pa_nil)))))
          (pss_one (ps_ret pe_bl))
          pss_nil)
      (pss_one (ps_ret (pe_and (pe_cmpR (op_eqD hu64) (pe_fld (pv 0) rfl) (pe_fld (pv 1) rfl) (nomark _)) (pe_and (pe_cmpR op_eq (pe_fld (pv 0) rfl) (pe_fld (pv 1) rfl) (nomark _))
        (pe_one (pe_cmpR (op_eqR (rcR_tup mon_CRep (eqR_cl CT N EQ) false) hr) (pe_fld (pv 0) rfl) (pe_fld (pv 1) rfl) (nomark _))))))), ?_⟩
    rcases h with ⟨y, gs, k, ns, rfl, ⟨dy, gt, u, ys, hy, hg, hu, hB⟩, sg, q⟩ | ⟨ty, hT, hk, q⟩
    · refine ⟨_, rfl, .ref y, .ref CR, _, _, true, rfl, .own CR, tyR R hy, R.kRR, true, rfl, iteF ?_⟩
      refine ⟨_, rfl, x, CR, dx, _, _, rfl, hx, R.cl, R.nF, rFl_f _ _ _, _, rfl, y, CR, dy, _, _, rfl, hy, R.cl, R.nF, rFl_f _ _ _, .tuple (fs.map PyData.str), .tuple (gs.map PyData.str), .tup hf (dp_strs fs), .tup hg (dp_strs gs), shpT_strs sf, shpT_strs sg, ?_⟩
      rw [eqvT_strs]
      unfold req at q
      refine ⟨_, rfl, ite2 (fun e1 => ?_) (fun e1 => ?_)⟩
      · rw [e1] at q
        refine ⟨_, rfl, x, CR, dx, _, _, rfl, hx, R.cl, R.nL, rFl_l _ _ _, _, rfl, y, CR, dy, _, _, rfl, hy, R.cl, R.nL, rFl_l _ _ _, rfl, ?_⟩
        have en : decide (V.int n = V.int k) = decide (n = k) := by simp
        rw [en]
        refine ⟨_, rfl, ite2 (fun e2 => ?_) (fun e2 => ?_)⟩
        · rw [e2] at q
          refine ⟨_, rfl, x, CR, dx, _, _, rfl, hx, R.cl, R.nT, rFl_t _ _ _, _, rfl, y, CR, dy, _, _, rfl, hy, R.cl, R.nT, rFl_t _ _ _, ms, ns, ⟨t, xs, rfl, ht, hA⟩, ⟨u, ys, rfl, hu, hB⟩, fun G e => ?_⟩
          have q' := q G e
          simpa using q'
        · have : decide (n = k) = false := by simpa using e2
          rw [this] at q
          simpa using q H (Same.refl _)
      · have : decide (fs = gs) = false := by simpa using e1
        rw [this] at q
        simpa using q H (Same.refl _)
    · exact ⟨_, rfl, y, .ref CR, _, _, false, rfl, .own CR, hT, hk, false, rfl, iteT q⟩
structure RMk (P : Program) (w : World) (K : PySem.W.Frag) (mg : Str → Option Value) (base : Heap) (CR CP : Addr) (C : Nat → Addr) : Prop where
  made : ∃ f fd, Mk K CR f ∧ FnOk P w K mg base CX0 4 f fd ["self", "functions", "last", "told"] (spRuInit K CR CP C) ∧ Binds K fd ["self", "functions", "last", "told"] []
  mgC : mg "Rules" = some (.ref CR)
def tMkR (K : PySem.W.Frag) (CR CP : Addr) (C : Nat → Addr) (t : TA) : TE := fun σ H Q => t σ H fun vs H1 => ∃ (a b : Addr) (n : Int) (fs : List Str) (xs : List V) (ms : List CM), vs = [.ref a, .int n, .ref b] ∧ SqE K H1 a (fs.map V.str) ∧ GoodFs fs ∧ placeB n = true ∧
  SqE K H1 b xs ∧ All2 (CRep CP C H1) xs ms ∧ ms.length ≤ 60 ∧ (∀ m ∈ ms, Fits fs n m) ∧ ∀ x H', H1 x = none → IsR K CR CP C H' x fs n ms → Same H1 H' → Q (.ref x) H'
theorem pe_mkR {X : Cx} {C : Nat → Addr} {CR CP : Addr} {j : Nat} {e : Expr} {es : List Expr} {t : TA} {p pos : Pos} (M : RMk X.prog X.w X.K X.mg X.base CR CP C) (hr : Room j X.A) (hj : 5 ≤ j) (hg : Gl X "Rules") (ha : PA X (e :: es) t)
    (he : starEach (e :: es) X.env = (false, eval e X.env) :: starEach es X.env := by rfl) (hpl : (backTo pos (starEach es X.env)).any (·.1) = false := by rfl) : PE X (.Call (.Name "Rules" p) (e :: es) [] pos) (tMkR X.K CR CP C t) := by
  obtain ⟨f, fd, mk, F, hb⟩ := M.made
  refine ⟨fun pins s σ H Q I h => ?_⟩
  refine wpAny_Call_Name_kw (ld_glob I hg M.mgC ?_ (by decide))
  refine PySem.W.callWith_K (h₀ := X.base) I.ok.mod.kin mk.kp (thn (ha.run pos pins s σ H _ I h) fun us s1 ⟨vs, H1, I1, r, q⟩ => ⟨I1.kIn, ?_⟩) he hpl
  obtain ⟨a, b, n, fs, xs, ms, rfl, hS, hg2, hn, hB, hA, hl, hF, q⟩ := q
  refine run_make mk F (hr.mono hj) hb .nil pass0 I1 r fun x dx nx ndx nex => ?_
  have S1 : Same H1 (upd (upd H1 dx (.own x)) x (.ins CR dx [])) := fun c o e => by rw [upd_ne (ne_of_none e nx), upd_ne (ne_of_none e ndx)]; exact e
  refine ⟨x, dx, a, b, n, fs, xs, ms, rfl, upd_same, hS.same S1, hg2, hn, hB.same S1, hA.imp fun _ _ => mon_CRep.up S1, hl, hF, fun ft tt H' hx h1 h2 hs => ⟨rfl, ?_⟩⟩
  have S2 : Same H1 H' := fun c o e => hs c o (S1 c o e) (ne_of_none e nx)
  exact q x H' nx ⟨dx, ft, tt, xs, hx, h1, h2, hA.imp fun _ _ => mon_CRep.up S2⟩ S2
end
end OR

namespace OR
open PySem PySem.Spec PyProof.Rows L2
open TL (tl numL)
/-! ### drawn words -/
def ch (c : Nat) : Str := ⟨#[c]⟩
theorem tl_ch (c : Nat) : tl (ch c) = [c] := rfl
theorem tl_join0 : ∀ cs : List Nat, tl (Txt.join ("" : Str) (cs.map ch)) = cs
  | [] => rfl
  | [c] => by rw [TL.join_eq]; rfl
  | c :: d :: r => by
    have ih := tl_join0 (d :: r)
    rw [TL.join_eq] at ih ⊢
    show tl ((ch c ++ ("" : Str)) ++ Str.join ("" : Str) ((d :: r).map ch)) = _
    rw [TL.tl_append, TL.tl_append, ih]
    rfl
theorem let_az {c : Nat} (h : c ∈ tl letters) : 97 ≤ c ∧ c ≤ 122 := by
  have e : tl letters = (List.range 26).map (· + 97) := by decide +kernel
  rw [e] at h
  obtain ⟨j, hj, rfl⟩ := List.mem_map.mp h
  have := List.mem_range.mp hj
  omega
theorem Frm.putNew {p d : Addr} {H H2 : Hp} {xs : List V} {o : HO} (f : Frm p H H2) (nd : H d = none) (h : H2 d = some (.lst xs)) : Frm p H (upd H2 d o) := ⟨fun b u e nb => by rw [upd_ne (ne_of_none e nd)]; exact f _ _ e nb, fun c hc => by
  obtain ⟨k, l', e⟩ := f.ce c hc
  exact ⟨k, l', by rw [upd_ne (ne_of e h (by intro z; cases z))]; exact e⟩⟩
def spPickS : Sp := fun vs H Q _ => ∃ (p : Addr) (s : Str) (n : Nat), vs = [.ref p, .str s] ∧ 0 < s.length ∧ s.length ≤ 1000 ∧ Pen H p n ∧ n ≤ 1000000 ∧ ∀ (c : Nat) (H' : Hp), c ∈ tl s → Pen H' p (n + 1) → Frm p H H' → Q (.str (ch c)) H'
theorem sum_le : ∀ (ws : List Str) (k : Nat), (∀ w ∈ ws, w.length ≤ k) → (ws.map (·.length)).sum ≤ ws.length * k
  | [], _, _ => by simp
  | w :: r, k, h => by
    have h1 := sum_le r k fun x hx => h x (List.mem_cons_of_mem _ hx)
    have h2 := h w List.mem_cons_self
    rw [List.map_cons, List.sum_cons, List.length_cons, Nat.succ_mul]
    omega
theorem len_app (a b : Str) : (a ++ b).length = a.length + b.length := by rw [TL.len_tl, TL.len_tl, TL.len_tl, TL.tl_append, List.length_append]
theorem Pen.putNew {H0 G : Hp} {p o : Addr} {n m : Nat} {xs : List V} {u : HO} (P0 : Pen H0 p m) (P : Pen G p n) (f : Frm p H0 G) (no : H0 o = none) (h : G o = some (.lst xs)) : Pen (upd G o u) p n := by
  obtain ⟨c0, hc0, hcn⟩ := P0.cells
  exact P.put (f.ce c0 hc0) h fun e => hcn (by rw [e]; exact no)
theorem ix_tupK {X : Cx} (K : PySem.W.Frag) (hK : X.K = K) : IxR X (rIxT K) := by
  subst hK
  exact ix_tup
theorem ix_listK {X : Cx} (K : PySem.W.Frag) (hK : X.K = K) : IxR X (rIxL K) := by
  subst hK
  exact ix_list
/-- the words of the law: a stem and one of three letters -/
def wrd (stem : List Nat) (k : Nat) : Str := ⟨(stem ++ [112 + k]).toArray⟩
theorem wrd_tl (stem : List Nat) (k : Nat) : tl (wrd stem k) = stem ++ [112 + k] := rfl
theorem wrd_ok {stem : List Nat} {k : Nat} (hl : stem.length ≤ 7) (hs : ∀ x ∈ stem, 97 ≤ x ∧ x ≤ 122) (hk : k < 3) : Word (wrd stem k) := by
  have len : (wrd stem k).length = stem.length + 1 := by
    rw [TL.len_tl, wrd_tl, List.length_append]; rfl
  refine ⟨by omega, by omega, fun x hx => ?_⟩
  rw [wrd_tl] at hx
  rcases List.mem_append.mp hx with h | h
  · exact hs x h
  · rw [List.mem_singleton.mp h]; omega
theorem wrd_ne {s t : List Nat} {j k : Nat} (h : j ≠ k) : wrd s j ≠ wrd t k := fun e => h (by
  have := congrArg tl e
  rw [wrd_tl, wrd_tl] at this
  have := congrArg List.getLast? this
  rw [List.getLast?_append, List.getLast?_append] at this
  simp at this
  exact this)
/-- the k-th word of a list is the k-th word of the law -/
def WordsAt (ws : List Str) : Prop := ∀ (k : Nat) (x : Str), ws[k]? = some x → ∃ stem : List Nat, x = wrd stem k ∧ stem.length ≤ 7 ∧ ∀ c ∈ stem, 97 ≤ c ∧ c ≤ 122
theorem WordsAt.snoc {ws : List Str} {stem : List Nat} (h : WordsAt ws) (hl : stem.length ≤ 7) (hs : ∀ c ∈ stem, 97 ≤ c ∧ c ≤ 122) : WordsAt (ws ++ [wrd stem ws.length]) := fun k x hx => by
  rcases Nat.lt_trichotomy k ws.length with e | e | e
  · rw [List.getElem?_append_left e] at hx
    exact h k x hx
  · subst e
    rw [List.getElem?_concat_length] at hx
    exact ⟨stem, (Option.some.inj hx).symm, hl, hs⟩
  · rw [List.getElem?_eq_none (by rw [List.length_append]; show ws.length + 1 ≤ k; omega)] at hx
    cases hx
theorem WordsAt.word {ws : List Str} (h : WordsAt ws) (hl : ws.length ≤ 3) : ∀ x ∈ ws, Word x := fun x hx => by
  obtain ⟨k, hk⟩ := List.getElem?_of_mem hx
  obtain ⟨stem, rfl, h1, h2⟩ := h k x hk
  exact wrd_ok h1 h2 (by have := (List.getElem?_eq_some_iff.mp hk).1; omega)
theorem WordsAt.ne {ws : List Str} (h : WordsAt ws) : ws.Pairwise (· ≠ ·) := by
  refine List.pairwise_iff_getElem.mpr fun i j hi hj hij => ?_
  obtain ⟨s, e, _⟩ := h i _ (List.getElem?_eq_getElem hi)
  obtain ⟨t, e2, _⟩ := h j _ (List.getElem?_eq_getElem hj)
  rw [e, e2]
  exact wrd_ne (Nat.ne_of_lt hij)
def spWordsOf : Sp := fun vs H Q _ => ∃ (p : Addr) (m n : Nat), vs = [.ref p, .int (m : Nat)] ∧ m ≤ 3 ∧ Pen H p n ∧ n ≤ 900000 ∧
  ∀ (a : Addr) (ws : List Str) (H' : Hp), H a = none → H' a = some (.lst (ws.map V.str)) → ws.length = m → WordsAt ws → Pen H' p (n + 40) → Frm p H H' → Q (.ref a) H'
section
variable {P : Program} {w : World} {K : PySem.W.Frag} {mg : Str → Option Value} {base : Heap}
theorem ok_pickS {f : Addr} {fd : FuncData} (F : Fun K "_law_pick" "_law_pick" sPick f fd) (B : Bl mg) (D : Cl P w K mg base 1 "_law_draw" ["_law_pen", "_law_many"] spDraw) : FnOk P w K mg base CX0 2 f fd ["_law_pen", "_law_options"] spPickS := by
  refine F.ok scPick (fun vs H Q E h => ?_) (fun cdv A outer s H vs Q E hr h => ?_)
  · obtain ⟨p, s, n, rfl, _⟩ := h
    rfl
  · obtain ⟨p, x, n, rfl, h0, h1, hP, hn, q⟩ := h
    refine ⟨_, pss_one (ps_ret (pe_ix ix_str (pv 1) (pe_cl D hr (by decide) (by rfl) (pa_cons (pv 0) (pa_cons (pe_callB call_len_str (by rfl) B.len PySem.boot_len (pa_cons (pv 1) pa_nil)) pa_nil))) (fun _ _ => rfl))), ?_⟩
    refine ⟨_, rfl, _, rfl, _, rfl, x, rfl, sz1 (by omega), p, x.length, n, rfl, by omega, ?_, hP, hn, fun r H' hr0 hr1 hP' hF => ?_⟩
    · have : x.length < 2 ^ 200 := Nat.lt_of_le_of_lt h1 (by decide)
      simpa using this
    · have hj : r.toNat < (tl x).length := by rw [← TL.len_tl]; omega
      refine ⟨x, r, (tl x)[r.toNat], rfl, rfl, sz1 (by omega), ?_, q _ _ (List.getElem_mem hj) hP' hF⟩
      have := atI_nat (xs := tl x) (j := r.toNat) (v := (tl x)[r.toNat]) (List.getElem?_eq_getElem hj)
      rw [Int.toNat_of_nonneg hr0] at this
      exact this
theorem scWd : FnScope ["_law_pen", "_law_many", "_law_found", "_law_k", "_law_stem", "_law_j"] ["_law_pen", "_law_many"] (defScope sWordsOf) := ⟨rfl, rfl, rfl, by decide +kernel, rfl, by decide +kernel, by decide +kernel⟩
theorem ok_words {f : Addr} {fd : FuncData} (F : Fun K "_law_words_of" "_law_words_of" sWordsOf f fd) (B : Bd mg) (PI : Cl P w K mg base 2 "_law_pick" ["_law_pen", "_law_options"] (spPick K)) (PS : Cl P w K mg base 2 "_law_pick" ["_law_pen", "_law_options"] spPickS) : FnOk P w K mg base CX0 3 f fd ["_law_pen", "_law_many"] spWordsOf := by
  refine F.ok scWd (fun vs H Q E h => ?_) (fun cdv A outer s H vs Q E hr h => ?_)
  · obtain ⟨p, m, n, rfl, _⟩ := h
    rfl
  · obtain ⟨p, m, n, rfl, hm, hP, hn, q⟩ := h
    have nd := scWd.nd
    refine ⟨_, pss_cons (ps_set (i := 2) nd rfl (.inl rfl) (pe_lst pa_nil))
      (pss_cons (ps_for PassesOwn.never rfl (pi_range1 (by rfl) B.range (pa_cons (pv 1) pa_nil)) (pg_name (i := 3) nd rfl (.inl rfl))
          (pss_cons (ps_set (i := 4) nd rfl (.inl rfl) (pe_join pe_str (pe_lc (own := [("_law_j", 5)]) (g := (gName 5)) (tt := tYes) rfl nd (pi_range1 (by rfl) B.range (pa_cons (pe_cl PI hr (by decide) (by rfl) (pa_cons (pv 0) (pa_cons (pe_lst (pa_cons pe_int (pa_cons pe_int (pa_cons pe_int (pa_cons pe_int pa_nil))))) pa_nil))) pa_nil)) (blkOk_by (N := ["_law_pen", "_law_many", "_law_found", "_law_k", "_law_stem", "_law_j"]) (sc := defScope sWordsOf) (by decide +kernel)) (fun _ _ _ _ _ => pg_name (i := 5) nd rfl (.inl rfl)) (fun _ _ _ _ _ => pts_nil) (fun _ _ _ _ _ => (pe_cl PS hr (by decide) (by rfl) (pa_cons (pv 0) (pa_cons pe_str pa_nil)))))))
          (pss_one (ps_expr (pe_bm PySem.F.plainAttrs_list PySem.F.slot_list_append PySem.F.type_list_append mt_append (pv 2) (pa_cons (pe_op op_add_str (pv 4) (pe_ix ix_str pe_str (pv 3) (fun _ _ => rfl))) pa_nil))))))
      (pss_one (ps_ret (pv 2)))), ?_⟩
    refine ⟨Nat.zero_le _, fun o no => ?_⟩
    have s1 : Same H _ := same_lay (o := .lst []) no
    have F1 := frmS (p := p) s1
    refine ⟨_, rfl, m, rfl, by omega, by omega, for_range (lo := 0) (n := ((m : Nat) : Int).toNat) (fun i σ G => ∃ ws : List Str, (∃ s3 s4 s5, σ = [some (.ref p), some (.int (m : Nat)), some (.ref o), s3, s4, s5]) ∧ G o = some (.lst (ws.map V.str)) ∧ ws.length = i ∧ WordsAt ws ∧ Pen G p (n + 8 * i) ∧ Frm p H G)
      ⟨[], ⟨none, none, none, rfl⟩, upd_same, rfl, (fun k x h => by cases h), hP.same' s1, F1⟩ ?_ ?_⟩
    · rintro i σ G hi ⟨ws, ⟨s3, s4, s5, rfl⟩, hG, lw, hW, PG, FG⟩
      have hi3 : i < 3 := by omega
      refine ⟨⟨_, rfl⟩, _, rfl, by show 4 ≤ sizeLine; decide, fun l nl => ?_⟩
      have P1 := PG.new (o := .lst (([0, 1, 3, 7] : List Int).map V.int)) nl
      have G1 := FG.trans (Frm.new (o := .lst (([0, 1, 3, 7] : List Int).map V.int)) nl)
      have hG1 := same_lay (o := .lst (([0, 1, 3, 7] : List Int).map V.int)) nl _ _ hG
      refine ⟨p, l, _, _, rfl, .inl (.inl upd_same), Nat.succ_pos _, by show 4 ≤ 1000; decide, P1, by omega, fun v H2 hv P2 F2 => ?_⟩
      obtain ⟨r, hr', rfl⟩ := List.mem_map.mp (show v ∈ ([0, 1, 3, 7] : List Int).map V.int from hv)
      have rb : 0 ≤ r ∧ r ≤ 7 := by
        simp only [List.mem_cons, List.not_mem_nil, or_false] at hr'
        omega
      have hG2 := F2.lst P1 hG1
      have G2 := G1.trans F2
      refine ⟨r, rfl, by omega, by omega, fun d hd => ?_⟩
      have nod : o ≠ d := ne_of_none hG2 hd
      have P3 := P2.new (o := .lst []) hd
      refine lc_range (lo := 0) (n := r.toNat) (fun i2 G3 => ∃ cs : List Nat, cs.length = i2 ∧ (∀ c ∈ cs, c ∈ tl letters) ∧ G3 d = some (.lst ((cs.map ch).map V.str)) ∧ Pen G3 p (n + 8 * i + 1 + i2) ∧ Frm p H2 G3)
        ⟨[], rfl, (fun _ z => nomatch z), upd_same, P3, Frm.new hd⟩ ?_ ?_
      · rintro i2 G3 hi2 ⟨cs, lc, hcs, hD, PG3, FG3⟩
        refine ⟨rfl, yesT ?_⟩
        refine ⟨_, rfl, p, letters, _, rfl, by decide, by decide, PG3, by omega, fun c G4 hc P4 F4 => ?_⟩
        have hD4 := F4.lst PG3 hD
        have FF := FG3.trans F4
        refine ⟨_, hD4, small1000 (by rw [List.length_map, List.length_map]; omega), cs ++ [c], by rw [List.length_append, lc]; rfl, fun x hx => ?_, ?_, (P2.putNew P4 FF hd hD4).mono (by omega), FF.putNew hd hD4⟩
        · rcases List.mem_append.mp hx with k | k
          · exact hcs x k
          · rw [List.mem_singleton.mp k]; exact hc
        · rw [upd_same, List.map_append, List.map_append]
          rfl
      · rintro G3 ⟨cs, lc, hcs, hD, PG3, FG3⟩
        have l0 : ("" : Str).length = 0 := by decide
        refine ⟨_, d, cs.map ch, rfl, rfl, .inl (.inl (.inl hD)), ?_, ?_⟩
        · have := sum_le (cs.map ch) 1 (fun w hw => by
            obtain ⟨c, _, rfl⟩ := List.mem_map.mp hw
            exact Nat.le_refl 1)
          rw [List.length_map] at this ⊢
          rw [l0]
          omega
        generalize hstem : Txt.join (Str.ofString "") (cs.map ch) = stem
        have tls : tl stem = cs := by rw [← hstem]; exact tl_join0 cs
        have lens : stem.length = cs.length := by rw [TL.len_tl, tls]
        have azs : ∀ x ∈ cs, 97 ≤ x ∧ x ≤ 122 := fun x hx => let_az (hcs x hx)
        have hG3 := FG3.lst P2 hG2
        have FH := G2.trans FG3
        have hat : atI (tl ("pqr" : Str)) ((0 : Int) + (i : Int)) = some (112 + i) := by
          have : (tl ("pqr" : Str))[i]? = some (112 + i) := by
            rcases (show i = 0 ∨ i = 1 ∨ i = 2 by omega) with e | e | e <;> subst e <;> decide +kernel
          have := atI_nat this
          rw [Int.zero_add]
          exact this
        refine ⟨_, rfl, .inl ⟨rfl, _, .inl (.inl hG3)⟩, _, rfl, _, rfl, _, _, _, rfl, rfl, (by decide), hat, _, _, rfl, rfl, sz1 ?_, o, _, _, rfl, rfl, hG3, small1000 (by rw [List.length_map]; omega), ?_⟩
        · show stem.length + 1 ≤ 20000
          omega
        have ew : stem ++ ch (112 + i) = wrd cs i := TL.ext_tl (by rw [TL.tl_append, tls, wrd_tl, tl_ch])
        refine ⟨ws ++ [wrd cs i], ⟨_, _, _, rfl⟩, ?_, by rw [List.length_append, lw]; rfl, ?_, (hP.putNew PG3 FH no hG3).mono (by omega), FH.putNew no hG3⟩
        · rw [upd_same, List.map_append]
          show _ = some (HO.lst (ws.map V.str ++ [V.str (wrd cs i)]))
          rw [← ew]
          rfl
        · rw [← lw]
          exact hW.snoc (by omega) azs
    · rintro σ G ⟨ws, ⟨s3, s4, s5, rfl⟩, hG, lw, hW, PG, FG⟩
      have em : ((m : Nat) : Int).toNat = m := Int.toNat_natCast m
      exact ⟨_, rfl, q o ws G no hG (by rw [lw, em]) hW (PG.mono (by omega)) FG⟩
end
end OR

namespace OR
open PySem PySem.Spec PyProof.Rows L2
open TL (tl numL)
/-! ### stretches in one form -/
def spNormal (K : PySem.W.Frag) : Sp := fun vs H Q _ => ∃ (a : Addr) (L : List ARow), vs = [.ref a] ∧ SqL K H a (refs L) ∧ AtR H L ∧ (∀ r ∈ rws L, r.1 ≤ r.2) ∧ L.length ≤ 500 ∧
  ∀ (o : Addr) (M : List ARow) (H' : Hp), Same H H' → H o = none → H' o = some (.lst (refs M)) → AtR H' M → Nf (rws M) → (∀ x, mem (rws M) x ↔ mem (rws L) x) → M.length ≤ L.length → Q (.ref o) H'
section
variable {P : Program} {w : World} {K : PySem.W.Frag} {mg : Str → Option Value} {base : Heap}
theorem scNm : FnScope ["_law_rows", "_law_found", "_law_first", "_law_last", "_law_row"] ["_law_rows"] (defScope sNormal) := ⟨rfl, rfl, rfl, by decide +kernel, rfl, by decide +kernel, by decide +kernel⟩
theorem ok_normal {f : Addr} {fd : FuncData} (F : Fun K "_law_normal" "_law_normal" sNormal f fd) (B : Bd mg) : FnOk P w K mg base CX0 1 f fd ["_law_rows"] (spNormal K) := by
  refine F.ok scNm (fun vs H Q E h => ?_) (fun cdv A outer s H vs Q E hr h => ?_)
  · obtain ⟨a, L, rfl, _⟩ := h
    rfl
  · obtain ⟨a, L, rfl, hS, hP, hok, hlen, q⟩ := h
    have nd := scNm.nd
    have hu64 : (A.deeper (envOfC "_law_normal" (defScope sNormal) s.heap.objs.size f cdv)).units + 64 < cLine := hr.units
    refine ⟨_, pss_cons (ps_set (i := 1) nd rfl (.inl rfl) (pe_lst pa_nil))
      (pss_cons (ps_for PassesOwn.never rfl (pi_list (pe_callB cr_sortedPO (by rfl) B.sorted bt_sorted (pa_cons (pe_lc (own := [("_law_row", 4)]) (g := (gName 4)) (tt := tYes) rfl nd (pi_list (pv 0)) (blkOk_by (N := ["_law_rows", "_law_found", "_law_first", "_law_last", "_law_row"]) (sc := defScope sNormal) (by decide +kernel)) (fun _ _ _ _ _ => pg_name (i := 4) nd rfl (.inl rfl)) (fun _ _ _ _ _ => pts_nil) (fun _ _ _ _ _ => (pe_tup (pa_cons (pe_callTy call_int1 (by rfl) B.int bt_int (pa_cons (pe_ix (ix_tupK K rfl) (pv 4) pe_int (fun _ _ => rfl)) pa_nil)) (pa_cons (pe_callTy call_int1 (by rfl) B.int bt_int (pa_cons (pe_ix (ix_tupK K rfl) (pv 4) pe_int (fun _ _ => rfl)) pa_nil)) pa_nil))))) pa_nil))) (pg_tup rfl (pgs_cons (pg_name (i := 2) nd rfl (.inl rfl)) (pgs_cons (pg_name (i := 3) nd rfl (.inl rfl)) pgs_nil)))
          (pss_one (ps_if (PW.pt (pw_and (pt_cmpR (op_neD hu64) (pv 1) (pe_lst pa_nil) (nomark _)) (pw_and1 (pt_cmpR op_le (pv 2) (pe_op op_add (pe_ix ix_tup (pe_ix ix_list (pv 1) (pe_un un_neg pe_int) (fun _ _ => rfl)) pe_int (fun _ _ => rfl)) pe_int) (nomark _)))))
              (pss_one (ps_if (pt_cmpR op_gt (pv 3) (pe_ix ix_tup (pe_ix ix_list (pv 1) (pe_un un_neg pe_int) (fun _ _ => rfl)) pe_int (fun _ _ => rfl)) (nomark _))
                  (pss_one (ps_asg (pe_tup (pa_cons (pe_ix ix_tup (pe_ix ix_list (pv 1) (pe_un un_neg pe_int) (fun _ _ => rfl)) pe_int (fun _ _ => rfl)) (pa_cons (pv 3) pa_nil))) (pg_sub (pv 1) (pe_un un_neg pe_int) set_list)))
                  pss_nil))
              (pss_one (ps_expr (pe_bm PySem.F.plainAttrs_list PySem.F.slot_list_append PySem.F.type_list_append mt_append (pv 1) (pa_cons (pe_tup (pa_cons (pv 2) (pa_cons (pv 3) pa_nil))) pa_nil)))))))
      (pss_one (ps_ret (pv 1)))), ?_⟩
    refine ⟨Nat.zero_le _, fun o no => ?_⟩
    have S1 : Same H (upd H o (.lst [])) := same_lay no
    have two : 2 ≤ sizeLine := by decide
    refine ⟨_, rfl, a, rfl, ⟨_, S1.seq hS⟩, fun D hD => lc_list (K := K) (a := a) (xs := refs L) (fun i H2 => ∃ M : List ARow, H2 D = some (.lst (refs M)) ∧ AtR H2 M ∧ rws M = (rws L).take i ∧ Same (upd H o (.lst [])) H2)
      ⟨[], upd_same, (fun _ z => nomatch z), rfl, same_lay hD⟩ (fun i H2 _ ⟨_, _, _, _, s⟩ => s.seq (S1.seq hS)) ?_ ?_⟩
    · intro i x H2 hx hI
      obtain ⟨M, hD2, hM, eM, s2⟩ := hI
      obtain ⟨p, hp, hpL, rfl⟩ := refs_get hx
      have hil : i < L.length := (List.getElem?_eq_some_iff.mp hp).1
      have hlM : M.length = i := by
        rw [← rws_len M, eM, List.length_take, rws_len]
        omega
      have e1 : (rws L).take (i + 1) = (rws L).take i ++ [p.2] := by rw [List.take_add_one, rws_get hp]; rfl
      have nDp : ∀ q ∈ M, q.1 ≠ D := fun q hq => ne_of (hM q hq) hD2 (by intro z; cases z)
      have e3 := s2 _ _ (S1 _ _ (hP p hpL))
      refine ⟨rfl, yesT ?_⟩
      refine ⟨_, rfl, p.1, _, 0, .int p.2.1, rfl, rfl, .inl (.inl e3), atI_nat (j := 0) rfl, .inl ⟨_, rfl, _, rfl, p.1, _, 1, .int p.2.2, rfl, rfl, .inl (.inl e3), atI_nat (j := 1) rfl, .inl ⟨_, rfl, two, fun l hl => ?_⟩⟩⟩
      have nDl : D ≠ l := ne_of_none hD2 hl
      have s3 := same_lay (o := .tup [.int p.2.1, .int p.2.2]) hl
      refine ⟨refs M, s3 _ _ hD2, small1000 (by rw [refs_len, hlM]; omega), M ++ [(l, p.2)], ?_, ?_, ?_, same_upd (s2.trans s3) hD⟩
      · rw [upd_same, refs_snoc]
      · intro q hq
        rcases List.mem_append.mp hq with k | k
        · rw [upd_ne (nDp q k)]; exact s3 _ _ (hM q k)
        · rw [List.mem_singleton.mp k, upd_ne nDl.symm, upd_same]
      · rw [rws_snoc, eM, e1]
    · intro H2 hI
      obtain ⟨M, hD2, hM, eM, s2⟩ := hI
      rw [refs_len, List.take_of_length_le (by rw [rws_len]; exact Nat.le_refl _)] at eM
      have no2 : H2 o = some (.lst []) := s2 _ _ upd_same
      have lM : M.length = L.length := by rw [← rws_len M, eM, rws_len]
      refine ⟨D, refs M, kOf H2, rfl, .inl (.inl hD2), fun y hy => ?_, fun ys p hs hb np => ?_⟩
      · unfold refs at hy
        obtain ⟨z, hz, rfl⟩ := List.mem_map.mp hy
        exact ⟨z.1, rfl, by rw [kOf_at (hM z hz)]; exact hM z hz⟩
      obtain ⟨S, rfl, hSA, hSm, hSl, hSk⟩ := refs_perm hM hb.perm
      have hso : (rws S).Pairwise fun r s => r.1 ≤ s.1 := by
        rw [hSk]
        refine List.pairwise_map.mpr (hs.imp fun {x y} hxy => ?_)
        have := SrtO.lexB_no.mp hxy
        omega
      have hSok : ∀ r ∈ rws S, r.1 ≤ r.2 := fun r hr => hok r (by rw [← eM]; exact (hSm r).mp hr)
      obtain ⟨hnf, hme⟩ := jfold_ok hSok hso
      have s3 := same_lay (o := .lst (refs S)) np
      have nop : o ≠ p := ne_of_none no2 np
      refine ⟨p, rfl, ⟨_, .inl (.inl upd_same)⟩, for_list (K := K) (a := p) (xs := refs S) (fun i σ H' => ∃ f l, ∃ A : List ARow, σ = [some (.ref a), some (.ref o), f, l, none] ∧ H' o = some (.lst (refs A)) ∧ AtR H' A ∧ rws A = (((rws S).take i).foldl jstep []).reverse ∧ Fre o (upd H2 p (.lst (refs S))) H' ∧ A.length ≤ i)
        ⟨none, none, [], rfl, by rw [upd_ne nop]; exact no2, (fun _ z => nomatch z), rfl, Fre.refl _ _, Nat.le_refl _⟩ (fun i σ H' _ ⟨_, _, _, _, _, _, _, fr, _⟩ => .inl (.inl (fr _ _ upd_same nop.symm))) ?_ ?_⟩
      · rintro i y σ H' hy ⟨f, l, A, rfl, hoA, hA, eA, fr, hAl⟩
        obtain ⟨z, hz, hzS, rfl⟩ := refs_get hy
        have hil : i < S.length := (List.getElem?_eq_some_iff.mp hz).1
        have ez : H' z.1 = some (.tup [.int z.2.1, .int z.2.2]) := fr _ _ (s3 _ _ (hSA z hzS)) (ne_of (hSA z hzS) no2 (by intro q; cases q))
        have e1 : ((rws S).take (i + 1)).foldl jstep [] = jstep (((rws S).take i).foldl jstep []) z.2 := by
          rw [List.take_add_one, rws_get hz, List.foldl_append]
          rfl
        have nAo : ∀ q ∈ A, q.1 ≠ o := fun q hq => ne_of (hA q hq) hoA (by intro w; cases w)
        refine ⟨z.1, _, rfl, .inl (.inl ez), rfl, _, _, rfl, _, _, rfl, rfl, ?_⟩
        refine ⟨_, rfl, Nat.zero_le _, fun v hv => ?_⟩
        have sv := same_lay (o := .lst []) hv
        have hoV := sv _ _ hoA
        have hAV := hA.same sv
        have frV : Fre o (upd H2 p (.lst (refs S))) (upd H' v (.lst [])) := fr.trans fun b u e _ => sv b u e
        refine ⟨.list ((rws A).map rowD), .list [], .lst (.inl (.inl hoV)) (dp_rows hAV), .lst (.inl (.inl upd_same)) .nil, shp_lst _, rfl, _, rfl, ?_⟩
        generalize upd H' v (.lst []) = Hv at hoV hAV frV
        have app : ∀ (hj : jstep (((rws S).take i).foldl jstep []) z.2 = z.2 :: ((rws S).take i).foldl jstep []) (T : Addr), Hv T = none →
            ∃ f' l', ∃ A' : List ARow, [some (V.ref a), some (.ref o), some (.int z.2.1), some (.int z.2.2), none] = [some (.ref a), some (.ref o), f', l', none] ∧ (upd (upd Hv T (.tup [.int z.2.1, .int z.2.2])) o (.lst (refs A ++ [.ref T]))) o = some (.lst (refs A')) ∧ AtR (upd (upd Hv T (.tup [.int z.2.1, .int z.2.2])) o (.lst (refs A ++ [.ref T]))) A' ∧
              rws A' = (((rws S).take (i + 1)).foldl jstep []).reverse ∧ Fre o (upd H2 p (.lst (refs S))) (upd (upd Hv T (.tup [.int z.2.1, .int z.2.2])) o (.lst (refs A ++ [.ref T]))) ∧ A'.length ≤ i + 1 := by
          intro hj Tn hT
          have s4 := same_lay (o := .tup [.int z.2.1, .int z.2.2]) hT
          have noT : Tn ≠ o := by
            intro e
            rw [e, hoV] at hT
            cases hT
          refine ⟨_, _, A ++ [(Tn, z.2)], rfl, by rw [upd_same, refs_snoc], ?_, ?_, (frV.trans (fun b u e _ => s4 b u e)).trans Fre.put, by rw [List.length_append]; exact Nat.succ_le_succ hAl⟩
          · intro q hq
            rcases List.mem_append.mp hq with k | k
            · rw [upd_ne (nAo q k)]; exact s4 _ _ (hAV q k)
            · rw [List.mem_singleton.mp k, upd_ne noT, upd_same]
          · rw [rws_snoc, eA, e1, hj, List.reverse_cons]
        have alen : (refs A).length < sizeLine := small1000 (by rw [refs_len]; omega)
        cases hacc : ((rws S).take i).foldl jstep [] with
        | nil =>
          have eA0 : A = [] := by
            rw [hacc] at eA
            exact List.map_eq_nil_iff.mp eA
          refine ite2 (fun k => ?_) (fun _ => iteF ?_)
          · rw [eA0] at k
            exact absurd k (by decide)
          · refine ⟨_, rfl, .inl ⟨rfl, _, .inl (.inl hoV)⟩, _, rfl, _, rfl, two, fun Tn hT => ?_⟩
            refine ⟨o, refs A, _, rfl, rfl, same_lay hT _ _ hoV, alen, ?_⟩
            exact app (by rw [hacc]; rfl) Tn hT
        | cons q0 t0 =>
          have eA1 : rws A = t0.reverse ++ [q0] := by rw [eA, hacc, List.reverse_cons]
          obtain ⟨B', A2, rfl, eB, eA2⟩ := List.map_eq_append_iff.mp eA1
          obtain ⟨⟨aq, q1⟩, A3, rfl, eq1, eA3⟩ := List.map_eq_cons_iff.mp eA2
          obtain rfl := List.map_eq_nil_iff.mp eA3
          obtain rfl : q1 = q0 := eq1
          have haq : Hv aq = some (.tup [.int q1.1, .int q1.2]) := hAV (aq, q1) (List.mem_append_right _ (List.mem_singleton.mpr rfl))
          have hoW := hoV
          rw [refs_snoc] at hoV
          have hSo : SqL K Hv o (refs B' ++ [.ref aq]) := .inl (.inl hoV)
          have hSq : SqT K Hv aq [.int q1.1, .int q1.2] := .inl (.inl haq)
          have g0 : atI [V.int q1.1, .int q1.2] 0 = some (.int q1.1) := atI_nat (j := 0) rfl
          have g1 : atI [V.int q1.1, .int q1.2] 1 = some (.int q1.2) := atI_nat (j := 1) rfl
          have gl : atI (refs B' ++ [V.ref aq]) (-1) = some (.ref aq) := atI_last _ _
          refine ite2 (fun _ => ?_) (fun k => ?_)
          · refine ⟨_, rfl, _, rfl, 1, rfl, o, _, -1, _, rfl, rfl, hSo, gl, aq, _, 1, _, rfl, rfl, hSq, g1, _, _, rfl, rfl, _, _, rfl, rfl, _, rfl, ite2 (fun c => ?_) (fun c => ?_)⟩
            · have hc : z.2.1 ≤ q1.2 + 1 := of_decide_eq_true c
              refine ⟨_, rfl, _, rfl, 1, rfl, o, _, -1, _, rfl, rfl, hSo, gl, aq, _, 1, _, rfl, rfl, hSq, g1, _, _, rfl, rfl, _, rfl, ite2 (fun c2 => ?_) (fun c2 => ?_)⟩
              · have hc2 : z.2.2 > q1.2 := of_decide_eq_true c2
                refine ⟨_, rfl, 1, rfl, o, _, -1, _, rfl, rfl, hSo, gl, aq, _, 0, _, rfl, rfl, hSq, g0, _, rfl, two, fun Tn hT => ?_⟩
                have s4 := same_lay (o := .tup [.int q1.1, .int z.2.2]) hT
                have noT : Tn ≠ o := by
                  intro e
                  rw [e] at hT
                  rw [hT] at hoV
                  cases hoV
                have ixe : ixN (refs B' ++ [V.ref aq]).length (-1) = some (refs B').length := by
                  rw [List.length_append]
                  exact ixN_last _
                refine ⟨_, rfl, 1, rfl, o, _, -1, _, rfl, rfl, s4 _ _ hoV, ixe, ?_⟩
                refine ⟨_, _, B' ++ [(Tn, (q1.1, z.2.2))], rfl, by rw [upd_same, set_last, refs_snoc], ?_, ?_, (frV.trans (fun b u e _ => s4 b u e)).trans Fre.put, ?_⟩
                · intro q hq
                  rcases List.mem_append.mp hq with k | k
                  · rw [upd_ne (nAo q (List.mem_append_left _ k))]; exact s4 _ _ (hAV q (List.mem_append_left _ k))
                  · rw [List.mem_singleton.mp k, upd_ne noT, upd_same]
                · rw [rws_snoc, e1, hacc]
                  show rws B' ++ [(q1.1, z.2.2)] = (if z.2.1 ≤ q1.2 + 1 then (q1.1, if z.2.2 > q1.2 then z.2.2 else q1.2) :: t0 else z.2 :: q1 :: t0).reverse
                  rw [if_pos hc, if_pos hc2, List.reverse_cons]
                  exact congrArg (· ++ [(q1.1, z.2.2)]) eB
                · rw [List.length_append] at hAl ⊢
                  exact Nat.le_succ_of_le hAl
              · have hc2 : ¬ z.2.2 > q1.2 := fun w => c2 (decide_eq_true w)
                refine ⟨_, _, B' ++ [(aq, q1)], rfl, hoW, hAV, ?_, frV, Nat.le_succ_of_le hAl⟩
                rw [rws_snoc, e1, hacc]
                show rws B' ++ [q1] = (if z.2.1 ≤ q1.2 + 1 then (q1.1, if z.2.2 > q1.2 then z.2.2 else q1.2) :: t0 else z.2 :: q1 :: t0).reverse
                rw [if_pos hc, if_neg hc2, List.reverse_cons]
                exact congrArg (· ++ [q1]) eB
            · have hc : ¬ z.2.1 ≤ q1.2 + 1 := fun w => c (decide_eq_true w)
              refine ⟨_, rfl, .inl ⟨rfl, _, .inl (.inl hoV)⟩, _, rfl, _, rfl, two, fun Tn hT => ?_⟩
              refine ⟨o, _, _, rfl, rfl, same_lay hT _ _ hoV, by rw [← refs_snoc]; exact alen, ?_⟩
              rw [← refs_snoc]
              refine app ?_ Tn hT
              rw [hacc]
              show (if z.2.1 ≤ q1.2 + 1 then (q1.1, if z.2.2 > q1.2 then z.2.2 else q1.2) :: t0 else z.2 :: q1 :: t0) = z.2 :: q1 :: t0
              rw [if_neg hc]
          · exfalso
            apply k
            show (!PyData.eqvAll ((rws (B' ++ [(aq, q1)])).map rowD) []) = true
            rw [rws_snoc, List.map_append]
            cases (rws B').map rowD <;> rfl
      · rintro σ H' ⟨f, l, A, rfl, hoA, hA, eA, fr, hAl⟩
        rw [refs_len, List.take_of_length_le (by rw [rws_len]; exact Nat.le_refl _)] at eA
        have eN : rws A = (jfold (rws S)).reverse := eA
        have s6 : Same H H' := fun b u e => fr b u (s3 b u (s2 b u (S1 b u e))) (ne_of_none e no)
        refine ⟨_, rfl, q o A H' s6 no hoA hA (by rw [eN]; exact hnf) (fun x => ?_) ?_⟩
        · rw [eN, hme x, ← eM]
          exact mem_same hSm x
        · rw [refs_len] at hAl
          omega
end
end OR

namespace OR
open PySem PySem.Spec PyProof.Rows L2
open TL (tl numL)
/-! ### dicts with texts as keys -/
def dkv (l : List (Str × V)) : List (Key × V) := l.map fun x => (.inr x.1, x.2)
theorem valV_dkv : ∀ (l : List (Str × V)) (x : Str), valV (dkv l) (.inr x) = l.lookup x
  | [], _ => rfl
  | (n, v) :: r, x => by
    show valV ((Sum.inr n, v) :: dkv r) (.inr x) = _
    rw [List.lookup_cons]
    by_cases e : x = n
    · subst e
      rw [valV_pos rfl, beq_self_eq_true]
    · rw [valV_neg (fun z => e (Sum.inr.inj z).symm), valV_dkv r x, beq_eq_false_iff_ne.mpr e]
theorem dkv_app (l m : List (Str × V)) : dkv (l ++ m) = dkv l ++ dkv m := List.map_append ..
theorem put_dkv {l : List (Str × V)} {x : Str} {v : V} (h : l.lookup x = none) : putK (dkv l) (.inr x) v = dkv (l ++ [(x, v)]) := by
  rw [putK_new v (by rw [valV_dkv]; exact h), dkv_app]
  rfl
theorem fold_dkv : ∀ (m l : List (Str × V)), ((l ++ m).map (·.1)).Nodup → (dkv m).foldl (fun acc kv => putK acc kv.1 kv.2) (dkv l) = dkv (l ++ m)
  | [], l, _ => by rw [List.append_nil]; rfl
  | (n, v) :: r, l, h => by
    have hn : l.lookup n = none := by
      refine lookup_none fun p hp e => ?_
      rw [List.map_append, List.nodup_append] at h
      exact h.2.2 p.1 (List.mem_map.mpr ⟨p, hp, rfl⟩) n (by simp) e
    show (dkv r).foldl (fun acc kv => putK acc kv.1 kv.2) (putK (dkv l) (.inr n) v) = _
    rw [put_dkv hn, fold_dkv r (l ++ [(n, v)]) (by rw [List.append_assoc]; exact h), List.append_assoc]
    rfl
theorem merge_dkv {l : List (Str × V)} (h : (l.map (·.1)).Nodup) : mergeK [] (dkv l) = dkv l := fold_dkv l [] h
theorem getD {H : Hp} {p : Addr} {l : List (Str × V)} {x : Str} {v : V} (h : H p = some (.dK (dkv l))) (e : l.lookup x = some v) : DGet H p (.str x) (some v) := by
  rw [← e, ← valV_dkv]
  exact DGet.k (k := .inr x) h
/-! ### the world of the law -/
def wNames : List Str := ["last", "functions", "anchors", "lines", "mute", "great", "free", "told"]
theorem wNodup : wNames.Nodup := by decide +kernel
def wKv (n : Int) (wf an ln : Addr) (mute : V) (great free : Bool) (td : Addr) : List (Str × V) := wNames.zip [.int n, .ref wf, .ref an, .ref ln, mute, .bl great, .bl free, .ref td]
theorem wKv_at {n : Int} {wf an ln : Addr} {mute : V} {great free : Bool} {td : Addr} {x : Str} {v : V} {j : Nat} (hx : wNames[j]? = some x) (hv : ([.int n, .ref wf, .ref an, .ref ln, mute, .bl great, .bl free, .ref td] : List V)[j]? = some v) : (wKv n wf an ln mute great free td).lookup x = some v := zip_lookup wNodup hx hv
structure WldX (p : Addr) (H : Hp) (wp : Addr) (n : Int) (fs : List Str) (wf an ln : Addr) (mute : V) (great free : Bool) (td : Addr) (ans : List Int) (lts : List Addr) : Prop where
  ne : wp ≠ p
  ne2 : ln ≠ p
  d : H wp = some (.dK (dkv (wKv n wf an ln mute great free td)))
  f : H wf = some (.lst (fs.map V.str))
  a : H an = some (.lst (ans.map V.int))
  a0 : 0 < ans.length
  a1 : ans.length ≤ 10
  ab : ∀ z ∈ ans, 0 ≤ z ∧ z ≤ n
  l : H ln = some (.dK (dkv (fs.zip (lts.map V.ref))))
  ll : lts.length = fs.length
  lt : ∀ t ∈ lts, ∃ a b : Int, H t = some (.tup [.int a, .int b]) ∧ -3 ≤ a ∧ a ≤ 3 ∧ -9 ≤ b ∧ b ≤ 9
  mu : mute = .non ∨ ∃ g, mute = .str g
  fw : WordsAt fs
  f0 : 1 ≤ fs.length
  f2 : fs.length ≤ 2
  n0 : 0 ≤ n
  n1 : n ≤ lastP
def Wld (p : Addr) (H : Hp) (wp : Addr) (n : Int) (fs : List Str) : Prop := ∃ wf an ln mute great free td ans lts, WldX p H wp n fs wf an ln mute great free td ans lts
section
variable {p : Addr} {H H' : Hp} {wp : Addr} {n : Int} {fs : List Str} {wf an ln : Addr} {mute : V} {great free : Bool} {td : Addr} {ans : List Int} {lts : List Addr}
theorem WldX.at_ (h : WldX p H wp n fs wf an ln mute great free td ans lts) {x : Str} {v : V} {j : Nat} (hx : wNames[j]? = some x) (hv : ([.int n, .ref wf, .ref an, .ref ln, mute, .bl great, .bl free, .ref td] : List V)[j]? = some v) : DGet H wp (.str x) (some v) := getD h.d (wKv_at hx hv)
theorem WldX.frm (h : WldX p H wp n fs wf an ln mute great free td ans lts) (F : Frm p H H') {k : Nat} (P : Pen H p k) : WldX p H' wp n fs wf an ln mute great free td ans lts := by
  obtain ⟨kvs, hp⟩ := P.dict
  exact { h with
    d := F _ _ h.d h.ne
    f := F.lst P h.f
    a := F.lst P h.a
    l := F _ _ h.l h.ne2
    lt := fun t ht => by
      obtain ⟨a, b, e, r⟩ := h.lt t ht
      exact ⟨a, b, F _ _ e (ne_of e hp (by intro z; cases z)), r⟩ }
theorem WldX.same (h : WldX p H wp n fs wf an ln mute great free td ans lts) (s : Same H H') : WldX p H' wp n fs wf an ln mute great free td ans lts :=
  { h with
    d := s _ _ h.d
    f := s _ _ h.f
    a := s _ _ h.a
    l := s _ _ h.l
    lt := fun t ht => by
      obtain ⟨a, b, e, r⟩ := h.lt t ht
      exact ⟨a, b, s _ _ e, r⟩ }
theorem Wld.frm (h : Wld p H wp n fs) (F : Frm p H H') {k : Nat} (P : Pen H p k) : Wld p H' wp n fs := by
  obtain ⟨a1, a2, a3, a4, a5, a6, a7, a8, a9, h⟩ := h
  exact ⟨a1, a2, a3, a4, a5, a6, a7, a8, a9, h.frm F P⟩
theorem Wld.same (h : Wld p H wp n fs) (s : Same H H') : Wld p H' wp n fs := by
  obtain ⟨a1, a2, a3, a4, a5, a6, a7, a8, a9, h⟩ := h
  exact ⟨a1, a2, a3, a4, a5, a6, a7, a8, a9, h.same s⟩
/-- the line of a function -/
theorem WldX.line (h : WldX p H wp n fs wf an ln mute great free td ans lts) {g : Str} (hg : g ∈ fs) : ∃ t a b, DGet H ln (.str g) (some (.ref t)) ∧ H t = some (.tup [.int a, .int b]) ∧ -3 ≤ a ∧ a ≤ 3 ∧ -9 ≤ b ∧ b ≤ 9 := by
  obtain ⟨j, hj⟩ := List.getElem?_of_mem hg
  have hj2 : j < lts.length := by rw [h.ll]; exact (List.getElem?_eq_some_iff.mp hj).1
  obtain ⟨a, b, e, r⟩ := h.lt lts[j] (List.getElem_mem hj2)
  refine ⟨lts[j], a, b, getD h.l (zip_lookup (List.Pairwise.imp (fun e => e) h.fw.ne) hj ?_), e, r⟩
  rw [List.getElem?_map, List.getElem?_eq_getElem hj2]
  rfl
end
def spNear : Sp := fun vs H Q _ => ∃ (p wp : Addr) (n : Int) (fs : List Str) (k : Nat), vs = [.ref p, .ref wp] ∧ Wld p H wp n fs ∧ Pen H p k ∧ k ≤ 900000 ∧ ∀ r H', 0 ≤ r → r ≤ n → Pen H' p (k + 2) → Frm p H H' → Q (.int r) H'
def spStr : Sp := fun vs H Q _ => ∃ (p wp : Addr) (n : Int) (fs : List Str) (k m : Nat), vs = [.ref p, .ref wp, .int (m : Nat)] ∧ Wld p H wp n fs ∧ 1 ≤ m ∧ m ≤ 5 ∧ Pen H p k ∧ k ≤ 800000 ∧
  ∀ g M H', H g = none → H' g = some (.lst (refs M)) → AtR H' M → Nf (rws M) → (∀ r ∈ rws M, 0 ≤ r.1 ∧ r.2 ≤ n) → M ≠ [] → M.length ≤ 6 → Pen H' p (k + 40) → Frm p H H' → Q (.ref g) H'
theorem rows_in {l m : List Row} {n : Int} (hm : Nf m) (h : ∀ x, mem m x ↔ mem l x) (hl : ∀ r ∈ l, 0 ≤ r.1 ∧ r.2 ≤ n) : ∀ r ∈ m, 0 ≤ r.1 ∧ r.2 ≤ n := fun r hr => by
  have o := hm.ok r hr
  obtain ⟨q, hq, h1, h2⟩ := (h r.1).mp ⟨r, hr, Int.le_refl _, o⟩
  obtain ⟨q2, hq2, h3, h4⟩ := (h r.2).mp ⟨r, hr, o, Int.le_refl _⟩
  have b1 := hl q hq
  have b2 := hl q2 hq2
  exact ⟨by omega, by omega⟩
theorem rows_ne {l : List Row} {M : List ARow} (h : ∀ x, mem (rws M) x ↔ mem l x) (hl : ∀ r ∈ l, r.1 ≤ r.2) (h0 : l ≠ []) : M ≠ [] := fun e => by
  subst e
  cases l with
  | nil => exact h0 rfl
  | cons r t => exact mem_nil _ ((h r.1).mpr ⟨r, List.mem_cons_self, Int.le_refl _, hl r List.mem_cons_self⟩)
section
variable {P : Program} {w : World} {K : PySem.W.Frag} {mg : Str → Option Value} {base : Heap}
theorem scNe : FnScope ["_law_pen", "_law_world", "_law_place"] ["_law_pen", "_law_world"] (defScope sNear) := ⟨rfl, rfl, rfl, by decide +kernel, rfl, by decide +kernel, by decide +kernel⟩
theorem ok_near {f : Addr} {fd : FuncData} (F : Fun K "_law_near" "_law_near" sNear f fd) (D : Cl P w K mg base 1 "_law_draw" ["_law_pen", "_law_many"] spDraw) (PI : Cl P w K mg base 2 "_law_pick" ["_law_pen", "_law_options"] (spPick K)) : FnOk P w K mg base CX0 3 f fd ["_law_pen", "_law_world"] spNear := by
  refine F.ok scNe (fun vs H Q E h => ?_) (fun cdv A outer s H vs Q E hr h => ?_)
  · obtain ⟨_, _, _, _, _, rfl, _⟩ := h
    rfl
  · obtain ⟨p, wp, n, fs, k, rfl, hW, hP, hk, q⟩ := h
    have nd := scNe.nd
    have hu := hu_of hr
    refine ⟨_, pss_cons (ps_set (i := 2) nd rfl (.inl rfl) (pe_op op_sub (pe_op op_add (pe_cl PI hr (by decide) (by rfl) (pa_cons (pv 0) (pa_cons (pe_dget hu (pv 1) pe_str (fun _ _ => rfl)) pa_nil))) (pe_cl D hr (by decide) (by rfl) (pa_cons (pv 0) (pa_cons pe_int pa_nil)))) pe_int))
      (pss_cons (ps_if (pt_cmpR op_lt (pv 2) pe_int (nomark _))
          (pss_one (ps_ret pe_int))
          pss_nil)
      (pss_one (ps_ret (pe_ifExp (pt_cmpR op_gt (pv 2) (pe_dget hu (pv 1) pe_str (fun _ _ => rfl)) (nomark _)) (pe_dget hu (pv 1) pe_str (fun _ _ => rfl)) (pv 2))))), ?_⟩
    obtain ⟨wf, an, ln, mute, great, free, td, ans, lts, W⟩ := hW
    refine ⟨_, rfl, _, rfl, wp, _, rfl, W.at_ (j := 2) rfl rfl, p, an, ans.map V.int, k, rfl, .inl (.inl W.a), by rw [List.length_map]; exact W.a0, by rw [List.length_map]; exact Nat.le_trans W.a1 (by decide), hP, by omega, fun v H1 hv P1 F1 => ?_⟩
    obtain ⟨z, hz, rfl⟩ := List.mem_map.mp hv
    have zb := W.ab z hz
    refine ⟨_, rfl, p, 4, _, rfl, by decide, by decide, P1, by omega, fun r H2 r0 r1 P2 F2 => ⟨_, _, rfl, rfl, _, _, rfl, rfl, ?_⟩⟩
    have FF := F1.trans F2
    have W2 := W.frm FF hP
    refine ⟨_, rfl, _, _, rfl, rfl, _, rfl, ite2 (fun _ => q 0 H2 (Int.le_refl _) W.n0 P2 FF) (fun c => ?_)⟩
    have hc : ¬ (z + r - 1 < 0) := fun e => c (decide_eq_true e)
    refine ⟨_, rfl, _, rfl, wp, _, rfl, W2.at_ (j := 0) rfl rfl, _, _, rfl, rfl, _, rfl, ite2 (fun _ => ?_) (fun c2 => ?_)⟩
    · exact ⟨_, rfl, wp, _, rfl, W2.at_ (j := 0) rfl rfl, q n H2 W.n0 (Int.le_refl _) P2 FF⟩
    · have hc2 : ¬ (z + r - 1 > n) := fun e => c2 (decide_eq_true e)
      exact ⟨_, rfl, q _ H2 (by omega) (by omega) P2 FF⟩
theorem scSt : FnScope ["_law_pen", "_law_world", "_law_most", "_law_found", "_law_k", "_law_one", "_law_two"] ["_law_pen", "_law_world", "_law_most"] (defScope sStretches) := ⟨rfl, rfl, rfl, by decide +kernel, rfl, by decide +kernel, by decide +kernel⟩
theorem ok_stretches {f : Addr} {fd : FuncData} (F : Fun K "_law_stretches" "_law_stretches" sStretches f fd) (B : Bd mg) (D : Cl P w K mg base 1 "_law_draw" ["_law_pen", "_law_many"] spDraw) (NE : Cl P w K mg base 3 "_law_near" ["_law_pen", "_law_world"] spNear) (NO : Cl P w K mg base 1 "_law_normal" ["_law_rows"] (spNormal K)) : FnOk P w K mg base CX0 4 f fd ["_law_pen", "_law_world", "_law_most"] spStr := by
  refine F.ok scSt (fun vs H Q E h => ?_) (fun cdv A outer s H vs Q E hr h => ?_)
  · obtain ⟨_, _, _, _, _, _, rfl, _⟩ := h
    rfl
  · obtain ⟨p, wp, n, fs, k, m, rfl, hW, hm1, hm5, hP, hk, q⟩ := h
    have nd := scSt.nd
    have hu := hu_of hr
    refine ⟨_, pss_cons (ps_set (i := 3) nd rfl (.inl rfl) (pe_lst pa_nil))
      (pss_cons (ps_for PassesOwn.never rfl (pi_range1 (by rfl) B.range (pa_cons (pe_op op_add pe_int (pe_cl D hr (by decide) (by rfl) (pa_cons (pv 0) (pa_cons (pv 2) pa_nil)))) pa_nil)) (pg_name (i := 4) nd rfl (.inl rfl))
          (pss_cons (ps_par (i := 5) (j := 6) rfl nd rfl rfl (by decide) rfl rfl (pa_cons (pe_cl NE hr (by decide) (by rfl) (pa_cons (pv 0) (pa_cons (pv 1) pa_nil))) (pa_cons (pe_cl NE hr (by decide) (by rfl) (pa_cons (pv 0) (pa_cons (pv 1) pa_nil))) pa_nil)) rfl)
          (Evl.pss_cut (ps_if (pt_cmpR op_eq (pe_cl D hr (by decide) (by rfl) (pa_cons (pv 0) (pa_cons pe_int pa_nil))) pe_int (nomark _))
              (pss_one (ps_set (i := 6) nd rfl (.inl rfl) (pv 5)))
              pss_nil)
          (Evl.pss_cut (ps_if (pt_cmpR op_eq (pe_cl D hr (by decide) (by rfl) (pa_cons (pv 0) (pa_cons pe_int pa_nil))) pe_int (nomark _))
              (pss_one (ps_par (i := 5) (j := 6) rfl nd rfl rfl (by decide) rfl rfl (pa_cons pe_int (pa_cons (pe_dget hu (pv 1) pe_str (fun _ _ => rfl)) pa_nil)) rfl))
              pss_nil)
          (pss_one (ps_expr (pe_bm PySem.F.plainAttrs_list PySem.F.slot_list_append PySem.F.type_list_append mt_append (pv 3) (pa_cons (pe_ifExp (pt_cmpR op_lt (pv 5) (pv 6) (nomark _)) (pe_tup (pa_cons (pv 5) (pa_cons (pv 6) pa_nil))) (pe_tup (pa_cons (pv 6) (pa_cons (pv 5) pa_nil)))) pa_nil))))))))
      (pss_one (ps_ret (pe_cl NO hr (by decide) (by rfl) (pa_cons (pv 3) pa_nil))))), ?_⟩
    refine ⟨Nat.zero_le _, fun o no => ?_⟩
    have s1 : Same H _ := same_lay (o := .lst []) no
    have P1 := hP.same' s1
    refine ⟨_, rfl, _, rfl, p, m, k, rfl, by omega, ?_, P1, by omega, fun r H1 r0 r1 P2 F2 => ⟨_, _, rfl, rfl, ?_⟩⟩
    · exact Nat.lt_of_le_of_lt (show ((m : Nat) : Int).natAbs ≤ 5 by omega) (by decide)
    have FH := (frmS (p := p) s1).trans F2
    have ho1 := F2.lst P1 upd_same
    have W1 := (hW.same s1).frm F2 P1
    refine ⟨_, rfl, by omega, by omega, for_range (lo := 0) (n := (1 + r).toNat) (fun i σ G => ∃ L : List ARow, (∃ s4 s5 s6, σ = [some (.ref p), some (.ref wp), some (.int (m : Nat)), some (.ref o), s4, s5, s6]) ∧ G o = some (.lst (refs L)) ∧ AtR G L ∧ (∀ x ∈ rws L, 0 ≤ x.1 ∧ x.1 ≤ x.2 ∧ x.2 ≤ n) ∧ L.length = i ∧ Pen G p (k + 1 + 6 * i) ∧ Frm p H G)
      ⟨[], ⟨none, none, none, rfl⟩, ho1, (fun _ z => nomatch z), (fun _ z => nomatch z), rfl, P2, FH⟩ ?_ ?_⟩
    · rintro i σ G hi ⟨L, ⟨s4, s5, s6, rfl⟩, hG, hA, hb, hl, PG, FG⟩
      have WG := hW.frm FG hP
      obtain ⟨wf, an, ln, mute, great, free, td, ans, lts, WX⟩ := id hW
      have n0 := WX.n0
      refine ⟨_, rfl, _, rfl, p, wp, n, fs, _, rfl, WG, PG, by omega, fun x G1 x0 x1 P3 F3 => ?_⟩
      refine ⟨_, rfl, _, rfl, p, wp, n, fs, _, rfl, WG.frm F3 PG, P3, by omega, fun y G2 y0 y1 P4 F4 => ⟨_, _, rfl, ?_⟩⟩
      have F34 := F3.trans F4
      refine ⟨fun σ G3 => ∃ y2 : Int, 0 ≤ y2 ∧ y2 ≤ n ∧ σ = [some (.ref p), some (.ref wp), some (.int (m : Nat)), some (.ref o), some (.int (0 + (i : Int))), some (.int x), some (.int y2)] ∧ Pen G3 p (k + 1 + 6 * i + 5) ∧ Frm p G G3, ?_, ?_⟩
      · refine ⟨_, rfl, p, 5, _, rfl, by decide, by decide, P4, by omega, fun r5 G3 _ _ P5 F5 => ⟨rfl, _, rfl, ite2 (fun _ => ?_) (fun _ => ?_)⟩⟩
        · exact ⟨_, rfl, x, x0, x1, rfl, P5.mono (by omega), F34.trans F5⟩
        · exact ⟨y, y0, y1, rfl, P5.mono (by omega), F34.trans F5⟩
      rintro σ G3 ⟨y2, y20, y21, rfl, P5, F5⟩
      refine ⟨fun σ G4 => ∃ x3 y3 : Int, 0 ≤ x3 ∧ x3 ≤ n ∧ 0 ≤ y3 ∧ y3 ≤ n ∧ σ = [some (.ref p), some (.ref wp), some (.int (m : Nat)), some (.ref o), some (.int (0 + (i : Int))), some (.int x3), some (.int y3)] ∧ Pen G4 p (k + 1 + 6 * i + 6) ∧ Frm p G G4, ?_, ?_⟩
      · refine ⟨_, rfl, p, 4, _, rfl, by decide, by decide, P5, by omega, fun r5 G4 _ _ P6 F6 => ⟨rfl, _, rfl, ite2 (fun _ => ?_) (fun _ => ?_)⟩⟩
        · have W6 := (WX.frm FG hP).frm (F5.trans F6) PG
          exact ⟨_, rfl, wp, _, rfl, W6.at_ (j := 0) rfl rfl, _, _, rfl, 0, n, Int.le_refl _, n0, n0, Int.le_refl _, rfl, P6.mono (by omega), F5.trans F6⟩
        · exact ⟨x, y2, x0, x1, y20, y21, rfl, P6.mono (by omega), F5.trans F6⟩
      rintro σ G4 ⟨x3, y3, x30, x31, y30, y31, rfl, P6, F6⟩
      have hG4 := F6.lst PG hG
      have hA4 := hA.frm F6 PG
      have FH4 := FG.trans F6
      have fin : ∀ (a b : Int), 0 ≤ a → a ≤ b → b ≤ n → ∀ t, G4 t = none → ∃ L' : List ARow, (∃ s4 s5 s6, [some (V.ref p), some (.ref wp), some (.int (m : Nat)), some (.ref o), some (.int (0 + (i : Int))), some (.int x3), some (.int y3)] = [some (.ref p), some (.ref wp), some (.int (m : Nat)), some (.ref o), s4, s5, s6]) ∧ (upd (upd G4 t (.tup [.int a, .int b])) o (.lst (refs L ++ [.ref t]))) o = some (.lst (refs L')) ∧ AtR (upd (upd G4 t (.tup [.int a, .int b])) o (.lst (refs L ++ [.ref t]))) L' ∧
          (∀ x ∈ rws L', 0 ≤ x.1 ∧ x.1 ≤ x.2 ∧ x.2 ≤ n) ∧ L'.length = i + 1 ∧ Pen (upd (upd G4 t (.tup [.int a, .int b])) o (.lst (refs L ++ [.ref t]))) p (k + 1 + 6 * (i + 1)) ∧ Frm p H (upd (upd G4 t (.tup [.int a, .int b])) o (.lst (refs L ++ [.ref t]))) := fun a b a0 ab b1 t nt => by
        have st := same_lay (o := .tup [.int a, .int b]) nt
        have hG5 := st _ _ hG4
        have not_ : t ≠ o := fun e => by rw [e, hG4] at nt; cases nt
        have F5' := FH4.trans (frmS (p := p) st)
        refine ⟨L ++ [(t, (a, b))], ⟨_, _, _, rfl⟩, by rw [upd_same, refs_snoc], fun z hz => ?_, fun z hz => ?_, by rw [List.length_append, hl]; rfl, (hP.putNew (P6.same' st) F5' no hG5).mono (by omega), F5'.putNew no hG5⟩
        · rcases List.mem_append.mp hz with c | c
          · have e5 := st _ _ (hA4 z c)
            rw [upd_ne (ne_of e5 hG5 (by intro z; cases z))]
            exact e5
          · rw [List.mem_singleton.mp c, upd_ne not_, upd_same]
        · rw [rws_snoc] at hz
          rcases List.mem_append.mp hz with c | c
          · exact hb z c
          · rw [List.mem_singleton.mp c]
            exact ⟨a0, ab, b1⟩
      have two : 2 ≤ sizeLine := by decide
      refine ⟨_, rfl, .inl ⟨rfl, _, .inl (.inl hG4)⟩, _, rfl, _, rfl, _, _, rfl, rfl, _, rfl, ite2 (fun c => ?_) (fun c => ?_)⟩
      · have hc : x3 < y3 := of_decide_eq_true c
        refine ⟨_, rfl, _, rfl, two, fun t nt => ⟨o, _, _, rfl, rfl, same_lay nt _ _ hG4, small1000 (by rw [refs_len]; omega), fin x3 y3 x30 (Int.le_of_lt hc) y31 t nt⟩⟩
      · have hc : ¬ x3 < y3 := fun e => c (decide_eq_true e)
        refine ⟨_, rfl, _, rfl, two, fun t nt => ⟨o, _, _, rfl, rfl, same_lay nt _ _ hG4, small1000 (by rw [refs_len]; omega), fin y3 x3 y30 (by omega) x31 t nt⟩⟩
    · rintro σ G ⟨L, ⟨s4, s5, s6, rfl⟩, hG, hA, hb, hl, PG, FG⟩
      have hl6 : L.length ≤ 5 := by omega
      refine ⟨_, rfl, o, L, rfl, .inl (.inl hG), hA, fun x hx => (hb x hx).2.1, by omega, fun o2 M G2 s2 no2 ho2 hM hN hme hlen => ?_⟩
      have ln0 : rws L ≠ [] := fun e => by
        have : L.length = 0 := by rw [← rws_len, e]; rfl
        omega
      exact q o2 M G2 (FG.free PG no2) ho2 hM hN (rows_in hN hme fun x hx => ⟨(hb x hx).1, (hb x hx).2.2⟩) (rows_ne hme (fun x hx => (hb x hx).2.1) ln0) (by omega) ((PG.same' s2).mono (by omega)) (FG.trans (frmS s2))
end
end OR

namespace OR
open PySem PySem.Spec PyProof.Rows L2
open TL (tl numL)
/-! ### heights, slopes and clauses about numbers, as tuples -/
theorem pickInt {xs : List Int} {v : V} (h : v ∈ xs.map V.int) : ∃ x ∈ xs, v = .int x := by
  obtain ⟨x, hx, e⟩ := List.mem_map.mp h
  exact ⟨x, hx, e.symm⟩
def spWorth (K : PySem.W.Frag) : Sp := fun vs H Q _ => ∃ (p wp la oa ra : Addr) (n l0 l1 o0 o1 : Int) (fs : List Str) (k : Nat) (M : List ARow) (sg : Str), vs = [.ref p, .ref wp, .ref la, .ref oa, .ref ra, .str sg] ∧ Wld p H wp n fs ∧ Pen H p k ∧ k ≤ 900000 ∧
  H la = some (.tup [.int l0, .int l1]) ∧ H oa = some (.tup [.int o0, .int o1]) ∧ SqL K H ra (refs M) ∧ AtR H M ∧ (∀ r ∈ rws M, 0 ≤ r.1 ∧ r.1 ≤ r.2 ∧ r.2 ≤ n) ∧ M ≠ [] ∧ M.length ≤ 6 ∧ -(10 ^ 10) ≤ l0 ∧ l0 ≤ 10 ^ 10 ∧ -(10 ^ 10) ≤ o0 ∧ o0 ≤ 10 ^ 10 ∧ -(10 ^ 10) ≤ l1 ∧ l1 ≤ 10 ^ 10 ∧ -(10 ^ 10) ≤ o1 ∧ o1 ≤ 10 ^ 10 ∧
  ∀ r H', -(10 ^ 42) < r → r < 10 ^ 42 → Pen H' p (k + 1) → Frm p H H' → Q (.int r) H'
def spSlope : Sp := fun vs H Q _ => ∃ (p wp : Addr) (n : Int) (fs : List Str) (k : Nat), vs = [.ref p, .ref wp] ∧ Wld p H wp n fs ∧ Pen H p k ∧ k ≤ 900000 ∧ ∀ r H', -(3 * 10 ^ 9) ≤ r → r ≤ 3 * 10 ^ 9 → Pen H' p (k + 2) → Frm p H H' → Q (.int r) H'
/-- a value between two ends, of a great product -/
theorem prod_bd {d x n : Int} (hd : -(2 * 10 ^ 10) ≤ d ∧ d ≤ 2 * 10 ^ 10) (h0 : 0 ≤ x) (h1 : x ≤ 10 ^ 30) : -(2 * 10 ^ 40) ≤ d * x ∧ d * x ≤ 2 * 10 ^ 40 := by
  have a := Int.mul_le_mul_of_nonneg_right hd.2 h0
  have b := Int.mul_le_mul_of_nonneg_right hd.1 h0
  have c := Int.mul_le_mul_of_nonneg_left h1 (show (0 : Int) ≤ 2 * 10 ^ 10 by decide)
  have e : (-(2 * 10 ^ 10) : Int) * x = -(2 * 10 ^ 10 * x) := Int.neg_mul ..
  rw [e] at b
  have f : (2 * 10 ^ 10 : Int) * 10 ^ 30 = 2 * 10 ^ 40 := by decide
  rw [f] at c
  constructor <;> omega
section
variable {P : Program} {w : World} {K : PySem.W.Frag} {mg : Str → Option Value} {base : Heap}
theorem scSl : FnScope ["_law_pen", "_law_world", "_law_slope"] ["_law_pen", "_law_world"] (defScope sSlopeOf) := ⟨rfl, rfl, rfl, by decide +kernel, rfl, by decide +kernel, by decide +kernel⟩
theorem ok_slope {f : Addr} {fd : FuncData} (F : Fun K "_law_slope_of" "_law_slope_of" sSlopeOf f fd) (PI : Cl P w K mg base 2 "_law_pick" ["_law_pen", "_law_options"] (spPick K)) : FnOk P w K mg base CX0 3 f fd ["_law_pen", "_law_world"] spSlope := by
  refine F.ok scSl (fun vs H Q E h => ?_) (fun cdv A outer s H vs Q E hr h => ?_)
  · obtain ⟨_, _, _, _, _, rfl, _⟩ := h
    rfl
  · obtain ⟨p, wp, n, fs, k, rfl, hW, hP, hk, q⟩ := h
    have nd := scSl.nd
    have hu := hu_of hr
    refine ⟨_, pss_cons (ps_set (i := 2) nd rfl (.inl rfl) (pe_cl PI hr (by decide) (by rfl) (pa_cons (pv 0) (pa_cons (pe_lst (pa_cons pe_int (pa_cons pe_int (pa_cons pe_int (pa_cons (pe_un un_neg pe_int) (pa_cons pe_int (pa_cons (pe_un un_neg pe_int) pa_nil))))))) pa_nil))))
      (pss_one (ps_ret (pe_ifExp (pt_val (pe_dget hu (pv 1) pe_str (fun _ _ => rfl))) (pe_op op_mul (pv 2) (pe_cl PI hr (by decide) (by rfl) (pa_cons (pv 0) (pa_cons (pe_lst (pa_cons pe_int (pa_cons pe_int (pa_cons pe_int (pa_cons (pe_op op_pow pe_int pe_int) pa_nil))))) pa_nil)))) (pv 2)))), ?_⟩
    refine ⟨_, rfl, _, rfl, _, rfl, (by show 6 ≤ sizeLine; decide), fun l nl => ?_⟩
    refine ⟨p, l, ([0, 0, 1, -1, 2, -3] : List Int).map V.int, k, rfl, .inl (.inl upd_same), Nat.succ_pos _, by show 6 ≤ 1000; decide, hP.new nl, by omega, fun v H1 hv P1 F1 => ?_⟩
    obtain ⟨z, hz, rfl⟩ := pickInt hv
    have zb : -3 ≤ z ∧ z ≤ 3 := by
      simp only [List.mem_cons, List.not_mem_nil, or_false] at hz
      omega
    have FF := (Frm.new (p := p) (o := .lst (([0, 0, 1, -1, 2, -3] : List Int).map V.int)) nl).trans F1
    obtain ⟨wf, an, ln, mute, great, free, td, ans, lts, W⟩ := hW.frm FF hP
    refine ⟨_, rfl, wp, _, rfl, W.at_ (j := 5) rfl rfl, _, rfl, ite2 (fun _ => ?_) (fun _ => ?_)⟩
    · have pw9 : CPow 10 9 := ⟨by decide, by decide, by decide⟩
      refine ⟨_, rfl, _, rfl, _, _, rfl, rfl, pw9, by show 4 ≤ sizeLine; decide, fun e ne => ?_⟩
      refine ⟨p, e, ([1, 1, 1, 10 ^ 9] : List Int).map V.int, _, rfl, .inl (.inl upd_same), Nat.succ_pos _, by show 4 ≤ 1000; decide, P1.new ne, by omega, fun v H2 hv2 P2 F2 => ?_⟩
      obtain ⟨y, hy, rfl⟩ := pickInt hv2
      have yb : y = 1 ∨ y = 10 ^ 9 := by
        simp only [List.mem_cons, List.not_mem_nil, or_false] at hy
        omega
      refine ⟨_, _, rfl, rfl, .inl ⟨by omega, by omega⟩, q _ _ ?_ ?_ (P2.mono (by omega)) (FF.trans ((Frm.new (o := .lst (([1, 1, 1, 10 ^ 9] : List Int).map V.int)) ne).trans F2))⟩
      · rcases yb with e | e <;> subst e <;> show _ ≤ z * _ <;> omega
      · rcases yb with e | e <;> subst e <;> show z * _ ≤ _ <;> omega
    · exact ⟨_, rfl, q z H1 (by omega) (by omega) (P1.mono (by omega)) FF⟩
theorem scWo : FnScope ["_law_pen", "_law_world", "_law_line", "_law_other", "_law_rows", "_law_sign", "_law_gaps", "_law_first", "_law_last", "_law_x", "_law_free", "_law_gap"] ["_law_pen", "_law_world", "_law_line", "_law_other", "_law_rows", "_law_sign"] (defScope sWorth) := ⟨rfl, rfl, rfl, by decide +kernel, rfl, by decide +kernel, by decide +kernel⟩
theorem ok_worth {f : Addr} {fd : FuncData} (F : Fun K "_law_worth" "_law_worth" sWorth f fd) (B : Bd mg) (PI : Cl P w K mg base 2 "_law_pick" ["_law_pen", "_law_options"] (spPick K)) : FnOk P w K mg base CX0 3 f fd ["_law_pen", "_law_world", "_law_line", "_law_other", "_law_rows", "_law_sign"] (spWorth K) := by
  refine F.ok scWo (fun vs H Q E h => ?_) (fun cdv A outer s H vs Q E hr h => ?_)
  · obtain ⟨_, _, _, _, _, _, _, _, _, _, _, _, _, _, rfl, _⟩ := h
    rfl
  · obtain ⟨p, wp, la, oa, ra, n, l0, l1, o0, o1, fs, k, M, sg, rfl, hW, hP, hk, hla, hoa, hra, hM, hb, hM0, hM6, a1, a2, b1, b2, c1, c2, d1, d2, q⟩ := h
    have nd := scWo.nd
    have hu := hu_of hr
    refine ⟨_, pss_cons (ps_set (i := 6) nd rfl (.inl rfl) (pe_lst pa_nil))
      (pss_cons (ps_for PassesOwn.never rfl (pi_list (pv 4)) (pg_tup rfl (pgs_cons (pg_name (i := 7) nd rfl (.inl rfl)) (pgs_cons (pg_name (i := 8) nd rfl (.inl rfl)) pgs_nil)))
          (pss_one (ps_for PassesOwn.never rfl (pi_tup (pe_tup (pa_cons (pv 7) (pa_cons (pv 8) pa_nil)))) (pg_name (i := 9) nd rfl (.inl rfl))
              (pss_one (ps_expr (pe_bm PySem.F.plainAttrs_list PySem.F.slot_list_append PySem.F.type_list_append mt_append (pv 6) (pa_cons (pe_op op_sub (pe_op op_add (pe_op op_mul (pe_op op_sub (pe_ix ix_tup (pv 2) pe_int (fun _ _ => rfl)) (pe_ix ix_tup (pv 3) pe_int (fun _ _ => rfl))) (pv 9)) (pe_ix ix_tup (pv 2) pe_int (fun _ _ => rfl))) (pe_ix ix_tup (pv 3) pe_int (fun _ _ => rfl))) pa_nil)))))))
      (pss_cons (ps_set (i := 6) nd rfl (.inl rfl) (pe_callB cr_sorted (by rfl) B.sorted bt_sorted (pa_cons (pe_lc (own := [("_law_gap", 11)]) (g := (gName 11)) (tt := tYes) rfl nd (pi_list (pv 6)) (blkOk_by (N := ["_law_pen", "_law_world", "_law_line", "_law_other", "_law_rows", "_law_sign", "_law_gaps", "_law_first", "_law_last", "_law_x", "_law_free", "_law_gap"]) (sc := defScope sWorth) (by decide +kernel)) (fun _ _ _ _ _ => pg_name (i := 11) nd rfl (.inl rfl)) (fun _ _ _ _ _ => pts_nil) (fun _ _ _ _ _ => (pe_callTy call_int1 (by rfl) B.int bt_int (pa_cons (pv 11) pa_nil)))) pa_nil)))
      (pss_cons (ps_set (i := 10) nd rfl (.inl rfl) (pe_cl PI hr (by decide) (by rfl) (pa_cons (pv 0) (pa_cons (pe_lst (pa_cons pe_int (pa_cons pe_int (pa_cons pe_int (pa_cons pe_int (pa_cons pe_int (pa_cons (pe_ifExp (pt_val (pe_dget hu (pv 1) pe_str (fun _ _ => rfl))) (pe_op op_pow pe_int pe_int) pe_int) pa_nil))))))) pa_nil))))
      (pss_one (ps_ret (pe_ifExp (pt_cmpR op_eq (pv 5) pe_str (nomark _)) (pe_op op_add (pe_ix ix_list (pv 6) (pe_un un_neg pe_int) (fun _ _ => rfl)) (pv 10)) (pe_op op_sub (pe_ix ix_list (pv 6) pe_int (fun _ _ => rfl)) (pv 10)))))))), ?_⟩
    obtain ⟨wf, an, ln, mute, great, free, td, ans, lts, W⟩ := hW
    have n1 : n ≤ 10 ^ 30 := W.n1
    refine ⟨Nat.zero_le _, fun o no => ?_⟩
    have s1 : Same H _ := same_lay (o := .lst []) no
    let Bd1 (g : Int) : Prop := -(10 ^ 41) < g ∧ g < 10 ^ 41
    have gapB : ∀ x : Int, 0 ≤ x → x ≤ n → Bd1 ((l0 - o0) * x + l1 - o1) := fun x x0 x1 => by
      have := prod_bd (d := l0 - o0) (x := x) (n := n) ⟨by omega, by omega⟩ x0 (by omega)
      constructor <;> omega
    refine ⟨_, rfl, ra, rfl, ⟨_, s1.seq hra⟩, for_list (K := K) (a := ra) (xs := refs M) (fun i σ G => ∃ gs : List Int, (∃ s7 s8 s9, σ = [some (.ref p), some (.ref wp), some (.ref la), some (.ref oa), some (.ref ra), some (.str sg), some (.ref o), s7, s8, s9, none, none]) ∧ G o = some (.lst (gs.map V.int)) ∧ gs.length = 2 * i ∧ (∀ g ∈ gs, Bd1 g) ∧ Same H G)
      ⟨[], ⟨none, none, none, rfl⟩, upd_same, rfl, (fun _ z => nomatch z), s1⟩ (fun i σ G _ ⟨_, _, _, _, _, s⟩ => s.seq hra) ?_ ?_⟩
    · rintro i y σ G hy ⟨gs, ⟨s7, s8, s9, rfl⟩, hG, lg, hg, sG⟩
      obtain ⟨u, hu2, huM, rfl⟩ := refs_get hy
      have hil : i < M.length := (List.getElem?_eq_some_iff.mp hu2).1
      have ub := hb u.2 (mem_rws.mpr ⟨u.1, huM⟩)
      have eu := sG _ _ (hM u huM)
      refine ⟨u.1, _, rfl, .inl (.inl eu), rfl, _, _, rfl, _, _, rfl, rfl, ?_⟩
      refine ⟨_, rfl, _, rfl, by show 2 ≤ sizeLine; decide, fun t nt => ?_⟩
      have st := same_lay (o := .tup [.int u.2.1, .int u.2.2]) nt
      have sGt := sG.trans st
      refine ⟨t, rfl, ⟨_, .inl (.inl upd_same)⟩, for_tup (K := K) (a := t) (xs := [V.int u.2.1, .int u.2.2]) (fun j σ G2 => ∃ gs2 : List Int, (∃ s9, σ = [some (.ref p), some (.ref wp), some (.ref la), some (.ref oa), some (.ref ra), some (.str sg), some (.ref o), some (.int u.2.1), some (.int u.2.2), s9, none, none]) ∧ G2 o = some (.lst (gs2.map V.int)) ∧ gs2.length = 2 * i + j ∧ (∀ g ∈ gs2, Bd1 g) ∧ Same H G2 ∧ G2 t = some (.tup [.int u.2.1, .int u.2.2]))
        ⟨gs, ⟨_, rfl⟩, st _ _ hG, lg, hg, sGt, upd_same⟩ (fun j σ G2 _ ⟨_, _, _, _, _, _, e⟩ => .inl (.inl e)) ?_ ?_⟩
      · rintro j v σ G2 hv ⟨gs2, ⟨s9, rfl⟩, hG2, lg2, hg2, sG2, ht2⟩
        obtain ⟨x, rfl, x0, x1⟩ : ∃ x : Int, v = .int x ∧ 0 ≤ x ∧ x ≤ n := by
          rcases (show j = 0 ∨ j = 1 by have := (List.getElem?_eq_some_iff.mp hv).1; simp at this; omega) with e | e <;> subst e
          · exact ⟨u.2.1, (Option.some.inj hv).symm, ub.1, by omega⟩
          · exact ⟨u.2.2, (Option.some.inj hv).symm, by omega, ub.2.2⟩
        have hj : j < 2 := (List.getElem?_eq_some_iff.mp hv).1
        have ela := sG2 _ _ hla
        have eoa := sG2 _ _ hoa
        refine ⟨_, rfl, .inl ⟨rfl, _, .inl (.inl hG2)⟩, _, rfl, la, _, 0, .int l0, rfl, rfl, .inl (.inl ela), atI_nat (j := 0) rfl, _, rfl, oa, _, 0, .int o0, rfl, rfl, .inl (.inl eoa), atI_nat (j := 0) rfl, _, _, rfl, rfl, _, rfl, _, _, rfl, rfl, .inl ⟨by omega, by omega⟩, _, rfl, la, _, 1, .int l1, rfl, rfl, .inl (.inl ela), atI_nat (j := 1) rfl, _, _, rfl, rfl, _, rfl, oa, _, 1, .int o1, rfl, rfl, .inl (.inl eoa), atI_nat (j := 1) rfl, _, _, rfl, rfl, o, _, _, rfl, rfl, hG2, small1000 (by rw [List.length_map]; omega), ?_⟩
        refine ⟨gs2 ++ [(l0 - o0) * x + l1 - o1], ⟨_, rfl⟩, by rw [upd_same, List.map_append]; rfl, by rw [List.length_append, lg2]; rfl, fun g hg' => ?_, same_upd sG2 no, by rw [upd_ne (ne_of ht2 hG2 (by intro z; cases z))]; exact ht2⟩
        rcases List.mem_append.mp hg' with e | e
        · exact hg2 g e
        · rw [List.mem_singleton.mp e]; exact gapB x x0 x1
      · rintro σ G2 ⟨gs2, ⟨s9, rfl⟩, hG2, lg2, hg2, sG2, _⟩
        exact ⟨gs2, ⟨_, _, _, rfl⟩, hG2, lg2, hg2, sG2⟩
    · rintro σ G ⟨gs, ⟨s7, s8, s9, rfl⟩, hG, lg, hg, sG⟩
      have lM : (refs M).length = M.length := refs_len M
      have m0 : 0 < M.length := List.length_pos_iff.mpr hM0
      refine ⟨_, rfl, o, rfl, ⟨_, .inl (.inl hG)⟩, fun D hD => lc_list (K := K) (a := o) (xs := gs.map V.int) (fun i G2 => G2 D = some (.lst ((gs.take i).map V.int)) ∧ Same G G2)
        ⟨upd_same, same_lay hD⟩ (fun i G2 _ ⟨_, s⟩ => .inl (.inl (s _ _ hG))) ?_ ?_⟩
      · rintro i v G2 hv ⟨hD2, s2⟩
        rw [List.getElem?_map] at hv
        obtain ⟨g, hg', rfl⟩ := Option.map_eq_some_iff.mp hv
        have hil : i < gs.length := (List.getElem?_eq_some_iff.mp hg').1
        refine ⟨rfl, yesT ⟨_, rfl, .inl ⟨_, rfl, _, hD2, small1000 (by rw [List.length_map, List.length_take]; omega), ?_, same_upd s2 hD⟩⟩⟩
        rw [upd_same, List.take_add_one, hg', List.map_append]
        rfl
      · rintro G2 ⟨hD2, s2⟩
        rw [List.length_map, List.take_of_length_le (Nat.le_refl _)] at hD2
        refine ⟨D, gs, rfl, .inl (.inl hD2), by omega, fun gs2 o2 hperm hsort no2 => ?_⟩
        have s3 := (sG.trans s2).trans (same_lay (o := .lst (gs2.map V.int)) no2)
        have hg2 : ∀ g ∈ gs2, Bd1 g := fun g hh => hg g (hperm.mem_iff.mp hh)
        have l2 : gs2.length = 2 * M.length := by rw [hperm.length_eq, lg, lM]
        have P3 := hP.same' s3
        have W3 := W.same s3
        have pw20 : CPow 10 20 := ⟨by decide, by decide, by decide⟩
        have go : ∀ (x6 : Int) (e : Addr) (ne : (upd G2 o2 (.lst (gs2.map V.int))) e = none), 0 ≤ x6 → x6 ≤ 10 ^ 20 → ∀ (Q2 : VK), (∀ r G3, 0 ≤ r → r ≤ 10 ^ 20 → Pen G3 p (k + 1) → Frm p H G3 → G3 o2 = some (.lst (gs2.map V.int)) → Q2 (.int r) G3) → spPick K [.ref p, .ref e] (upd (upd G2 o2 (.lst (gs2.map V.int))) e (.lst [.int 0, .int 0, .int 1, .int 2, .int 5, .int x6])) Q2 E0 := fun x6 e ne x60 x61 Q2 hq => by
          refine ⟨p, e, _, k, rfl, .inl (.inl upd_same), Nat.succ_pos _, by show 6 ≤ 1000; decide, P3.new ne, by omega, fun v G3 hv P4 F4 => ?_⟩
          obtain ⟨r, rfl, r0, r1⟩ : ∃ r : Int, v = .int r ∧ 0 ≤ r ∧ r ≤ 10 ^ 20 := by
            simp only [List.mem_cons, List.not_mem_nil, or_false] at hv
            rcases hv with e | e | e | e | e | e <;> subst e <;> exact ⟨_, rfl, by omega, by omega⟩
          exact hq r G3 r0 r1 P4 (((frmS s3).trans (Frm.new ne)).trans F4) (F4.lst (P3.new ne) (same_lay ne _ _ upd_same))
        have fin : ∀ r G3, 0 ≤ r → r ≤ 10 ^ 20 → Pen G3 p (k + 1) → Frm p H G3 → G3 o2 = some (.lst (gs2.map V.int)) →
            (tIf (tTest (tOp rEq (tVar 5) (tC (.str "<=")))) (tOp rAdd (tOp (rIxL K) (tVar 6) (tUn (rU fun i => .int (-i)) (tC (.int 1)))) (tVar 10)) (tOp rSub (tOp (rIxL K) (tVar 6) (tC (.int 0))) (tVar 10))) [some (.ref p), some (.ref wp), some (.ref la), some (.ref oa), some (.ref ra), some (.str sg), some (.ref o2), s7, s8, s9, some (.int r), none] G3 Q := by
          intro r G3 r0 r1 P4 F4 ho2
          have at0 : ∃ g, gs2[0]? = some g ∧ Bd1 g := ⟨gs2[0]'(by omega), List.getElem?_eq_getElem (by omega), hg2 _ (List.getElem_mem _)⟩
          have atl : ∃ g gs3, gs2 = gs3 ++ [g] ∧ Bd1 g := by
            have hne : gs2 ≠ [] := fun e => by rw [e] at l2; simp at l2; omega
            exact ⟨gs2.getLast hne, gs2.dropLast, (List.dropLast_concat_getLast hne).symm, hg2 _ (List.getLast_mem hne)⟩
          obtain ⟨g, hg0, gb⟩ := at0
          obtain ⟨g', gs3, eg, gb'⟩ := atl
          have gb1 := gb.1
          have gb2 := gb.2
          have gb3 := gb'.1
          have gb4 := gb'.2
          refine ⟨_, rfl, rfl, _, rfl, ite2 (fun _ => ?_) (fun _ => ?_)⟩
          · refine ⟨_, rfl, 1, rfl, o2, _, -1, .int g', rfl, rfl, .inl (.inl ho2), ?_, _, rfl, _, _, rfl, rfl, q _ _ (by omega) (by omega) P4 F4⟩
            rw [eg, List.map_append]
            exact atI_last _ _
          · refine ⟨_, rfl, o2, _, 0, .int g, rfl, rfl, .inl (.inl ho2), ?_, _, rfl, _, _, rfl, rfl, q _ _ (by omega) (by omega) P4 F4⟩
            exact atI_nat (j := 0) (by rw [List.getElem?_map, hg0]; rfl)
        refine ⟨_, rfl, _, rfl, wp, _, rfl, W3.at_ (j := 5) rfl rfl, _, rfl, ite2 (fun _ => ?_) (fun _ => ?_)⟩
        · exact ⟨_, _, rfl, rfl, pw20, by show 6 ≤ sizeLine; decide, fun e ne => go _ e ne (by decide) (by decide) _ fun r G3 r0 r1 P4 F4 h2 => fin r G3 r0 r1 P4 F4 h2⟩
        · exact ⟨by show 6 ≤ sizeLine; decide, fun e ne => go _ e ne (by decide) (by decide) _ fun r G3 r0 r1 P4 F4 h2 => fin r G3 r0 r1 P4 F4 h2⟩
end
end OR

namespace OR
open PySem PySem.Spec PyProof.Rows L2
open TL (tl numL)
/-! ### clauses as tuples -/
/-- a clause that fits a world -/
structure GoodM (fs : List Str) (n : Int) (m : CM) : Prop where
  lt : m.1 < 7
  mem : m.2.1 ∈ fs
  wf : WF m.1 m.2.1 m.2.2.2
  told : ∀ v ∈ told m.1 m.2.1 m.2.2.2, ∃ g ∈ fs, v = .str g
  nf : Nf m.2.2.1
  bd : ∀ r ∈ m.2.2.1, 0 ≤ r.1 ∧ r.2 ≤ n
  ne : m.2.2.1 ≠ []
  len : m.2.2.1.length ≤ 6
/-- the tuple of a clause at t -/
def SpT (H : Hp) (t : Addr) (m : CM) : Prop := ∃ ra M, H t = some (.tup (.str (kName m.1) :: .str m.2.1 :: .ref ra :: m.2.2.2)) ∧ H ra = some (.lst (refs M)) ∧ AtR H M ∧ rws M = m.2.2.1
theorem SpT.same {H H' : Hp} {t : Addr} {m : CM} (h : SpT H t m) (s : Same H H') : SpT H' t m := by
  obtain ⟨ra, M, h1, h2, h3, h4⟩ := h
  exact ⟨ra, M, s _ _ h1, s _ _ h2, h3.same s, h4⟩
theorem SpT.frm {H H' : Hp} {p t : Addr} {m : CM} {k : Nat} (h : SpT H t m) (F : Frm p H H') (P : Pen H p k) : SpT H' t m := by
  obtain ⟨ra, M, h1, h2, h3, h4⟩ := h
  obtain ⟨kvs, hp⟩ := P.dict
  exact ⟨ra, M, F _ _ h1 (ne_of h1 hp (by intro z; cases z)), F.lst P h2, h3.frm F P, h4⟩
/-- the rows of a world, as they are handed on -/
structure RowsAt (H : Hp) (ra : Addr) (n : Int) (M : List ARow) : Prop where
  at_ : H ra = some (.lst (refs M))
  rows : AtR H M
  nf : Nf (rws M)
  bd : ∀ r ∈ rws M, 0 ≤ r.1 ∧ r.2 ≤ n
  ne : M ≠ []
  len : M.length ≤ 6
theorem RowsAt.frm {H H' : Hp} {p ra : Addr} {n : Int} {M : List ARow} {k : Nat} (h : RowsAt H ra n M) (F : Frm p H H') (P : Pen H p k) : RowsAt H' ra n M := { h with at_ := F.lst P h.at_, rows := h.rows.frm F P }
theorem RowsAt.same {H H' : Hp} {ra : Addr} {n : Int} {M : List ARow} (h : RowsAt H ra n M) (s : Same H H') : RowsAt H' ra n M := { h with at_ := s _ _ h.at_, rows := h.rows.same s }
theorem num_of_lt {b : Int} (h1 : -(10 ^ 42) < b) (h2 : b < 10 ^ 42) : Num b := by
  unfold Num
  have : b.natAbs < 10 ^ 42 := by omega
  exact Nat.lt_of_lt_of_le this (Nat.pow_le_pow_right (by decide) (by decide))
def spNumCl : Sp := fun vs H Q _ => ∃ (p wp ra : Addr) (n : Int) (fs : List Str) (k : Nat) (kd g : Str) (M : List ARow) (sg : Str), vs = [.ref p, .ref wp, .str kd, .str g, .ref ra, .str sg] ∧ Wld p H wp n fs ∧ g ∈ fs ∧ isSign sg ∧ RowsAt H ra n M ∧ Pen H p k ∧ k ≤ 800000 ∧
  ∀ t m H', H t = none → SpT H' t m → GoodM fs n m → Pen H' p (k + 20) → Frm p H H' → Q (.ref t) H'
theorem signs_at {sg : Str} (h : isSign sg) : ∃ c : Int, ([("<=", .int 1), (">=", .int (-1)), ("=", .int 0)] : List (Str × V)).lookup sg = some (.int c) ∧ -1 ≤ c ∧ c ≤ 1 := by
  rcases h with e | e | e <;> subst e
  · exact ⟨1, by decide +kernel, by decide, by decide⟩
  · exact ⟨-1, by decide +kernel, by decide, by decide⟩
  · exact ⟨0, by decide +kernel, by decide, by decide⟩
theorem filt_words {fs : List Str} {g x : Str} (h : x ∈ fs.filter fun y => decide (y ≠ g)) : x ∈ fs ∧ x ≠ g := by
  obtain ⟨h1, h2⟩ := List.mem_filter.mp h
  exact ⟨h1, by simpa using h2⟩
abbrev ncN : List Str := ["_law_pen", "_law_world", "_law_kind", "_law_f", "_law_rows", "_law_sign", "_law_own", "_law_free", "_law_height", "_law_others", "_law_g", "_law_slope", "_law_line", "_law_other"]
section
variable {P : Program} {w : World} {K : PySem.W.Frag} {mg : Str → Option Value} {base : Heap}
theorem scNC : FnScope ["_law_pen", "_law_world", "_law_kind", "_law_f", "_law_rows", "_law_sign", "_law_own", "_law_free", "_law_height", "_law_others", "_law_g", "_law_slope", "_law_line", "_law_other"] ["_law_pen", "_law_world", "_law_kind", "_law_f", "_law_rows", "_law_sign"] (defScope sNumberClause) := ⟨rfl, rfl, rfl, by decide +kernel, rfl, by decide +kernel, by decide +kernel⟩
theorem ok_numcl {f : Addr} {fd : FuncData} (F : Fun K "_law_number_clause" "_law_number_clause" sNumberClause f fd) (D : Cl P w K mg base 1 "_law_draw" ["_law_pen", "_law_many"] spDraw) (PI : Cl P w K mg base 2 "_law_pick" ["_law_pen", "_law_options"] (spPick K)) (SO : Cl P w K mg base 3 "_law_slope_of" ["_law_pen", "_law_world"] spSlope)
    (WO : Cl P w K mg base 3 "_law_worth" ["_law_pen", "_law_world", "_law_line", "_law_other", "_law_rows", "_law_sign"] (spWorth K)) : FnOk P w K mg base CX0 4 f fd ["_law_pen", "_law_world", "_law_kind", "_law_f", "_law_rows", "_law_sign"] spNumCl := by
  refine F.ok scNC (fun vs H Q E h => ?_) (fun cdv A outer s H vs Q E hr h => ?_)
  · obtain ⟨_, _, _, _, _, _, _, _, _, _, rfl, _⟩ := h
    rfl
  · obtain ⟨p, wp, ra, n, fs, k, kd, g, M, sg, rfl, hW, hg, hsg, hR, hP, hk, q⟩ := h
    have nd := scNC.nd
    have hu := hu_of hr
    have hu64 : (A.deeper (envOfC "_law_number_clause" (defScope sNumberClause) s.heap.objs.size f cdv)).units + 64 < cLine := hr.units
    refine ⟨_, Evl.pss_cut (ps_par (i := 6) (j := 7) rfl nd rfl rfl (by decide) rfl rfl (pa_cons (pe_dget hu (pe_dget hu (pv 1) pe_str (fun _ _ => rfl)) (pv 3) (fun _ _ => rfl)) (pa_cons (pe_or (pe_dget hu (pv 1) pe_str (fun _ _ => rfl)) (pe_one (pe_cmpR op_eq (pe_dget hu (pv 1) pe_str (fun _ _ => rfl)) (pv 3) (by rfl)))) pa_nil)) rfl)
      (pss_cons (ps_if (pt_cmpR op_eq (pv 2) pe_str (nomark _))
          (pss_cons (ps_set (i := 8) nd rfl (.inl rfl) (pe_op op_add (pe_ix (ix_tupK K rfl) (pv 6) pe_int (fun _ _ => rfl)) (pe_op op_mul (pe_cl PI hr (by decide) (by rfl) (pa_cons (pv 0) (pa_cons (pe_lst (pa_cons pe_int (pa_cons pe_int (pa_cons pe_int (pa_cons pe_int pa_nil))))) pa_nil))) (pe_dget hu (pe_disp (pps_cons pe_str pe_int (pps_cons pe_str (pe_un un_neg pe_int) (pps_cons pe_str pe_int pps_nil))) rfl rfl (by simp) (by decide)) (pv 5) (fun _ _ => rfl)))))
          (pss_one (ps_ret (pe_tup (pa_cons pe_str (pa_cons (pv 3) (pa_cons (pv 4) (pa_cons (pv 5) (pa_cons (pe_ifExp (pt_val (pv 7)) (pe_op op_sub (pe_cl D hr (by decide) (by rfl) (pa_cons (pv 0) (pa_cons pe_int pa_nil))) pe_int) (pv 8)) pa_nil)))))))))
          pss_nil)
      (pss_cons (ps_setLc (i := 9) (own := [("_law_other", 13)]) (g := (gName 13)) rfl nd rfl rfl (sw_true rfl rfl rfl (by decide +kernel)) (pi_list (pe_dget hu (pv 1) pe_str (fun _ _ => rfl))) (blkOk_by (N := ncN) (sc := defScope sNumberClause) (by decide +kernel)) (fun _ _ _ _ _ => pg_name (i := 13) nd rfl (.inl rfl)) (fun _ _ _ _ _ => pts_one (pt_cmpR op_ne (pv 13) (pv 3) (nomark _))) (fun _ _ _ _ _ => (pv 13)))
      (Evl.pss_cut (ps_if (PW.pt (pw_and (pt_cmpR op_eq (pv 2) pe_str (nomark _)) (pw_and1 (pt_cmpR (op_neD hu64) (pv 9) (pe_lst pa_nil) (nomark _)))))
          (pss_cons (ps_set (i := 10) nd rfl (.inl rfl) (pe_cl PI hr (by decide) (by rfl) (pa_cons (pv 0) (pa_cons (pv 9) pa_nil))))
          (Evl.pss_cut (ps_set (i := 11) nd rfl (.inl rfl) (pe_ifExp (pt_cmpR op_eq (pv 5) pe_str (nomark _)) (pe_op op_sub (pe_ix (ix_tupK K rfl) (pv 6) pe_int (fun _ _ => rfl)) (pe_ix (ix_tupK K rfl) (pe_dget hu (pe_dget hu (pv 1) pe_str (fun _ _ => rfl)) (pv 10) (fun _ _ => rfl)) pe_int (fun _ _ => rfl))) (pe_cl SO hr (by decide) (by rfl) (pa_cons (pv 0) (pa_cons (pv 1) pa_nil)))))
          (pss_cons (ps_set (i := 12) nd rfl (.inl rfl) (pe_tup (pa_cons (pe_op op_add (pe_ix (ix_tupK K rfl) (pe_dget hu (pe_dget hu (pv 1) pe_str (fun _ _ => rfl)) (pv 10) (fun _ _ => rfl)) pe_int (fun _ _ => rfl)) (pv 11)) (pa_cons (pe_ix (ix_tupK K rfl) (pe_dget hu (pe_dget hu (pv 1) pe_str (fun _ _ => rfl)) (pv 10) (fun _ _ => rfl)) pe_int (fun _ _ => rfl)) pa_nil))))
          (pss_cons (ps_set (i := 8) nd rfl (.inl rfl) (pe_op op_sub (pe_ix (ix_tupK K rfl) (pv 6) pe_int (fun _ _ => rfl)) (pe_ix (ix_tupK K rfl) (pv 12) pe_int (fun _ _ => rfl))))
          (Evl.pss_cut (ps_if (pt_cmpR op_ne (pv 5) pe_str (nomark _))
              (pss_one (ps_set (i := 8) nd rfl (.inl rfl) (pe_cl WO hr (by decide) (by rfl) (pa_cons (pv 0) (pa_cons (pv 1) (pa_cons (pv 6) (pa_cons (pv 12) (pa_cons (pv 4) (pa_cons (pv 5) pa_nil)))))))))
              pss_nil)
          (pss_one (ps_ret (pe_tup (pa_cons pe_str (pa_cons (pv 3) (pa_cons (pv 4) (pa_cons (pv 5) (pa_cons (pv 10) (pa_cons (pv 11) (pa_cons (pe_ifExp (pt_val (pv 7)) (pe_op op_sub (pe_cl D hr (by decide) (by rfl) (pa_cons (pv 0) (pa_cons pe_int pa_nil))) pe_int) (pv 8)) pa_nil)))))))))))))))
          pss_nil)
      (Evl.pss_cut (ps_set (i := 11) nd rfl (.inl rfl) (pe_ifExp (pt_cmpR op_eq (pv 5) pe_str (nomark _)) (pe_ix (ix_tupK K rfl) (pv 6) pe_int (fun _ _ => rfl)) (pe_cl SO hr (by decide) (by rfl) (pa_cons (pv 0) (pa_cons (pv 1) pa_nil)))))
      (pss_cons (ps_set (i := 8) nd rfl (.inl rfl) (pe_ix (ix_tupK K rfl) (pv 6) pe_int (fun _ _ => rfl)))
      (Evl.pss_cut (ps_if (pt_cmpR op_ne (pv 5) pe_str (nomark _))
          (pss_one (ps_set (i := 8) nd rfl (.inl rfl) (pe_cl WO hr (by decide) (by rfl) (pa_cons (pv 0) (pa_cons (pv 1) (pa_cons (pv 6) (pa_cons (pe_tup (pa_cons (pv 11) (pa_cons pe_int pa_nil))) (pa_cons (pv 4) (pa_cons (pv 5) pa_nil)))))))))
          pss_nil)
      (pss_one (ps_ret (pe_tup (pa_cons pe_str (pa_cons (pv 3) (pa_cons (pv 4) (pa_cons (pv 5) (pa_cons (pv 11) (pa_cons (pe_ifExp (pt_val (pv 7)) (pe_op op_sub (pe_cl D hr (by decide) (by rfl) (pa_cons (pv 0) (pa_cons pe_int pa_nil))) pe_int) (pv 8)) pa_nil))))))))))))))), ?_⟩
    obtain ⟨wf, an, ln, mute, great, free, td, ans, lts, W⟩ := hW
    have hW0 : Wld p H wp n fs := ⟨wf, an, ln, mute, great, free, td, ans, lts, W⟩
    obtain ⟨ot, a, b, hd, hot, a1, a2, b1, b2⟩ := W.line hg
    have wg := W.fw.word (Nat.le_trans W.f2 (by decide)) g hg
    have two : 2 ≤ sizeLine := by decide
    -- the end
    have fin : ∀ (i : Nat) (x : List V) (G : Hp), i < 7 → WF i g x → (∀ v ∈ told i g x, ∃ h ∈ fs, v = .str h) → Pen G p (k + 20) → Frm p H G → ∀ t, G t = none → Q (.ref t) (upd G t (.tup (.str (kName i) :: .str g :: .ref ra :: x))) := fun i x G hi hx ht PG FG t nt => by
      have st := same_lay (o := .tup (.str (kName i) :: .str g :: .ref ra :: x)) nt
      have R := (hR.frm FG hP).same st
      exact q t (i, g, rws M, x) _ (FG.free PG nt) ⟨ra, M, upd_same, R.at_, R.rows, rfl⟩ ⟨hi, hg, hx, ht, R.nf, R.bd, fun e => R.ne (List.map_eq_nil_iff.mp e), by rw [rws_len]; exact R.len⟩ (PG.same' st) (FG.trans (frmS st))
    have self : ∃ h ∈ fs, V.str g = .str h := ⟨g, hg, rfl⟩
    -- own, free
    refine ⟨fun σ G => ∃ fr : Bool, σ = [some (.ref p), some (.ref wp), some (.str kd), some (.str g), some (.ref ra), some (.str sg), some (.ref ot), some (.bl fr), none, none, none, none, none, none] ∧ H = G, ?_, ?_⟩
    · refine ⟨_, rfl, wp, _, rfl, W.at_ (j := 3) rfl rfl, _, rfl, ln, _, rfl, hd, _, rfl, wp, _, rfl, W.at_ (j := 6) rfl rfl, free, rfl, ite2 (fun _ => ?_) (fun _ => ?_)⟩
      · exact ⟨_, _, rfl, true, rfl, rfl⟩
      · refine ⟨_, rfl, wp, _, rfl, W.at_ (j := 4) rfl rfl, _, rfl, ?_⟩
        rcases W.mu with e | ⟨mt, e⟩ <;> subst e
        · exact ⟨rfl, _, _, rfl, _, rfl, rfl⟩
        · exact ⟨rfl, _, _, rfl, _, rfl, rfl⟩
    rintro σ G ⟨fr, rfl, rfl⟩
    refine ⟨_, rfl, rfl, _, rfl, ite2 (fun _ => ?_) (fun _ => ?_)⟩
    · refine ⟨_, rfl, ot, _, 0, .int a, rfl, rfl, .inl (.inl hot), atI_nat (j := 0) rfl, _, rfl, by show 4 ≤ sizeLine; decide, fun e ne => ?_⟩
      refine ⟨p, e, ([0, 0, 1, 3] : List Int).map V.int, k, rfl, .inl (.inl upd_same), Nat.succ_pos _, by show 4 ≤ 1000; decide, hP.new ne, by omega, fun v G1 hv P1 F1 => ?_⟩
      obtain ⟨r, hr2, rfl⟩ := pickInt hv
      have rb : 0 ≤ r ∧ r ≤ 3 := by
        simp only [List.mem_cons, List.not_mem_nil, or_false] at hr2
        omega
      intro d nd2
      refine ⟨1, rfl, upd_same, dkv [("<=", .int 1), (">=", .int (-1)), ("=", .int 0)], rfl, by show 3 ≤ 15; decide, ?_⟩
      rw [merge_dkv (by decide +kernel), upd_upd]
      obtain ⟨c, hc, c1, c2⟩ := signs_at hsg
      have FG := ((Frm.new (p := p) (o := .lst (([0, 0, 1, 3] : List Int).map V.int)) ne).trans F1).trans (Frm.new (o := .dK (dkv [("<=", .int 1), (">=", .int (-1)), ("=", .int 0)])) nd2)
      have PG := P1.new (o := .dK (dkv [("<=", .int 1), (">=", .int (-1)), ("=", .int 0)])) nd2
      refine ⟨_, rfl, d, .int c, rfl, getD upd_same hc, _, _, rfl, rfl, .inl ⟨by omega, by omega⟩, _, _, rfl, rfl, ?_⟩
      have rc : -3 ≤ r * c ∧ r * c ≤ 3 := by
        rcases (show c = -1 ∨ c = 0 ∨ c = 1 by omega) with e | e | e <;> subst e <;> omega
      refine ⟨_, rfl, _, rfl, _, rfl, _, rfl, _, rfl, ite2 (fun _ => ?_) (fun _ => ?_)⟩
      · refine ⟨_, rfl, p, 7, _, rfl, by decide, by decide, PG, by omega, fun z G2 z0 z1 P2 F2 => ⟨_, _, rfl, rfl, by show 5 ≤ sizeLine; decide, fun t nt => ?_⟩⟩
        exact fin 6 [.str sg, .int (z - 3)] G2 (by decide) ⟨sg, _, rfl, hsg, num_of_lt (by omega) (by omega)⟩ (fun v hv => by rw [List.mem_singleton.mp hv]; exact self) (P2.mono (by omega)) (FG.trans F2) t nt
      · refine ⟨_, rfl, by show 5 ≤ sizeLine; decide, fun t nt => ?_⟩
        exact fin 6 [.str sg, .int (a + r * c)] _ (by decide) ⟨sg, _, rfl, hsg, num_of_lt (by omega) (by omega)⟩ (fun v hv => by rw [List.mem_singleton.mp hv]; exact self) (PG.mono (by omega)) FG t nt
    · refine ⟨_, rfl, wp, _, rfl, W.at_ (j := 1) rfl rfl, wf, rfl, ⟨_, .inl (.inl W.f)⟩, fun D hD => lc_list (K := K) (a := wf) (xs := fs.map V.str) (fun i G => G D = some (.lst (((fs.take i).filter fun y => decide (y ≠ g)).map V.str)) ∧ Same H G)
        ⟨upd_same, same_lay hD⟩ (fun i G _ ⟨_, s⟩ => .inl (.inl (s _ _ W.f))) ?_ ?_⟩
      · rintro i v G hv ⟨hD2, s2⟩
        rw [List.getElem?_map] at hv
        obtain ⟨x, hx, rfl⟩ := Option.map_eq_some_iff.mp hv
        have e1 : (fs.take (i + 1)).filter (fun y => decide (y ≠ g)) = (fs.take i).filter (fun y => decide (y ≠ g)) ++ (if x ≠ g then [x] else []) := by
          rw [List.take_add_one, hx, List.filter_append]
          congr 1
          by_cases e : x = g <;> simp [e]
        refine ⟨rfl, ?_⟩
        refine ⟨_, rfl, _, rfl, rfl, _, rfl, ite2 (fun c => ?_) (fun c => ?_)⟩
        · have hc : x ≠ g := fun e => by subst e; simp at c
          have lf := List.length_filter_le (fun y => decide (y ≠ g)) (fs.take i)
          rw [List.length_take] at lf
          have f2 := W.f2
          refine ⟨_, rfl, _, hD2, small1000 (by rw [List.length_map]; omega), ?_, same_upd s2 hD⟩
          rw [upd_same, e1, if_pos hc, List.map_append]
          rfl
        · have hc : ¬ x ≠ g := fun e => c (by simp [e])
          refine ⟨?_, s2⟩
          rw [e1, if_neg hc, List.append_nil]
          exact hD2
      · rintro G1 ⟨hD2, s2⟩
        rw [List.length_map, List.take_of_length_le (Nat.le_refl _)] at hD2
        generalize hoth : fs.filter (fun y => decide (y ≠ g)) = oth at hD2
        have hof : ∀ x ∈ oth, x ∈ fs ∧ x ≠ g := fun x hx => filt_words (by rw [hoth]; exact hx)
        have hol : oth.length ≤ 2 := by
          rw [← hoth]
          exact Nat.le_trans (List.length_filter_le _ _) W.f2
        have PG1 := hP.same' s2
        refine ⟨fun σ G => σ = [some (.ref p), some (.ref wp), some (.str kd), some (.str g), some (.ref ra), some (.str sg), some (.ref ot), some (.bl fr), none, some (.ref D), none, none, none, none] ∧ Same H G, ?_, ?_⟩
        · refine ⟨_, rfl, rfl, _, rfl, ite2 (fun _ => ?_) (fun _ => iteF ⟨rfl, s2⟩)⟩
          refine ⟨_, rfl, Nat.zero_le _, fun e ne => ?_⟩
          have s3 := s2.trans (same_lay (o := .lst []) ne)
          have hD3 := same_lay (o := .lst []) ne _ _ hD2
          refine ⟨.list (oth.map PyData.str), .list [], .lst (.inl (.inl hD3)) (dp_strs oth), .lst (.inl (.inl upd_same)) .nil, shpL_strs (fun x hx => (W.fw.word (Nat.le_trans W.f2 (by decide)) x (hof x hx).1).small), rfl, _, rfl, ite2 (fun c => ?_) (fun _ => ⟨rfl, s3⟩)⟩
          have ho0 : 0 < oth.length := by
            cases oth with
            | nil => exact absurd c (by decide)
            | cons _ _ => exact Nat.succ_pos _
          have P3 := hP.same' s3
          refine ⟨_, rfl, _, rfl, p, D, oth.map V.str, _, rfl, .inl (.inl hD3), by rw [List.length_map]; exact ho0, by rw [List.length_map]; omega, P3, by omega, fun v G3 hv P4 F4 => ?_⟩
          obtain ⟨g2, hg2, rfl⟩ := List.mem_map.mp hv
          obtain ⟨hg2f, hg2n⟩ := hof g2 hg2
          have FH4 := (frmS (p := p) s3).trans F4
          have W4 := W.frm FH4 hP
          have wg2 := W.fw.word (Nat.le_trans W.f2 (by decide)) g2 hg2f
          obtain ⟨lt2, a', b', hd2, hlt2, a1', a2', b1', b2'⟩ := W4.line hg2f
          have hot4 := FH4 _ _ hot (by obtain ⟨kvs, hpd⟩ := hP.dict; exact ne_of hot hpd (by intro z; cases z))
          refine ⟨fun σ G => ∃ sl : Int, -(4 * 10 ^ 9) ≤ sl ∧ sl ≤ 4 * 10 ^ 9 ∧ σ = [some (.ref p), some (.ref wp), some (.str kd), some (.str g), some (.ref ra), some (.str sg), some (.ref ot), some (.bl fr), none, some (.ref D), some (.str g2), some (.int sl), none, none] ∧ Pen G p (k + 3) ∧ Frm p H G, ?_, ?_⟩
          · refine ⟨_, rfl, rfl, _, rfl, ite2 (fun _ => ?_) (fun _ => ?_)⟩
            · exact ⟨_, rfl, ot, _, 0, .int a, rfl, rfl, .inl (.inl hot4), atI_nat (j := 0) rfl, _, rfl, wp, _, rfl, W4.at_ (j := 3) rfl rfl, _, rfl, ln, _, rfl, hd2, lt2, _, 0, .int a', rfl, rfl, .inl (.inl hlt2), atI_nat (j := 0) rfl, _, _, rfl, rfl, a - a', by omega, by omega, rfl, P4.mono (by omega), FH4⟩
            · exact ⟨_, rfl, _, rfl, p, wp, n, fs, _, rfl, hW0.frm FH4 hP, P4, by omega, fun sl G5 h1 h2 P5 F5 => ⟨sl, by omega, by omega, rfl, P5.mono (by omega), FH4.trans F5⟩⟩
          rintro σ G5 ⟨sl, sl1, sl2, rfl, P5, F5⟩
          have W5 := W.frm F5 hP
          obtain ⟨lt2, a', b', hd2, hlt2, a1', a2', b1', b2'⟩ := W5.line hg2f
          have hot5 := F5 _ _ hot (by obtain ⟨kvs, hpd⟩ := hP.dict; exact ne_of hot hpd (by intro z; cases z))
          refine ⟨_, rfl, wp, _, rfl, W5.at_ (j := 3) rfl rfl, _, rfl, ln, _, rfl, hd2, lt2, _, 0, .int a', rfl, rfl, .inl (.inl hlt2), atI_nat (j := 0) rfl, _, rfl, _, _, rfl, rfl, _, rfl, wp, _, rfl, W5.at_ (j := 3) rfl rfl, _, rfl, ln, _, rfl, hd2, lt2, _, 1, .int b', rfl, rfl, .inl (.inl hlt2), atI_nat (j := 1) rfl, two, fun tl nt => ?_⟩
          have st := same_lay (o := .tup [.int (a' + sl), .int b']) nt
          have hot6 := st _ _ hot5
          have F6 := F5.trans (frmS (p := p) st)
          have P6 := P5.same' st
          refine ⟨_, rfl, ot, _, 1, .int b, rfl, rfl, .inl (.inl hot6), atI_nat (j := 1) rfl, _, rfl, tl, _, 1, .int b', rfl, rfl, .inl (.inl upd_same), atI_nat (j := 1) rfl, _, _, rfl, rfl, ?_⟩
          refine ⟨fun σ G => ∃ ht : Int, -(10 ^ 42) < ht ∧ ht < 10 ^ 42 ∧ σ = [some (.ref p), some (.ref wp), some (.str kd), some (.str g), some (.ref ra), some (.str sg), some (.ref ot), some (.bl fr), some (.int ht), some (.ref D), some (.str g2), some (.int sl), some (.ref tl), none] ∧ Pen G p (k + 4) ∧ Frm p H G, ?_, ?_⟩
          · refine ⟨_, rfl, rfl, _, rfl, ite2 (fun _ => ?_) (fun _ => ⟨b - b', by omega, by omega, rfl, P6.mono (by omega), F6⟩)⟩
            have R6 := hR.frm F6 hP
            refine ⟨_, rfl, _, rfl, _, rfl, _, rfl, _, rfl, _, rfl, p, wp, ot, tl, ra, n, a, b, a' + sl, b', fs, _, M, sg, rfl, hW0.frm F6 hP, P6, by omega, hot6, upd_same, .inl (.inl R6.at_), R6.rows, fun r hr3 => ⟨(R6.bd r hr3).1, R6.nf.ok r hr3, (R6.bd r hr3).2⟩, R6.ne, R6.len, by omega, by omega, by omega, by omega, by omega, by omega, by omega, by omega, fun ht G7 h1 h2 P7 F7 => ⟨ht, h1, h2, rfl, P7.mono (by omega), F6.trans F7⟩⟩
          rintro σ G7 ⟨ht, ht1, ht2, rfl, P7, F7⟩
          refine ⟨_, rfl, _, rfl, _, rfl, _, rfl, _, rfl, _, rfl, _, rfl, ite2 (fun _ => ?_) (fun _ => ?_)⟩
          · refine ⟨_, rfl, p, 9, _, rfl, by decide, by decide, P7, by omega, fun z G8 z0 z1 P8 F8 => ⟨_, _, rfl, rfl, by show 7 ≤ sizeLine; decide, fun t nt => ?_⟩⟩
            exact fin 5 [.str sg, .str g2, .int sl, .int (z - 4)] G8 (by decide) ⟨sg, g2, _, _, rfl, hsg, wg2, hg2n, num_of_lt (by omega) (by omega), num_of_lt (by omega) (by omega)⟩ (fun v hv => by
              rcases List.mem_cons.mp hv with e | e
              · rw [e]; exact self
              · rw [List.mem_singleton.mp e]; exact ⟨g2, hg2f, rfl⟩) (P8.mono (by omega)) (F7.trans F8) t nt
          · refine ⟨_, rfl, by show 7 ≤ sizeLine; decide, fun t nt => ?_⟩
            exact fin 5 [.str sg, .str g2, .int sl, .int ht] G7 (by decide) ⟨sg, g2, _, _, rfl, hsg, wg2, hg2n, num_of_lt (by omega) (by omega), num_of_lt ht1 ht2⟩ (fun v hv => by
              rcases List.mem_cons.mp hv with e | e
              · rw [e]; exact self
              · rw [List.mem_singleton.mp e]; exact ⟨g2, hg2f, rfl⟩) (P7.mono (by omega)) F7 t nt
        rintro σ G2 ⟨rfl, s3⟩
        have F3 := frmS (p := p) s3
        have P3 := hP.same' s3
        have hot3 := s3 _ _ hot
        refine ⟨fun σ G => ∃ sl : Int, -(4 * 10 ^ 9) ≤ sl ∧ sl ≤ 4 * 10 ^ 9 ∧ σ = [some (.ref p), some (.ref wp), some (.str kd), some (.str g), some (.ref ra), some (.str sg), some (.ref ot), some (.bl fr), none, some (.ref D), none, some (.int sl), none, none] ∧ Pen G p (k + 2) ∧ Frm p H G, ?_, ?_⟩
        · refine ⟨_, rfl, rfl, _, rfl, ite2 (fun _ => ?_) (fun _ => ?_)⟩
          · exact ⟨_, rfl, ot, _, 0, .int a, rfl, rfl, .inl (.inl hot3), atI_nat (j := 0) rfl, a, by omega, by omega, rfl, P3.mono (by omega), F3⟩
          · exact ⟨_, rfl, _, rfl, p, wp, n, fs, _, rfl, hW0.frm F3 hP, P3, by omega, fun sl G5 h1 h2 P5 F5 => ⟨sl, by omega, by omega, rfl, P5.mono (by omega), F3.trans F5⟩⟩
        rintro σ G5 ⟨sl, sl1, sl2, rfl, P5, F5⟩
        have hot5 := F5 _ _ hot (by obtain ⟨kvs, hpd⟩ := hP.dict; exact ne_of hot hpd (by intro z; cases z))
        refine ⟨_, rfl, ot, _, 1, .int b, rfl, rfl, .inl (.inl hot5), atI_nat (j := 1) rfl, ?_⟩
        refine ⟨fun σ G => ∃ ht : Int, -(10 ^ 42) < ht ∧ ht < 10 ^ 42 ∧ σ = [some (.ref p), some (.ref wp), some (.str kd), some (.str g), some (.ref ra), some (.str sg), some (.ref ot), some (.bl fr), some (.int ht), some (.ref D), none, some (.int sl), none, none] ∧ Pen G p (k + 4) ∧ Frm p H G, ?_, ?_⟩
        · refine ⟨_, rfl, rfl, _, rfl, ite2 (fun _ => ?_) (fun _ => ⟨b, by omega, by omega, rfl, P5.mono (by omega), F5⟩)⟩
          refine ⟨_, rfl, _, rfl, _, rfl, _, rfl, two, fun tl nt => ?_⟩
          have st := same_lay (o := .tup [.int sl, .int 0]) nt
          have F6 := F5.trans (frmS (p := p) st)
          have P6 := P5.same' st
          have R6 := hR.frm F6 hP
          refine ⟨_, rfl, _, rfl, p, wp, ot, tl, ra, n, a, b, sl, 0, fs, _, M, sg, rfl, hW0.frm F6 hP, P6, by omega, st _ _ hot5, upd_same, .inl (.inl R6.at_), R6.rows, fun r hr3 => ⟨(R6.bd r hr3).1, R6.nf.ok r hr3, (R6.bd r hr3).2⟩, R6.ne, R6.len, by omega, by omega, by omega, by omega, by omega, by omega, by omega, by omega, fun ht G7 h1 h2 P7 F7 => ⟨ht, h1, h2, rfl, P7.mono (by omega), F6.trans F7⟩⟩
        rintro σ G7 ⟨ht, ht1, ht2, rfl, P7, F7⟩
        refine ⟨_, rfl, _, rfl, _, rfl, _, rfl, _, rfl, _, rfl, ite2 (fun _ => ?_) (fun _ => ?_)⟩
        · refine ⟨_, rfl, p, 9, _, rfl, by decide, by decide, P7, by omega, fun z G8 z0 z1 P8 F8 => ⟨_, _, rfl, rfl, by show 6 ≤ sizeLine; decide, fun t nt => ?_⟩⟩
          exact fin 4 [.str sg, .int sl, .int (z - 4)] G8 (by decide) ⟨sg, _, _, rfl, hsg, num_of_lt (by omega) (by omega), num_of_lt (by omega) (by omega)⟩ (fun v hv => by rw [List.mem_singleton.mp hv]; exact self) (P8.mono (by omega)) (F7.trans F8) t nt
        · refine ⟨_, rfl, by show 6 ≤ sizeLine; decide, fun t nt => ?_⟩
          exact fin 4 [.str sg, .int sl, .int ht] G7 (by decide) ⟨sg, _, _, rfl, hsg, num_of_lt (by omega) (by omega), num_of_lt ht1 ht2⟩ (fun v hv => by rw [List.mem_singleton.mp hv]; exact self) (P7.mono (by omega)) F7 t nt
end
end OR

namespace OR
open PySem PySem.Spec PyProof.Rows L2
open TL (tl numL)
def spClOf : Sp := fun vs H Q _ => ∃ (p wp : Addr) (n : Int) (fs : List Str) (k : Nat), vs = [.ref p, .ref wp] ∧ Wld p H wp n fs ∧ Pen H p k ∧ k ≤ 700000 ∧
  ∀ t m H', H t = none → SpT H' t m → GoodM fs n m → Pen H' p (k + 100) → Frm p H H' → Q (.ref t) H'
abbrev coN : List Str := ["_law_pen", "_law_world", "_law_kind", "_law_f", "_law_rows", "_law_others", "_law_sign", "_law_other"]
section
variable {P : Program} {w : World} {K : PySem.W.Frag} {mg : Str → Option Value} {base : Heap}
theorem scCO : FnScope ["_law_pen", "_law_world", "_law_kind", "_law_f", "_law_rows", "_law_others", "_law_sign", "_law_other"] ["_law_pen", "_law_world"] (defScope sClauseOf) := ⟨rfl, rfl, rfl, by decide +kernel, rfl, by decide +kernel, by decide +kernel⟩
theorem ok_clof {f : Addr} {fd : FuncData} (F : Fun K "_law_clause_of" "_law_clause_of" sClauseOf f fd) (PI : Cl P w K mg base 2 "_law_pick" ["_law_pen", "_law_options"] (spPick K)) (ST : Cl P w K mg base 4 "_law_stretches" ["_law_pen", "_law_world", "_law_most"] spStr) (NC : Cl P w K mg base 4 "_law_number_clause" ["_law_pen", "_law_world", "_law_kind", "_law_f", "_law_rows", "_law_sign"] spNumCl) : FnOk P w K mg base CX0 5 f fd ["_law_pen", "_law_world"] spClOf := by
  refine F.ok scCO (fun vs H Q E h => ?_) (fun cdv A outer s H vs Q E hr h => ?_)
  · obtain ⟨_, _, _, _, _, rfl, _⟩ := h
    rfl
  · obtain ⟨p, wp, n, fs, k, rfl, hW, hP, hk, q⟩ := h
    have nd := scCO.nd
    have hu := hu_of hr
    have hu64 : (A.deeper (envOfC "_law_clause_of" (defScope sClauseOf) s.heap.objs.size f cdv)).units + 64 < cLine := hr.units
    refine ⟨_, pss_cons (ps_set (i := 2) nd rfl (.inl rfl) (pe_cl PI hr (by decide) (by rfl) (pa_cons (pv 0) (pa_cons (pe_lst (pa_cons pe_str (pa_cons pe_str (pa_cons pe_str (pa_cons pe_str (pa_cons pe_str (pa_cons pe_str (pa_cons pe_str (pa_cons pe_str (pa_cons pe_str (pa_cons pe_str (pa_cons pe_str (pa_cons pe_str pa_nil))))))))))))) pa_nil))))
      (pss_cons (ps_asg (pe_tup (pa_cons (pe_cl PI hr (by decide) (by rfl) (pa_cons (pv 0) (pa_cons (pe_dget hu (pv 1) pe_str (fun _ _ => rfl)) pa_nil))) (pa_cons (pe_cl ST hr (by decide) (by rfl) (pa_cons (pv 0) (pa_cons (pv 1) (pa_cons pe_int pa_nil)))) pa_nil))) (pg_tup rfl (pgs_cons (pg_name (i := 3) nd rfl (.inr rfl)) (pgs_cons (pg_name (i := 4) nd rfl (.inl rfl)) pgs_nil))))
      (pss_cons (ps_setLc (i := 5) (own := [("_law_other", 7)]) (g := (gName 7)) rfl nd rfl rfl (sw_true rfl rfl rfl (by decide +kernel)) (pi_list (pe_dget hu (pv 1) pe_str (fun _ _ => rfl))) (blkOk_by (N := coN) (sc := defScope sClauseOf) (by decide +kernel)) (fun _ _ _ _ _ => pg_name (i := 7) nd rfl (.inl rfl)) (fun _ _ _ _ _ => pts_one (pt_cmpR op_ne (pv 7) (pv 3) (nomark _))) (fun _ _ _ _ _ => (pv 7)))
      (Evl.pss_cut (ps_if (PW.pt (pw_and (pt_cmpR op_eq (pv 2) pe_str (nomark _)) (pw_and1 (PW.pt (pw_or (pt_val (pe_dget hu (pv 1) pe_str (fun _ _ => rfl))) (pw_or1 (pt_cmpR op_ne (pe_dget hu (pv 1) pe_str (fun _ _ => rfl)) (pv 3) (nomark _))))))))
          (pss_one (ps_ret (pe_tup (pa_cons pe_str (pa_cons (pv 3) (pa_cons (pv 4) pa_nil))))))
          pss_nil)
      (Evl.pss_cut (ps_if (PW.pt (pw_and (pt_cmpR op_eq (pv 2) pe_str (nomark _)) (pw_and1 (PW.pt (pw_or (pt_val (pe_dget hu (pv 1) pe_str (fun _ _ => rfl))) (pw_or1 (pt_cmpR op_eq (pe_dget hu (pv 1) pe_str (fun _ _ => rfl)) (pv 3) (nomark _))))))))
          (pss_one (ps_ret (pe_tup (pa_cons pe_str (pa_cons (pv 3) (pa_cons (pv 4) pa_nil))))))
          pss_nil)
      (Evl.pss_cut (ps_if (PW.pt (pw_and (pt_cmpR op_eq (pv 2) pe_str (nomark _)) (pw_and (pt_cmpR (op_neD hu64) (pv 5) (pe_lst pa_nil) (nomark _)) (pw_and1 (PW.pt (pw_or (pt_val (pe_dget hu (pv 1) pe_str (fun _ _ => rfl))) (pw_or1 (pt_cmpR op_ne (pe_dget hu (pv 1) pe_str (fun _ _ => rfl)) (pv 3) (nomark _)))))))))
          (pss_one (ps_ret (pe_tup (pa_cons pe_str (pa_cons (pv 3) (pa_cons (pv 4) (pa_cons (pe_cl PI hr (by decide) (by rfl) (pa_cons (pv 0) (pa_cons (pv 5) pa_nil))) pa_nil)))))))
          pss_nil)
      (Evl.pss_cut (ps_if (pt_cmpR op_eq (pv 2) pe_str (nomark _))
          (pss_one (ps_ret (pe_tup (pa_cons pe_str (pa_cons (pv 3) (pa_cons (pv 4) (pa_cons (pe_cl PI hr (by decide) (by rfl) (pa_cons (pv 0) (pa_cons (pe_lst (pa_cons pe_str (pa_cons pe_str pa_nil))) pa_nil))) pa_nil)))))))
          pss_nil)
      (pss_cons (ps_set (i := 6) nd rfl (.inl rfl) (pe_cl PI hr (by decide) (by rfl) (pa_cons (pv 0) (pa_cons (pe_lst (pa_cons pe_str (pa_cons pe_str (pa_cons pe_str (pa_cons pe_str (pa_cons pe_str pa_nil)))))) pa_nil))))
      (pss_one (ps_ret (pe_cl NC hr (by decide) (by rfl) (pa_cons (pv 0) (pa_cons (pv 1) (pa_cons (pe_ifExp (pt_cmpR (op_in_seqK K rfl) (pv 2) (pe_tup (pa_cons pe_str (pa_cons pe_str (pa_cons pe_str pa_nil)))) (by rfl)) (pv 2) pe_str) (pa_cons (pv 3) (pa_cons (pv 4) (pa_cons (pv 6) pa_nil)))))))))))))))), ?_⟩
    refine ⟨_, rfl, (by show 12 ≤ sizeLine; decide), fun l nl => ?_⟩
    refine ⟨p, l, (["answers", "answers", "spreads", "needs", "bound", "bound", "bound", "pair", "step", "step", "pair", "refuses"] : List Str).map V.str, k, rfl, .inl (.inl upd_same), Nat.succ_pos _, by show 12 ≤ 1000; decide, hP.new nl, by omega, fun v H1 hv P1 F1 => ?_⟩
    obtain ⟨kd, _, rfl⟩ := List.mem_map.mp hv
    have G1 := (Frm.new (p := p) (o := .lst ((["answers", "answers", "spreads", "needs", "bound", "bound", "bound", "pair", "step", "step", "pair", "refuses"] : List Str).map V.str)) nl).trans F1
    clear hv F1
    obtain ⟨wf, an, ln, mute, great, free, td, ans, lts, W⟩ := hW
    have hW0 : Wld p H wp n fs := ⟨wf, an, ln, mute, great, free, td, ans, lts, W⟩
    have W1 := W.frm G1 hP
    have f0 := W.f0
    have f2 := W.f2
    refine ⟨_, rfl, _, rfl, wp, _, rfl, W1.at_ (j := 1) rfl rfl, p, wf, fs.map V.str, _, rfl, .inl (.inl W1.f), by rw [List.length_map]; omega, by rw [List.length_map]; omega, P1, by omega, fun v H2 hv P2 F2 => ?_⟩
    obtain ⟨g, hg, rfl⟩ := List.mem_map.mp hv
    have G2 := G1.trans F2
    refine ⟨_, rfl, _, rfl, p, wp, n, fs, _, 2, rfl, hW0.frm G2 hP, by decide, by decide, P2, by omega, fun ra M H30 _ hra hM hN hb hM0 hM6 P30 F30 => ⟨by show 2 ≤ sizeLine; decide, fun t0 nt0 => ⟨t0, _, rfl, .inl (.inl upd_same), rfl, _, _, rfl, _, _, rfl, rfl, ?_⟩⟩⟩
    have st0 := same_lay (o := .tup [.str g, .ref ra]) nt0
    have P3 := P30.same' st0
    have G3 := (G2.trans F30).trans (frmS st0)
    have hR : RowsAt (upd H30 t0 (.tup [.str g, .ref ra])) ra n M := (⟨hra, hM, hN, hb, hM0, hM6⟩ : RowsAt H30 ra n M).same st0
    generalize upd H30 t0 (.tup [.str g, .ref ra]) = H3 at P3 G3 hR
    have W3 := W.frm G3 hP
    have hsc : scal mute (.str g) = true := by
      rcases W.mu with e | ⟨mt, e⟩ <;> subst e <;> rfl
    have wg := W.fw.word (Nat.le_trans W.f2 (by decide)) g hg
    have self : ∃ h ∈ fs, V.str g = .str h := ⟨g, hg, rfl⟩
    have fin : ∀ (i : Nat) (x : List V) (G : Hp), i < 7 → WF i g x → (∀ v ∈ told i g x, ∃ h ∈ fs, v = .str h) → Pen G p (k + 100) → Frm p H3 G → ∀ t, G t = none → Q (.ref t) (upd G t (.tup (.str (kName i) :: .str g :: .ref ra :: x))) := fun i x G hi hx ht PG FG t nt => by
      have st := same_lay (o := .tup (.str (kName i) :: .str g :: .ref ra :: x)) nt
      have R := (hR.frm FG P3).same st
      have GH := G3.trans FG
      exact q t (i, g, rws M, x) _ (GH.free PG nt) ⟨ra, M, upd_same, R.at_, R.rows, rfl⟩ ⟨hi, hg, hx, ht, R.nf, R.bd, fun e => R.ne (List.map_eq_nil_iff.mp e), by rw [rws_len]; exact R.len⟩ (PG.same' st) (GH.trans (frmS st))
    refine ⟨_, rfl, wp, _, rfl, W3.at_ (j := 1) rfl rfl, wf, rfl, ⟨_, .inl (.inl W3.f)⟩, fun D hD => lc_list (K := K) (a := wf) (xs := fs.map V.str) (fun i G => G D = some (.lst (((fs.take i).filter fun y => decide (y ≠ g)).map V.str)) ∧ Same H3 G)
      ⟨upd_same, same_lay hD⟩ (fun i G _ ⟨_, s⟩ => .inl (.inl (s _ _ W3.f))) ?_ ?_⟩
    · rintro i v G hv ⟨hD2, s2⟩
      rw [List.getElem?_map] at hv
      obtain ⟨x, hx, rfl⟩ := Option.map_eq_some_iff.mp hv
      have e1 : (fs.take (i + 1)).filter (fun y => decide (y ≠ g)) = (fs.take i).filter (fun y => decide (y ≠ g)) ++ (if x ≠ g then [x] else []) := by
        rw [List.take_add_one, hx, List.filter_append]
        congr 1
        by_cases e : x = g <;> simp [e]
      refine ⟨rfl, ?_⟩
      refine ⟨_, rfl, _, rfl, rfl, _, rfl, ite2 (fun c => ?_) (fun c => ?_)⟩
      · have hc : x ≠ g := fun e => by subst e; simp at c
        have lf := List.length_filter_le (fun y => decide (y ≠ g)) (fs.take i)
        rw [List.length_take] at lf
        refine ⟨_, rfl, _, hD2, small1000 (by rw [List.length_map]; omega), ?_, same_upd s2 hD⟩
        rw [upd_same, e1, if_pos hc, List.map_append]
        rfl
      · have hc : ¬ x ≠ g := fun e => c (by simp [e])
        refine ⟨?_, s2⟩
        rw [e1, if_neg hc, List.append_nil]
        exact hD2
    · rintro Gb ⟨hDb, sb⟩
      rw [List.length_map, List.take_of_length_le (Nat.le_refl _)] at hDb
      generalize hoth : fs.filter (fun y => decide (y ≠ g)) = oth at hDb
      have hof : ∀ x ∈ oth, x ∈ fs ∧ x ≠ g := fun x hx => filt_words (by rw [hoth]; exact hx)
      have hol : oth.length ≤ 2 := by
        rw [← hoth]
        exact Nat.le_trans (List.length_filter_le _ _) W.f2
      have Fb := frmS (p := p) sb
      have Pb := P3.same' sb
      have Wb := W3.same sb
      let S : L2.St := [some (.ref p), some (.ref wp), some (.str kd), some (.str g), some (.ref ra), some (.ref D), none, none]
      -- answers
      refine ⟨fun σ G => σ = S ∧ Same Gb G, ?_, ?_⟩
      · have s := Same.refl Gb
        exact ⟨_, rfl, rfl, _, rfl, ite2 (fun _ => ⟨_, rfl, wp, _, rfl, (Wb.same s).at_ (j := 6) rfl rfl, _, rfl, ite2 (fun _ => iteT (⟨_, rfl, _, rfl, by show 3 ≤ sizeLine; decide, fun t nt => fin 0 [] _ (by decide) rfl (fun v hv => by rw [List.mem_singleton.mp hv]; exact self) ((Pb.same' s).mono (by omega)) (Fb.trans (frmS s)) t nt⟩)) (fun _ => ⟨_, rfl, wp, _, rfl, (Wb.same s).at_ (j := 4) rfl rfl, _, rfl, hsc, _, rfl, ite2 (fun _ => ⟨_, rfl, _, rfl, by show 3 ≤ sizeLine; decide, fun t nt => fin 0 [] _ (by decide) rfl (fun v hv => by rw [List.mem_singleton.mp hv]; exact self) ((Pb.same' s).mono (by omega)) (Fb.trans (frmS s)) t nt⟩) (fun _ => ⟨rfl, s⟩)⟩)⟩) (fun _ => iteF ⟨rfl, s⟩)⟩
      rintro σ G ⟨rfl, s⟩
      -- refuses
      refine ⟨fun σ G => σ = S ∧ Same Gb G, ?_, ?_⟩
      · exact ⟨_, rfl, rfl, _, rfl, ite2 (fun _ => ⟨_, rfl, wp, _, rfl, (Wb.same s).at_ (j := 6) rfl rfl, _, rfl, ite2 (fun _ => iteT (⟨_, rfl, _, rfl, by show 3 ≤ sizeLine; decide, fun t nt => fin 1 [] _ (by decide) rfl (fun v hv => by rw [List.mem_singleton.mp hv]; exact self) ((Pb.same' s).mono (by omega)) (Fb.trans (frmS s)) t nt⟩)) (fun _ => ⟨_, rfl, wp, _, rfl, (Wb.same s).at_ (j := 4) rfl rfl, _, rfl, hsc, _, rfl, ite2 (fun _ => ⟨_, rfl, _, rfl, by show 3 ≤ sizeLine; decide, fun t nt => fin 1 [] _ (by decide) rfl (fun v hv => by rw [List.mem_singleton.mp hv]; exact self) ((Pb.same' s).mono (by omega)) (Fb.trans (frmS s)) t nt⟩) (fun _ => ⟨rfl, s⟩)⟩)⟩) (fun _ => iteF ⟨rfl, s⟩)⟩
      clear s
      rintro σ G ⟨rfl, s⟩
      -- needs
      refine ⟨fun σ G => σ = S ∧ Same Gb G, ?_, ?_⟩
      · refine ⟨_, rfl, rfl, _, rfl, ite2 (fun _ => ?_) (fun _ => iteF ⟨rfl, s⟩)⟩
        refine ⟨_, rfl, Nat.zero_le _, fun e ne => ?_⟩
        have s := s.trans (same_lay (o := .lst []) ne)
        have hD3 := s _ _ hDb
        refine ⟨.list (oth.map PyData.str), .list [], .lst (.inl (.inl hD3)) (dp_strs oth), .lst (.inl (.inl upd_same)) .nil, shpL_strs (fun x hx => (W.fw.word (Nat.le_trans W.f2 (by decide)) x (hof x hx).1).small), rfl, _, rfl, ite2 (fun c => ?_) (fun _ => iteF ⟨rfl, s⟩)⟩
        have ho0 : 0 < oth.length := by
          cases oth with
          | nil => exact absurd c (by decide)
          | cons _ _ => exact Nat.succ_pos _
        have Pn := Pb.same' s
        have thN : ∀ Q2 : VK, (∀ g2 G4, g2 ∈ oth → Pen G4 p (k + 1 + 1 + 40 + 1) → Frm p Gb G4 → Q2 (.str g2) G4) → spPick K [.ref p, .ref D] (upd G e (.lst [])) Q2 E0 := fun Q2 hq =>
          ⟨p, D, oth.map V.str, _, rfl, .inl (.inl hD3), by rw [List.length_map]; exact ho0, by rw [List.length_map]; omega, Pn, by omega, fun v G4 hv P4 F4 => by
            obtain ⟨g2, hg2, rfl⟩ := List.mem_map.mp hv
            exact hq g2 G4 hg2 P4 ((frmS s).trans F4)⟩
        have goN : ∀ g2 G4, g2 ∈ oth → Pen G4 p (k + 1 + 1 + 40 + 1) → Frm p Gb G4 → 4 ≤ sizeLine ∧ ∀ t, G4 t = none → Q (.ref t) (upd G4 t (.tup [.str "needs", .str g, .ref ra, .str g2])) := fun g2 G4 hg2 P4 F4 => by
          obtain ⟨h1, h2⟩ := hof g2 hg2
          refine ⟨by decide, fun t nt => fin 2 [.str g2] G4 (by decide) ⟨g2, rfl, W.fw.word (Nat.le_trans W.f2 (by decide)) g2 h1, h2⟩ (fun v hv => ?_) (P4.mono (by omega)) (Fb.trans F4) t nt⟩
          rcases List.mem_cons.mp hv with e | e
          · rw [e]; exact self
          · rw [List.mem_singleton.mp e]; exact ⟨g2, h1, rfl⟩
        exact ⟨_, rfl, wp, _, rfl, (Wb.same s).at_ (j := 6) rfl rfl, _, rfl, ite2 (fun _ => iteT (⟨_, rfl, _, rfl, _, rfl, _, rfl, thN _ goN⟩)) (fun _ => ⟨_, rfl, wp, _, rfl, (Wb.same s).at_ (j := 4) rfl rfl, _, rfl, hsc, _, rfl, ite2 (fun _ => ⟨_, rfl, _, rfl, _, rfl, _, rfl, thN _ goN⟩) (fun _ => ⟨rfl, s⟩)⟩)⟩
      clear s
      rintro σ G ⟨rfl, s⟩
      -- spreads
      refine ⟨fun σ G => σ = S ∧ Same Gb G, ?_, ?_⟩
      · refine ⟨_, rfl, rfl, _, rfl, ite2 (fun _ => ?_) (fun _ => ⟨rfl, s⟩)⟩
        refine ⟨_, rfl, _, rfl, _, rfl, by show 2 ≤ sizeLine; decide, fun e ne => ?_⟩
        have Pn := Pb.same' s
        refine ⟨p, e, (["up", "down"] : List Str).map V.str, _, rfl, .inl (.inl upd_same), Nat.succ_pos _, by show 2 ≤ 1000; decide, Pn.new ne, by omega, fun v G4 hv P4 F4 => ⟨by show 4 ≤ sizeLine; decide, fun t nt => ?_⟩⟩
        obtain ⟨wy, hwy, rfl⟩ := List.mem_map.mp hv
        have isw : isWay wy := by simpa [isWay] using hwy
        exact fin 3 [.str wy] G4 (by decide) ⟨wy, rfl, isw⟩ (fun v hv => by rw [List.mem_singleton.mp hv]; exact self) (P4.mono (by omega)) (Fb.trans ((frmS s).trans ((Frm.new ne).trans F4))) t nt
      clear s
      rintro σ G ⟨rfl, s⟩
      have Pn := Pb.same' s
      refine ⟨_, rfl, by show 5 ≤ sizeLine; decide, fun e ne => ?_⟩
      refine ⟨p, e, (["<=", "<=", ">=", ">=", "="] : List Str).map V.str, _, rfl, .inl (.inl upd_same), Nat.succ_pos _, by show 5 ≤ 1000; decide, Pn.new ne, by omega, fun v G4 hv P4 F4 => ?_⟩
      obtain ⟨sg, hsg, rfl⟩ := List.mem_map.mp hv
      have iss : isSign sg := by
        simp only [List.mem_cons, List.not_mem_nil, or_false] at hsg
        unfold isSign
        rcases hsg with e | e | e | e | e <;> simp [e]
      have FG4 := Fb.trans ((frmS s).trans ((Frm.new (o := .lst ((["<=", "<=", ">=", ">=", "="] : List Str).map V.str)) ne).trans F4))
      have last : ∀ (kd2 : Str) (G5 : Hp), Same G4 G5 → spNumCl [.ref p, .ref wp, .str kd2, .str g, .ref ra, .str sg] G5 Q E0 := fun kd2 G5 s5 => by
        have F5 := FG4.trans (frmS s5)
        have F50 := G3.trans F5
        have P5 := P4.same' s5
        refine ⟨p, wp, ra, n, fs, _, kd2, g, M, sg, rfl, hW0.frm F50 hP, hg, iss, hR.frm F5 P3, P5, by omega, fun t m G6 nt hS hG P6 F6 => ?_⟩
        exact q t m G6 (F50.free P5 nt) hS hG (P6.mono (by omega)) (F50.trans F6)
      refine ⟨_, rfl, _, rfl, _, rfl, by show 3 ≤ sizeLine; decide, fun e3 ne3 => ⟨e3, _, rfl, .inr (.inl (.inl upd_same)), rfl, rfl, _, rfl, ite2 (fun _ => ?_) (fun _ => ?_)⟩⟩
      · exact ⟨_, rfl, _, rfl, _, rfl, _, rfl, last kd _ (same_lay ne3)⟩
      · exact ⟨_, rfl, _, rfl, _, rfl, last "bound" _ (same_lay ne3)⟩
end
end OR

namespace OR
open PySem PySem.Spec PyProof.Rows L2
open TL (tl numL)
/-! ### the world -/
theorem Pen.ne_new {H0 : Hp} {p o : Addr} {m : Nat} (P0 : Pen H0 p m) (no : H0 o = none) : o ≠ p := fun e => by
  obtain ⟨kvs, h⟩ := P0.dict
  rw [e, h] at no
  cases no
theorem Pen.putAny {H0 G : Hp} {p o : Addr} {n m : Nat} {u : HO} (P0 : Pen H0 p m) (P : Pen G p n) (f : Frm p H0 G) (no : H0 o = none) : Pen (upd G o u) p n := by
  obtain ⟨c0, hc0, hcn⟩ := P0.cells
  obtain ⟨c, ns, k, l, h1, h2, h3⟩ := P
  obtain rfl := (f.ce c0 hc0).inj h1
  exact ⟨c0, ns, k, l, by rw [upd_ne (P0.ne_new no).symm]; exact h1, by rw [upd_ne (fun e => hcn (by rw [e]; exact no))]; exact h2, h3⟩
theorem Frm.putAny {H0 G : Hp} {p o : Addr} {m : Nat} {u : HO} (f : Frm p H0 G) (P0 : Pen H0 p m) (no : H0 o = none) : Frm p H0 (upd G o u) := ⟨fun b x e nb => by rw [upd_ne (ne_of_none e no)]; exact f _ _ e nb, fun c hc => by
  obtain ⟨k, l, e⟩ := f.ce c hc
  exact ⟨k, l, by rw [upd_ne (P0.ne_new no).symm]; exact e⟩⟩
def SRep (fs : List Str) (n : Int) : Rep CM := fun H x m => ∃ t, x = .ref t ∧ SpT H t m ∧ GoodM fs n m
theorem SRep.same {fs : List Str} {n : Int} {H H' : Hp} {x : V} {m : CM} (h : SRep fs n H x m) (s : Same H H') : SRep fs n H' x m := by
  obtain ⟨t, e, h1, h2⟩ := h
  exact ⟨t, e, h1.same s, h2⟩
theorem SRep.frm {fs : List Str} {n : Int} {H H' : Hp} {x : V} {m : CM} {p : Addr} {k : Nat} (h : SRep fs n H x m) (F : Frm p H H') (P : Pen H p k) : SRep fs n H' x m := by
  obtain ⟨t, e, h1, h2⟩ := h
  exact ⟨t, e, h1.frm F P, h2⟩
/-- the list of the told ones grows -/
theorem SpT.put {H : Hp} {t td : Addr} {m : CM} {xs : List V} {o : HO} (h : SpT H t m) (h0 : m.2.2.1 ≠ []) (hd : H td = some (.lst xs)) (hx : ∀ x ∈ xs, ∃ t' s r, x = .ref t' ∧ H t' = some (.tup (.str s :: r))) : SpT (upd H td o) t m := by
  obtain ⟨ra, M, h1, h2, h3, h4⟩ := h
  have n1 : t ≠ td := ne_of h1 hd (by intro z; cases z)
  have n2 : ra ≠ td := fun e => by
    subst e
    rw [h2] at hd
    injection hd with hd
    injection hd with hd
    cases M with
    | nil => exact h0 h4.symm
    | cons q M =>
      obtain ⟨t', s, r, e1, e2⟩ := hx (.ref q.1) (by rw [← hd]; exact List.mem_cons_self)
      injection e1 with e1
      rw [← e1, h3 q List.mem_cons_self] at e2
      injection e2 with e2
      injection e2 with e2
      injection e2 with e2
      cases e2
  exact ⟨ra, M, by rw [upd_ne n1]; exact h1, by rw [upd_ne n2]; exact h2, fun q hq => by rw [upd_ne (ne_of (h3 q hq) hd (by intro z; cases z))]; exact h3 q hq, h4⟩
theorem told_put {fs : List Str} {n : Int} {H : Hp} {td : Addr} {xs : List V} {ms : List CM} {o : HO} (h : All2 (SRep fs n H) xs ms) (hd : H td = some (.lst xs)) : All2 (SRep fs n (upd H td o)) xs ms := by
  have hx : ∀ x ∈ xs, ∃ t' s r, x = .ref t' ∧ H t' = some (.tup (.str s :: r)) := fun x hx => by
    obtain ⟨m, _, t, e, ⟨ra, M, h1, _⟩, _⟩ := h.mem hx
    exact ⟨t, _, _, e, h1⟩
  exact h.imp fun a b ⟨t, e, h1, h2⟩ => ⟨t, e, h1.put h2.ne hd hx, h2⟩
theorem one_put {fs : List Str} {n : Int} {H : Hp} {td : Addr} {xs : List V} {ms : List CM} {o : HO} {x : V} {m : CM} (h : All2 (SRep fs n H) xs ms) (hd : H td = some (.lst xs)) (hm : SRep fs n H x m) : SRep fs n (upd H td o) x m := by
  have hx : ∀ x ∈ xs, ∃ t' s r, x = .ref t' ∧ H t' = some (.tup (.str s :: r)) := fun x hx => by
    obtain ⟨m, _, t, e, ⟨ra, M, h1, _⟩, _⟩ := h.mem hx
    exact ⟨t, _, _, e, h1⟩
  obtain ⟨t, e, h1, h2⟩ := hm
  exact ⟨t, e, h1.put h2.ne hd hx, h2⟩
theorem WldX.put {p : Addr} {H : Hp} {wp : Addr} {n : Int} {fs : List Str} {wf an ln : Addr} {mute : V} {great free : Bool} {td : Addr} {ans : List Int} {lts : List Addr} {xs : List V} {o : HO} (h : WldX p H wp n fs wf an ln mute great free td ans lts) (hd : H td = some (.lst xs)) (n1 : wf ≠ td) (n2 : an ≠ td) : WldX p (upd H td o) wp n fs wf an ln mute great free td ans lts :=
  { h with
    d := by rw [upd_ne (ne_of h.d hd (by intro z; cases z))]; exact h.d
    f := by rw [upd_ne n1]; exact h.f
    a := by rw [upd_ne n2]; exact h.a
    l := by rw [upd_ne (ne_of h.l hd (by intro z; cases z))]; exact h.l
    lt := fun t ht => by
      obtain ⟨a, b, e, r⟩ := h.lt t ht
      exact ⟨a, b, by rw [upd_ne (ne_of e hd (by intro z; cases z))]; exact e, r⟩ }
/-- a world with its told clauses -/
def WldT (p : Addr) (H : Hp) (wp : Addr) (n : Int) (fs : List Str) (ms : List CM) : Prop := ∃ wf an ln mute great free td ans lts xs, WldX p H wp n fs wf an ln mute great free td ans lts ∧ H td = some (.lst xs) ∧ All2 (SRep fs n H) xs ms ∧ wf ≠ td ∧ an ≠ td
theorem WldT.wld {p : Addr} {H : Hp} {wp : Addr} {n : Int} {fs : List Str} {ms : List CM} (h : WldT p H wp n fs ms) : Wld p H wp n fs := by
  obtain ⟨a1, a2, a3, a4, a5, a6, a7, a8, a9, _, h, _⟩ := h
  exact ⟨a1, a2, a3, a4, a5, a6, a7, a8, a9, h⟩
theorem WldT.frm {p : Addr} {H H' : Hp} {wp : Addr} {n : Int} {fs : List Str} {ms : List CM} {k : Nat} (h : WldT p H wp n fs ms) (F : Frm p H H') (P : Pen H p k) : WldT p H' wp n fs ms := by
  obtain ⟨a1, a2, a3, a4, a5, a6, a7, a8, a9, xs, h1, h2, h3, h4⟩ := h
  exact ⟨a1, a2, a3, a4, a5, a6, a7, a8, a9, xs, h1.frm F P, F.lst P h2, h3.imp fun _ _ e => e.frm F P, h4⟩
theorem WldX.push {p : Addr} {G : Hp} {wp : Addr} {n : Int} {fs : List Str} {wf an ln : Addr} {mute : V} {great free : Bool} {td : Addr} {ans : List Int} {lts : List Addr} {xs : List V} {ms : List CM} {x : V} {m : CM} (h : WldX p G wp n fs wf an ln mute great free td ans lts) (hd : G td = some (.lst xs)) (hA : All2 (SRep fs n G) xs ms) (n1 : wf ≠ td) (n2 : an ≠ td) (hm : SRep fs n G x m) :
    WldX p (upd G td (.lst (xs ++ [x]))) wp n fs wf an ln mute great free td ans lts ∧ (upd G td (.lst (xs ++ [x]))) td = some (.lst (xs ++ [x])) ∧ All2 (SRep fs n (upd G td (.lst (xs ++ [x])))) (xs ++ [x]) (ms ++ [m]) :=
  ⟨h.put hd n1 n2, upd_same, (told_put hA hd).append (.cons (one_put hA hd hm) .nil)⟩
def spWorldOf : Sp := fun vs H Q _ => ∃ (p : Addr) (small : Bool) (m k : Nat), vs = [.ref p, .bl small, .int (m : Nat)] ∧ 2 ≤ m ∧ m ≤ 100 ∧ Pen H p k ∧ k ≤ 100000 ∧
  ∀ wp n fs ms H', H wp = none → WldT p H' wp n fs ms → 0 < ms.length → ms.length ≤ m + 1 → Pen H' p (k + 300 + 100 * m) → Frm p H H' → Q (.ref wp) H'
section
variable {P : Program} {w : World} {K : PySem.W.Frag} {mg : Str → Option Value} {base : Heap}
theorem scWW : FnScope ["_law_pen", "_law_small", "_law_most", "_law_last", "_law_words", "_law_anchors", "_law_k", "_law_lines", "_law_word", "_law_mute", "_law_world"] ["_law_pen", "_law_small", "_law_most"] (defScope sWorldOf) := ⟨rfl, rfl, rfl, by decide +kernel, rfl, by decide +kernel, by decide +kernel⟩
theorem ok_world {f : Addr} {fd : FuncData} (F : Fun K "_law_world_of" "_law_world_of" sWorldOf f fd) (B : Bd mg) (D : Cl P w K mg base 1 "_law_draw" ["_law_pen", "_law_many"] spDraw) (PI : Cl P w K mg base 2 "_law_pick" ["_law_pen", "_law_options"] (spPick K)) (WD : Cl P w K mg base 3 "_law_words_of" ["_law_pen", "_law_many"] spWordsOf)
    (ST : Cl P w K mg base 4 "_law_stretches" ["_law_pen", "_law_world", "_law_most"] spStr) (CO : Cl P w K mg base 5 "_law_clause_of" ["_law_pen", "_law_world"] spClOf) : FnOk P w K mg base CX0 6 f fd ["_law_pen", "_law_small", "_law_most"] spWorldOf := by
  refine F.ok scWW (fun vs H Q E h => ?_) (fun cdv A outer s H vs Q E hr h => ?_)
  · obtain ⟨_, _, _, _, rfl, _⟩ := h
    rfl
  · obtain ⟨p, small, m, k, rfl, hm2, hm, hP, hk, q⟩ := h
    have nd := scWW.nd
    have hu := hu_of hr
    refine ⟨_, pss_cons (ps_set (i := 3) nd rfl (.inl rfl) (pe_op op_add (pe_cl D hr (by decide) (by rfl) (pa_cons (pv 0) (pa_cons pe_int pa_nil))) (pe_cl D hr (by decide) (by rfl) (pa_cons (pv 0) (pa_cons pe_int pa_nil)))))
      (Evl.pss_cut (ps_if (pt_not (pt_val (pv 1)))
          (pss_one (ps_set (i := 3) nd rfl (.inl rfl) (pe_cl PI hr (by decide) (by rfl) (pa_cons (pv 0) (pa_cons (pe_lst (pa_cons (pv 3) (pa_cons (pe_op op_add pe_int (pe_cl D hr (by decide) (by rfl) (pa_cons (pv 0) (pa_cons pe_int pa_nil)))) (pa_cons (pe_op op_add (pe_op op_pow pe_int pe_int) (pe_cl D hr (by decide) (by rfl) (pa_cons (pv 0) (pa_cons pe_int pa_nil)))) (pa_cons (pe_op op_pow pe_int pe_int) (pa_cons (pe_op op_sub (pe_op op_pow pe_int pe_int) pe_int) pa_nil)))))) pa_nil)))))
          pss_nil)
      (pss_cons (ps_set (i := 4) nd rfl (.inl rfl) (pe_cl WD hr (by decide) (by rfl) (pa_cons (pv 0) (pa_cons (pe_cl PI hr (by decide) (by rfl) (pa_cons (pv 0) (pa_cons (pe_lst (pa_cons pe_int (pa_cons pe_int (pa_cons pe_int pa_nil)))) pa_nil))) pa_nil))))
      (pss_cons (ps_set (i := 5) nd rfl (.inl rfl) (pe_lst (pa_cons pe_int (pa_cons (pv 3) pa_nil))))
      (pss_cons (ps_for PassesOwn.never rfl (pi_range1 (by rfl) B.range (pa_cons pe_int pa_nil)) (pg_name (i := 6) nd rfl (.inl rfl))
          (pss_one (ps_if (pt_cmpR op_lt (pv 3) (pe_op op_pow pe_int pe_int) (nomark _))
              (pss_one (ps_expr (pe_bm PySem.F.plainAttrs_list PySem.F.slot_list_append PySem.F.type_list_append mt_append (pv 5) (pa_cons (pe_cl D hr (by decide) (by rfl) (pa_cons (pv 0) (pa_cons (pe_op op_add (pv 3) pe_int) pa_nil))) pa_nil))))
              (pss_one (ps_expr (pe_bm PySem.F.plainAttrs_list PySem.F.slot_list_append PySem.F.type_list_append mt_append (pv 5) (pa_cons (pe_op op_fdivW (pv 3) (pe_cl PI hr (by decide) (by rfl) (pa_cons (pv 0) (pa_cons (pe_lst (pa_cons pe_int (pa_cons pe_int (pa_cons pe_int (pa_cons pe_int (pa_cons (pe_op op_pow pe_int pe_int) (pa_cons (pe_op op_pow pe_int pe_int) (pa_cons (pe_op op_pow pe_int pe_int) pa_nil)))))))) pa_nil)))) pa_nil)))))))
      (pss_cons (ps_set (i := 7) nd rfl (.inl rfl) pe_dnewK)
      (pss_cons (ps_for PassesOwn.never rfl (pi_list (pv 4)) (pg_name (i := 8) nd rfl (.inl rfl))
          (pss_one (ps_dput hu (pv 7) (pv 8) (pe_tup (pa_cons (pe_cl PI hr (by decide) (by rfl) (pa_cons (pv 0) (pa_cons (pe_lst (pa_cons pe_int (pa_cons pe_int (pa_cons (pe_un un_neg pe_int) (pa_cons pe_int pa_nil))))) pa_nil))) (pa_cons (pe_op op_sub (pe_cl D hr (by decide) (by rfl) (pa_cons (pv 0) (pa_cons pe_int pa_nil))) pe_int) pa_nil))) rfl)))
      (Evl.pss_cut (ps_set (i := 9) nd rfl (.inl rfl) (pe_ifExp (PW.pt (pw_and (pt_cmpR op_eq (pe_callB call_len_seq (by rfl) B.len PySem.boot_len (pa_cons (pv 4) pa_nil)) pe_int (nomark _)) (pw_and1 (pt_cmpR op_eq (pe_cl D hr (by decide) (by rfl) (pa_cons (pv 0) (pa_cons pe_int pa_nil))) pe_int (nomark _))))) (pe_ix ix_list (pv 4) (pe_un un_neg pe_int) (fun _ _ => rfl)) pe_non))
      (pss_cons (ps_set (i := 10) nd rfl (.inl rfl) (pe_disp (pps_cons pe_str (pv 3) (pps_cons pe_str (pv 4) (pps_cons pe_str (pv 5) (pps_cons pe_str (pv 7) (pps_cons pe_str (pv 9) (pps_cons pe_str (pe_cmpR op_gt (pv 3) pe_int (by rfl)) (pps_cons pe_str (pe_cmpR op_eq (pe_cl D hr (by decide) (by rfl) (pa_cons (pv 0) (pa_cons pe_int pa_nil))) pe_int (by rfl)) (pps_cons pe_str (pe_lst pa_nil) pps_nil)))))))) rfl rfl (by simp) (by decide)))
      (Evl.pss_cut (ps_if (pt_cmpR op_gt (pe_cl D hr (by decide) (by rfl) (pa_cons (pv 0) (pa_cons pe_int pa_nil))) pe_int (nomark _))
          (pss_one (ps_expr (pe_bm PySem.F.plainAttrs_list PySem.F.slot_list_append PySem.F.type_list_append mt_append (pe_dget hu (pv 10) pe_str (fun _ _ => rfl)) (pa_cons (pe_tup (pa_cons pe_str (pa_cons (pe_ix ix_list (pv 4) pe_int (fun _ _ => rfl)) (pa_cons (pe_cl ST hr (by decide) (by rfl) (pa_cons (pv 0) (pa_cons (pv 10) (pa_cons pe_int pa_nil)))) pa_nil)))) pa_nil))))
          pss_nil)
      (pss_cons (ps_for PassesOwn.never rfl (pi_range1 (by rfl) B.range (pa_cons (pe_op op_add pe_int (pe_cl D hr (by decide) (by rfl) (pa_cons (pv 0) (pa_cons (pe_op op_sub (pv 2) pe_int) pa_nil)))) pa_nil)) (pg_name (i := 6) nd rfl (.inl rfl))
          (pss_one (ps_expr (pe_bm PySem.F.plainAttrs_list PySem.F.slot_list_append PySem.F.type_list_append mt_append (pe_dget hu (pv 10) pe_str (fun _ _ => rfl)) (pa_cons (pe_cl CO hr (by decide) (by rfl) (pa_cons (pv 0) (pa_cons (pv 10) pa_nil))) pa_nil)))))
      (pss_one (ps_ret (pv 10))))))))))))), ?_⟩
    have pw6 : CPow 10 6 := ⟨by decide, by decide, by decide⟩
    have pw7 : CPow 10 7 := ⟨by decide, by decide, by decide⟩
    have pw15 : CPow 10 15 := ⟨by decide, by decide, by decide⟩
    have pw29 : CPow 10 29 := ⟨by decide, by decide, by decide⟩
    have pw30 : CPow 10 30 := ⟨by decide, by decide, by decide⟩
    have eL : lastP = 10 ^ 30 := rfl
    -- last
    refine ⟨_, rfl, p, 9, _, rfl, by decide, by decide, hP, by omega, fun r1 H1 r10 r11 P1 F1 => ?_⟩
    refine ⟨_, rfl, p, 4, _, rfl, by decide, by decide, P1, by omega, fun r2 H2 r20 r21 P2 F2 => ⟨_, _, rfl, rfl, ?_⟩⟩
    have G2 := F1.trans F2
    refine ⟨fun σ G => ∃ n : Int, 0 ≤ n ∧ n ≤ lastP ∧ σ = [some (.ref p), some (.bl small), some (.int (m : Nat)), some (.int n), none, none, none, none, none, none, none] ∧ Pen G p (k + 5) ∧ Frm p H G, ?_, ?_⟩
    · refine ⟨_, rfl, _, rfl, ite2 (fun _ => ?_) (fun _ => ⟨r1 + r2, by omega, by omega, rfl, P2.mono (by omega), G2⟩)⟩
      refine ⟨_, rfl, _, rfl, _, rfl, p, 60, _, rfl, by decide, by decide, P2, by omega, fun r3 H3 r30 r31 P3 F3 => ⟨_, _, rfl, rfl, _, _, rfl, rfl, pw6, _, rfl, p, 9, _, rfl, by decide, by decide, P3, by omega, fun r4 H4 r40 r41 P4 F4 => ⟨_, _, rfl, rfl, _, _, rfl, rfl, pw30, _, _, rfl, rfl, pw30, _, _, rfl, rfl, by show 5 ≤ sizeLine; decide, fun e ne => ?_⟩⟩⟩
      refine ⟨p, e, _, _, rfl, .inl (.inl upd_same), Nat.succ_pos _, by show 5 ≤ 1000; decide, P4.new ne, by omega, fun v H5 hv P5 F5 => ?_⟩
      obtain ⟨n, rfl, n0, n1⟩ : ∃ n : Int, v = .int n ∧ 0 ≤ n ∧ n ≤ lastP := by
        simp only [List.mem_cons, List.not_mem_nil, or_false] at hv
        rcases hv with e | e | e | e | e <;> subst e
        · exact ⟨_, rfl, by omega, by omega⟩
        · exact ⟨_, rfl, by omega, by omega⟩
        · refine ⟨_, rfl, ?_, ?_⟩
          · show (0 : Int) ≤ 10 ^ 6 + r4
            omega
          · show (10 : Int) ^ 6 + r4 ≤ lastP
            omega
        · exact ⟨_, rfl, by decide, by decide⟩
        · exact ⟨_, rfl, by decide, by decide⟩
      exact ⟨n, n0, n1, rfl, P5.mono (by omega), (G2.trans (F3.trans F4)).trans ((Frm.new ne).trans F5)⟩
    rintro σ G3 ⟨n, n0, n1, rfl, P3, F3⟩
    -- words
    refine ⟨_, rfl, _, rfl, by show 3 ≤ sizeLine; decide, fun e ne => ?_⟩
    refine ⟨p, e, ([1, 2, 2] : List Int).map V.int, _, rfl, .inl (.inl upd_same), Nat.succ_pos _, by show 3 ≤ 1000; decide, P3.new ne, by omega, fun v H4 hv P4 F4 => ?_⟩
    obtain ⟨cnt, rfl, c1, c2⟩ : ∃ c : Nat, v = .int (c : Nat) ∧ 1 ≤ c ∧ c ≤ 2 := by
      obtain ⟨z, hz, rfl⟩ := pickInt hv
      simp only [List.mem_cons, List.not_mem_nil, or_false] at hz
      rcases hz with e | e | e <;> subst e
      · exact ⟨1, rfl, by decide, by decide⟩
      · exact ⟨2, rfl, by decide, by decide⟩
      · exact ⟨2, rfl, by decide, by decide⟩
    have G4 := F3.trans ((Frm.new (p := p) (o := .lst (([1, 2, 2] : List Int).map V.int)) ne).trans F4)
    refine ⟨p, cnt, _, rfl, by omega, P4, by omega, fun wl ws H5 nwl hwl lws hws P5 F5 => ?_⟩
    have G5 := G4.trans F5
    have nwl0 : H wl = none := G4.free P4 nwl
    -- anchors
    refine ⟨_, rfl, by show 2 ≤ sizeLine; decide, fun an nan => ?_⟩
    have nan0 : H an = none := G5.free P5 nan
    have san := same_lay (o := .lst [.int 0, .int n]) nan
    have wan : wl ≠ an := ne_of_none hwl nan
    refine ⟨4, rfl, by decide, by decide, for_range (lo := 0) (n := 4) (fun i σ G => ∃ ans : List Int, (∃ s6, σ = [some (.ref p), some (.bl small), some (.int (m : Nat)), some (.int n), some (.ref wl), some (.ref an), s6, none, none, none, none]) ∧ G an = some (.lst (ans.map V.int)) ∧ G wl = some (.lst (ws.map V.str)) ∧ ans.length = 2 + i ∧ (∀ z ∈ ans, 0 ≤ z ∧ z ≤ n) ∧ Pen G p (k + 46 + i) ∧ Frm p H G)
      ⟨[0, n], ⟨none, rfl⟩, upd_same, san _ _ hwl, rfl, (fun z hz => by
        simp only [List.mem_cons, List.not_mem_nil, or_false] at hz
        omega), (P5.same' san).mono (by omega), G5.trans (frmS san)⟩ ?_ ?_⟩
    · rintro i σ G hi ⟨ans, ⟨s6, rfl⟩, hG, hw, la, hans, PG, FG⟩
      have push : ∀ (z : Int) (G' : Hp), 0 ≤ z → z ≤ n → Pen G' p (k + 46 + i + 1) → Frm p G G' → ∃ ans' : List Int, (∃ s6, [some (V.ref p), some (.bl small), some (.int (m : Nat)), some (.int n), some (.ref wl), some (.ref an), some (.int (0 + (i : Int))), none, none, none, none] = [some (.ref p), some (.bl small), some (.int (m : Nat)), some (.int n), some (.ref wl), some (.ref an), s6, none, none, none, none]) ∧ (upd G' an (.lst (ans.map V.int ++ [.int z]))) an = some (.lst (ans'.map V.int)) ∧ (upd G' an (.lst (ans.map V.int ++ [.int z]))) wl = some (.lst (ws.map V.str)) ∧ ans'.length = 2 + (i + 1) ∧ (∀ z ∈ ans', 0 ≤ z ∧ z ≤ n) ∧ Pen (upd G' an (.lst (ans.map V.int ++ [.int z]))) p (k + 46 + (i + 1)) ∧ Frm p H (upd G' an (.lst (ans.map V.int ++ [.int z]))) := fun z G' z0 z1 P' F' => by
        have FH := FG.trans F'
        refine ⟨ans ++ [z], ⟨_, rfl⟩, by rw [upd_same, List.map_append]; rfl, by rw [upd_ne wan]; exact F'.lst PG hw, by rw [List.length_append, la]; rfl, fun y hy => ?_, (hP.putAny P' FH nan0).mono (by omega), FH.putAny hP nan0⟩
        rcases List.mem_append.mp hy with c | c
        · exact hans y c
        · rw [List.mem_singleton.mp c]; exact ⟨z0, z1⟩
      refine ⟨_, rfl, _, _, rfl, rfl, pw7, _, _, rfl, rfl, _, rfl, ite2 (fun c => ?_) (fun _ => ?_)⟩
      · have hc : n < 10 ^ 7 := of_decide_eq_true c
        refine ⟨_, rfl, .inl ⟨rfl, _, .inl (.inl hG)⟩, _, rfl, _, rfl, _, _, rfl, rfl, p, n + 1, _, rfl, by omega, ?_, PG, by omega, fun r G' r0 r1 P' F' => ⟨an, _, _, rfl, rfl, F'.lst PG hG, small1000 (by rw [List.length_map]; omega), push r G' r0 (by omega) P' F'⟩⟩
        exact Nat.lt_of_le_of_lt (show (n + 1).natAbs ≤ 10 ^ 8 by omega) (by decide)
      · refine ⟨_, rfl, .inl ⟨rfl, _, .inl (.inl hG)⟩, _, rfl, _, rfl, _, _, rfl, rfl, pw6, _, _, rfl, rfl, pw15, _, _, rfl, rfl, pw29, by show 7 ≤ sizeLine; decide, fun e ne => ?_⟩
        refine ⟨p, e, ([1, 2, 3, 10, 10 ^ 6, 10 ^ 15, 10 ^ 29] : List Int).map V.int, _, rfl, .inl (.inl upd_same), Nat.succ_pos _, by show 7 ≤ 1000; decide, PG.new ne, by omega, fun v G' hv P' F' => ?_⟩
        obtain ⟨y, hy, rfl⟩ := pickInt hv
        have yb : 0 < y ∧ y ≤ 10 ^ 29 := by
          simp only [List.mem_cons, List.not_mem_nil, or_false] at hy
          rcases hy with e | e | e | e | e | e | e <;> subst e <;> decide
        have FF := (Frm.new (p := p) (o := .lst (([1, 2, 3, 10, 10 ^ 6, 10 ^ 15, 10 ^ 29] : List Int).map V.int)) ne).trans F'
        refine ⟨_, _, rfl, rfl, div200 yb.1 (Nat.lt_of_le_of_lt (show y.natAbs ≤ 10 ^ 29 by omega) (by decide)) _, an, _, _, rfl, rfl, FF.lst PG hG, small1000 (by rw [List.length_map]; omega), push (n / y) G' (Int.ediv_nonneg n0 (by omega)) (Int.ediv_le_self _ n0) P' FF⟩
    rintro σ G6 ⟨ans, ⟨s6, rfl⟩, han, hwl6, la, hans, P6, F6⟩
    -- lines
    intro ln nln
    have nln0 : H ln = none := F6.free P6 nln
    have sln := same_lay (o := .dK []) nln
    refine ⟨_, rfl, wl, rfl, ⟨_, .inl (.inl (sln _ _ hwl6))⟩, for_list (K := K) (a := wl) (xs := ws.map V.str) (fun i σ G => ∃ lts : List Addr, (∃ s8, σ = [some (.ref p), some (.bl small), some (.int (m : Nat)), some (.int n), some (.ref wl), some (.ref an), s6, some (.ref ln), s8, none, none]) ∧ G ln = some (.dK (dkv ((ws.take i).zip (lts.map V.ref)))) ∧ lts.length = i ∧ (∀ t ∈ lts, ∃ a b : Int, G t = some (.tup [.int a, .int b]) ∧ -3 ≤ a ∧ a ≤ 3 ∧ -9 ≤ b ∧ b ≤ 9) ∧ G an = some (.lst (ans.map V.int)) ∧ G wl = some (.lst (ws.map V.str)) ∧ Pen G p (k + 50 + 2 * i) ∧ Frm p H G)
      ⟨[], ⟨none, rfl⟩, upd_same, rfl, (fun _ z => nomatch z), sln _ _ han, sln _ _ hwl6, (P6.same' sln).mono (by omega), F6.trans (frmS sln)⟩ (fun i σ G _ ⟨_, _, _, _, _, _, h, _⟩ => .inl (.inl h)) ?_ ?_⟩
    · rintro i y σ G hy ⟨lts, ⟨s8, rfl⟩, hln, ll, hlt, hanG, hwlG, PG, FG⟩
      rw [List.getElem?_map] at hy
      obtain ⟨x, hx, rfl⟩ := Option.map_eq_some_iff.mp hy
      have hil : i < ws.length := (List.getElem?_eq_some_iff.mp hx).1
      have lnp : ln ≠ p := hP.ne_new nln0
      refine ⟨_, rfl, _, rfl, by show 4 ≤ sizeLine; decide, fun e ne => ?_⟩
      refine ⟨p, e, ([0, 1, -1, 2] : List Int).map V.int, _, rfl, .inl (.inl upd_same), Nat.succ_pos _, by show 4 ≤ 1000; decide, PG.new ne, by omega, fun v G1 hv P1' F1' => ?_⟩
      obtain ⟨a, ha, rfl⟩ := pickInt hv
      have ab : -3 ≤ a ∧ a ≤ 3 := by
        simp only [List.mem_cons, List.not_mem_nil, or_false] at ha
        omega
      refine ⟨_, rfl, p, 9, _, rfl, by decide, by decide, P1', by omega, fun b G2' b0 b1 P2' F2' => ⟨_, _, rfl, rfl, by show 2 ≤ sizeLine; decide, fun t nt => ?_⟩⟩
      have FF := ((Frm.new (p := p) (o := .lst (([0, 1, -1, 2] : List Int).map V.int)) ne).trans F1').trans F2'
      have st := same_lay (o := .tup [.int a, .int (b - 4)]) nt
      have hln2 := st _ _ (FF _ _ hln lnp)
      have F3' := FF.trans (frmS (p := p) st)
      have FH := FG.trans F3'
      have P3' := P2'.same' st
      have lk : ((ws.take i).zip (lts.map V.ref)).lookup x = none := lookup_none fun z hz e => fresh_at hws.ne hx (by rw [← e]; exact zip_fst_sub hz)
      have ez : (ws.take i).zip (lts.map V.ref) ++ [(x, .ref t)] = (ws.take (i + 1)).zip ((lts ++ [t]).map V.ref) := by
        rw [List.take_add_one, hx, List.map_append, List.zip_append (by rw [List.length_take, List.length_map, ll]; omega)]
        rfl
      have lz : (dkv ((ws.take i).zip (lts.map V.ref))).length < sizeLine := by
        refine small1000 ?_
        unfold dkv
        rw [List.length_map, List.length_zip, List.length_map, ll]
        omega
      refine ⟨_, rfl, _, rfl, ln, _, rfl, dp hln2 (put_dkv lk) lz, lts ++ [t], ⟨_, rfl⟩, by rw [upd_same, ez], by rw [List.length_append, ll]; rfl, fun z hz => ?_, ?_, ?_, (hP.putAny P3' FH nln0).mono (by omega), FH.putAny hP nln0⟩
      · rcases List.mem_append.mp hz with c | c
        · obtain ⟨a', b', e', r'⟩ := hlt z c
          have e2 := F3'.at_ _ _ e' (by obtain ⟨kvs, hpd⟩ := PG.dict; exact ne_of e' hpd (by intro z; cases z))
          exact ⟨a', b', by rw [upd_ne (ne_of e2 hln2 (by intro z; cases z))]; exact e2, r'⟩
        · rw [List.mem_singleton.mp c]
          exact ⟨a, b - 4, by rw [upd_ne (ne_of upd_same hln2 (by intro z; cases z))]; exact upd_same, ab.1, ab.2, by omega, by omega⟩
      · have e2 := F3'.lst PG hanG
        rw [upd_ne (ne_of e2 hln2 (by intro z; cases z))]; exact e2
      · have e2 := F3'.lst PG hwlG
        rw [upd_ne (ne_of e2 hln2 (by intro z; cases z))]; exact e2
    rintro σ G7 ⟨lts, ⟨s8, rfl⟩, hln, ll, hlt, hanG, hwlG, P7, F7⟩
    rw [List.length_map] at ll P7
    rw [List.length_map, List.take_of_length_le (Nat.le_refl _)] at hln
    have lw2 : ws.length ≤ 2 := by omega
    have lnp : ln ≠ p := hP.ne_new nln0
    -- mute
    refine ⟨fun σ G => ∃ mute : V, (mute = .non ∨ ∃ g, mute = .str g) ∧ σ = [some (.ref p), some (.bl small), some (.int (m : Nat)), some (.int n), some (.ref wl), some (.ref an), s6, some (.ref ln), s8, some mute, none] ∧ Pen G p (k + 55) ∧ Frm p G7 G, ?_, ?_⟩
    · refine ⟨_, rfl, wl, _, rfl, .inl (.inl (.inl hwlG)), rfl, _, rfl, ite2 (fun _ => ?_) (fun _ => iteF ⟨.non, .inl rfl, rfl, P7.mono (by omega), Frm.refl _ _⟩)⟩
      refine ⟨_, rfl, p, 4, _, rfl, by decide, by decide, P7, by omega, fun r G8 _ _ P8 F8 => ⟨rfl, _, rfl, ite2 (fun _ => ?_) (fun _ => ⟨.non, .inl rfl, rfl, P8.mono (by omega), F8⟩)⟩⟩
      have hne : ws ≠ [] := fun e => by rw [e] at lws; simp at lws; omega
      obtain ⟨ini, y, ey⟩ : ∃ ini y, ws = ini ++ [y] := ⟨_, _, (List.dropLast_concat_getLast hne).symm⟩
      refine ⟨_, rfl, 1, rfl, wl, _, -1, .str y, rfl, rfl, .inl (.inl (F8.lst P7 hwlG)), ?_, _, .inr ⟨_, rfl⟩, rfl, P8.mono (by omega), F8⟩
      rw [ey, List.map_append]
      exact atI_last _ _
    rintro σ G8 ⟨mute, hmu, rfl, P8, F8⟩
    -- the world
    intro wp nwp
    have swp := same_lay (o := .dK []) nwp
    have P8' := P8.same' swp
    have wpp : wp ≠ p := P8.ne_new nwp
    refine ⟨_, rfl, _, rfl, _, rfl, _, rfl, _, rfl, _, rfl, _, _, rfl, rfl, _, rfl, p, 4, _, rfl, by decide, by decide, P8', by omega, fun r G9 r0 r1 P9 F9 => ⟨rfl, Nat.zero_le _, fun td ntd => ?_⟩⟩
    have std := same_lay (o := .lst []) ntd
    have hwp9 : (upd G9 td (.lst [])) wp = some (.dK []) := std _ _ (F9 _ _ upd_same wpp)
    refine ⟨hwp9, dkv (wKv n wl an ln mute (decide (n > 100)) (decide (V.int r = V.int 0)) td), rfl, by show 8 ≤ 15; decide, ?_⟩
    rw [merge_dkv (l := wKv n wl an ln mute (decide (n > 100)) (decide (V.int r = V.int 0)) td) (zip_nodup wNodup)]
    have FH8 := F7.trans F8
    have nwp0 : H wp = none := FH8.free P8 nwp
    have G89 : Frm p G8 (upd G9 td (.lst [])) := ((frmS (p := p) swp).trans F9).trans (frmS std)
    have F7' : Frm p G7 (upd G9 td (.lst [])) := F8.trans G89
    have FH9 := F7.trans F7'
    have ntd0 : H td = none := (F7.trans (F8.trans ((frmS (p := p) swp).trans F9))).free P9 ntd
    have keep : ∀ b o, G7 b = some o → (∀ kvs, o ≠ .dK kvs) → (upd (upd G9 td (.lst [])) wp (.dK (dkv (wKv n wl an ln mute (decide (n > 100)) (decide (V.int r = V.int 0)) td)))) b = some o := fun b o e ho => by
      obtain ⟨kvs, hpd⟩ := P7.dict
      have e2 := F7' _ _ e (ne_of e hpd (ho _))
      rw [upd_ne (ne_of e2 hwp9 (ho _))]
      exact e2
    have hW0 : WldX p (upd (upd G9 td (.lst [])) wp (.dK (dkv (wKv n wl an ln mute (decide (n > 100)) (decide (V.int r = V.int 0)) td)))) wp n ws wl an ln mute (decide (n > 100)) (decide (V.int r = V.int 0)) td ans lts := by
      have nlw : ln ≠ wp := fun e => by
        have := F8 _ _ hln lnp
        rw [e, nwp] at this
        cases this
      exact {
        ne := wpp
        ne2 := lnp
        d := upd_same
        f := keep _ _ hwlG (fun _ z => nomatch z)
        a := keep _ _ hanG (fun _ z => nomatch z)
        a0 := by omega
        a1 := by omega
        ab := hans
        l := by rw [upd_ne nlw]; exact F7' _ _ hln lnp
        ll := ll
        lt := fun t ht => by
          obtain ⟨a, b, e, r⟩ := hlt t ht
          exact ⟨a, b, keep _ _ e (fun _ z => nomatch z), r⟩
        mu := hmu
        fw := hws
        f0 := by omega
        f2 := lw2
        n0 := n0
        n1 := n1 }
    have nwt : td ≠ wp := fun e => by
      have h9 := F9 _ _ (upd_same (H := G8) (a := wp) (o := .dK [])) wpp
      rw [← e, ntd] at h9
      cases h9
    have nlt : wl ≠ td := by
      have h9 := F9.lst P8' (swp _ _ (F8.lst P7 hwlG))
      exact ne_of_none h9 ntd
    have nat_ : an ≠ td := by
      have h9 := F9.lst P8' (swp _ _ (F8.lst P7 hanG))
      exact ne_of_none h9 ntd
    have htd0 : (upd (upd G9 td (.lst [])) wp (.dK (dkv (wKv n wl an ln mute (decide (n > 100)) (decide (V.int r = V.int 0)) td)))) td = some (.lst []) := by
      rw [upd_ne nwt]
      exact upd_same
    have P10 : Pen (upd (upd G9 td (.lst [])) wp (.dK (dkv (wKv n wl an ln mute (decide (n > 100)) (decide (V.int r = V.int 0)) td)))) p (k + 56) := hP.putAny (P9.same' std) FH9 nwp0
    have F10 : Frm p H (upd (upd G9 td (.lst [])) wp (.dK (dkv (wKv n wl an ln mute (decide (n > 100)) (decide (V.int r = V.int 0)) td)))) := FH9.putAny hP nwp0
    generalize upd (upd G9 td (.lst [])) wp (.dK (dkv (wKv n wl an ln mute (decide (n > 100)) (decide (V.int r = V.int 0)) td))) = G10 at hW0 htd0 P10 F10
    generalize decide (n > 100) = gr at hW0
    generalize decide (V.int r = V.int 0) = fr at hW0
    clear keep G89 F7' FH9 hwp9 std ntd F9 P9 swp P8' FH8
    -- the first clause
    refine ⟨fun σ G => ∃ (xs : List V) (ms : List CM), σ = [some (.ref p), some (.bl small), some (.int (m : Nat)), some (.int n), some (.ref wl), some (.ref an), s6, some (.ref ln), s8, some mute, some (.ref wp)] ∧ (WldX p G wp n ws wl an ln mute gr fr td ans lts ∧ G td = some (.lst xs) ∧ All2 (SRep ws n G) xs ms) ∧ ms.length ≤ 1 ∧ Pen G p (k + 100) ∧ Frm p H G, ?_, ?_⟩
    · refine ⟨_, rfl, p, 3, _, rfl, by decide, by decide, P10, by omega, fun r G11 _ _ P11 F11 => ⟨_, _, rfl, rfl, _, rfl, ite2 (fun _ => ?_) (fun _ => ?_)⟩⟩
      · have W11 := hW0.frm F11 P10
        have htd11 := F11.lst P10 htd0
        have h0 : 0 < ws.length := by omega
        refine ⟨_, rfl, wp, _, rfl, W11.at_ (j := 7) rfl rfl, .inl ⟨rfl, _, .inl (.inl htd11)⟩, _, rfl, wl, _, 0, .str ws[0], rfl, rfl, .inl (.inl W11.f), ?_, _, rfl, _, rfl, p, wp, n, ws, _, 2, rfl, ⟨_, _, _, _, _, _, _, _, _, W11⟩, by decide, by decide, P11, by omega, fun ra M G12 _ hra hM hN hb hM0 hM6 P12 F12 => ⟨by show 3 ≤ sizeLine; decide, fun t nt => ?_⟩⟩
        · exact atI_nat (j := 0) (by rw [List.getElem?_map, List.getElem?_eq_getElem h0]; rfl)
        · have st := same_lay (o := .tup [.str "answers", .str ws[0], .ref ra]) nt
          have hR := (⟨hra, hM, hN, hb, hM0, hM6⟩ : RowsAt G12 ra n M).same st
          have W13 := (W11.frm F12 P11).same st
          have htd13 := st _ _ (F12.lst P11 htd11)
          have P13 := P12.same' st
          have F13 := ((F10.trans F11).trans F12).trans (frmS st)
          have hm1 : SRep ws n (upd G12 t (.tup [.str "answers", .str ws[0], .ref ra])) (.ref t) (0, ws[0], rws M, []) := ⟨t, rfl, ⟨ra, M, upd_same, hR.at_, hR.rows, rfl⟩, ⟨by show 0 < 7; decide, List.getElem_mem h0, rfl, fun v hv => ⟨ws[0], List.getElem_mem h0, List.mem_singleton.mp hv⟩, hR.nf, hR.bd, fun e => hR.ne (List.map_eq_nil_iff.mp e), by show (rws M).length ≤ 6; rw [rws_len]; exact hR.len⟩⟩
          exact ⟨td, _, _, rfl, rfl, htd13, small1000 (Nat.zero_le _), _, _, rfl, W13.push htd13 .nil nlt nat_ hm1, Nat.le_refl _, (hP.putAny P13 F13 ntd0).mono (by omega), F13.putAny hP ntd0⟩
      · exact ⟨[], [], rfl, ⟨hW0.frm F11 P10, F11.lst P10 htd0, .nil⟩, Nat.zero_le _, P11.mono (by omega), F10.trans F11⟩
    rintro σ G11 ⟨xs, ms, rfl, ⟨W11, htd11, hA11⟩, lm, P11, F11⟩
    -- the others
    refine ⟨_, rfl, _, rfl, _, _, rfl, rfl, p, (m : Nat) - 1, _, rfl, by omega, ?_, P11, by omega, fun r G12 r0 r1 P12 F12 => ⟨_, _, rfl, rfl, _, rfl, by omega, by omega, for_range (lo := 0) (n := (2 + r).toNat) (fun i σ G => ∃ (xs : List V) (ms : List CM), (∃ s6, σ = [some (.ref p), some (.bl small), some (.int (m : Nat)), some (.int n), some (.ref wl), some (.ref an), s6, some (.ref ln), s8, some mute, some (.ref wp)]) ∧ (WldX p G wp n ws wl an ln mute gr fr td ans lts ∧ G td = some (.lst xs) ∧ All2 (SRep ws n G) xs ms) ∧ i ≤ ms.length ∧ ms.length ≤ 1 + i ∧ Pen G p (k + 101 + 100 * i) ∧ Frm p H G)
      ⟨xs, ms, ⟨_, rfl⟩, ⟨W11.frm F12 P11, F12.lst P11 htd11, hA11.imp fun _ _ e => e.frm F12 P11⟩, Nat.zero_le _, lm, P12, F11.trans F12⟩ ?_ ?_⟩⟩
    · exact Nat.lt_of_le_of_lt (show ((m : Nat) - 1 : Int).natAbs ≤ 100 by omega) (by decide)
    · rintro i σ G hi ⟨xs, ms, ⟨s6, rfl⟩, ⟨WG, htd, hA⟩, l1, l2, PG, FG⟩
      refine ⟨_, rfl, wp, _, rfl, WG.at_ (j := 7) rfl rfl, .inl ⟨rfl, _, .inl (.inl htd)⟩, _, rfl, _, rfl, p, wp, n, ws, _, rfl, ⟨_, _, _, _, _, _, _, _, _, WG⟩, PG, by omega, fun t m' G' nt hS hG P' F' => ?_⟩
      have FH := FG.trans F'
      have htd' := F'.lst PG htd
      have lxs : xs.length = ms.length := hA.length
      exact ⟨td, _, _, rfl, rfl, htd', small1000 (by omega), _, _, ⟨_, rfl⟩, (WG.frm F' PG).push htd' (hA.imp fun _ _ e => e.frm F' PG) nlt nat_ ⟨t, rfl, hS, hG⟩, by rw [List.length_append]; exact Nat.succ_le_succ l1, by rw [List.length_append]; show ms.length + 1 ≤ _; omega, (hP.putAny P' FH ntd0).mono (by omega), FH.putAny hP ntd0⟩
    · rintro σ G ⟨xs, ms, ⟨s6, rfl⟩, ⟨WG, htd, hA⟩, l1, l2, PG, FG⟩
      exact ⟨_, rfl, q wp n ws ms G nwp0 ⟨_, _, _, _, _, _, _, _, _, xs, WG, htd, hA, nlt, nat_⟩ (by omega) (by omega) (PG.mono (by omega)) FG⟩
end
end OR

namespace OR
open PySem PySem.Spec PyProof.Rows L2
open TL (tl numL)
structure CMk (P : Program) (w : World) (K : PySem.W.Frag) (mg : Str → Option Value) (base : Heap) (C : Nat → Addr) (i : Nat) (ps : List Str) : Prop where
  made : ∃ f fd, Mk K (C i) f ∧ FnOk P w K mg base CX0 4 f fd ps (spCInit C i) ∧ Binds K fd ps []
  mgC : mg (clsName i) = some (.ref (C i))
def tMkC (C : Nat → Addr) (i : Nat) (t : TA) : TE := fun σ H Q => t σ H fun vs H1 => ∃ (f : Str) (pl : Addr) (x : List V), vs = .str f :: .ref pl :: x ∧ Word f ∧ WF i f x ∧ ∀ z dx H', H1 z = none → H' z = some (.ins (C i) dx (cFl i f pl x)) → Same H1 H' → Q (.ref z) H'
theorem pe_mkC {X : Cx} {C : Nat → Addr} {i j : Nat} {ps : List Str} {nm : Str} {e : Expr} {es : List Expr} {t : TA} {p pos : Pos} (M : CMk X.prog X.w X.K X.mg X.base C i ps) (hn : clsName i = nm) (hr : Room j X.A) (hj : 5 ≤ j) (hg : Gl X nm) (ha : PA X (e :: es) t) (hd : (nm == ("__debug__" : Str)) = false := by decide)
    (he : starEach (e :: es) X.env = (false, eval e X.env) :: starEach es X.env := by rfl) (hpl : (backTo pos (starEach es X.env)).any (·.1) = false := by rfl) : PE X (.Call (.Name nm p) (e :: es) [] pos) (tMkC C i t) := by
  subst hn
  obtain ⟨f, fd, mk, F, hb⟩ := M.made
  refine ⟨fun pins s σ H Q I h => ?_⟩
  refine wpAny_Call_Name_kw (ld_glob I hg M.mgC ?_ hd)
  refine PySem.W.callWith_K (h₀ := X.base) I.ok.mod.kin mk.kp (thn (ha.run pos pins s σ H _ I h) fun us s1 ⟨vs, H1, I1, r, q⟩ => ⟨I1.kIn, ?_⟩) he hpl
  obtain ⟨f1, pl, x, rfl, hw, wf, q⟩ := q
  refine run_make mk F (hr.mono hj) hb .nil pass0 I1 r fun z dx nz ndx nex => ?_
  refine ⟨z, dx, f1, pl, x, by rw [List.append_nil], hw, wf, upd_same, fun H' hx hs => ⟨rfl, q z dx H' nz hx fun c o e => ?_⟩⟩
  have ncz : c ≠ z := ne_of_none e nz
  refine hs c o ?_ ncz
  rw [upd_ne ncz, upd_ne (ne_of_none e ndx)]
  exact e
/-! ### the clause of a tuple -/
theorem kinds7' {i : Nat} (h : i < 7) : i = 0 ∨ i = 1 ∨ i = 2 ∨ i = 3 ∨ i = 4 ∨ i = 5 ∨ i = 6 := by omega
def spMade (CP : Addr) (C : Nat → Addr) : Sp := fun vs H Q _ => ∃ (t : Addr) (m : CM) (fs : List Str) (n : Int), vs = [.ref t] ∧ SpT H t m ∧ GoodM fs n m ∧ Word m.2.1 ∧ n ≤ lastP ∧ ∀ z H', CRep CP C H' (.ref z) m → Same H H' → Q (.ref z) H'
section
variable {P : Program} {w : World} {K : PySem.W.Frag} {mg : Str → Option Value} {base : Heap} {C : Nat → Addr} {CP : Addr}
theorem scMO : FnScope ["_law_told", "_law_kind", "_law_f", "_law_places"] ["_law_told"] (defScope sMadeOf) := ⟨rfl, rfl, rfl, by decide +kernel, rfl, by decide +kernel, by decide +kernel⟩
theorem ok_made {f : Addr} {fd : FuncData} (F : Fun K "_law_made_of" "_law_made_of" sMadeOf f fd) (B : Bd mg) (PM : PMk' P w K mg base CP) (M0 : CMk P w K mg base C 0 ["self", "function", "places"]) (M1 : CMk P w K mg base C 1 ["self", "function", "places"]) (M2 : CMk P w K mg base C 2 ["self", "function", "places", "other"]) (M3 : CMk P w K mg base C 3 ["self", "function", "places", "way"])
    (M4 : CMk P w K mg base C 4 ["self", "function", "places", "sign", "slope", "height"]) (M5 : CMk P w K mg base C 5 ["self", "function", "places", "sign", "other", "slope", "height"]) (M6 : CMk P w K mg base C 6 ["self", "function", "places", "sign", "height"]) : FnOk P w K mg base CX0 6 f fd ["_law_told"] (spMade CP C) := by
  refine F.ok scMO (fun vs H Q E h => ?_) (fun cdv A outer s H vs Q E hr h => ?_)
  · obtain ⟨_, _, _, _, rfl, _⟩ := h
    rfl
  · obtain ⟨t, m, fs, n, rfl, ⟨ra, M, ht, hra, hM, eM⟩, hG, hw, hn, q⟩ := h
    have nd := scMO.nd
    refine ⟨_, pss_cons (ps_par3 (i := 1) (j := 2) (l := 3) rfl nd rfl rfl rfl (by decide) (by decide) (by decide) rfl rfl rfl (pa_cons (pe_ix (ix_tupK K rfl) (pv 0) pe_int (fun _ _ => rfl)) (pa_cons (pe_ix (ix_tupK K rfl) (pv 0) pe_int (fun _ _ => rfl)) (pa_cons (pe_mkP K rfl PM hr (by decide) (by rfl) (pa_cons (pe_callTy call_list_of (by rfl) B.list bt_list (pa_cons (pe_ix (ix_tupK K rfl) (pv 0) pe_int (fun _ _ => rfl)) pa_nil)) pa_nil)) pa_nil))) rfl)
      (pss_cons (ps_if (pt_cmpR (op_in_seqK K rfl) (pv 1) (pe_tup (pa_cons pe_str (pa_cons pe_str pa_nil))) (by rfl))
          (pss_one (ps_ret (pe_ifExp (pt_cmpR op_eq (pv 1) pe_str (nomark _)) (pe_mkC M0 rfl hr (by decide) (by rfl) (pa_cons (pv 2) (pa_cons (pv 3) pa_nil))) (pe_mkC M1 rfl hr (by decide) (by rfl) (pa_cons (pv 2) (pa_cons (pv 3) pa_nil))))))
          pss_nil)
      (pss_cons (ps_if (pt_cmpR (op_in_seqK K rfl) (pv 1) (pe_tup (pa_cons pe_str (pa_cons pe_str pa_nil))) (by rfl))
          (pss_one (ps_ret (pe_ifExp (pt_cmpR op_eq (pv 1) pe_str (nomark _)) (pe_mkC M2 rfl hr (by decide) (by rfl) (pa_cons (pv 2) (pa_cons (pv 3) (pa_cons (pe_ix (ix_tupK K rfl) (pv 0) pe_int (fun _ _ => rfl)) pa_nil)))) (pe_mkC M3 rfl hr (by decide) (by rfl) (pa_cons (pv 2) (pa_cons (pv 3) (pa_cons (pe_ix (ix_tupK K rfl) (pv 0) pe_int (fun _ _ => rfl)) pa_nil)))))))
          pss_nil)
      (pss_cons (ps_if (pt_cmpR op_eq (pv 1) pe_str (nomark _))
          (pss_one (ps_ret (pe_mkC M4 rfl hr (by decide) (by rfl) (pa_cons (pv 2) (pa_cons (pv 3) (pa_cons (pe_ix (ix_tupK K rfl) (pv 0) pe_int (fun _ _ => rfl)) (pa_cons (pe_ix (ix_tupK K rfl) (pv 0) pe_int (fun _ _ => rfl)) (pa_cons (pe_ix (ix_tupK K rfl) (pv 0) pe_int (fun _ _ => rfl)) pa_nil))))))))
          pss_nil)
      (pss_cons (ps_if (pt_cmpR op_eq (pv 1) pe_str (nomark _))
          (pss_one (ps_ret (pe_mkC M5 rfl hr (by decide) (by rfl) (pa_cons (pv 2) (pa_cons (pv 3) (pa_cons (pe_ix (ix_tupK K rfl) (pv 0) pe_int (fun _ _ => rfl)) (pa_cons (pe_ix (ix_tupK K rfl) (pv 0) pe_int (fun _ _ => rfl)) (pa_cons (pe_ix (ix_tupK K rfl) (pv 0) pe_int (fun _ _ => rfl)) (pa_cons (pe_ix (ix_tupK K rfl) (pv 0) pe_int (fun _ _ => rfl)) pa_nil)))))))))
          pss_nil)
      (pss_one (ps_ret (pe_mkC M6 rfl hr (by decide) (by rfl) (pa_cons (pv 2) (pa_cons (pv 3) (pa_cons (pe_ix (ix_tupK K rfl) (pv 0) pe_int (fun _ _ => rfl)) (pa_cons (pe_ix (ix_tupK K rfl) (pv 0) pe_int (fun _ _ => rfl)) pa_nil))))))))))), ?_⟩
    obtain ⟨i, f0, l, x⟩ := m
    have hi : i < 7 := hG.lt
    have hwf : WF i f0 x := hG.wf
    have hnf : Nf l := hG.nf
    have ok : ∀ r ∈ l, okRow r = true := fun r hr3 => okRow_of (hG.bd r hr3).1 (hnf.ok r hr3) (Int.le_trans (hG.bd r hr3).2 hn)
    have ll : l.length ≤ 6 := hG.len
    have eM : rws M = l := eM
    refine ⟨_, rfl, t, _, 0, .str (kName i), rfl, rfl, .inl (.inl ht), atI_nat (j := 0) rfl, _, rfl, t, _, 1, .str f0, rfl, rfl, .inl (.inl ht), atI_nat (j := 1) rfl, _, rfl, t, _, 2, .ref ra, rfl, rfl, .inl (.inl ht), atI_nat (j := 2) rfl, ra, refs M, rfl, .inl (.inl (.inl hra)), fun y ny => ?_⟩
    have s1 := same_lay (o := .lst (refs M)) ny
    refine ⟨y, M, rfl, .inl (.inl (.inl upd_same)), by rw [← rws_len M, eM]; omega, (hM.same s1).pairs, by rw [eM]; exact ok, fun pl lr H2 npl hpl hme _ s2 => ⟨_, _, _, rfl, ?_⟩⟩
    obtain rfl : lr = l := Nf.unique hpl.nf hnf (by rw [← eM]; exact hme)
    have s12 := s1.trans s2
    have ht2 := s12 _ _ ht
    clear hme ny s1 s2
    have fin : ∀ z dx G, H2 z = none → G z = some (.ins (C i) dx (cFl i f0 pl x)) → ∀ H3, Same H2 H3 → Same H3 G → Q (.ref z) G := fun z dx G nz hz H3 s3 s4 =>
      q z G ⟨z, rfl, ⟨dx, pl, hz, hpl.same (s3.trans s4)⟩, hi, hw, hwf, ok, (by show lr.length ≤ 20; omega)⟩ (s12.trans (s3.trans s4))
    rcases kinds7' hi with e | e | e | e | e | e | e <;> subst e
    · have hx0 : x = [] := hwf; subst hx0
      refine ⟨_, rfl, by show 2 ≤ sizeLine; decide, fun eA nA => ⟨eA, [V.str "answers", .str "refuses"], rfl, .inr (.inl (.inl upd_same)), rfl, rfl, _, rfl, ite2 (fun _ => ?_) (fun z => absurd (by decide +kernel) z)⟩⟩
      have sA := same_lay (o := .tup [V.str "answers", .str "refuses"]) nA
      refine ⟨_, rfl, rfl, _, rfl, ite2 (fun _ => ?_) (fun z => absurd (decide_eq_true rfl) z)⟩
      exact ⟨_, rfl, _, rfl, f0, pl, [], rfl, hw, hwf, fun z dx G nz hz s4 => fin z dx G (sA.free nz) hz _ sA s4⟩
    · have hx0 : x = [] := hwf; subst hx0
      refine ⟨_, rfl, by show 2 ≤ sizeLine; decide, fun eA nA => ⟨eA, [V.str "answers", .str "refuses"], rfl, .inr (.inl (.inl upd_same)), rfl, rfl, _, rfl, ite2 (fun _ => ?_) (fun z => absurd (by decide +kernel) z)⟩⟩
      have sA := same_lay (o := .tup [V.str "answers", .str "refuses"]) nA
      refine ⟨_, rfl, rfl, _, rfl, ite2 (fun z => absurd (of_decide_eq_true z) (by decide +kernel)) (fun _ => ?_)⟩
      exact ⟨_, rfl, _, rfl, f0, pl, [], rfl, hw, hwf, fun z dx G nz hz s4 => fin z dx G (sA.free nz) hz _ sA s4⟩
    · obtain ⟨g, rfl, hg⟩ := id hwf
      refine ⟨_, rfl, by show 2 ≤ sizeLine; decide, fun eA nA => ⟨eA, [V.str "answers", .str "refuses"], rfl, .inr (.inl (.inl upd_same)), rfl, rfl, _, rfl, ite2 (fun z => absurd z (by decide +kernel)) (fun _ => ?_)⟩⟩
      have sA := same_lay (o := .tup [V.str "answers", .str "refuses"]) nA
      refine ⟨_, rfl, by show 2 ≤ sizeLine; decide, fun eB nB => ⟨eB, [V.str "needs", .str "spreads"], rfl, .inr (.inl (.inl upd_same)), rfl, rfl, _, rfl, ite2 (fun _ => ?_) (fun z => absurd (by decide +kernel) z)⟩⟩
      have sB := same_lay (o := .tup [V.str "needs", .str "spreads"]) nB
      refine ⟨_, rfl, rfl, _, rfl, ite2 (fun _ => ?_) (fun z => absurd (decide_eq_true rfl) z)⟩
      exact ⟨_, rfl, _, rfl, _, rfl, t, _, 3, .str g, rfl, rfl, .inl (.inl ((sA.trans sB) _ _ ht2)), atI_nat (j := 3) rfl, f0, pl, [.str g], rfl, hw, hwf, fun z dx G nz hz s4 => fin z dx G ((sA.trans sB).free nz) hz _ (sA.trans sB) s4⟩
    · obtain ⟨wy, rfl, hg⟩ := id hwf
      refine ⟨_, rfl, by show 2 ≤ sizeLine; decide, fun eA nA => ⟨eA, [V.str "answers", .str "refuses"], rfl, .inr (.inl (.inl upd_same)), rfl, rfl, _, rfl, ite2 (fun z => absurd z (by decide +kernel)) (fun _ => ?_)⟩⟩
      have sA := same_lay (o := .tup [V.str "answers", .str "refuses"]) nA
      refine ⟨_, rfl, by show 2 ≤ sizeLine; decide, fun eB nB => ⟨eB, [V.str "needs", .str "spreads"], rfl, .inr (.inl (.inl upd_same)), rfl, rfl, _, rfl, ite2 (fun _ => ?_) (fun z => absurd (by decide +kernel) z)⟩⟩
      have sB := same_lay (o := .tup [V.str "needs", .str "spreads"]) nB
      refine ⟨_, rfl, rfl, _, rfl, ite2 (fun z => absurd (of_decide_eq_true z) (by decide +kernel)) (fun _ => ?_)⟩
      exact ⟨_, rfl, _, rfl, _, rfl, t, _, 3, .str wy, rfl, rfl, .inl (.inl ((sA.trans sB) _ _ ht2)), atI_nat (j := 3) rfl, f0, pl, [.str wy], rfl, hw, hwf, fun z dx G nz hz s4 => fin z dx G ((sA.trans sB).free nz) hz _ (sA.trans sB) s4⟩
    · obtain ⟨sg, a, b, rfl, hg⟩ := id hwf
      refine ⟨_, rfl, by show 2 ≤ sizeLine; decide, fun eA nA => ⟨eA, [V.str "answers", .str "refuses"], rfl, .inr (.inl (.inl upd_same)), rfl, rfl, _, rfl, ite2 (fun z => absurd z (by decide +kernel)) (fun _ => ?_)⟩⟩
      have sA := same_lay (o := .tup [V.str "answers", .str "refuses"]) nA
      refine ⟨_, rfl, by show 2 ≤ sizeLine; decide, fun eB nB => ⟨eB, [V.str "needs", .str "spreads"], rfl, .inr (.inl (.inl upd_same)), rfl, rfl, _, rfl, ite2 (fun z => absurd z (by decide +kernel)) (fun _ => ?_)⟩⟩
      have sB := same_lay (o := .tup [V.str "needs", .str "spreads"]) nB
      refine ⟨_, rfl, rfl, _, rfl, ite2 (fun _ => ?_) (fun z => absurd (decide_eq_true rfl) z)⟩
      exact ⟨_, rfl, _, rfl, _, rfl, t, _, 3, .str sg, rfl, rfl, .inl (.inl ((sA.trans sB) _ _ ht2)), atI_nat (j := 3) rfl, _, rfl, t, _, 4, .int a, rfl, rfl, .inl (.inl ((sA.trans sB) _ _ ht2)), atI_nat (j := 4) rfl, _, rfl, t, _, 5, .int b, rfl, rfl, .inl (.inl ((sA.trans sB) _ _ ht2)), atI_nat (j := 5) rfl, f0, pl, [.str sg, .int a, .int b], rfl, hw, hwf, fun z dx G nz hz s4 => fin z dx G ((sA.trans sB).free nz) hz _ (sA.trans sB) s4⟩
    · obtain ⟨sg, g, a, b, rfl, hg⟩ := id hwf
      refine ⟨_, rfl, by show 2 ≤ sizeLine; decide, fun eA nA => ⟨eA, [V.str "answers", .str "refuses"], rfl, .inr (.inl (.inl upd_same)), rfl, rfl, _, rfl, ite2 (fun z => absurd z (by decide +kernel)) (fun _ => ?_)⟩⟩
      have sA := same_lay (o := .tup [V.str "answers", .str "refuses"]) nA
      refine ⟨_, rfl, by show 2 ≤ sizeLine; decide, fun eB nB => ⟨eB, [V.str "needs", .str "spreads"], rfl, .inr (.inl (.inl upd_same)), rfl, rfl, _, rfl, ite2 (fun z => absurd z (by decide +kernel)) (fun _ => ?_)⟩⟩
      have sB := same_lay (o := .tup [V.str "needs", .str "spreads"]) nB
      refine ⟨_, rfl, rfl, _, rfl, ite2 (fun z => absurd (of_decide_eq_true z) (by decide +kernel)) (fun _ => ?_)⟩
      refine ⟨_, rfl, rfl, _, rfl, ite2 (fun _ => ?_) (fun z => absurd (decide_eq_true rfl) z)⟩
      exact ⟨_, rfl, _, rfl, _, rfl, t, _, 3, .str sg, rfl, rfl, .inl (.inl ((sA.trans sB) _ _ ht2)), atI_nat (j := 3) rfl, _, rfl, t, _, 4, .str g, rfl, rfl, .inl (.inl ((sA.trans sB) _ _ ht2)), atI_nat (j := 4) rfl, _, rfl, t, _, 5, .int a, rfl, rfl, .inl (.inl ((sA.trans sB) _ _ ht2)), atI_nat (j := 5) rfl, _, rfl, t, _, 6, .int b, rfl, rfl, .inl (.inl ((sA.trans sB) _ _ ht2)), atI_nat (j := 6) rfl, f0, pl, [.str sg, .str g, .int a, .int b], rfl, hw, hwf, fun z dx G nz hz s4 => fin z dx G ((sA.trans sB).free nz) hz _ (sA.trans sB) s4⟩
    · obtain ⟨sg, b, rfl, hg⟩ := id hwf
      refine ⟨_, rfl, by show 2 ≤ sizeLine; decide, fun eA nA => ⟨eA, [V.str "answers", .str "refuses"], rfl, .inr (.inl (.inl upd_same)), rfl, rfl, _, rfl, ite2 (fun z => absurd z (by decide +kernel)) (fun _ => ?_)⟩⟩
      have sA := same_lay (o := .tup [V.str "answers", .str "refuses"]) nA
      refine ⟨_, rfl, by show 2 ≤ sizeLine; decide, fun eB nB => ⟨eB, [V.str "needs", .str "spreads"], rfl, .inr (.inl (.inl upd_same)), rfl, rfl, _, rfl, ite2 (fun z => absurd z (by decide +kernel)) (fun _ => ?_)⟩⟩
      have sB := same_lay (o := .tup [V.str "needs", .str "spreads"]) nB
      refine ⟨_, rfl, rfl, _, rfl, ite2 (fun z => absurd (of_decide_eq_true z) (by decide +kernel)) (fun _ => ?_)⟩
      refine ⟨_, rfl, rfl, _, rfl, ite2 (fun z => absurd (of_decide_eq_true z) (by decide +kernel)) (fun _ => ?_)⟩
      exact ⟨_, rfl, _, rfl, _, rfl, t, _, 3, .str sg, rfl, rfl, .inl (.inl ((sA.trans sB) _ _ ht2)), atI_nat (j := 3) rfl, _, rfl, t, _, 4, .int b, rfl, rfl, .inl (.inl ((sA.trans sB) _ _ ht2)), atI_nat (j := 4) rfl, f0, pl, [.str sg, .int b], rfl, hw, hwf, fun z dx G nz hz s4 => fin z dx G ((sA.trans sB).free nz) hz _ (sA.trans sB) s4⟩
end
end OR

namespace OR
open PySem PySem.Spec PyProof.Rows L2

section
/-- what the clauses ask of an exception of the body, clause by clause: (class, slot of the name, suite) -/
def wAsMany (K : PySem.W.Frag) (Wo : WX) (D : Ends) : List (Value × Nat × (Addr → Value → Option Addr → TS)) → WX
  | [] => Wo
  | (c, i, ts) :: rest => wAs K c i ts (wAsMany K Wo D rest) D
/-- clauses `except C as n`, each with its slot -/
inductive HdsN (X : Cx) : List ExceptHandler → List (Value × Nat × (Addr → Value → Option Addr → TS)) → Prop
  | none : HdsN X [] []
  | cons {cn vn : Str} {c : Value} {i : Nat} {ts : Addr → Value → Option Addr → TS} {st : Stmt} {su : List Stmt} {p1 p2 : Pos} {hl : List ExceptHandler} {tl : List (Value × Nat × (Addr → Value → Option Addr → TS))}
      (slot : X.N[i]? = some vn) (loc : X.env.kindOf vn = some .local) (nam : Names X cn c)
      (sui : ∀ (ea : Addr) (eo : Obj) (ec : Value) (ed : Option Addr) (pn : List (Addr × Obj)), Zc ec ed eo → (∃ vs, eo.data = .fields vs) → PSs (X.suite ea ((ea, eo) :: pn)) (st :: su) (ts ea ec ed))
      (rest : HdsN X hl tl) : HdsN X (.ExceptHandler (some (.Name cn p1)) (some vn) (st :: su) p2 :: hl) ((c, i, ts) :: tl)

variable {X : Cx} {body : List Stmt} {h0 : ExceptHandler} {hl : List ExceptHandler} {tl : List (Value × Nat × (Addr → Value → Option Addr → TS))} {pos : Pos} {tb : WX → TS} {Wo : WX}
theorem ps_try_names (stk : X.stack = X.env :: X.outer) (frm : X.env.frame = some X.env.locals) (hN : X.N.Nodup) (out : Takes X Wo)
    (bod : ∀ (W : WX) (pn : List (Addr × Obj)) (xe : Value → Shared → Prop), Takes (X.tr pn xe) W → PassesOwn (model X.prog X.w) X.A X.env xe → PSs (X.tr pn xe) body (tb W))
    (cls : HdsN X (h0 :: hl) tl) : PS X (.Try body (h0 :: hl) [] [] pos) (fun D σ H => tb (wAsMany X.K Wo D tl) D σ H) := by
  refine ⟨fun pins s σ H D I hpre => ?_⟩
  have ok := I.ok
  have frs1 : X.A.frames = some (X.env :: X.outer) := by rw [ok.frames, stk]
  refine wpAny_Try_except (wpAny_mono ((bod (wAsMany X.K Wo D tl) (X.pn ++ pins) (fun e q1 => wpAny (model X.prog X.w) X.A (noteFrame e X.env) (fun _ q2 => wpAny (model X.prog X.w) X.A (setFlight e none)
    (fun _ q3 => wpAny (model X.prog X.w) X.A (handleBy e X.env (h0 :: hl)) (SP X pins D) X.xe q3) X.xe q2) X.xe q1) (fun _ sx raised => ?_) PassesOwn.looking).run [] s σ H D (I.toTry _) hpre) (fun fl sb endOf => ?_) (fun _ _ z => z))
  · obtain ⟨ea, Bd, sAt, pinsT, σT, HT, ecl, ed, rfl, invT, nb, upT, skyT, freeT, osT, agT, wish⟩ := raised
    have invA : Inv X pins σT HT sAt := invT.ofTry ok
    have sky0 : Sky Bd (X.env :: X.outer) ea (Zc ecl ed) X.env.locals sx.heap := by rw [← stk]; exact skyT
    show wpAny (model X.prog X.w) X.A (noteFrame (Value.ref ea) X.env) _ _ _
    refine Sky.land Zc.steady frs1 frm sky0 fun hp3 flown up1 => ?_
    have inv3 : Inv X pins σT HT { sx with heap := hp3 } := invA.landed nb flown.1 (upT.trans up1) osT agT
    obtain ⟨eo3, fs3, at3, zc3, dat3⟩ := flown.there
    have apart : ∀ {hp : Heap} {eo : Obj} {fs : Array Value}, hp.FunFrames Bd (X.env :: X.outer) → hp.get? ea = some eo → eo.data = .fields fs → ea ∉ frs (X.env :: X.outer) := by
      intro hp eo fs ffr eat edt mem
      obtain ⟨_, eo', eat', hnf⟩ := ffr.mem mem
      rw [eat] at eat'; cases eat'
      exact hnf _ edt
    have notIn := apart flown.2.2.1 at3 dat3
    have offL : ea ≠ X.env.locals := fun eq => notIn (List.mem_filterMap.mpr ⟨X.env, List.mem_cons_self, by rw [frm, eq]⟩)
    have offF : ea ∉ X.fs := by
      intro mem
      obtain ⟨en, hen, qen⟩ := List.mem_filterMap.mp mem
      exact notIn (List.mem_filterMap.mpr ⟨en, List.mem_cons_of_mem _ hen, qen⟩)
    have suit3 := inv3.suite at3 dat3 freeT offL offF
    have walk : ∀ {hl' : List ExceptHandler} {tl' : List (Value × Nat × (Addr → Value → Option Addr → TS))}, HdsN X hl' tl' → wAsMany X.K Wo D tl' ecl ed σT HT →
        wpAny (model X.prog X.w) X.A (handleBy (Value.ref ea) X.env hl') (SP X pins D) X.xe { sx with heap := hp3 } := by
      intro hl' tl' hk
      induction hk with
      | none =>
        intro wish
        refine wpAny_handleBy_nil ?_
        obtain ⟨k1, k2, k3, eo, fs, tb, tbo, tbs, eat, ezc, edt, e1, er⟩ := id flown
        unfold PySem.passOn
        refine wpAny_bind (wpAny_field eat edt e1 ?_)
        rw [if_neg (show ¬ (Value.ref tb == Value.none) = true by simp)]
        have onward : wpAny (model X.prog X.w) X.A (setFlight (Value.ref ea) X.env.frame) (fun _ s4 => wpAny (model X.prog X.w) X.A (throw (Value.ref ea) : Sem Flow) (SP X pins D) X.xe s4) X.xe { sx with heap := hp3 } := by
          rw [frm]
          refine HandSPX.setFlight_upZ flown fun hp4 hh4 up2 => wpAny_throw (out _ _ ?_)
          exact ⟨ea, Bd, sAt, pins, σT, HT, ecl, ed, rfl, invA, nb, (upT.trans up1).trans up2, .inr (.inr (by rw [stk]; exact hh4)), freeT, osT, agT, wish⟩
        first
          | exact wpAny_bind (wpAny_pure (wpAny_bind onward))
          | exact wpAny_bind onward
      | @cons cn vn c i ts st su p1 p2 hl2 tl2 slot loc nam sui rest ih =>
        intro wish
        obtain ⟨yn, exm, onYes, onNo⟩ := wish
        refine wpAny_handleBy_cons (codeAny_handlers_test ?_) (by intro y; cases y)
        have looks : PySem.W.Looks (model X.prog X.w) hp3 (typeOf (Value.ref ea)) ecl := fun A Q E s keep q => wpAny_typeOf_ref (keep _ _ at3) (by rw [zc3.1]; exact q)
        have matched := PySem.W.exm_one (M := model X.prog X.w) (inv3.kIn) looks exm
        have named : ∀ {Q : Value → Shared → Prop} {E : Value → Shared → Prop}, Q c { sx with heap := hp3 } → wpAny (model X.prog X.w) (X.A.mark (some (Value.ref ea))) (eval (.Name cn p1) X.env) Q E { sx with heap := hp3 } := by
          intro Q E q
          obtain ⟨gl, dbg, mgc | ⟨mgn, btc, nnm⟩⟩ := nam
          · exact ld_glob (X := X.suite ea ((ea, eo3) :: (X.pn ++ pins))) suit3 gl mgc q dbg
          · exact ld_blt (X := X.suite ea ((ea, eo3) :: (X.pn ++ pins))) suit3 gl mgn btc q nnm dbg
        refine named (matched.here ?_)
        cases yn with
        | false =>
          show wpAny _ X.A (handleBy (Value.ref ea) X.env hl2) _ _ _
          exact ih (onNo rfl)
        | true =>
          have isLoc : Loc X.env.scope vn := .inl loc
          apply codeAny_handlers_suite_as
          refine HandSPX.lands_againZ flown fun hp4 flown4 up2 => ?_
          have inv4 : Inv X pins σT HT { sx with heap := hp4 } := invA.landed nb flown4.1 ((upT.trans up1).trans up2) osT agT
          obtain ⟨eo4, fs4, at4, zc4, dat4⟩ := flown4.there
          have suit4 := inv4.suite at4 dat4 freeT offL offF
          refine store_ok (X := X.suite ea ((ea, eo4) :: (X.pn ++ pins))) (v := V.ref ea) suit4 hN slot isLoc rfl (fun s5 suit5 => ?_) (.inr loc)
          refine wpAny_mono ((sui ea eo4 ecl ed (X.pn ++ pins) zc4 ⟨_, dat4⟩).run [] s5 _ HT _ suit5 (onYes rfl ea freeT)) (fun fl s6 told => ?_) (fun _ _ z => False.elim z)
          have leave : ∀ {τ : L2.St} {Hτ : Hp} {Q : Shared → Prop}, Inv (X.suite ea ((ea, eo4) :: (X.pn ++ pins))) [] τ Hτ s6 → (∀ s7, Inv X pins (τ.set i none) Hτ s7 → Q s7) →
              wpAny (model X.prog X.w) X.A (do bindName X.env vn .none; unbindBehindTheSuite X.env vn p2) (fun _ s7 => Q s7) X.xe s6 := fun {τ Hτ Q} iv hq => gone_ok (iv.unsuite ok) hN slot loc hq
          cases fl with
          | ret u =>
            obtain ⟨v6, τ, Hτ, iv, rv, pv⟩ := told
            exact leave iv fun s7 jv => ⟨_, _, _, jv, rv, pv⟩
          | next =>
            obtain ⟨τ, Hτ, iv, pv⟩ := told
            exact leave iv fun s7 jv => ⟨_, _, jv, pv⟩
          | brk =>
            obtain ⟨τ, Hτ, iv, pv⟩ := told
            exact leave iv fun s7 jv => ⟨_, _, jv, pv⟩
          | cont =>
            obtain ⟨τ, Hτ, iv, pv⟩ := told
            exact leave iv fun s7 jv => ⟨_, _, jv, pv⟩
    exact walk cls wish
  · cases fl with
    | ret u =>
      obtain ⟨v, τ, Hτ, jv, rv, pv⟩ := endOf
      exact ⟨v, τ, Hτ, jv.ofTry ok, rv, pv⟩
    | next =>
      obtain ⟨τ, Hτ, jv, pv⟩ := endOf
      exact wpAny_execs_nil ⟨τ, Hτ, jv.ofTry ok, pv⟩
    | brk =>
      obtain ⟨τ, Hτ, jv, pv⟩ := endOf
      exact ⟨τ, Hτ, jv.ofTry ok, pv⟩
    | cont =>
      obtain ⟨τ, Hτ, jv, pv⟩ := endOf
      exact ⟨τ, Hτ, jv.ofTry ok, pv⟩
end

end OR

namespace OR
open PySem PySem.Spec PyProof.Rows L2
open TL (tl numL)
/-! ### a list times a number -/
theorem vals_rep {xs : List V} {its : List Value} (r : Vals xs its) : ∀ n : Nat, Vals (List.replicate n xs).flatten (List.replicate n its).flatten
  | 0 => .nil
  | n + 1 => by rw [List.replicate_succ, List.replicate_succ, List.flatten_cons, List.flatten_cons]; exact r.append (vals_rep r n)
theorem len_rep {α : Type} (xs : List α) : ∀ n : Nat, (List.replicate n xs).flatten.length = n * xs.length
  | 0 => by simp
  | n + 1 => by rw [List.replicate_succ, List.flatten_cons, List.length_append, len_rep xs n, Nat.succ_mul]; omega
def rMulLI (K : PySem.W.Frag) : R2 := fun x y H Q => ∃ (a : Addr) (xs : List V) (n : Nat), x = .ref a ∧ y = .int (n : Int) ∧ SqL K H a xs ∧ n * xs.length ≤ 20000 ∧ n ≤ 20000 ∧ ∀ p, H p = none → Q (.ref p) (upd H p (.lst (List.replicate n xs).flatten))
theorem op_mulLI {X : Cx} (K : PySem.W.Frag) (hK : X.K = K) : OpR X (binaryOp .Mult) (rMulLI K) := by
  subst hK
  intro pins st σ H x y v u Q I rx ry h
  obtain ⟨li, xs, n, rfl, rfl, seq, many, small, q⟩ := h
  cases (show v = Value.ref li from rx)
  obtain ⟨tok, rfl⟩ := (show ∃ t, u = Value.int (n : Int) t from ry)
  obtain ⟨its, rel, ⟨⟨oc, od, dat, osl⟩, cap, at_, ec, edict, edat⟩, hlen⟩ := I.list seq
  obtain rfl : oc = Value.type "list" := ec
  obtain rfl : dat = Data.seq its.toArray cap := edat
  have line : sizeLine = _ := sizeLine_eq
  have fit : its.toArray.size * ((n : Int)).toNat ≤ 20000 := by
    rw [List.size_toArray, Int.toNat_natCast, ← Paired.length rel, Nat.mul_comm]
    exact many
  have big : (20000 : Nat) ≤ sizeLine := by decide
  have ln : (List.replicate n xs).flatten.length ≤ sizeLine := by rw [len_rep]; exact Nat.le_trans many big
  have en : ((n : Int)).toNat = n := Int.toNat_natCast n
  have lo : -(2 ^ 63 : Int) ≤ (n : Int) := by omega
  have hi : (n : Int) < 2 ^ 63 := by omega
  generalize (n : Int) = z at fit en lo hi ⊢
  have f1 : ¬(!Builtin.List.listFitsIndex z) = true := by simp [Builtin.List.listFitsIndex]; omega
  have f3 : ¬Builtin.List.listTooLong (its.toArray.size * z.toNat) = true := by
    simp [Builtin.List.listTooLong]
    rw [List.size_toArray] at fit
    omega
  refine wpAny_binaryOp_repeat_ref (T := "list") (U := "int") (by decide) ⟨_, at_, rfl⟩ (fun s2 => typeIs_int s2 z tok) noFill_list_mul F.fills_int_mul
    F.slot_int_rmul repeat_list F.slot_int_index.lookup
    (call_meets F.slot_int_rmul (typeIs_int st z tok) F.entry_int_rmul (F.args_int_rmul_2 _ _) (lm_int_rmul_list_any z tok li its.toArray cap od osl)
      ⟨at_, rfl, ⟨_, at_, rfl⟩, call_meets F.slot_list_mul ⟨_, at_, rfl⟩ F.entry_list_mul (F.args_list_mul_2 _ _) (lm_list_mul_any li its.toArray cap od osl z tok f1 (by omega) f3)
        ⟨at_, ?_⟩⟩)
  rw [listMul_foldl_if, en]
  exact ⟨.ref st.heap.objs.size, upd H st.heap.objs.size (.lst (List.replicate n xs).flatten), I.laid (t' := st.toks) (fun b o e => Heap.get?_push_of_some _ e) (Nat.le_refl _) ⟨ln, _, 0, vals_rep rel n, Heap.get?_push_size _ rfl⟩, rfl, q _ (I.hok.fresh (Nat.le_refl _))⟩
/-! ### plain values -/
structure PV (v : V) : Prop where
  flat : flatV v = true
  len : ∀ s, v = .str s → s.length ≤ 100
  sm : ∀ s, v = .str s → SmallS s
theorem pv_cases {v : V} (h : PV v) : (∃ s : Str, v = .str s ∧ s.length ≤ 100 ∧ SmallS s) ∨ (∃ i, v = .int i) ∨ v = .non ∨ ∃ b, v = .bl b := by
  have hf := h.flat
  cases v with
  | str s => exact .inl ⟨s, rfl, h.len s rfl, h.sm s rfl⟩
  | int i => exact .inr (.inl ⟨i, rfl⟩)
  | non => exact .inr (.inr (.inl rfl))
  | bl b => exact .inr (.inr (.inr ⟨b, rfl⟩))
  | byt b => exact Bool.noConfusion hf
  | flt b => exact Bool.noConfusion hf
  | ref b => exact Bool.noConfusion hf
  | ty b => exact Bool.noConfusion hf
theorem pv_str {s : Str} (h : s.length ≤ 100) (k : SmallS s) : PV (.str s) := ⟨rfl, (fun t e => by cases e; exact h), fun t e => by cases e; exact k⟩
theorem pv_int (i : Int) : PV (.int i) := ⟨rfl, (fun t e => by cases e), fun t e => by cases e⟩
theorem pv_non : PV .non := ⟨rfl, (fun t e => by cases e), fun t e => by cases e⟩
theorem pv_bl (b : Bool) : PV (.bl b) := ⟨rfl, (fun t e => by cases e), fun t e => by cases e⟩
def wordS (s : Str) : Bool := decide (1 ≤ s.length) && (decide (s.length ≤ 8) && (tl s).all fun c => decide (c ∈ letters.cps.toList))
def wordB : V → Bool
  | .str s => wordS s
  | _ => false
theorem Word.wordS {s : Str} (h : Word s) : wordS s = true := by
  unfold OR.wordS
  rw [decide_eq_true h.pos, decide_eq_true h.len, Bool.true_and, Bool.true_and, List.all_eq_true]
  intro c hc
  have hz := h.az c hc
  exact decide_eq_true (az_in hz.1 hz.2)
def spIsWordV : Sp := fun vs H Q _ => ∃ v : V, vs = [v] ∧ PV v ∧ ∀ H', Same H H' → Q (.bl (wordB v)) H'
theorem tru_one (x : Nat) : decide ((1 : Int) ≤ ((x : Nat) : Int)) = decide (1 ≤ x) := by
  by_cases h : 1 ≤ x
  · rw [decide_eq_true h, decide_eq_true (by omega)]
  · rw [decide_eq_false h, decide_eq_false (by omega)]
theorem tru_eight (x : Nat) : decide (((x : Nat) : Int) ≤ (8 : Int)) = decide (x ≤ 8) := by
  by_cases h : x ≤ 8
  · rw [decide_eq_true h, decide_eq_true (by omega)]
  · rw [decide_eq_false h, decide_eq_false (by omega)]
theorem iteA {p q : Prop} {b : Bool} (h : b = true) (x : p) : if b = true then p else q := by rw [if_pos h]; exact x
theorem iteB {p q : Prop} {b : Bool} (h : b = false) (x : q) : if b = true then p else q := by rw [h, if_neg (by decide)]; exact x
section
variable {P : Program} {w : World} {K : PySem.W.Frag} {mg : Str → Option Value} {base : Heap} {ts tw : Addr}
theorem sc_iswordV : FnScope ["value", "letter"] ["value"] (defScope sIsWord) := ⟨rfl, rfl, rfl, by decide +kernel, rfl, by decide +kernel, by decide +kernel⟩
theorem ok_iswordV {f : Addr} {fd : FuncData} (F : Fun K "is_word" "is_word" sIsWord f fd) (T : WTxt K mg ts tw) : FnOk P w K mg base CX0 1 f fd ["value"] spIsWordV := by
  obtain ⟨t1, hl⟩ := T.let_
  obtain ⟨t2, hm⟩ := T.most
  refine F.ok sc_iswordV (fun vs H Q E h => ?_) (fun cdv A outer s H vs Q E hr h => ?_)
  · obtain ⟨v, rfl, _⟩ := h
    rfl
  · obtain ⟨v, rfl, hv, q⟩ := h
    have nd := sc_iswordV.nd
    refine ⟨_, pss_cons (ps_if (PW.pt (pw_or (pt_not (pt_val (pe_callB call_isi (by rfl) T.zIsi bt_isi (pa_cons (pv 0) (pa_cons (pe_bltn (v := .ty "str") (by rfl) T.zStr boot_strT rfl) pa_nil)))))
          (pw_or1 (pt_not (pt_chain op_le op_le pe_int (pe_callB call_len_str (by rfl) T.zLen PySem.boot_len (pa_cons (pv 0) pa_nil)) (pe_glob (v := .int 8) (by rfl) hm ⟨_, rfl⟩)))))) (pss_one (ps_ret pe_bl)) pss_nil)
      (pss_one (ps_ret (pe_callB (cr_all rfl) (by rfl) T.zAll bt_all (pa_cons
        (pe_lc (own := [("letter", 1)]) (g := gName 1) (tt := tYes) rfl nd (pi_str (pv 0)) (blkOk_by (N := ["value", "letter"]) (sc := defScope sIsWord) (by decide +kernel))
          (fun _ _ _ _ _ => pg_name (i := 1) nd rfl (.inl rfl)) (fun _ _ _ _ _ => pts_nil) (fun _ _ _ _ _ => pe_cmpR op_in_sign (pv 1) (pe_glob (v := .str letters) (by rfl) hl ⟨_, rfl⟩) (by rfl))) pa_nil)))), ?_⟩
    have q0 := q H (Same.refl _)
    rcases pv_cases hv with ⟨x, rfl, hx, _⟩ | ⟨i, rfl⟩ | rfl | ⟨b, rfl⟩
    · refine ⟨_, rfl, _, .ty "str", _, _, true, rfl, .ty "str", .base (.str _), kit_ty (by decide +kernel), _, rfl, iteF ?_⟩
      refine ⟨_, rfl, x, rfl, sz1 (by omega), _, _, rfl, rfl, _, rfl, ?_⟩
      have ew : wordB (.str x) = wordS x := rfl
      rw [ew] at q0
      rw [tru_one]
      by_cases h1 : 1 ≤ x.length
      · refine iteA (decide_eq_true h1) ⟨_, _, rfl, rfl, _, rfl, ?_⟩
        rw [tru_eight]
        by_cases h8 : x.length ≤ 8
        · rw [decide_eq_true h8]
          refine iteF ?_
          refine ⟨_, rfl, x, rfl, fun D hD => lc_str (x := x) (fun i G => G D = some (.lst ((((tl x).take i).map fun c => decide (c ∈ letters.cps.toList)).map V.bl)) ∧ Same H G) ⟨upd_same, same_lay hD⟩ ?_ ?_⟩
          · rintro i c G hc ⟨hd, s⟩
            have hi : i < x.length := by
              have := (List.getElem?_eq_some_iff.mp hc).1
              rw [TL.len_tl]
              exact this
            refine ⟨rfl, yesT ?_⟩
            refine ⟨_, rfl, c, letters, rfl, rfl, _, hd, small1000 (by rw [List.length_map, List.length_map, List.length_take]; omega), ?_, same_upd s hD⟩
            obtain ⟨hi2, ec⟩ := List.getElem?_eq_some_iff.mp hc
            rw [upd_same, List.take_succ_eq_append_getElem hi2, ec, List.map_append, List.map_append]
            rfl
          · rintro G ⟨hd, s⟩
            refine ⟨D, _, rfl, .inl (.inl hd), ?_⟩
            have e : (((tl x).take x.length).map fun c => decide (c ∈ letters.cps.toList)).all id = wordS x := by
              unfold wordS
              rw [decide_eq_true h1, decide_eq_true h8, Bool.true_and, Bool.true_and, List.all_map, List.take_of_length_le (by rw [← TL.len_tl]; exact Nat.le_refl _)]
              rfl
            rw [e, ← ew]
            exact q G s
        · rw [decide_eq_false h8]
          have e : wordS x = false := by unfold wordS; rw [decide_eq_false h8]; simp
          rw [e] at q0
          exact iteT q0
      · have e : wordS x = false := by unfold wordS; rw [decide_eq_false h1]; simp
        rw [e] at q0
        exact iteB (decide_eq_false h1) ⟨_, rfl, iteT q0⟩
    · exact ⟨_, rfl, _, .ty "str", _, _, false, rfl, .ty "str", .base (.int _), kit_ty (by decide +kernel), _, rfl, iteT q0⟩
    · exact ⟨_, rfl, _, .ty "str", _, _, false, rfl, .ty "str", .base .non, kit_ty (by decide +kernel), _, rfl, iteT q0⟩
    · exact ⟨_, rfl, _, .ty "str", _, _, false, rfl, .ty "str", .base (.bl _), kit_ty (by decide +kernel), _, rfl, iteT q0⟩
theorem sc_liswordV : FnScope ["_law_value", "_law_letter"] ["_law_value"] (defScope sLIsWord) := ⟨rfl, rfl, rfl, by decide +kernel, rfl, by decide +kernel, by decide +kernel⟩
theorem ok_liswordV {f : Addr} {fd : FuncData} (F : Fun K "_law_is_word" "_law_is_word" sLIsWord f fd) (T : WTxt K mg ts tw) : FnOk P w K mg base CX0 1 f fd ["_law_value"] spIsWordV := by
  obtain ⟨t1, hl⟩ := T.let_
  obtain ⟨t2, hm⟩ := T.most
  refine F.ok sc_liswordV (fun vs H Q E h => ?_) (fun cdv A outer s H vs Q E hr h => ?_)
  · obtain ⟨v, rfl, _⟩ := h
    rfl
  · obtain ⟨v, rfl, hv, q⟩ := h
    have nd := sc_liswordV.nd
    refine ⟨_, pss_cons (ps_if (PW.pt (pw_or (pt_not (pt_val (pe_callB call_isi (by rfl) T.zIsi bt_isi (pa_cons (pv 0) (pa_cons (pe_bltn (v := .ty "str") (by rfl) T.zStr boot_strT rfl) pa_nil)))))
          (pw_or1 (pt_not (pt_chain op_le op_le pe_int (pe_callB call_len_str (by rfl) T.zLen PySem.boot_len (pa_cons (pv 0) pa_nil)) pe_int))))) (pss_one (ps_ret pe_bl)) pss_nil)
      (pss_one (ps_ret (pe_callB (cr_all rfl) (by rfl) T.zAll bt_all (pa_cons
        (pe_lc (own := [("_law_letter", 1)]) (g := gName 1) (tt := tYes) rfl nd (pi_str (pv 0)) (blkOk_by (N := ["_law_value", "_law_letter"]) (sc := defScope sLIsWord) (by decide +kernel))
          (fun _ _ _ _ _ => pg_name (i := 1) nd rfl (.inl rfl)) (fun _ _ _ _ _ => pts_nil) (fun _ _ _ _ _ => pe_cmpR op_in_sign (pv 1) (pe_str (x := letters)) (by rfl))) pa_nil)))), ?_⟩
    have q0 := q H (Same.refl _)
    rcases pv_cases hv with ⟨x, rfl, hx, _⟩ | ⟨i, rfl⟩ | rfl | ⟨b, rfl⟩
    · refine ⟨_, rfl, _, .ty "str", _, _, true, rfl, .ty "str", .base (.str _), kit_ty (by decide +kernel), _, rfl, iteF ?_⟩
      refine ⟨_, rfl, x, rfl, sz1 (by omega), _, _, rfl, rfl, _, rfl, ?_⟩
      have ew : wordB (.str x) = wordS x := rfl
      rw [ew] at q0
      rw [tru_one]
      by_cases h1 : 1 ≤ x.length
      · refine iteA (decide_eq_true h1) ⟨_, _, rfl, rfl, _, rfl, ?_⟩
        rw [tru_eight]
        by_cases h8 : x.length ≤ 8
        · rw [decide_eq_true h8]
          refine iteF ?_
          refine ⟨_, rfl, x, rfl, fun D hD => lc_str (x := x) (fun i G => G D = some (.lst ((((tl x).take i).map fun c => decide (c ∈ letters.cps.toList)).map V.bl)) ∧ Same H G) ⟨upd_same, same_lay hD⟩ ?_ ?_⟩
          · rintro i c G hc ⟨hd, s⟩
            have hi : i < x.length := by
              have := (List.getElem?_eq_some_iff.mp hc).1
              rw [TL.len_tl]
              exact this
            refine ⟨rfl, yesT ?_⟩
            refine ⟨_, rfl, c, letters, rfl, rfl, _, hd, small1000 (by rw [List.length_map, List.length_map, List.length_take]; omega), ?_, same_upd s hD⟩
            obtain ⟨hi2, ec⟩ := List.getElem?_eq_some_iff.mp hc
            rw [upd_same, List.take_succ_eq_append_getElem hi2, ec, List.map_append, List.map_append]
            rfl
          · rintro G ⟨hd, s⟩
            refine ⟨D, _, rfl, .inl (.inl hd), ?_⟩
            have e : (((tl x).take x.length).map fun c => decide (c ∈ letters.cps.toList)).all id = wordS x := by
              unfold wordS
              rw [decide_eq_true h1, decide_eq_true h8, Bool.true_and, Bool.true_and, List.all_map, List.take_of_length_le (by rw [← TL.len_tl]; exact Nat.le_refl _)]
              rfl
            rw [e, ← ew]
            exact q G s
        · rw [decide_eq_false h8]
          have e : wordS x = false := by unfold wordS; rw [decide_eq_false h8]; simp
          rw [e] at q0
          exact iteT q0
      · have e : wordS x = false := by unfold wordS; rw [decide_eq_false h1]; simp
        rw [e] at q0
        exact iteB (decide_eq_false h1) ⟨_, rfl, iteT q0⟩
    · exact ⟨_, rfl, _, .ty "str", _, _, false, rfl, .ty "str", .base (.int _), kit_ty (by decide +kernel), _, rfl, iteT q0⟩
    · exact ⟨_, rfl, _, .ty "str", _, _, false, rfl, .ty "str", .base .non, kit_ty (by decide +kernel), _, rfl, iteT q0⟩
    · exact ⟨_, rfl, _, .ty "str", _, _, false, rfl, .ty "str", .base (.bl _), kit_ty (by decide +kernel), _, rfl, iteT q0⟩
end
/-! ### errors with one field -/
structure ErT (K : PySem.W.Frag) (mg : Str → Option Value) (x fl : Str) (CB CR fI : Addr) : Prop where
  gB : mg x = some (.ref CB)
  gR : mg "RangesError" = some (.ref CR)
  zV : mg "ValueError" = none
  ox : OexC K CB
  xf : XfC K CB
  xc : ExcC K CB
  noI : PySem.W.findIn K (.ref CB) fl = some none
  iC : PySem.W.findIn K (.ref CB) "__init__" = some (some (.ref fI))
  tI : PySem.W.typeIn K (.ref fI) = some (.type "function")
  self : PySem.W.exmOne K (.ref CB) (.ref CB) = some true
  kR : PySem.W.kitOne K (.ref CB) (.ref CR) = some true
  kV : PySem.W.kitOne K (.ref CB) (.type "ValueError") = some true
def spErI (CB : Addr) (fl : Str) : Sp := fun vs H Q _ => ∃ (a : Addr) (v : V), vs = [.ref a, v] ∧ H a = some (exo a CB none) ∧ ∀ dx, H dx = none → dx ≠ a → Q .non (upd (upd H dx (exd dx [(fl, v)])) a (exo a CB (some dx)))
/-- an error of the class at CB, with its field, is let out -/
def Raised (E : XK) (CB : Addr) (fl : Str) (v : V) (H : Hp) : Prop := ∀ (d : Addr) (H' : Hp), H d = none → H' d = some (.xd [(fl, v)]) → Same H H' → E (.ref CB) (some d) H'
theorem Raised.up {E : XK} {CB : Addr} {fl : Str} {v : V} {H H' : Hp} (h : Raised E CB fl v H) (s : Same H H') : Raised E CB fl v H' := fun d G nd hd s2 => h d G (s.free nd) hd (s.trans s2)
theorem raise_any {E : XK} {H : Hp} {CB : Addr} {fl : Str} {v : V} (q : Raised E CB fl v H) : [v].length ≤ 1000 ∧ ∀ a, H a = none → spErI CB fl (.ref a :: ([v] ++ [])) (upd H a (exo a CB none))
    (fun u H2 => u = .non ∧ ∃ (d : Addr) (fs : List (Str × V)), H2 a = some (exo a CB (some d)) ∧ H2 d = some (exd d fs) ∧ H d = none ∧ E (.ref CB) (some d) (upd (del H2 a) d (.xd fs))) (fun _ _ _ => False) := by
  refine ⟨by show 1 ≤ 1000; decide, fun a na => ⟨a, _, rfl, upd_same, fun d nd1 ne1 => ?_⟩⟩
  rw [upd_ne ne1] at nd1
  refine ⟨rfl, d, [(fl, v)], upd_same, by rw [upd_ne ne1]; exact upd_same, nd1, q d _ nd1 upd_same fun c o e => ?_⟩
  have nca : c ≠ a := ne_of_none e na
  have ncd : c ≠ d := ne_of_none e nd1
  rw [upd_ne ncd, del_ne nca, upd_ne nca, upd_ne ncd, upd_ne nca]
  exact e
section
variable {P : Program} {w : World} {K : PySem.W.Frag} {mg : Str → Option Value} {base : Heap} {ts tw : Addr}
theorem scErBf : FnScope ["self", "count"] ["self", "count"] (defScope sBadFunctionsInit) := ⟨rfl, rfl, rfl, by decide +kernel, rfl, by decide +kernel, by decide +kernel⟩
theorem ok_erBf {f CB CR fI : Addr} {fd : FuncData} (F : Fun K "__init__" "BadFunctions.__init__" sBadFunctionsInit f fd) (T : ErT K mg "BadFunctions" "count" CB CR fI) : FnOk P w K mg base CX0 1 f fd ["self", "count"] (spErI CB "count") := by
  refine F.ok scErBf (fun vs H Q E h => ?_) (fun cdv A outer s H vs Q E hr h => ?_)
  · obtain ⟨a, v, rfl, _⟩ := h
    rfl
  · obtain ⟨a, v, rfl, ha, q⟩ := h
    refine ⟨_, pss_one (ps_ost (pv 0) (pv 1)), ?_⟩
    exact ⟨_, rfl, _, rfl, a, CB, rfl, T.ox, T.noI, .inl ⟨ha, q⟩⟩
theorem scErBw : FnScope ["self", "word"] ["self", "word"] (defScope sBadWordInit) := ⟨rfl, rfl, rfl, by decide +kernel, rfl, by decide +kernel, by decide +kernel⟩
theorem ok_erBw {f CB CR fI : Addr} {fd : FuncData} (F : Fun K "__init__" "BadWord.__init__" sBadWordInit f fd) (T : ErT K mg "BadWord" "word" CB CR fI) : FnOk P w K mg base CX0 1 f fd ["self", "word"] (spErI CB "word") := by
  refine F.ok scErBw (fun vs H Q E h => ?_) (fun cdv A outer s H vs Q E hr h => ?_)
  · obtain ⟨a, v, rfl, _⟩ := h
    rfl
  · obtain ⟨a, v, rfl, ha, q⟩ := h
    refine ⟨_, pss_one (ps_ost (pv 0) (pv 1)), ?_⟩
    exact ⟨_, rfl, _, rfl, a, CB, rfl, T.ox, T.noI, .inl ⟨ha, q⟩⟩
theorem scErTw : FnScope ["self", "word"] ["self", "word"] (defScope sTwiceInit) := ⟨rfl, rfl, rfl, by decide +kernel, rfl, by decide +kernel, by decide +kernel⟩
theorem ok_erTw {f CB CR fI : Addr} {fd : FuncData} (F : Fun K "__init__" "Twice.__init__" sTwiceInit f fd) (T : ErT K mg "Twice" "word" CB CR fI) : FnOk P w K mg base CX0 1 f fd ["self", "word"] (spErI CB "word") := by
  refine F.ok scErTw (fun vs H Q E h => ?_) (fun cdv A outer s H vs Q E hr h => ?_)
  · obtain ⟨a, v, rfl, _⟩ := h
    rfl
  · obtain ⟨a, v, rfl, ha, q⟩ := h
    refine ⟨_, pss_one (ps_ost (pv 0) (pv 1)), ?_⟩
    exact ⟨_, rfl, _, rfl, a, CB, rfl, T.ox, T.noI, .inl ⟨ha, q⟩⟩
theorem scErNp : FnScope ["self", "place"] ["self", "place"] (defScope sNoPlaceInit) := ⟨rfl, rfl, rfl, by decide +kernel, rfl, by decide +kernel, by decide +kernel⟩
theorem ok_erNp {f CB CR fI : Addr} {fd : FuncData} (F : Fun K "__init__" "NoPlace.__init__" sNoPlaceInit f fd) (T : ErT K mg "NoPlace" "place" CB CR fI) : FnOk P w K mg base CX0 1 f fd ["self", "place"] (spErI CB "place") := by
  refine F.ok scErNp (fun vs H Q E h => ?_) (fun cdv A outer s H vs Q E hr h => ?_)
  · obtain ⟨a, v, rfl, _⟩ := h
    rfl
  · obtain ⟨a, v, rfl, ha, q⟩ := h
    refine ⟨_, pss_one (ps_ost (pv 0) (pv 1)), ?_⟩
    exact ⟨_, rfl, _, rfl, a, CB, rfl, T.ox, T.noI, .inl ⟨ha, q⟩⟩
theorem scErTm : FnScope ["self", "count"] ["self", "count"] (defScope sTooManyInit) := ⟨rfl, rfl, rfl, by decide +kernel, rfl, by decide +kernel, by decide +kernel⟩
theorem ok_erTm {f CB CR fI : Addr} {fd : FuncData} (F : Fun K "__init__" "TooMany.__init__" sTooManyInit f fd) (T : ErT K mg "TooMany" "count" CB CR fI) : FnOk P w K mg base CX0 1 f fd ["self", "count"] (spErI CB "count") := by
  refine F.ok scErTm (fun vs H Q E h => ?_) (fun cdv A outer s H vs Q E hr h => ?_)
  · obtain ⟨a, v, rfl, _⟩ := h
    rfl
  · obtain ⟨a, v, rfl, ha, q⟩ := h
    refine ⟨_, pss_one (ps_ost (pv 0) (pv 1)), ?_⟩
    exact ⟨_, rfl, _, rfl, a, CB, rfl, T.ox, T.noI, .inl ⟨ha, q⟩⟩
theorem scErNc : FnScope ["self", "index"] ["self", "index"] (defScope sNoClauseInit) := ⟨rfl, rfl, rfl, by decide +kernel, rfl, by decide +kernel, by decide +kernel⟩
theorem ok_erNc {f CB CR fI : Addr} {fd : FuncData} (F : Fun K "__init__" "NoClause.__init__" sNoClauseInit f fd) (T : ErT K mg "NoClause" "index" CB CR fI) : FnOk P w K mg base CX0 1 f fd ["self", "index"] (spErI CB "index") := by
  refine F.ok scErNc (fun vs H Q E h => ?_) (fun cdv A outer s H vs Q E hr h => ?_)
  · obtain ⟨a, v, rfl, _⟩ := h
    rfl
  · obtain ⟨a, v, rfl, ha, q⟩ := h
    refine ⟨_, pss_one (ps_ost (pv 0) (pv 1)), ?_⟩
    exact ⟨_, rfl, _, rfl, a, CB, rfl, T.ox, T.noI, .inl ⟨ha, q⟩⟩
theorem scErNf : FnScope ["self", "function"] ["self", "function"] (defScope sNoFunctionInit) := ⟨rfl, rfl, rfl, by decide +kernel, rfl, by decide +kernel, by decide +kernel⟩
theorem ok_erNf {f CB CR fI : Addr} {fd : FuncData} (F : Fun K "__init__" "NoFunction.__init__" sNoFunctionInit f fd) (T : ErT K mg "NoFunction" "function" CB CR fI) : FnOk P w K mg base CX0 1 f fd ["self", "function"] (spErI CB "function") := by
  refine F.ok scErNf (fun vs H Q E h => ?_) (fun cdv A outer s H vs Q E hr h => ?_)
  · obtain ⟨a, v, rfl, _⟩ := h
    rfl
  · obtain ⟨a, v, rfl, ha, q⟩ := h
    refine ⟨_, pss_one (ps_ost (pv 0) (pv 1)), ?_⟩
    exact ⟨_, rfl, _, rfl, a, CB, rfl, T.ox, T.noI, .inl ⟨ha, q⟩⟩
/-- a class and its __init__ -/
structure ErK (P : Program) (w : World) (K : PySem.W.Frag) (mg : Str → Option Value) (base : Heap) (x fl : Str) (CB CR : Addr) : Prop where
  ex : ∃ (fI : Addr) (fd : FuncData), ErT K mg x fl CB CR fI ∧ FnOk P w K mg base CX0 1 fI fd ["self", fl] (spErI CB fl) ∧ Binds K fd ["self", fl] []
def spChkWX (CW : Addr) : Sp := fun vs H Q E => ∃ v : V, vs = [v] ∧ PV v ∧ (wordB v = true → ∀ H', Same H H' → Q .non H') ∧ (wordB v = false → Raised E CW "word" v H)
theorem ok_chkwX {f CW CR : Addr} {fd : FuncData} (F : Fun K "check_word" "check_word" sChkW f fd) (EK : ErK P w K mg base "BadWord" "word" CW CR) (IW : Cl P w K mg base 1 "is_word" ["value"] spIsWordV) : FnOk P w K mg base (L2.CX P w) 3 f fd ["value"] (spChkWX CW) := by
  obtain ⟨fI, fdI, T, FN, bN⟩ := EK.ex
  refine F.okX scKW (fun vs H Q E h => ?_) (fun cdv A outer s H vs Q E hr h => ?_)
  · obtain ⟨v, rfl, _⟩ := h
    rfl
  · obtain ⟨v, rfl, hv, qy, qn⟩ := h
    have room : Room (1 + 1) _ := hr.mono (by decide)
    refine ⟨_, pss_one (ps_if (pt_not (pt_val (pe_cl IW hr (by decide) (by rfl) (pa_cons (pv 0) pa_nil)))) (pss_one (ps_raise rfl (takes_of rfl rfl rfl rfl) (pmk_oex T.ox T.iC T.tI FN room bN .nil pass0 (by rfl) T.gB (pa_cons (pv 0) pa_nil)))) pss_nil), ?_⟩
    refine ⟨_, rfl, v, rfl, hv, fun H' s => ⟨_, rfl, ?_⟩⟩
    cases hw : wordB v with
    | true => exact iteF (qy hw H' s)
    | false => exact iteT ⟨_, rfl, raise_any ((qn hw).up s)⟩
end
end OR

namespace OR
open PySem PySem.Spec PyProof.Rows L2
/-! ### Places: rank, the member at k -/
def mx (x y : Int) : Int := if y > x then y else x
def mn (x y : Int) : Int := if y < x then y else x
theorem mx_ok (x y : Int) : x ≤ mx x y ∧ y ≤ mx x y ∧ (mx x y = x ∨ mx x y = y) := by
  unfold mx
  split <;> omega
theorem mn_ok (x y : Int) : mn x y ≤ x ∧ mn x y ≤ y ∧ (mn x y = x ∨ mn x y = y) := by
  unfold mn
  split <;> omega
def hasB (l : List Row) (z : Int) : Bool := l.any fun r => decide (r.1 ≤ z) && decide (z ≤ r.2)
theorem hasB_iff (l : List Row) (z : Int) : hasB l z = true ↔ mem l z := by
  unfold hasB
  rw [List.any_eq_true]
  constructor
  · rintro ⟨r, hr, h⟩
    rw [Bool.and_eq_true, decide_eq_true_eq, decide_eq_true_eq] at h
    exact ⟨r, hr, h.1, h.2⟩
  · rintro ⟨r, hr, h1, h2⟩
    exact ⟨r, hr, by rw [Bool.and_eq_true, decide_eq_true_eq, decide_eq_true_eq]; exact ⟨h1, h2⟩⟩
theorem tot_from (l : List Row) (t : Int) : l.foldl (fun t r => t + r.2 - r.1 + 1) t = t + tot l := by
  induction l generalizing t with
  | nil =>
    show t = t + 0
    omega
  | cons r l ih =>
    show l.foldl (fun t r => t + r.2 - r.1 + 1) (t + r.2 - r.1 + 1) = t + l.foldl (fun t r => t + r.2 - r.1 + 1) (0 + r.2 - r.1 + 1)
    rw [ih, ih]
    omega
theorem tot_cons (r : Row) (l : List Row) : tot (r :: l) = (r.2 - r.1 + 1) + tot l := by
  show l.foldl (fun t r => t + r.2 - r.1 + 1) (0 + r.2 - r.1 + 1) = _
  rw [tot_from]
  omega
theorem tot_nil : tot [] = 0 := rfl
theorem tot_nonneg : ∀ {l : List Row}, Nf l → 0 ≤ tot l
  | [], _ => Int.le_refl _
  | r :: l, n => by
    have := tot_nonneg n.tail
    have := n.head
    rw [tot_cons]
    omega
/-- n of the numbers are at most x -/
structure Upto (ns : List Int) (x : Int) (n : Nat) : Prop where
  le : n ≤ ns.length
  lo : ∀ (i : Nat) (v : Int), i < n → ns[i]? = some v → v ≤ x
  hi : ∀ (i : Nat) (v : Int), n ≤ i → ns[i]? = some v → x < v
theorem nf_lt {l : List Row} (h : Nf l) {i j : Nat} {r s : Row} (hi : l[i]? = some r) (hj : l[j]? = some s) (hij : i < j) : r.2 + 1 < s.1 := by
  obtain ⟨a, e1⟩ := List.getElem?_eq_some_iff.mp hi
  obtain ⟨b, e2⟩ := List.getElem?_eq_some_iff.mp hj
  have := List.pairwise_iff_getElem.mp h.gap i j a b hij
  rw [e1, e2] at this
  exact this
theorem firsts_at {l : List Row} {i : Nat} {r : Row} (h : l[i]? = some r) : (l.map (·.1))[i]? = some r.1 := by rw [List.getElem?_map, h]; rfl
theorem has_upto {l : List Row} (h : Nf l) {x : Int} {n : Nat} (u : Upto (l.map (·.1)) x n) : hasB l x = true ↔ ∃ m r, n = m + 1 ∧ l[m]? = some r ∧ x ≤ r.2 := by
  rw [hasB_iff]
  constructor
  · rintro ⟨r, hr, h1, h2⟩
    obtain ⟨i, hi⟩ := List.getElem?_of_mem hr
    have hin : i < n := by
      refine Classical.byContradiction fun c => ?_
      have := u.hi i r.1 (by omega) (firsts_at hi)
      omega
    obtain ⟨m, rfl⟩ : ∃ m, n = m + 1 := ⟨n - 1, by omega⟩
    rcases Nat.lt_or_eq_of_le (Nat.le_of_lt_succ hin) with c | c
    · have hl := u.le
      rw [List.length_map] at hl
      obtain ⟨s, hs⟩ : ∃ s, l[m]? = some s := ⟨l[m], List.getElem?_eq_getElem (by omega)⟩
      have a := nf_lt h hi hs c
      have b := u.lo m s.1 (Nat.lt_succ_self m) (firsts_at hs)
      omega
    · subst c
      exact ⟨i, r, rfl, hi, h2⟩
  · rintro ⟨m, r, rfl, hm, h2⟩
    exact ⟨r, List.mem_of_getElem? hm, u.lo m r.1 (Nat.lt_succ_self m) (firsts_at hm), h2⟩
/-- the law's own member -/
def memK : List Row → Int → Option Int
  | [], _ => none
  | r :: l, k => if 0 ≤ k ∧ k ≤ r.2 - r.1 then some (r.1 + k) else memK l (k - (r.2 - r.1 + 1))
theorem memK_at : ∀ {l : List Row} {k : Int} {j : Nat} {r : Row}, Nf l → l[j]? = some r → tot (l.take j) ≤ k → k - tot (l.take j) ≤ r.2 - r.1 → memK l k = some (r.1 + (k - tot (l.take j)))
  | [], k, j, r, _, h, _, _ => by simp at h
  | q :: l, k, 0, r, n, h, h1, h2 => by
    have e : q = r := Option.some.inj h
    subst e
    have h1' : 0 ≤ k := h1
    have h2' : k - 0 ≤ q.2 - q.1 := h2
    show (if 0 ≤ k ∧ k ≤ q.2 - q.1 then _ else _) = some (q.1 + (k - 0))
    rw [if_pos ⟨h1', by omega⟩]
    congr 2
    omega
  | q :: l, k, j + 1, r, n, h, h1, h2 => by
    have et : tot ((q :: l).take (j + 1)) = (q.2 - q.1 + 1) + tot (l.take j) := tot_cons q (l.take j)
    rw [et] at h1 h2 ⊢
    have hp : 0 ≤ tot (l.take j) := tot_nonneg ⟨fun x hx => n.tail.ok x (List.mem_of_mem_take hx), n.tail.gap.sublist (List.take_sublist _ _)⟩
    have hq := n.head
    have ih := memK_at (k := k - (q.2 - q.1 + 1)) n.tail (show l[j]? = some r from h) (by omega) (by omega)
    show (if 0 ≤ k ∧ k ≤ q.2 - q.1 then _ else _) = _
    rw [if_neg (by omega), ih]
    congr 2
    omega
theorem memK_over : ∀ {l : List Row} {k : Int}, Nf l → tot l ≤ k → memK l k = none
  | [], _, _, _ => rfl
  | q :: l, k, n, h => by
    rw [tot_cons] at h
    have hp := tot_nonneg n.tail
    have hq := n.head
    show (if 0 ≤ k ∧ k ≤ q.2 - q.1 then _ else _) = _
    rw [if_neg (by omega)]
    exact memK_over n.tail (by omega)
/-- befs are the sums ahead -/
theorem befs_at {l : List Row} {j : Nat} (h : j < l.length) : (befs l)[j]? = some (tot (l.take j)) := by
  unfold befs
  rw [List.getElem?_map, List.getElem?_range h]
  rfl
theorem befs_len (l : List Row) : (befs l).length = l.length := by
  unfold befs
  rw [List.length_map, List.length_range]
theorem nf_take {l : List Row} (n : Nf l) (j : Nat) : Nf (l.take j) := ⟨fun x hx => n.ok x (List.mem_of_mem_take hx), n.gap.sublist (List.take_sublist _ _)⟩
theorem tot_step {l : List Row} {j : Nat} {r : Row} (h : l[j]? = some r) : tot (l.take (j + 1)) = tot (l.take j) + r.2 - r.1 + 1 := by
  rw [List.take_add_one, h]
  exact tot_snoc _ _
theorem befs_asc {l : List Row} (n : Nf l) : (befs l).Pairwise (· < ·) := by
  refine List.pairwise_iff_getElem.mpr fun i j hi hj hij => ?_
  rw [befs_len] at hi hj
  have e1 := befs_at hi
  have e2 := befs_at hj
  rw [List.getElem?_eq_getElem (by rw [befs_len]; exact hi)] at e1
  rw [List.getElem?_eq_getElem (by rw [befs_len]; exact hj)] at e2
  rw [Option.some.inj e1, Option.some.inj e2]
  obtain ⟨d, rfl⟩ : ∃ d, j = i + 1 + d := ⟨j - (i + 1), by omega⟩
  have go : ∀ d, i + 1 + d ≤ l.length → tot (l.take i) < tot (l.take (i + 1 + d)) := by
    intro d
    induction d with
    | zero =>
      intro hd
      have hg : l[i]? = some l[i] := List.getElem?_eq_getElem (by omega)
      have := tot_step hg
      have := n.ok _ (List.mem_of_getElem? hg)
      rw [Nat.add_zero]
      omega
    | succ d ih =>
      intro hd
      have a := ih (by omega)
      have hg : l[i + 1 + d]? = some l[i + 1 + d] := List.getElem?_eq_getElem (by omega)
      have b := tot_step hg
      have c := n.ok _ (List.mem_of_getElem? hg)
      rw [show i + 1 + (d + 1) = i + 1 + d + 1 by omega]
      omega
  exact go d (by omega)
theorem firsts_asc {l : List Row} (n : Nf l) : (l.map (·.1)).Pairwise (· < ·) := List.pairwise_map.mpr (n.gap.imp_of_mem fun {a b} ha hb h => by have := n.ok a ha; omega)
/-- the member at k, by befs -/
theorem member_upto {l : List Row} (n : Nf l) {k : Int} (h0 : 0 ≤ k) (h1 : k < tot l) {m : Nat} (u : Upto (befs l) k m) : ∃ j r, m = j + 1 ∧ l[j]? = some r ∧ tot (l.take j) ≤ k ∧ k - tot (l.take j) ≤ r.2 - r.1 := by
  have hl := u.le
  rw [befs_len] at hl
  have pos : 0 < l.length := by
    cases l with
    | nil => rw [tot_nil] at h1; omega
    | cons _ _ => exact Nat.succ_pos _
  have m0 : m ≠ 0 := fun e => by
    subst e
    have := u.hi 0 _ (Nat.le_refl _) (befs_at pos)
    rw [List.take_zero, tot_nil] at this
    omega
  obtain ⟨j, rfl⟩ : ∃ j, m = j + 1 := ⟨m - 1, by omega⟩
  have hg : l[j]? = some l[j] := List.getElem?_eq_getElem (by omega)
  have lo := u.lo j _ (Nat.lt_succ_self j) (befs_at (by omega))
  refine ⟨j, l[j], rfl, hg, lo, ?_⟩
  have st := tot_step hg
  by_cases c : j + 1 < l.length
  · have := u.hi (j + 1) _ (Nat.le_refl _) (befs_at c)
    omega
  · rw [show l.take (j + 1) = l from List.take_of_length_le (by omega)] at st
    omega
/-- how many are below x -/
def rkT (x : Int) (r : Row) : Int := mn r.2 (x - 1) - r.1 + 1
def rk (l : List Row) (x : Int) : Int := l.foldl (fun a r => if r.1 < x then a + rkT x r else a) 0
theorem rk_from (x : Int) : ∀ (l : List Row) (a : Int), l.foldl (fun a r => if r.1 < x then a + rkT x r else a) a = a + rk l x
  | [], a => by show a = a + 0; omega
  | r :: l, a => by
    show l.foldl _ (if r.1 < x then a + rkT x r else a) = a + l.foldl _ (if r.1 < x then 0 + rkT x r else 0)
    rw [rk_from x l, rk_from x l]
    split <;> omega
theorem rk_cons (r : Row) (l : List Row) (x : Int) : rk (r :: l) x = (if r.1 < x then rkT x r else 0) + rk l x := by
  show l.foldl _ (if r.1 < x then 0 + rkT x r else 0) = _
  rw [rk_from]
  split <;> omega
theorem rk_snoc (l : List Row) (r : Row) (x : Int) : rk (l ++ [r]) x = rk l x + (if r.1 < x then rkT x r else 0) := by
  unfold rk
  rw [List.foldl_append]
  show (if r.1 < x then _ + rkT x r else _) = _
  split <;> omega
theorem rk_zero {x : Int} : ∀ {l : List Row}, (∀ r ∈ l, x ≤ r.1) → rk l x = 0
  | [], _ => rfl
  | r :: l, h => by
    rw [rk_cons, rk_zero fun q hq => h q (List.mem_cons_of_mem _ hq), if_neg (by have := h r List.mem_cons_self; omega)]
    rfl
theorem rk_full {x : Int} : ∀ {l : List Row}, (∀ r ∈ l, r.1 ≤ r.2 ∧ r.2 < x) → rk l x = tot l
  | [], _ => rfl
  | r :: l, h => by
    have a := h r List.mem_cons_self
    have m := mn_ok r.2 (x - 1)
    rw [rk_cons, rk_full fun q hq => h q (List.mem_cons_of_mem _ hq), tot_cons, if_pos (by omega)]
    unfold rkT
    omega
theorem rk_app (l m : List Row) (x : Int) : rk (l ++ m) x = rk l x + rk m x := by
  unfold rk
  rw [List.foldl_append, rk_from]
  rfl
theorem rank_upto {l : List Row} (n : Nf l) {x : Int} {m : Nat} (u : Upto (l.map (·.1)) x m) : (m = 0 → rk l x = 0) ∧ ∀ j r, m = j + 1 → l[j]? = some r → rk l x = tot (l.take j) + mn x (r.2 + 1) - r.1 := by
  have above : ∀ r ∈ l.drop m, x ≤ r.1 := fun r hr => by
    obtain ⟨i, hi⟩ := List.getElem?_of_mem hr
    rw [List.getElem?_drop] at hi
    have := u.hi (m + i) r.1 (by omega) (firsts_at hi)
    omega
  refine ⟨fun e => ?_, fun j r e hj => ?_⟩
  · subst e
    exact rk_zero above
  · subst e
    have hl := (List.getElem?_eq_some_iff.mp hj).1
    have e1 : l = l.take j ++ (r :: l.drop (j + 1)) := by
      conv => lhs; rw [← List.take_append_drop j l]
      rw [List.drop_eq_getElem_cons hl, (List.getElem?_eq_some_iff.mp hj).2]
    have lo := u.lo j r.1 (Nat.lt_succ_self j) (firsts_at hj)
    have below : ∀ q ∈ l.take j, q.1 ≤ q.2 ∧ q.2 < x := fun q hq => by
      obtain ⟨i, hi⟩ := List.getElem?_of_mem hq
      have hij : i < j := by
        have := (List.getElem?_eq_some_iff.mp hi).1
        rw [List.length_take] at this
        omega
      rw [List.getElem?_take_of_lt hij] at hi
      have a := nf_lt n hi hj hij
      exact ⟨n.ok q (List.mem_of_getElem? hi), by omega⟩
    have a := rk_full below
    have b := rk_zero above
    have c := rk_app (l.take j) (r :: l.drop (j + 1)) x
    rw [← e1, rk_cons, a, b] at c
    rw [c]
    have hr := n.ok r (List.mem_of_getElem? hj)
    have k1 := mn_ok r.2 (x - 1)
    have k2 := mn_ok x (r.2 + 1)
    unfold rkT
    split <;> omega
theorem make_at {X : Cx} {CX : CXT} {k : Nat} {f C : Addr} {fd : FuncData} {ps : List Str} {sp : Sp} {E : XK} {ds : List Value} {dvs : List V} {pins : List (Addr × Obj)} {σ : L2.St} {H : Hp} {s : Shared} {Q : VK} {us : List Value} {vs : List V} (M : Mk X.K C f)
    (F : FnOk X.prog X.w X.K X.mg X.base CX k f fd ps sp) (room : Room (k + 1) X.A) (hb : Binds X.K fd ps ds) (hd : Vals dvs ds) (hx : PassesAt CX X σ E) (I : Inv X pins σ H s) (r : Vals vs us)
    (h : ∀ x dx, H x = none → H dx = none → dx ≠ x → sp (.ref x :: (vs ++ dvs)) (upd (upd H dx (.own x)) x (.ins C dx [])) (fun v H2 => v = .non ∧ Q (.ref x) H2) E) :
    wpAny (model X.prog X.w) X.A (call (.ref C) us) (EP X pins σ Q) X.xe s := by
  let n := s.heap.objs.size
  have hn := h (n + 1) n (I.hok.fresh (Nat.le_succ _)) (I.hok.fresh (Nat.le_refl _)) (Nat.ne_of_lt (Nat.lt_succ_self _))
  have J := Inv.made (C := C) I
  have rs : Vals (V.ref (n + 1) :: (vs ++ dvs)) (Value.ref (n + 1) :: (us ++ ds)) := .cons rfl (r.append hd)
  have ln : (Value.ref (n + 1) :: us ++ ds).length = ps.length := (rs.length.symm.trans (F.len _ _ _ _ hn))
  have body := F.run _ X.stack _ _ ⟨Value.ref (n + 1) :: us, []⟩ (Value.ref (n + 1) :: (us ++ ds)) _ _ E (room.make C us []) (J.env0.make C us []) (hb _ (Value.ref (n + 1) :: us) J.kIn ln) rs hn
  refine wpAny_call (make_map (f := f) I.kIn M.makes M.init (beq_iff_eq.mp M.fn) (codeAny_mono body fun r s' g => ?_))
  rcases r with e | fl
  · exact hx pins _ _ e s' J g
  cases fl with
  | ret u =>
    obtain ⟨v, H', I3, rv, ev, g3⟩ := J.after g
    subst ev
    exact ⟨rv, ⟨V.ref (n + 1), H', I3, rfl, g3⟩⟩
  | _ => exact False.elim g
/-- C(..) with the wish of a try -/
def tMakeS (C : Addr) (sp : Sp) (dvs : List V) (E : L2.St → XK) (t : TA) : TE := fun σ H Q => t σ H fun vs H1 => ∀ x dx, H1 x = none → H1 dx = none → dx ≠ x →
  sp (.ref x :: (vs ++ dvs)) (upd (upd H1 dx (.own x)) x (.ins C dx [])) (fun v H2 => v = .non ∧ Q (.ref x) H2) (E σ)
theorem pe_makeS {X : Cx} {CX : CXT} {k : Nat} {f C : Addr} {fd : FuncData} {ps : List Str} {sp : Sp} {E : L2.St → XK} {ds : List Value} {dvs : List V} {x : Str} {e : Expr} {es : List Expr} {t : TA} {p pos : Pos} (M : Mk X.K C f) (F : FnOk X.prog X.w X.K X.mg X.base CX k f fd ps sp) (room : Room (k + 1) X.A)
    (hg : Gl X x) (hm : X.mg x = some (.ref C)) (hb : Binds X.K fd ps ds) (hd : Vals dvs ds) (hx : ∀ σ, PassesAt CX X σ (E σ)) (ha : PA X (e :: es) t) (hdb : (x == ("__debug__" : Str)) = false := by decide)
    (he : starEach (e :: es) X.env = (false, eval e X.env) :: starEach es X.env := by rfl) (hpl : (backTo pos (starEach es X.env)).any (·.1) = false := by rfl) : PE X (.Call (.Name x p) (e :: es) [] pos) (tMakeS C sp dvs E t) := by
  refine ⟨fun pins s σ H Q I h => wpAny_Call_Name_kw (ld_glob I hg hm ?_ hdb)⟩
  exact PySem.W.callWith_K (h₀ := X.base) I.ok.mod.kin M.kp (thn (ha.run pos pins s σ H _ I h) fun us s1 ⟨vs, H1, I1, r, q⟩ => ⟨I1.kIn, make_at M F room hb hd (hx σ) I1 r q⟩) he hpl
/-! exceptions held; own __getitem__ -/
def rIsX (K : PySem.W.Frag) (D a : Addr) (cls : Value) (d : Option Addr) : List V → Hp → VK → Prop := fun xs H Q => cls = .ref D ∧ ∃ (dd : Addr) (fs : List (Str × V)), d = some dd ∧ H dd = some (.xd fs) ∧ ∃ (c : V) (cv : Value) (b : Bool), xs = [.ref a, c] ∧ (∀ u, RelV c u → u = cv) ∧ PySem.W.kitOne K (.ref D) cv = some b ∧ Q (.bl b) H
theorem call_isX {X : Cx} {a D : Addr} {oe : Obj} {cls : Value} {d : Option Addr} {pn : List (Addr × Obj)} (G : ExcC X.K D) (hz : Zc cls d oe) (hf : ∃ vs, oe.data = .fields vs) : CallR (X.suite a ((a, oe) :: pn)) (.builtin "isinstance") (rIsX X.K D a cls d) := by
  intro pins s σ H xs us Q I r h
  obtain ⟨ec, dd, fs, ed, hdd, c, cv, b, rfl, hcv, hk, q⟩ := h
  subst ec ed
  obtain ⟨u1, u2, rfl, r1, r2⟩ := r.two
  cases r1
  have e2 := hcv _ r2
  subst e2
  have pinned := (I.pin (a, oe) (List.mem_append.mpr (.inl List.mem_cons_self))).1
  obtain ⟨vs, hdat⟩ := hf
  obtain ⟨mA, hns, _⟩ := I.hok dd _ hdd
  obtain ⟨od, ho, _⟩ := lookIn_ns hns
  have J : PySem.W.InstAt s.heap a oe D (some od) := ⟨pinned, hz.1, by unfold PySem.W.notCls; rw [hdat] <;> rfl, by rw [hz.2]; exact ho⟩
  have hcl : (PySem.W.clsIn X.K D).isSome = true := by
    obtain ⟨cd, hc, _⟩ := PySem.W.any_some G.hd
    rw [hc]
    rfl
  exact PySem.W.kia_one (PySem.W.kitx_exc hcl G.hg G.hk G.hs G.ha G.hn G.ht G.hm) I.kIn J hk (fun z => nomatch z) fun tk => ⟨.bl b, H, I.kept (t' := tk) fun _ _ z => z, rfl, q⟩

theorem run_atS {X : Cx} {CX : CXT} {n : Nat} {f : Addr} {sp : Sp} {E : XK} {A' : Around} {pins : List (Addr × Obj)} {σ : L2.St} {H : Hp} {s : Shared} {Q : VK} {us : List Value} {vs : List V} (F : FnR X.prog X.w X.K X.mg X.base CX n f sp) (room : Room n A') (e0 : Env0 X.prog X.w X.K X.mg X.base A' X.stack s H) (hx : PassesAt CX X σ E)
    (I : Inv X pins σ H s) (r : Vals vs us) (h : sp vs H Q E) : codeAny (model X.prog X.w) A' (.call (.ref f) ⟨us, []⟩) (fun r s' => match r with | .ok (.ret v) => EP X pins σ Q v s' | .ok _ => False | .error e => X.xe e s') s := by
  refine codeAny_mono (F A' X.stack s H us vs Q E room e0 r h) fun r s' g => ?_
  rcases r with e | fl
  · exact hx pins H s e s' I g
  cases fl with
  | ret u => exact I.after g
  | _ => exact False.elim g
/-- o[i], o's own __getitem__, which may raise -/
def tSubO (C : Addr) (sp : Sp) (E : L2.St → XK) (ta tb : TE) : TE := fun σ H Q => ta σ H fun x H1 => tb σ H1 fun y H2 => ∃ a dx fs, x = .ref a ∧ H2 a = some (.ins C dx fs) ∧ sp [x, y] H2 Q (E σ)
theorem pe_subO {X : Cx} {CX : CXT} {n : Nat} {C f : Addr} {sp : Sp} {E : L2.St → XK} {a b : Expr} {ta tb : TE} {pos : Pos} (F : FnR X.prog X.w X.K X.mg X.base CX n f sp) (hs : PySem.W.findIn X.K (.ref C) "__getitem__" = some (some (.ref f))) (hf : PySem.W.isFn X.K (.ref f) = true) (hn : PySem.W.fnIn X.K f = true)
    (hr : Room (n + 1) X.A) (hx : ∀ σ, PassesAt CX X σ (E σ)) (ha : PE X a ta) (hb : PE X b tb) (hsl : ∀ v u : Value, subscripted b true v u = runValue (.builtin "lifetime.subscript" ⟨[v, u], []⟩) := by with_unfolding_all (intro _ _; rfl)) : PE X (.Subscript a b pos) (tSubO C sp E ta tb) := by
  refine ⟨fun pins s σ H Q I h => Subscript_ (binT ha hb I (R := fun x y H2 => ∃ a dx fs, x = .ref a ∧ H2 a = some (.ins C dx fs) ∧ sp [x, y] H2 Q (E σ)) h fun v u s2 x y H2 I2 rx ry q => ?_)⟩
  obtain ⟨p, dx, fs, rfl, hp, q⟩ := q
  cases (show v = Value.ref p from rx)
  obtain ⟨mA, J, _⟩ := ins_get I2.hok hp
  obtain ⟨od, J, _⟩ := J.look
  obtain ⟨m, hF⟩ := I2.fr
  exact PySem.W.sub_K hF I2.ok.mod.kin J hs hn hf (wpAny_call (run_atS (us := [.ref p, u]) (vs := [.ref p, y]) F (Room.in1 hr) I2.env0.in1 (hx σ) I2 (.cons rfl (.cons ry .nil)) q)) (hsl _ _)
theorem befs_snoc (l : List Row) (r : Row) : befs (l ++ [r]) = befs l ++ [tot l] := by
  unfold befs
  rw [List.length_append, List.length_singleton, List.range_succ, List.map_append]
  congr 1
  · refine List.map_congr_left fun j hj => ?_
    have := List.mem_range.mp hj
    rw [List.take_append_of_le_length (by omega)]
  · show [tot ((l ++ [r]).take l.length)] = [tot l]
    rw [List.take_append_of_le_length (Nat.le_refl _), List.take_length]
def spSize (C : Addr) : Sp := fun vs H Q _ => ∃ x l, vs = [.ref x] ∧ IsP C H x l ∧ Q (.int (tot l)) H
def spHow (K : PySem.W.Frag) : Sp := fun vs H Q _ => ∃ (t : Addr) (x : Int) (ns : List Int), vs = [.ref t, .int x] ∧ SqT K H t (ns.map V.int) ∧ ns.length ≤ 1000 ∧ ns.Pairwise (· < ·) ∧ ∀ n : Nat, Upto ns x n → Q (.int (n : Int)) H
def spRank (C : Addr) : Sp := fun vs H Q _ => ∃ (p : Addr) (x : Int) (l : List Row), vs = [.ref p, .int x] ∧ IsP C H p l ∧ Q (.int (rk l x)) H
def spGet (C CN : Addr) : Sp := fun vs H Q E => ∃ (p : Addr) (k : Int) (l : List Row), vs = [.ref p, .int k] ∧ IsP C H p l ∧ (0 ≤ k → k < tot l → ∀ v, memK l k = some v → Q (.int v) H) ∧
  (¬ (0 ≤ k ∧ k < tot l) → ∀ (d : Addr) (H' : Hp), H d = none → H' d = some (.xd [(("place" : Str), .int k)]) → Same H H' → E (.ref CN) (some d) H')
section
variable {P : Program} {w : World} {K : PySem.W.Frag} {mg : Str → Option Value} {base : Heap}
theorem scSz : FnScope ["self", "first", "last"] ["self"] (defScope sPlacesSize) := ⟨rfl, rfl, rfl, by decide +kernel, rfl, by decide +kernel, by decide +kernel⟩
theorem ok_size {f C : Addr} {fd : FuncData} (F : Fun K "size" "Places.size" sPlacesSize f fd) (T : PTxt K mg C) : FnOk P w K mg base CX0 1 f fd ["self"] (spSize C) := by
  refine F.ok scSz (fun vs H Q E h => ?_) (fun cdv A outer s H vs Q E hr h => ?_)
  · obtain ⟨x, l, rfl, _⟩ := h
    rfl
  · obtain ⟨x, l, rfl, ⟨nf, dx, t, fi, b, M, hx, ht, hM, eM, hf, hb, _⟩, q⟩ := h
    have nd := scSz.nd
    refine ⟨_, pss_cons (ps_if (pt_not (pt_truth (pe_fld (pv 0) rfl) (by intro _; rfl))) (pss_one (ps_ret pe_int)) pss_nil)
      (pss_cons (ps_asg (pe_ix ix_tup (pe_fld (pv 0) rfl) (pe_un un_neg pe_int) (fun _ _ => rfl)) (pg_tup rfl (pgs_cons (pg_name (i := 1) nd rfl (.inl rfl)) (pgs_cons (pg_name (i := 2) nd rfl (.inl rfl)) pgs_nil))))
      (pss_one (ps_ret (pe_op op_add (pe_op op_sub (pe_op op_add (pe_ix ix_tup (pe_fld (pv 0) rfl) (pe_un un_neg pe_int) (fun _ _ => rfl)) (pv 2)) (pv 1)) pe_int)))), ?_⟩
    refine ⟨_, rfl, x, C, dx, _, _, rfl, hx, T.cl, T.nS, pFl_s _ _ _, !(refs M).isEmpty, .inr (.inl ⟨refs M, .inl (.inl ht), rfl⟩), ?_⟩
    by_cases e0 : M = []
    · subst e0
      subst eM
      exact iteT q
    · obtain ⟨M', p, rfl⟩ : ∃ M' p, M = M' ++ [p] := ⟨_, _, (List.dropLast_concat_getLast e0).symm⟩
      rw [refs_snoc] at ht ⊢
      have en : (!(!(refs M' ++ [V.ref p.1]).isEmpty)) = false := by simp
      rw [en]
      refine iteF ?_
      have hp := hM p (List.mem_append_right _ (List.mem_singleton.mpr rfl))
      rw [rws_snoc] at eM
      subst eM
      rw [befs_snoc, List.map_append] at hb
      refine ⟨_, rfl, x, C, dx, _, _, rfl, hx, T.cl, T.nS, pFl_s _ _ _, 1, rfl, t, _, -1, _, rfl, rfl, .inl (.inl ht), atI_last _ _, p.1, _, rfl, .inl (.inl hp), rfl, _, _, rfl, _, _, rfl, rfl, ?_⟩
      refine ⟨_, rfl, x, C, dx, _, _, rfl, hx, T.cl, T.nB, pFl_b _ _ _, 1, rfl, b, _, -1, _, rfl, rfl, .inl (.inl hb), atI_last _ _, _, rfl, _, _, rfl, rfl, _, rfl, _, _, rfl, rfl, _, _, rfl, rfl, ?_⟩
      rw [tot_snoc] at q
      exact q
theorem scHo : FnScope ["numbers", "x", "low", "high", "middle"] ["numbers", "x"] (defScope pHowManyUpto) := ⟨rfl, rfl, rfl, by decide +kernel, rfl, by decide +kernel, by decide +kernel⟩
theorem ok_how {f C : Addr} {fd : FuncData} (F : Fun K "_how_many_upto" "_how_many_upto" pHowManyUpto f fd) (T : PTxt K mg C) : FnOk P w K mg base CX0 1 f fd ["numbers", "x"] (spHow K) := by
  refine F.ok scHo (fun vs H Q E h => ?_) (fun cdv A outer s H vs Q E hr h => ?_)
  · obtain ⟨t, x, ns, rfl, _⟩ := h
    rfl
  · obtain ⟨t, x, ns, rfl, hS, hlen, hs, q⟩ := h
    have nd := scHo.nd
    refine ⟨_, pss_cons (ps_set (i := 2) nd rfl (.inl rfl) pe_int)
      (pss_cons (ps_set (i := 3) nd rfl (.inl rfl) (pe_callB call_len_seq (by rfl) T.zLen PySem.boot_len (pa_cons (pv 0) pa_nil)))
      (pss_cons (ps_while PassesOwn.never (pt_cmpR op_lt (pv 2) (pv 3) (nomark _))
        (pss_cons (ps_set (i := 4) nd rfl (.inl rfl) (pe_op op_fdivW (pe_op op_add (pv 2) (pv 3)) pe_int))
        (pss_one (ps_if (pt_cmpR op_le (pe_ix ix_tup (pv 0) (pv 4) (fun _ _ => rfl)) (pv 1) (nomark _)) (pss_one (ps_set (i := 2) nd rfl (.inl rfl) (pe_op op_add (pv 4) pe_int))) (pss_one (ps_set (i := 3) nd rfl (.inl rfl) (pv 4)))))))
      (pss_one (ps_ret (pv 2))))), ?_⟩
    refine ⟨_, rfl, t, _, rfl, .inr hS, ?_⟩
    have el : ((ns.map V.int).length : Int) = ((ns.length : Nat) : Int) := by rw [List.length_map]
    rw [el]
    refine ⟨fun m σ H' => ∃ (lo hi : Nat) (s4 : Option V), m = hi - lo ∧ H' = H ∧ σ = [some (.ref t), some (.int x), some (.int (lo : Int)), some (.int (hi : Int)), s4] ∧ lo ≤ hi ∧ hi ≤ ns.length ∧ (∀ (i : Nat) (v : Int), i < lo → ns[i]? = some v → v ≤ x) ∧ (∀ (i : Nat) (v : Int), hi ≤ i → ns[i]? = some v → x < v),
      ⟨_, 0, ns.length, none, rfl, rfl, rfl, Nat.zero_le _, Nat.le_refl _, fun i v h => absurd h (Nat.not_lt_zero _), fun i v h e => absurd (List.getElem?_eq_some_iff.mp e).1 (by omega)⟩, ?_⟩
    rintro m σ H' ⟨lo, hi, s4, rfl, rfl, rfl, hlh, hh, a, b⟩
    refine ⟨_, rfl, _, rfl, _, _, rfl, rfl, _, rfl, ite2 (fun c => ?_) (fun c => ?_)⟩
    · have hc : (lo : Int) < (hi : Int) := of_decide_eq_true c
      have e2 : ((lo : Int) + (hi : Int)) / 2 = (((lo + hi) / 2 : Nat) : Int) := by omega
      have hm1 : (lo + hi) / 2 < ns.length := by omega
      have hg : ns[(lo + hi) / 2]? = some ns[(lo + hi) / 2] := List.getElem?_eq_getElem hm1
      have mono : ∀ (i j : Nat) (u v : Int), i ≤ j → ns[i]? = some u → ns[j]? = some v → u ≤ v := fun i j u v hij hi' hj' => by
        obtain ⟨p1, e1⟩ := List.getElem?_eq_some_iff.mp hi'
        obtain ⟨p2, e2⟩ := List.getElem?_eq_some_iff.mp hj'
        rcases Nat.lt_or_eq_of_le hij with k | k
        · have := List.pairwise_iff_getElem.mp hs i j p1 p2 k
          omega
        · subst k
          omega
      refine ⟨_, fun σ' H'' p => p, ?_⟩
      refine ⟨_, rfl, _, rfl, _, _, rfl, rfl, _, _, rfl, rfl, div200 (by decide) (by decide) _, ?_⟩
      have e3 : ((lo : Int) + (hi : Int)) / 2 + 1 = (((lo + hi) / 2 + 1 : Nat) : Int) := by omega
      have hat : atI (ns.map V.int) (((lo : Int) + (hi : Int)) / 2) = some (.int ns[(lo + hi) / 2]) := by rw [e2]; exact atI_nat (by rw [List.getElem?_map, hg]; rfl)
      refine ⟨_, rfl, _, rfl, t, _, _, _, rfl, rfl, hS, hat, _, rfl, _, _, rfl, rfl, _, rfl, ite2 (fun c2 => ?_) (fun c2 => ?_)⟩
      · have hc2 : ns[(lo + hi) / 2] ≤ x := of_decide_eq_true c2
        refine ⟨_, rfl, _, _, rfl, rfl, hi - ((lo + hi) / 2 + 1), by omega, (lo + hi) / 2 + 1, hi, some (.int (((lo : Int) + (hi : Int)) / 2)), rfl, rfl, (by rw [← e3]; rfl), by omega, hh, fun i v hi' e => ?_, b⟩
        have := mono i ((lo + hi) / 2) v _ (by omega) e hg
        omega
      · have hc2 : ¬ ns[(lo + hi) / 2] ≤ x := fun w => c2 (decide_eq_true w)
        refine ⟨_, rfl, (lo + hi) / 2 - lo, by omega, lo, (lo + hi) / 2, some (.int (((lo : Int) + (hi : Int)) / 2)), rfl, rfl, (by rw [← e2]; rfl), by omega, by omega, a, fun i v hi' e => ?_⟩
        have := mono ((lo + hi) / 2) i _ v hi' hg e
        omega
    · have hc : ¬ (lo : Int) < (hi : Int) := fun w => c (decide_eq_true w)
      have e : lo = hi := by omega
      subst e
      exact ⟨_, rfl, q lo ⟨hh, a, b⟩⟩
theorem firsts_v (l : List Row) : (l.map fun r => V.int r.1) = (l.map (·.1)).map V.int := by rw [List.map_map]; rfl
theorem scRank : FnScope ["self", "x", "at", "first", "last"] ["self", "x"] (defScope sPlacesRank) := ⟨rfl, rfl, rfl, by decide +kernel, rfl, by decide +kernel, by decide +kernel⟩
theorem row_at {M : List ARow} {m : Nat} {r : Row} (h : (rws M)[m]? = some r) : ∃ z, M[m]? = some z ∧ z.2 = r := by
  unfold rws at h
  rw [List.getElem?_map] at h
  cases e : M[m]? with
  | none => rw [e] at h; cases h
  | some z => rw [e] at h; exact ⟨z, rfl, Option.some.inj h⟩
theorem ok_rank {f C : Addr} {fd : FuncData} (F : Fun K "rank" "Places.rank" sPlacesRank f fd) (T : PTxt K mg C) (zMin : mg "min" = none) (HW : Cl P w K mg base 1 "_how_many_upto" ["numbers", "x"] (spHow K)) : FnOk P w K mg base CX0 2 f fd ["self", "x"] (spRank C) := by
  refine F.ok scRank (fun vs H Q E h => ?_) (fun cdv A outer s H vs Q E hr h => ?_)
  · obtain ⟨p, x, l, rfl, _⟩ := h
    rfl
  · obtain ⟨p, x, l, rfl, hp, q⟩ := h
    have nd := scRank.nd
    refine ⟨_, pss_cons (ps_set (i := 2) nd rfl (.inl rfl) (pe_cl HW hr (by decide) (by rfl) (pa_cons (pe_fld (pv 0) rfl) (pa_cons (pv 1) pa_nil))))
      (pss_cons (ps_if (pt_cmpR op_eq (pv 2) pe_int (nomark _)) (pss_one (ps_ret pe_int)) pss_nil)
      (pss_cons (ps_asg (pe_ix ix_tup (pe_fld (pv 0) rfl) (pe_op op_sub (pv 2) pe_int) (fun _ _ => rfl)) (pg_tup rfl (pgs_cons (pg_name (i := 3) nd rfl (.inl rfl)) (pgs_cons (pg_name (i := 4) nd rfl (.inl rfl)) pgs_nil))))
      (pss_one (ps_ret (pe_op op_sub (pe_op op_add (pe_ix ix_tup (pe_fld (pv 0) rfl) (pe_op op_sub (pv 2) pe_int) (fun _ _ => rfl)) (pe_callB (call_min2 rfl) (by rfl) zMin bt_min (pa_cons (pv 1) (pa_cons (pe_op op_add (pv 4) pe_int) pa_nil)))) (pv 3)))))), ?_⟩
    obtain ⟨nf, dx, t, fi, b, M, e1, e2, e3, e4, e5, e6, e7⟩ := id hp
    rw [firsts_v] at e5
    refine ⟨_, rfl, p, C, dx, _, _, rfl, e1, T.cl, T.nF, pFl_f _ _ _, _, rfl, fi, x, _, rfl, .inl (.inl e5), by rw [List.length_map, ← e4, rws_len]; exact e7, firsts_asc nf, fun n u => ?_⟩
    obtain ⟨k0, k1⟩ := rank_upto nf u
    refine ⟨_, rfl, rfl, _, rfl, ?_⟩
    cases n with
    | zero =>
      rw [k0 rfl] at q
      exact iteT q
    | succ m =>
      have ne : decide (V.int ((m + 1 : Nat) : Int) = V.int 0) = false := decide_eq_false fun e => by have := V.int.inj e; omega
      rw [ne]
      refine iteF ?_
      have hl := u.le
      rw [List.length_map] at hl
      obtain ⟨r, hr'⟩ : ∃ r, l[m]? = some r := ⟨l[m], List.getElem?_eq_getElem (by omega)⟩
      obtain ⟨z, hz, ezr⟩ := row_at (show (rws M)[m]? = some r by rw [e4]; exact hr')
      have ez := e3 z (List.mem_of_getElem? hz)
      have em : ((m + 1 : Nat) : Int) - 1 = (m : Int) := by omega
      refine ⟨_, rfl, p, C, dx, _, _, rfl, e1, T.cl, T.nS, pFl_s _ _ _, _, rfl, _, _, rfl, rfl, t, refs M, _, .ref z.1, rfl, rfl, .inl (.inl e2), ?_, z.1, _, rfl, .inl (.inl ez), rfl, _, _, rfl, _, _, rfl, rfl, ?_⟩
      · rw [em]
        exact atI_nat (by unfold refs; rw [List.getElem?_map, hz]; rfl)
      refine ⟨_, rfl, p, C, dx, _, _, rfl, e1, T.cl, T.nB, pFl_b _ _ _, _, rfl, _, _, rfl, rfl, b, _, _, .int (tot (l.take m)), rfl, rfl, .inl (.inl e6), ?_, _, rfl, _, rfl, _, _, rfl, rfl, _, _, rfl, _, _, rfl, rfl, _, rfl, _, _, rfl, rfl, ?_⟩
      · rw [em]
        exact atI_nat (by rw [List.getElem?_map, befs_at (by omega)]; rfl)
      · have e := k1 m r rfl hr'
        rw [e, ← ezr] at q
        exact q
theorem fnR_ofX {P : Program} {w : World} {K : PySem.W.Frag} {mg : Str → Option Value} {base : Heap} {CX : CXT} {k : Nat} {f : Addr} {fd : FuncData} {ps : List Str} {sp : Sp} (F : FnOk P w K mg base CX k f fd ps sp) (hb : Binds K fd ps []) : FnR P w K mg base CX k f sp :=
  (F.raw hb .nil).imp fun vs H Q E h => by rw [List.append_nil]; exact h
theorem scGet : FnScope ["self", "at", "stretch"] ["self", "at"] (defScope sPlacesGetitem) := ⟨rfl, rfl, rfl, by decide +kernel, rfl, by decide +kernel, by decide +kernel⟩
theorem ok_get {f C CN CR fI : Addr} {fd fdI : FuncData} (F : Fun K "__getitem__" "Places.__getitem__" sPlacesGetitem f fd) (T : PTxt K mg C) (NT : ErT K mg "NoPlace" "place" CN CR fI) (FN : FnOk P w K mg base CX0 1 fI fdI ["self", "place"] (spErI CN "place")) (bN : Binds K fdI ["self", "place"] []) (I : Cl P w K mg base 1 "is_integer" ["value"] (spIsIntG K))
    (HW : Cl P w K mg base 1 "_how_many_upto" ["numbers", "x"] (spHow K)) (SZ : Mt P w K mg base 1 C "size" ["self"] (spSize C)) : FnOk P w K mg base (L2.CX P w) 3 f fd ["self", "at"] (spGet C CN) := by
  refine F.okX scGet (fun vs H Q E h => ?_) (fun cdv A outer s H vs Q E hr h => ?_)
  · obtain ⟨p, k, l, rfl, _⟩ := h
    rfl
  · obtain ⟨p, k, l, rfl, hp, qi, qo⟩ := h
    have nd := scGet.nd
    have room : Room (1 + 1) _ := hr
    refine ⟨_, pss_cons (ps_if (PW.pt (pw_or (pt_not (pt_val (pe_cl I hr (by decide) (by rfl) (pa_cons (pv 1) pa_nil)))) (pw_or1 (pt_not (pt_chain op_le op_lt pe_int (pv 1) (pe_mt0 SZ T.cl hr (by decide) (pv 0)))))))
        (pss_one (ps_raise rfl (takes_of rfl rfl rfl rfl) (pmk_oex NT.ox NT.iC NT.tI FN room bN .nil pass0 (by rfl) NT.gB (pa_cons (pv 1) pa_nil)))) pss_nil)
      (pss_cons (ps_set (i := 2) nd rfl (.inl rfl) (pe_op op_sub (pe_cl HW hr (by decide) (by rfl) (pa_cons (pe_fld (pv 0) rfl) (pa_cons (pv 1) pa_nil))) pe_int))
      (pss_one (ps_ret (pe_op op_sub (pe_op op_add (pe_ix ix_tup (pe_fld (pv 0) rfl) (pv 2) (fun _ _ => rfl)) (pv 1)) (pe_ix ix_tup (pe_fld (pv 0) rfl) (pv 2) (fun _ _ => rfl)))))), ?_⟩
    obtain ⟨nf, dx, t, fi, b, M, e1, e2, e3, e4, e5, e6, e7⟩ := id hp
    have kZ : (pFl t fi b).lookup ("size" : Str) = none := pFl_no _ _ _ (by decide +kernel) (by decide +kernel) (by decide +kernel)
    refine ⟨_, rfl, .int k, "int", true, false, rfl, .base (.int k), by decide +kernel, by decide +kernel, _, rfl, iteF ?_⟩
    refine ⟨_, rfl, _, _, rfl, rfl, _, rfl, ?_⟩
    have bad : ∀ (n : ¬ (0 ≤ k ∧ k < tot l)) (a : Addr), H a = none → ∀ d, (upd H a (exo a CN none)) d = none → d ≠ a → (upd (upd (upd H a (exo a CN none)) d (exd d [(("place" : Str), .int k)])) a (exo a CN (some d))) d = some (exd d [(("place" : Str), .int k)]) ∧ H d = none ∧
        E (.ref CN) (some d) (upd (del (upd (upd (upd H a (exo a CN none)) d (exd d [(("place" : Str), .int k)])) a (exo a CN (some d))) a) d (.xd [(("place" : Str), .int k)])) := fun n a na d nd1 ne1 => by
      rw [upd_ne ne1] at nd1
      refine ⟨by rw [upd_ne ne1]; exact upd_same, nd1, qo n d _ nd1 upd_same fun c o e => ?_⟩
      have nca : c ≠ a := ne_of_none e na
      have ncd : c ≠ d := ne_of_none e nd1
      rw [upd_ne ncd, del_ne nca, upd_ne nca, upd_ne ncd, upd_ne nca]
      exact e
    by_cases h0 : 0 ≤ k
    · rw [show decide ((0 : Int) ≤ k) = true from decide_eq_true h0]
      refine iteT ⟨_, rfl, p, dx, _, rfl, e1, kZ, p, l, rfl, hp, _, _, rfl, rfl, _, rfl, ?_⟩
      by_cases h1 : k < tot l
      · rw [show decide (k < tot l) = true from decide_eq_true h1]
        refine iteF ?_
        refine ⟨_, rfl, p, C, dx, _, _, rfl, e1, T.cl, T.nB, pFl_b _ _ _, _, rfl, b, k, _, rfl, .inl (.inl e6), by rw [befs_len, ← e4, rws_len]; exact e7, befs_asc nf, fun m u => ?_⟩
        obtain ⟨j, r, rfl, hj, k1, k2⟩ := member_upto nf h0 h1 u
        have em : ((j + 1 : Nat) : Int) - 1 = (j : Int) := by omega
        refine ⟨_, _, rfl, rfl, ?_⟩
        have at1 : atI (l.map fun r => V.int r.1) (((j + 1 : Nat) : Int) - 1) = some (.int r.1) := by rw [em]; exact atI_nat (by rw [List.getElem?_map, hj]; rfl)
        have at2 : atI ((befs l).map V.int) (((j + 1 : Nat) : Int) - 1) = some (.int (tot (l.take j))) := by rw [em]; exact atI_nat (by rw [List.getElem?_map, befs_at (List.getElem?_eq_some_iff.mp hj).1]; rfl)
        refine ⟨_, rfl, p, C, dx, _, _, rfl, e1, T.cl, T.nF, pFl_f _ _ _, _, rfl, fi, _, _, _, rfl, rfl, .inl (.inl e5), at1, _, rfl, _, _, rfl, rfl, _, rfl, p, C, dx, _, _, rfl, e1, T.cl, T.nB, pFl_b _ _ _, _, rfl, b, _, _, _, rfl, rfl, .inl (.inl e6), at2, _, _, rfl, rfl, ?_⟩
        have e := memK_at nf hj k1 k2
        have q := qi h0 h1 _ e
        rw [show r.1 + (k - tot (l.take j)) = r.1 + k - tot (l.take j) by omega] at q
        exact q
      · rw [show decide (k < tot l) = false from decide_eq_false h1]
        refine iteT ⟨_, rfl, by show 1 ≤ 1000; decide, fun a na => ⟨a, _, rfl, upd_same, fun d nd1 ne1 => ?_⟩⟩
        obtain ⟨x1, x2, x3⟩ := bad (fun h => h1 h.2) a na d nd1 ne1
        exact ⟨rfl, d, [(("place" : Str), .int k)], upd_same, x1, x2, x3⟩
    · rw [show decide ((0 : Int) ≤ k) = false from decide_eq_false h0]
      refine iteF ⟨_, rfl, iteT ⟨_, rfl, by show 1 ≤ 1000; decide, fun a na => ⟨a, _, rfl, upd_same, fun d nd1 ne1 => ?_⟩⟩⟩
      obtain ⟨x1, x2, x3⟩ := bad (fun h => h0 h.1) a na d nd1 ne1
      exact ⟨rfl, d, [(("place" : Str), .int k)], upd_same, x1, x2, x3⟩
end
end OR

namespace OR
open PySem PySem.Spec PyProof.Rows L2
/-! ### the errors of rules: 0 functions, 1 word, 2 twice, 3 place, 4 many, 5 clause, 6 function -/
abbrev Err := Nat × V
def efl : Nat → Str
  | 0 => "count"
  | 1 => "word"
  | 2 => "word"
  | 3 => "place"
  | 4 => "count"
  | 5 => "index"
  | _ => "function"
def Told_ (E : XK) (EC : Nat → Addr) (H : Hp) (q : Prop) : Option Err → Prop
  | none => q
  | some e => Raised E (EC e.1) (efl e.1) e.2 H
/-- functions, one after the other -/
def goFuns : List V → List V → Option Err
  | _, [] => none
  | seen, v :: r => if wordB v = true then (if inV v seen = true then some (2, v) else goFuns (seen ++ [v]) r) else some (1, v)
def funsErr (xs : List V) : Option Err := if 1 ≤ xs.length ∧ xs.length ≤ 3 then goFuns [] xs else some (0, .int (xs.length : Nat))
def fitsErr (fs : List V) (n : Int) (m : CM) : Option Err :=
  match (told m.1 m.2.1 m.2.2.2).find? (fun g => !inV g fs) with
  | some g => some (6, g)
  | none => match m.2.2.1.find? (fun r => decide (n < r.2)) with
    | some r => some (3, .int (if n < r.1 then r.1 else n + 1))
    | none => none
structure ClX (P : Program) (w : World) (K : PySem.W.Frag) (mg : Str → Option Value) (base : Heap) (k : Nat) (x : Str) (ps : List Str) (sp : Sp) : Prop where
  ex : ∃ (f : Addr) (fd : FuncData), FnOk P w K mg base (L2.CX P w) k f fd ps sp ∧ mg x = some (.ref f) ∧ PySem.W.keepIn K (.ref f) = true ∧ Binds K fd ps []
theorem pe_clX {X : Cx} {W : WX} {k j : Nat} {x : Str} {ps : List Str} {sp : Sp} {e : Expr} {es : List Expr} {t : TA} {p pos : Pos} (C : ClX X.prog X.w X.K X.mg X.base k x ps sp) (hr : Room j X.A) (hk : k ≤ j) (hg : Gl X x) (tk : Takes X W) (ha : PA X (e :: es) t)
    (hdb : (x == ("__debug__" : Str)) = false := by decide) (he : starEach (e :: es) X.env = (false, eval e X.env) :: starEach es X.env := by rfl) (hpl : (backTo pos (starEach es X.env)).any (·.1) = false := by rfl) :
    PE X (.Call (.Name x p) (e :: es) [] pos) (tCallS sp (WE W) t) := by
  obtain ⟨f, fd, F, hm, hkp, hb⟩ := C.ex
  exact pe_callS F (hr.mono hk) hg hm hkp hb (fun σ => passAt tk σ) ha hdb he hpl
theorem drop_at {α : Type} {xs : List α} {i : Nat} {y : α} (h : xs[i]? = some y) : xs.drop i = y :: xs.drop (i + 1) := by
  obtain ⟨hi, e⟩ := List.getElem?_eq_some_iff.mp h
  rw [List.drop_eq_getElem_cons hi, e]
theorem take_at {α : Type} {xs : List α} {i : Nat} {y : α} (h : xs[i]? = some y) : xs.take (i + 1) = xs.take i ++ [y] := by
  obtain ⟨hi, e⟩ := List.getElem?_eq_some_iff.mp h
  rw [List.take_succ_eq_append_getElem hi, e]
theorem cut_take (xs : List V) (i : Nat) : cutV xs none (some (i : Int)) = xs.take i := by
  unfold cutV
  rw [HT.sIx_none, HT.sIx_nat, List.drop_zero, Nat.sub_zero]
  rcases Nat.le_total i xs.length with h | h
  · rw [Nat.min_eq_left h]
  · rw [Nat.min_eq_right h, List.take_of_length_le (Nat.le_refl _), List.take_of_length_le h]
theorem tru_three (x : Nat) : decide (((x : Nat) : Int) ≤ (3 : Int)) = decide (x ≤ 3) := by
  by_cases h : x ≤ 3
  · rw [decide_eq_true h, decide_eq_true (by omega)]
  · rw [decide_eq_false h, decide_eq_false (by omega)]
def spChkFunsX (K : PySem.W.Frag) (EC : Nat → Addr) : Sp := fun vs H Q E => ∃ (a : Addr) (xs : List V), vs = [.ref a] ∧ SqL K H a xs ∧ (∀ v ∈ xs, PV v) ∧ Told_ E EC H (∀ H', Same H H' → Q .non H') (funsErr xs)
section
variable {P : Program} {w : World} {K : PySem.W.Frag} {mg : Str → Option Value} {base : Heap} {C : Nat → Addr} {CP CR CE : Addr} {EC : Nat → Addr}
theorem ok_chkfunsX {f : Addr} {fd : FuncData} (F : Fun K "_check_functions" "_check_functions" sChkFuns f fd) (T : PTxt K mg CP) (R : RTxt K mg CR) (E0 : ErK P w K mg base "BadFunctions" "count" (EC 0) CE) (E2 : ErK P w K mg base "Twice" "word" (EC 2) CE)
    (KW : ClX P w K mg base 3 "check_word" ["value"] (spChkWX (EC 1))) : FnOk P w K mg base (L2.CX P w) 4 f fd ["functions"] (spChkFunsX K EC) := by
  obtain ⟨fI0, fd0, T0, FN0, bN0⟩ := E0.ex
  obtain ⟨fI2, fd2, T2, FN2, bN2⟩ := E2.ex
  refine F.okX scCF (fun vs H Q E h => ?_) (fun cdv A outer s H vs Q E hr h => ?_)
  · obtain ⟨a, fs, rfl, _⟩ := h
    rfl
  · obtain ⟨a, xs, rfl, hS, hv, q⟩ := h
    obtain ⟨t3, hm⟩ := R.few
    have nd := scCF.nd
    have room : Room (1 + 1) _ := hr.mono (by decide)
    refine ⟨_, pss_cons (ps_if (pt_not (pt_chain op_le op_le pe_int (pe_callB call_len_seq (by rfl) T.zLen PySem.boot_len (pa_cons (pv 0) pa_nil)) (pe_glob (v := .int 3) (by rfl) hm ⟨_, rfl⟩)))
          (pss_one (ps_raise rfl (takes_of rfl rfl rfl rfl) (pmk_oex T0.ox T0.iC T0.tI FN0 room bN0 .nil pass0 (by rfl) T0.gB (pa_cons (pe_callB call_len_seq (by rfl) T.zLen PySem.boot_len (pa_cons (pv 0) pa_nil)) pa_nil))))
          pss_nil)
      (pss_one (ps_for PassesOwn.leaving rfl (pi_enum (by rfl) T.zEnum (pa_cons (pv 0) pa_nil)) (pg_tup rfl (pgs_cons (pg_name (i := 1) nd rfl (.inl rfl)) (pgs_cons (pg_name (i := 2) nd rfl (.inl rfl)) pgs_nil)))
          (pss_cons (ps_expr (pe_clX KW hr (by decide) (by rfl) (takes_of rfl rfl rfl rfl) (pa_cons (pv 2) pa_nil)))
          (pss_one (ps_if (pt_cmpR (op_in_seqK K rfl) (pv 2) (pe_slice sl_list (pv 0) po_none (po_some (pv 1))) (by rfl))
              (pss_one (ps_raise rfl (takes_of rfl rfl rfl rfl) (pmk_oex T2.ox T2.iC T2.tI FN2 room bN2 .nil pass0 (by rfl) T2.gB (pa_cons (pv 2) pa_nil))))
              pss_nil))))), ?_⟩
    refine ⟨_, rfl, a, xs, rfl, .inl hS, _, _, rfl, rfl, _, rfl, ?_⟩
    rw [tru_one]
    by_cases h1 : 1 ≤ xs.length
    · refine iteA (decide_eq_true h1) ⟨_, _, rfl, rfl, _, rfl, ?_⟩
      rw [tru_three]
      by_cases h3 : xs.length ≤ 3
      · rw [decide_eq_true h3]
        have e : funsErr xs = goFuns [] xs := if_pos ⟨h1, h3⟩
        rw [e] at q
        refine iteF ?_
        refine ⟨_, rfl, a, xs, rfl, hS, for_enum (K := K) (a := a) (xs := xs) (fun i σ G => (∃ s1 s2, σ = [some (.ref a), s1, s2]) ∧ Same H G ∧ goFuns (xs.take i) (xs.drop i) = goFuns [] xs)
          ⟨⟨none, none, rfl⟩, Same.refl _, rfl⟩ (fun i σ G _ ⟨_, s, _⟩ => s.seq hS) ?_ ?_⟩
        · rintro i y σ G Tn hy ⟨⟨s1, s2, rfl⟩, S1, eg⟩ hT
          have hi : i < xs.length := (List.getElem?_eq_some_iff.mp hy).1
          have S2 := S1.trans (same_lay (o := .tup [.int (i : Nat), y]) hT)
          have my := List.mem_of_getElem? hy
          rw [drop_at hy] at eg
          refine ⟨Tn, _, rfl, .inl (.inl upd_same), rfl, _, _, rfl, _, _, rfl, rfl, ?_⟩
          refine ⟨_, rfl, y, rfl, hv y my, fun hw G2 S3 => ?_, fun hw => ?_⟩
          · have S4 := S2.trans S3
            have eg2 : (if inV y (xs.take i) = true then some (2, y) else goFuns (xs.take i ++ [y]) (xs.drop (i + 1))) = goFuns [] xs := by rw [← eg]; show _ = (if wordB y = true then _ else _); rw [if_pos hw]
            refine ⟨_, rfl, _, rfl, _, rfl, _, rfl, a, _, rfl, S4.seq hS, fun l nl => ?_⟩
            have S5 := S4.trans (same_lay (o := .lst (cutV xs none (some (i : Int)))) nl)
            refine ⟨l, _, rfl, .inl (.inl (.inl upd_same)), (hv y my).flat, ?_, _, rfl, ?_⟩
            · rw [cut_take, List.all_eq_true]
              exact fun v hvv => (hv v (List.mem_of_mem_take hvv)).flat
            · rw [cut_take] at S5 ⊢
              cases hin : inV y (xs.take i) with
              | true =>
                rw [hin, if_pos rfl] at eg2
                rw [← eg2] at q
                exact iteT ⟨_, rfl, raise_any (q.up S5)⟩
              | false =>
                rw [hin, if_neg (by decide)] at eg2
                refine iteF ⟨⟨_, _, rfl⟩, S5, ?_⟩
                rw [take_at hy]
                exact eg2
          · have eg2 : some ((1 : Nat), y) = goFuns [] xs := by rw [← eg]; show _ = (if wordB y = true then _ else _); rw [if_neg (by rw [hw]; decide)]
            rw [← eg2] at q
            exact Raised.up q S2
        · rintro σ G ⟨⟨s1, s2, rfl⟩, S1, eg⟩
          rw [List.drop_length] at eg
          have eg2 : none = goFuns [] xs := by rw [← eg]; simp [goFuns]
          rw [← eg2] at q
          exact q G S1
      · rw [decide_eq_false h3]
        have e : funsErr xs = some (0, .int (xs.length : Nat)) := if_neg fun h => h3 h.2
        rw [e] at q
        exact iteT ⟨_, rfl, a, xs, rfl, .inl hS, raise_any q⟩
    · have e : funsErr xs = some (0, .int (xs.length : Nat)) := if_neg fun h => h1 h.1
      rw [e] at q
      exact iteB (decide_eq_false h1) ⟨_, rfl, iteT ⟨_, rfl, a, xs, rfl, .inl hS, raise_any q⟩⟩
end
end OR

namespace OR
open PySem PySem.Spec PyProof.Rows L2
theorem told_strs {i : Nat} {f : Str} {x : List V} (hi : i < 7) (h : WF i f x) : ∀ v ∈ told i f x, ∃ g, v = .str g := by
  rcases (show i = 0 ∨ i = 1 ∨ i = 2 ∨ i = 3 ∨ i = 4 ∨ i = 5 ∨ i = 6 by omega) with e | e | e | e | e | e | e <;> subst e
  · intro v hv
    have hv : v ∈ [V.str f] := hv
    exact ⟨f, List.mem_singleton.mp hv⟩
  · intro v hv
    have hv : v ∈ [V.str f] := hv
    exact ⟨f, List.mem_singleton.mp hv⟩
  · obtain ⟨g, rfl, _⟩ := h
    intro v hv
    have hv : v ∈ [V.str f, V.str g] := hv
    rcases List.mem_cons.mp hv with e | hv
    · exact ⟨f, e⟩
    · exact ⟨g, List.mem_singleton.mp hv⟩
  · intro v hv
    have hv : v ∈ [V.str f] := hv
    exact ⟨f, List.mem_singleton.mp hv⟩
  · intro v hv
    have hv : v ∈ [V.str f] := hv
    exact ⟨f, List.mem_singleton.mp hv⟩
  · obtain ⟨s, g, a, b, rfl, _⟩ := h
    intro v hv
    have hv : v ∈ [V.str f, V.str g] := hv
    rcases List.mem_cons.mp hv with e | hv
    · exact ⟨f, e⟩
    · exact ⟨g, List.mem_singleton.mp hv⟩
  · intro v hv
    have hv : v ∈ [V.str f] := hv
    exact ⟨f, List.mem_singleton.mp hv⟩
/-! ### the first place above n -/
theorem rk_nonneg {x : Int} : ∀ {l : List Row}, Nf l → 0 ≤ rk l x
  | [], _ => Int.le_refl _
  | r :: l, h => by
    have ih := rk_nonneg (x := x) h.tail
    have ho := h.ok r List.mem_cons_self
    have m := mn_ok r.2 (x - 1)
    rw [rk_cons]
    unfold rkT
    split <;> omega
def isAbove (n : Int) (r : Row) : Bool := decide (n < r.2)
theorem memK_rank {n : Int} : ∀ {l : List Row} {r : Row}, Nf l → l.find? (isAbove n) = some r → memK l (rk l (n + 1)) = some (if n < r.1 then r.1 else n + 1)
  | [], r, _, e => by cases e
  | q :: l, r, h, e => by
    have ho := h.ok q List.mem_cons_self
    have gap : ∀ s ∈ l, q.2 + 1 < s.1 := (List.pairwise_cons.mp h.gap).1
    rw [rk_cons]
    by_cases c : n < q.2
    · rw [List.find?_cons_of_pos (by exact decide_eq_true c)] at e
      cases e
      have z : rk l (n + 1) = 0 := rk_zero fun s hs => by have := gap s hs; omega
      have m := mn_ok q.2 (n + 1 - 1)
      rw [z]
      show (if 0 ≤ _ ∧ _ ≤ q.2 - q.1 then _ else _) = _
      unfold rkT
      by_cases d : n < q.1
      · rw [if_neg (show ¬ q.1 < n + 1 by omega), if_pos d, if_pos (by omega)]
        congr 1
        omega
      · have em : mn q.2 (n + 1 - 1) = n := by unfold mn; rw [if_pos (by omega)]; omega
        rw [if_pos (show q.1 < n + 1 by omega), if_neg d, em, if_pos (by omega)]
        congr 1
        omega
    · rw [List.find?_cons_of_neg (by unfold isAbove; simpa using Int.not_lt.mp c)] at e
      have ih := memK_rank h.tail e
      have nn := rk_nonneg (x := n + 1) h.tail
      have em : mn q.2 (n + 1 - 1) = q.2 := by unfold mn; rw [if_neg (by omega)]
      unfold rkT
      rw [if_pos (show q.1 < n + 1 by omega), em]
      show (if 0 ≤ _ ∧ _ ≤ q.2 - q.1 then _ else memK l _) = _
      rw [if_neg (by omega), ← ih]
      congr 1
      omega
theorem memK_lt {l : List Row} {k v : Int} (h : Nf l) (e : memK l k = some v) : k < tot l := by
  refine Classical.byContradiction fun c => ?_
  rw [memK_over h (by omega)] at e
  cases e
theorem great_none {l : List Row} {n : Int} (h : l.find? (isAbove n) = none) : greatV l = .non ∨ ∃ k, greatV l = .int k ∧ k ≤ n :=
  greatV_le fun r hr => by
    have := List.find?_eq_none.mp h r hr
    unfold isAbove at this
    rw [decide_eq_true_eq] at this
    omega
theorem great_some {l : List Row} {n : Int} {r : Row} (hn : Nf l) (h : l.find? (isAbove n) = some r) : ∃ k, greatV l = .int k ∧ n < k := by
  obtain ⟨hr, _⟩ := List.mem_of_find?_eq_some h |> fun m => (⟨m, trivial⟩ : r ∈ l ∧ True)
  have ha : n < r.2 := by
    have := List.find?_some h
    unfold isAbove at this
    exact of_decide_eq_true this
  unfold greatV
  cases e : l.getLast? with
  | none =>
    rw [List.getLast?_eq_none_iff] at e
    rw [e] at hr
    cases hr
  | some s =>
    refine ⟨s.2, rfl, ?_⟩
    obtain ⟨i, hi⟩ := List.getElem?_of_mem hr
    rw [List.getLast?_eq_getElem?] at e
    have hil := (List.getElem?_eq_some_iff.mp hi).1
    by_cases c : i = l.length - 1
    · subst c
      rw [hi] at e
      cases e
      exact ha
    · have := nf_lt hn hi e (by omega)
      have := hn.ok s (List.mem_of_getElem? e)
      omega
structure NK (K : PySem.W.Frag) (C : Nat → Addr) : Prop where
  kI : ∀ i, i < 7 → PySem.W.kitOne K (.type "int") (.ref (C i)) = some false
  kN : ∀ i, i < 7 → PySem.W.kitOne K (.type "NoneType") (.ref (C i)) = some false
  kB : ∀ i, i < 7 → PySem.W.kitOne K (.type "bool") (.ref (C i)) = some false
/-- a clause, or a plain value -/
def CX (CP : Addr) (C : Nat → Addr) : Rep (Option CM) := fun H x o => match o with
  | some m => CRep CP C H x m
  | none => PV x
def spIsClauseX (CP : Addr) (C : Nat → Addr) : Sp := fun vs H Q _ => ∃ (v : V) (o : Option CM), vs = [v] ∧ CX CP C H v o ∧ ∀ H', Same H H' → Q (.bl o.isSome) H'
def spFitsX (K : PySem.W.Frag) (CP : Addr) (C : Nat → Addr) (EC : Nat → Addr) : Sp := fun vs H Q E => ∃ (z a : Addr) (n : Int) (m : CM) (fs : List V), vs = [.ref z, .ref a, .int n] ∧ CRep CP C H (.ref z) m ∧ SqL K H a fs ∧ (∀ v ∈ fs, flatV v = true) ∧
  Told_ E EC H (∀ H', Same H H' → Q .non H') (fitsErr fs n m)
section
variable {P : Program} {w : World} {K : PySem.W.Frag} {mg : Str → Option Value} {base : Heap} {C : Nat → Addr} {CP CR CE : Addr} {EC : Nat → Addr}
theorem any_none {T : String} (h : ∀ i, i < 7 → PySem.W.kitOne K (.type T) (.ref (C i)) = some false) : PySem.W.kitAny K (.type T) [.ref (C 0), .ref (C 1), .ref (C 2), .ref (C 3), .ref (C 4), .ref (C 5), .ref (C 6)] = some false := by
  unfold PySem.W.kitAny; rw [h 0 (by decide)]
  unfold PySem.W.kitAny; rw [h 1 (by decide)]
  unfold PySem.W.kitAny; rw [h 2 (by decide)]
  unfold PySem.W.kitAny; rw [h 3 (by decide)]
  unfold PySem.W.kitAny; rw [h 4 (by decide)]
  unfold PySem.W.kitAny; rw [h 5 (by decide)]
  unfold PySem.W.kitAny; rw [h 6 (by decide)]
  rfl
theorem ok_isclauseX {f : Addr} {fd : FuncData} (F : Fun K "is_clause" "is_clause" sIsClause f fd) (T : CTxt K mg C) (N : NK K C) (Z : PTxt K mg CP) : FnOk P w K mg base CX0 1 f fd ["value"] (spIsClauseX CP C) := by
  refine F.ok scIC (fun vs H Q E h => ?_) (fun cdv A outer s H vs Q E hr h => ?_)
  · obtain ⟨v, o, rfl, _⟩ := h
    rfl
  · obtain ⟨v, o, rfl, hC, q⟩ := h
    refine ⟨_, pss_one (ps_ret (pe_callB call_isiT (by rfl) Z.zIsi bt_isi (pa_cons (pv 0) (pa_cons (pe_tup (pa_cons (pe_glob (v := .ref (C 0)) (by rfl) (T.mgC 0 (by decide)) rfl) (pa_cons (pe_glob (v := .ref (C 1)) (by rfl) (T.mgC 1 (by decide)) rfl) (pa_cons (pe_glob (v := .ref (C 2)) (by rfl) (T.mgC 2 (by decide)) rfl)
      (pa_cons (pe_glob (v := .ref (C 3)) (by rfl) (T.mgC 3 (by decide)) rfl) (pa_cons (pe_glob (v := .ref (C 4)) (by rfl) (T.mgC 4 (by decide)) rfl) (pa_cons (pe_glob (v := .ref (C 5)) (by rfl) (T.mgC 5 (by decide)) rfl) (pa_cons (pe_glob (v := .ref (C 6)) (by rfl) (T.mgC 6 (by decide)) rfl) pa_nil)))))))) pa_nil)))), ?_⟩
    refine ⟨_, rfl, by show 7 ≤ sizeLine; decide, fun t nt => ?_⟩
    have s1 := same_lay (o := .tup [.ref (C 0), .ref (C 1), .ref (C 2), .ref (C 3), .ref (C 4), .ref (C 5), .ref (C 6)]) nt
    have go : ∃ (ty : Value) (b : Bool), TyX K (upd H t (.tup [.ref (C 0), .ref (C 1), .ref (C 2), .ref (C 3), .ref (C 4), .ref (C 5), .ref (C 6)])) v ty ∧ PySem.W.kitAny K ty [.ref (C 0), .ref (C 1), .ref (C 2), .ref (C 3), .ref (C 4), .ref (C 5), .ref (C 6)] = some b ∧ o.isSome = b := by
      cases o with
      | some m =>
        obtain ⟨z, rfl, hm⟩ := hC
        obtain ⟨dx, pl, hz, _⟩ := hm.ex
        exact ⟨_, _, tyC T hm.lt (s1 _ _ hz), any_of T hm.lt, rfl⟩
      | none =>
        rcases pv_cases hC with ⟨x, rfl, hx⟩ | ⟨i, rfl⟩ | rfl | ⟨b, rfl⟩
        · exact ⟨_, _, .base (.str x), any_none T.kS, rfl⟩
        · exact ⟨_, _, .base (.int i), any_none N.kI, rfl⟩
        · exact ⟨_, _, .base .non, any_none N.kN, rfl⟩
        · exact ⟨_, _, .base (.bl b), any_none N.kB, rfl⟩
    obtain ⟨ty, b, h1, h2, h3⟩ := go
    have q1 := q _ s1
    rw [h3] at q1
    exact ⟨v, t, _, _, _, b, rfl, upd_same, .cons (.own _) (.cons (.own _) (.cons (.own _) (.cons (.own _) (.cons (.own _) (.cons (.own _) (.cons (.own _) .nil)))))), h1, h2, q1⟩
theorem ok_fitsX {f g : Addr} {fd : FuncData} (F : Fun K "check_fits" "check_fits" sChkFits f fd) (T : CTxt K mg C) (PT : PTxt K mg CP) (E6 : ErK P w K mg base "NoFunction" "function" (EC 6) CE) (E3 : ErK P w K mg base "NoPlace" "place" (EC 3) CE) (TO : ∀ i, i < 7 → Mt P w K mg base 1 (C i) "functions_told" ["self"] (spCTold CP C i))
    (GR : Mt P w K mg base 1 CP "greatest" ["self"] (spLeast CP greatV)) (RK : Mt P w K mg base 2 CP "rank" ["self", "x"] (spRank CP)) (FG : FnR P w K mg base (L2.CX P w) 3 g (spGet CP (EC 3))) (hs : PySem.W.findIn K (.ref CP) "__getitem__" = some (some (.ref g))) (hf : PySem.W.isFn K (.ref g) = true) (hn : PySem.W.fnIn K g = true) :
    FnOk P w K mg base (L2.CX P w) 5 f fd ["clause", "functions", "last"] (spFitsX K CP C EC) := by
  obtain ⟨fI6, fd6, T6, FN6, bN6⟩ := E6.ex
  obtain ⟨fI3, fd3, T3, FN3, bN3⟩ := E3.ex
  refine F.okX scKF (fun vs H Q E h => ?_) (fun cdv A outer s H vs Q E hr h => ?_)
  · obtain ⟨z, a, n, m, fs, rfl, _⟩ := h
    rfl
  · obtain ⟨z, a, n, m, fs, rfl, ⟨z', e, hC⟩, hS, hF, q⟩ := h
    injection e with e
    subst e
    have nd := scKF.nd
    have room : Room (1 + 1) _ := hr.mono (by decide)
    have room3 : Room (3 + 1) _ := hr
    refine ⟨_, pss_cons (ps_for PassesOwn.leaving rfl (pi_tup (pe_mtF TO T.cl hr (by decide) (pv 0))) (pg_name (i := 3) nd rfl (.inl rfl))
          (pss_one (ps_if (pt_cmpR (op_notIn_seqK K rfl) (pv 3) (pv 1) (by rfl))
              (pss_one (ps_raise rfl (takes_of rfl rfl rfl rfl) (pmk_oex T6.ox T6.iC T6.tI FN6 room bN6 .nil pass0 (by rfl) T6.gB (pa_cons (pv 3) pa_nil))))
              pss_nil)))
      (pss_cons (ps_set (i := 4) nd rfl (.inl rfl) (pe_mt0 GR PT.cl hr (by decide) (pe_fld (pv 0) rfl)))
      (pss_one (ps_if (PW.pt (pw_and (pt_cmp (pc_notN (pv 4))) (pw_and1 (pt_cmpR op_gt (pv 4) (pv 2) (nomark _)))))
          (pss_one (ps_raise rfl (takes_of rfl rfl rfl rfl) (pmk_oex T3.ox T3.iC T3.tI FN3 room bN3 .nil pass0 (by rfl) T3.gB (pa_cons (by exact (pe_subO FG hs hf hn room3 (fun σ => passAt (takes_of rfl rfl rfl rfl) σ) (pe_fld (pv 0) rfl) (pe_mt RK PT.cl hr (by decide) (pe_fld (pv 0) rfl) (pa_cons (pe_op op_add (pv 2) pe_int) pa_nil)))) pa_nil))))
          pss_nil))), ?_⟩
    obtain ⟨dx, pl, hz, hp⟩ := hC.ex
    obtain ⟨nf, dxp, t1, f1, b1, M, hpi, _⟩ := id hp
    have allS := told_strs hC.lt hC.wf
    refine ⟨m.1, hC.lt, _, rfl, z, dx, _, rfl, hz, cFl_no (noM _), z, m.2.1, m.2.2.1, m.2.2.2, rfl, hC, fun t nt => ?_⟩
    have s1 := same_lay (o := .tup (told m.1 m.2.1 m.2.2.2)) nt
    refine ⟨t, rfl, ⟨_, .inl (.inl upd_same)⟩, for_tup (K := K) (a := t) (xs := told m.1 m.2.1 m.2.2.2) (fun i σ G => (∃ s3, σ = [some (.ref z), some (.ref a), some (.int n), s3, none]) ∧ G = upd H t (.tup (told m.1 m.2.1 m.2.2.2)) ∧
      ((told m.1 m.2.1 m.2.2.2).drop i).find? (fun g => !inV g fs) = (told m.1 m.2.1 m.2.2.2).find? (fun g => !inV g fs))
      ⟨⟨none, rfl⟩, rfl, rfl⟩ (fun i σ G _ ⟨_, e, _⟩ => by rw [e]; exact .inl (.inl upd_same)) ?_ ?_⟩
    · rintro i y σ G hy ⟨⟨s3, rfl⟩, rfl, eg⟩
      obtain ⟨g, rfl⟩ := allS y (List.mem_of_getElem? hy)
      rw [drop_at hy] at eg
      refine ⟨_, rfl, _, rfl, a, _, rfl, .inl (s1.seq hS), rfl, List.all_eq_true.mpr hF, _, rfl, ?_⟩
      cases hin : inV (.str g) fs with
      | true =>
        rw [List.find?_cons_of_neg (by rw [hin]; decide)] at eg
        exact iteF ⟨⟨_, rfl⟩, rfl, eg⟩
      | false =>
        rw [List.find?_cons_of_pos (by rw [hin]; rfl)] at eg
        have ef : fitsErr fs n m = some (6, .str g) := by unfold fitsErr; rw [← eg]
        rw [ef] at q
        exact iteT ⟨_, rfl, raise_any (Raised.up q s1)⟩
    · rintro σ G ⟨⟨s3, rfl⟩, rfl, eg⟩
      rw [List.drop_length] at eg
      have ef : fitsErr fs n m = match m.2.2.1.find? (isAbove n) with
          | some r => some (3, .int (if n < r.1 then r.1 else n + 1))
          | none => none := by unfold fitsErr; rw [← eg]; rfl
      rw [ef] at q
      have pnS : (pFl t1 f1 b1).lookup ("greatest" : Str) = none := pFl_no _ _ _ (by decide +kernel) (by decide +kernel) (by decide +kernel)
      have pnR : (pFl t1 f1 b1).lookup ("rank" : Str) = none := pFl_no _ _ _ (by decide +kernel) (by decide +kernel) (by decide +kernel)
      refine ⟨_, rfl, z, C m.1, dx, _, .ref pl, rfl, s1 _ _ hz, T.cl _ hC.lt, T.no _ hC.lt "places" (List.mem_of_getElem? (i := 2) rfl), cFl_at (j := 2) rfl rfl, pl, dxp, _, rfl, s1 _ _ hpi, pnS, pl, _, rfl, hp.same s1, ?_⟩
      cases hfi : m.2.2.1.find? (isAbove n) with
      | none =>
        rw [hfi] at q
        rcases great_none hfi with e | ⟨k, e, hk⟩
        · rw [e]
          exact ⟨_, rfl, _, rfl, iteF (iteF (q _ s1))⟩
        · rw [e]
          refine ⟨_, rfl, _, rfl, iteT ⟨_, rfl, _, rfl, _, _, rfl, rfl, _, rfl, ite2 (fun c => ?_) (fun _ => q _ s1)⟩⟩
          exact absurd (of_decide_eq_true c) (by omega)
      | some r =>
        rw [hfi] at q
        obtain ⟨k, e, hk⟩ := great_some nf hfi
        rw [e]
        have em := memK_rank nf hfi
        refine ⟨_, rfl, _, rfl, iteT ⟨_, rfl, _, rfl, _, _, rfl, rfl, _, rfl, iteA (decide_eq_true hk) ?_⟩⟩
        refine ⟨_, rfl, z, C m.1, dx, _, .ref pl, rfl, s1 _ _ hz, T.cl _ hC.lt, T.no _ hC.lt "places" (List.mem_of_getElem? (i := 2) rfl), cFl_at (j := 2) rfl rfl, ?_⟩
        refine ⟨_, rfl, z, C m.1, dx, _, .ref pl, rfl, s1 _ _ hz, T.cl _ hC.lt, T.no _ hC.lt "places" (List.mem_of_getElem? (i := 2) rfl), cFl_at (j := 2) rfl rfl, pl, dxp, _, rfl, s1 _ _ hpi, pnR, _, rfl, _, _, rfl, rfl, pl, n + 1, _, rfl, hp.same s1, ?_⟩
        refine ⟨pl, dxp, _, rfl, s1 _ _ hpi, pl, rk m.2.2.1 (n + 1), _, rfl, hp.same s1, fun _ _ v ev => ?_, fun c => ?_⟩
        · rw [em] at ev
          cases ev
          exact raise_any (Raised.up q s1)
        · exact absurd ⟨rk_nonneg nf, memK_lt nf em⟩ c
end
end OR

namespace OR
open PySem PySem.Spec PyProof.Rows L2
/-! ### Rules(..), of any values -/
def placeV : V → Bool
  | .int n => placeB n
  | _ => false
def lastN : V → Int
  | .int n => n
  | _ => 0
def goParts (fs : List V) (n : Int) : Nat → List (Option CM) → Option Err
  | _, [] => none
  | i, none :: _ => some (5, .int (i : Nat))
  | i, some m :: r => match fitsErr fs n m with
    | some e => some e
    | none => goParts fs n (i + 1) r
def rulesErr (fs : List V) (last : V) (os : List (Option CM)) : Option Err :=
  match funsErr fs with
  | some e => some e
  | none => if placeV last = true then (if 60 < os.length then some (4, .int (os.length : Nat)) else goParts fs (lastN last) 0 os) else some (3, last)
theorem CX.same {CP : Addr} {C : Nat → Addr} {H H' : Hp} {v : V} {o : Option CM} (h : CX CP C H v o) (s : Same H H') : CX CP C H' v o := by
  cases o with
  | none => exact h
  | some m => exact mon_CRep.up s h
theorem pl_kinds {v : V} (h : PV v) : (∃ n, v = .int n ∧ placeV v = placeB n) ∨ (placeV v = false ∧ ∃ (T : String) (b1 b2 : Bool), (∀ (K : PySem.W.Frag) (H : Hp), TyX K H v (.type T)) ∧ kitB T "int" = some b1 ∧ kitB T "bool" = some b2 ∧ (b1 && !b2) = false) := by
  rcases pv_cases h with ⟨x, rfl, hx⟩ | ⟨i, rfl⟩ | rfl | ⟨b, rfl⟩
  · exact .inr ⟨rfl, "str", false, false, fun _ _ => .base (.str x), by decide +kernel, by decide +kernel, rfl⟩
  · exact .inl ⟨i, rfl, rfl⟩
  · exact .inr ⟨rfl, "NoneType", false, false, fun _ _ => .base .non, by decide +kernel, by decide +kernel, rfl⟩
  · exact .inr ⟨rfl, "bool", true, true, fun _ _ => .base (.bl b), by decide +kernel, by decide +kernel, rfl⟩
def spRuInitX (K : PySem.W.Frag) (CR CP : Addr) (C EC : Nat → Addr) : Sp := fun vs H Q E => ∃ (x dx a b : Addr) (last : V) (fs xs : List V) (os : List (Option CM)), vs = [.ref x, .ref a, last, .ref b] ∧ H x = some (.ins CR dx []) ∧ SqL K H a fs ∧ (∀ v ∈ fs, PV v) ∧ PV last ∧
  SqL K H b xs ∧ All2 (CX CP C H) xs os ∧ Told_ E EC H (∀ H', Fre x H H' → Q .non H') (rulesErr fs last os)
def spRefusal (K : PySem.W.Frag) (CP : Addr) (C : Nat → Addr) (tag : Nat → Str) : Sp := fun vs H Q _ => ∃ (a b : Addr) (last : V) (fs xs : List V) (os : List (Option CM)), vs = [.ref a, last, .ref b] ∧ SqL K H a fs ∧ (∀ v ∈ fs, PV v) ∧ PV last ∧ SqL K H b xs ∧ All2 (CX CP C H) xs os ∧
  (rulesErr fs last os = none → ∀ H', Same H H' → Q .non H') ∧ ∀ e, rulesErr fs last os = some e → ∀ (t : Addr) (H' : Hp), H' t = some (.tup [.str (tag e.1), e.2, .bl true]) → Same H H' → Q (.ref t) H'
def tag : Nat → Str
  | 0 => "functions"
  | 1 => "word"
  | 2 => "twice"
  | 3 => "place"
  | 4 => "many"
  | 5 => "clause"
  | _ => "function"
theorem efl_lt {fs : List V} {last : V} {os : List (Option CM)} {e : Err} (h : rulesErr fs last os = some e) : e.1 < 7 := by
  have fit : ∀ (n : Int) (m : CM) (e : Err), fitsErr fs n m = some e → e.1 < 7 := by
    intro n m e h
    unfold fitsErr at h
    split at h
    · cases h; show 6 < 7; decide
    · split at h
      · cases h; show 3 < 7; decide
      · cases h
  have parts : ∀ (n : Int) (os : List (Option CM)) (i : Nat) (e : Err), goParts fs n i os = some e → e.1 < 7 := by
    intro n os
    induction os with
    | nil => intro i e h; cases h
    | cons o r ih =>
      intro i e h
      cases o with
      | none => cases h; show 5 < 7; decide
      | some m =>
        unfold goParts at h
        split at h
        · rename_i hh
          cases h
          exact fit _ _ _ hh
        · exact ih _ _ h
  have funs : ∀ (xs seen : List V) (e : Err), goFuns seen xs = some e → e.1 < 7 := by
    intro xs
    induction xs with
    | nil => intro seen e h; cases h
    | cons v r ih =>
      intro seen e h
      unfold goFuns at h
      split at h
      · split at h
        · cases h; show 2 < 7; decide
        · exact ih _ _ h
      · cases h; show 1 < 7; decide
  unfold rulesErr at h
  split at h
  · rename_i hh
    cases h
    unfold funsErr at hh
    split at hh
    · exact funs _ _ _ hh
    · cases hh; show 0 < 7; decide
  · split at h
    · split at h
      · cases h; show 4 < 7; decide
      · exact parts _ _ _ _ h
    · cases h; show 3 < 7; decide
section
variable {P : Program} {w : World} {K : PySem.W.Frag} {mg : Str → Option Value} {base : Heap} {C : Nat → Addr} {CP CR CE : Addr} {EC : Nat → Addr}
theorem ok_ruinitX {f : Addr} {fd : FuncData} (F : Fun K "__init__" "Rules.__init__" sRuInit f fd) (T : PTxt K mg CP) (R : RTxt K mg CR) (E3 : ErK P w K mg base "NoPlace" "place" (EC 3) CE) (E4 : ErK P w K mg base "TooMany" "count" (EC 4) CE) (E5 : ErK P w K mg base "NoClause" "index" (EC 5) CE)
    (CF : ClX P w K mg base 4 "_check_functions" ["functions"] (spChkFunsX K EC)) (IP : Cl P w K mg base 2 "is_place" ["value"] (spIsPlace K)) (IC : Cl P w K mg base 1 "is_clause" ["value"] (spIsClauseX CP C)) (KF : ClX P w K mg base 5 "check_fits" ["clause", "functions", "last"] (spFitsX K CP C EC)) :
    FnOk P w K mg base (L2.CX P w) 6 f fd ["self", "functions", "last", "told"] (spRuInitX K CR CP C EC) := by
  obtain ⟨fI3, fd3, T3, FN3, bN3⟩ := E3.ex
  obtain ⟨fI4, fd4, T4, FN4, bN4⟩ := E4.ex
  obtain ⟨fI5, fd5, T5, FN5, bN5⟩ := E5.ex
  refine F.okX scRI (fun vs H Q E h => ?_) (fun cdv A outer s H vs Q E hr h => ?_)
  · obtain ⟨x, dx, a, b, last, fs, xs, os, rfl, _⟩ := h
    rfl
  · obtain ⟨x, dx, a, b, last, fs, xs, os, rfl, hx, hS, hv, hl, hB, hA, q⟩ := h
    obtain ⟨t60, hm⟩ := R.most
    have nd := scRI.nd
    have room : Room (1 + 1) _ := hr.mono (by decide)
    refine ⟨_, pss_cons (ps_expr (pe_clX CF hr (by decide) (by rfl) (takes_of rfl rfl rfl rfl) (pa_cons (pv 1) pa_nil)))
      (pss_cons (ps_if (pt_not (pt_val (pe_cl IP hr (by decide) (by rfl) (pa_cons (pv 2) pa_nil))))
          (pss_one (ps_raise rfl (takes_of rfl rfl rfl rfl) (pmk_oex T3.ox T3.iC T3.tI FN3 room bN3 .nil pass0 (by rfl) T3.gB (pa_cons (pv 2) pa_nil))))
          pss_nil)
      (pss_cons (ps_if (pt_cmpR op_gt (pe_callB call_len_seq (by rfl) T.zLen PySem.boot_len (pa_cons (pv 3) pa_nil)) (pe_glob (v := .int 60) (by rfl) hm ⟨_, rfl⟩) (nomark _))
          (pss_one (ps_raise rfl (takes_of rfl rfl rfl rfl) (pmk_oex T4.ox T4.iC T4.tI FN4 room bN4 .nil pass0 (by rfl) T4.gB (pa_cons (pe_callB call_len_seq (by rfl) T.zLen PySem.boot_len (pa_cons (pv 3) pa_nil)) pa_nil))))
          pss_nil)
      (pss_cons (ps_for PassesOwn.leaving rfl (pi_enum (by rfl) T.zEnum (pa_cons (pv 3) pa_nil)) (pg_tup rfl (pgs_cons (pg_name (i := 4) nd rfl (.inl rfl)) (pgs_cons (pg_name (i := 5) nd rfl (.inl rfl)) pgs_nil)))
          (pss_cons (ps_if (pt_not (pt_val (pe_cl IC hr (by decide) (by rfl) (pa_cons (pv 5) pa_nil))))
              (pss_one (ps_raise rfl (takes_of rfl rfl rfl rfl) (pmk_oex T5.ox T5.iC T5.tI FN5 room bN5 .nil pass0 (by rfl) T5.gB (pa_cons (pv 4) pa_nil))))
              pss_nil)
          (pss_one (ps_expr (pe_clX KF hr (by decide) (by rfl) (takes_of rfl rfl rfl rfl) (pa_cons (pv 5) (pa_cons (pv 1) (pa_cons (pv 2) pa_nil))))))))
      (pss_cons (ps_fld (pv 0) (pe_callTy (call_tupOf K rfl) (by rfl) T.zTup bt_tup (pa_cons (pv 1) pa_nil)) rfl)
      (pss_cons (ps_fld (pv 0) (pv 2) rfl)
      (pss_one (ps_fld (pv 0) (pe_callTy (call_tupOf K rfl) (by rfl) T.zTup bt_tup (pa_cons (pv 3) pa_nil)) rfl))))))), ?_⟩
    have lx : xs.length = os.length := hA.length
    refine ⟨_, rfl, a, fs, rfl, hS, hv, ?_⟩
    cases hfu : funsErr fs with
    | some e =>
      have er : rulesErr fs last os = some e := by unfold rulesErr; rw [hfu]
      rw [er] at q
      exact q
    | none =>
      have er : rulesErr fs last os = (if placeV last = true then (if 60 < os.length then some (4, .int (os.length : Nat)) else goParts fs (lastN last) 0 os) else some (3, last)) := by unfold rulesErr; rw [hfu]
      rw [er] at q
      intro H0 S0
      refine ⟨_, rfl, last, rfl, ?_⟩
      rcases pl_kinds hl with ⟨n, rfl, epl⟩ | ⟨epl, ty, b1, b2, hT, k1, k2, k3⟩
      rotate_left
      · rw [epl, if_neg (by decide)] at q
        exact .inr ⟨ty, b1, b2, hT K H0, k1, k2, k3, _, rfl, iteT ⟨_, rfl, raise_any (Raised.up q S0)⟩⟩
      refine .inl ⟨n, rfl, _, rfl, ?_⟩
      rw [epl] at q
      cases hpn : placeB n with
      | false =>
        rw [hpn, if_neg (by decide)] at q
        exact iteT ⟨_, rfl, raise_any (Raised.up q S0)⟩
      | true =>
        rw [hpn, if_pos rfl] at q
        refine iteF ⟨_, rfl, b, xs, rfl, .inl (S0.seq hB), _, _, rfl, rfl, _, rfl, ite2 (fun z => ?_) (fun z => ?_)⟩
        · have := of_decide_eq_true z
          rw [if_pos (by omega)] at q
          refine ⟨_, rfl, b, xs, rfl, .inl (S0.seq hB), ?_⟩
          rw [lx]
          exact raise_any (Raised.up q S0)
        have c60 : ¬ 60 < os.length := fun c => z (decide_eq_true (by omega))
        rw [if_neg c60] at q
        have q : Told_ E EC H (∀ H', Fre x H H' → Q .non H') (goParts fs n 0 os) := q
        refine ⟨_, rfl, b, xs, rfl, S0.seq hB, for_enum (K := K) (a := b) (xs := xs) (fun i σ G => (∃ s1 s2, σ = [some (.ref x), some (.ref a), some (.int n), some (.ref b), s1, s2]) ∧ Same H G ∧ goParts fs n i (os.drop i) = goParts fs n 0 os)
          ⟨⟨none, none, rfl⟩, S0, rfl⟩ (fun i σ G _ ⟨_, s, _⟩ => s.seq hB) ?_ ?_⟩
        · rintro i y σ G Tn hy ⟨⟨s1, s2, rfl⟩, S1, eg⟩ hT
          obtain ⟨o, ho, hC⟩ := hA.getL hy
          have S2 := S1.trans (same_lay (o := .tup [.int (i : Nat), y]) hT)
          rw [drop_at ho] at eg
          refine ⟨Tn, _, rfl, .inl (.inl upd_same), rfl, _, _, rfl, _, _, rfl, rfl, ?_⟩
          refine ⟨_, rfl, y, o, rfl, hC.same S2, fun G2 S3 => ⟨_, rfl, ?_⟩⟩
          have S4 := S2.trans S3
          cases o with
          | none =>
            have eg2 : some ((5 : Nat), V.int (i : Nat)) = goParts fs n 0 os := by rw [← eg]; rfl
            rw [← eg2] at q
            exact iteT ⟨_, rfl, raise_any (Raised.up q S4)⟩
          | some m =>
            refine iteF ?_
            obtain ⟨z, rfl, hm2⟩ := id hC
            refine ⟨_, rfl, _, rfl, _, rfl, z, a, n, m, fs, rfl, mon_CRep.up S4 hC, S4.seq hS, (fun v h => (hv v h).flat), ?_⟩
            cases hfe : fitsErr fs n m with
            | some e =>
              have eg2 : some e = goParts fs n 0 os := by rw [← eg]; show some e = (match fitsErr fs n m with | some e => some e | none => _); rw [hfe]
              rw [← eg2] at q
              exact Raised.up q S4
            | none =>
              have eg2 : goParts fs n (i + 1) (os.drop (i + 1)) = goParts fs n 0 os := by rw [← eg]; show _ = (match fitsErr fs n m with | some e => some e | none => _); rw [hfe]
              exact fun G3 S5 => ⟨⟨_, _, rfl⟩, S4.trans S5, eg2⟩
        · rintro σ G ⟨⟨s1, s2, rfl⟩, SG, eg⟩
          rw [lx, List.drop_length] at eg
          have eg2 : none = goParts fs n 0 os := by rw [← eg]; rfl
          rw [← eg2] at q
          refine ⟨_, rfl, ?_⟩
          dsimp only [tNil]
          refine tupOf_E (.inl (SG.seq hS)) fun t G1 ht S1 => ?_
          have hx1 := S1 _ _ (SG _ _ hx)
          refine ⟨_, rfl, x, CR, dx, _, rfl, hx1, R.cl, R.nF, (by show 0 < 1000; decide), ?_⟩
          refine ⟨_, rfl, _, rfl, x, CR, dx, _, rfl, upd_same, R.cl, R.nL, (by show 1 < 1000; decide), ?_⟩
          rw [upd_upd]
          have f2 : Fre x G1 (upd G1 x (.ins CR dx (putF "last" (.int n) (putF "functions" (.ref t) [])))) := Fre.put
          refine ⟨_, rfl, ?_⟩
          dsimp only [tNil]
          refine tupOf_E (SqE.fre (.inl ((SG.trans S1).seq hB)) hx1 f2) fun t2 G2 ht2 S2 => ?_
          have hx2 : G2 x = _ := S2 _ _ (upd_same)
          refine ⟨_, rfl, x, CR, dx, _, rfl, hx2, R.cl, R.nT, (by show 2 < 1000; decide), ?_⟩
          have f3 : Fre x G2 (upd G2 x (.ins CR dx (rFl t n t2))) := Fre.put
          exact q _ fun c o e nc => f3 _ _ (S2 _ _ (f2 _ _ (S1 _ _ (SG _ _ e)) nc)) nc
/-! ### _law_refusal -/
structure RMkX (P : Program) (w : World) (K : PySem.W.Frag) (mg : Str → Option Value) (base : Heap) (CR CP : Addr) (C EC : Nat → Addr) : Prop where
  made : ∃ f fd, Mk K CR f ∧ FnOk P w K mg base (L2.CX P w) 6 f fd ["self", "functions", "last", "told"] (spRuInitX K CR CP C EC) ∧ Binds K fd ["self", "functions", "last", "told"] []
  mgC : mg "Rules" = some (.ref CR)
theorem bt_VE : bootBuiltins ("ValueError" : Str) = some (.type "ValueError") := by decide +kernel
theorem scRef : FnScope ["_law_words", "_law_last", "_law_clauses", "e"] ["_law_words", "_law_last", "_law_clauses"] (defScope sRefusal) := ⟨rfl, rfl, rfl, by decide +kernel, rfl, by decide +kernel, by decide +kernel⟩
theorem ok_refusal {f : Addr} {fd : FuncData} (F : Fun K "_law_refusal" "_law_refusal" sRefusal f fd) (T : PTxt K mg CP) (M : RMkX P w K mg base CR CP C EC) (E0 : ErK P w K mg base "BadFunctions" "count" (EC 0) CE) (E1 : ErK P w K mg base "BadWord" "word" (EC 1) CE) (E2 : ErK P w K mg base "Twice" "word" (EC 2) CE) (E3 : ErK P w K mg base "NoPlace" "place" (EC 3) CE) (E4 : ErK P w K mg base "TooMany" "count" (EC 4) CE) (E5 : ErK P w K mg base "NoClause" "index" (EC 5) CE) (E6 : ErK P w K mg base "NoFunction" "function" (EC 6) CE)
    (XX : ∀ k, k < 7 → ∀ j, j < 7 → PySem.W.exmOne K (.ref (EC k)) (.ref (EC j)) = some (decide (k = j))) : FnOk P w K mg base CX0 8 f fd ["_law_words", "_law_last", "_law_clauses"] (spRefusal K CP C tag) := by
  obtain ⟨fI0, fd0, T0, FN0, bN0⟩ := E0.ex
  obtain ⟨fI1, fd1, T1, FN1, bN1⟩ := E1.ex
  obtain ⟨fI2, fd2, T2, FN2, bN2⟩ := E2.ex
  obtain ⟨fI3, fd3, T3, FN3, bN3⟩ := E3.ex
  obtain ⟨fI4, fd4, T4, FN4, bN4⟩ := E4.ex
  obtain ⟨fI5, fd5, T5, FN5, bN5⟩ := E5.ex
  obtain ⟨fI6, fd6, T6, FN6, bN6⟩ := E6.ex
  obtain ⟨f0, fdR, mk, F0, hb⟩ := M.made
  refine F.ok scRef (fun vs H Q E h => ?_) (fun cdv A outer s H vs Q E hr h => ?_)
  · obtain ⟨a, b, last, fs, xs, os, rfl, _⟩ := h
    rfl
  · obtain ⟨a, b, last, fs, xs, os, rfl, hS, hv, hl, hB, hA, qn, qe⟩ := h
    have nd := scRef.nd
    have room : Room (6 + 1) _ := hr
    refine ⟨_, pss_cons (ps_try_names (Wo := fun _ _ _ _ => False) rfl rfl nd takes0
        (fun W pn xe tk _ => pss_one (ps_expr (by exact (pe_makeS mk F0 room (by rfl) M.mgC hb .nil (fun σ => passAt tk σ) (by exact (pa_cons (pv 0) (pa_cons (pv 1) (pa_cons (pv 2) pa_nil))))))))
        (.cons (i := 3) rfl rfl ⟨rfl, by decide, .inl T0.gB⟩ (fun a oe cls d pn hz hf => pss_one (ps_ret (by exact (pe_tup (pa_cons pe_str (pa_cons (pe_xf T0.xf T0.noI hz hf (pv 3)) (pa_cons (pe_and (pe_callB (call_isX T0.xc hz hf) (by rfl) T.zIsi bt_isi (pa_cons (pv 3) (pa_cons (pe_glob (v := .ref CE) (by rfl) T0.gR rfl) pa_nil)))
            (pe_one (pe_callB (call_isX T0.xc hz hf) (by rfl) T.zIsi bt_isi (pa_cons (pv 3) (pa_cons (pe_bltn (v := .ty "ValueError") (by rfl) T0.zV bt_VE rfl) pa_nil))))) pa_nil)))))))
          (.cons (i := 3) rfl rfl ⟨rfl, by decide, .inl T1.gB⟩ (fun a oe cls d pn hz hf => pss_one (ps_ret (by exact (pe_tup (pa_cons pe_str (pa_cons (pe_xf T1.xf T1.noI hz hf (pv 3)) (pa_cons (pe_and (pe_callB (call_isX T1.xc hz hf) (by rfl) T.zIsi bt_isi (pa_cons (pv 3) (pa_cons (pe_glob (v := .ref CE) (by rfl) T1.gR rfl) pa_nil)))
            (pe_one (pe_callB (call_isX T1.xc hz hf) (by rfl) T.zIsi bt_isi (pa_cons (pv 3) (pa_cons (pe_bltn (v := .ty "ValueError") (by rfl) T1.zV bt_VE rfl) pa_nil))))) pa_nil)))))))
          (.cons (i := 3) rfl rfl ⟨rfl, by decide, .inl T2.gB⟩ (fun a oe cls d pn hz hf => pss_one (ps_ret (by exact (pe_tup (pa_cons pe_str (pa_cons (pe_xf T2.xf T2.noI hz hf (pv 3)) (pa_cons (pe_and (pe_callB (call_isX T2.xc hz hf) (by rfl) T.zIsi bt_isi (pa_cons (pv 3) (pa_cons (pe_glob (v := .ref CE) (by rfl) T2.gR rfl) pa_nil)))
            (pe_one (pe_callB (call_isX T2.xc hz hf) (by rfl) T.zIsi bt_isi (pa_cons (pv 3) (pa_cons (pe_bltn (v := .ty "ValueError") (by rfl) T2.zV bt_VE rfl) pa_nil))))) pa_nil)))))))
          (.cons (i := 3) rfl rfl ⟨rfl, by decide, .inl T3.gB⟩ (fun a oe cls d pn hz hf => pss_one (ps_ret (by exact (pe_tup (pa_cons pe_str (pa_cons (pe_xf T3.xf T3.noI hz hf (pv 3)) (pa_cons (pe_and (pe_callB (call_isX T3.xc hz hf) (by rfl) T.zIsi bt_isi (pa_cons (pv 3) (pa_cons (pe_glob (v := .ref CE) (by rfl) T3.gR rfl) pa_nil)))
            (pe_one (pe_callB (call_isX T3.xc hz hf) (by rfl) T.zIsi bt_isi (pa_cons (pv 3) (pa_cons (pe_bltn (v := .ty "ValueError") (by rfl) T3.zV bt_VE rfl) pa_nil))))) pa_nil)))))))
          (.cons (i := 3) rfl rfl ⟨rfl, by decide, .inl T4.gB⟩ (fun a oe cls d pn hz hf => pss_one (ps_ret (by exact (pe_tup (pa_cons pe_str (pa_cons (pe_xf T4.xf T4.noI hz hf (pv 3)) (pa_cons (pe_and (pe_callB (call_isX T4.xc hz hf) (by rfl) T.zIsi bt_isi (pa_cons (pv 3) (pa_cons (pe_glob (v := .ref CE) (by rfl) T4.gR rfl) pa_nil)))
            (pe_one (pe_callB (call_isX T4.xc hz hf) (by rfl) T.zIsi bt_isi (pa_cons (pv 3) (pa_cons (pe_bltn (v := .ty "ValueError") (by rfl) T4.zV bt_VE rfl) pa_nil))))) pa_nil)))))))
          (.cons (i := 3) rfl rfl ⟨rfl, by decide, .inl T5.gB⟩ (fun a oe cls d pn hz hf => pss_one (ps_ret (by exact (pe_tup (pa_cons pe_str (pa_cons (pe_xf T5.xf T5.noI hz hf (pv 3)) (pa_cons (pe_and (pe_callB (call_isX T5.xc hz hf) (by rfl) T.zIsi bt_isi (pa_cons (pv 3) (pa_cons (pe_glob (v := .ref CE) (by rfl) T5.gR rfl) pa_nil)))
            (pe_one (pe_callB (call_isX T5.xc hz hf) (by rfl) T.zIsi bt_isi (pa_cons (pv 3) (pa_cons (pe_bltn (v := .ty "ValueError") (by rfl) T5.zV bt_VE rfl) pa_nil))))) pa_nil)))))))
          (.cons (i := 3) rfl rfl ⟨rfl, by decide, .inl T6.gB⟩ (fun a oe cls d pn hz hf => pss_one (ps_ret (by exact (pe_tup (pa_cons pe_str (pa_cons (pe_xf T6.xf T6.noI hz hf (pv 3)) (pa_cons (pe_and (pe_callB (call_isX T6.xc hz hf) (by rfl) T.zIsi bt_isi (pa_cons (pv 3) (pa_cons (pe_glob (v := .ref CE) (by rfl) T6.gR rfl) pa_nil)))
            (pe_one (pe_callB (call_isX T6.xc hz hf) (by rfl) T.zIsi bt_isi (pa_cons (pv 3) (pa_cons (pe_bltn (v := .ty "ValueError") (by rfl) T6.zV bt_VE rfl) pa_nil))))) pa_nil)))))))
          .none))))))))
      (pss_one (ps_ret pe_non)), ?_⟩
    refine ⟨_, rfl, _, rfl, _, rfl, fun x dx nx ndx nex => ?_⟩
    have S1 : Same H (upd (upd H dx (.own x)) x (.ins CR dx [])) := fun c o e => by
      rw [upd_ne (ne_of_none e nx), upd_ne (ne_of_none e ndx)]
      exact e
    refine ⟨x, dx, a, b, last, fs, xs, os, rfl, upd_same, S1.seq hS, hv, hl, S1.seq hB, hA.imp (fun _ _ h => h.same S1), ?_⟩
    cases her : rulesErr fs last os with
    | none => exact fun H' fr => ⟨rfl, qn her H' (made_same nx ndx fr)⟩
    | some e =>
      have q := qe e her
      have lt := efl_lt her
      obtain ⟨k, v⟩ := e
      intro d H' nd2 hd s
      rcases (show k = 0 ∨ k = 1 ∨ k = 2 ∨ k = 3 ∨ k = 4 ∨ k = 5 ∨ k = 6 by have : k < 7 := lt; omega) with e | e | e | e | e | e | e <;> subst e
      · refine ⟨true, XX 0 (by decide) 0 (by decide), fun _ a0 na0 => ?_, fun q => Bool.noConfusion q⟩
        refine ⟨_, rfl, rfl, rfl, d, _, v, rfl, hd, by simp [List.lookup, efl], ?_⟩
        refine ⟨_, rfl, rfl, d, _, rfl, hd, .ref CE, .ref CE, true, rfl, (fun _ h => h), T0.kR, _, rfl, iteT ?_⟩
        refine ⟨_, rfl, rfl, d, _, rfl, hd, .ty "ValueError", .type "ValueError", true, rfl, (fun _ h => h), T0.kV, ?_⟩
        exact ⟨by show 3 ≤ sizeLine; decide, fun t ht => q t _ upd_same ((S1.trans s).trans (same_lay ht))⟩
      · refine ⟨false, XX 1 (by decide) 0 (by decide), (fun z => Bool.noConfusion z), fun _ => ?_⟩
        refine ⟨true, XX 1 (by decide) 1 (by decide), fun _ a0 na0 => ?_, fun q => Bool.noConfusion q⟩
        refine ⟨_, rfl, rfl, rfl, d, _, v, rfl, hd, by simp [List.lookup, efl], ?_⟩
        refine ⟨_, rfl, rfl, d, _, rfl, hd, .ref CE, .ref CE, true, rfl, (fun _ h => h), T1.kR, _, rfl, iteT ?_⟩
        refine ⟨_, rfl, rfl, d, _, rfl, hd, .ty "ValueError", .type "ValueError", true, rfl, (fun _ h => h), T1.kV, ?_⟩
        exact ⟨by show 3 ≤ sizeLine; decide, fun t ht => q t _ upd_same ((S1.trans s).trans (same_lay ht))⟩
      · refine ⟨false, XX 2 (by decide) 0 (by decide), (fun z => Bool.noConfusion z), fun _ => ?_⟩
        refine ⟨false, XX 2 (by decide) 1 (by decide), (fun z => Bool.noConfusion z), fun _ => ?_⟩
        refine ⟨true, XX 2 (by decide) 2 (by decide), fun _ a0 na0 => ?_, fun q => Bool.noConfusion q⟩
        refine ⟨_, rfl, rfl, rfl, d, _, v, rfl, hd, by simp [List.lookup, efl], ?_⟩
        refine ⟨_, rfl, rfl, d, _, rfl, hd, .ref CE, .ref CE, true, rfl, (fun _ h => h), T2.kR, _, rfl, iteT ?_⟩
        refine ⟨_, rfl, rfl, d, _, rfl, hd, .ty "ValueError", .type "ValueError", true, rfl, (fun _ h => h), T2.kV, ?_⟩
        exact ⟨by show 3 ≤ sizeLine; decide, fun t ht => q t _ upd_same ((S1.trans s).trans (same_lay ht))⟩
      · refine ⟨false, XX 3 (by decide) 0 (by decide), (fun z => Bool.noConfusion z), fun _ => ?_⟩
        refine ⟨false, XX 3 (by decide) 1 (by decide), (fun z => Bool.noConfusion z), fun _ => ?_⟩
        refine ⟨false, XX 3 (by decide) 2 (by decide), (fun z => Bool.noConfusion z), fun _ => ?_⟩
        refine ⟨true, XX 3 (by decide) 3 (by decide), fun _ a0 na0 => ?_, fun q => Bool.noConfusion q⟩
        refine ⟨_, rfl, rfl, rfl, d, _, v, rfl, hd, by simp [List.lookup, efl], ?_⟩
        refine ⟨_, rfl, rfl, d, _, rfl, hd, .ref CE, .ref CE, true, rfl, (fun _ h => h), T3.kR, _, rfl, iteT ?_⟩
        refine ⟨_, rfl, rfl, d, _, rfl, hd, .ty "ValueError", .type "ValueError", true, rfl, (fun _ h => h), T3.kV, ?_⟩
        exact ⟨by show 3 ≤ sizeLine; decide, fun t ht => q t _ upd_same ((S1.trans s).trans (same_lay ht))⟩
      · refine ⟨false, XX 4 (by decide) 0 (by decide), (fun z => Bool.noConfusion z), fun _ => ?_⟩
        refine ⟨false, XX 4 (by decide) 1 (by decide), (fun z => Bool.noConfusion z), fun _ => ?_⟩
        refine ⟨false, XX 4 (by decide) 2 (by decide), (fun z => Bool.noConfusion z), fun _ => ?_⟩
        refine ⟨false, XX 4 (by decide) 3 (by decide), (fun z => Bool.noConfusion z), fun _ => ?_⟩
        refine ⟨true, XX 4 (by decide) 4 (by decide), fun _ a0 na0 => ?_, fun q => Bool.noConfusion q⟩
        refine ⟨_, rfl, rfl, rfl, d, _, v, rfl, hd, by simp [List.lookup, efl], ?_⟩
        refine ⟨_, rfl, rfl, d, _, rfl, hd, .ref CE, .ref CE, true, rfl, (fun _ h => h), T4.kR, _, rfl, iteT ?_⟩
        refine ⟨_, rfl, rfl, d, _, rfl, hd, .ty "ValueError", .type "ValueError", true, rfl, (fun _ h => h), T4.kV, ?_⟩
        exact ⟨by show 3 ≤ sizeLine; decide, fun t ht => q t _ upd_same ((S1.trans s).trans (same_lay ht))⟩
      · refine ⟨false, XX 5 (by decide) 0 (by decide), (fun z => Bool.noConfusion z), fun _ => ?_⟩
        refine ⟨false, XX 5 (by decide) 1 (by decide), (fun z => Bool.noConfusion z), fun _ => ?_⟩
        refine ⟨false, XX 5 (by decide) 2 (by decide), (fun z => Bool.noConfusion z), fun _ => ?_⟩
        refine ⟨false, XX 5 (by decide) 3 (by decide), (fun z => Bool.noConfusion z), fun _ => ?_⟩
        refine ⟨false, XX 5 (by decide) 4 (by decide), (fun z => Bool.noConfusion z), fun _ => ?_⟩
        refine ⟨true, XX 5 (by decide) 5 (by decide), fun _ a0 na0 => ?_, fun q => Bool.noConfusion q⟩
        refine ⟨_, rfl, rfl, rfl, d, _, v, rfl, hd, by simp [List.lookup, efl], ?_⟩
        refine ⟨_, rfl, rfl, d, _, rfl, hd, .ref CE, .ref CE, true, rfl, (fun _ h => h), T5.kR, _, rfl, iteT ?_⟩
        refine ⟨_, rfl, rfl, d, _, rfl, hd, .ty "ValueError", .type "ValueError", true, rfl, (fun _ h => h), T5.kV, ?_⟩
        exact ⟨by show 3 ≤ sizeLine; decide, fun t ht => q t _ upd_same ((S1.trans s).trans (same_lay ht))⟩
      · refine ⟨false, XX 6 (by decide) 0 (by decide), (fun z => Bool.noConfusion z), fun _ => ?_⟩
        refine ⟨false, XX 6 (by decide) 1 (by decide), (fun z => Bool.noConfusion z), fun _ => ?_⟩
        refine ⟨false, XX 6 (by decide) 2 (by decide), (fun z => Bool.noConfusion z), fun _ => ?_⟩
        refine ⟨false, XX 6 (by decide) 3 (by decide), (fun z => Bool.noConfusion z), fun _ => ?_⟩
        refine ⟨false, XX 6 (by decide) 4 (by decide), (fun z => Bool.noConfusion z), fun _ => ?_⟩
        refine ⟨false, XX 6 (by decide) 5 (by decide), (fun z => Bool.noConfusion z), fun _ => ?_⟩
        refine ⟨true, XX 6 (by decide) 6 (by decide), fun _ a0 na0 => ?_, fun q => Bool.noConfusion q⟩
        refine ⟨_, rfl, rfl, rfl, d, _, v, rfl, hd, by simp [List.lookup, efl], ?_⟩
        refine ⟨_, rfl, rfl, d, _, rfl, hd, .ref CE, .ref CE, true, rfl, (fun _ h => h), T6.kR, _, rfl, iteT ?_⟩
        refine ⟨_, rfl, rfl, d, _, rfl, hd, .ty "ValueError", .type "ValueError", true, rfl, (fun _ h => h), T6.kV, ?_⟩
        exact ⟨by show 3 ≤ sizeLine; decide, fun t ht => q t _ upd_same ((S1.trans s).trans (same_lay ht))⟩
end
end OR

namespace OR
open PySem PySem.Spec PyProof.Rows L2
open TL (tl numL)
/-! ### the clause of a tuple whose rows may touch -/
structure GoodP (m : CM) : Prop where
  lt : m.1 < 7
  w : Word m.2.1
  wf : WF m.1 m.2.1 m.2.2.2
  ok : ∀ r ∈ m.2.2.1, okRow r = true
  asc : m.2.2.1.Pairwise (fun r s => r.2 < s.1)
  len : m.2.2.1.length ≤ 6
/-- the clause that is made of a part -/
structure Made1 (m m' : CM) : Prop where
  k : m'.1 = m.1
  f : m'.2.1 = m.2.1
  x : m'.2.2.2 = m.2.2.2
  nf : Nf m'.2.2.1
  me : ∀ z, mem m'.2.2.1 z ↔ mem m.2.2.1 z
theorem ok_rows {R l : List Row} (h : ∀ r ∈ R, okRow r = true) (n : Nf l) (e : ∀ z, mem l z ↔ mem R z) : ∀ r ∈ l, okRow r = true := by
  intro r hr
  have hb : ∀ z, mem R z → 0 ≤ z ∧ z ≤ lastP := by
    rintro z ⟨s, hs, h1, h2⟩
    have := okRow_iff (h s hs)
    omega
  have h0 := n.ok r hr
  have h1 := hb r.1 ((e _).mp ⟨r, hr, Int.le_refl _, h0⟩)
  have h2 := hb r.2 ((e _).mp ⟨r, hr, h0, Int.le_refl _⟩)
  exact okRow_of h1.1 h0 h2.2
/-! the first place above -/
structure Least (R : List Row) (n v : Int) : Prop where
  me : mem R v
  gt : n < v
  le : ∀ z, mem R z → n < z → v ≤ z
theorem least_of {n : Int} : ∀ {R : List Row} {r : Row}, (∀ r ∈ R, r.1 ≤ r.2) → R.Pairwise (fun r s => r.2 < s.1) → R.find? (isAbove n) = some r → Least R n (if n < r.1 then r.1 else n + 1)
  | [], r, _, _, e => by cases e
  | q :: R, r, h, p, e => by
    have hq := h q List.mem_cons_self
    have gap : ∀ s ∈ R, q.2 < s.1 := (List.pairwise_cons.mp p).1
    by_cases c : n < q.2
    · rw [List.find?_cons_of_pos (by exact decide_eq_true c)] at e
      cases e
      by_cases d : n < q.1
      · rw [if_pos d]
        refine ⟨⟨q, List.mem_cons_self, Int.le_refl _, hq⟩, d, fun z ⟨s, hs, h1, h2⟩ hz => ?_⟩
        rcases List.mem_cons.mp hs with e | hs
        · rw [e] at h1; exact h1
        · have := gap s hs; omega
      · rw [if_neg d]
        exact ⟨⟨q, List.mem_cons_self, by omega, by omega⟩, by omega, fun z _ hz => by omega⟩
    · rw [List.find?_cons_of_neg (by unfold isAbove; simpa using Int.not_lt.mp c)] at e
      have ih := least_of (fun r hr => h r (List.mem_cons_of_mem _ hr)) (List.pairwise_cons.mp p).2 e
      obtain ⟨s, hs, h1, h2⟩ := ih.me
      refine ⟨⟨s, List.mem_cons_of_mem _ hs, h1, h2⟩, ih.gt, fun z ⟨u, hu, k1, k2⟩ hz => ?_⟩
      rcases List.mem_cons.mp hu with e | hu
      · rw [e] at k2; omega
      · exact ih.le z ⟨u, hu, k1, k2⟩ hz
theorem none_above {R : List Row} {n : Int} (h : R.find? (isAbove n) = none) : ∀ z, mem R z → z ≤ n := by
  rintro z ⟨r, hr, h1, h2⟩
  have := List.find?_eq_none.mp h r hr
  unfold isAbove at this
  rw [decide_eq_true_eq] at this
  omega
theorem fits_same {m m' : CM} (g : GoodP m) (e : Made1 m m') (fs : List V) (n : Int) : fitsErr fs n m' = fitsErr fs n m := by
  unfold fitsErr
  rw [e.k, e.f, e.x]
  cases (told m.1 m.2.1 m.2.2.2).find? (fun g => !inV g fs) with
  | some g => rfl
  | none =>
    show (match m'.2.2.1.find? (isAbove n) with | some r => _ | none => _) = (match m.2.2.1.find? (isAbove n) with | some r => _ | none => _)
    have asc' : m'.2.2.1.Pairwise (fun r s => r.2 < s.1) := e.nf.gap.imp fun h => by omega
    have ok' : ∀ r ∈ m'.2.2.1, r.1 ≤ r.2 := fun r hr => e.nf.ok r hr
    have ok : ∀ r ∈ m.2.2.1, r.1 ≤ r.2 := fun r hr => (okRow_iff (g.ok r hr)).2.1
    cases h1 : m.2.2.1.find? (isAbove n) with
    | none =>
      have z := none_above h1
      cases h2 : m'.2.2.1.find? (isAbove n) with
      | none => rfl
      | some r =>
        have l := least_of ok' asc' h2
        exact absurd (z _ ((e.me _).mp l.me)) (by have := l.gt; omega)
    | some r =>
      have l := least_of ok g.asc h1
      cases h2 : m'.2.2.1.find? (isAbove n) with
      | none => exact absurd (none_above h2 _ ((e.me _).mpr l.me)) (by have := l.gt; omega)
      | some s =>
        have l2 := least_of ok' asc' h2
        have a := l.le _ ((e.me _).mp l2.me) l2.gt
        have b := l2.le _ ((e.me _).mpr l.me) l.gt
        show some ((3 : Nat), V.int (if n < s.1 then s.1 else n + 1)) = some (3, V.int (if n < r.1 then r.1 else n + 1))
        rw [Int.le_antisymm a b]
def MadeO : Option CM → Option CM → Prop
  | none, none => True
  | some m, some m' => GoodP m ∧ Made1 m m'
  | _, _ => False
theorem parts_same {fs : List V} {n : Int} : ∀ {qs os : List (Option CM)} (i : Nat), All2 MadeO qs os → goParts fs n i os = goParts fs n i qs
  | _, _, i, .nil => rfl
  | none :: _, none :: _, i, .cons _ r => rfl
  | some m :: _, some m' :: _, i, .cons ⟨g, e⟩ r => by
    show (match fitsErr fs n m' with | some e => some e | none => goParts fs n (i + 1) _) = (match fitsErr fs n m with | some e => some e | none => goParts fs n (i + 1) _)
    rw [fits_same g e fs n]
    cases fitsErr fs n m with
    | some e => rfl
    | none => exact parts_same (i + 1) r
  | none :: _, some _ :: _, i, .cons h r => h.elim
  | some _ :: _, none :: _, i, .cons h r => h.elim
theorem rules_same {fs : List V} {last : V} {qs os : List (Option CM)} (h : All2 MadeO qs os) : rulesErr fs last os = rulesErr fs last qs := by
  unfold rulesErr
  cases funsErr fs with
  | some e => rfl
  | none =>
    show (if placeV last = true then (if 60 < os.length then some (4, .int (os.length : Nat)) else goParts fs (lastN last) 0 os) else some (3, last)) = _
    rw [← h.length, parts_same 0 h]
def spMadeX (CP : Addr) (C : Nat → Addr) : Sp := fun vs H Q _ => ∃ (t : Addr) (m : CM), vs = [.ref t] ∧ SpT H t m ∧ GoodP m ∧ ∀ z l H', Nf l → (∀ v, mem l v ↔ mem m.2.2.1 v) → CRep CP C H' (.ref z) (m.1, m.2.1, l, m.2.2.2) → Same H H' → Q (.ref z) H'
section
variable {P : Program} {w : World} {K : PySem.W.Frag} {mg : Str → Option Value} {base : Heap} {C : Nat → Addr} {CP : Addr}
theorem scMOx : FnScope ["_law_told", "_law_kind", "_law_f", "_law_places"] ["_law_told"] (defScope sMadeOf) := ⟨rfl, rfl, rfl, by decide +kernel, rfl, by decide +kernel, by decide +kernel⟩
theorem ok_madeX {f : Addr} {fd : FuncData} (F : Fun K "_law_made_of" "_law_made_of" sMadeOf f fd) (B : Bd mg) (PM : PMk' P w K mg base CP) (M0 : CMk P w K mg base C 0 ["self", "function", "places"]) (M1 : CMk P w K mg base C 1 ["self", "function", "places"]) (M2 : CMk P w K mg base C 2 ["self", "function", "places", "other"]) (M3 : CMk P w K mg base C 3 ["self", "function", "places", "way"])
    (M4 : CMk P w K mg base C 4 ["self", "function", "places", "sign", "slope", "height"]) (M5 : CMk P w K mg base C 5 ["self", "function", "places", "sign", "other", "slope", "height"]) (M6 : CMk P w K mg base C 6 ["self", "function", "places", "sign", "height"]) : FnOk P w K mg base CX0 6 f fd ["_law_told"] (spMadeX CP C) := by
  refine F.ok scMOx (fun vs H Q E h => ?_) (fun cdv A outer s H vs Q E hr h => ?_)
  · obtain ⟨_, _, rfl, _⟩ := h
    rfl
  · obtain ⟨t, m, rfl, ⟨ra, M, ht, hra, hM, eM⟩, hG, q⟩ := h
    have nd := scMOx.nd
    refine ⟨_, pss_cons (ps_par3 (i := 1) (j := 2) (l := 3) rfl nd rfl rfl rfl (by decide) (by decide) (by decide) rfl rfl rfl (pa_cons (pe_ix (ix_tupK K rfl) (pv 0) pe_int (fun _ _ => rfl)) (pa_cons (pe_ix (ix_tupK K rfl) (pv 0) pe_int (fun _ _ => rfl)) (pa_cons (pe_mkP K rfl PM hr (by decide) (by rfl) (pa_cons (pe_callTy call_list_of (by rfl) B.list bt_list (pa_cons (pe_ix (ix_tupK K rfl) (pv 0) pe_int (fun _ _ => rfl)) pa_nil)) pa_nil)) pa_nil))) rfl)
      (pss_cons (ps_if (pt_cmpR (op_in_seqK K rfl) (pv 1) (pe_tup (pa_cons pe_str (pa_cons pe_str pa_nil))) (by rfl))
          (pss_one (ps_ret (pe_ifExp (pt_cmpR op_eq (pv 1) pe_str (nomark _)) (pe_mkC M0 rfl hr (by decide) (by rfl) (pa_cons (pv 2) (pa_cons (pv 3) pa_nil))) (pe_mkC M1 rfl hr (by decide) (by rfl) (pa_cons (pv 2) (pa_cons (pv 3) pa_nil))))))
          pss_nil)
      (pss_cons (ps_if (pt_cmpR (op_in_seqK K rfl) (pv 1) (pe_tup (pa_cons pe_str (pa_cons pe_str pa_nil))) (by rfl))
          (pss_one (ps_ret (pe_ifExp (pt_cmpR op_eq (pv 1) pe_str (nomark _)) (pe_mkC M2 rfl hr (by decide) (by rfl) (pa_cons (pv 2) (pa_cons (pv 3) (pa_cons (pe_ix (ix_tupK K rfl) (pv 0) pe_int (fun _ _ => rfl)) pa_nil)))) (pe_mkC M3 rfl hr (by decide) (by rfl) (pa_cons (pv 2) (pa_cons (pv 3) (pa_cons (pe_ix (ix_tupK K rfl) (pv 0) pe_int (fun _ _ => rfl)) pa_nil)))))))
          pss_nil)
      (pss_cons (ps_if (pt_cmpR op_eq (pv 1) pe_str (nomark _))
          (pss_one (ps_ret (pe_mkC M4 rfl hr (by decide) (by rfl) (pa_cons (pv 2) (pa_cons (pv 3) (pa_cons (pe_ix (ix_tupK K rfl) (pv 0) pe_int (fun _ _ => rfl)) (pa_cons (pe_ix (ix_tupK K rfl) (pv 0) pe_int (fun _ _ => rfl)) (pa_cons (pe_ix (ix_tupK K rfl) (pv 0) pe_int (fun _ _ => rfl)) pa_nil))))))))
          pss_nil)
      (pss_cons (ps_if (pt_cmpR op_eq (pv 1) pe_str (nomark _))
          (pss_one (ps_ret (pe_mkC M5 rfl hr (by decide) (by rfl) (pa_cons (pv 2) (pa_cons (pv 3) (pa_cons (pe_ix (ix_tupK K rfl) (pv 0) pe_int (fun _ _ => rfl)) (pa_cons (pe_ix (ix_tupK K rfl) (pv 0) pe_int (fun _ _ => rfl)) (pa_cons (pe_ix (ix_tupK K rfl) (pv 0) pe_int (fun _ _ => rfl)) (pa_cons (pe_ix (ix_tupK K rfl) (pv 0) pe_int (fun _ _ => rfl)) pa_nil)))))))))
          pss_nil)
      (pss_one (ps_ret (pe_mkC M6 rfl hr (by decide) (by rfl) (pa_cons (pv 2) (pa_cons (pv 3) (pa_cons (pe_ix (ix_tupK K rfl) (pv 0) pe_int (fun _ _ => rfl)) (pa_cons (pe_ix (ix_tupK K rfl) (pv 0) pe_int (fun _ _ => rfl)) pa_nil))))))))))), ?_⟩
    obtain ⟨i, f0, l, x⟩ := m
    have hi : i < 7 := hG.lt
    have hwf : WF i f0 x := hG.wf
    have hw : Word f0 := hG.w
    have okl : ∀ r ∈ l, okRow r = true := hG.ok
    have ll : l.length ≤ 6 := hG.len
    have eM : rws M = l := eM
    refine ⟨_, rfl, t, _, 0, .str (kName i), rfl, rfl, .inl (.inl ht), atI_nat (j := 0) rfl, _, rfl, t, _, 1, .str f0, rfl, rfl, .inl (.inl ht), atI_nat (j := 1) rfl, _, rfl, t, _, 2, .ref ra, rfl, rfl, .inl (.inl ht), atI_nat (j := 2) rfl, ra, refs M, rfl, .inl (.inl (.inl hra)), fun y ny => ?_⟩
    have s1 := same_lay (o := .lst (refs M)) ny
    refine ⟨y, M, rfl, .inl (.inl (.inl upd_same)), by rw [← rws_len M, eM]; omega, (hM.same s1).pairs, by rw [eM]; exact okl, fun pl lr H2 npl hpl hme hle s2 => ⟨_, _, _, rfl, ?_⟩⟩
    have hle2 : lr.length ≤ 6 := by rw [← rws_len M, eM] at hle; omega
    have hme2 : ∀ z, mem lr z ↔ mem l z := by rw [← eM]; exact hme
    have ok : ∀ r ∈ lr, okRow r = true := ok_rows okl hpl.nf hme2
    have s12 := s1.trans s2
    have ht2 := s12 _ _ ht
    clear hme ny s1 s2 hle
    have fin : ∀ z dx G, H2 z = none → G z = some (.ins (C i) dx (cFl i f0 pl x)) → ∀ H3, Same H2 H3 → Same H3 G → Q (.ref z) G := fun z dx G nz hz H3 s3 s4 =>
      q z lr G hpl.nf hme2 ⟨z, rfl, ⟨dx, pl, hz, hpl.same (s3.trans s4)⟩, hi, hw, hwf, ok, (by show lr.length ≤ 20; omega)⟩ (s12.trans (s3.trans s4))
    rcases kinds7' hi with e | e | e | e | e | e | e <;> subst e
    · have hx0 : x = [] := hwf; subst hx0
      refine ⟨_, rfl, by show 2 ≤ sizeLine; decide, fun eA nA => ⟨eA, [V.str "answers", .str "refuses"], rfl, .inr (.inl (.inl upd_same)), rfl, rfl, _, rfl, ite2 (fun _ => ?_) (fun z => absurd (by decide +kernel) z)⟩⟩
      have sA := same_lay (o := .tup [V.str "answers", .str "refuses"]) nA
      refine ⟨_, rfl, rfl, _, rfl, ite2 (fun _ => ?_) (fun z => absurd (decide_eq_true rfl) z)⟩
      exact ⟨_, rfl, _, rfl, f0, pl, [], rfl, hw, hwf, fun z dx G nz hz s4 => fin z dx G (sA.free nz) hz _ sA s4⟩
    · have hx0 : x = [] := hwf; subst hx0
      refine ⟨_, rfl, by show 2 ≤ sizeLine; decide, fun eA nA => ⟨eA, [V.str "answers", .str "refuses"], rfl, .inr (.inl (.inl upd_same)), rfl, rfl, _, rfl, ite2 (fun _ => ?_) (fun z => absurd (by decide +kernel) z)⟩⟩
      have sA := same_lay (o := .tup [V.str "answers", .str "refuses"]) nA
      refine ⟨_, rfl, rfl, _, rfl, ite2 (fun z => absurd (of_decide_eq_true z) (by decide +kernel)) (fun _ => ?_)⟩
      exact ⟨_, rfl, _, rfl, f0, pl, [], rfl, hw, hwf, fun z dx G nz hz s4 => fin z dx G (sA.free nz) hz _ sA s4⟩
    · obtain ⟨g, rfl, hg⟩ := id hwf
      refine ⟨_, rfl, by show 2 ≤ sizeLine; decide, fun eA nA => ⟨eA, [V.str "answers", .str "refuses"], rfl, .inr (.inl (.inl upd_same)), rfl, rfl, _, rfl, ite2 (fun z => absurd z (by decide +kernel)) (fun _ => ?_)⟩⟩
      have sA := same_lay (o := .tup [V.str "answers", .str "refuses"]) nA
      refine ⟨_, rfl, by show 2 ≤ sizeLine; decide, fun eB nB => ⟨eB, [V.str "needs", .str "spreads"], rfl, .inr (.inl (.inl upd_same)), rfl, rfl, _, rfl, ite2 (fun _ => ?_) (fun z => absurd (by decide +kernel) z)⟩⟩
      have sB := same_lay (o := .tup [V.str "needs", .str "spreads"]) nB
      refine ⟨_, rfl, rfl, _, rfl, ite2 (fun _ => ?_) (fun z => absurd (decide_eq_true rfl) z)⟩
      exact ⟨_, rfl, _, rfl, _, rfl, t, _, 3, .str g, rfl, rfl, .inl (.inl ((sA.trans sB) _ _ ht2)), atI_nat (j := 3) rfl, f0, pl, [.str g], rfl, hw, hwf, fun z dx G nz hz s4 => fin z dx G ((sA.trans sB).free nz) hz _ (sA.trans sB) s4⟩
    · obtain ⟨wy, rfl, hg⟩ := id hwf
      refine ⟨_, rfl, by show 2 ≤ sizeLine; decide, fun eA nA => ⟨eA, [V.str "answers", .str "refuses"], rfl, .inr (.inl (.inl upd_same)), rfl, rfl, _, rfl, ite2 (fun z => absurd z (by decide +kernel)) (fun _ => ?_)⟩⟩
      have sA := same_lay (o := .tup [V.str "answers", .str "refuses"]) nA
      refine ⟨_, rfl, by show 2 ≤ sizeLine; decide, fun eB nB => ⟨eB, [V.str "needs", .str "spreads"], rfl, .inr (.inl (.inl upd_same)), rfl, rfl, _, rfl, ite2 (fun _ => ?_) (fun z => absurd (by decide +kernel) z)⟩⟩
      have sB := same_lay (o := .tup [V.str "needs", .str "spreads"]) nB
      refine ⟨_, rfl, rfl, _, rfl, ite2 (fun z => absurd (of_decide_eq_true z) (by decide +kernel)) (fun _ => ?_)⟩
      exact ⟨_, rfl, _, rfl, _, rfl, t, _, 3, .str wy, rfl, rfl, .inl (.inl ((sA.trans sB) _ _ ht2)), atI_nat (j := 3) rfl, f0, pl, [.str wy], rfl, hw, hwf, fun z dx G nz hz s4 => fin z dx G ((sA.trans sB).free nz) hz _ (sA.trans sB) s4⟩
    · obtain ⟨sg, a, b, rfl, hg⟩ := id hwf
      refine ⟨_, rfl, by show 2 ≤ sizeLine; decide, fun eA nA => ⟨eA, [V.str "answers", .str "refuses"], rfl, .inr (.inl (.inl upd_same)), rfl, rfl, _, rfl, ite2 (fun z => absurd z (by decide +kernel)) (fun _ => ?_)⟩⟩
      have sA := same_lay (o := .tup [V.str "answers", .str "refuses"]) nA
      refine ⟨_, rfl, by show 2 ≤ sizeLine; decide, fun eB nB => ⟨eB, [V.str "needs", .str "spreads"], rfl, .inr (.inl (.inl upd_same)), rfl, rfl, _, rfl, ite2 (fun z => absurd z (by decide +kernel)) (fun _ => ?_)⟩⟩
      have sB := same_lay (o := .tup [V.str "needs", .str "spreads"]) nB
      refine ⟨_, rfl, rfl, _, rfl, ite2 (fun _ => ?_) (fun z => absurd (decide_eq_true rfl) z)⟩
      exact ⟨_, rfl, _, rfl, _, rfl, t, _, 3, .str sg, rfl, rfl, .inl (.inl ((sA.trans sB) _ _ ht2)), atI_nat (j := 3) rfl, _, rfl, t, _, 4, .int a, rfl, rfl, .inl (.inl ((sA.trans sB) _ _ ht2)), atI_nat (j := 4) rfl, _, rfl, t, _, 5, .int b, rfl, rfl, .inl (.inl ((sA.trans sB) _ _ ht2)), atI_nat (j := 5) rfl, f0, pl, [.str sg, .int a, .int b], rfl, hw, hwf, fun z dx G nz hz s4 => fin z dx G ((sA.trans sB).free nz) hz _ (sA.trans sB) s4⟩
    · obtain ⟨sg, g, a, b, rfl, hg⟩ := id hwf
      refine ⟨_, rfl, by show 2 ≤ sizeLine; decide, fun eA nA => ⟨eA, [V.str "answers", .str "refuses"], rfl, .inr (.inl (.inl upd_same)), rfl, rfl, _, rfl, ite2 (fun z => absurd z (by decide +kernel)) (fun _ => ?_)⟩⟩
      have sA := same_lay (o := .tup [V.str "answers", .str "refuses"]) nA
      refine ⟨_, rfl, by show 2 ≤ sizeLine; decide, fun eB nB => ⟨eB, [V.str "needs", .str "spreads"], rfl, .inr (.inl (.inl upd_same)), rfl, rfl, _, rfl, ite2 (fun z => absurd z (by decide +kernel)) (fun _ => ?_)⟩⟩
      have sB := same_lay (o := .tup [V.str "needs", .str "spreads"]) nB
      refine ⟨_, rfl, rfl, _, rfl, ite2 (fun z => absurd (of_decide_eq_true z) (by decide +kernel)) (fun _ => ?_)⟩
      refine ⟨_, rfl, rfl, _, rfl, ite2 (fun _ => ?_) (fun z => absurd (decide_eq_true rfl) z)⟩
      exact ⟨_, rfl, _, rfl, _, rfl, t, _, 3, .str sg, rfl, rfl, .inl (.inl ((sA.trans sB) _ _ ht2)), atI_nat (j := 3) rfl, _, rfl, t, _, 4, .str g, rfl, rfl, .inl (.inl ((sA.trans sB) _ _ ht2)), atI_nat (j := 4) rfl, _, rfl, t, _, 5, .int a, rfl, rfl, .inl (.inl ((sA.trans sB) _ _ ht2)), atI_nat (j := 5) rfl, _, rfl, t, _, 6, .int b, rfl, rfl, .inl (.inl ((sA.trans sB) _ _ ht2)), atI_nat (j := 6) rfl, f0, pl, [.str sg, .str g, .int a, .int b], rfl, hw, hwf, fun z dx G nz hz s4 => fin z dx G ((sA.trans sB).free nz) hz _ (sA.trans sB) s4⟩
    · obtain ⟨sg, b, rfl, hg⟩ := id hwf
      refine ⟨_, rfl, by show 2 ≤ sizeLine; decide, fun eA nA => ⟨eA, [V.str "answers", .str "refuses"], rfl, .inr (.inl (.inl upd_same)), rfl, rfl, _, rfl, ite2 (fun z => absurd z (by decide +kernel)) (fun _ => ?_)⟩⟩
      have sA := same_lay (o := .tup [V.str "answers", .str "refuses"]) nA
      refine ⟨_, rfl, by show 2 ≤ sizeLine; decide, fun eB nB => ⟨eB, [V.str "needs", .str "spreads"], rfl, .inr (.inl (.inl upd_same)), rfl, rfl, _, rfl, ite2 (fun z => absurd z (by decide +kernel)) (fun _ => ?_)⟩⟩
      have sB := same_lay (o := .tup [V.str "needs", .str "spreads"]) nB
      refine ⟨_, rfl, rfl, _, rfl, ite2 (fun z => absurd (of_decide_eq_true z) (by decide +kernel)) (fun _ => ?_)⟩
      refine ⟨_, rfl, rfl, _, rfl, ite2 (fun z => absurd (of_decide_eq_true z) (by decide +kernel)) (fun _ => ?_)⟩
      exact ⟨_, rfl, _, rfl, _, rfl, t, _, 3, .str sg, rfl, rfl, .inl (.inl ((sA.trans sB) _ _ ht2)), atI_nat (j := 3) rfl, _, rfl, t, _, 4, .int b, rfl, rfl, .inl (.inl ((sA.trans sB) _ _ ht2)), atI_nat (j := 4) rfl, f0, pl, [.str sg, .int b], rfl, hw, hwf, fun z dx G nz hz s4 => fin z dx G ((sA.trans sB).free nz) hz _ (sA.trans sB) s4⟩
end
end OR

namespace OR
open PySem PySem.Spec PyProof.Rows L2
/-! ### _law_due -/
/-- a part: the tuple of a clause, or a plain value -/
def PX (H : Hp) (v : V) (q : Option CM) : Prop := match q with
  | some m => ∃ t, v = .ref t ∧ SpT H t m ∧ GoodP m
  | none => PV v
theorem PX.same {H H' : Hp} {v : V} {q : Option CM} (h : PX H v q) (s : Same H H') : PX H' v q := by
  cases q with
  | none => exact h
  | some m =>
    obtain ⟨t, e, h1, h2⟩ := h
    exact ⟨t, e, h1.same s, h2⟩
def spDue (K : PySem.W.Frag) (tag : Nat → Str) : Sp := fun vs H Q _ => ∃ (a b : Addr) (last : V) (fs xs : List V) (qs : List (Option CM)), vs = [.ref a, last, .ref b] ∧ SqL K H a fs ∧ (∀ v ∈ fs, PV v) ∧ PV last ∧ SqL K H b xs ∧ All2 (PX H) xs qs ∧
  (rulesErr fs last qs = none → ∀ H', Same H H' → Q .non H') ∧ ∀ e, rulesErr fs last qs = some e → ∀ (t : Addr) (H' : Hp), H' t = some (.tup [.str (tag e.1), e.2, .bl true]) → Same H H' → Q (.ref t) H'
theorem rows_filter {p : Row → Bool} : ∀ M : List ARow, rws (M.filter fun z => p z.2) = (rws M).filter p
  | [] => rfl
  | z :: M => by
    show rws ((z :: M).filter _) = (z.2 :: rws M).filter p
    by_cases c : p z.2 = true
    · rw [List.filter_cons_of_pos (by exact c), List.filter_cons_of_pos c, ← rows_filter M]; rfl
    · rw [List.filter_cons_of_neg (by exact c), List.filter_cons_of_neg c, rows_filter M]
/-- at which index the other function stands -/
def named (i : Nat) (f : Str) (x : List V) : List V := told i f x
section
variable {P : Program} {w : World} {K : PySem.W.Frag} {mg : Str → Option Value} {base : Heap} {C : Nat → Addr} {CP CR CE : Addr} {EC : Nat → Addr}
theorem scDu : FnScope ["_law_words", "_law_last", "_law_parts", "_law_k", "_law_named", "_law_word", "_law_above", "_law_row"] ["_law_words", "_law_last", "_law_parts"] (defScope sDue) := ⟨rfl, rfl, rfl, by decide +kernel, rfl, by decide +kernel, by decide +kernel⟩
theorem ok_due {f : Addr} {fd : FuncData} (F : Fun K "_law_due" "_law_due" sDue f fd) (B : Bd mg) (T : PTxt K mg CP) (LIW : Cl P w K mg base 1 "_law_is_word" ["_law_value"] spIsWordV) : FnOk P w K mg base CX0 3 f fd ["_law_words", "_law_last", "_law_parts"] (spDue K tag) := by
  refine F.ok scDu (fun vs H Q E h => ?_) (fun cdv A outer s H vs Q E hr h => ?_)
  · obtain ⟨a, b, last, fs, xs, qs, rfl, _⟩ := h
    rfl
  · obtain ⟨a, b, last, fs, xs, qs, rfl, hS, hv, hl, hB, hA, qn, qe⟩ := h
    have nd := scDu.nd
    have hu64 : (A.deeper (envOfC "_law_due" (defScope sDue) s.heap.objs.size f cdv)).units + 64 < cLine := hr.units
    refine ⟨_, pss_cons (ps_if (pt_not (pt_chain op_le op_le pe_int (pe_callB call_len_seq (by rfl) B.len PySem.boot_len (pa_cons (pv 0) pa_nil)) pe_int))
          (pss_one (ps_ret (pe_tup (pa_cons pe_str (pa_cons (pe_callB call_len_seq (by rfl) B.len PySem.boot_len (pa_cons (pv 0) pa_nil)) (pa_cons pe_bl pa_nil))))))
          pss_nil)
      (pss_cons (ps_for PassesOwn.never rfl (pi_range1 (by rfl) B.range (pa_cons (pe_callB call_len_seq (by rfl) B.len PySem.boot_len (pa_cons (pv 0) pa_nil)) pa_nil)) (pg_name (i := 3) nd rfl (.inl rfl))
          (pss_cons (ps_if (pt_not (pt_val (pe_cl LIW hr (by decide) (by rfl) (pa_cons (pe_ix (ix_listK K rfl) (pv 0) (pv 3) (fun _ _ => rfl)) pa_nil))))
              (pss_one (ps_ret (pe_tup (pa_cons pe_str (pa_cons (pe_ix (ix_listK K rfl) (pv 0) (pv 3) (fun _ _ => rfl)) (pa_cons pe_bl pa_nil))))))
              pss_nil)
          (pss_one (ps_if (pt_cmpR (op_in_seqK K rfl) (pe_ix (ix_listK K rfl) (pv 0) (pv 3) (fun _ _ => rfl)) (pe_slice sl_list (pv 0) po_none (po_some (pv 3))) (by rfl))
              (pss_one (ps_ret (pe_tup (pa_cons pe_str (pa_cons (pe_ix (ix_listK K rfl) (pv 0) (pv 3) (fun _ _ => rfl)) (pa_cons pe_bl pa_nil))))))
              pss_nil))))
      (pss_cons (ps_if (PW.pt (pw_or (pt_not (pt_val (pe_callB call_isi (by rfl) T.zIsi bt_isi (pa_cons (pv 1) (pa_cons (pe_bltn (v := .ty "int") (by rfl) T.zInt bt_int rfl) pa_nil))))) (pw_or (pt_val (pe_callB call_isi (by rfl) T.zIsi bt_isi (pa_cons (pv 1) (pa_cons (pe_bltn (v := .ty "bool") (by rfl) T.zBool bt_bool rfl) pa_nil)))) (pw_or1 (pt_not (pt_chain op_le op_le pe_int (pv 1) (pe_op op_pow pe_int pe_int)))))))
          (pss_one (ps_ret (pe_tup (pa_cons pe_str (pa_cons (pv 1) (pa_cons pe_bl pa_nil))))))
          pss_nil)
      (pss_cons (ps_if (pt_cmpR op_gt (pe_callB call_len_seq (by rfl) B.len PySem.boot_len (pa_cons (pv 2) pa_nil)) pe_int (nomark _))
          (pss_one (ps_ret (pe_tup (pa_cons pe_str (pa_cons (pe_callB call_len_seq (by rfl) B.len PySem.boot_len (pa_cons (pv 2) pa_nil)) (pa_cons pe_bl pa_nil))))))
          pss_nil)
      (pss_cons (ps_for PassesOwn.never rfl (pi_range1 (by rfl) B.range (pa_cons (pe_callB call_len_seq (by rfl) B.len PySem.boot_len (pa_cons (pv 2) pa_nil)) pa_nil)) (pg_name (i := 3) nd rfl (.inl rfl))
          (pss_cons (ps_if (pt_not (pt_val (pe_callB call_isi (by rfl) T.zIsi bt_isi (pa_cons (pe_ix (ix_listK K rfl) (pv 2) (pv 3) (fun _ _ => rfl)) (pa_cons (pe_bltn (v := .ty "tuple") (by rfl) T.zTup bt_tup rfl) pa_nil)))))
              (pss_one (ps_ret (pe_tup (pa_cons pe_str (pa_cons (pv 3) (pa_cons pe_bl pa_nil))))))
              pss_nil)
          (pss_cons (ps_set (i := 4) nd rfl (.inl rfl) (pe_lst (pa_cons (pe_ix (ix_tupK K rfl) (pe_ix (ix_listK K rfl) (pv 2) (pv 3) (fun _ _ => rfl)) pe_int (fun _ _ => rfl)) pa_nil)))
          (Evl.pss_cut (ps_if (pt_cmpR (op_in_seqK K rfl) (pe_ix (ix_tupK K rfl) (pe_ix (ix_listK K rfl) (pv 2) (pv 3) (fun _ _ => rfl)) pe_int (fun _ _ => rfl)) (pe_tup (pa_cons pe_str (pa_cons pe_str pa_nil))) (by rfl))
              (pss_one (ps_expr (pe_bm PySem.F.plainAttrs_list PySem.F.slot_list_append PySem.F.type_list_append mt_append (pv 4) (pa_cons (pe_ix (ix_tupK K rfl) (pe_ix (ix_listK K rfl) (pv 2) (pv 3) (fun _ _ => rfl)) (pe_ifExp (pt_cmpR op_eq (pe_ix (ix_tupK K rfl) (pe_ix (ix_listK K rfl) (pv 2) (pv 3) (fun _ _ => rfl)) pe_int (fun _ _ => rfl)) pe_str (nomark _)) pe_int pe_int) (fun _ _ => rfl)) pa_nil))))
              pss_nil)
          (pss_cons (ps_for PassesOwn.never rfl (pi_list (pv 4)) (pg_name (i := 5) nd rfl (.inl rfl))
              (pss_one (ps_if (pt_cmpR (op_notIn_seqK K rfl) (pv 5) (pv 0) (by rfl))
                  (pss_one (ps_ret (pe_tup (pa_cons pe_str (pa_cons (pv 5) (pa_cons pe_bl pa_nil))))))
                  pss_nil)))
          (pss_cons (ps_setLc (i := 6) (own := [("_law_row", 7)]) (g := (gName 7)) rfl nd rfl rfl (sw_true rfl rfl rfl (by decide +kernel)) (pi_list (pe_ix (ix_tupK K rfl) (pe_ix (ix_listK K rfl) (pv 2) (pv 3) (fun _ _ => rfl)) pe_int (fun _ _ => rfl))) (blkOk_by (N := ["_law_words", "_law_last", "_law_parts", "_law_k", "_law_named", "_law_word", "_law_above", "_law_row"]) (sc := defScope sDue) (by decide +kernel)) (fun _ _ _ _ _ => pg_name (i := 7) nd rfl (.inl rfl)) (fun _ _ _ _ _ => pts_one (pt_cmpR op_gt (pe_ix (ix_tupK K rfl) (pv 7) pe_int (fun _ _ => rfl)) (pv 1) (nomark _))) (fun _ _ _ _ _ => (pv 7)))
          (pss_one (ps_if (pt_cmpR (op_neD hu64) (pv 6) (pe_lst pa_nil) (nomark _))
              (pss_one (ps_ret (pe_tup (pa_cons pe_str (pa_cons (pe_ifExp (pt_cmpR op_gt (pe_ix (ix_tupK K rfl) (pe_ix (ix_listK K rfl) (pv 6) pe_int (fun _ _ => rfl)) pe_int (fun _ _ => rfl)) (pv 1) (nomark _)) (pe_ix (ix_tupK K rfl) (pe_ix (ix_listK K rfl) (pv 6) pe_int (fun _ _ => rfl)) pe_int (fun _ _ => rfl)) (pe_op op_add (pv 1) pe_int)) (pa_cons pe_bl pa_nil))))))
              pss_nil))))))))
      (pss_one (ps_ret pe_non)))))), ?_⟩
    have lx : xs.length = qs.length := hA.length
    have fin : ∀ e, rulesErr fs last qs = some e → ∀ G, Same H G → 3 ≤ sizeLine ∧ ∀ t, G t = none → Q (.ref t) (upd G t (.tup [.str (tag e.1), e.2, .bl true])) := fun e he G S => ⟨by decide, fun t nt => qe e he t _ upd_same (S.trans (same_lay nt))⟩
    have ef : ∀ e, funsErr fs = some e → rulesErr fs last qs = some e := fun e h => by unfold rulesErr; rw [h]
    refine ⟨_, rfl, a, fs, rfl, .inl hS, _, _, rfl, rfl, _, rfl, ?_⟩
    rw [tru_one]
    by_cases h1 : 1 ≤ fs.length
    rotate_left
    · have e : funsErr fs = some (0, .int (fs.length : Nat)) := if_neg fun h => h1 h.1
      exact iteB (decide_eq_false h1) ⟨_, rfl, iteT ⟨_, rfl, a, fs, rfl, .inl hS, fin _ (ef _ e) H (Same.refl _)⟩⟩
    refine iteA (decide_eq_true h1) ⟨_, _, rfl, rfl, _, rfl, ?_⟩
    rw [tru_three]
    by_cases h3 : fs.length ≤ 3
    rotate_left
    · have e : funsErr fs = some (0, .int (fs.length : Nat)) := if_neg fun h => h3 h.2
      rw [decide_eq_false h3]
      exact iteT ⟨_, rfl, a, fs, rfl, .inl hS, fin _ (ef _ e) H (Same.refl _)⟩
    rw [decide_eq_true h3]
    have e0 : funsErr fs = goFuns [] fs := if_pos ⟨h1, h3⟩
    refine iteF ?_
    refine ⟨_, rfl, a, fs, rfl, .inl hS, _, rfl, (by omega), (by omega), for_range (lo := 0) (n := ((fs.length : Nat) : Int).toNat) (fun i σ G => (∃ s3, σ = [some (.ref a), some last, some (.ref b), s3, none, none, none, none]) ∧ Same H G ∧ goFuns (fs.take i) (fs.drop i) = goFuns [] fs)
      ⟨⟨none, rfl⟩, Same.refl _, rfl⟩ ?_ ?_⟩
    · rintro i σ G hi ⟨⟨s3, rfl⟩, S1, eg⟩
      rw [Int.toNat_natCast] at hi
      obtain ⟨y, hy⟩ : ∃ y, fs[i]? = some y := ⟨fs[i], List.getElem?_eq_getElem hi⟩
      have my := List.mem_of_getElem? hy
      rw [drop_at hy] at eg
      have at_ : atI fs ((0 : Int) + (i : Nat)) = some y := by rw [Int.zero_add]; exact atI_nat hy
      refine ⟨_, rfl, _, rfl, a, fs, _, y, rfl, rfl, S1.seq hS, at_, y, rfl, hv y my, fun G2 S3 => ⟨_, rfl, ?_⟩⟩
      have S4 := S1.trans S3
      cases hw : wordB y with
      | false =>
        have eg2 : some ((1 : Nat), y) = goFuns [] fs := by rw [← eg]; show _ = (if wordB y = true then _ else _); rw [if_neg (by rw [hw]; decide)]
        exact iteT ⟨_, rfl, _, rfl, a, fs, _, y, rfl, rfl, S4.seq hS, at_, fin (1, y) (ef _ (by rw [e0, ← eg2])) G2 S4⟩
      | true =>
        have eg2 : (if inV y (fs.take i) = true then some (2, y) else goFuns (fs.take i ++ [y]) (fs.drop (i + 1))) = goFuns [] fs := by rw [← eg]; show _ = (if wordB y = true then _ else _); rw [if_pos hw]
        refine iteF ⟨_, rfl, _, rfl, a, fs, _, y, rfl, rfl, S4.seq hS, at_, _, rfl, _, rfl, _, rfl, a, fs, rfl, S4.seq hS, fun l nl => ?_⟩
        have S5 := S4.trans (same_lay (o := .lst (cutV fs none (some ((0 : Int) + (i : Nat))))) nl)
        have ec : cutV fs none (some ((0 : Int) + (i : Nat))) = fs.take i := by rw [Int.zero_add]; exact cut_take fs i
        refine ⟨l, _, rfl, .inl (.inl (.inl upd_same)), (hv y my).flat, ?_, _, rfl, ?_⟩
        · rw [ec, List.all_eq_true]
          exact fun v hvv => (hv v (List.mem_of_mem_take hvv)).flat
        · rw [ec] at S5 ⊢
          cases hin : inV y (fs.take i) with
          | true =>
            rw [hin, if_pos rfl] at eg2
            exact iteT ⟨_, rfl, _, rfl, a, fs, _, y, rfl, rfl, S5.seq hS, at_, fin (2, y) (ef _ (by rw [e0, ← eg2])) _ S5⟩
          | false =>
            rw [hin, if_neg (by decide)] at eg2
            refine iteF ⟨⟨_, rfl⟩, S5, ?_⟩
            rw [take_at hy]
            exact eg2
    rintro σ G ⟨⟨s3, rfl⟩, S1, eg⟩
    rw [Int.toNat_natCast, List.drop_length] at eg
    have efn : funsErr fs = none := by rw [e0, ← eg]; simp [goFuns]
    have er : rulesErr fs last qs = (if placeV last = true then (if 60 < qs.length then some (4, .int (qs.length : Nat)) else goParts fs (lastN last) 0 qs) else some (3, last)) := by unfold rulesErr; rw [efn]
    have bad : placeV last = false → rulesErr fs last qs = some (3, last) := fun h => by rw [er, if_neg (by rw [h]; decide)]
    rcases pv_cases hl with ⟨x, rfl, hx⟩ | ⟨n, rfl⟩ | rfl | ⟨bb, rfl⟩
    · exact ⟨_, rfl, _, .ty "int", _, _, false, rfl, .ty "int", .base (.str _), kit_ty (by decide +kernel), _, rfl, iteT ⟨_, rfl, fin _ (bad rfl) G S1⟩⟩
    rotate_left
    · exact ⟨_, rfl, _, .ty "int", _, _, false, rfl, .ty "int", .base .non, kit_ty (by decide +kernel), _, rfl, iteT ⟨_, rfl, fin _ (bad rfl) G S1⟩⟩
    · refine ⟨_, rfl, _, .ty "int", _, _, true, rfl, .ty "int", .base (.bl _), kit_ty (by decide +kernel), _, rfl, iteF ?_⟩
      exact ⟨_, rfl, _, .ty "bool", _, _, true, rfl, .ty "bool", .base (.bl _), kit_ty (by decide +kernel), _, rfl, iteT ⟨_, rfl, fin _ (bad rfl) G S1⟩⟩
    refine ⟨_, rfl, _, .ty "int", _, _, true, rfl, .ty "int", .base (.int _), kit_ty (by decide +kernel), _, rfl, iteF ?_⟩
    refine ⟨_, rfl, _, .ty "bool", _, _, false, rfl, .ty "bool", .base (.int _), kit_ty (by decide +kernel), _, rfl, iteF ?_⟩
    refine ⟨_, rfl, _, _, rfl, rfl, _, rfl, ?_⟩
    have hpow : CPow 10 30 := ⟨by decide, by decide, by decide⟩
    have e30 : (10 : Int) ^ (30 : Int).toNat = lastP := by decide
    have er : rulesErr fs (.int n) qs = (if placeB n = true then (if 60 < qs.length then some (4, .int (qs.length : Nat)) else goParts fs n 0 qs) else some (3, .int n)) := er
    have bad : placeB n = false → rulesErr fs (.int n) qs = some (3, .int n) := bad
    by_cases c0 : 0 ≤ n
    rotate_left
    · have hb : placeB n = false := by unfold placeB; rw [decide_eq_false c0]; rfl
      exact iteB (decide_eq_false c0) ⟨_, rfl, iteT ⟨_, rfl, fin _ (bad hb) G S1⟩⟩
    refine iteA (decide_eq_true c0) ⟨_, _, rfl, rfl, hpow, _, _, rfl, rfl, _, rfl, ?_⟩
    rw [e30]
    by_cases c1 : n ≤ lastP
    rotate_left
    · have hb : placeB n = false := by unfold placeB; rw [decide_eq_false c1]; simp
      rw [decide_eq_false c1]
      exact iteT ⟨_, rfl, fin _ (bad hb) G S1⟩
    rw [decide_eq_true c1]
    have hb : placeB n = true := by unfold placeB; rw [decide_eq_true c0, decide_eq_true c1]; rfl
    rw [if_pos hb] at er
    refine iteF ?_
    refine ⟨_, rfl, b, xs, rfl, .inl (S1.seq hB), _, _, rfl, rfl, _, rfl, ite2 (fun z => ?_) (fun z => ?_)⟩
    · have := of_decide_eq_true z
      rw [if_pos (by omega)] at er
      refine ⟨_, rfl, b, xs, rfl, .inl (S1.seq hB), ?_⟩
      rw [lx]
      exact fin _ er G S1
    have c60 : ¬ 60 < qs.length := fun c => z (decide_eq_true (by omega))
    rw [if_neg c60] at er
    refine ⟨_, rfl, b, xs, rfl, .inl (S1.seq hB), _, rfl, (by omega), (by omega), for_range (lo := 0) (n := ((xs.length : Nat) : Int).toNat) (fun i σ G => (∃ s3 s4 s5 s6, σ = [some (.ref a), some (.int n), some (.ref b), s3, s4, s5, s6, none]) ∧ Same H G ∧ goParts fs n i (qs.drop i) = goParts fs n 0 qs)
      ⟨⟨s3, none, none, none, rfl⟩, S1, rfl⟩ ?_ ?_⟩
    · rintro i σ G2 hi ⟨⟨s3, s4, s5, s6, rfl⟩, S2, eg⟩
      rw [Int.toNat_natCast] at hi
      obtain ⟨y, hy⟩ : ∃ y, xs[i]? = some y := ⟨xs[i], List.getElem?_eq_getElem hi⟩
      obtain ⟨q, hq, hP⟩ := hA.getL hy
      rw [drop_at hq] at eg
      have at_ : atI xs ((0 : Int) + (i : Nat)) = some y := by rw [Int.zero_add]; exact atI_nat hy
      cases q with
      | none =>
        have eg2 : some ((5 : Nat), V.int (i : Nat)) = goParts fs n 0 qs := by rw [← eg]; rfl
        have er5 : rulesErr fs (.int n) qs = some (5, .int ((0 : Int) + (i : Nat))) := by rw [er, ← eg2, Int.zero_add]
        rcases pv_cases hP with ⟨x, rfl, hx⟩ | ⟨j, rfl⟩ | rfl | ⟨bb, rfl⟩
        · exact ⟨_, rfl, _, rfl, b, xs, _, _, rfl, rfl, S2.seq hB, at_, _, .ty "tuple", _, _, false, rfl, .ty "tuple", .base (.str _), kit_ty (by decide +kernel), _, rfl, iteT ⟨_, rfl, fin (5, _) er5 G2 S2⟩⟩
        · exact ⟨_, rfl, _, rfl, b, xs, _, _, rfl, rfl, S2.seq hB, at_, _, .ty "tuple", _, _, false, rfl, .ty "tuple", .base (.int _), kit_ty (by decide +kernel), _, rfl, iteT ⟨_, rfl, fin (5, _) er5 G2 S2⟩⟩
        · exact ⟨_, rfl, _, rfl, b, xs, _, _, rfl, rfl, S2.seq hB, at_, _, .ty "tuple", _, _, false, rfl, .ty "tuple", .base .non, kit_ty (by decide +kernel), _, rfl, iteT ⟨_, rfl, fin (5, _) er5 G2 S2⟩⟩
        · exact ⟨_, rfl, _, rfl, b, xs, _, _, rfl, rfl, S2.seq hB, at_, _, .ty "tuple", _, _, false, rfl, .ty "tuple", .base (.bl _), kit_ty (by decide +kernel), _, rfl, iteT ⟨_, rfl, fin (5, _) er5 G2 S2⟩⟩
      | some m =>
        obtain ⟨t, rfl, hSp, hG⟩ := id hP
        have hSp2 := hSp.same S2
        obtain ⟨ra, M, ht, hra, hM, eM⟩ := id hSp2
        refine ⟨_, rfl, _, rfl, b, xs, _, _, rfl, rfl, S2.seq hB, at_, _, .ty "tuple", _, _, true, rfl, .ty "tuple", .base (.tup ht), kit_ty (by decide +kernel), _, rfl, iteF ?_⟩
        have hk : kName m.1 = kName m.1 := rfl
        refine ⟨_, rfl, _, rfl, b, xs, _, _, rfl, rfl, S2.seq hB, at_, t, _, 1, .str m.2.1, rfl, rfl, .inl (.inl ht), atI_nat (j := 1) rfl, (by show 1 ≤ sizeLine; decide), fun l nl => ?_⟩
        have Sl := same_lay (o := .lst [V.str m.2.1]) nl
        refine ⟨fun σ' G' => ∃ l', σ' = [some (.ref a), some (.int n), some (.ref b), some (.int ((0 : Int) + (i : Nat))), some (.ref l'), s5, s6, none] ∧ Same G2 G' ∧ G' l' = some (.lst (told m.1 m.2.1 m.2.2.2)), ?_, ?_⟩
        · refine ⟨_, rfl, _, rfl, b, xs, _, _, rfl, rfl, (S2.trans Sl).seq hB, at_, t, _, 0, .str (kName m.1), rfl, rfl, .inl (.inl (Sl _ _ ht)), atI_nat (j := 0) rfl, (by show 2 ≤ sizeLine; decide), fun u nu => ?_⟩
          have Su := Sl.trans (same_lay (o := .tup [V.str "needs", .str "pair"]) nu)
          have hl : (upd (upd G2 l (.lst [V.str m.2.1])) u (.tup [V.str "needs", .str "pair"])) l = some (.lst [V.str m.2.1]) := same_lay nu _ _ upd_same
          refine ⟨u, _, rfl, .inr (.inl (.inl upd_same)), rfl, rfl, _, rfl, ?_⟩
          have hu2 := Su _ _ ht
          have fresh : ∀ o, Same G2 (upd (upd (upd G2 l (.lst [V.str m.2.1])) u (.tup [V.str "needs", .str "pair"])) l o) := fun o c o2 e => by
            rw [upd_ne (ne_of_none e nl)]
            exact Su c o2 e
          obtain ⟨ki, f0, R, x0⟩ := m
          have wf : WF ki f0 x0 := hG.wf
          rcases kinds7' hG.lt with e | e | e | e | e | e | e <;> (have e : ki = _ := e) <;> subst e
          · exact iteB (show inV (.str (kName 0)) [V.str "needs", .str "pair"] = false by decide +kernel) ⟨l, rfl, Su, hl⟩
          · exact iteB (show inV (.str (kName 1)) [V.str "needs", .str "pair"] = false by decide +kernel) ⟨l, rfl, Su, hl⟩
          · obtain ⟨g, rfl, _⟩ := wf
            refine iteA (show inV (.str (kName 2)) [V.str "needs", .str "pair"] = true by decide +kernel) ?_
            refine ⟨_, rfl, .inl ⟨rfl, _, .inl (.inl hl)⟩, _, rfl, _, rfl, b, xs, _, _, rfl, rfl, (S2.trans Su).seq hB, at_, _, rfl, _, rfl, b, xs, _, _, rfl, rfl, (S2.trans Su).seq hB, at_, t, _, 0, .str (kName 2), rfl, rfl, .inl (.inl hu2), atI_nat (j := 0) rfl, rfl, _, rfl, iteA (by decide +kernel) ?_⟩
            refine ⟨t, _, 3, .str g, rfl, rfl, .inl (.inl hu2), atI_nat (j := 3) rfl, l, _, _, rfl, rfl, hl, small1000 (by show 1 ≤ 1000; decide), ?_⟩
            exact ⟨l, rfl, fresh _, upd_same⟩
          · exact iteB (show inV (.str (kName 3)) [V.str "needs", .str "pair"] = false by decide +kernel) ⟨l, rfl, Su, hl⟩
          · exact iteB (show inV (.str (kName 4)) [V.str "needs", .str "pair"] = false by decide +kernel) ⟨l, rfl, Su, hl⟩
          · obtain ⟨sg, g, a1, b1, rfl, _⟩ := wf
            refine iteA (show inV (.str (kName 5)) [V.str "needs", .str "pair"] = true by decide +kernel) ?_
            refine ⟨_, rfl, .inl ⟨rfl, _, .inl (.inl hl)⟩, _, rfl, _, rfl, b, xs, _, _, rfl, rfl, (S2.trans Su).seq hB, at_, _, rfl, _, rfl, b, xs, _, _, rfl, rfl, (S2.trans Su).seq hB, at_, t, _, 0, .str (kName 5), rfl, rfl, .inl (.inl hu2), atI_nat (j := 0) rfl, rfl, _, rfl, iteB (by decide +kernel) ?_⟩
            refine ⟨t, _, 4, .str g, rfl, rfl, .inl (.inl hu2), atI_nat (j := 4) rfl, l, _, _, rfl, rfl, hl, small1000 (by show 1 ≤ 1000; decide), ?_⟩
            exact ⟨l, rfl, fresh _, upd_same⟩
          · exact iteB (show inV (.str (kName 6)) [V.str "needs", .str "pair"] = false by decide +kernel) ⟨l, rfl, Su, hl⟩
        · rintro σ3 G3 ⟨l3, rfl, S3, hl3⟩
          have S23 := S2.trans S3
          have allS := told_strs hG.lt hG.wf
          refine ⟨_, rfl, _, rfl, ⟨_, .inl (.inl hl3)⟩, for_list (K := K) (a := l3) (xs := told m.1 m.2.1 m.2.2.2) (fun j σ G => (∃ s5, σ = [some (.ref a), some (.int n), some (.ref b), some (.int ((0 : Int) + (i : Nat))), some (.ref l3), s5, s6, none]) ∧ G = G3 ∧
            ((told m.1 m.2.1 m.2.2.2).drop j).find? (fun g => !inV g fs) = (told m.1 m.2.1 m.2.2.2).find? (fun g => !inV g fs)) ⟨⟨_, rfl⟩, rfl, rfl⟩ (fun j σ G _ ⟨_, e, _⟩ => by rw [e]; exact .inl (.inl hl3)) ?_ ?_⟩
          · rintro j z σ G hz ⟨⟨s5, rfl⟩, rfl, ef2⟩
            obtain ⟨g, rfl⟩ := allS z (List.mem_of_getElem? hz)
            rw [drop_at hz] at ef2
            refine ⟨_, rfl, _, rfl, a, _, rfl, .inl (S23.seq hS), rfl, List.all_eq_true.mpr (fun v h => (hv v h).flat), _, rfl, ?_⟩
            cases hin : inV (.str g) fs with
            | true =>
              rw [List.find?_cons_of_neg (by rw [hin]; decide)] at ef2
              exact iteF ⟨⟨_, rfl⟩, rfl, ef2⟩
            | false =>
              rw [List.find?_cons_of_pos (by rw [hin]; rfl)] at ef2
              have e6 : fitsErr fs n m = some (6, .str g) := by unfold fitsErr; rw [← ef2]
              have eg2 : some ((6 : Nat), V.str g) = goParts fs n 0 qs := by rw [← eg]; show _ = (match fitsErr fs n m with | some e => some e | none => _); rw [e6]
              exact iteT ⟨_, rfl, fin (6, .str g) (by rw [er, ← eg2]) G S23⟩
          · rintro σ G ⟨⟨s5, rfl⟩, rfl, ef2⟩
            rw [List.drop_length] at ef2
            have e6 : fitsErr fs n m = match m.2.2.1.find? (isAbove n) with
                | some r => some (3, .int (if n < r.1 then r.1 else n + 1))
                | none => none := by unfold fitsErr; rw [← ef2]; rfl
            have e6 : fitsErr fs n m = match ((rws M).filter (isAbove n)).head? with
                | some r => some (3, .int (if n < r.1 then r.1 else n + 1))
                | none => none := by rw [e6, List.head?_filter, eM]
            rw [← rows_filter (p := isAbove n) M] at e6
            have ht3 := S3 _ _ ht
            have hra3 := S3 _ _ hra
            have hM3 := hM.same S3
            refine ⟨_, rfl, _, rfl, b, xs, _, _, rfl, rfl, S23.seq hB, at_, t, _, 2, .ref ra, rfl, rfl, .inl (.inl ht3), atI_nat (j := 2) rfl, ra, rfl, ⟨_, .inl (.inl hra3)⟩, fun D hD => lc_list (K := K) (a := ra) (xs := refs M) (fun j G' => G' D = some (.lst (refs ((M.take j).filter fun z => isAbove n z.2))) ∧ Same G G')
              ⟨upd_same, same_lay hD⟩ (fun j G' _ ⟨_, s⟩ => .inl (.inl (s _ _ hra3))) ?_ ?_⟩
            · rintro j v G' hv2 ⟨hD2, s2⟩
              obtain ⟨p, hp, hpL, rfl⟩ := refs_get hv2
              have e3 := s2 _ _ (hM3 p hpL)
              have e1 : (M.take (j + 1)).filter (fun z => isAbove n z.2) = (M.take j).filter (fun z => isAbove n z.2) ++ (if isAbove n p.2 = true then [p] else []) := by
                rw [take_at hp, List.filter_append]
                congr 1
                by_cases e : isAbove n p.2 = true
                · rw [if_pos e]; simp [e]
                · rw [if_neg e]; simp [e]
              refine ⟨rfl, ?_⟩
              refine ⟨_, rfl, p.1, _, 1, .int p.2.2, rfl, rfl, .inl (.inl e3), atI_nat (j := 1) rfl, _, rfl, _, _, rfl, rfl, _, rfl, ite2 (fun c => ?_) (fun c => ?_)⟩
              · have hc : isAbove n p.2 = true := c
                have lf := List.length_filter_le (fun z : ARow => isAbove n z.2) (M.take j)
                rw [List.length_take] at lf
                have hlen : M.length ≤ 6 := by rw [← rws_len M, eM]; exact hG.len
                refine ⟨_, rfl, _, hD2, small1000 (by rw [refs_len]; omega), ?_, same_upd s2 hD⟩
                rw [upd_same, e1, if_pos hc, refs_snoc]
              · have hc : ¬ isAbove n p.2 = true := c
                refine ⟨?_, s2⟩
                rw [e1, if_neg hc, List.append_nil]
                exact hD2
            · rintro G' ⟨hD2, s2⟩
              rw [refs_len, List.take_length] at hD2
              have hN : AtR G' (M.filter fun z => isAbove n z.2) := fun z hz => s2 _ _ (hM3 z (List.mem_filter.mp hz).1)
              have S4 := S23.trans s2
              refine ⟨_, rfl, Nat.zero_le _, fun l4 nl4 => ?_⟩
              have S5 := S4.trans (same_lay (o := .lst []) nl4)
              have hD4 := same_lay (o := .lst []) nl4 _ _ hD2
              have hN4 := hN.same (same_lay (o := .lst []) nl4)
              cases hc : M.filter fun z => isAbove n z.2 with
              | nil =>
                rw [hc] at e6 hD4
                have e7 : fitsErr fs n m = none := e6
                have eg2 : goParts fs n (i + 1) (qs.drop (i + 1)) = goParts fs n 0 qs := by rw [← eg]; show _ = (match fitsErr fs n m with | some e => some e | none => _); rw [e7]
                exact ⟨.list [], .list [], .lst (.inl (.inl hD4)) .nil, .lst (.inl (.inl upd_same)) .nil, rfl, rfl, _, rfl, iteF ⟨⟨_, _, _, _, rfl⟩, S5, eg2⟩⟩
              | cons z N =>
                rw [hc] at e6 hD4 hN4
                have e7 : fitsErr fs n m = some (3, .int (if n < z.2.1 then z.2.1 else n + 1)) := e6
                have eg2 : some ((3 : Nat), V.int (if n < z.2.1 then z.2.1 else n + 1)) = goParts fs n 0 qs := by rw [← eg]; show _ = (match fitsErr fs n m with | some e => some e | none => _); rw [e7]
                have hz := hN4 z List.mem_cons_self
                have erz := er.trans eg2.symm
                refine ⟨.list ((rws (z :: N)).map rowD), .list [], .lst (.inl (.inl hD4)) (dp_rows hN4), .lst (.inl (.inl upd_same)) .nil, shp_lst _, rfl, _, rfl, iteA (by rfl) ?_⟩
                refine ⟨_, rfl, D, _, 0, .ref z.1, rfl, rfl, .inl (.inl hD4), atI_nat (j := 0) rfl, z.1, _, 0, .int z.2.1, rfl, rfl, .inl (.inl hz), atI_nat (j := 0) rfl, _, rfl, _, _, rfl, rfl, _, rfl, ite2 (fun c => ?_) (fun c => ?_)⟩
                · have c : n < z.2.1 := of_decide_eq_true c
                  rw [if_pos c] at erz
                  exact ⟨_, rfl, D, _, 0, .ref z.1, rfl, rfl, .inl (.inl hD4), atI_nat (j := 0) rfl, z.1, _, 0, .int z.2.1, rfl, rfl, .inl (.inl hz), atI_nat (j := 0) rfl, fin (3, .int z.2.1) erz _ S5⟩
                · have c : ¬ n < z.2.1 := fun h => c (decide_eq_true h)
                  rw [if_neg c] at erz
                  exact ⟨_, rfl, _, _, rfl, rfl, fin (3, .int (n + 1)) erz _ S5⟩
    rintro σ G2 ⟨⟨s3, s4, s5, s6, rfl⟩, S2, eg⟩
    rw [Int.toNat_natCast, lx, List.drop_length] at eg
    have eg2 : none = goParts fs n 0 qs := by rw [← eg]; rfl
    exact qn (by rw [er, ← eg2]) G2 S2
end
end OR

namespace OR
open PySem PySem.Spec PyProof.Rows L2
open TL (tl numL)
/-! ### what stands apart from lists and dicts -/
def KP (G G' : Hp) : Prop := ∀ b o, G b = some o → (∀ ys, o ≠ .lst ys) → (∀ kvs, o ≠ .dK kvs) → G' b = some o
theorem KP.trans {G G1 G2 : Hp} (a : KP G G1) (b : KP G1 G2) : KP G G2 := fun c o e h1 h2 => b c o (a c o e h1 h2) h1 h2
theorem kp_same {G G' : Hp} (s : Same G G') : KP G G' := fun b o e _ _ => s b o e
theorem kp_frm {G G' : Hp} {p : Addr} {k : Nat} (F : Frm p G G') (P : Pen G p k) : KP G G' := fun b o e _ h => by
  obtain ⟨kvs, hp⟩ := P.dict
  exact F b o e (ne_of e hp (h kvs))
theorem kp_lst {G : Hp} {a : Addr} {ys : List V} {u : HO} (h : G a = some (.lst ys)) : KP G (upd G a u) := fun b o e h1 _ => by
  rw [upd_ne (ne_of e h (h1 ys))]
  exact e
theorem sqT_kp {K : PySem.W.Frag} {G G' : Hp} {a : Addr} {xs : List V} (h : SqT K G a xs) (k : KP G G') : SqT K G' a xs := by
  rcases h with (h | ⟨o, h⟩) | h
  · exact .inl (.inl (k _ _ h (fun _ z => nomatch z) (fun _ z => nomatch z)))
  · exact .inl (.inr ⟨o, k _ _ h (fun _ z => nomatch z) (fun _ z => nomatch z)⟩)
  · exact .inr h
theorem IsP.kp {CP : Addr} {G G' : Hp} {x : Addr} {l : List Row} (h : IsP CP G x l) (k : KP G G') : IsP CP G' x l := by
  obtain ⟨nf, dx, t, f, b, M, h1, h2, h3, h4, h5, h6, h7⟩ := h
  exact ⟨nf, dx, t, f, b, M, k _ _ h1 (fun _ z => nomatch z) (fun _ z => nomatch z), k _ _ h2 (fun _ z => nomatch z) (fun _ z => nomatch z), fun q hq => k _ _ (h3 q hq) (fun _ z => nomatch z) (fun _ z => nomatch z), h4, k _ _ h5 (fun _ z => nomatch z) (fun _ z => nomatch z), k _ _ h6 (fun _ z => nomatch z) (fun _ z => nomatch z), h7⟩
theorem CRep.kp {CP : Addr} {C : Nat → Addr} {G G' : Hp} {x : V} {m : CM} (h : CRep CP C G x m) (k : KP G G') : CRep CP C G' x m := by
  obtain ⟨z, e, ⟨dx, pl, h1, h2⟩, a, b, c, d, g⟩ := h
  exact ⟨z, e, ⟨dx, pl, k _ _ h1 (fun _ z => nomatch z) (fun _ z => nomatch z), h2.kp k⟩, a, b, c, d, g⟩
theorem IsR.kp {K : PySem.W.Frag} {CR CP : Addr} {C : Nat → Addr} {G G' : Hp} {x : Addr} {fs : List Str} {n : Int} {ms : List CM} (h : IsR K CR CP C G x fs n ms) (k : KP G G') : IsR K CR CP C G' x fs n ms := by
  obtain ⟨dx, f, t, xs, h1, h2, h3, h4⟩ := h
  exact ⟨dx, f, t, xs, k _ _ h1 (fun _ z => nomatch z) (fun _ z => nomatch z), sqT_kp h2 k, sqT_kp h3 k, h4.imp fun _ _ e => e.kp k⟩
theorem tyT {K : PySem.W.Frag} {G : Hp} {a : Addr} {xs : List V} (h : SqT K G a xs) : TyX K G (.ref a) (.type "tuple") := by
  rcases h with (h | ⟨o, h⟩) | ⟨o, its, n, h1, h2, h3⟩
  · exact .base (.tup h)
  · exact .fTuple h
  · exact .kTuple h1 h2
/-- a part of a list of models, as Python cuts -/
def cutL {α : Type} (xs : List α) (lo hi : Option Int) : List α := (xs.drop (HT.sIx xs.length 0 lo)).take (HT.sIx xs.length xs.length hi - HT.sIx xs.length 0 lo)
theorem All2.cut {α : Type} {p : V → α → Prop} {xs : List V} {ms : List α} (h : All2 p xs ms) (lo hi : Option Int) : All2 p (cutV xs lo hi) (cutL ms lo hi) := by
  unfold cutV cutL
  rw [h.length]
  exact (h.drop _).take _
theorem cutL_mem {α : Type} {ms : List α} {lo hi : Option Int} {m : α} (h : m ∈ cutL ms lo hi) : m ∈ ms := List.mem_of_mem_drop (List.mem_of_mem_take h)
theorem cutL_le {α : Type} (ms : List α) (lo hi : Option Int) : (cutL ms lo hi).length ≤ ms.length := by
  unfold cutL
  rw [List.length_take, List.length_drop]
  omega
theorem cutL_head {α : Type} (ms : List α) (k : Nat) (h : k ≤ ms.length) : (cutL ms none (some (k : Int))).length = k := by
  unfold cutL
  rw [HT.sIx_none, HT.sIx_nat, List.drop_zero, List.length_take]
  omega
theorem cutL_tail {α : Type} (ms : List α) (k : Nat) : (cutL ms (some (k : Int)) none).length = ms.length - k := by
  unfold cutL
  rw [HT.sIx_none, HT.sIx_nat, List.length_take, List.length_drop]
  omega
def spLaw (K : PySem.W.Frag) : Sp := fun vs H Q _ => ∃ (a : Addr) (ns : List Int), vs = [.ref a] ∧ SqL K H a (ns.map V.int) ∧ ns.length ≤ 63 ∧ ∀ H', Q (.bl true) H'
/-! ### what no error is -/
theorem goFuns_good : ∀ (fs seen : List Str), (∀ f ∈ fs, wordS f = true) → fs.Pairwise (· ≠ ·) → (∀ f ∈ fs, f ∉ seen) → goFuns (seen.map V.str) (fs.map V.str) = none
  | [], _, _, _, _ => rfl
  | f :: r, seen, hw, hp, hs => by
    have h1 := hw f List.mem_cons_self
    show (if wordB (.str f) = true then (if inV (.str f) (seen.map V.str) = true then some (2, V.str f) else goFuns (seen.map V.str ++ [V.str f]) (r.map V.str)) else some (1, V.str f)) = none
    rw [if_pos (show wordB (.str f) = true from h1), notin_strs (hs f List.mem_cons_self), if_neg (by decide)]
    have e : seen.map V.str ++ [V.str f] = (seen ++ [f]).map V.str := by rw [List.map_append]; rfl
    rw [e]
    refine goFuns_good r (seen ++ [f]) (fun g hg => hw g (List.mem_cons_of_mem _ hg)) (List.pairwise_cons.mp hp).2 fun g hg hm => ?_
    rcases List.mem_append.mp hm with h | h
    · exact hs g (List.mem_cons_of_mem _ hg) h
    · exact (List.pairwise_cons.mp hp).1 g hg (List.mem_singleton.mp h).symm
theorem funs_good {fs : List Str} (h : GoodFs fs) : funsErr (fs.map V.str) = none := by
  unfold funsErr
  rw [List.length_map, if_pos ⟨h.1, h.2.1⟩]
  exact goFuns_good fs [] (fun f hf => (h.2.2.1 f hf).wordS) h.2.2.2 (fun _ _ z => nomatch z)
theorem parts_good {fs : List V} {n : Int} {m : CM} (h : fitsErr fs n m = none) : ∀ k i : Nat, goParts fs n i (List.replicate k (some m)) = none
  | 0, _ => rfl
  | k + 1, i => by
    show (match fitsErr fs n m with | some e => some e | none => goParts fs n (i + 1) (List.replicate k (some m))) = none
    rw [h]
    exact parts_good h k (i + 1)
theorem fits_one {fs : List Str} {n : Int} {f : Str} (h : f ∈ fs) (h0 : 0 ≤ n) : fitsErr (fs.map V.str) n (0, f, [(0, 0)], []) = none := by
  unfold fitsErr
  show (match ([V.str f] : List V).find? (fun g => !inV g (fs.map V.str)) with | some g => some ((6 : Nat), g) | none => _) = none
  rw [List.find?_cons_of_neg (by rw [in_strs h]; decide), List.find?_nil]
  show (match ([((0 : Int), (0 : Int))] : List Row).find? (isAbove n) with | some r => some ((3 : Nat), V.int (if n < r.1 then r.1 else n + 1)) | none => none) = none
  rw [List.find?_cons_of_neg (by unfold isAbove; simpa using h0), List.find?_nil]
/-! ### the values of errors are plain -/
theorem small_zz : ∀ s ∈ (["", "a1", "ninelongs", "aB", "a b", "9", "answers", "xa", "xb", "xc", "zz", "functions", "word", "twice", "place", "many", "clause", "function"] : List Str), SmallS s ∧ s.length ≤ 100 := by
  unfold SmallS
  decide +kernel
theorem word_pv {s : Str} (h : Word s) : PV (.str s) := pv_str (Nat.le_trans h.len (by decide)) h.small
theorem told_pv {i : Nat} {f : Str} {x : List V} (hi : i < 7) (hw : Word f) (h : WF i f x) : ∀ v ∈ told i f x, PV v := by
  rcases kinds7' hi with e | e | e | e | e | e | e <;> subst e
  · intro v hv; rw [List.mem_singleton.mp (show v ∈ [V.str f] from hv)]; exact word_pv hw
  · intro v hv; rw [List.mem_singleton.mp (show v ∈ [V.str f] from hv)]; exact word_pv hw
  · obtain ⟨g, rfl, hg, _⟩ := h
    intro v hv
    rcases List.mem_cons.mp (show v ∈ [V.str f, V.str g] from hv) with e | hv
    · rw [e]; exact word_pv hw
    · rw [List.mem_singleton.mp hv]; exact word_pv hg
  · intro v hv; rw [List.mem_singleton.mp (show v ∈ [V.str f] from hv)]; exact word_pv hw
  · intro v hv; rw [List.mem_singleton.mp (show v ∈ [V.str f] from hv)]; exact word_pv hw
  · obtain ⟨s, g, a, b, rfl, _, hg, _⟩ := h
    intro v hv
    rcases List.mem_cons.mp (show v ∈ [V.str f, V.str g] from hv) with e | hv
    · rw [e]; exact word_pv hw
    · rw [List.mem_singleton.mp hv]; exact word_pv hg
  · intro v hv; rw [List.mem_singleton.mp (show v ∈ [V.str f] from hv)]; exact word_pv hw
theorem err_pv {fs : List V} {last : V} {qs : List (Option CM)} {e : Err} (hf : ∀ v ∈ fs, PV v) (hl : PV last) (hq : ∀ m, some m ∈ qs → GoodP m) (h : rulesErr fs last qs = some e) : PV e.2 := by
  have fit : ∀ (n : Int) (m : CM) (e : Err), GoodP m → fitsErr fs n m = some e → PV e.2 := by
    intro n m e g h
    unfold fitsErr at h
    split at h
    · rename_i hh
      cases h
      exact told_pv g.lt g.w g.wf _ (List.mem_of_find?_eq_some hh)
    · split at h
      · cases h; exact pv_int _
      · cases h
  have parts : ∀ (n : Int) (os : List (Option CM)) (i : Nat) (e : Err), (∀ m, some m ∈ os → GoodP m) → goParts fs n i os = some e → PV e.2 := by
    intro n os
    induction os with
    | nil => intro i e _ h; cases h
    | cons o r ih =>
      intro i e g h
      cases o with
      | none => cases h; exact pv_int _
      | some m =>
        unfold goParts at h
        split at h
        · rename_i hh
          cases h
          exact fit _ _ _ (g m List.mem_cons_self) hh
        · exact ih _ _ (fun m hm => g m (List.mem_cons_of_mem _ hm)) h
  have funs : ∀ (xs seen : List V) (e : Err), (∀ v ∈ xs, PV v) → goFuns seen xs = some e → PV e.2 := by
    intro xs
    induction xs with
    | nil => intro seen e _ h; cases h
    | cons v r ih =>
      intro seen e g h
      unfold goFuns at h
      split at h
      · split at h
        · cases h; exact g v List.mem_cons_self
        · exact ih _ _ (fun v hv => g v (List.mem_cons_of_mem _ hv)) h
      · cases h; exact g v List.mem_cons_self
  unfold rulesErr at h
  split at h
  · rename_i hh
    cases h
    unfold funsErr at hh
    split at hh
    · exact funs _ _ _ hf hh
    · cases hh; exact pv_int _
  · split at h
    · split at h
      · cases h; exact pv_int _
      · exact parts _ _ _ _ hq h
    · cases h; exact hl
/-! ### == of what is told -/
theorem dp_pv {v : V} (h : PV v) : ∃ d, (∀ (K : PySem.W.Frag) (H : Hp), Dp K H v d) ∧ PyData.canLay0 d = true ∧ PyData.depth d = 0 ∧ PyData.eqv d d = true := by
  rcases pv_cases h with ⟨x, rfl, hx⟩ | ⟨i, rfl⟩ | rfl | ⟨b, rfl⟩
  · exact ⟨.str x, fun _ _ => .str x, strOk_of hx.2, rfl, by show (x == x) = true; exact beq_self_eq_true x⟩
  · exact ⟨.int i, fun _ _ => .int i, rfl, rfl, by show (i == i) = true; exact beq_self_eq_true i⟩
  · exact ⟨.none, fun _ _ => .non, rfl, rfl, rfl⟩
  · exact ⟨.bool b, fun _ _ => .bl b, rfl, rfl, by cases b <;> rfl⟩
theorem tag_sm {k : Nat} (h : k < 7) : SmallS (tag k) := by
  rcases kinds7' h with e | e | e | e | e | e | e <;> subst e
  · exact (small_zz "functions" (by decide)).1
  · exact (small_zz "word" (by decide)).1
  · exact (small_zz "twice" (by decide)).1
  · exact (small_zz "place" (by decide)).1
  · exact (small_zz "many" (by decide)).1
  · exact (small_zz "clause" (by decide)).1
  · exact (small_zz "function" (by decide)).1
theorem shp3 {x : Str} {d : PyData} (h : SmallS x) (c : PyData.canLay0 d = true) (e : PyData.depth d = 0) : SeqAt.shaped (.tuple [.str x, d, .bool true]) = true := by
  unfold SeqAt.shaped
  have a : PyData.canLay0 (.tuple [.str x, d, .bool true]) = true := by
    show (PyData.strOk x && (PyData.canLay0 d && (true && true))) = true
    rw [strOk_of h, c]; rfl
  rw [a, Bool.true_and]
  refine decide_eq_true ?_
  show (max (PyData.depth (.str x)) (max (PyData.depth d) (max 0 0))) + 1 ≤ 64
  rw [e]
  have : PyData.depth (.str x) = 0 := rfl
  omega
theorem eqv3 {x : Str} {d : PyData} (e : PyData.eqv d d = true) : PyData.eqv (.tuple [.str x, d, .bool true]) (.tuple [.str x, d, .bool true]) = true := by
  show ((x == x) && (PyData.eqv d d && (PyData.eqv (.bool true) (.bool true) && true))) = true
  rw [e, beq_self_eq_true x]
  rfl
theorem eq_told {K : PySem.W.Frag} {H : Hp} {a b : Addr} {x : Str} {v : V} {Q : VK} (h1 : H a = some (.tup [.str x, v, .bl true])) (h2 : H b = some (.tup [.str x, v, .bl true])) (sm : SmallS x) (hv : PV v) (q : Q (.bl true) H) : rEqD K (.ref a) (.ref b) H Q := by
  obtain ⟨d, d1, d2, d3, d4⟩ := dp_pv hv
  refine ⟨.tuple [.str x, d, .bool true], .tuple [.str x, d, .bool true], .tup (.inl (.inl h1)) (.cons (.str x) (.cons (d1 K H) (.cons (.bl true) .nil))), .tup (.inl (.inl h2)) (.cons (.str x) (.cons (d1 K H) (.cons (.bl true) .nil))), shp3 sm d2 d3, shp3 sm d2 d3, ?_⟩
  rw [eqv3 d4]
  exact q
theorem ne_told {K : PySem.W.Frag} {H : Hp} {a b : Addr} {x : Str} {v : V} {Q : VK} (h1 : H a = some (.tup [.str x, v, .bl true])) (h2 : H b = some (.tup [.str x, v, .bl true])) (sm : SmallS x) (hv : PV v) (q : Q (.bl false) H) : rNeD K (.ref a) (.ref b) H Q := by
  obtain ⟨d, d1, d2, d3, d4⟩ := dp_pv hv
  refine ⟨.tuple [.str x, d, .bool true], .tuple [.str x, d, .bool true], .tup (.inl (.inl h1)) (.cons (.str x) (.cons (d1 K H) (.cons (.bl true) .nil))), .tup (.inl (.inl h2)) (.cons (.str x) (.cons (d1 K H) (.cons (.bl true) .nil))), shp3 sm d2 d3, shp3 sm d2 d3, ?_⟩
  rw [eqv3 d4]
  exact q
theorem eq_non {K : PySem.W.Frag} {H : Hp} {Q : VK} (q : Q (.bl true) H) : rEqD K .non .non H Q := ⟨.none, .none, .non, .non, rfl, rfl, q⟩
/-! ### parts, as they go on -/
theorem PX.frm {H H' : Hp} {v : V} {q : Option CM} {p : Addr} {k : Nat} (h : PX H v q) (F : Frm p H H') (P : Pen H p k) : PX H' v q := by
  cases q with
  | none => exact h
  | some m =>
    obtain ⟨t, e, h1, h2⟩ := h
    exact ⟨t, e, h1.frm F P, h2⟩
theorem goodP_of {fs : List Str} {n : Int} {m : CM} (g : GoodM fs n m) (w : Word m.2.1) (hn : n ≤ lastP) : GoodP m :=
  ⟨g.lt, w, g.wf, fun r hr => okRow_of (g.bd r hr).1 (g.nf.ok r hr) (Int.le_trans (g.bd r hr).2 hn), g.nf.gap.imp fun h => by omega, g.len⟩
theorem all2_rep {α β : Type} {p : α → β → Prop} {xs : List α} {ys : List β} (h : All2 p xs ys) : ∀ n : Nat, All2 p (List.replicate n xs).flatten (List.replicate n ys).flatten
  | 0 => .nil
  | n + 1 => by rw [List.replicate_succ, List.replicate_succ, List.flatten_cons, List.flatten_cons]; exact h.append (all2_rep h n)
theorem word_zz : Word "zz" := ⟨by decide, by decide, by decide +kernel⟩
theorem zz_ne {fs : List Str} {f : Str} (h : WordsAt fs) (h0 : fs[0]? = some f) : ("zz" : Str) ≠ f := by
  obtain ⟨stem, e, _⟩ := h 0 f h0
  intro z
  rw [← z] at e
  have e2 : tl ("zz" : Str) = tl (wrd stem 0) := by rw [← e]
  have e3 : (tl ("zz" : Str)).getLast? = some 122 := by decide +kernel
  have e4 : (tl (wrd stem 0)).getLast? = some 112 := by simp [wrd, tl]
  rw [e2, e4] at e3
  cases e3
/-- words, last place, parts at some step -/
structure LJ (p : Addr) (H4 : Hp) (b k : Nat) (G : Hp) (wl pl : Addr) (lastv : V) : Prop where
  f : Frm p H4 G
  pen : Pen G p k
  w : ∃ ws, G wl = some (.lst ws) ∧ (∀ v ∈ ws, PV v) ∧ ws.length ≤ 2 + 3 * b
  l : PV lastv
  r : ∃ xs qs, G pl = some (.lst xs) ∧ All2 (PX G) xs qs ∧ xs.length ≤ 1200 + 8 * b
theorem LJ.same {p : Addr} {H4 : Hp} {b k : Nat} {G G' : Hp} {wl pl : Addr} {lastv : V} (h : LJ p H4 b k G wl pl lastv) (s : Same G G') : LJ p H4 b k G' wl pl lastv := by
  obtain ⟨f, P, ⟨ws, w1, w2, w3⟩, l, xs, qs, r1, r2, r3⟩ := h
  exact ⟨f.trans (frmS s), P.same' s, ⟨ws, s _ _ w1, w2, w3⟩, l, xs, qs, s _ _ r1, r2.imp fun _ _ e => e.same s, r3⟩
theorem LJ.frm {p : Addr} {H4 : Hp} {b k k' : Nat} {G G' : Hp} {wl pl : Addr} {lastv : V} (h : LJ p H4 b k G wl pl lastv) (F : Frm p G G') (P' : Pen G' p k') : LJ p H4 b k' G' wl pl lastv := by
  obtain ⟨f, P, ⟨ws, w1, w2, w3⟩, l, xs, qs, r1, r2, r3⟩ := h
  exact ⟨f.trans F, P', ⟨ws, F.lst P w1, w2, w3⟩, l, xs, qs, F.lst P r1, r2.imp fun _ _ e => e.frm F P, r3⟩
theorem LJ.mono {p : Addr} {H4 : Hp} {b k b' k' : Nat} {G : Hp} {wl pl : Addr} {lastv : V} (h : LJ p H4 b k G wl pl lastv) (hb : b ≤ b') (hk : k ≤ k') : LJ p H4 b' k' G wl pl lastv := by
  obtain ⟨f, P, ⟨ws, w1, w2, w3⟩, l, xs, qs, r1, r2, r3⟩ := h
  exact ⟨f, P.mono hk, ⟨ws, w1, w2, by omega⟩, l, xs, qs, r1, r2, by omega⟩
theorem LJ.words {p : Addr} {H4 : Hp} {b k : Nat} {G : Hp} {wl wl' pl : Addr} {lastv : V} {ws : List V} (h : LJ p H4 b k G wl pl lastv) (h1 : G wl' = some (.lst ws)) (h2 : ∀ v ∈ ws, PV v) (h3 : ws.length ≤ 2 + 3 * b + 3) : LJ p H4 (b + 1) k G wl' pl lastv := by
  obtain ⟨f, P, _, l, xs, qs, r1, r2, r3⟩ := h
  exact ⟨f, P, ⟨ws, h1, h2, by omega⟩, l, xs, qs, r1, r2, by omega⟩
theorem LJ.last {p : Addr} {H4 : Hp} {b k : Nat} {G : Hp} {wl pl : Addr} {lastv v : V} (h : LJ p H4 b k G wl pl lastv) (hv : PV v) : LJ p H4 b k G wl pl v := ⟨h.f, h.pen, h.w, hv, h.r⟩
theorem LJ.parts {p : Addr} {H4 : Hp} {b k : Nat} {G : Hp} {wl pl pl' : Addr} {lastv : V} {xs : List V} {qs : List (Option CM)} (h : LJ p H4 b k G wl pl lastv) (h1 : G pl' = some (.lst xs)) (h2 : All2 (PX G) xs qs) (h3 : xs.length ≤ 1200 + 8 * (b + 1)) : LJ p H4 (b + 1) k G wl pl' lastv := by
  obtain ⟨f, P, ⟨ws, w1, w2, w3⟩, l, _⟩ := h
  exact ⟨f, P, ⟨ws, w1, w2, by omega⟩, l, xs, qs, h1, h2, h3⟩
theorem ins_all {G : Hp} {xs : List V} {qs : List (Option CM)} {v : V} {q : Option CM} (h : All2 (PX G) xs qs) (hv : PX G v q) (a : Nat) (ha : a ≤ xs.length) :
    ∃ rs, All2 (PX G) ((cutV xs none (some (a : Int)) ++ [v]) ++ cutV xs (some (a : Int)) none) rs ∧ ((cutV xs none (some (a : Int)) ++ [v]) ++ cutV xs (some (a : Int)) none).length = xs.length + 1 := by
  have r := ((h.cut none (some (a : Int))).append (.cons hv .nil)).append (h.cut (some (a : Int)) none)
  refine ⟨_, r, ?_⟩
  have e := h.length
  rw [r.length, List.length_append, List.length_append, cutL_head qs a (by omega), cutL_tail, List.length_singleton]
  omega
theorem pv_words : ∀ v ∈ ([.str "", .str "a1", .str "ninelongs", .str "aB", .int 7, .non, .str "a b"] : List V), PV v := by
  intro v hv
  simp only [List.mem_cons, List.not_mem_nil, or_false] at hv
  have z : ∀ s : Str, s ∈ (["", "a1", "ninelongs", "aB", "a b", "9", "answers", "xa", "xb", "xc", "zz", "functions", "word", "twice", "place", "many", "clause", "function"] : List Str) → PV (.str s) := fun s hs => pv_str (small_zz s hs).2 (small_zz s hs).1
  rcases hv with e | e | e | e | e | e | e <;> rw [e]
  · exact z _ (by decide)
  · exact z _ (by decide)
  · exact z _ (by decide)
  · exact z _ (by decide)
  · exact pv_int _
  · exact pv_non
  · exact z _ (by decide)
theorem pv_lasts (y z : Int) : ∀ v ∈ ([.int y, .int z, .str "9", .bl true, .non] : List V), PV v := by
  intro v hv
  simp only [List.mem_cons, List.not_mem_nil, or_false] at hv
  rcases hv with e | e | e | e | e <;> rw [e]
  · exact pv_int _
  · exact pv_int _
  · exact pv_str (small_zz "9" (by decide)).2 (small_zz "9" (by decide)).1
  · exact pv_bl _
  · exact pv_non
theorem pv_parts : ∀ v ∈ ([.non, .int 3, .str "answers", .bl true] : List V), PV v := by
  intro v hv
  simp only [List.mem_cons, List.not_mem_nil, or_false] at hv
  rcases hv with e | e | e | e <;> rw [e]
  · exact pv_non
  · exact pv_int _
  · exact pv_str (small_zz "answers" (by decide)).2 (small_zz "answers" (by decide)).1
  · exact pv_bl _
theorem pv_xs : ∀ v ∈ ([.str "xa", .str "xb", .str "xc"] : List V), PV v := by
  intro v hv
  simp only [List.mem_cons, List.not_mem_nil, or_false] at hv
  rcases hv with e | e | e <;> rw [e]
  · exact pv_str (small_zz "xa" (by decide)).2 (small_zz "xa" (by decide)).1
  · exact pv_str (small_zz "xb" (by decide)).2 (small_zz "xb" (by decide)).1
  · exact pv_str (small_zz "xc" (by decide)).2 (small_zz "xc" (by decide)).1
/-- a clause's tuple that was just laid -/
theorem px_new {G : Hp} {t ra : Addr} {M : List ARow} {i : Nat} {f : Str} {x : List V} (ht : G t = some (.tup (.str (kName i) :: .str f :: .ref ra :: x))) (hr : G ra = some (.lst (refs M))) (hM : AtR G M) (g : GoodP (i, f, rws M, x)) : PX G (.ref t) (some (i, f, rws M, x)) :=
  ⟨t, rfl, ⟨ra, M, ht, hr, hM, rfl⟩, g⟩
end OR

namespace OR
open PySem PySem.Spec PyProof.Rows L2
open TL (tl numL)
theorem call_isiK {X : Cx} (K : PySem.W.Frag) (hK : X.K = K) : CallR X (.builtin "isinstance") (rIsi K) := by
  subst hK
  exact call_isi
section
variable {P : Program} {w : World} {K : PySem.W.Frag} {mg : Str → Option Value} {base : Heap} {C : Nat → Addr} {CP CR : Addr}
theorem scLaw : FnScope ["_law_script", "_law_pen", "_law_world", "_law_words", "_law_last", "_law_parts", "_law_k", "_law_way", "_law_at", "_law_clauses", "_law_one", "_law_part"] ["_law_script"] (defScope sLaw) := ⟨rfl, rfl, rfl, by decide +kernel, rfl, by decide +kernel, by decide +kernel⟩
def Sg (sc p wp wl : Addr) (lastv : V) (pl : Addr) (s6 s7 s8 : Option V) : L2.St := [some (.ref sc), some (.ref p), some (.ref wp), some (.ref wl), some lastv, some (.ref pl), s6, s7, s8, none, none, none]
theorem ok_law {f : Addr} {fd : FuncData} (F : Fun K "law" "law" sLaw f fd) (B : Bd mg) (T : PTxt K mg CP)
    (N : Cl P w K mg base 1 "_law_pen_of" ["_law_script"] (spPen K)) (D : Cl P w K mg base 1 "_law_draw" ["_law_pen", "_law_many"] spDraw) (PI : Cl P w K mg base 2 "_law_pick" ["_law_pen", "_law_options"] (spPick K)) (WW : Cl P w K mg base 6 "_law_world_of" ["_law_pen", "_law_small", "_law_most"] spWorldOf) (MO : Cl P w K mg base 6 "_law_made_of" ["_law_told"] (spMadeX CP C))
    (RFS : Cl P w K mg base 8 "_law_refusal" ["_law_words", "_law_last", "_law_clauses"] (spRefusal K CP C tag)) (DUE : Cl P w K mg base 3 "_law_due" ["_law_words", "_law_last", "_law_parts"] (spDue K tag)) : FnOk P w K mg base CX0 9 f fd ["_law_script"] (spLaw K) := by
  refine F.ok scLaw (fun vs H Q E h => ?_) (fun cdv A outer s H vs Q E hr h => ?_)
  · obtain ⟨a, ns, rfl, _⟩ := h
    rfl
  · obtain ⟨sc, ns, rfl, hS, hlen, q⟩ := h
    have nd := scLaw.nd
    have hu := hu_of hr
    have hu64 : (A.deeper (envOfC "law" (defScope sLaw) s.heap.objs.size f cdv)).units + 64 < cLine := hr.units
    refine ⟨_, pss_cons (ps_set (i := 1) nd rfl (.inl rfl) (pe_cl N hr (by decide) (by rfl) (pa_cons (pv 0) pa_nil)))
      (pss_cons (ps_set (i := 2) nd rfl (.inl rfl) (pe_cl WW hr (by decide) (by rfl) (pa_cons (pv 1) (pa_cons (pe_cmpR op_eq (pe_cl D hr (by decide) (by rfl) (pa_cons (pv 1) (pa_cons pe_int pa_nil))) pe_int (by rfl)) (pa_cons pe_int pa_nil)))))
      (pss_cons (ps_par3 (i := 3) (j := 4) (l := 5) rfl nd rfl rfl rfl (by decide) (by decide) (by decide) rfl rfl rfl (pa_cons (pe_callTy call_list_of (by rfl) B.list bt_list (pa_cons (pe_dget hu (pv 2) pe_str (fun _ _ => rfl)) pa_nil)) (pa_cons (pe_dget hu (pv 2) pe_str (fun _ _ => rfl)) (pa_cons (pe_callTy call_list_of (by rfl) B.list bt_list (pa_cons (pe_dget hu (pv 2) pe_str (fun _ _ => rfl)) pa_nil)) pa_nil))) rfl)
      (Evl.pss_cut (ps_for PassesOwn.never rfl (pi_range1 (by rfl) B.range (pa_cons (pe_cl D hr (by decide) (by rfl) (pa_cons (pv 1) (pa_cons pe_int pa_nil))) pa_nil)) (pg_name (i := 6) nd rfl (.inl rfl))
          (pss_cons (ps_par (i := 7) (j := 8) rfl nd rfl rfl (by decide) rfl rfl (pa_cons (pe_cl D hr (by decide) (by rfl) (pa_cons (pv 1) (pa_cons pe_int pa_nil))) (pa_cons (pe_cl D hr (by decide) (by rfl) (pa_cons (pv 1) (pa_cons (pe_op op_add (pe_callB call_len_seq (by rfl) B.len PySem.boot_len (pa_cons (pv 5) pa_nil)) pe_int) pa_nil))) pa_nil)) rfl)
          (Evl.pss_cut (ps_if (pt_cmpR op_eq (pv 7) pe_int (nomark _))
              (pss_one (ps_set (i := 3) nd rfl (.inl rfl) (pe_cl PI hr (by decide) (by rfl) (pa_cons (pv 1) (pa_cons (pe_lst (pa_cons (pe_lst pa_nil) (pa_cons (pe_op op_cat (pv 3) (pe_lst (pa_cons pe_str (pa_cons pe_str (pa_cons pe_str pa_nil))))) pa_nil))) pa_nil)))))
              pss_nil)
          (Evl.pss_cut (ps_if (pt_cmpR op_eq (pv 7) pe_int (nomark _))
              (pss_one (ps_set (i := 3) nd rfl (.inl rfl) (pe_op op_cat (pv 3) (pe_lst (pa_cons (pe_cl PI hr (by decide) (by rfl) (pa_cons (pv 1) (pa_cons (pe_lst (pa_cons pe_str (pa_cons pe_str (pa_cons pe_str (pa_cons pe_str (pa_cons pe_int (pa_cons pe_non (pa_cons pe_str pa_nil)))))))) pa_nil))) pa_nil)))))
              pss_nil)
          (Evl.pss_cut (ps_if (pt_cmpR op_eq (pv 7) pe_int (nomark _))
              (pss_one (ps_set (i := 3) nd rfl (.inl rfl) (pe_op op_cat (pv 3) (pe_slice sl_list (pv 3) po_none (po_some pe_int)))))
              pss_nil)
          (Evl.pss_cut (ps_if (pt_cmpR op_eq (pv 7) pe_int (nomark _))
              (pss_one (ps_set (i := 4) nd rfl (.inl rfl) (pe_cl PI hr (by decide) (by rfl) (pa_cons (pv 1) (pa_cons (pe_lst (pa_cons (pe_un un_neg pe_int) (pa_cons (pe_op op_add (pe_op op_pow pe_int pe_int) pe_int) (pa_cons pe_str (pa_cons pe_bl (pa_cons pe_non pa_nil)))))) pa_nil)))))
              pss_nil)
          (Evl.pss_cut (ps_if (PW.pt (pw_and (pt_cmpR op_eq (pv 7) pe_int (nomark _)) (pw_and1 (pt_cmpR op_lt (pe_callB call_len_seq (by rfl) B.len PySem.boot_len (pa_cons (pv 5) pa_nil)) pe_int (nomark _)))))
              (pss_one (ps_set (i := 5) nd rfl (.inl rfl) (pe_op (op_mulLI K rfl) (pv 5) pe_int)))
              pss_nil)
          (Evl.pss_cut (ps_if (pt_cmpR op_eq (pv 7) pe_int (nomark _))
              (pss_one (ps_set (i := 5) nd rfl (.inl rfl) (pe_op op_cat (pe_op op_cat (pe_slice sl_list (pv 5) po_none (po_some (pv 8))) (pe_lst (pa_cons (pe_cl PI hr (by decide) (by rfl) (pa_cons (pv 1) (pa_cons (pe_lst (pa_cons pe_non (pa_cons pe_int (pa_cons pe_str (pa_cons pe_bl pa_nil))))) pa_nil))) pa_nil))) (pe_slice sl_list (pv 5) (po_some (pv 8)) po_none))))
              pss_nil)
          (Evl.pss_cut (ps_if (pt_cmpR op_eq (pv 7) pe_int (nomark _))
              (pss_one (ps_set (i := 5) nd rfl (.inl rfl) (pe_op op_cat (pe_op op_cat (pe_slice sl_list (pv 5) po_none (po_some (pv 8))) (pe_lst (pa_cons (pe_tup (pa_cons pe_str (pa_cons pe_str (pa_cons (pe_lst (pa_cons (pe_tup (pa_cons pe_int (pa_cons pe_int pa_nil))) pa_nil)) pa_nil)))) pa_nil))) (pe_slice sl_list (pv 5) (po_some (pv 8)) po_none))))
              pss_nil)
          (Evl.pss_cut (ps_if (pt_cmpR op_eq (pv 7) pe_int (nomark _))
              (pss_one (ps_set (i := 5) nd rfl (.inl rfl) (pe_op op_cat (pe_op op_cat (pe_slice sl_list (pv 5) po_none (po_some (pv 8))) (pe_lst (pa_cons (pe_tup (pa_cons pe_str (pa_cons (pe_ix (ix_listK K rfl) (pe_dget hu (pv 2) pe_str (fun _ _ => rfl)) pe_int (fun _ _ => rfl)) (pa_cons (pe_lst (pa_cons (pe_tup (pa_cons pe_int (pa_cons pe_int pa_nil))) pa_nil)) (pa_cons pe_str pa_nil))))) pa_nil))) (pe_slice sl_list (pv 5) (po_some (pv 8)) po_none))))
              pss_nil)
          (Evl.pss_cut (ps_if (PW.pt (pw_and (pt_cmpR op_eq (pv 7) pe_int (nomark _)) (pw_and1 (pt_cmpR op_lt (pe_dget hu (pv 2) pe_str (fun _ _ => rfl)) (pe_op op_pow pe_int pe_int) (nomark _)))))
              (pss_cons (ps_set (i := 5) nd rfl (.inl rfl) (pe_op op_cat (pe_slice sl_list (pv 5) po_none (po_some (pv 8))) (pe_lst (pa_cons (pe_tup (pa_cons pe_str (pa_cons (pe_ix (ix_listK K rfl) (pe_dget hu (pv 2) pe_str (fun _ _ => rfl)) pe_int (fun _ _ => rfl)) (pa_cons (pe_lst (pa_cons (pe_tup (pa_cons pe_int (pa_cons pe_int pa_nil))) (pa_cons (pe_tup (pa_cons (pe_op op_add (pe_dget hu (pv 2) pe_str (fun _ _ => rfl)) pe_int) (pa_cons (pe_op op_add (pe_dget hu (pv 2) pe_str (fun _ _ => rfl)) pe_int) pa_nil))) pa_nil))) pa_nil)))) pa_nil)))) (pss_one (ps_set (i := 5) nd rfl (.inl rfl) (pe_op op_cat (pv 5) (pe_slice sl_list (pe_callTy call_list_of (by rfl) B.list bt_list (pa_cons (pe_dget hu (pv 2) pe_str (fun _ _ => rfl)) pa_nil)) (po_some (pv 8)) po_none)))))
              pss_nil)
          pss_nil)))))))))))
      (pss_cons (ps_setLc (i := 9) (own := [("_law_part", 11)]) (g := (gName 11)) (tt := tYes) rfl nd rfl rfl (sw_true rfl rfl rfl (by decide +kernel)) (pi_list (pv 5)) (blkOk_by (N := ["_law_script", "_law_pen", "_law_world", "_law_words", "_law_last", "_law_parts", "_law_k", "_law_way", "_law_at", "_law_clauses", "_law_one", "_law_part"]) (sc := defScope sLaw) (by decide +kernel)) (fun _ _ _ _ _ => pg_name (i := 11) nd rfl (.inl rfl)) (fun _ _ _ _ _ => pts_nil) (fun _ _ _ _ _ => (pe_ifExp (pt_val (pe_callB (call_isiK K rfl) (by rfl) T.zIsi bt_isi (pa_cons (pv 11) (pa_cons (pe_bltn (v := .ty "tuple") (by rfl) T.zTup bt_tup rfl) pa_nil)))) (pe_cl MO hr (by decide) (by rfl) (pa_cons (pv 11) pa_nil)) (pv 11))))
      (Evl.pss_cut (ps_set (i := 10) nd rfl (.inl rfl) (pe_lst (pa_cons (pe_cl MO hr (by decide) (by rfl) (pa_cons (pe_tup (pa_cons pe_str (pa_cons (pe_ix (ix_listK K rfl) (pe_dget hu (pv 2) pe_str (fun _ _ => rfl)) pe_int (fun _ _ => rfl)) (pa_cons (pe_lst (pa_cons (pe_tup (pa_cons pe_int (pa_cons pe_int pa_nil))) pa_nil)) pa_nil)))) pa_nil)) pa_nil)))
      (Evl.pss_cut (ps_if (pt_cmp (pc_notN (pe_cl RFS hr (by decide) (by rfl) (pa_cons (pe_dget hu (pv 2) pe_str (fun _ _ => rfl)) (pa_cons (pe_dget hu (pv 2) pe_str (fun _ _ => rfl)) (pa_cons (pe_op (op_mulLI K rfl) (pv 10) pe_int) pa_nil))))))
          (pss_one (ps_ret pe_bl))
          pss_nil)
      (Evl.pss_cut (ps_if (pt_cmpR (op_neD hu64) (pe_cl RFS hr (by decide) (by rfl) (pa_cons (pe_dget hu (pv 2) pe_str (fun _ _ => rfl)) (pa_cons (pe_dget hu (pv 2) pe_str (fun _ _ => rfl)) (pa_cons (pe_op (op_mulLI K rfl) (pv 10) pe_int) pa_nil)))) (pe_tup (pa_cons pe_str (pa_cons pe_int (pa_cons pe_bl pa_nil)))) (nomark _))
          (pss_one (ps_ret pe_bl))
          pss_nil)
      (pss_one (ps_ret (pe_cmpR (op_eqD hu64) (pe_cl RFS hr (by decide) (by rfl) (pa_cons (pv 3) (pa_cons (pv 4) (pa_cons (pv 9) pa_nil)))) (pe_cl DUE hr (by decide) (by rfl) (pa_cons (pv 3) (pa_cons (pv 4) (pa_cons (pv 5) pa_nil)))) (by rfl))))))))))), ?_⟩
    refine ⟨_, rfl, sc, ns, rfl, hS, hlen, fun p H1 np P0 S0 => ?_⟩
    refine ⟨_, rfl, _, rfl, p, 2, 0, rfl, by decide, by decide, P0, by decide, fun r H2 _ _ P2 F2 => ⟨rfl, p, _, 5, 1, rfl, by decide, by decide, P2, by decide, fun wp n fs ms H4 nwp W3 m0 m6 P4 F3 => ?_⟩⟩
    obtain ⟨wf, an, ln, mute, great, free, td, ans, lts, txs, W4, htd, hA, _, _⟩ := id W3
    have fw := W4.fw
    have f2 := W4.f2
    have f0 := W4.f0
    have n0 := W4.n0
    have n1 := W4.n1
    have wfs := fw.word (Nat.le_trans f2 (by decide))
    have sm : ∀ f ∈ fs, SmallS f := fun f hf => (wfs f hf).small
    have good : GoodFs fs := ⟨f0, Nat.le_trans f2 (by decide), wfs, fw.ne⟩
    have pb : placeB n = true := place_of n0 n1
    have fpv : ∀ v ∈ fs.map V.str, PV v := fun v hv => by
      obtain ⟨g, hg, rfl⟩ := List.mem_map.mp hv
      exact word_pv (wfs g hg)
    have tqs : ∀ {G : Hp}, Frm p H4 G → All2 (PX G) txs (ms.map some) := fun {G} F => by
      have go : ∀ {xs : List V} {ms : List CM}, All2 (SRep fs n H4) xs ms → All2 (PX G) xs (ms.map some) := by
        intro xs ms h
        induction h with
        | nil => exact .nil
        | cons h t ih =>
          obtain ⟨tt, e, h1, h2⟩ := h
          exact .cons ⟨tt, e, h1.frm F P4, goodP_of h2 (wfs _ h2.mem) n1⟩ ih
      exact go hA
    have ltx : txs.length ≤ 6 := by rw [hA.length]; exact m6
    have Wat : ∀ {G : Hp}, Frm p H4 G → WldX p G wp n fs wf an ln mute great free td ans lts := fun F => W4.frm F P4
    have tdat : ∀ {G : Hp}, Frm p H4 G → G td = some (.lst txs) := fun F => F.lst P4 htd
    obtain ⟨g0, hg0⟩ : ∃ g, fs[0]? = some g := ⟨fs[0], List.getElem?_eq_getElem f0⟩
    have mg0 := List.mem_of_getElem? hg0
    have fat : atI (fs.map V.str) 0 = some (.str g0) := atI_nat (j := 0) (by rw [List.getElem?_map, hg0]; rfl)
    clear F3 P2 F2 S0 P0 np W3
    refine ⟨_, rfl, wp, _, rfl, W4.at_ (j := 1) rfl rfl, wf, _, rfl, .inl (.inl (.inl W4.f)), fun w1 nw1 => ?_⟩
    have s1 := same_lay (o := .lst (fs.map V.str)) nw1
    refine ⟨_, rfl, wp, _, rfl, (W4.same s1).at_ (j := 0) rfl rfl, _, rfl, wp, _, rfl, (W4.same s1).at_ (j := 7) rfl rfl, td, txs, rfl, .inl (.inl (.inl (s1 _ _ htd))), fun p1 np1 => ?_⟩
    have s2 := s1.trans (same_lay (o := .lst txs) np1)
    refine ⟨_, _, _, rfl, ?_⟩
    have J0 : LJ p H4 0 806 (upd (upd H4 w1 (.lst (fs.map V.str))) p1 (.lst txs)) w1 p1 (.int n) := ⟨frmS s2, (P4.same' s2).mono (by omega), ⟨_, same_lay np1 _ _ upd_same, fpv, by rw [List.length_map]; omega⟩, pv_int n, txs, _, upd_same, tqs (frmS s2), by omega⟩
    generalize upd (upd H4 w1 (.lst (fs.map V.str))) p1 (.lst txs) = H5 at J0
    clear s1 s2 nw1 np1
    refine ⟨fun σ G => ∃ wl pl lastv s6 s7 s8, σ = Sg sc p wp wl lastv pl s6 s7 s8 ∧ LJ p H4 3 900 G wl pl lastv, ?_, ?_⟩
    · refine ⟨_, rfl, p, 4, _, rfl, by decide, by decide, J0.pen, by decide, fun rk G6 rk0 rk1 P6 F6 => ?_⟩
      refine ⟨rk, rfl, by omega, by omega, for_range (lo := 0) (n := rk.toNat) (fun i σ G => ∃ wl pl lastv s6 s7 s8, σ = Sg sc p wp wl lastv pl s6 s7 s8 ∧ LJ p H4 i (807 + 10 * i) G wl pl lastv)
        ⟨w1, p1, .int n, none, none, none, rfl, J0.frm F6 P6⟩ ?_ ?_⟩
      · rintro i σ G hi ⟨wl, pl, lastv, s6, s7, s8, rfl, J⟩
        have hi3 : i < 3 := by omega
        obtain ⟨xs, qs, hpl, hP, hlx⟩ := id J.r
        refine ⟨_, rfl, p, 9, _, rfl, by decide, by decide, J.pen, by omega, fun way G1 y0 y1 P1 F1 => ?_⟩
        obtain ⟨way, rfl⟩ := Int.eq_ofNat_of_zero_le y0
        have hpl1 := F1.lst J.pen hpl
        refine ⟨_, rfl, _, rfl, pl, xs, rfl, .inl (.inl (.inl hpl1)), _, _, rfl, rfl, p, _, _, rfl, by omega, ?_, P1, by omega, fun at_ G2 a0 a1 P2 F2 => ?_⟩
        · exact Nat.lt_of_le_of_lt (show (((xs.length : Nat) : Int) + 1).natAbs ≤ 2000 by omega) (by decide)
        obtain ⟨at_, rfl⟩ := Int.eq_ofNat_of_zero_le a0
        have J2 := (J.frm F1 P1).frm F2 P2
        have hat : at_ ≤ xs.length := by omega
        have hpl2 := F2.lst P1 hpl1
        clear J P1 F1 P2 F2 hpl1 hpl
        have J2 : LJ p H4 i (809 + 10 * i) G2 wl pl lastv := J2.mono (Nat.le_refl _) (by omega)
        have le_at : ∀ ys, G2 pl = some (.lst ys) → at_ ≤ ys.length := fun ys e => by rw [hpl2] at e; cases e; exact hat
        clear hP hpl2 hat hlx
        refine ⟨_, _, rfl, ?_⟩
        let Mid : Nat → L2.St → Hp → Prop := fun j σ G => ∃ wl pl lastv, σ = Sg sc p wp wl lastv pl (some (.int ((0 : Int) + (i : Nat)))) (some (.int (way : Nat))) (some (.int (at_ : Nat))) ∧ ((way < j ∧ LJ p H4 (i + 1) (807 + 10 * (i + 1)) G wl pl lastv) ∨ (j ≤ way ∧ LJ p H4 i (809 + 10 * i) G wl pl lastv ∧ ∀ ys, G pl = some (.lst ys) → at_ ≤ ys.length))
        have other : ∀ j : Nat, way ≠ j → decide (V.int ((way : Nat) : Int) = V.int ((j : Nat) : Int)) = false := fun j h => decide_eq_false fun e => by have := V.int.inj e; omega
        have J := J2
        clear J2
        refine ⟨Mid 1, ?_, ?_⟩
        · by_cases hw : way = 0
          rotate_left
          · exact ⟨_, rfl, rfl, _, rfl, iteB (other 0 hw) ⟨wl, pl, lastv, rfl, .inr ⟨by omega, J, le_at⟩⟩⟩
          subst hw
          obtain ⟨ws, hwl, hws, lws⟩ := id J.w
          obtain ⟨xs, qs, hpl, hP, hlx⟩ := id J.r
          have hat := le_at _ hpl
          refine ⟨_, rfl, rfl, _, rfl, iteA (decide_eq_true rfl) ?_⟩
          refine ⟨_, rfl, Nat.zero_le _, fun l1 n1 => ?_⟩
          have t1 := same_lay (o := .lst []) n1
          refine ⟨_, rfl, (by show 3 ≤ sizeLine; decide), fun l2 n2 => ?_⟩
          have t2 := t1.trans (same_lay (o := .lst [.str "xa", .str "xb", .str "xc"]) n2)
          refine ⟨wl, l2, ws, _, rfl, rfl, t2 _ _ hwl, upd_same, sz1 (by show _ + 3 ≤ _; omega), fun l3 n3 => ?_⟩
          have t3 := t2.trans (same_lay (o := .lst (ws ++ [.str "xa", .str "xb", .str "xc"])) n3)
          refine ⟨by show 2 ≤ sizeLine; decide, fun l4 n4 => ?_⟩
          have t4 := t3.trans (same_lay (o := .lst [.ref l1, .ref l3]) n4)
          have J4 := J.same t4
          have h1 := same_lay (o := .lst [.ref l1, .ref l3]) n4 _ _ (same_lay (o := .lst (ws ++ [.str "xa", .str "xb", .str "xc"])) n3 _ _ (same_lay (o := .lst [.str "xa", .str "xb", .str "xc"]) n2 _ _ (upd_same (H := G2) (a := l1) (o := .lst []))))
          have h3 := same_lay (o := .lst [.ref l1, .ref l3]) n4 _ _ (upd_same (a := l3) (o := .lst (ws ++ [.str "xa", .str "xb", .str "xc"])))
          refine ⟨p, l4, _, _, rfl, .inl (.inl upd_same), (by show 0 < 2; decide), (by show 2 ≤ 1000; decide), J4.pen, by omega, fun v G5 hv P5 F5 => ?_⟩
          have J5 := J4.frm F5 P5
          rcases List.mem_cons.mp hv with e | hv
          · subst e
            exact ⟨l1, pl, lastv, rfl, .inl ⟨by omega, (J5.words (F5.lst J4.pen h1) (fun _ z => nomatch z) (Nat.zero_le _)).mono (Nat.le_refl _) (by omega)⟩⟩
          · obtain rfl := List.mem_singleton.mp hv
            exact ⟨l3, pl, lastv, rfl, .inl ⟨by omega, (J5.words (F5.lst J4.pen h3) (fun u hu => (List.mem_append.mp hu).elim (hws u) (pv_xs u)) (by rw [List.length_append]; show _ + 3 ≤ _; omega)).mono (Nat.le_refl _) (by omega)⟩⟩
        clear J le_at
        rintro σ0 G2 start
        refine ⟨Mid 2, ?_, ?_⟩
        · obtain ⟨wl, pl, lastv, rfl, ⟨lt, J⟩ | ⟨ge, J, le_at⟩⟩ := start
          · exact ⟨_, rfl, rfl, _, rfl, iteB (other 1 (by omega)) ⟨wl, pl, lastv, rfl, .inl ⟨by omega, J⟩⟩⟩
          by_cases hw : way = 1
          rotate_left
          · exact ⟨_, rfl, rfl, _, rfl, iteB (other 1 hw) ⟨wl, pl, lastv, rfl, .inr ⟨by omega, J, le_at⟩⟩⟩
          subst hw
          obtain ⟨ws, hwl, hws, lws⟩ := id J.w
          obtain ⟨xs, qs, hpl, hP, hlx⟩ := id J.r
          have hat := le_at _ hpl
          refine ⟨_, rfl, rfl, _, rfl, iteA (decide_eq_true rfl) ?_⟩
          refine ⟨_, rfl, _, rfl, (by show 7 ≤ sizeLine; decide), fun l1 n1 => ?_⟩
          have t1 := same_lay (o := .lst [.str "", .str "a1", .str "ninelongs", .str "aB", .int 7, .non, .str "a b"]) n1
          have J1 := J.same t1
          refine ⟨p, l1, _, _, rfl, .inl (.inl upd_same), (by show 0 < 7; decide), (by show 7 ≤ 1000; decide), J1.pen, by omega, fun v G5 hv P5 F5 => ?_⟩
          refine ⟨by show 1 ≤ sizeLine; decide, fun l2 n2 => ?_⟩
          have J5 := J1.frm F5 P5
          have t2 := same_lay (o := .lst [v]) n2
          have w5 : G5 wl = some (.lst ws) := F5.lst J1.pen (t1 _ _ hwl)
          refine ⟨wl, l2, ws, _, rfl, rfl, t2 _ _ w5, upd_same, sz1 (by show _ + 1 ≤ _; omega), fun l3 n3 => ?_⟩
          have t3 := t2.trans (same_lay (o := .lst (ws ++ [v])) n3)
          exact ⟨l3, pl, lastv, rfl, .inl ⟨by omega, ((J5.same t3).words upd_same (fun u hu => (List.mem_append.mp hu).elim (hws u) fun h => by rw [List.mem_singleton.mp h]; exact pv_words v hv) (by rw [List.length_append, List.length_singleton]; omega)).mono (Nat.le_refl _) (by omega)⟩⟩
        clear start
        rintro σ0 G2 start
        refine ⟨Mid 3, ?_, ?_⟩
        · obtain ⟨wl, pl, lastv, rfl, ⟨lt, J⟩ | ⟨ge, J, le_at⟩⟩ := start
          · exact ⟨_, rfl, rfl, _, rfl, iteB (other 2 (by omega)) ⟨wl, pl, lastv, rfl, .inl ⟨by omega, J⟩⟩⟩
          by_cases hw : way = 2
          rotate_left
          · exact ⟨_, rfl, rfl, _, rfl, iteB (other 2 hw) ⟨wl, pl, lastv, rfl, .inr ⟨by omega, J, le_at⟩⟩⟩
          subst hw
          obtain ⟨ws, hwl, hws, lws⟩ := id J.w
          obtain ⟨xs, qs, hpl, hP, hlx⟩ := id J.r
          have hat := le_at _ hpl
          refine ⟨_, rfl, rfl, _, rfl, iteA (decide_eq_true rfl) ?_⟩
          have ec : cutV ws none (some 1) = ws.take 1 := cut_take ws 1
          refine ⟨_, rfl, _, rfl, _, rfl, wl, ws, rfl, .inl (.inl hwl), fun l1 n1 => ?_⟩
          have t1 := same_lay (o := .lst (cutV ws none (some 1))) n1
          have lt := List.length_take_le 1 ws
          refine ⟨wl, l1, ws, _, rfl, rfl, t1 _ _ hwl, upd_same, sz1 (by rw [ec]; omega), fun l3 n3 => ?_⟩
          have t3 := t1.trans (same_lay (o := .lst (ws ++ cutV ws none (some 1))) n3)
          exact ⟨l3, pl, lastv, rfl, .inl ⟨by omega, ((J.same t3).words upd_same (fun u hu => (List.mem_append.mp hu).elim (hws u) fun h => hws u (List.mem_of_mem_take (by rw [ec] at h; exact h))) (by rw [List.length_append, ec]; omega)).mono (Nat.le_refl _) (by omega)⟩⟩
        clear start
        rintro σ0 G2 start
        refine ⟨Mid 4, ?_, ?_⟩
        · obtain ⟨wl, pl, lastv, rfl, ⟨lt, J⟩ | ⟨ge, J, le_at⟩⟩ := start
          · exact ⟨_, rfl, rfl, _, rfl, iteB (other 3 (by omega)) ⟨wl, pl, lastv, rfl, .inl ⟨by omega, J⟩⟩⟩
          by_cases hw : way = 3
          rotate_left
          · exact ⟨_, rfl, rfl, _, rfl, iteB (other 3 hw) ⟨wl, pl, lastv, rfl, .inr ⟨by omega, J, le_at⟩⟩⟩
          subst hw
          obtain ⟨ws, hwl, hws, lws⟩ := id J.w
          obtain ⟨xs, qs, hpl, hP, hlx⟩ := id J.r
          have hat := le_at _ hpl
          refine ⟨_, rfl, rfl, _, rfl, iteA (decide_eq_true rfl) ?_⟩
          have hpow : CPow 10 30 := ⟨by decide, by decide, by decide⟩
          refine ⟨_, rfl, _, rfl, _, _, rfl, rfl, hpow, _, _, rfl, rfl, (by show 5 ≤ sizeLine; decide), fun l1 n1 => ?_⟩
          have J1 := J.same (same_lay (o := .lst [.int (-1), .int ((10 : Int) ^ (30 : Int).toNat + 1), .str "9", .bl true, .non]) n1)
          refine ⟨p, l1, _, _, rfl, .inl (.inl upd_same), (by show 0 < 5; decide), (by show 5 ≤ 1000; decide), J1.pen, by omega, fun v G5 hv P5 F5 => ?_⟩
          exact ⟨wl, pl, v, rfl, .inl ⟨by omega, ((J1.frm F5 P5).last (pv_lasts _ _ v hv)).mono (by omega) (by omega)⟩⟩
        clear start
        rintro σ0 G2 start
        refine ⟨Mid 5, ?_, ?_⟩
        · obtain ⟨wl, pl, lastv, rfl, ⟨lt, J⟩ | ⟨ge, J, le_at⟩⟩ := start
          · exact ⟨_, rfl, rfl, _, rfl, iteB (other 4 (by omega)) (iteF ⟨wl, pl, lastv, rfl, .inl ⟨by omega, J⟩⟩)⟩
          by_cases hw : way = 4
          rotate_left
          · exact ⟨_, rfl, rfl, _, rfl, iteB (other 4 hw) (iteF ⟨wl, pl, lastv, rfl, .inr ⟨by omega, J, le_at⟩⟩)⟩
          subst hw
          obtain ⟨ws, hwl, hws, lws⟩ := id J.w
          obtain ⟨xs, qs, hpl, hP, hlx⟩ := id J.r
          have hat := le_at _ hpl
          refine ⟨_, rfl, rfl, _, rfl, iteA (decide_eq_true rfl) ⟨_, rfl, pl, xs, rfl, .inl (.inl (.inl hpl)), _, _, rfl, rfl, _, rfl, ite2 (fun c => ?_) (fun c => ?_)⟩⟩
          · have c := of_decide_eq_true c
            refine ⟨_, rfl, pl, xs, 20, rfl, rfl, .inl (.inl hpl), by omega, by decide, fun l1 n1 => ?_⟩
            have t1 := same_lay (o := .lst (List.replicate 20 xs).flatten) n1
            exact ⟨wl, l1, lastv, rfl, .inl ⟨by omega, ((J.same t1).parts upd_same ((all2_rep hP 20).imp fun _ _ e => e.same t1) (by rw [len_rep]; omega)).mono (Nat.le_refl _) (by omega)⟩⟩
          · exact ⟨wl, pl, lastv, rfl, .inl ⟨by omega, J.mono (by omega) (by omega)⟩⟩
        clear start
        rintro σ0 G2 start
        refine ⟨Mid 6, ?_, ?_⟩
        · obtain ⟨wl, pl, lastv, rfl, ⟨lt, J⟩ | ⟨ge, J, le_at⟩⟩ := start
          · exact ⟨_, rfl, rfl, _, rfl, iteB (other 5 (by omega)) ⟨wl, pl, lastv, rfl, .inl ⟨by omega, J⟩⟩⟩
          by_cases hw : way = 5
          rotate_left
          · exact ⟨_, rfl, rfl, _, rfl, iteB (other 5 hw) ⟨wl, pl, lastv, rfl, .inr ⟨by omega, J, le_at⟩⟩⟩
          subst hw
          obtain ⟨ws, hwl, hws, lws⟩ := id J.w
          obtain ⟨xs, qs, hpl, hP, hlx⟩ := id J.r
          have hat := le_at _ hpl
          refine ⟨_, rfl, rfl, _, rfl, iteA (decide_eq_true rfl) ?_⟩
          refine ⟨_, rfl, _, rfl, _, rfl, pl, xs, rfl, .inl (.inl hpl), fun l1 n1 => ?_⟩
          have t1 := same_lay (o := .lst (cutV xs none (some (at_ : Int)))) n1
          have z1 := cutV_length xs none (some (at_ : Int))
          have z2 := cutV_length xs (some (at_ : Int)) none
          refine ⟨_, rfl, (by show 4 ≤ sizeLine; decide), fun l2 n2 => ?_⟩
          have t2 := t1.trans (same_lay (o := .lst [.non, .int 3, .str "answers", .bl true]) n2)
          have J1 := J.same t2
          have h1 := same_lay (o := .lst [.non, .int 3, .str "answers", .bl true]) n2 _ _ (upd_same (H := G2) (a := l1) (o := .lst (cutV xs none (some (at_ : Int)))))
          refine ⟨p, l2, _, _, rfl, .inl (.inl upd_same), (by show 0 < 4; decide), (by show 4 ≤ 1000; decide), J1.pen, by omega, fun v G5 hv P5 F5 => ?_⟩
          have J5 := J1.frm F5 P5
          refine ⟨by show 1 ≤ sizeLine; decide, fun l3 n3 => ?_⟩
          have t3 := same_lay (o := .lst [v]) n3
          have h1 := t3 _ _ (F5.lst J1.pen h1)
          have hpl3 := t3 _ _ (F5.lst J1.pen (t2 _ _ hpl))
          have J6 := J5.same t3
          have P6 : All2 (PX (upd G5 l3 (.lst [v]))) xs qs := hP.imp fun _ _ e => ((e.same t2).frm F5 J1.pen).same t3
          refine ⟨l1, l3, _, _, rfl, rfl, h1, upd_same, sz1 (by show _ + 1 ≤ _; omega), fun l4 n4 => ?_⟩
          have t4 := same_lay (o := .lst (cutV xs none (some (at_ : Int)) ++ [v])) n4
          refine ⟨_, rfl, _, rfl, _, rfl, pl, xs, rfl, .inl (.inl (t4 _ _ hpl3)), fun l5 n5 => ?_⟩
          have t5 := same_lay (o := .lst (cutV xs (some (at_ : Int)) none)) n5
          refine ⟨l4, l5, _, _, rfl, rfl, t5 _ _ upd_same, upd_same, sz1 (by rw [List.length_append, List.length_singleton]; omega), fun l6 n6 => ?_⟩
          have t6 := (t4.trans t5).trans (same_lay (o := .lst ((cutV xs none (some (at_ : Int)) ++ [v]) ++ cutV xs (some (at_ : Int)) none)) n6)
          obtain ⟨rs, r1, r2⟩ := ins_all (P6) (show PX _ v none from pv_parts v hv) at_ hat
          exact ⟨wl, l6, lastv, rfl, .inl ⟨by omega, ((J6.same t6).parts upd_same (r1.imp fun _ _ e => e.same t6) (by omega)).mono (Nat.le_refl _) (by omega)⟩⟩
        clear start
        rintro σ0 G2 start
        refine ⟨Mid 7, ?_, ?_⟩
        · obtain ⟨wl, pl, lastv, rfl, ⟨lt, J⟩ | ⟨ge, J, le_at⟩⟩ := start
          · exact ⟨_, rfl, rfl, _, rfl, iteB (other 6 (by omega)) ⟨wl, pl, lastv, rfl, .inl ⟨by omega, J⟩⟩⟩
          by_cases hw : way = 6
          rotate_left
          · exact ⟨_, rfl, rfl, _, rfl, iteB (other 6 hw) ⟨wl, pl, lastv, rfl, .inr ⟨by omega, J, le_at⟩⟩⟩
          subst hw
          obtain ⟨ws, hwl, hws, lws⟩ := id J.w
          obtain ⟨xs, qs, hpl, hP, hlx⟩ := id J.r
          have hat := le_at _ hpl
          refine ⟨_, rfl, rfl, _, rfl, iteA (decide_eq_true rfl) ?_⟩
          refine ⟨_, rfl, _, rfl, _, rfl, pl, xs, rfl, .inl (.inl hpl), fun l1 n1 => ?_⟩
          have t1 := same_lay (o := .lst (cutV xs none (some (at_ : Int)))) n1
          have z1 := cutV_length xs none (some (at_ : Int))
          have z2 := cutV_length xs (some (at_ : Int)) none
          refine ⟨(by show 2 ≤ sizeLine; decide), fun t0 nt0 => ?_⟩
          have t2 := same_lay (o := .tup [.int 0, .int 0]) nt0
          refine ⟨(by show 1 ≤ sizeLine; decide), fun lr nlr => ?_⟩
          have t3 := t2.trans (same_lay (o := .lst [.ref t0]) nlr)
          refine ⟨(by show 3 ≤ sizeLine; decide), fun tt ntt => ?_⟩
          have t4 := t3.trans (same_lay (o := .tup (.str (kName 0) :: .str "zz" :: .ref lr :: [])) ntt)
          refine ⟨by show 1 ≤ sizeLine; decide, fun l3 n3 => ?_⟩
          have t5 := same_lay (o := .lst [.ref tt]) n3
          have S := (t1.trans t4).trans t5
          have J6 := J.same S
          have hpl3 := S _ _ hpl
          have h1 := (t4.trans t5) _ _ (upd_same (H := G2) (a := l1) (o := .lst (cutV xs none (some (at_ : Int)))))
          have P6 := hP.imp fun _ _ e => e.same S
          have e0 := t5 _ _ (same_lay (o := .tup (.str (kName 0) :: .str "zz" :: .ref lr :: [])) ntt _ _ (same_lay (o := .lst [.ref t0]) nlr _ _ (upd_same (a := t0) (o := .tup [.int 0, .int 0]))))
          have er := t5 _ _ (same_lay (o := .tup (.str (kName 0) :: .str "zz" :: .ref lr :: [])) ntt _ _ (upd_same (a := lr) (o := .lst [.ref t0])))
          have et := t5 _ _ (upd_same (a := tt) (o := .tup (.str (kName 0) :: .str "zz" :: .ref lr :: [])))
          have px := px_new (M := [(t0, ((0 : Int), (0 : Int)))]) et er (fun z hz => by rw [List.mem_singleton.mp hz]; exact e0) ⟨by show 0 < 7; decide, word_zz, rfl, (fun r hr => by rw [List.mem_singleton.mp hr]; show okRow ((0 : Int), (0 : Int)) = true; decide), List.pairwise_singleton _ _, by show 1 ≤ 6; decide⟩
          refine ⟨l1, l3, _, _, rfl, rfl, h1, upd_same, sz1 (by show _ + 1 ≤ _; omega), fun l4 n4 => ?_⟩
          have t4 := same_lay (o := .lst (cutV xs none (some (at_ : Int)) ++ [.ref tt])) n4
          refine ⟨_, rfl, _, rfl, _, rfl, pl, xs, rfl, .inl (.inl (t4 _ _ hpl3)), fun l5 n5 => ?_⟩
          have t5 := same_lay (o := .lst (cutV xs (some (at_ : Int)) none)) n5
          refine ⟨l4, l5, _, _, rfl, rfl, t5 _ _ upd_same, upd_same, sz1 (by rw [List.length_append, List.length_singleton]; omega), fun l6 n6 => ?_⟩
          have t6 := (t4.trans t5).trans (same_lay (o := .lst ((cutV xs none (some (at_ : Int)) ++ [.ref tt]) ++ cutV xs (some (at_ : Int)) none)) n6)
          obtain ⟨rs, r1, r2⟩ := ins_all (P6) (px) at_ hat
          exact ⟨wl, l6, lastv, rfl, .inl ⟨by omega, ((J6.same t6).parts upd_same (r1.imp fun _ _ e => e.same t6) (by omega)).mono (Nat.le_refl _) (by omega)⟩⟩
        clear start
        rintro σ0 G2 start
        refine ⟨Mid 8, ?_, ?_⟩
        · obtain ⟨wl, pl, lastv, rfl, ⟨lt, J⟩ | ⟨ge, J, le_at⟩⟩ := start
          · exact ⟨_, rfl, rfl, _, rfl, iteB (other 7 (by omega)) ⟨wl, pl, lastv, rfl, .inl ⟨by omega, J⟩⟩⟩
          by_cases hw : way = 7
          rotate_left
          · exact ⟨_, rfl, rfl, _, rfl, iteB (other 7 hw) ⟨wl, pl, lastv, rfl, .inr ⟨by omega, J, le_at⟩⟩⟩
          subst hw
          obtain ⟨ws, hwl, hws, lws⟩ := id J.w
          obtain ⟨xs, qs, hpl, hP, hlx⟩ := id J.r
          have hat := le_at _ hpl
          refine ⟨_, rfl, rfl, _, rfl, iteA (decide_eq_true rfl) ?_⟩
          refine ⟨_, rfl, _, rfl, _, rfl, pl, xs, rfl, .inl (.inl hpl), fun l1 n1 => ?_⟩
          have t1 := same_lay (o := .lst (cutV xs none (some (at_ : Int)))) n1
          have z1 := cutV_length xs none (some (at_ : Int))
          have z2 := cutV_length xs (some (at_ : Int)) none
          have W := (Wat J.f).same t1
          refine ⟨_, rfl, wp, _, rfl, W.at_ (j := 1) rfl rfl, wf, _, 0, .str g0, rfl, rfl, .inl (.inl W.f), fat, ?_⟩
          refine ⟨(by show 2 ≤ sizeLine; decide), fun t0 nt0 => ?_⟩
          have t2 := same_lay (o := .tup [.int 0, .int 0]) nt0
          refine ⟨(by show 1 ≤ sizeLine; decide), fun lr nlr => ?_⟩
          have t3 := t2.trans (same_lay (o := .lst [.ref t0]) nlr)
          refine ⟨(by show 4 ≤ sizeLine; decide), fun tt ntt => ?_⟩
          have t4 := t3.trans (same_lay (o := .tup (.str (kName 2) :: .str g0 :: .ref lr :: [.str "zz"])) ntt)
          refine ⟨by show 1 ≤ sizeLine; decide, fun l3 n3 => ?_⟩
          have t5 := same_lay (o := .lst [.ref tt]) n3
          have S := (t1.trans t4).trans t5
          have J6 := J.same S
          have hpl3 := S _ _ hpl
          have h1 := (t4.trans t5) _ _ (upd_same (H := G2) (a := l1) (o := .lst (cutV xs none (some (at_ : Int)))))
          have P6 := hP.imp fun _ _ e => e.same S
          have e0 := t5 _ _ (same_lay (o := .tup (.str (kName 2) :: .str g0 :: .ref lr :: [.str "zz"])) ntt _ _ (same_lay (o := .lst [.ref t0]) nlr _ _ (upd_same (a := t0) (o := .tup [.int 0, .int 0]))))
          have er := t5 _ _ (same_lay (o := .tup (.str (kName 2) :: .str g0 :: .ref lr :: [.str "zz"])) ntt _ _ (upd_same (a := lr) (o := .lst [.ref t0])))
          have et := t5 _ _ (upd_same (a := tt) (o := .tup (.str (kName 2) :: .str g0 :: .ref lr :: [.str "zz"])))
          have px := px_new (M := [(t0, ((0 : Int), (0 : Int)))]) et er (fun z hz => by rw [List.mem_singleton.mp hz]; exact e0) ⟨by show 2 < 7; decide, wfs g0 mg0, ⟨"zz", rfl, word_zz, zz_ne fw hg0⟩, (fun r hr => by rw [List.mem_singleton.mp hr]; show okRow ((0 : Int), (0 : Int)) = true; decide), List.pairwise_singleton _ _, by show 1 ≤ 6; decide⟩
          refine ⟨l1, l3, _, _, rfl, rfl, h1, upd_same, sz1 (by show _ + 1 ≤ _; omega), fun l4 n4 => ?_⟩
          have t4 := same_lay (o := .lst (cutV xs none (some (at_ : Int)) ++ [.ref tt])) n4
          refine ⟨_, rfl, _, rfl, _, rfl, pl, xs, rfl, .inl (.inl (t4 _ _ hpl3)), fun l5 n5 => ?_⟩
          have t5 := same_lay (o := .lst (cutV xs (some (at_ : Int)) none)) n5
          refine ⟨l4, l5, _, _, rfl, rfl, t5 _ _ upd_same, upd_same, sz1 (by rw [List.length_append, List.length_singleton]; omega), fun l6 n6 => ?_⟩
          have t6 := (t4.trans t5).trans (same_lay (o := .lst ((cutV xs none (some (at_ : Int)) ++ [.ref tt]) ++ cutV xs (some (at_ : Int)) none)) n6)
          obtain ⟨rs, r1, r2⟩ := ins_all (P6) (px) at_ hat
          exact ⟨wl, l6, lastv, rfl, .inl ⟨by omega, ((J6.same t6).parts upd_same (r1.imp fun _ _ e => e.same t6) (by omega)).mono (Nat.le_refl _) (by omega)⟩⟩
        clear start
        rintro σ0 G2 start
        refine ⟨Mid 9, ?_, ?_⟩
        · obtain ⟨wl, pl, lastv, rfl, ⟨lt, J⟩ | ⟨ge, J, le_at⟩⟩ := start
          · exact ⟨_, rfl, rfl, _, rfl, iteB (other 8 (by omega)) (iteF ⟨wl, pl, lastv, rfl, .inl ⟨by omega, J⟩⟩)⟩
          by_cases hw : way = 8
          rotate_left
          · exact ⟨_, rfl, rfl, _, rfl, iteB (other 8 hw) (iteF ⟨wl, pl, lastv, rfl, .inr ⟨by omega, J, le_at⟩⟩)⟩
          subst hw
          obtain ⟨ws, hwl, hws, lws⟩ := id J.w
          obtain ⟨xs, qs, hpl, hP, hlx⟩ := id J.r
          have hat := le_at _ hpl
          have hpow : CPow 10 29 := ⟨by decide, by decide, by decide⟩
          have eL : lastP = 10 ^ 30 := rfl
          refine ⟨_, rfl, rfl, _, rfl, iteA (decide_eq_true rfl) ⟨_, rfl, wp, _, rfl, (Wat J.f).at_ (j := 0) rfl rfl, _, _, rfl, rfl, hpow, _, _, rfl, rfl, _, rfl, ite2 (fun c => ?_) (fun c => ?_)⟩⟩
          rotate_left
          · exact ⟨wl, pl, lastv, rfl, .inl ⟨by omega, J.mono (by omega) (by omega)⟩⟩
          have c : n < 10 ^ 29 := of_decide_eq_true c
          refine ⟨_, rfl, _, rfl, _, rfl, pl, xs, rfl, .inl (.inl hpl), fun l1 n1 => ?_⟩
          have t1 := same_lay (o := .lst (cutV xs none (some (at_ : Int)))) n1
          have z1 := cutV_length xs none (some (at_ : Int))
          have z2 := cutV_length xs (some (at_ : Int)) none
          have W := (Wat J.f).same t1
          refine ⟨_, rfl, wp, _, rfl, W.at_ (j := 1) rfl rfl, wf, _, 0, .str g0, rfl, rfl, .inl (.inl W.f), fat, ?_⟩
          refine ⟨(by show 2 ≤ sizeLine; decide), fun t0 nt0 => ?_⟩
          have t2 := same_lay (o := .tup [.int 0, .int 0]) nt0
          have W2 := W.same t2
          refine ⟨_, rfl, wp, _, rfl, W2.at_ (j := 0) rfl rfl, _, _, rfl, rfl, _, rfl, wp, _, rfl, W2.at_ (j := 0) rfl rfl, _, _, rfl, rfl, (by show 2 ≤ sizeLine; decide), fun t9 nt9 => ?_⟩
          have t29 := t2.trans (same_lay (o := .tup [.int (n + 1), .int (n + 3)]) nt9)
          refine ⟨(by show 2 ≤ sizeLine; decide), fun lr nlr => ?_⟩
          have t3 := t29.trans (same_lay (o := .lst [.ref t0, .ref t9]) nlr)
          refine ⟨(by show 3 ≤ sizeLine; decide), fun tt ntt => ?_⟩
          have t4 := t3.trans (same_lay (o := .tup (.str (kName 1) :: .str g0 :: .ref lr :: [])) ntt)
          refine ⟨by show 1 ≤ sizeLine; decide, fun l3 n3 => ?_⟩
          have t5 := same_lay (o := .lst [.ref tt]) n3
          have S := (t1.trans t4).trans t5
          have J6 := J.same S
          have h1 := (t4.trans t5) _ _ (upd_same (H := G2) (a := l1) (o := .lst (cutV xs none (some (at_ : Int)))))
          have P6 := hP.imp fun _ _ e => e.same S
          have e0 := t5 _ _ (same_lay (o := .tup (.str (kName 1) :: .str g0 :: .ref lr :: [])) ntt _ _ (same_lay (o := .lst [.ref t0, .ref t9]) nlr _ _ (same_lay (o := .tup [.int (n + 1), .int (n + 3)]) nt9 _ _ (upd_same (a := t0) (o := .tup [.int 0, .int 0])))))
          have e9 := t5 _ _ (same_lay (o := .tup (.str (kName 1) :: .str g0 :: .ref lr :: [])) ntt _ _ (same_lay (o := .lst [.ref t0, .ref t9]) nlr _ _ (upd_same (a := t9) (o := .tup [.int (n + 1), .int (n + 3)]))))
          have er := t5 _ _ (same_lay (o := .tup (.str (kName 1) :: .str g0 :: .ref lr :: [])) ntt _ _ (upd_same (a := lr) (o := .lst [.ref t0, .ref t9])))
          have et := t5 _ _ (upd_same (a := tt) (o := .tup (.str (kName 1) :: .str g0 :: .ref lr :: [])))
          have px := px_new (M := [(t0, ((0 : Int), (0 : Int))), (t9, (n + 1, n + 3))]) et er (fun z hz => by
              rcases List.mem_cons.mp hz with e | hz
              · rw [e]; exact e0
              · rw [List.mem_singleton.mp hz]; exact e9)
            ⟨by show 1 < 7; decide, wfs g0 mg0, (by show WF 1 g0 []; unfold WF; rfl), (fun r hr => by
              rcases List.mem_cons.mp hr with e | hr
              · rw [e]; show okRow ((0 : Int), (0 : Int)) = true; decide
              · rw [List.mem_singleton.mp hr]; exact okRow_of (by omega) (by show n + 1 ≤ n + 3; omega) (by show n + 3 ≤ lastP; omega)), List.pairwise_cons.mpr ⟨fun s hs => by rw [List.mem_singleton.mp hs]; show (0 : Int) < n + 1; omega, List.pairwise_singleton _ _⟩, by show 2 ≤ 6; decide⟩
          refine ⟨l1, l3, _, _, rfl, rfl, h1, upd_same, sz1 (by show _ + 1 ≤ _; omega), fun l4 n4 => ?_⟩
          have t6 := same_lay (o := .lst (cutV xs none (some (at_ : Int)) ++ [.ref tt])) n4
          have J7 := J6.same t6
          have z3 := cutV_length txs (some (at_ : Int)) none
          refine ⟨_, rfl, _, rfl, wp, _, rfl, (Wat J7.f).at_ (j := 7) rfl rfl, td, txs, rfl, .inl (.inl (.inl (tdat J7.f))), fun l7 n7 => ?_⟩
          have t7 := same_lay (o := .lst txs) n7
          refine ⟨_, rfl, _, rfl, l7, txs, rfl, .inl (.inl upd_same), fun l8 n8 => ?_⟩
          have t8 := t7.trans (same_lay (o := .lst (cutV txs (some (at_ : Int)) none)) n8)
          refine ⟨l4, l8, _, _, rfl, rfl, t8 _ _ upd_same, upd_same, sz1 (by rw [List.length_append, List.length_singleton]; omega), fun l9 n9 => ?_⟩
          have tF := t8.trans (same_lay (o := .lst ((cutV xs none (some (at_ : Int)) ++ [.ref tt]) ++ cutV txs (some (at_ : Int)) none)) n9)
          have J9 := J7.same tF
          have ra := ((((P6.cut none (some (at_ : Int))).append (.cons px .nil)).imp fun _ _ e => e.same t6).imp fun _ _ e => e.same tF).append ((tqs J9.f).cut (some (at_ : Int)) none)
          have hcl : (cutV xs none (some (at_ : Int))).length = at_ := by rw [(hP.cut none (some (at_ : Int))).length, cutL_head qs at_ (by rw [← hP.length]; exact hat)]
          exact ⟨wl, l9, lastv, rfl, .inl ⟨by omega, (J9.parts upd_same ra (by rw [List.length_append, List.length_append, List.length_singleton]; omega)).mono (Nat.le_refl _) (by omega)⟩⟩
        clear start
        rintro σ0 G2 start
        obtain ⟨wl, pl, lastv, rfl, ⟨lt, J⟩ | ⟨ge, J, le_at⟩⟩ := start
        · exact ⟨wl, pl, lastv, _, _, _, rfl, J⟩
        · exfalso; omega
      · rintro σ G ⟨wl, pl, lastv, s6, s7, s8, rfl, J⟩
        exact ⟨wl, pl, lastv, s6, s7, s8, rfl, J.mono (by omega) (by omega)⟩
    rintro σ G ⟨wl, pl, lastv, s6, s7, s8, rfl, J⟩
    obtain ⟨ws, hwl, hws, lws⟩ := id J.w
    obtain ⟨xs, qs, hpl, hP, hlx⟩ := id J.r
    have hl := J.l
    have goodq : ∀ m, some m ∈ qs → GoodP m := fun m hm => by
      obtain ⟨i, hi⟩ := List.getElem?_of_mem hm
      have hil := (List.getElem?_eq_some_iff.mp hi).1
      obtain ⟨b, hb, hx⟩ := hP.getL (List.getElem?_eq_getElem (show i < xs.length by rw [hP.length]; exact hil))
      rw [hi] at hb
      cases hb
      obtain ⟨t, _, _, g⟩ := hx
      exact g
    refine ⟨_, rfl, pl, rfl, ⟨_, .inl (.inl hpl)⟩, fun D hD => lc_list (K := K) (a := pl) (xs := xs) (fun i G' => ∃ (ys : List V) (os : List (Option CM)), G' D = some (.lst ys) ∧ ys.length = i ∧ All2 (CX CP C G') ys os ∧ All2 MadeO (qs.take i) os ∧ Same G G')
      ⟨[], [], upd_same, rfl, .nil, (by rw [List.take_zero]; exact .nil), same_lay hD⟩ (fun i G' _ ⟨_, _, _, _, _, _, s⟩ => .inl (.inl (s _ _ hpl))) ?_ ?_⟩
    · rintro i y G' hy ⟨ys, os, hd, hyl, hC, hM, s3⟩
      obtain ⟨q, hq, hPq⟩ := hP.getL hy
      have hil : i < xs.length := (List.getElem?_eq_some_iff.mp hy).1
      have big : ys.length < sizeLine := Nat.lt_of_le_of_lt (show ys.length ≤ 2000 by omega) (by decide)
      have push : ∀ (G2 : Hp) (v : V) (o : Option CM), Same G' G2 → CX CP C G2 v o → MadeO q o → ∃ acc, G2 D = some (.lst acc) ∧ acc.length < sizeLine ∧ ∃ (ys : List V) (os : List (Option CM)), (upd G2 D (.lst (acc ++ [v]))) D = some (.lst ys) ∧ ys.length = i + 1 ∧ All2 (CX CP C (upd G2 D (.lst (acc ++ [v])))) ys os ∧ All2 MadeO (qs.take (i + 1)) os ∧ Same G (upd G2 D (.lst (acc ++ [v]))) := by
        intro G2 v o s4 hv hm
        have hd2 := s4 _ _ hd
        have k := kp_lst (u := .lst (ys ++ [v])) hd2
        have kp : ∀ (x : V) (o : Option CM), CX CP C G2 x o → CX CP C (upd G2 D (.lst (ys ++ [v]))) x o := fun x o h => by
          cases o with
          | none => exact h
          | some m => exact CRep.kp h k
        refine ⟨ys, hd2, big, ys ++ [v], os ++ [o], upd_same, by rw [List.length_append, hyl]; rfl, (hC.imp fun x o h => kp x o (h.same s4)).append (.cons (kp v o hv) .nil), ?_, same_upd (s3.trans s4) hD⟩
        rw [take_at hq]
        exact hM.append (.cons hm .nil)
      refine ⟨rfl, yesT ?_⟩
      cases q with
      | none =>
        rcases pv_cases hPq with ⟨x, rfl, hx⟩ | ⟨j, rfl⟩ | rfl | ⟨bb, rfl⟩
        · exact ⟨_, rfl, _, .ty "tuple", _, _, false, rfl, .ty "tuple", .base (.str _), kit_ty (by decide +kernel), _, rfl, iteF ⟨_, rfl, push G' _ none (Same.refl _) hPq trivial⟩⟩
        · exact ⟨_, rfl, _, .ty "tuple", _, _, false, rfl, .ty "tuple", .base (.int _), kit_ty (by decide +kernel), _, rfl, iteF ⟨_, rfl, push G' _ none (Same.refl _) hPq trivial⟩⟩
        · exact ⟨_, rfl, _, .ty "tuple", _, _, false, rfl, .ty "tuple", .base .non, kit_ty (by decide +kernel), _, rfl, iteF ⟨_, rfl, push G' _ none (Same.refl _) hPq trivial⟩⟩
        · exact ⟨_, rfl, _, .ty "tuple", _, _, false, rfl, .ty "tuple", .base (.bl _), kit_ty (by decide +kernel), _, rfl, iteF ⟨_, rfl, push G' _ none (Same.refl _) hPq trivial⟩⟩
      | some m =>
        obtain ⟨t, rfl, hSp, hG⟩ := id hPq
        have hSp3 := hSp.same s3
        obtain ⟨ra, M, ht, _⟩ := id hSp3
        refine ⟨_, rfl, _, .ty "tuple", _, _, true, rfl, .ty "tuple", .base (.tup ht), kit_ty (by decide +kernel), _, rfl, iteT ?_⟩
        refine ⟨_, rfl, t, m, rfl, hSp3, hG, fun z l G2 nf me hCz s4 => ?_⟩
        exact push G2 (.ref z) (some (m.1, m.2.1, l, m.2.2.2)) s4 hCz ⟨hG, rfl, rfl, rfl, nf, me⟩
    rintro G2 ⟨ys, os, hd, hyl, hC, hM, s2⟩
    rw [hP.length, List.take_of_length_le (Nat.le_refl _)] at hM
    have J2 := J.same s2
    have hwl2 := s2 _ _ hwl
    have hpl2 := s2 _ _ hpl
    have hP2 := hP.imp fun _ _ e => e.same s2
    clear hP hwl hpl hD s2 J
    have m1g : GoodP (0, g0, [(0, 0)], []) := ⟨by show 0 < 7; decide, wfs g0 mg0, (by show WF 0 g0 []; unfold WF; rfl), (fun r hr => by rw [List.mem_singleton.mp hr]; show okRow ((0 : Int), (0 : Int)) = true; decide), List.pairwise_singleton _ _, by show 1 ≤ 6; decide⟩
    let S : Addr → L2.St := fun lo => [some (.ref sc), some (.ref p), some (.ref wp), some (.ref wl), some lastv, some (.ref pl), s6, s7, s8, some (.ref D), some (.ref lo), none]
    -- one clause
    refine ⟨fun σ G' => ∃ lo z l0, σ = S lo ∧ Same G2 G' ∧ G' lo = some (.lst [.ref z]) ∧ CRep CP C G' (.ref z) (0, g0, l0, []) ∧ Made1 (0, g0, [(0, 0)], []) (0, g0, l0, []), ?_, ?_⟩
    · have W := Wat J2.f
      refine ⟨_, rfl, wp, _, rfl, W.at_ (j := 1) rfl rfl, wf, _, 0, .str g0, rfl, rfl, .inl (.inl W.f), fat, ?_⟩
      refine ⟨(by show 2 ≤ sizeLine; decide), fun t0 nt0 => ?_⟩
      have t2 := same_lay (o := .tup [.int 0, .int 0]) nt0
      refine ⟨(by show 1 ≤ sizeLine; decide), fun lr nlr => ?_⟩
      have t3 := t2.trans (same_lay (o := .lst [.ref t0]) nlr)
      refine ⟨(by show 3 ≤ sizeLine; decide), fun tt ntt => ?_⟩
      have t4 := t3.trans (same_lay (o := .tup (.str (kName 0) :: .str g0 :: .ref lr :: [])) ntt)
      have e0 := same_lay (o := .tup (.str (kName 0) :: .str g0 :: .ref lr :: [])) ntt _ _ (same_lay (o := .lst [.ref t0]) nlr _ _ (upd_same (a := t0) (o := .tup [.int 0, .int 0])))
      have er := same_lay (o := .tup (.str (kName 0) :: .str g0 :: .ref lr :: [])) ntt _ _ (upd_same (a := lr) (o := .lst [.ref t0]))
      refine ⟨tt, (0, g0, [(0, 0)], []), rfl, ⟨lr, [(t0, ((0 : Int), (0 : Int)))], upd_same, er, (fun z hz => by rw [List.mem_singleton.mp hz]; exact e0), rfl⟩, m1g, fun z l0 G3 nf me hCz s4 => ?_⟩
      refine ⟨by show 1 ≤ sizeLine; decide, fun lo nlo => ?_⟩
      have t5 := same_lay (o := .lst [.ref z]) nlo
      exact ⟨lo, z, l0, rfl, (t4.trans s4).trans t5, upd_same, mon_CRep.up t5 hCz, ⟨rfl, rfl, rfl, nf, me⟩⟩
    rintro σ G3 ⟨lo, z, l0, rfl, s3, hlo, hz, hm⟩
    have fit1 : fitsErr (fs.map V.str) n (0, g0, l0, []) = none := by rw [fits_same m1g hm]; exact fits_one mg0 n0
    have many : ∀ k : Nat, rulesErr (fs.map V.str) (.int n) (List.replicate k [some ((0, g0, l0, []) : CM)]).flatten = if 60 < k then some (4, .int (k : Nat)) else none := fun k => by
      unfold rulesErr
      rw [funs_good good]
      show (if placeB n = true then (if 60 < ((List.replicate k [some ((0, g0, l0, []) : CM)]).flatten).length then some ((4 : Nat), V.int (((List.replicate k [some ((0, g0, l0, []) : CM)]).flatten).length : Nat)) else goParts (fs.map V.str) n 0 (List.replicate k [some ((0, g0, l0, []) : CM)]).flatten) else some (3, V.int n)) = _
      rw [if_pos pb, List.flatten_replicate_singleton, List.length_replicate, parts_good fit1]
    have J3 := J2.same s3
    have reps : ∀ {G : Hp} (k : Nat), Same G3 G → All2 (CX CP C G) (List.replicate k [V.ref z]).flatten (List.replicate k [some ((0, g0, l0, []) : CM)]).flatten := fun {G} k s => all2_rep (.cons (show CX CP C G (.ref z) (some (0, g0, l0, [])) from mon_CRep.up s hz) .nil) k
    clear fit1 m1g
    -- sixty
    refine ⟨fun σ G' => σ = S lo ∧ Same G3 G', ?_, ?_⟩
    · have W := Wat J3.f
      refine ⟨_, rfl, wp, _, rfl, W.at_ (j := 1) rfl rfl, _, rfl, wp, _, rfl, W.at_ (j := 0) rfl rfl, _, rfl, lo, [.ref z], 60, rfl, rfl, .inl (.inl hlo), by show 60 * 1 ≤ 20000; decide, by decide, fun l nl => ?_⟩
      have t1 := same_lay (o := .lst (List.replicate 60 [V.ref z]).flatten) nl
      refine ⟨wf, l, .int n, fs.map V.str, _, _, rfl, .inl (.inl (t1 _ _ W.f)), fpv, pv_int n, .inl (.inl upd_same), reps 60 t1, fun _ H' s => ?_, fun e he => ?_⟩
      · exact ⟨_, rfl, iteF ⟨rfl, t1.trans s⟩⟩
      · rw [many 60] at he
        exact absurd he (by rw [if_neg (by decide)]; exact fun z => nomatch z)
    rintro σ G4 ⟨rfl, s4⟩
    have J4 := J3.same s4
    -- sixty-one
    refine ⟨fun σ G' => σ = S lo ∧ Same G4 G', ?_, ?_⟩
    · have W := Wat J4.f
      refine ⟨_, rfl, wp, _, rfl, W.at_ (j := 1) rfl rfl, _, rfl, wp, _, rfl, W.at_ (j := 0) rfl rfl, _, rfl, lo, [.ref z], 61, rfl, rfl, .inl (.inl (s4 _ _ hlo)), by show 61 * 1 ≤ 20000; decide, by decide, fun l nl => ?_⟩
      have t1 := same_lay (o := .lst (List.replicate 61 [V.ref z]).flatten) nl
      refine ⟨wf, l, .int n, fs.map V.str, _, _, rfl, .inl (.inl (t1 _ _ W.f)), fpv, pv_int n, .inl (.inl upd_same), reps 61 (s4.trans t1), fun he => ?_, fun e he t H' ht s => ?_⟩
      · rw [many 61, if_pos (by decide)] at he
        exact absurd he (fun z => nomatch z)
      · rw [many 61, if_pos (by decide)] at he
        cases he
        refine ⟨by show 3 ≤ sizeLine; decide, fun t2 nt2 => ?_⟩
        have s5 := same_lay (o := .tup [.str "many", .int 61, .bl true]) nt2
        exact ne_told (s5 _ _ ht) upd_same (tag_sm (k := 4) (by decide)) (pv_int 61) ⟨_, rfl, iteF ⟨rfl, (t1.trans s).trans s5⟩⟩
    rintro σ G5 ⟨rfl, s5⟩
    -- the end
    have s25 := (s3.trans s4).trans s5
    have same := rules_same (fs := ws) (last := lastv) hM
    refine ⟨_, rfl, _, rfl, _, rfl, wl, D, lastv, ws, ys, os, rfl, .inl (.inl (s25 _ _ hwl2)), hws, hl, .inl (.inl (s25 _ _ hd)), hC.imp (fun _ _ e => e.same s25), fun he H' s => ?_, fun e he t H' ht s => ?_⟩
    · rw [same] at he
      have s26 := s25.trans s
      refine ⟨_, rfl, _, rfl, _, rfl, wl, pl, lastv, ws, xs, qs, rfl, .inl (.inl (s26 _ _ hwl2)), hws, hl, .inl (.inl (s26 _ _ hpl2)), hP2.imp (fun _ _ e => e.same s26), fun _ H2 _ => eq_non (q _), fun e2 he2 => ?_⟩
      rw [he] at he2
      cases he2
    · rw [same] at he
      have s26 := s25.trans s
      refine ⟨_, rfl, _, rfl, _, rfl, wl, pl, lastv, ws, xs, qs, rfl, .inl (.inl (s26 _ _ hwl2)), hws, hl, .inl (.inl (s26 _ _ hpl2)), hP2.imp (fun _ _ e => e.same s26), fun he2 => ?_, fun e2 he2 t2 H2 ht2 s2 => ?_⟩
      · rw [he] at he2
        cases he2
      · rw [he] at he2
        cases he2
        exact eq_told (s2 _ _ ht) ht2 (tag_sm (efl_lt he)) (err_pv hws hl goodq he) (q _)
end
end OR

namespace OR
open PySem PySem.Spec PyProof.Rows L2
/-! ### what the top has left -/
/-- an __init__ whose last parameter may be left out: then it is the empty tuple at t0 -/
structure MtD (K : PySem.W.Frag) (C : Addr) (m qual : Str) (st : Stmt) : Prop where
  ex : ∃ f fd t0, FunD K m qual (defArgs st) (defBody st) (defScope st) [.ref t0] [] f fd ∧ PySem.W.findIn K (.ref C) m = some (some (.ref f)) ∧ PySem.W.isFn K (.ref f) = true ∧ ∀ H : Hp, SqT K H t0 []
theorem mtD {K : PySem.W.Frag} {h : Heap} {C : Addr} {m qual : Str} {st : Stmt} {f T t0 : Addr} {oc cT : Value} {od an dT d0 : Option Addr} {osl sT s0 : Array (Option Value)} {kV doc pm cdv ct : Value} {nT n0 : Nat} (_X : K.In h)
    (a : PySem.W.findIn K (.ref C) m = some (some (.ref f))) (l : K.lookup f = some ⟨oc, od, .func (PySem.W.fnOf m qual (defArgs st) (defBody st) (defScope st) (.ref T) kV doc pm an cdv ct), osl⟩)
    (lT : K.lookup T = some ⟨cT, dT, .seq #[.ref t0] nT, sT⟩) (l0 : K.lookup t0 = some ⟨.type "tuple", d0, .seq #[] n0, s0⟩)
    (c : PySem.W.codeIn K cdv qual = true) (k : PySem.W.keepIn K (.ref f) = true) (i : PySem.W.isFn K (.ref f) = true) : MtD K C m qual st :=
  ⟨f, _, t0, ⟨⟨oc, od, .ref T, kV, doc, pm, an, cdv, ct, osl, rfl, l, c, .inr ⟨by simp, T, _, [.ref t0], nT, rfl, lT, rfl, .cons rfl .nil⟩, .inl rfl⟩, k⟩, a, i, fun H => .inr ⟨_, #[], n0, l0, rfl, rfl, Nat.zero_le _, .nil⟩⟩
structure PAt (K : PySem.W.Frag) (C : Addr) : Prop where
  aC : PySem.W.nsIn K mainGlobals "Places" = some (some (.ref C))
  pg : PySem.W.plainGet K C Str.empty = true
  hd : PySem.W.hasDictIn K C = true
  po : PySem.W.plainOver K C = true
  sa : PySem.W.findIn K (.ref C) "__setattr__" = some (some (.builtin "object.__setattr__"))
  mks : PySem.W.makesIn K C = true
  kc : PySem.W.keepIn K (.ref C) = true
  nS : PySem.W.findIn K (.ref C) "stretches" = some none
  nF : PySem.W.findIn K (.ref C) "_firsts" = some none
  nB : PySem.W.findIn K (.ref C) "_before" = some none
  ca : PySem.W.findIn K (.ref C) "__class__" = some (some (.builtin "object.__class__"))
  cn : PySem.W.specialIn K (.builtin "object.__class__") "__get__" = some (some (.builtin "getset_descriptor.__get__"))
  ct : PySem.W.takesIn K (.builtin "object.__class__") = some true
  cm : PySem.W.mroIn K C (.type "object") = some true
  ne : PySem.W.findIn K (.ref C) "__ne__" = some (some (.builtin "object.__ne__"))
  sT : PySem.W.subIn K (.type "tuple") (.ref C) = some false
  sL : PySem.W.subIn K (.type "list") (.ref C) = some false
  kPP : PySem.W.kitOne K (.ref C) (.ref C) = some true
  kT : PySem.W.kitOne K (.type "tuple") (.ref C) = some false
  kL : PySem.W.kitOne K (.type "list") (.ref C) = some false
  sf : PySem.W.selfFirst K C = true
structure ZAt (K : PySem.W.Frag) : Prop where
  isi : PySem.W.nsIn K mainGlobals "isinstance" = some none
  int : PySem.W.nsIn K mainGlobals "int" = some none
  bool : PySem.W.nsIn K mainGlobals "bool" = some none
  tup : PySem.W.nsIn K mainGlobals "tuple" = some none
  list : PySem.W.nsIn K mainGlobals "list" = some none
  len : PySem.W.nsIn K mainGlobals "len" = some none
  max : PySem.W.nsIn K mainGlobals "max" = some none
  min : PySem.W.nsIn K mainGlobals "min" = some none
  sorted : PySem.W.nsIn K mainGlobals "sorted" = some none
  enum : PySem.W.nsIn K mainGlobals "enumerate" = some none
  range : PySem.W.nsIn K mainGlobals "range" = some none
  set : PySem.W.nsIn K mainGlobals "set" = some none
  abs : PySem.W.nsIn K mainGlobals "abs" = some none
theorem lastP_lit : lastP = 1000000000000000000000000000000 := by decide
theorem lp_of {p : Program} {lv : List (Str × PySem.W.WData)} {mg : Str → Option Value} {h : Heap} (X : PySem.W.XL p lv mg h) (hm : (("LAST_PLACE" : Str), PySem.W.WData.int 1000000000000000000000000000000) ∈ lv) : ∃ t, mg "LAST_PLACE" = some (.int lastP t) := by
  obtain ⟨v, hv, hr⟩ := X.2.val _ hm
  cases hr with
  | int i t => exact ⟨t, by rw [lastP_lit]; exact hv⟩
/-- walk_of, told besides what the top's loose names read -/
theorem walk_ofX {l : PySem.W.OpenLaw} {n k : Nat} {q : Program} {loose : List Str} {XP : (Str → Option Value) → Heap → Prop} {YP : World → Heap → Prop} {d : DefRec} {K : Params → PySem.W.Frag} {CX : World → CXT} {sp : World → Sp} {x : Str}
    (hn : l.most = some n) (hn2 : n ≤ sizeLine) (hdf : d.params.defaults = []) (hr : Room k callerA) (hY : ∀ (w : World) (h : Heap), YP w h → (K w.params).In h)
    (F : ∀ (w : World) (mg : Str → Option Value) (fa : Addr) (h : Heap), (K w.params).In h → h.Ns mainGlobals mg → XP mg h → mg d.name = some (.ref fa) →
      ∃ fd : FuncData, (∀ (s : Shared) (u : Value), BindsTo s fd ⟨[u], []⟩ [(x, u)]) ∧ ∀ base : Heap, (K w.params).In base → base.Ns mainGlobals mg → FnOk l.prog w (K w.params) mg base (CX w) k fa fd [x] (sp w))
    (hsp : ∀ (w : World) (H : Hp) (a : Addr) (ns : List Int), ns.length ≤ n → Only H → SqL (K w.params) H a (ns.map V.int) → sp w [.ref a] H (fun v _ => v = .bl true) fun _ _ _ => False)
    (hCX : ∀ (w : World) (H : Hp) (s : Shared) (e : Value) (s' : Shared), CX w [] H s (fun _ _ _ => False) e s' → False) : PySem.W.WalkO q loose XP YP l.row.toRowW d [] (fun f vs => PySem.call f vs) := by
  refine Att.attach_call hn hdf fun w s₀ s₁ mg mb fa o pm cd doc a vs ns G Y ho hd hcd hmg hobj hints hlen hg => ?_
  have KX := hY w _ Y
  obtain ⟨fd, hb, hF⟩ := F w mg fa _ KX G.T.g G.X hmg
  exact law_call KX G.T.g G.T.b G.T.builtins G.T.nolimit hg hobj hints (Nat.le_trans hlen hn2) hr hF hb (fun H hO hS => hsp w H a ns hlen hO hS) fun H e s' => hCX w H s₁ e s'
theorem PAt.txt {K : PySem.W.Frag} {C : Addr} {h : Heap} {mg : Str → Option Value} (L : PAt K C) (X : K.In h) (G : h.Ns mainGlobals mg) (Z : ZAt K) (lp : ∃ t, mg "LAST_PLACE" = some (.int lastP t)) : PTxt K mg C :=
  ⟨⟨L.pg, L.hd, L.po, L.sa⟩, L.nS, L.nF, L.nB, PySem.W.mg_of X G L.aC, ⟨L.ca, L.cn, L.ct, L.cm⟩, L.kPP, PySem.W.mg_none_of X G Z.isi, PySem.W.mg_none_of X G Z.int, PySem.W.mg_none_of X G Z.bool, PySem.W.mg_none_of X G Z.tup, PySem.W.mg_none_of X G Z.list,
    PySem.W.mg_none_of X G Z.len, PySem.W.mg_none_of X G Z.max, PySem.W.mg_none_of X G Z.sorted, PySem.W.mg_none_of X G Z.enum, lp⟩
theorem pmk_of {P : Program} {w : World} {K : PySem.W.Frag} {mg : Str → Option Value} {base : Heap} {C : Addr} (T : PTxt K mg C) (L : PAt K C) (mI : MtD K C "__init__" "Places.__init__" sPlInit)
    (S : Cl P w K mg base 3 "_is_stretch" ["value"] spIsStretchP) (J : Cl P w K mg base 1 "_joined" ["stretches"] (spJoined K)) (B : Cl P w K mg base 1 "_counts_before" ["stretches"] (spCounts K)) : PMk' P w K mg base C := by
  obtain ⟨f, fd, t0, F, a, i, ht⟩ := mI.ex
  obtain ⟨ds, r1, b1⟩ := F.binds1 (ps := ["self", "stretches"]) 2 1 (by simp) rfl fun T kV doc pm an cdv ct us its hu hi => match us, its, hu, hi with | [u, v], [x], _, _ => ⟨_, rfl, rfl⟩
  obtain ⟨es, r2, b2⟩ := F.binds1 (ps := ["self", "stretches"]) 1 0 (by simp) rfl fun T kV doc pm an cdv ct us its hu hi => match us, its, hu, hi with | [u], [x], _, _ => ⟨_, rfl, rfl⟩
  cases r1
  obtain ⟨u, rfl, ru⟩ := r2.one
  cases (show u = Value.ref t0 from ru)
  exact ⟨T, f, fd, t0, ⟨L.mks, a, i, L.kc⟩, ok_plinit F T S J B, b1, b2, ht⟩
end OR

namespace OR
open PySem PySem.Spec PyProof.Rows L2
/-- a class of clauses behind the top -/
structure CAt (K : PySem.W.Frag) (C : Addr) (nm : Str) (ns : List Str) : Prop where
  aC : PySem.W.nsIn K mainGlobals nm = some (some (.ref C))
  pg : PySem.W.plainGet K C Str.empty = true
  hd : PySem.W.hasDictIn K C = true
  po : PySem.W.plainOver K C = true
  sa : PySem.W.findIn K (.ref C) "__setattr__" = some (some (.builtin "object.__setattr__"))
  mks : PySem.W.makesIn K C = true
  kc : PySem.W.keepIn K (.ref C) = true
  no : ∀ n ∈ ns, PySem.W.findIn K (.ref C) n = some none
  sf : PySem.W.selfFirst K C = true
  ca : PySem.W.findIn K (.ref C) "__class__" = some (some (.builtin "object.__class__"))
  cn : PySem.W.specialIn K (.builtin "object.__class__") "__get__" = some (some (.builtin "getset_descriptor.__get__"))
  ct : PySem.W.takesIn K (.builtin "object.__class__") = some true
  cm : PySem.W.mroIn K C (.type "object") = some true
  ne : PySem.W.findIn K (.ref C) "__ne__" = some (some (.builtin "object.__ne__"))
  kS : PySem.W.kitOne K (.type "str") (.ref C) = some false
  kT : PySem.W.kitOne K (.type "tuple") (.ref C) = some false
  nS : PySem.W.subIn K (.type "str") (.ref C) = some false
  nT : PySem.W.subIn K (.type "tuple") (.ref C) = some false
theorem fa0 {α : Type} {p : α → Prop} : ∀ x ∈ ([] : List α), p x := fun x h => by cases h
theorem fa1 {α : Type} {p : α → Prop} {a : α} {l : List α} (h : p a) (t : ∀ x ∈ l, p x) : ∀ x ∈ a :: l, p x := fun x hx => by
  rcases List.mem_cons.mp hx with e | e
  · subst e; exact h
  · exact t x e
def cf (c0 c1 c2 c3 c4 c5 c6 : Addr) : Nat → Addr
  | 0 => c0
  | 1 => c1
  | 2 => c2
  | 3 => c3
  | 4 => c4
  | 5 => c5
  | _ => c6
theorem all7 {p : Nat → Prop} (h0 : p 0) (h1 : p 1) (h2 : p 2) (h3 : p 3) (h4 : p 4) (h5 : p 5) (h6 : p 6) : ∀ i, i < 7 → p i := fun i h => by
  rcases kinds7' h with e | e | e | e | e | e | e <;> subst e <;> assumption
/-- which class is which -/
structure K7 (K : PySem.W.Frag) (c0 c1 c2 c3 c4 c5 c6 : Addr) : Prop where
  q00 : PySem.W.kitOne K (.ref c0) (.ref c0) = some true
  q01 : PySem.W.kitOne K (.ref c0) (.ref c1) = some false
  q02 : PySem.W.kitOne K (.ref c0) (.ref c2) = some false
  q03 : PySem.W.kitOne K (.ref c0) (.ref c3) = some false
  q04 : PySem.W.kitOne K (.ref c0) (.ref c4) = some false
  q05 : PySem.W.kitOne K (.ref c0) (.ref c5) = some false
  q06 : PySem.W.kitOne K (.ref c0) (.ref c6) = some false
  q10 : PySem.W.kitOne K (.ref c1) (.ref c0) = some false
  q11 : PySem.W.kitOne K (.ref c1) (.ref c1) = some true
  q12 : PySem.W.kitOne K (.ref c1) (.ref c2) = some false
  q13 : PySem.W.kitOne K (.ref c1) (.ref c3) = some false
  q14 : PySem.W.kitOne K (.ref c1) (.ref c4) = some false
  q15 : PySem.W.kitOne K (.ref c1) (.ref c5) = some false
  q16 : PySem.W.kitOne K (.ref c1) (.ref c6) = some false
  q20 : PySem.W.kitOne K (.ref c2) (.ref c0) = some false
  q21 : PySem.W.kitOne K (.ref c2) (.ref c1) = some false
  q22 : PySem.W.kitOne K (.ref c2) (.ref c2) = some true
  q23 : PySem.W.kitOne K (.ref c2) (.ref c3) = some false
  q24 : PySem.W.kitOne K (.ref c2) (.ref c4) = some false
  q25 : PySem.W.kitOne K (.ref c2) (.ref c5) = some false
  q26 : PySem.W.kitOne K (.ref c2) (.ref c6) = some false
  q30 : PySem.W.kitOne K (.ref c3) (.ref c0) = some false
  q31 : PySem.W.kitOne K (.ref c3) (.ref c1) = some false
  q32 : PySem.W.kitOne K (.ref c3) (.ref c2) = some false
  q33 : PySem.W.kitOne K (.ref c3) (.ref c3) = some true
  q34 : PySem.W.kitOne K (.ref c3) (.ref c4) = some false
  q35 : PySem.W.kitOne K (.ref c3) (.ref c5) = some false
  q36 : PySem.W.kitOne K (.ref c3) (.ref c6) = some false
  q40 : PySem.W.kitOne K (.ref c4) (.ref c0) = some false
  q41 : PySem.W.kitOne K (.ref c4) (.ref c1) = some false
  q42 : PySem.W.kitOne K (.ref c4) (.ref c2) = some false
  q43 : PySem.W.kitOne K (.ref c4) (.ref c3) = some false
  q44 : PySem.W.kitOne K (.ref c4) (.ref c4) = some true
  q45 : PySem.W.kitOne K (.ref c4) (.ref c5) = some false
  q46 : PySem.W.kitOne K (.ref c4) (.ref c6) = some false
  q50 : PySem.W.kitOne K (.ref c5) (.ref c0) = some false
  q51 : PySem.W.kitOne K (.ref c5) (.ref c1) = some false
  q52 : PySem.W.kitOne K (.ref c5) (.ref c2) = some false
  q53 : PySem.W.kitOne K (.ref c5) (.ref c3) = some false
  q54 : PySem.W.kitOne K (.ref c5) (.ref c4) = some false
  q55 : PySem.W.kitOne K (.ref c5) (.ref c5) = some true
  q56 : PySem.W.kitOne K (.ref c5) (.ref c6) = some false
  q60 : PySem.W.kitOne K (.ref c6) (.ref c0) = some false
  q61 : PySem.W.kitOne K (.ref c6) (.ref c1) = some false
  q62 : PySem.W.kitOne K (.ref c6) (.ref c2) = some false
  q63 : PySem.W.kitOne K (.ref c6) (.ref c3) = some false
  q64 : PySem.W.kitOne K (.ref c6) (.ref c4) = some false
  q65 : PySem.W.kitOne K (.ref c6) (.ref c5) = some false
  q66 : PySem.W.kitOne K (.ref c6) (.ref c6) = some true
  s01 : PySem.W.subIn K (.ref c0) (.ref c1) = some false
  s02 : PySem.W.subIn K (.ref c0) (.ref c2) = some false
  s03 : PySem.W.subIn K (.ref c0) (.ref c3) = some false
  s04 : PySem.W.subIn K (.ref c0) (.ref c4) = some false
  s05 : PySem.W.subIn K (.ref c0) (.ref c5) = some false
  s06 : PySem.W.subIn K (.ref c0) (.ref c6) = some false
  s10 : PySem.W.subIn K (.ref c1) (.ref c0) = some false
  s12 : PySem.W.subIn K (.ref c1) (.ref c2) = some false
  s13 : PySem.W.subIn K (.ref c1) (.ref c3) = some false
  s14 : PySem.W.subIn K (.ref c1) (.ref c4) = some false
  s15 : PySem.W.subIn K (.ref c1) (.ref c5) = some false
  s16 : PySem.W.subIn K (.ref c1) (.ref c6) = some false
  s20 : PySem.W.subIn K (.ref c2) (.ref c0) = some false
  s21 : PySem.W.subIn K (.ref c2) (.ref c1) = some false
  s23 : PySem.W.subIn K (.ref c2) (.ref c3) = some false
  s24 : PySem.W.subIn K (.ref c2) (.ref c4) = some false
  s25 : PySem.W.subIn K (.ref c2) (.ref c5) = some false
  s26 : PySem.W.subIn K (.ref c2) (.ref c6) = some false
  s30 : PySem.W.subIn K (.ref c3) (.ref c0) = some false
  s31 : PySem.W.subIn K (.ref c3) (.ref c1) = some false
  s32 : PySem.W.subIn K (.ref c3) (.ref c2) = some false
  s34 : PySem.W.subIn K (.ref c3) (.ref c4) = some false
  s35 : PySem.W.subIn K (.ref c3) (.ref c5) = some false
  s36 : PySem.W.subIn K (.ref c3) (.ref c6) = some false
  s40 : PySem.W.subIn K (.ref c4) (.ref c0) = some false
  s41 : PySem.W.subIn K (.ref c4) (.ref c1) = some false
  s42 : PySem.W.subIn K (.ref c4) (.ref c2) = some false
  s43 : PySem.W.subIn K (.ref c4) (.ref c3) = some false
  s45 : PySem.W.subIn K (.ref c4) (.ref c5) = some false
  s46 : PySem.W.subIn K (.ref c4) (.ref c6) = some false
  s50 : PySem.W.subIn K (.ref c5) (.ref c0) = some false
  s51 : PySem.W.subIn K (.ref c5) (.ref c1) = some false
  s52 : PySem.W.subIn K (.ref c5) (.ref c2) = some false
  s53 : PySem.W.subIn K (.ref c5) (.ref c3) = some false
  s54 : PySem.W.subIn K (.ref c5) (.ref c4) = some false
  s56 : PySem.W.subIn K (.ref c5) (.ref c6) = some false
  s60 : PySem.W.subIn K (.ref c6) (.ref c0) = some false
  s61 : PySem.W.subIn K (.ref c6) (.ref c1) = some false
  s62 : PySem.W.subIn K (.ref c6) (.ref c2) = some false
  s63 : PySem.W.subIn K (.ref c6) (.ref c3) = some false
  s64 : PySem.W.subIn K (.ref c6) (.ref c4) = some false
  s65 : PySem.W.subIn K (.ref c6) (.ref c5) = some false

theorem K7.kk {K : PySem.W.Frag} {c0 c1 c2 c3 c4 c5 c6 : Addr} (k : K7 K c0 c1 c2 c3 c4 c5 c6) : ∀ i, i < 7 → ∀ j, j < 7 → PySem.W.kitOne K (.ref (cf c0 c1 c2 c3 c4 c5 c6 i)) (.ref (cf c0 c1 c2 c3 c4 c5 c6 j)) = some (decide (i = j)) :=
  all7 (all7 k.q00 k.q01 k.q02 k.q03 k.q04 k.q05 k.q06) (all7 k.q10 k.q11 k.q12 k.q13 k.q14 k.q15 k.q16) (all7 k.q20 k.q21 k.q22 k.q23 k.q24 k.q25 k.q26) (all7 k.q30 k.q31 k.q32 k.q33 k.q34 k.q35 k.q36) (all7 k.q40 k.q41 k.q42 k.q43 k.q44 k.q45 k.q46) (all7 k.q50 k.q51 k.q52 k.q53 k.q54 k.q55 k.q56) (all7 k.q60 k.q61 k.q62 k.q63 k.q64 k.q65 k.q66)
theorem nf_of {K : PySem.W.Frag} {C : Addr} {v : Value} (h : PySem.W.subIn K v (.ref C) = some false) : PySem.W.notFirst K C v = true := by simp [PySem.W.notFirst, h]
theorem K7.cc {K : PySem.W.Frag} {c0 c1 c2 c3 c4 c5 c6 : Addr} (k : K7 K c0 c1 c2 c3 c4 c5 c6) : ∀ i, i < 7 → ∀ j, j < 7 → PySem.W.notFirst K (cf c0 c1 c2 c3 c4 c5 c6 i) (.ref (cf c0 c1 c2 c3 c4 c5 c6 j)) = true :=
  all7 (all7 nf_self (nf_of k.s10) (nf_of k.s20) (nf_of k.s30) (nf_of k.s40) (nf_of k.s50) (nf_of k.s60)) (all7 (nf_of k.s01) nf_self (nf_of k.s21) (nf_of k.s31) (nf_of k.s41) (nf_of k.s51) (nf_of k.s61)) (all7 (nf_of k.s02) (nf_of k.s12) nf_self (nf_of k.s32) (nf_of k.s42) (nf_of k.s52) (nf_of k.s62)) (all7 (nf_of k.s03) (nf_of k.s13) (nf_of k.s23) nf_self (nf_of k.s43) (nf_of k.s53) (nf_of k.s63)) (all7 (nf_of k.s04) (nf_of k.s14) (nf_of k.s24) (nf_of k.s34) nf_self (nf_of k.s54) (nf_of k.s64)) (all7 (nf_of k.s05) (nf_of k.s15) (nf_of k.s25) (nf_of k.s35) (nf_of k.s45) nf_self (nf_of k.s65)) (all7 (nf_of k.s06) (nf_of k.s16) (nf_of k.s26) (nf_of k.s36) (nf_of k.s46) (nf_of k.s56) nf_self)
/-- the class Rules behind the top -/
structure RAt (K : PySem.W.Frag) (C : Addr) : Prop where
  aC : PySem.W.nsIn K mainGlobals "Rules" = some (some (.ref C))
  pg : PySem.W.plainGet K C Str.empty = true
  hd : PySem.W.hasDictIn K C = true
  po : PySem.W.plainOver K C = true
  sa : PySem.W.findIn K (.ref C) "__setattr__" = some (some (.builtin "object.__setattr__"))
  mks : PySem.W.makesIn K C = true
  kc : PySem.W.keepIn K (.ref C) = true
  nF : PySem.W.findIn K (.ref C) "functions" = some none
  nL : PySem.W.findIn K (.ref C) "last" = some none
  nT : PySem.W.findIn K (.ref C) "told" = some none
  ca : PySem.W.findIn K (.ref C) "__class__" = some (some (.builtin "object.__class__"))
  cn : PySem.W.specialIn K (.builtin "object.__class__") "__get__" = some (some (.builtin "getset_descriptor.__get__"))
  ct : PySem.W.takesIn K (.builtin "object.__class__") = some true
  cm : PySem.W.mroIn K C (.type "object") = some true
  ne : PySem.W.findIn K (.ref C) "__ne__" = some (some (.builtin "object.__ne__"))
  kRR : PySem.W.kitOne K (.ref C) (.ref C) = some true
  kTup : PySem.W.kitOne K (.type "tuple") (.ref C) = some false
  kInt : PySem.W.kitOne K (.type "int") (.ref C) = some false
  nTup : PySem.W.subIn K (.type "tuple") (.ref C) = some false
  nInt : PySem.W.subIn K (.type "int") (.ref C) = some false
theorem RAt.txt {K : PySem.W.Frag} {C : Addr} {h : Heap} {mg : Str → Option Value} (L : RAt K C) (X : K.In h) (G : h.Ns mainGlobals mg) (few : ∃ t, PySem.W.nsIn K mainGlobals "MOST_FUNCTIONS" = some (some (.int 3 t))) (most : ∃ t, PySem.W.nsIn K mainGlobals "_MOST_CLAUSES" = some (some (.int 60 t))) : RTxt K mg C :=
  ⟨⟨L.pg, L.hd, L.po, L.sa⟩, L.nF, L.nL, L.nT, PySem.W.mg_of X G L.aC, ⟨L.ca, L.cn, L.ct, L.cm⟩, L.kRR, few.imp fun t e => PySem.W.mg_of X G e, most.imp fun t e => PySem.W.mg_of X G e⟩
/-- a tuple of texts at the top -/
structure TpAt (K : PySem.W.Frag) (nm : Str) (xs : List Str) : Prop where
  ex : ∃ ts, PySem.W.nsIn K mainGlobals nm = some (some (.ref ts)) ∧ ∀ H : Hp, SqT K H ts (xs.map V.str)
theorem tp3 {K : PySem.W.Frag} {h : Heap} {nm x y z : Str} {f : Addr} {tx ty tz : Nat} {d : Option Addr} {n : Nat} {s : Array (Option Value)} (_X : K.In h) (a : PySem.W.nsIn K mainGlobals nm = some (some (.ref f))) (l : K.lookup f = some ⟨.type "tuple", d, .seq #[.str x tx, .str y ty, .str z tz] n, s⟩) : TpAt K nm [x, y, z] :=
  ⟨f, a, fun H => .inr ⟨_, _, n, l, rfl, rfl, (by show 3 ≤ sizeLine; decide), .cons ⟨_, rfl⟩ (.cons ⟨_, rfl⟩ (.cons ⟨_, rfl⟩ .nil))⟩⟩
theorem tp2 {K : PySem.W.Frag} {h : Heap} {nm x y : Str} {f : Addr} {tx ty : Nat} {d : Option Addr} {n : Nat} {s : Array (Option Value)} (_X : K.In h) (a : PySem.W.nsIn K mainGlobals nm = some (some (.ref f))) (l : K.lookup f = some ⟨.type "tuple", d, .seq #[.str x tx, .str y ty] n, s⟩) : TpAt K nm [x, y] :=
  ⟨f, a, fun H => .inr ⟨_, _, n, l, rfl, rfl, (by show 2 ≤ sizeLine; decide), .cons ⟨_, rfl⟩ (.cons ⟨_, rfl⟩ .nil)⟩⟩
/-- an own error with one field, behind the top -/
structure ErAt (K : PySem.W.Frag) (x q fl : Str) (st : Stmt) (CB CR : Addr) : Prop where
  aB : PySem.W.nsIn K mainGlobals x = some (some (.ref CB))
  aR : PySem.W.nsIn K mainGlobals "RangesError" = some (some (.ref CR))
  cls : ∃ nm q N bs bm sn sub ab col dd k0 k1 k2 k3 k5, K.lookup CB = some (excClassObj nm q CB N bs bm true sn sub ab col dd k0 k1 k2 k3 k5 "ValueError.__new__") ∧ PySem.HandSPX.refsVE bm = true
  sa : PySem.W.findIn K (.ref CB) "__setattr__" = some (some (.builtin "object.__setattr__"))
  ga : PySem.W.findIn K (.ref CB) "__getattribute__" = some (some (.builtin "BaseException.__getattribute__"))
  gg : PySem.W.findIn K (.ref CB) "__getattr__" = some none
  noF : PySem.W.findIn K (.ref CB) fl = some none
  kC : PySem.W.keepIn K (.ref CB) = true
  exC : PySem.W.subIn K (.ref CB) (.type "BaseException") = some true
  tyC : PySem.W.typeIn K (.ref CB) = some (.type "type")
  hdC : PySem.W.hasDictIn K CB = true
  ca : PySem.W.findIn K (.ref CB) "__class__" = some (some (.builtin "object.__class__"))
  cn : PySem.W.specialIn K (.builtin "object.__class__") "__get__" = some (some (.builtin "getset_descriptor.__get__"))
  ct : PySem.W.takesIn K (.builtin "object.__class__") = some true
  cm : PySem.W.mroIn K CB (.type "object") = some true
  sub : PySem.W.subIn K (.ref CB) (.ref CB) = some true
  kR : PySem.W.kitOne K (.ref CB) (.ref CR) = some true
  kV : PySem.W.kitOne K (.ref CB) (.type "ValueError") = some true
  init : ∃ f fd, Fun K "__init__" q st f fd ∧ PySem.W.findIn K (.ref CB) "__init__" = some (some (.ref f)) ∧ PySem.W.typeIn K (.ref f) = some (.type "function")
theorem erCls {K : PySem.W.Frag} {h : Heap} {CB : Addr} {nm q : Str} {N : Addr} {bs bm : List Value} {sn : List Str} {sub : List Value} {ab : Bool} {col : Option Bool} {dd : Option Addr} {m0 m1 m2 m3 m5 : Option Value} (_X : K.In h)
    (l : K.lookup CB = some (excClassObj nm q CB N bs bm true sn sub ab col dd m0 m1 m2 m3 m5 "ValueError.__new__")) (b : PySem.HandSPX.refsVE bm = true) :
    ∃ nm q N bs bm sn sub ab col dd k0 k1 k2 k3 k5, K.lookup CB = some (excClassObj nm q CB N bs bm true sn sub ab col dd k0 k1 k2 k3 k5 "ValueError.__new__") ∧ PySem.HandSPX.refsVE bm = true := ⟨nm, q, N, bs, bm, sn, sub, ab, col, dd, m0, m1, m2, m3, m5, l, b⟩
theorem erInit {K : PySem.W.Frag} {h : Heap} {CB f : Addr} {q : Str} {st : Stmt} {oc : Value} {od an : Option Addr} {osl : Array (Option Value)} {kV doc pm cdv ct : Value} (_X : K.In h) (a : PySem.W.findIn K (.ref CB) "__init__" = some (some (.ref f)))
    (l : K.lookup f = some ⟨oc, od, .func (PySem.W.fnOf "__init__" q (defArgs st) (defBody st) (defScope st) .none kV doc pm an cdv ct), osl⟩) (c : PySem.W.codeIn K cdv q = true) (k : PySem.W.keepIn K (.ref f) = true) (t : PySem.W.typeIn K (.ref f) = some (.type "function")) :
    ∃ f fd, Fun K "__init__" q st f fd ∧ PySem.W.findIn K (.ref CB) "__init__" = some (some (.ref f)) ∧ PySem.W.typeIn K (.ref f) = some (.type "function") := ⟨f, _, fun_mk l c k, a, t⟩
theorem er_of {P : Program} {w : World} {K : PySem.W.Frag} {mg : Str → Option Value} {base h : Heap} {x q fl : Str} {st : Stmt} {CB CR : Addr} (X : K.In h) (G : h.Ns mainGlobals mg) (e : ErAt K x q fl st CB CR) (zV : mg "ValueError" = none)
    (hb : ∀ (kV doc pm : Value) (an : Option Addr) (cdv ct : Value) (us : List Value), us.length = (["self", fl] : List Str).length → bindArgs (PySem.W.fnOf "__init__" q (defArgs st) (defBody st) (defScope st) .none kV doc pm an cdv ct) ⟨us, []⟩ = pure ((["self", fl] : List Str).zip us))
    (ok : ∀ f fd, Fun K "__init__" q st f fd → ErT K mg x fl CB CR f → FnOk P w K mg base CX0 1 f fd ["self", fl] (spErI CB fl)) : ErK P w K mg base x fl CB CR := by
  obtain ⟨f, fd, F, i, t⟩ := e.init
  have T : ErT K mg x fl CB CR f := ⟨PySem.W.mg_of X G e.aB, PySem.W.mg_of X G e.aR, zV, ⟨e.cls, e.sa, e.exC, e.tyC, e.kC⟩, ⟨e.ga, e.gg, e.exC, e.hdC⟩, ⟨e.ga, e.gg, e.exC, e.hdC, e.ca, e.cn, e.ct, e.cm⟩, e.noF, i, t, PySem.W.exm_ref e.exC e.hdC e.tyC e.sub, e.kR, e.kV⟩
  exact ⟨f, fd, T, ok f fd F T, F.binds hb⟩
theorem clX_of {P : Program} {w : World} {K : PySem.W.Frag} {mg : Str → Option Value} {base h : Heap} {x : Str} {st : Stmt} {k : Nat} {ps : List Str} {sp : Sp} (a : FnAt K x st) (X : K.In h) (G : h.Ns mainGlobals mg)
    (hb : ∀ (kV doc pm : Value) (an : Option Addr) (cdv ct : Value) (us : List Value), us.length = ps.length → bindArgs (PySem.W.fnOf x x (defArgs st) (defBody st) (defScope st) .none kV doc pm an cdv ct) ⟨us, []⟩ = pure (ps.zip us))
    (ok : ∀ f fd, Fun K x x st f fd → FnOk P w K mg base (L2.CX P w) k f fd ps sp) : ClX P w K mg base k x ps sp := by
  obtain ⟨f, fd, F, e⟩ := a.ex
  exact ⟨f, fd, ok f fd F, PySem.W.mg_of X G e, F.kp, F.binds hb⟩
/-- which error is below which -/
structure X7 (K : PySem.W.Frag) (e0 e1 e2 e3 e4 e5 e6 : Addr) : Prop where
  x01 : PySem.W.subIn K (.ref e0) (.ref e1) = some false
  x02 : PySem.W.subIn K (.ref e0) (.ref e2) = some false
  x03 : PySem.W.subIn K (.ref e0) (.ref e3) = some false
  x04 : PySem.W.subIn K (.ref e0) (.ref e4) = some false
  x05 : PySem.W.subIn K (.ref e0) (.ref e5) = some false
  x06 : PySem.W.subIn K (.ref e0) (.ref e6) = some false
  x10 : PySem.W.subIn K (.ref e1) (.ref e0) = some false
  x12 : PySem.W.subIn K (.ref e1) (.ref e2) = some false
  x13 : PySem.W.subIn K (.ref e1) (.ref e3) = some false
  x14 : PySem.W.subIn K (.ref e1) (.ref e4) = some false
  x15 : PySem.W.subIn K (.ref e1) (.ref e5) = some false
  x16 : PySem.W.subIn K (.ref e1) (.ref e6) = some false
  x20 : PySem.W.subIn K (.ref e2) (.ref e0) = some false
  x21 : PySem.W.subIn K (.ref e2) (.ref e1) = some false
  x23 : PySem.W.subIn K (.ref e2) (.ref e3) = some false
  x24 : PySem.W.subIn K (.ref e2) (.ref e4) = some false
  x25 : PySem.W.subIn K (.ref e2) (.ref e5) = some false
  x26 : PySem.W.subIn K (.ref e2) (.ref e6) = some false
  x30 : PySem.W.subIn K (.ref e3) (.ref e0) = some false
  x31 : PySem.W.subIn K (.ref e3) (.ref e1) = some false
  x32 : PySem.W.subIn K (.ref e3) (.ref e2) = some false
  x34 : PySem.W.subIn K (.ref e3) (.ref e4) = some false
  x35 : PySem.W.subIn K (.ref e3) (.ref e5) = some false
  x36 : PySem.W.subIn K (.ref e3) (.ref e6) = some false
  x40 : PySem.W.subIn K (.ref e4) (.ref e0) = some false
  x41 : PySem.W.subIn K (.ref e4) (.ref e1) = some false
  x42 : PySem.W.subIn K (.ref e4) (.ref e2) = some false
  x43 : PySem.W.subIn K (.ref e4) (.ref e3) = some false
  x45 : PySem.W.subIn K (.ref e4) (.ref e5) = some false
  x46 : PySem.W.subIn K (.ref e4) (.ref e6) = some false
  x50 : PySem.W.subIn K (.ref e5) (.ref e0) = some false
  x51 : PySem.W.subIn K (.ref e5) (.ref e1) = some false
  x52 : PySem.W.subIn K (.ref e5) (.ref e2) = some false
  x53 : PySem.W.subIn K (.ref e5) (.ref e3) = some false
  x54 : PySem.W.subIn K (.ref e5) (.ref e4) = some false
  x56 : PySem.W.subIn K (.ref e5) (.ref e6) = some false
  x60 : PySem.W.subIn K (.ref e6) (.ref e0) = some false
  x61 : PySem.W.subIn K (.ref e6) (.ref e1) = some false
  x62 : PySem.W.subIn K (.ref e6) (.ref e2) = some false
  x63 : PySem.W.subIn K (.ref e6) (.ref e3) = some false
  x64 : PySem.W.subIn K (.ref e6) (.ref e4) = some false
  x65 : PySem.W.subIn K (.ref e6) (.ref e5) = some false
structure ExB (K : PySem.W.Frag) (e : Addr) : Prop where
  b : PySem.W.subIn K (.ref e) (.type "BaseException") = some true
  d : PySem.W.hasDictIn K e = true
  t : PySem.W.typeIn K (.ref e) = some (.type "type")
  s : PySem.W.subIn K (.ref e) (.ref e) = some true
theorem ErAt.exb {K : PySem.W.Frag} {x q fl : Str} {st : Stmt} {CB CR : Addr} (e : ErAt K x q fl st CB CR) : ExB K CB := ⟨e.exC, e.hdC, e.tyC, e.sub⟩
theorem X7.xx {K : PySem.W.Frag} {e0 e1 e2 e3 e4 e5 e6 : Addr} (k : X7 K e0 e1 e2 e3 e4 e5 e6) (b0 : ExB K e0) (b1 : ExB K e1) (b2 : ExB K e2) (b3 : ExB K e3) (b4 : ExB K e4) (b5 : ExB K e5) (b6 : ExB K e6) : ∀ i, i < 7 → ∀ j, j < 7 → PySem.W.exmOne K (.ref (cf e0 e1 e2 e3 e4 e5 e6 i)) (.ref (cf e0 e1 e2 e3 e4 e5 e6 j)) = some (decide (i = j)) :=
  all7 (all7 (PySem.W.exm_ref b0.b b0.d b0.t b0.s) (PySem.W.exm_ref b1.b b1.d b1.t k.x01) (PySem.W.exm_ref b2.b b2.d b2.t k.x02) (PySem.W.exm_ref b3.b b3.d b3.t k.x03) (PySem.W.exm_ref b4.b b4.d b4.t k.x04) (PySem.W.exm_ref b5.b b5.d b5.t k.x05) (PySem.W.exm_ref b6.b b6.d b6.t k.x06)) (all7 (PySem.W.exm_ref b0.b b0.d b0.t k.x10) (PySem.W.exm_ref b1.b b1.d b1.t b1.s) (PySem.W.exm_ref b2.b b2.d b2.t k.x12) (PySem.W.exm_ref b3.b b3.d b3.t k.x13) (PySem.W.exm_ref b4.b b4.d b4.t k.x14) (PySem.W.exm_ref b5.b b5.d b5.t k.x15) (PySem.W.exm_ref b6.b b6.d b6.t k.x16)) (all7 (PySem.W.exm_ref b0.b b0.d b0.t k.x20) (PySem.W.exm_ref b1.b b1.d b1.t k.x21) (PySem.W.exm_ref b2.b b2.d b2.t b2.s) (PySem.W.exm_ref b3.b b3.d b3.t k.x23) (PySem.W.exm_ref b4.b b4.d b4.t k.x24) (PySem.W.exm_ref b5.b b5.d b5.t k.x25) (PySem.W.exm_ref b6.b b6.d b6.t k.x26)) (all7 (PySem.W.exm_ref b0.b b0.d b0.t k.x30) (PySem.W.exm_ref b1.b b1.d b1.t k.x31) (PySem.W.exm_ref b2.b b2.d b2.t k.x32) (PySem.W.exm_ref b3.b b3.d b3.t b3.s) (PySem.W.exm_ref b4.b b4.d b4.t k.x34) (PySem.W.exm_ref b5.b b5.d b5.t k.x35) (PySem.W.exm_ref b6.b b6.d b6.t k.x36)) (all7 (PySem.W.exm_ref b0.b b0.d b0.t k.x40) (PySem.W.exm_ref b1.b b1.d b1.t k.x41) (PySem.W.exm_ref b2.b b2.d b2.t k.x42) (PySem.W.exm_ref b3.b b3.d b3.t k.x43) (PySem.W.exm_ref b4.b b4.d b4.t b4.s) (PySem.W.exm_ref b5.b b5.d b5.t k.x45) (PySem.W.exm_ref b6.b b6.d b6.t k.x46)) (all7 (PySem.W.exm_ref b0.b b0.d b0.t k.x50) (PySem.W.exm_ref b1.b b1.d b1.t k.x51) (PySem.W.exm_ref b2.b b2.d b2.t k.x52) (PySem.W.exm_ref b3.b b3.d b3.t k.x53) (PySem.W.exm_ref b4.b b4.d b4.t k.x54) (PySem.W.exm_ref b5.b b5.d b5.t b5.s) (PySem.W.exm_ref b6.b b6.d b6.t k.x56)) (all7 (PySem.W.exm_ref b0.b b0.d b0.t k.x60) (PySem.W.exm_ref b1.b b1.d b1.t k.x61) (PySem.W.exm_ref b2.b b2.d b2.t k.x62) (PySem.W.exm_ref b3.b b3.d b3.t k.x63) (PySem.W.exm_ref b4.b b4.d b4.t k.x64) (PySem.W.exm_ref b5.b b5.d b5.t k.x65) (PySem.W.exm_ref b6.b b6.d b6.t b6.s))
/-- no plain value is a clause -/
structure N7 (K : PySem.W.Frag) (c0 c1 c2 c3 c4 c5 c6 : Addr) : Prop where
  kI0 : PySem.W.kitOne K (.type "int") (.ref c0) = some false
  kI1 : PySem.W.kitOne K (.type "int") (.ref c1) = some false
  kI2 : PySem.W.kitOne K (.type "int") (.ref c2) = some false
  kI3 : PySem.W.kitOne K (.type "int") (.ref c3) = some false
  kI4 : PySem.W.kitOne K (.type "int") (.ref c4) = some false
  kI5 : PySem.W.kitOne K (.type "int") (.ref c5) = some false
  kI6 : PySem.W.kitOne K (.type "int") (.ref c6) = some false
  kN0 : PySem.W.kitOne K (.type "NoneType") (.ref c0) = some false
  kN1 : PySem.W.kitOne K (.type "NoneType") (.ref c1) = some false
  kN2 : PySem.W.kitOne K (.type "NoneType") (.ref c2) = some false
  kN3 : PySem.W.kitOne K (.type "NoneType") (.ref c3) = some false
  kN4 : PySem.W.kitOne K (.type "NoneType") (.ref c4) = some false
  kN5 : PySem.W.kitOne K (.type "NoneType") (.ref c5) = some false
  kN6 : PySem.W.kitOne K (.type "NoneType") (.ref c6) = some false
  kB0 : PySem.W.kitOne K (.type "bool") (.ref c0) = some false
  kB1 : PySem.W.kitOne K (.type "bool") (.ref c1) = some false
  kB2 : PySem.W.kitOne K (.type "bool") (.ref c2) = some false
  kB3 : PySem.W.kitOne K (.type "bool") (.ref c3) = some false
  kB4 : PySem.W.kitOne K (.type "bool") (.ref c4) = some false
  kB5 : PySem.W.kitOne K (.type "bool") (.ref c5) = some false
  kB6 : PySem.W.kitOne K (.type "bool") (.ref c6) = some false
theorem N7.nk {K : PySem.W.Frag} {c0 c1 c2 c3 c4 c5 c6 : Addr} (k : N7 K c0 c1 c2 c3 c4 c5 c6) : NK K (cf c0 c1 c2 c3 c4 c5 c6) := ⟨all7 k.kI0 k.kI1 k.kI2 k.kI3 k.kI4 k.kI5 k.kI6, all7 k.kN0 k.kN1 k.kN2 k.kN3 k.kN4 k.kN5 k.kN6, all7 k.kB0 k.kB1 k.kB2 k.kB3 k.kB4 k.kB5 k.kB6⟩
end OR

namespace OR
open PySem PySem.Spec PyProof.Rows L2
/-- what the proof reads of the heap behind the top -/
def K26 : Params → PySem.W.Frag := fun P =>
  (nat_lit 2, (⟨.none, none, .dict #[] 0, #[]⟩ : Obj)) ::
  (nat_lit 3, (⟨(.type "dict"), none, .dict #[⟨PyData.keyHash P "__name__", (.str "__name__" 165), (.str "law_openranges_k26_rules_refused" 1757)⟩, ⟨PyData.keyHash P "__doc__", (.str "__doc__" 166), .none⟩, ⟨PyData.keyHash P "__package__", (.str "__package__" 167), .none⟩, ⟨PyData.keyHash P "__loader__", (.str "__loader__" 168), (.builtin "__main__.__loader__#opaque")⟩, ⟨PyData.keyHash P "__spec__", (.str "__spec__" 169), .none⟩, ⟨PyData.keyHash P "__annotations__", (.str "__annotations__" 170), (.ref 6)⟩, ⟨PyData.keyHash P "__builtins__", (.str "__builtins__" 171), (.ref 4)⟩, ⟨PyData.keyHash P "__file__", (.str "__file__" 173), (.str "/claim/cut.py" 172)⟩, ⟨PyData.keyHash P "__cached__", (.str "__cached__" 174), .none⟩, ⟨PyData.keyHash P "_wall", (.str "_wall" 193), (.ref 21)⟩, ⟨PyData.keyHash P "LAST_PLACE", (.str "LAST_PLACE" 199), (.int 1000000000000000000000000000000 198)⟩, ⟨PyData.keyHash P "_BLOCK_DIGITS", (.str "_BLOCK_DIGITS" 201), (.int 60 200)⟩, ⟨PyData.keyHash P "_BLOCK", (.str "_BLOCK" 205), (.int 1000000000000000000000000000000000000000000000000000000000000 204)⟩, ⟨PyData.keyHash P "is_integer", (.str "is_integer" 212), (.ref 28)⟩, ⟨PyData.keyHash P "is_place", (.str "is_place" 219), (.ref 35)⟩, ⟨PyData.keyHash P "decimal", (.str "decimal" 230), (.ref 42)⟩, ⟨PyData.keyHash P "read_decimal", (.str "read_decimal" 241), (.ref 49)⟩, ⟨PyData.keyHash P "read_place", (.str "read_place" 249), (.ref 56)⟩, ⟨PyData.keyHash P "Line", (.str "Line" 379), (.ref 157)⟩, ⟨PyData.keyHash P "_rising_text", (.str "_rising_text" 386), (.ref 168)⟩, ⟨PyData.keyHash P "RangesError", (.str "RangesError" 406), (.ref 178)⟩, ⟨PyData.keyHash P "BadStretch", (.str "BadStretch" 431), (.ref 198)⟩, ⟨PyData.keyHash P "BadText", (.str "BadText" 456), (.ref 217)⟩, ⟨PyData.keyHash P "BadWord", (.str "BadWord" 481), (.ref 236)⟩, ⟨PyData.keyHash P "SameFunction", (.str "SameFunction" 506), (.ref 255)⟩, ⟨PyData.keyHash P "BadSign", (.str "BadSign" 531), (.ref 274)⟩, ⟨PyData.keyHash P "BadFunctions", (.str "BadFunctions" 556), (.ref 293)⟩, ⟨PyData.keyHash P "Twice", (.str "Twice" 581), (.ref 312)⟩, ⟨PyData.keyHash P "TooMany", (.str "TooMany" 606), (.ref 331)⟩, ⟨PyData.keyHash P "NoFunction", (.str "NoFunction" 631), (.ref 350)⟩, ⟨PyData.keyHash P "NoPlace", (.str "NoPlace" 656), (.ref 369)⟩, ⟨PyData.keyHash P "NoClause", (.str "NoClause" 681), (.ref 388)⟩, ⟨PyData.keyHash P "_LETTERS", (.str "_LETTERS" 685), (.str "abcdefghijklmnopqrstuvwxyz" 684)⟩, ⟨PyData.keyHash P "_MOST_LETTERS", (.str "_MOST_LETTERS" 687), (.int 8 686)⟩, ⟨PyData.keyHash P "is_word", (.str "is_word" 693), (.ref 395)⟩, ⟨PyData.keyHash P "check_word", (.str "check_word" 700), (.ref 402)⟩, ⟨PyData.keyHash P "check_two_words", (.str "check_two_words" 708), (.ref 409)⟩, ⟨PyData.keyHash P "check_sign", (.str "check_sign" 716), (.ref 416)⟩, ⟨PyData.keyHash P "SIGNS", (.str "SIGNS" 722), (.ref 417)⟩, ⟨PyData.keyHash P "WAYS", (.str "WAYS" 725), (.ref 418)⟩, ⟨PyData.keyHash P "Answers", (.str "Answers" 811), (.ref 484)⟩, ⟨PyData.keyHash P "Refuses", (.str "Refuses" 897), (.ref 554)⟩, ⟨PyData.keyHash P "Needs", (.str "Needs" 985), (.ref 624)⟩, ⟨PyData.keyHash P "Spreads", (.str "Spreads" 1073), (.ref 694)⟩, ⟨PyData.keyHash P "Bound", (.str "Bound" 1173), (.ref 771)⟩, ⟨PyData.keyHash P "Pair", (.str "Pair" 1276), (.ref 848)⟩, ⟨PyData.keyHash P "Step", (.str "Step" 1366), (.ref 918)⟩, ⟨PyData.keyHash P "is_clause", (.str "is_clause" 1373), (.ref 929)⟩, ⟨PyData.keyHash P "_beginning", (.str "_beginning" 1380), (.ref 936)⟩, ⟨PyData.keyHash P "_added_text", (.str "_added_text" 1388), (.ref 943)⟩, ⟨PyData.keyHash P "MOST_FUNCTIONS", (.str "MOST_FUNCTIONS" 1392), (.int 3 1391)⟩, ⟨PyData.keyHash P "_MOST_CLAUSES", (.str "_MOST_CLAUSES" 1394), (.int 60 1393)⟩, ⟨PyData.keyHash P "Rules", (.str "Rules" 1438), (.ref 967)⟩, ⟨PyData.keyHash P "check_fits", (.str "check_fits" 1449), (.ref 978)⟩, ⟨PyData.keyHash P "_check_functions", (.str "_check_functions" 1458), (.ref 985)⟩, ⟨PyData.keyHash P "overlaps", (.str "overlaps" 1473), (.ref 992)⟩, ⟨PyData.keyHash P "Places", (.str "Places" 1669), (.ref 1143)⟩, ⟨PyData.keyHash P "read_stretches", (.str "read_stretches" 1682), (.ref 1154)⟩, ⟨PyData.keyHash P "_is_stretch", (.str "_is_stretch" 1691), (.ref 1161)⟩, ⟨PyData.keyHash P "_joined", (.str "_joined" 1697), (.ref 1166)⟩, ⟨PyData.keyHash P "_counts_before", (.str "_counts_before" 1708), (.ref 1173)⟩, ⟨PyData.keyHash P "_how_many_upto", (.str "_how_many_upto" 1719), (.ref 1180)⟩, ⟨PyData.keyHash P "_common", (.str "_common" 1725), (.ref 1185)⟩, ⟨PyData.keyHash P "_gaps", (.str "_gaps" 1736), (.ref 1192)⟩, ⟨PyData.keyHash P "_stretch_text", (.str "_stretch_text" 1744), (.ref 1199)⟩, ⟨PyData.keyHash P "_read_stretch", (.str "_read_stretch" 1756), (.ref 1206)⟩, ⟨PyData.keyHash P "_law_pen_of", (.str "_law_pen_of" 1765), (.ref 1213)⟩, ⟨PyData.keyHash P "_law_draw", (.str "_law_draw" 1778), (.ref 1220)⟩, ⟨PyData.keyHash P "_law_pick", (.str "_law_pick" 1786), (.ref 1227)⟩, ⟨PyData.keyHash P "_law_words_of", (.str "_law_words_of" 1792), (.ref 1232)⟩, ⟨PyData.keyHash P "_law_normal", (.str "_law_normal" 1798), (.ref 1237)⟩, ⟨PyData.keyHash P "_law_near", (.str "_law_near" 1807), (.ref 1244)⟩, ⟨PyData.keyHash P "_law_stretches", (.str "_law_stretches" 1820), (.ref 1251)⟩, ⟨PyData.keyHash P "_law_worth", (.str "_law_worth" 1826), (.ref 1256)⟩, ⟨PyData.keyHash P "_law_slope_of", (.str "_law_slope_of" 1835), (.ref 1263)⟩, ⟨PyData.keyHash P "_law_number_clause", (.str "_law_number_clause" 1841), (.ref 1268)⟩, ⟨PyData.keyHash P "_law_clause_of", (.str "_law_clause_of" 1847), (.ref 1273)⟩, ⟨PyData.keyHash P "_law_world_of", (.str "_law_world_of" 1864), (.ref 1280)⟩, ⟨PyData.keyHash P "_law_made_of", (.str "_law_made_of" 1874), (.ref 1287)⟩, ⟨PyData.keyHash P "_law_refusal", (.str "_law_refusal" 1884), (.ref 1294)⟩, ⟨PyData.keyHash P "_law_is_word", (.str "_law_is_word" 1890), (.ref 1299)⟩, ⟨PyData.keyHash P "_law_due", (.str "_law_due" 1896), (.ref 1304)⟩, ⟨PyData.keyHash P "law", (.str "law" 1902), (.ref 1309)⟩] 83, #[]⟩ : Obj)) ::
  (nat_lit 27, (⟨(.type "code"), none, .fields #[.str "is_integer" 206, .str "is_integer" 207, .str "/claim/cut.py" 208, .int 8 0, .int 1 0, .int 0 0, .int 0 0, .int 3 0, .ref 22, .bool true, .int 181 0, .ref 23, .none, .ref 24, .ref 25, .ref 26, .int 210 0, .int 8 0, .str "/claim/cut.py" 211], #[]⟩ : Obj)) ::
  (nat_lit 28, (⟨(.type "function"), none, .func (PySem.W.fnOf "is_integer" "is_integer" (defArgs sIsInt) (defBody sIsInt) (defScope sIsInt) .none .none .none (.str "openranges.integers" 194) none (.ref 27) .none), #[]⟩ : Obj)) ::
  (nat_lit 34, (⟨(.type "code"), none, .fields #[.str "is_place" 213, .str "is_place" 214, .str "/claim/cut.py" 215, .int 10 0, .int 1 0, .int 0 0, .int 0 0, .int 3 0, .ref 29, .bool true, .int 181 0, .ref 30, .none, .ref 31, .ref 32, .ref 33, .int 217 0, .int 10 0, .str "/claim/cut.py" 218], #[]⟩ : Obj)) ::
  (nat_lit 35, (⟨(.type "function"), none, .func (PySem.W.fnOf "is_place" "is_place" (defArgs sIsPlace) (defBody sIsPlace) (defScope sIsPlace) .none .none .none (.str "openranges.integers" 194) none (.ref 34) .none), #[]⟩ : Obj)) ::
  (nat_lit 156, (⟨(.type "dict"), none, .dict #[⟨PyData.keyHash P "__module__", (.str "__module__" 259), (.str "openranges.lines" 250)⟩, ⟨PyData.keyHash P "__firstlineno__", (.str "__firstlineno__" 263), (.int 34 262)⟩, ⟨PyData.keyHash P "__init__", (.str "__init__" 272), (.ref 70)⟩, ⟨PyData.keyHash P "__call__", (.str "__call__" 280), (.ref 77)⟩, ⟨PyData.keyHash P "__eq__", (.str "__eq__" 288), (.ref 84)⟩, ⟨PyData.keyHash P "__add__", (.str "__add__" 296), (.ref 91)⟩, ⟨PyData.keyHash P "__radd__", (.str "__radd__" 304), (.ref 98)⟩, ⟨PyData.keyHash P "__neg__", (.str "__neg__" 311), (.ref 105)⟩, ⟨PyData.keyHash P "__sub__", (.str "__sub__" 319), (.ref 112)⟩, ⟨PyData.keyHash P "__rsub__", (.str "__rsub__" 327), (.ref 119)⟩, ⟨PyData.keyHash P "__mul__", (.str "__mul__" 335), (.ref 126)⟩, ⟨PyData.keyHash P "__rmul__", (.str "__rmul__" 343), (.ref 133)⟩, ⟨PyData.keyHash P "moved", (.str "moved" 351), (.ref 140)⟩, ⟨PyData.keyHash P "mirrored", (.str "mirrored" 359), (.ref 147)⟩, ⟨PyData.keyHash P "text", (.str "text" 368), (.ref 154)⟩, ⟨PyData.keyHash P "__static_attributes__", (.str "__static_attributes__" 371), (.ref 155)⟩, ⟨PyData.keyHash P "__dict__", (.str "__dict__" 373), (.ref 158)⟩, ⟨PyData.keyHash P "__weakref__", (.str "__weakref__" 375), (.ref 159)⟩, ⟨PyData.keyHash P "__doc__", (.str "__doc__" 376), .none⟩, ⟨PyData.keyHash P "__hash__", (.str "__hash__" 377), .none⟩] 5, #[]⟩ : Obj)) ::
  (nat_lit 157, (⟨(.type "type"), none, .cls ⟨"Line", [.type "object"], [.ref 157, .type "object"], 156, "Line", true, [], [], false, none, false⟩, #[none, none, some (.str "Line" 252), some (.str "Line" 260), some (.builtin "object.__new__"), some (.bool true)]⟩ : Obj)) ::
  (nat_lit 177, (⟨(.type "dict"), none, .dict #[⟨PyData.keyHash P "__module__", (.str "__module__" 396), (.str "openranges.errors" 387)⟩, ⟨PyData.keyHash P "__firstlineno__", (.str "__firstlineno__" 400), (.int 96 399)⟩, ⟨PyData.keyHash P "__static_attributes__", (.str "__static_attributes__" 401), (.ref 176)⟩, ⟨PyData.keyHash P "__weakref__", (.str "__weakref__" 403), (.ref 179)⟩, ⟨PyData.keyHash P "__doc__", (.str "__doc__" 404), .none⟩] 3, #[]⟩ : Obj)) ::
  (nat_lit 178, (⟨(.type "type"), none, .cls ⟨"RangesError", [.type "ValueError"], [.ref 178, .type "ValueError", .type "Exception", .type "BaseException", .type "object"], 177, "RangesError", true, [], [.ref 198, .ref 217, .ref 236, .ref 255, .ref 274, .ref 293, .ref 312, .ref 331, .ref 350, .ref 369, .ref 388], false, none, false⟩, #[some (.ref 169), none, some (.str "RangesError" 389), some (.str "RangesError" 397), some (.builtin "ValueError.__new__"), some (.bool true)]⟩ : Obj)) ::
  (nat_lit 232, (⟨(.type "code"), none, .fields #[.str "__init__" 469, .str "BadWord.__init__" 470, .str "/claim/cut.py" 471, .int 108 0, .int 2 0, .int 0 0, .int 0 0, .int 3 0, .ref 227, .bool true, .int 181 0, .ref 228, .none, .ref 229, .ref 230, .ref 231, .int 474 0, .int 108 0, .str "/claim/cut.py" 475], #[]⟩ : Obj)) ::
  (nat_lit 233, (⟨(.type "function"), none, .func (PySem.W.fnOf "__init__" "BadWord.__init__" (defArgs sBadWordInit) (defBody sBadWordInit) (defScope sBadWordInit) .none .none .none (.str "openranges.errors" 387) none (.ref 232) .none), #[]⟩ : Obj)) ::
  (nat_lit 235, (⟨(.type "dict"), none, .dict #[⟨PyData.keyHash P "__module__", (.str "__module__" 464), (.str "openranges.errors" 387)⟩, ⟨PyData.keyHash P "__firstlineno__", (.str "__firstlineno__" 468), (.int 106 467)⟩, ⟨PyData.keyHash P "__init__", (.str "__init__" 476), (.ref 233)⟩, ⟨PyData.keyHash P "__static_attributes__", (.str "__static_attributes__" 478), (.ref 234)⟩, ⟨PyData.keyHash P "__doc__", (.str "__doc__" 479), .none⟩] 2, #[]⟩ : Obj)) ::
  (nat_lit 236, (⟨(.type "type"), none, .cls ⟨"BadWord", [.ref 178], [.ref 236, .ref 178, .type "ValueError", .type "Exception", .type "BaseException", .type "object"], 235, "BadWord", true, [], [], false, none, false⟩, #[some (.ref 220), none, some (.str "BadWord" 457), some (.str "BadWord" 465), some (.builtin "ValueError.__new__"), some (.bool true)]⟩ : Obj)) ::
  (nat_lit 289, (⟨(.type "code"), none, .fields #[.str "__init__" 544, .str "BadFunctions.__init__" 545, .str "/claim/cut.py" 546, .int 120 0, .int 2 0, .int 0 0, .int 0 0, .int 3 0, .ref 284, .bool true, .int 181 0, .ref 285, .none, .ref 286, .ref 287, .ref 288, .int 549 0, .int 120 0, .str "/claim/cut.py" 550], #[]⟩ : Obj)) ::
  (nat_lit 290, (⟨(.type "function"), none, .func (PySem.W.fnOf "__init__" "BadFunctions.__init__" (defArgs sBadFunctionsInit) (defBody sBadFunctionsInit) (defScope sBadFunctionsInit) .none .none .none (.str "openranges.errors" 387) none (.ref 289) .none), #[]⟩ : Obj)) ::
  (nat_lit 292, (⟨(.type "dict"), none, .dict #[⟨PyData.keyHash P "__module__", (.str "__module__" 539), (.str "openranges.errors" 387)⟩, ⟨PyData.keyHash P "__firstlineno__", (.str "__firstlineno__" 543), (.int 118 542)⟩, ⟨PyData.keyHash P "__init__", (.str "__init__" 551), (.ref 290)⟩, ⟨PyData.keyHash P "__static_attributes__", (.str "__static_attributes__" 553), (.ref 291)⟩, ⟨PyData.keyHash P "__doc__", (.str "__doc__" 554), .none⟩] 2, #[]⟩ : Obj)) ::
  (nat_lit 293, (⟨(.type "type"), none, .cls ⟨"BadFunctions", [.ref 178], [.ref 293, .ref 178, .type "ValueError", .type "Exception", .type "BaseException", .type "object"], 292, "BadFunctions", true, [], [], false, none, false⟩, #[some (.ref 277), none, some (.str "BadFunctions" 532), some (.str "BadFunctions" 540), some (.builtin "ValueError.__new__"), some (.bool true)]⟩ : Obj)) ::
  (nat_lit 308, (⟨(.type "code"), none, .fields #[.str "__init__" 569, .str "Twice.__init__" 570, .str "/claim/cut.py" 571, .int 124 0, .int 2 0, .int 0 0, .int 0 0, .int 3 0, .ref 303, .bool true, .int 181 0, .ref 304, .none, .ref 305, .ref 306, .ref 307, .int 574 0, .int 124 0, .str "/claim/cut.py" 575], #[]⟩ : Obj)) ::
  (nat_lit 309, (⟨(.type "function"), none, .func (PySem.W.fnOf "__init__" "Twice.__init__" (defArgs sTwiceInit) (defBody sTwiceInit) (defScope sTwiceInit) .none .none .none (.str "openranges.errors" 387) none (.ref 308) .none), #[]⟩ : Obj)) ::
  (nat_lit 311, (⟨(.type "dict"), none, .dict #[⟨PyData.keyHash P "__module__", (.str "__module__" 564), (.str "openranges.errors" 387)⟩, ⟨PyData.keyHash P "__firstlineno__", (.str "__firstlineno__" 568), (.int 122 567)⟩, ⟨PyData.keyHash P "__init__", (.str "__init__" 576), (.ref 309)⟩, ⟨PyData.keyHash P "__static_attributes__", (.str "__static_attributes__" 578), (.ref 310)⟩, ⟨PyData.keyHash P "__doc__", (.str "__doc__" 579), .none⟩] 2, #[]⟩ : Obj)) ::
  (nat_lit 312, (⟨(.type "type"), none, .cls ⟨"Twice", [.ref 178], [.ref 312, .ref 178, .type "ValueError", .type "Exception", .type "BaseException", .type "object"], 311, "Twice", true, [], [], false, none, false⟩, #[some (.ref 296), none, some (.str "Twice" 557), some (.str "Twice" 565), some (.builtin "ValueError.__new__"), some (.bool true)]⟩ : Obj)) ::
  (nat_lit 327, (⟨(.type "code"), none, .fields #[.str "__init__" 594, .str "TooMany.__init__" 595, .str "/claim/cut.py" 596, .int 128 0, .int 2 0, .int 0 0, .int 0 0, .int 3 0, .ref 322, .bool true, .int 181 0, .ref 323, .none, .ref 324, .ref 325, .ref 326, .int 599 0, .int 128 0, .str "/claim/cut.py" 600], #[]⟩ : Obj)) ::
  (nat_lit 328, (⟨(.type "function"), none, .func (PySem.W.fnOf "__init__" "TooMany.__init__" (defArgs sTooManyInit) (defBody sTooManyInit) (defScope sTooManyInit) .none .none .none (.str "openranges.errors" 387) none (.ref 327) .none), #[]⟩ : Obj)) ::
  (nat_lit 330, (⟨(.type "dict"), none, .dict #[⟨PyData.keyHash P "__module__", (.str "__module__" 589), (.str "openranges.errors" 387)⟩, ⟨PyData.keyHash P "__firstlineno__", (.str "__firstlineno__" 593), (.int 126 592)⟩, ⟨PyData.keyHash P "__init__", (.str "__init__" 601), (.ref 328)⟩, ⟨PyData.keyHash P "__static_attributes__", (.str "__static_attributes__" 603), (.ref 329)⟩, ⟨PyData.keyHash P "__doc__", (.str "__doc__" 604), .none⟩] 2, #[]⟩ : Obj)) ::
  (nat_lit 331, (⟨(.type "type"), none, .cls ⟨"TooMany", [.ref 178], [.ref 331, .ref 178, .type "ValueError", .type "Exception", .type "BaseException", .type "object"], 330, "TooMany", true, [], [], false, none, false⟩, #[some (.ref 315), none, some (.str "TooMany" 582), some (.str "TooMany" 590), some (.builtin "ValueError.__new__"), some (.bool true)]⟩ : Obj)) ::
  (nat_lit 346, (⟨(.type "code"), none, .fields #[.str "__init__" 619, .str "NoFunction.__init__" 620, .str "/claim/cut.py" 621, .int 132 0, .int 2 0, .int 0 0, .int 0 0, .int 3 0, .ref 341, .bool true, .int 181 0, .ref 342, .none, .ref 343, .ref 344, .ref 345, .int 624 0, .int 132 0, .str "/claim/cut.py" 625], #[]⟩ : Obj)) ::
  (nat_lit 347, (⟨(.type "function"), none, .func (PySem.W.fnOf "__init__" "NoFunction.__init__" (defArgs sNoFunctionInit) (defBody sNoFunctionInit) (defScope sNoFunctionInit) .none .none .none (.str "openranges.errors" 387) none (.ref 346) .none), #[]⟩ : Obj)) ::
  (nat_lit 349, (⟨(.type "dict"), none, .dict #[⟨PyData.keyHash P "__module__", (.str "__module__" 614), (.str "openranges.errors" 387)⟩, ⟨PyData.keyHash P "__firstlineno__", (.str "__firstlineno__" 618), (.int 130 617)⟩, ⟨PyData.keyHash P "__init__", (.str "__init__" 626), (.ref 347)⟩, ⟨PyData.keyHash P "__static_attributes__", (.str "__static_attributes__" 628), (.ref 348)⟩, ⟨PyData.keyHash P "__doc__", (.str "__doc__" 629), .none⟩] 2, #[]⟩ : Obj)) ::
  (nat_lit 350, (⟨(.type "type"), none, .cls ⟨"NoFunction", [.ref 178], [.ref 350, .ref 178, .type "ValueError", .type "Exception", .type "BaseException", .type "object"], 349, "NoFunction", true, [], [], false, none, false⟩, #[some (.ref 334), none, some (.str "NoFunction" 607), some (.str "NoFunction" 615), some (.builtin "ValueError.__new__"), some (.bool true)]⟩ : Obj)) ::
  (nat_lit 365, (⟨(.type "code"), none, .fields #[.str "__init__" 644, .str "NoPlace.__init__" 645, .str "/claim/cut.py" 646, .int 136 0, .int 2 0, .int 0 0, .int 0 0, .int 3 0, .ref 360, .bool true, .int 181 0, .ref 361, .none, .ref 362, .ref 363, .ref 364, .int 649 0, .int 136 0, .str "/claim/cut.py" 650], #[]⟩ : Obj)) ::
  (nat_lit 366, (⟨(.type "function"), none, .func (PySem.W.fnOf "__init__" "NoPlace.__init__" (defArgs sNoPlaceInit) (defBody sNoPlaceInit) (defScope sNoPlaceInit) .none .none .none (.str "openranges.errors" 387) none (.ref 365) .none), #[]⟩ : Obj)) ::
  (nat_lit 368, (⟨(.type "dict"), none, .dict #[⟨PyData.keyHash P "__module__", (.str "__module__" 639), (.str "openranges.errors" 387)⟩, ⟨PyData.keyHash P "__firstlineno__", (.str "__firstlineno__" 643), (.int 134 642)⟩, ⟨PyData.keyHash P "__init__", (.str "__init__" 651), (.ref 366)⟩, ⟨PyData.keyHash P "__static_attributes__", (.str "__static_attributes__" 653), (.ref 367)⟩, ⟨PyData.keyHash P "__doc__", (.str "__doc__" 654), .none⟩] 2, #[]⟩ : Obj)) ::
  (nat_lit 369, (⟨(.type "type"), none, .cls ⟨"NoPlace", [.ref 178], [.ref 369, .ref 178, .type "ValueError", .type "Exception", .type "BaseException", .type "object"], 368, "NoPlace", true, [], [], false, none, false⟩, #[some (.ref 353), none, some (.str "NoPlace" 632), some (.str "NoPlace" 640), some (.builtin "ValueError.__new__"), some (.bool true)]⟩ : Obj)) ::
  (nat_lit 384, (⟨(.type "code"), none, .fields #[.str "__init__" 669, .str "NoClause.__init__" 670, .str "/claim/cut.py" 671, .int 140 0, .int 2 0, .int 0 0, .int 0 0, .int 3 0, .ref 379, .bool true, .int 181 0, .ref 380, .none, .ref 381, .ref 382, .ref 383, .int 674 0, .int 140 0, .str "/claim/cut.py" 675], #[]⟩ : Obj)) ::
  (nat_lit 385, (⟨(.type "function"), none, .func (PySem.W.fnOf "__init__" "NoClause.__init__" (defArgs sNoClauseInit) (defBody sNoClauseInit) (defScope sNoClauseInit) .none .none .none (.str "openranges.errors" 387) none (.ref 384) .none), #[]⟩ : Obj)) ::
  (nat_lit 387, (⟨(.type "dict"), none, .dict #[⟨PyData.keyHash P "__module__", (.str "__module__" 664), (.str "openranges.errors" 387)⟩, ⟨PyData.keyHash P "__firstlineno__", (.str "__firstlineno__" 668), (.int 138 667)⟩, ⟨PyData.keyHash P "__init__", (.str "__init__" 676), (.ref 385)⟩, ⟨PyData.keyHash P "__static_attributes__", (.str "__static_attributes__" 678), (.ref 386)⟩, ⟨PyData.keyHash P "__doc__", (.str "__doc__" 679), .none⟩] 2, #[]⟩ : Obj)) ::
  (nat_lit 388, (⟨(.type "type"), none, .cls ⟨"NoClause", [.ref 178], [.ref 388, .ref 178, .type "ValueError", .type "Exception", .type "BaseException", .type "object"], 387, "NoClause", true, [], [], false, none, false⟩, #[some (.ref 372), none, some (.str "NoClause" 657), some (.str "NoClause" 665), some (.builtin "ValueError.__new__"), some (.bool true)]⟩ : Obj)) ::
  (nat_lit 394, (⟨(.type "code"), none, .fields #[.str "is_word" 688, .str "is_word" 689, .str "/claim/cut.py" 690, .int 145 0, .int 1 0, .int 0 0, .int 0 0, .int 3 0, .ref 391, .bool true, .int 181 0, .ref 392, .none, .none, .none, .ref 393, .int 691 0, .int 145 0, .str "/claim/cut.py" 692], #[]⟩ : Obj)) ::
  (nat_lit 395, (⟨(.type "function"), none, .func (PySem.W.fnOf "is_word" "is_word" (defArgs sIsWord) (defBody sIsWord) (defScope sIsWord) .none .none .none (.str "openranges.words" 682) none (.ref 394) .none), #[]⟩ : Obj)) ::
  (nat_lit 401, (⟨(.type "code"), none, .fields #[.str "check_word" 694, .str "check_word" 695, .str "/claim/cut.py" 696, .int 149 0, .int 1 0, .int 0 0, .int 0 0, .int 3 0, .ref 396, .bool true, .int 181 0, .ref 397, .none, .ref 398, .ref 399, .ref 400, .int 698 0, .int 149 0, .str "/claim/cut.py" 699], #[]⟩ : Obj)) ::
  (nat_lit 402, (⟨(.type "function"), none, .func (PySem.W.fnOf "check_word" "check_word" (defArgs sChkW) (defBody sChkW) (defScope sChkW) .none .none .none (.str "openranges.words" 682) none (.ref 401) .none), #[]⟩ : Obj)) ::
  (nat_lit 408, (⟨(.type "code"), none, .fields #[.str "check_two_words" 701, .str "check_two_words" 702, .str "/claim/cut.py" 703, .int 152 0, .int 2 0, .int 0 0, .int 0 0, .int 3 0, .ref 403, .bool true, .int 181 0, .ref 404, .none, .ref 405, .ref 406, .ref 407, .int 706 0, .int 152 0, .str "/claim/cut.py" 707], #[]⟩ : Obj)) ::
  (nat_lit 409, (⟨(.type "function"), none, .func (PySem.W.fnOf "check_two_words" "check_two_words" (defArgs sChkTwo) (defBody sChkTwo) (defScope sChkTwo) .none .none .none (.str "openranges.words" 682) none (.ref 408) .none), #[]⟩ : Obj)) ::
  (nat_lit 415, (⟨(.type "code"), none, .fields #[.str "check_sign" 709, .str "check_sign" 710, .str "/claim/cut.py" 711, .int 157 0, .int 2 0, .int 0 0, .int 0 0, .int 3 0, .ref 410, .bool true, .int 181 0, .ref 411, .none, .ref 412, .ref 413, .ref 414, .int 714 0, .int 157 0, .str "/claim/cut.py" 715], #[]⟩ : Obj)) ::
  (nat_lit 416, (⟨(.type "function"), none, .func (PySem.W.fnOf "check_sign" "check_sign" (defArgs sChkSign) (defBody sChkSign) (defScope sChkSign) .none .none .none (.str "openranges.words" 682) none (.ref 415) .none), #[]⟩ : Obj)) ::
  (nat_lit 417, (⟨(.type "tuple"), none, .seq #[.str "<=" 719, .str ">=" 720, .str "=" 721] 0, #[]⟩ : Obj)) ::
  (nat_lit 418, (⟨(.type "tuple"), none, .seq #[.str "up" 723, .str "down" 724] 0, #[]⟩ : Obj)) ::
  (nat_lit 431, (⟨(.type "code"), none, .fields #[.str "__init__" 738, .str "Answers.__init__" 739, .str "/claim/cut.py" 740, .int 165 0, .int 3 0, .int 0 0, .int 0 0, .int 3 0, .ref 426, .bool true, .int 181 0, .ref 427, .none, .ref 428, .ref 429, .ref 430, .int 744 0, .int 165 0, .str "/claim/cut.py" 745], #[]⟩ : Obj)) ::
  (nat_lit 432, (⟨(.type "function"), none, .func (PySem.W.fnOf "__init__" "Answers.__init__" (defArgs sAnsInit) (defBody sAnsInit) (defScope sAnsInit) .none .none .none (.str "openranges.clauses" 717) none (.ref 431) .none), #[]⟩ : Obj)) ::
  (nat_lit 445, (⟨(.type "code"), none, .fields #[.str "functions_told" 755, .str "Answers.functions_told" 756, .str "/claim/cut.py" 757, .int 174 0, .int 1 0, .int 0 0, .int 0 0, .int 3 0, .ref 440, .bool true, .int 181 0, .ref 441, .none, .ref 442, .ref 443, .ref 444, .int 759 0, .int 174 0, .str "/claim/cut.py" 760], #[]⟩ : Obj)) ::
  (nat_lit 446, (⟨(.type "function"), none, .func (PySem.W.fnOf "functions_told" "Answers.functions_told" (defArgs sAnsTold) (defBody sAnsTold) (defScope sAnsTold) .none .none .none (.str "openranges.clauses" 717) none (.ref 445) .none), #[]⟩ : Obj)) ::
  (nat_lit 483, (⟨(.type "dict"), none, .dict #[⟨PyData.keyHash P "__module__", (.str "__module__" 733), (.str "openranges.clauses" 717)⟩, ⟨PyData.keyHash P "__firstlineno__", (.str "__firstlineno__" 737), (.int 163 736)⟩, ⟨PyData.keyHash P "__init__", (.str "__init__" 746), (.ref 432)⟩, ⟨PyData.keyHash P "__eq__", (.str "__eq__" 754), (.ref 439)⟩, ⟨PyData.keyHash P "functions_told", (.str "functions_told" 761), (.ref 446)⟩, ⟨PyData.keyHash P "negated", (.str "negated" 768), (.ref 453)⟩, ⟨PyData.keyHash P "times", (.str "times" 776), (.ref 460)⟩, ⟨PyData.keyHash P "moved", (.str "moved" 784), (.ref 467)⟩, ⟨PyData.keyHash P "mirrored", (.str "mirrored" 792), (.ref 474)⟩, ⟨PyData.keyHash P "text", (.str "text" 799), (.ref 481)⟩, ⟨PyData.keyHash P "__static_attributes__", (.str "__static_attributes__" 803), (.ref 482)⟩, ⟨PyData.keyHash P "__dict__", (.str "__dict__" 805), (.ref 485)⟩, ⟨PyData.keyHash P "__weakref__", (.str "__weakref__" 807), (.ref 486)⟩, ⟨PyData.keyHash P "__doc__", (.str "__doc__" 808), .none⟩, ⟨PyData.keyHash P "__hash__", (.str "__hash__" 809), .none⟩] 5, #[]⟩ : Obj)) ::
  (nat_lit 484, (⟨(.type "type"), none, .cls ⟨"Answers", [.type "object"], [.ref 484, .type "object"], 483, "Answers", true, [], [], false, none, false⟩, #[none, none, some (.str "Answers" 726), some (.str "Answers" 734), some (.builtin "object.__new__"), some (.bool true)]⟩ : Obj)) ::
  (nat_lit 501, (⟨(.type "code"), none, .fields #[.str "__init__" 824, .str "Refuses.__init__" 825, .str "/claim/cut.py" 826, .int 193 0, .int 3 0, .int 0 0, .int 0 0, .int 3 0, .ref 496, .bool true, .int 181 0, .ref 497, .none, .ref 498, .ref 499, .ref 500, .int 830 0, .int 193 0, .str "/claim/cut.py" 831], #[]⟩ : Obj)) ::
  (nat_lit 502, (⟨(.type "function"), none, .func (PySem.W.fnOf "__init__" "Refuses.__init__" (defArgs sRefInit) (defBody sRefInit) (defScope sRefInit) .none .none .none (.str "openranges.clauses" 717) none (.ref 501) .none), #[]⟩ : Obj)) ::
  (nat_lit 515, (⟨(.type "code"), none, .fields #[.str "functions_told" 841, .str "Refuses.functions_told" 842, .str "/claim/cut.py" 843, .int 202 0, .int 1 0, .int 0 0, .int 0 0, .int 3 0, .ref 510, .bool true, .int 181 0, .ref 511, .none, .ref 512, .ref 513, .ref 514, .int 845 0, .int 202 0, .str "/claim/cut.py" 846], #[]⟩ : Obj)) ::
  (nat_lit 516, (⟨(.type "function"), none, .func (PySem.W.fnOf "functions_told" "Refuses.functions_told" (defArgs sRefTold) (defBody sRefTold) (defScope sRefTold) .none .none .none (.str "openranges.clauses" 717) none (.ref 515) .none), #[]⟩ : Obj)) ::
  (nat_lit 553, (⟨(.type "dict"), none, .dict #[⟨PyData.keyHash P "__module__", (.str "__module__" 819), (.str "openranges.clauses" 717)⟩, ⟨PyData.keyHash P "__firstlineno__", (.str "__firstlineno__" 823), (.int 191 822)⟩, ⟨PyData.keyHash P "__init__", (.str "__init__" 832), (.ref 502)⟩, ⟨PyData.keyHash P "__eq__", (.str "__eq__" 840), (.ref 509)⟩, ⟨PyData.keyHash P "functions_told", (.str "functions_told" 847), (.ref 516)⟩, ⟨PyData.keyHash P "negated", (.str "negated" 854), (.ref 523)⟩, ⟨PyData.keyHash P "times", (.str "times" 862), (.ref 530)⟩, ⟨PyData.keyHash P "moved", (.str "moved" 870), (.ref 537)⟩, ⟨PyData.keyHash P "mirrored", (.str "mirrored" 878), (.ref 544)⟩, ⟨PyData.keyHash P "text", (.str "text" 885), (.ref 551)⟩, ⟨PyData.keyHash P "__static_attributes__", (.str "__static_attributes__" 889), (.ref 552)⟩, ⟨PyData.keyHash P "__dict__", (.str "__dict__" 891), (.ref 555)⟩, ⟨PyData.keyHash P "__weakref__", (.str "__weakref__" 893), (.ref 556)⟩, ⟨PyData.keyHash P "__doc__", (.str "__doc__" 894), .none⟩, ⟨PyData.keyHash P "__hash__", (.str "__hash__" 895), .none⟩] 5, #[]⟩ : Obj)) ::
  (nat_lit 554, (⟨(.type "type"), none, .cls ⟨"Refuses", [.type "object"], [.ref 554, .type "object"], 553, "Refuses", true, [], [], false, none, false⟩, #[none, none, some (.str "Refuses" 812), some (.str "Refuses" 820), some (.builtin "object.__new__"), some (.bool true)]⟩ : Obj)) ::
  (nat_lit 571, (⟨(.type "code"), none, .fields #[.str "__init__" 910, .str "Needs.__init__" 911, .str "/claim/cut.py" 912, .int 221 0, .int 4 0, .int 0 0, .int 0 0, .int 3 0, .ref 566, .bool true, .int 181 0, .ref 567, .none, .ref 568, .ref 569, .ref 570, .int 917 0, .int 221 0, .str "/claim/cut.py" 918], #[]⟩ : Obj)) ::
  (nat_lit 572, (⟨(.type "function"), none, .func (PySem.W.fnOf "__init__" "Needs.__init__" (defArgs sNeeInit) (defBody sNeeInit) (defScope sNeeInit) .none .none .none (.str "openranges.clauses" 717) none (.ref 571) .none), #[]⟩ : Obj)) ::
  (nat_lit 585, (⟨(.type "code"), none, .fields #[.str "functions_told" 928, .str "Needs.functions_told" 929, .str "/claim/cut.py" 930, .int 233 0, .int 1 0, .int 0 0, .int 0 0, .int 3 0, .ref 580, .bool true, .int 181 0, .ref 581, .none, .ref 582, .ref 583, .ref 584, .int 932 0, .int 233 0, .str "/claim/cut.py" 933], #[]⟩ : Obj)) ::
  (nat_lit 586, (⟨(.type "function"), none, .func (PySem.W.fnOf "functions_told" "Needs.functions_told" (defArgs sNeeTold) (defBody sNeeTold) (defScope sNeeTold) .none .none .none (.str "openranges.clauses" 717) none (.ref 585) .none), #[]⟩ : Obj)) ::
  (nat_lit 623, (⟨(.type "dict"), none, .dict #[⟨PyData.keyHash P "__module__", (.str "__module__" 905), (.str "openranges.clauses" 717)⟩, ⟨PyData.keyHash P "__firstlineno__", (.str "__firstlineno__" 909), (.int 219 908)⟩, ⟨PyData.keyHash P "__init__", (.str "__init__" 919), (.ref 572)⟩, ⟨PyData.keyHash P "__eq__", (.str "__eq__" 927), (.ref 579)⟩, ⟨PyData.keyHash P "functions_told", (.str "functions_told" 934), (.ref 586)⟩, ⟨PyData.keyHash P "negated", (.str "negated" 941), (.ref 593)⟩, ⟨PyData.keyHash P "times", (.str "times" 949), (.ref 600)⟩, ⟨PyData.keyHash P "moved", (.str "moved" 957), (.ref 607)⟩, ⟨PyData.keyHash P "mirrored", (.str "mirrored" 965), (.ref 614)⟩, ⟨PyData.keyHash P "text", (.str "text" 972), (.ref 621)⟩, ⟨PyData.keyHash P "__static_attributes__", (.str "__static_attributes__" 977), (.ref 622)⟩, ⟨PyData.keyHash P "__dict__", (.str "__dict__" 979), (.ref 625)⟩, ⟨PyData.keyHash P "__weakref__", (.str "__weakref__" 981), (.ref 626)⟩, ⟨PyData.keyHash P "__doc__", (.str "__doc__" 982), .none⟩, ⟨PyData.keyHash P "__hash__", (.str "__hash__" 983), .none⟩] 5, #[]⟩ : Obj)) ::
  (nat_lit 624, (⟨(.type "type"), none, .cls ⟨"Needs", [.type "object"], [.ref 624, .type "object"], 623, "Needs", true, [], [], false, none, false⟩, #[none, none, some (.str "Needs" 898), some (.str "Needs" 906), some (.builtin "object.__new__"), some (.bool true)]⟩ : Obj)) ::
  (nat_lit 641, (⟨(.type "code"), none, .fields #[.str "__init__" 998, .str "Spreads.__init__" 999, .str "/claim/cut.py" 1000, .int 252 0, .int 4 0, .int 0 0, .int 0 0, .int 3 0, .ref 636, .bool true, .int 181 0, .ref 637, .none, .ref 638, .ref 639, .ref 640, .int 1005 0, .int 252 0, .str "/claim/cut.py" 1006], #[]⟩ : Obj)) ::
  (nat_lit 642, (⟨(.type "function"), none, .func (PySem.W.fnOf "__init__" "Spreads.__init__" (defArgs sSprInit) (defBody sSprInit) (defScope sSprInit) .none .none .none (.str "openranges.clauses" 717) none (.ref 641) .none), #[]⟩ : Obj)) ::
  (nat_lit 655, (⟨(.type "code"), none, .fields #[.str "functions_told" 1016, .str "Spreads.functions_told" 1017, .str "/claim/cut.py" 1018, .int 265 0, .int 1 0, .int 0 0, .int 0 0, .int 3 0, .ref 650, .bool true, .int 181 0, .ref 651, .none, .ref 652, .ref 653, .ref 654, .int 1020 0, .int 265 0, .str "/claim/cut.py" 1021], #[]⟩ : Obj)) ::
  (nat_lit 656, (⟨(.type "function"), none, .func (PySem.W.fnOf "functions_told" "Spreads.functions_told" (defArgs sSprTold) (defBody sSprTold) (defScope sSprTold) .none .none .none (.str "openranges.clauses" 717) none (.ref 655) .none), #[]⟩ : Obj)) ::
  (nat_lit 693, (⟨(.type "dict"), none, .dict #[⟨PyData.keyHash P "__module__", (.str "__module__" 993), (.str "openranges.clauses" 717)⟩, ⟨PyData.keyHash P "__firstlineno__", (.str "__firstlineno__" 997), (.int 250 996)⟩, ⟨PyData.keyHash P "__init__", (.str "__init__" 1007), (.ref 642)⟩, ⟨PyData.keyHash P "__eq__", (.str "__eq__" 1015), (.ref 649)⟩, ⟨PyData.keyHash P "functions_told", (.str "functions_told" 1022), (.ref 656)⟩, ⟨PyData.keyHash P "negated", (.str "negated" 1029), (.ref 663)⟩, ⟨PyData.keyHash P "times", (.str "times" 1037), (.ref 670)⟩, ⟨PyData.keyHash P "moved", (.str "moved" 1045), (.ref 677)⟩, ⟨PyData.keyHash P "mirrored", (.str "mirrored" 1053), (.ref 684)⟩, ⟨PyData.keyHash P "text", (.str "text" 1060), (.ref 691)⟩, ⟨PyData.keyHash P "__static_attributes__", (.str "__static_attributes__" 1065), (.ref 692)⟩, ⟨PyData.keyHash P "__dict__", (.str "__dict__" 1067), (.ref 695)⟩, ⟨PyData.keyHash P "__weakref__", (.str "__weakref__" 1069), (.ref 696)⟩, ⟨PyData.keyHash P "__doc__", (.str "__doc__" 1070), .none⟩, ⟨PyData.keyHash P "__hash__", (.str "__hash__" 1071), .none⟩] 5, #[]⟩ : Obj)) ::
  (nat_lit 694, (⟨(.type "type"), none, .cls ⟨"Spreads", [.type "object"], [.ref 694, .type "object"], 693, "Spreads", true, [], [], false, none, false⟩, #[none, none, some (.str "Spreads" 986), some (.str "Spreads" 994), some (.builtin "object.__new__"), some (.bool true)]⟩ : Obj)) ::
  (nat_lit 711, (⟨(.type "code"), none, .fields #[.str "__init__" 1086, .str "Bound.__init__" 1087, .str "/claim/cut.py" 1088, .int 284 0, .int 6 0, .int 0 0, .int 0 0, .int 3 0, .ref 706, .bool true, .int 181 0, .ref 707, .none, .ref 708, .ref 709, .ref 710, .int 1095 0, .int 284 0, .str "/claim/cut.py" 1096], #[]⟩ : Obj)) ::
  (nat_lit 712, (⟨(.type "function"), none, .func (PySem.W.fnOf "__init__" "Bound.__init__" (defArgs sBouInit) (defBody sBouInit) (defScope sBouInit) .none .none .none (.str "openranges.clauses" 717) none (.ref 711) .none), #[]⟩ : Obj)) ::
  (nat_lit 732, (⟨(.type "code"), none, .fields #[.str "functions_told" 1114, .str "Bound.functions_told" 1115, .str "/claim/cut.py" 1116, .int 303 0, .int 1 0, .int 0 0, .int 0 0, .int 3 0, .ref 727, .bool true, .int 181 0, .ref 728, .none, .ref 729, .ref 730, .ref 731, .int 1118 0, .int 303 0, .str "/claim/cut.py" 1119], #[]⟩ : Obj)) ::
  (nat_lit 733, (⟨(.type "function"), none, .func (PySem.W.fnOf "functions_told" "Bound.functions_told" (defArgs sBouTold) (defBody sBouTold) (defScope sBouTold) .none .none .none (.str "openranges.clauses" 717) none (.ref 732) .none), #[]⟩ : Obj)) ::
  (nat_lit 770, (⟨(.type "dict"), none, .dict #[⟨PyData.keyHash P "__module__", (.str "__module__" 1081), (.str "openranges.clauses" 717)⟩, ⟨PyData.keyHash P "__firstlineno__", (.str "__firstlineno__" 1085), (.int 282 1084)⟩, ⟨PyData.keyHash P "__init__", (.str "__init__" 1097), (.ref 712)⟩, ⟨PyData.keyHash P "__eq__", (.str "__eq__" 1106), (.ref 719)⟩, ⟨PyData.keyHash P "line", (.str "line" 1113), (.ref 726)⟩, ⟨PyData.keyHash P "functions_told", (.str "functions_told" 1120), (.ref 733)⟩, ⟨PyData.keyHash P "negated", (.str "negated" 1127), (.ref 740)⟩, ⟨PyData.keyHash P "times", (.str "times" 1135), (.ref 747)⟩, ⟨PyData.keyHash P "moved", (.str "moved" 1143), (.ref 754)⟩, ⟨PyData.keyHash P "mirrored", (.str "mirrored" 1151), (.ref 761)⟩, ⟨PyData.keyHash P "text", (.str "text" 1158), (.ref 768)⟩, ⟨PyData.keyHash P "__static_attributes__", (.str "__static_attributes__" 1165), (.ref 769)⟩, ⟨PyData.keyHash P "__dict__", (.str "__dict__" 1167), (.ref 772)⟩, ⟨PyData.keyHash P "__weakref__", (.str "__weakref__" 1169), (.ref 773)⟩, ⟨PyData.keyHash P "__doc__", (.str "__doc__" 1170), .none⟩, ⟨PyData.keyHash P "__hash__", (.str "__hash__" 1171), .none⟩] 5, #[]⟩ : Obj)) ::
  (nat_lit 771, (⟨(.type "type"), none, .cls ⟨"Bound", [.type "object"], [.ref 771, .type "object"], 770, "Bound", true, [], [], false, none, false⟩, #[none, none, some (.str "Bound" 1074), some (.str "Bound" 1082), some (.builtin "object.__new__"), some (.bool true)]⟩ : Obj)) ::
  (nat_lit 788, (⟨(.type "code"), none, .fields #[.str "__init__" 1186, .str "Pair.__init__" 1187, .str "/claim/cut.py" 1188, .int 322 0, .int 7 0, .int 0 0, .int 0 0, .int 3 0, .ref 783, .bool true, .int 181 0, .ref 784, .none, .ref 785, .ref 786, .ref 787, .int 1196 0, .int 322 0, .str "/claim/cut.py" 1197], #[]⟩ : Obj)) ::
  (nat_lit 789, (⟨(.type "function"), none, .func (PySem.W.fnOf "__init__" "Pair.__init__" (defArgs sPaiInit) (defBody sPaiInit) (defScope sPaiInit) .none .none .none (.str "openranges.clauses" 717) none (.ref 788) .none), #[]⟩ : Obj)) ::
  (nat_lit 809, (⟨(.type "code"), none, .fields #[.str "functions_told" 1216, .str "Pair.functions_told" 1217, .str "/claim/cut.py" 1218, .int 343 0, .int 1 0, .int 0 0, .int 0 0, .int 3 0, .ref 804, .bool true, .int 181 0, .ref 805, .none, .ref 806, .ref 807, .ref 808, .int 1220 0, .int 343 0, .str "/claim/cut.py" 1221], #[]⟩ : Obj)) ::
  (nat_lit 810, (⟨(.type "function"), none, .func (PySem.W.fnOf "functions_told" "Pair.functions_told" (defArgs sPaiTold) (defBody sPaiTold) (defScope sPaiTold) .none .none .none (.str "openranges.clauses" 717) none (.ref 809) .none), #[]⟩ : Obj)) ::
  (nat_lit 847, (⟨(.type "dict"), none, .dict #[⟨PyData.keyHash P "__module__", (.str "__module__" 1181), (.str "openranges.clauses" 717)⟩, ⟨PyData.keyHash P "__firstlineno__", (.str "__firstlineno__" 1185), (.int 320 1184)⟩, ⟨PyData.keyHash P "__init__", (.str "__init__" 1198), (.ref 789)⟩, ⟨PyData.keyHash P "__eq__", (.str "__eq__" 1208), (.ref 796)⟩, ⟨PyData.keyHash P "line", (.str "line" 1215), (.ref 803)⟩, ⟨PyData.keyHash P "functions_told", (.str "functions_told" 1222), (.ref 810)⟩, ⟨PyData.keyHash P "negated", (.str "negated" 1229), (.ref 817)⟩, ⟨PyData.keyHash P "times", (.str "times" 1237), (.ref 824)⟩, ⟨PyData.keyHash P "moved", (.str "moved" 1245), (.ref 831)⟩, ⟨PyData.keyHash P "mirrored", (.str "mirrored" 1253), (.ref 838)⟩, ⟨PyData.keyHash P "text", (.str "text" 1260), (.ref 845)⟩, ⟨PyData.keyHash P "__static_attributes__", (.str "__static_attributes__" 1268), (.ref 846)⟩, ⟨PyData.keyHash P "__dict__", (.str "__dict__" 1270), (.ref 849)⟩, ⟨PyData.keyHash P "__weakref__", (.str "__weakref__" 1272), (.ref 850)⟩, ⟨PyData.keyHash P "__doc__", (.str "__doc__" 1273), .none⟩, ⟨PyData.keyHash P "__hash__", (.str "__hash__" 1274), .none⟩] 5, #[]⟩ : Obj)) ::
  (nat_lit 848, (⟨(.type "type"), none, .cls ⟨"Pair", [.type "object"], [.ref 848, .type "object"], 847, "Pair", true, [], [], false, none, false⟩, #[none, none, some (.str "Pair" 1174), some (.str "Pair" 1182), some (.builtin "object.__new__"), some (.bool true)]⟩ : Obj)) ::
  (nat_lit 865, (⟨(.type "code"), none, .fields #[.str "__init__" 1289, .str "Step.__init__" 1290, .str "/claim/cut.py" 1291, .int 362 0, .int 5 0, .int 0 0, .int 0 0, .int 3 0, .ref 860, .bool true, .int 181 0, .ref 861, .none, .ref 862, .ref 863, .ref 864, .int 1297 0, .int 362 0, .str "/claim/cut.py" 1298], #[]⟩ : Obj)) ::
  (nat_lit 866, (⟨(.type "function"), none, .func (PySem.W.fnOf "__init__" "Step.__init__" (defArgs sSteInit) (defBody sSteInit) (defScope sSteInit) .none .none .none (.str "openranges.clauses" 717) none (.ref 865) .none), #[]⟩ : Obj)) ::
  (nat_lit 879, (⟨(.type "code"), none, .fields #[.str "functions_told" 1308, .str "Step.functions_told" 1309, .str "/claim/cut.py" 1310, .int 376 0, .int 1 0, .int 0 0, .int 0 0, .int 3 0, .ref 874, .bool true, .int 181 0, .ref 875, .none, .ref 876, .ref 877, .ref 878, .int 1312 0, .int 376 0, .str "/claim/cut.py" 1313], #[]⟩ : Obj)) ::
  (nat_lit 880, (⟨(.type "function"), none, .func (PySem.W.fnOf "functions_told" "Step.functions_told" (defArgs sSteTold) (defBody sSteTold) (defScope sSteTold) .none .none .none (.str "openranges.clauses" 717) none (.ref 879) .none), #[]⟩ : Obj)) ::
  (nat_lit 917, (⟨(.type "dict"), none, .dict #[⟨PyData.keyHash P "__module__", (.str "__module__" 1284), (.str "openranges.clauses" 717)⟩, ⟨PyData.keyHash P "__firstlineno__", (.str "__firstlineno__" 1288), (.int 360 1287)⟩, ⟨PyData.keyHash P "__init__", (.str "__init__" 1299), (.ref 866)⟩, ⟨PyData.keyHash P "__eq__", (.str "__eq__" 1307), (.ref 873)⟩, ⟨PyData.keyHash P "functions_told", (.str "functions_told" 1314), (.ref 880)⟩, ⟨PyData.keyHash P "negated", (.str "negated" 1321), (.ref 887)⟩, ⟨PyData.keyHash P "times", (.str "times" 1329), (.ref 894)⟩, ⟨PyData.keyHash P "moved", (.str "moved" 1337), (.ref 901)⟩, ⟨PyData.keyHash P "mirrored", (.str "mirrored" 1345), (.ref 908)⟩, ⟨PyData.keyHash P "text", (.str "text" 1352), (.ref 915)⟩, ⟨PyData.keyHash P "__static_attributes__", (.str "__static_attributes__" 1358), (.ref 916)⟩, ⟨PyData.keyHash P "__dict__", (.str "__dict__" 1360), (.ref 919)⟩, ⟨PyData.keyHash P "__weakref__", (.str "__weakref__" 1362), (.ref 920)⟩, ⟨PyData.keyHash P "__doc__", (.str "__doc__" 1363), .none⟩, ⟨PyData.keyHash P "__hash__", (.str "__hash__" 1364), .none⟩] 5, #[]⟩ : Obj)) ::
  (nat_lit 918, (⟨(.type "type"), none, .cls ⟨"Step", [.type "object"], [.ref 918, .type "object"], 917, "Step", true, [], [], false, none, false⟩, #[none, none, some (.str "Step" 1277), some (.str "Step" 1285), some (.builtin "object.__new__"), some (.bool true)]⟩ : Obj)) ::
  (nat_lit 928, (⟨(.type "code"), none, .fields #[.str "is_clause" 1367, .str "is_clause" 1368, .str "/claim/cut.py" 1369, .int 393 0, .int 1 0, .int 0 0, .int 0 0, .int 3 0, .ref 923, .bool true, .int 181 0, .ref 924, .none, .ref 925, .ref 926, .ref 927, .int 1371 0, .int 393 0, .str "/claim/cut.py" 1372], #[]⟩ : Obj)) ::
  (nat_lit 929, (⟨(.type "function"), none, .func (PySem.W.fnOf "is_clause" "is_clause" (defArgs sIsClause) (defBody sIsClause) (defScope sIsClause) .none .none .none (.str "openranges.clauses" 717) none (.ref 928) .none), #[]⟩ : Obj)) ::
  (nat_lit 956, (⟨(.type "code"), none, .fields #[.str "__init__" 1407, .str "Rules.__init__" 1408, .str "/claim/cut.py" 1409, .int 407 0, .int 4 0, .int 0 0, .int 0 0, .int 3 0, .ref 951, .bool true, .int 181 0, .ref 952, .none, .ref 953, .ref 954, .ref 955, .int 1416 0, .int 407 0, .str "/claim/cut.py" 1417], #[]⟩ : Obj)) ::
  (nat_lit 957, (⟨(.type "function"), none, .func (PySem.W.fnOf "__init__" "Rules.__init__" (defArgs sRuInit) (defBody sRuInit) (defScope sRuInit) .none .none .none (.str "openranges.rules" 1389) none (.ref 956) .none), #[]⟩ : Obj)) ::
  (nat_lit 966, (⟨(.type "dict"), none, .dict #[⟨PyData.keyHash P "__module__", (.str "__module__" 1402), (.str "openranges.rules" 1389)⟩, ⟨PyData.keyHash P "__firstlineno__", (.str "__firstlineno__" 1406), (.int 405 1405)⟩, ⟨PyData.keyHash P "__init__", (.str "__init__" 1418), (.ref 957)⟩, ⟨PyData.keyHash P "__eq__", (.str "__eq__" 1426), (.ref 964)⟩, ⟨PyData.keyHash P "__static_attributes__", (.str "__static_attributes__" 1430), (.ref 965)⟩, ⟨PyData.keyHash P "__dict__", (.str "__dict__" 1432), (.ref 968)⟩, ⟨PyData.keyHash P "__weakref__", (.str "__weakref__" 1434), (.ref 969)⟩, ⟨PyData.keyHash P "__doc__", (.str "__doc__" 1435), .none⟩, ⟨PyData.keyHash P "__hash__", (.str "__hash__" 1436), .none⟩] 5, #[]⟩ : Obj)) ::
  (nat_lit 967, (⟨(.type "type"), none, .cls ⟨"Rules", [.type "object"], [.ref 967, .type "object"], 966, "Rules", true, [], [], false, none, false⟩, #[none, none, some (.str "Rules" 1395), some (.str "Rules" 1403), some (.builtin "object.__new__"), some (.bool true)]⟩ : Obj)) ::
  (nat_lit 977, (⟨(.type "code"), none, .fields #[.str "check_fits" 1439, .str "check_fits" 1440, .str "/claim/cut.py" 1441, .int 425 0, .int 3 0, .int 0 0, .int 0 0, .int 3 0, .ref 972, .bool true, .int 181 0, .ref 973, .none, .ref 974, .ref 975, .ref 976, .int 1447 0, .int 425 0, .str "/claim/cut.py" 1448], #[]⟩ : Obj)) ::
  (nat_lit 978, (⟨(.type "function"), none, .func (PySem.W.fnOf "check_fits" "check_fits" (defArgs sChkFits) (defBody sChkFits) (defScope sChkFits) .none .none .none (.str "openranges.rules" 1389) none (.ref 977) .none), #[]⟩ : Obj)) ::
  (nat_lit 984, (⟨(.type "code"), none, .fields #[.str "_check_functions" 1450, .str "_check_functions" 1451, .str "/claim/cut.py" 1452, .int 432 0, .int 1 0, .int 0 0, .int 0 0, .int 3 0, .ref 979, .bool true, .int 181 0, .ref 980, .none, .ref 981, .ref 982, .ref 983, .int 1456 0, .int 432 0, .str "/claim/cut.py" 1457], #[]⟩ : Obj)) ::
  (nat_lit 985, (⟨(.type "function"), none, .func (PySem.W.fnOf "_check_functions" "_check_functions" (defArgs sChkFuns) (defBody sChkFuns) (defScope sChkFuns) .none .none .none (.str "openranges.rules" 1389) none (.ref 984) .none), #[]⟩ : Obj)) ::
  (nat_lit 1000, (⟨(.type "tuple"), none, .seq #[] 0, #[]⟩ : Obj)) ::
  (nat_lit 1001, (⟨(.type "tuple"), none, .seq #[.ref 1000] 0, #[]⟩ : Obj)) ::
  (nat_lit 1005, (⟨(.type "code"), none, .fields #[.str "__init__" 1488, .str "Places.__init__" 1489, .str "/claim/cut.py" 1490, .int 457 0, .int 2 0, .int 0 0, .int 0 0, .int 3 0, .ref 1002, .bool true, .int 181 0, .ref 1003, .none, .none, .none, .ref 1004, .int 1491 0, .int 457 0, .str "/claim/cut.py" 1492], #[]⟩ : Obj)) ::
  (nat_lit 1006, (⟨(.type "function"), none, .func (PySem.W.fnOf "__init__" "Places.__init__" (defArgs sPlInit) (defBody sPlInit) (defScope sPlInit) (.ref 1001) .none .none (.str "openranges.places" 1474) none (.ref 1005) .none), #[]⟩ : Obj)) ::
  (nat_lit 1033, (⟨(.type "code"), none, .fields #[.str "__getitem__" 1518, .str "Places.__getitem__" 1519, .str "/claim/cut.py" 1520, .int 477 0, .int 2 0, .int 0 0, .int 0 0, .int 3 0, .ref 1028, .bool true, .int 181 0, .ref 1029, .none, .ref 1030, .ref 1031, .ref 1032, .int 1524 0, .int 477 0, .str "/claim/cut.py" 1525], #[]⟩ : Obj)) ::
  (nat_lit 1034, (⟨(.type "function"), none, .func (PySem.W.fnOf "__getitem__" "Places.__getitem__" (defArgs sPlacesGetitem) (defBody sPlacesGetitem) (defScope sPlacesGetitem) .none .none .none (.str "openranges.places" 1474) none (.ref 1033) .none), #[]⟩ : Obj)) ::
  (nat_lit 1075, (⟨(.type "code"), none, .fields #[.str "size" 1566, .str "Places.size" 1567, .str "/claim/cut.py" 1568, .int 498 0, .int 1 0, .int 0 0, .int 0 0, .int 3 0, .ref 1070, .bool true, .int 181 0, .ref 1071, .none, .ref 1072, .ref 1073, .ref 1074, .int 1572 0, .int 498 0, .str "/claim/cut.py" 1573], #[]⟩ : Obj)) ::
  (nat_lit 1076, (⟨(.type "function"), none, .func (PySem.W.fnOf "size" "Places.size" (defArgs sPlacesSize) (defBody sPlacesSize) (defScope sPlacesSize) .none .none .none (.str "openranges.places" 1474) none (.ref 1075) .none), #[]⟩ : Obj)) ::
  (nat_lit 1082, (⟨(.type "code"), none, .fields #[.str "rank" 1575, .str "Places.rank" 1576, .str "/claim/cut.py" 1577, .int 504 0, .int 2 0, .int 0 0, .int 0 0, .int 3 0, .ref 1077, .bool true, .int 181 0, .ref 1078, .none, .ref 1079, .ref 1080, .ref 1081, .int 1583 0, .int 504 0, .str "/claim/cut.py" 1584], #[]⟩ : Obj)) ::
  (nat_lit 1083, (⟨(.type "function"), none, .func (PySem.W.fnOf "rank" "Places.rank" (defArgs sPlacesRank) (defBody sPlacesRank) (defScope sPlacesRank) .none .none .none (.str "openranges.places" 1474) none (.ref 1082) .none), #[]⟩ : Obj)) ::
  (nat_lit 1096, (⟨(.type "code"), none, .fields #[.str "greatest" 1593, .str "Places.greatest" 1594, .str "/claim/cut.py" 1595, .int 514 0, .int 1 0, .int 0 0, .int 0 0, .int 3 0, .ref 1091, .bool true, .int 181 0, .ref 1092, .none, .ref 1093, .ref 1094, .ref 1095, .int 1597 0, .int 514 0, .str "/claim/cut.py" 1598], #[]⟩ : Obj)) ::
  (nat_lit 1097, (⟨(.type "function"), none, .func (PySem.W.fnOf "greatest" "Places.greatest" (defArgs sPlacesGreatest) (defBody sPlacesGreatest) (defScope sPlacesGreatest) .none .none .none (.str "openranges.places" 1474) none (.ref 1096) .none), #[]⟩ : Obj)) ::
  (nat_lit 1139, (⟨(.type "classmethod"), (some 1138), .fields #[.ref 1137, .bool false], #[]⟩ : Obj)) ::
  (nat_lit 1142, (⟨(.type "dict"), none, .dict #[⟨PyData.keyHash P "__module__", (.str "__module__" 1483), (.str "openranges.places" 1474)⟩, ⟨PyData.keyHash P "__firstlineno__", (.str "__firstlineno__" 1487), (.int 455 1486)⟩, ⟨PyData.keyHash P "__init__", (.str "__init__" 1493), (.ref 1006)⟩, ⟨PyData.keyHash P "__eq__", (.str "__eq__" 1501), (.ref 1013)⟩, ⟨PyData.keyHash P "__bool__", (.str "__bool__" 1508), (.ref 1020)⟩, ⟨PyData.keyHash P "__contains__", (.str "__contains__" 1517), (.ref 1027)⟩, ⟨PyData.keyHash P "__getitem__", (.str "__getitem__" 1526), (.ref 1034)⟩, ⟨PyData.keyHash P "__iter__", (.str "__iter__" 1533), (.ref 1041)⟩, ⟨PyData.keyHash P "__or__", (.str "__or__" 1541), (.ref 1048)⟩, ⟨PyData.keyHash P "__and__", (.str "__and__" 1549), (.ref 1055)⟩, ⟨PyData.keyHash P "__sub__", (.str "__sub__" 1557), (.ref 1062)⟩, ⟨PyData.keyHash P "__xor__", (.str "__xor__" 1565), (.ref 1069)⟩, ⟨PyData.keyHash P "size", (.str "size" 1574), (.ref 1076)⟩, ⟨PyData.keyHash P "rank", (.str "rank" 1585), (.ref 1083)⟩, ⟨PyData.keyHash P "least", (.str "least" 1592), (.ref 1090)⟩, ⟨PyData.keyHash P "greatest", (.str "greatest" 1599), (.ref 1097)⟩, ⟨PyData.keyHash P "within", (.str "within" 1607), (.ref 1104)⟩, ⟨PyData.keyHash P "shifted", (.str "shifted" 1615), (.ref 1111)⟩, ⟨PyData.keyHash P "mirrored", (.str "mirrored" 1623), (.ref 1118)⟩, ⟨PyData.keyHash P "inner", (.str "inner" 1630), (.ref 1125)⟩, ⟨PyData.keyHash P "text", (.str "text" 1636), (.ref 1130)⟩, ⟨PyData.keyHash P "read", (.str "read" 1657), (.ref 1139)⟩, ⟨PyData.keyHash P "__static_attributes__", (.str "__static_attributes__" 1661), (.ref 1141)⟩, ⟨PyData.keyHash P "__dict__", (.str "__dict__" 1663), (.ref 1144)⟩, ⟨PyData.keyHash P "__weakref__", (.str "__weakref__" 1665), (.ref 1145)⟩, ⟨PyData.keyHash P "__doc__", (.str "__doc__" 1666), .none⟩, ⟨PyData.keyHash P "__hash__", (.str "__hash__" 1667), .none⟩] 5, #[]⟩ : Obj)) ::
  (nat_lit 1143, (⟨(.type "type"), none, .cls ⟨"Places", [.type "object"], [.ref 1143, .type "object"], 1142, "Places", true, [], [], false, none, false⟩, #[none, none, some (.str "Places" 1476), some (.str "Places" 1484), some (.builtin "object.__new__"), some (.bool true)]⟩ : Obj)) ::
  (nat_lit 1160, (⟨(.type "code"), none, .fields #[.str "_is_stretch" 1683, .str "_is_stretch" 1684, .str "/claim/cut.py" 1685, .int 552 0, .int 1 0, .int 0 0, .int 0 0, .int 3 0, .ref 1155, .bool true, .int 181 0, .ref 1156, .none, .ref 1157, .ref 1158, .ref 1159, .int 1689 0, .int 552 0, .str "/claim/cut.py" 1690], #[]⟩ : Obj)) ::
  (nat_lit 1161, (⟨(.type "function"), none, .func (PySem.W.fnOf "_is_stretch" "_is_stretch" (defArgs sIsStretch) (defBody sIsStretch) (defScope sIsStretch) .none .none .none (.str "openranges.places" 1474) none (.ref 1160) .none), #[]⟩ : Obj)) ::
  (nat_lit 1165, (⟨(.type "code"), none, .fields #[.str "_joined" 1692, .str "_joined" 1693, .str "/claim/cut.py" 1694, .int 557 0, .int 1 0, .int 0 0, .int 0 0, .int 3 0, .ref 1162, .bool true, .int 181 0, .ref 1163, .none, .none, .none, .ref 1164, .int 1695 0, .int 557 0, .str "/claim/cut.py" 1696], #[]⟩ : Obj)) ::
  (nat_lit 1166, (⟨(.type "function"), none, .func (PySem.W.fnOf "_joined" "_joined" (defArgs sJoined) (defBody sJoined) (defScope sJoined) .none .none .none (.str "openranges.places" 1474) none (.ref 1165) .none), #[]⟩ : Obj)) ::
  (nat_lit 1172, (⟨(.type "code"), none, .fields #[.str "_counts_before" 1698, .str "_counts_before" 1699, .str "/claim/cut.py" 1700, .int 565 0, .int 1 0, .int 0 0, .int 0 0, .int 3 0, .ref 1167, .bool true, .int 181 0, .ref 1168, .none, .ref 1169, .ref 1170, .ref 1171, .int 1706 0, .int 565 0, .str "/claim/cut.py" 1707], #[]⟩ : Obj)) ::
  (nat_lit 1173, (⟨(.type "function"), none, .func (PySem.W.fnOf "_counts_before" "_counts_before" (defArgs sCounts) (defBody sCounts) (defScope sCounts) .none .none .none (.str "openranges.places" 1474) none (.ref 1172) .none), #[]⟩ : Obj)) ::
  (nat_lit 1179, (⟨(.type "code"), none, .fields #[.str "_how_many_upto" 1709, .str "_how_many_upto" 1710, .str "/claim/cut.py" 1711, .int 572 0, .int 2 0, .int 0 0, .int 0 0, .int 3 0, .ref 1174, .bool true, .int 181 0, .ref 1175, .none, .ref 1176, .ref 1177, .ref 1178, .int 1717 0, .int 572 0, .str "/claim/cut.py" 1718], #[]⟩ : Obj)) ::
  (nat_lit 1180, (⟨(.type "function"), none, .func (PySem.W.fnOf "_how_many_upto" "_how_many_upto" (defArgs pHowManyUpto) (defBody pHowManyUpto) (defScope pHowManyUpto) .none .none .none (.str "openranges.places" 1474) none (.ref 1179) .none), #[]⟩ : Obj)) ::
  (nat_lit 1212, (⟨(.type "code"), none, .fields #[.str "_law_pen_of" 1759, .str "_law_pen_of" 1760, .str "/claim/cut.py" 1761, .int 608 0, .int 1 0, .int 0 0, .int 0 0, .int 3 0, .ref 1207, .bool true, .int 181 0, .ref 1208, .none, .ref 1209, .ref 1210, .ref 1211, .int 1763 0, .int 608 0, .str "/claim/cut.py" 1764], #[]⟩ : Obj)) ::
  (nat_lit 1213, (⟨(.type "function"), none, .func (PySem.W.fnOf "_law_pen_of" "_law_pen_of" (defArgs sPenOf) (defBody sPenOf) (defScope sPenOf) .none .none .none (.str "law_openranges_k26_rules_refused" 1757) none (.ref 1212) .none), #[]⟩ : Obj)) ::
  (nat_lit 1219, (⟨(.type "code"), none, .fields #[.str "_law_draw" 1766, .str "_law_draw" 1767, .str "/claim/cut.py" 1768, .int 610 0, .int 2 0, .int 0 0, .int 0 0, .int 3 0, .ref 1214, .bool true, .int 181 0, .ref 1215, .none, .ref 1216, .ref 1217, .ref 1218, .int 1776 0, .int 610 0, .str "/claim/cut.py" 1777], #[]⟩ : Obj)) ::
  (nat_lit 1220, (⟨(.type "function"), none, .func (PySem.W.fnOf "_law_draw" "_law_draw" (defArgs sDraw) (defBody sDraw) (defScope sDraw) .none .none .none (.str "law_openranges_k26_rules_refused" 1757) none (.ref 1219) .none), #[]⟩ : Obj)) ::
  (nat_lit 1226, (⟨(.type "code"), none, .fields #[.str "_law_pick" 1779, .str "_law_pick" 1780, .str "/claim/cut.py" 1781, .int 624 0, .int 2 0, .int 0 0, .int 0 0, .int 3 0, .ref 1221, .bool true, .int 181 0, .ref 1222, .none, .ref 1223, .ref 1224, .ref 1225, .int 1784 0, .int 624 0, .str "/claim/cut.py" 1785], #[]⟩ : Obj)) ::
  (nat_lit 1227, (⟨(.type "function"), none, .func (PySem.W.fnOf "_law_pick" "_law_pick" (defArgs sPick) (defBody sPick) (defScope sPick) .none .none .none (.str "law_openranges_k26_rules_refused" 1757) none (.ref 1226) .none), #[]⟩ : Obj)) ::
  (nat_lit 1231, (⟨(.type "code"), none, .fields #[.str "_law_words_of" 1787, .str "_law_words_of" 1788, .str "/claim/cut.py" 1789, .int 626 0, .int 2 0, .int 0 0, .int 0 0, .int 3 0, .ref 1228, .bool true, .int 181 0, .ref 1229, .none, .none, .none, .ref 1230, .int 1790 0, .int 626 0, .str "/claim/cut.py" 1791], #[]⟩ : Obj)) ::
  (nat_lit 1232, (⟨(.type "function"), none, .func (PySem.W.fnOf "_law_words_of" "_law_words_of" (defArgs sWordsOf) (defBody sWordsOf) (defScope sWordsOf) .none .none .none (.str "law_openranges_k26_rules_refused" 1757) none (.ref 1231) .none), #[]⟩ : Obj)) ::
  (nat_lit 1236, (⟨(.type "code"), none, .fields #[.str "_law_normal" 1793, .str "_law_normal" 1794, .str "/claim/cut.py" 1795, .int 632 0, .int 1 0, .int 0 0, .int 0 0, .int 3 0, .ref 1233, .bool true, .int 181 0, .ref 1234, .none, .none, .none, .ref 1235, .int 1796 0, .int 632 0, .str "/claim/cut.py" 1797], #[]⟩ : Obj)) ::
  (nat_lit 1237, (⟨(.type "function"), none, .func (PySem.W.fnOf "_law_normal" "_law_normal" (defArgs sNormal) (defBody sNormal) (defScope sNormal) .none .none .none (.str "law_openranges_k26_rules_refused" 1757) none (.ref 1236) .none), #[]⟩ : Obj)) ::
  (nat_lit 1243, (⟨(.type "code"), none, .fields #[.str "_law_near" 1799, .str "_law_near" 1800, .str "/claim/cut.py" 1801, .int 641 0, .int 2 0, .int 0 0, .int 0 0, .int 3 0, .ref 1238, .bool true, .int 181 0, .ref 1239, .none, .ref 1240, .ref 1241, .ref 1242, .int 1805 0, .int 641 0, .str "/claim/cut.py" 1806], #[]⟩ : Obj)) ::
  (nat_lit 1244, (⟨(.type "function"), none, .func (PySem.W.fnOf "_law_near" "_law_near" (defArgs sNear) (defBody sNear) (defScope sNear) .none .none .none (.str "law_openranges_k26_rules_refused" 1757) none (.ref 1243) .none), #[]⟩ : Obj)) ::
  (nat_lit 1250, (⟨(.type "code"), none, .fields #[.str "_law_stretches" 1808, .str "_law_stretches" 1809, .str "/claim/cut.py" 1810, .int 646 0, .int 3 0, .int 0 0, .int 0 0, .int 3 0, .ref 1245, .bool true, .int 181 0, .ref 1246, .none, .ref 1247, .ref 1248, .ref 1249, .int 1818 0, .int 646 0, .str "/claim/cut.py" 1819], #[]⟩ : Obj)) ::
  (nat_lit 1251, (⟨(.type "function"), none, .func (PySem.W.fnOf "_law_stretches" "_law_stretches" (defArgs sStretches) (defBody sStretches) (defScope sStretches) .none .none .none (.str "law_openranges_k26_rules_refused" 1757) none (.ref 1250) .none), #[]⟩ : Obj)) ::
  (nat_lit 1255, (⟨(.type "code"), none, .fields #[.str "_law_worth" 1821, .str "_law_worth" 1822, .str "/claim/cut.py" 1823, .int 656 0, .int 6 0, .int 0 0, .int 0 0, .int 3 0, .ref 1252, .bool true, .int 181 0, .ref 1253, .none, .none, .none, .ref 1254, .int 1824 0, .int 656 0, .str "/claim/cut.py" 1825], #[]⟩ : Obj)) ::
  (nat_lit 1256, (⟨(.type "function"), none, .func (PySem.W.fnOf "_law_worth" "_law_worth" (defArgs sWorth) (defBody sWorth) (defScope sWorth) .none .none .none (.str "law_openranges_k26_rules_refused" 1757) none (.ref 1255) .none), #[]⟩ : Obj)) ::
  (nat_lit 1262, (⟨(.type "code"), none, .fields #[.str "_law_slope_of" 1827, .str "_law_slope_of" 1828, .str "/claim/cut.py" 1829, .int 664 0, .int 2 0, .int 0 0, .int 0 0, .int 3 0, .ref 1257, .bool true, .int 181 0, .ref 1258, .none, .ref 1259, .ref 1260, .ref 1261, .int 1833 0, .int 664 0, .str "/claim/cut.py" 1834], #[]⟩ : Obj)) ::
  (nat_lit 1263, (⟨(.type "function"), none, .func (PySem.W.fnOf "_law_slope_of" "_law_slope_of" (defArgs sSlopeOf) (defBody sSlopeOf) (defScope sSlopeOf) .none .none .none (.str "law_openranges_k26_rules_refused" 1757) none (.ref 1262) .none), #[]⟩ : Obj)) ::
  (nat_lit 1267, (⟨(.type "code"), none, .fields #[.str "_law_number_clause" 1836, .str "_law_number_clause" 1837, .str "/claim/cut.py" 1838, .int 667 0, .int 6 0, .int 0 0, .int 0 0, .int 3 0, .ref 1264, .bool true, .int 181 0, .ref 1265, .none, .none, .none, .ref 1266, .int 1839 0, .int 667 0, .str "/claim/cut.py" 1840], #[]⟩ : Obj)) ::
  (nat_lit 1268, (⟨(.type "function"), none, .func (PySem.W.fnOf "_law_number_clause" "_law_number_clause" (defArgs sNumberClause) (defBody sNumberClause) (defScope sNumberClause) .none .none .none (.str "law_openranges_k26_rules_refused" 1757) none (.ref 1267) .none), #[]⟩ : Obj)) ::
  (nat_lit 1272, (⟨(.type "code"), none, .fields #[.str "_law_clause_of" 1842, .str "_law_clause_of" 1843, .str "/claim/cut.py" 1844, .int 686 0, .int 2 0, .int 0 0, .int 0 0, .int 3 0, .ref 1269, .bool true, .int 181 0, .ref 1270, .none, .none, .none, .ref 1271, .int 1845 0, .int 686 0, .str "/claim/cut.py" 1846], #[]⟩ : Obj)) ::
  (nat_lit 1273, (⟨(.type "function"), none, .func (PySem.W.fnOf "_law_clause_of" "_law_clause_of" (defArgs sClauseOf) (defBody sClauseOf) (defScope sClauseOf) .none .none .none (.str "law_openranges_k26_rules_refused" 1757) none (.ref 1272) .none), #[]⟩ : Obj)) ::
  (nat_lit 1279, (⟨(.type "code"), none, .fields #[.str "_law_world_of" 1848, .str "_law_world_of" 1849, .str "/claim/cut.py" 1850, .int 700 0, .int 3 0, .int 0 0, .int 0 0, .int 3 0, .ref 1274, .bool true, .int 181 0, .ref 1275, .none, .ref 1276, .ref 1277, .ref 1278, .int 1862 0, .int 700 0, .str "/claim/cut.py" 1863], #[]⟩ : Obj)) ::
  (nat_lit 1280, (⟨(.type "function"), none, .func (PySem.W.fnOf "_law_world_of" "_law_world_of" (defArgs sWorldOf) (defBody sWorldOf) (defScope sWorldOf) .none .none .none (.str "law_openranges_k26_rules_refused" 1757) none (.ref 1279) .none), #[]⟩ : Obj)) ::
  (nat_lit 1286, (⟨(.type "code"), none, .fields #[.str "_law_made_of" 1865, .str "_law_made_of" 1866, .str "/claim/cut.py" 1867, .int 721 0, .int 1 0, .int 0 0, .int 0 0, .int 3 0, .ref 1281, .bool true, .int 181 0, .ref 1282, .none, .ref 1283, .ref 1284, .ref 1285, .int 1872 0, .int 721 0, .str "/claim/cut.py" 1873], #[]⟩ : Obj)) ::
  (nat_lit 1287, (⟨(.type "function"), none, .func (PySem.W.fnOf "_law_made_of" "_law_made_of" (defArgs sMadeOf) (defBody sMadeOf) (defScope sMadeOf) .none .none .none (.str "law_openranges_k26_rules_refused" 1757) none (.ref 1286) .none), #[]⟩ : Obj)) ::
  (nat_lit 1293, (⟨(.type "code"), none, .fields #[.str "_law_refusal" 1875, .str "_law_refusal" 1876, .str "/claim/cut.py" 1877, .int 732 0, .int 3 0, .int 0 0, .int 0 0, .int 3 0, .ref 1288, .bool true, .int 181 0, .ref 1289, .none, .ref 1290, .ref 1291, .ref 1292, .int 1882 0, .int 732 0, .str "/claim/cut.py" 1883], #[]⟩ : Obj)) ::
  (nat_lit 1294, (⟨(.type "function"), none, .func (PySem.W.fnOf "_law_refusal" "_law_refusal" (defArgs sRefusal) (defBody sRefusal) (defScope sRefusal) .none .none .none (.str "law_openranges_k26_rules_refused" 1757) none (.ref 1293) .none), #[]⟩ : Obj)) ::
  (nat_lit 1298, (⟨(.type "code"), none, .fields #[.str "_law_is_word" 1885, .str "_law_is_word" 1886, .str "/claim/cut.py" 1887, .int 750 0, .int 1 0, .int 0 0, .int 0 0, .int 3 0, .ref 1295, .bool true, .int 181 0, .ref 1296, .none, .none, .none, .ref 1297, .int 1888 0, .int 750 0, .str "/claim/cut.py" 1889], #[]⟩ : Obj)) ::
  (nat_lit 1299, (⟨(.type "function"), none, .func (PySem.W.fnOf "_law_is_word" "_law_is_word" (defArgs sLIsWord) (defBody sLIsWord) (defScope sLIsWord) .none .none .none (.str "law_openranges_k26_rules_refused" 1757) none (.ref 1298) .none), #[]⟩ : Obj)) ::
  (nat_lit 1303, (⟨(.type "code"), none, .fields #[.str "_law_due" 1891, .str "_law_due" 1892, .str "/claim/cut.py" 1893, .int 754 0, .int 3 0, .int 0 0, .int 0 0, .int 3 0, .ref 1300, .bool true, .int 181 0, .ref 1301, .none, .none, .none, .ref 1302, .int 1894 0, .int 754 0, .str "/claim/cut.py" 1895], #[]⟩ : Obj)) ::
  (nat_lit 1304, (⟨(.type "function"), none, .func (PySem.W.fnOf "_law_due" "_law_due" (defArgs sDue) (defBody sDue) (defScope sDue) .none .none .none (.str "law_openranges_k26_rules_refused" 1757) none (.ref 1303) .none), #[]⟩ : Obj)) ::
  (nat_lit 1308, (⟨(.type "code"), none, .fields #[.str "law" 1897, .str "law" 1898, .str "/claim/cut.py" 1899, .int 779 0, .int 1 0, .int 0 0, .int 0 0, .int 3 0, .ref 1305, .bool true, .int 181 0, .ref 1306, .none, .none, .none, .ref 1307, .int 1900 0, .int 779 0, .str "/claim/cut.py" 1901], #[]⟩ : Obj)) ::
  (nat_lit 1309, (⟨(.type "function"), none, .func (PySem.W.fnOf "law" "law" (defArgs sLaw) (defBody sLaw) (defScope sLaw) .none .none .none (.str "law_openranges_k26_rules_refused" 1757) none (.ref 1308) .none), #[]⟩ : Obj)) :: []
end OR

namespace OR
open PySem PySem.Spec PyProof.Rows L2
set_option maxHeartbeats 0 in
set_option maxHeartbeats 0 in
theorem all_mk {l : PySem.W.OpenLaw} {w : World} {K : PySem.W.Frag} {h : Heap} {mg : Str → Option Value} {fa CP CR CE c0 c1 c2 c3 c4 c5 c6 e0 e1 e2 e3 e4 e5 e6 : Addr} (X : K.In h) (G : h.Ns mainGlobals mg) (hfa : mg "law" = some (.ref fa)) (L : PAt K CP) (LR : RAt K CR) (Z : ZAt K)
    (z_str : PySem.W.nsIn K mainGlobals "str" = some none) (z_all : PySem.W.nsIn K mainGlobals "all" = some none) (z_ValueError : PySem.W.nsIn K mainGlobals "ValueError" = some none) (lp : ∃ t, mg "LAST_PLACE" = some (.int lastP t))
    (let_ : ∃ t, PySem.W.nsIn K mainGlobals "_LETTERS" = some (some (.str "abcdefghijklmnopqrstuvwxyz" t))) (most : ∃ t, PySem.W.nsIn K mainGlobals "_MOST_LETTERS" = some (some (.int 8 t))) (tS : TpAt K "SIGNS" ["<=", ">=", "="]) (tW : TpAt K "WAYS" ["up", "down"])
    (mfun : ∃ t, PySem.W.nsIn K mainGlobals "MOST_FUNCTIONS" = some (some (.int 3 t))) (mcl : ∃ t, PySem.W.nsIn K mainGlobals "_MOST_CLAUSES" = some (some (.int 60 t)))
    (k0 : CAt K c0 "Answers" ["kind", "function", "places"]) (k1 : CAt K c1 "Refuses" ["kind", "function", "places"]) (k2 : CAt K c2 "Needs" ["kind", "function", "places", "other"]) (k3 : CAt K c3 "Spreads" ["kind", "function", "places", "way"]) (k4 : CAt K c4 "Bound" ["kind", "function", "places", "sign", "slope", "height"]) (k5 : CAt K c5 "Pair" ["kind", "function", "places", "sign", "other", "slope", "height"]) (k6 : CAt K c6 "Step" ["kind", "function", "places", "sign", "height"]) (k7 : K7 K c0 c1 c2 c3 c4 c5 c6) (n7 : N7 K c0 c1 c2 c3 c4 c5 c6) (x7 : X7 K e0 e1 e2 e3 e4 e5 e6)
    (mI : MtD K CP "__init__" "Places.__init__" sPlInit) (fDI : FnAt K "is_integer" sIsInt) (fDP : FnAt K "is_place" sIsPlace) (fDS : FnAt K "_is_stretch" sIsStretch) (fDJ : FnAt K "_joined" sJoined) (fDC : FnAt K "_counts_before" sCounts) (hGRP : MtAt K CP "greatest" "greatest" "Places.greatest" sPlacesGreatest) (fIW : FnAt K "is_word" sIsWord) (fCW : FnAt K "check_word" sChkW) (fCT2 : FnAt K "check_two_words" sChkTwo) (fCS : FnAt K "check_sign" sChkSign) (mI0 : MtAt K c0 "__init__" "__init__" "Answers.__init__" sAnsInit) (hmT0 : MtAt K c0 "functions_told" "functions_told" "Answers.functions_told" sAnsTold) (mI1 : MtAt K c1 "__init__" "__init__" "Refuses.__init__" sRefInit) (hmT1 : MtAt K c1 "functions_told" "functions_told" "Refuses.functions_told" sRefTold) (mI2 : MtAt K c2 "__init__" "__init__" "Needs.__init__" sNeeInit) (hmT2 : MtAt K c2 "functions_told" "functions_told" "Needs.functions_told" sNeeTold) (mI3 : MtAt K c3 "__init__" "__init__" "Spreads.__init__" sSprInit) (hmT3 : MtAt K c3 "functions_told" "functions_told" "Spreads.functions_told" sSprTold) (mI4 : MtAt K c4 "__init__" "__init__" "Bound.__init__" sBouInit) (hmT4 : MtAt K c4 "functions_told" "functions_told" "Bound.functions_told" sBouTold) (mI5 : MtAt K c5 "__init__" "__init__" "Pair.__init__" sPaiInit) (hmT5 : MtAt K c5 "functions_told" "functions_told" "Pair.functions_told" sPaiTold) (mI6 : MtAt K c6 "__init__" "__init__" "Step.__init__" sSteInit) (hmT6 : MtAt K c6 "functions_told" "functions_told" "Step.functions_told" sSteTold) (eE0 : ErAt K "BadFunctions" "BadFunctions.__init__" "count" sBadFunctionsInit e0 CE) (eE1 : ErAt K "BadWord" "BadWord.__init__" "word" sBadWordInit e1 CE) (eE2 : ErAt K "Twice" "Twice.__init__" "word" sTwiceInit e2 CE) (eE3 : ErAt K "NoPlace" "NoPlace.__init__" "place" sNoPlaceInit e3 CE) (eE4 : ErAt K "TooMany" "TooMany.__init__" "count" sTooManyInit e4 CE) (eE5 : ErAt K "NoClause" "NoClause.__init__" "index" sNoClauseInit e5 CE) (eE6 : ErAt K "NoFunction" "NoFunction.__init__" "function" sNoFunctionInit e6 CE) (fDHow : FnAt K "_how_many_upto" pHowManyUpto) (hSZ : MtAt K CP "size" "size" "Places.size" sPlacesSize) (hRK : MtAt K CP "rank" "rank" "Places.rank" sPlacesRank) (hGET : MtAt K CP "__getitem__" "__getitem__" "Places.__getitem__" sPlacesGetitem) (fICX : FnAt K "is_clause" sIsClause) (fKFX : FnAt K "check_fits" sChkFits) (fCFX : FnAt K "_check_functions" sChkFuns) (mIR : MtAt K CR "__init__" "__init__" "Rules.__init__" sRuInit) (fDPen : FnAt K "_law_pen_of" sPenOf) (fDDraw : FnAt K "_law_draw" sDraw) (fDPick : FnAt K "_law_pick" sPick) (fDWords : FnAt K "_law_words_of" sWordsOf) (fDNormal : FnAt K "_law_normal" sNormal) (fDNear : FnAt K "_law_near" sNear) (fDStr : FnAt K "_law_stretches" sStretches) (fDWorth : FnAt K "_law_worth" sWorth) (fDSlope : FnAt K "_law_slope_of" sSlopeOf) (fDNum : FnAt K "_law_number_clause" sNumberClause) (fDClause : FnAt K "_law_clause_of" sClauseOf) (fDWorld : FnAt K "_law_world_of" sWorldOf) (fDMade : FnAt K "_law_made_of" sMadeOf) (fDRefusal : FnAt K "_law_refusal" sRefusal) (fDLIW : FnAt K "_law_is_word" sLIsWord) (fDDue : FnAt K "_law_due" sDue) (fLaw : FnAt K "law" sLaw) :
    ∃ fd : FuncData, (∀ (s : Shared) (v : Value), BindsTo s fd ⟨[v], []⟩ [("_law_script", v)]) ∧ ∀ base : Heap, K.In base → base.Ns mainGlobals mg → FnOk l.prog w K mg base CX0 9 fa fd ["_law_script"] (spLaw K) := by
  obtain ⟨f, fd, F, e⟩ := fLaw.ex
  have e := hfa.symm.trans (PySem.W.mg_of X G e)
  cases e
  refine ⟨fd, fun s v => ?_, fun base _ _ => ?_⟩
  · obtain ⟨oc, od, kV, doc, pm, an, cdv, ct, osl, rfl, _⟩ := F.ex
    exact .of_eq rfl
  have PT : PTxt K mg CP := L.txt X G Z lp
  have none : ∀ {x : Str}, PySem.W.nsIn K mainGlobals x = some none → mg x = none := fun z => PySem.W.mg_none_of X G z
  have BL : Bl mg := ⟨none Z.int, none Z.len, none Z.abs, none Z.list⟩
  have B : Bd mg := ⟨none Z.range, none Z.min, none Z.max, none Z.int, none Z.len, none Z.list, none Z.set, none Z.sorted⟩
  have RT : RTxt K mg CR := LR.txt X G mfun mcl
  obtain ⟨ts, gS, hS⟩ := tS.ex
  obtain ⟨tw, gW, hW⟩ := tW.ex
  have WT : WTxt K mg ts tw := ⟨none Z.isi, none z_str, none Z.len, none z_all, let_.imp fun t e => PySem.W.mg_of X G e, most.imp fun t e => PySem.W.mg_of X G e, PySem.W.mg_of X G gS, PySem.W.mg_of X G gW, hS, hW⟩
  let C : Nat → Addr := cf c0 c1 c2 c3 c4 c5 c6
  have CT : CTxt K mg C := ⟨all7 ⟨k0.pg, k0.hd, k0.po, k0.sa⟩ ⟨k1.pg, k1.hd, k1.po, k1.sa⟩ ⟨k2.pg, k2.hd, k2.po, k2.sa⟩ ⟨k3.pg, k3.hd, k3.po, k3.sa⟩ ⟨k4.pg, k4.hd, k4.po, k4.sa⟩ ⟨k5.pg, k5.hd, k5.po, k5.sa⟩ ⟨k6.pg, k6.hd, k6.po, k6.sa⟩, all7 k0.no k1.no k2.no k3.no k4.no k5.no k6.no, all7 ⟨k0.ca, k0.cn, k0.ct, k0.cm⟩ ⟨k1.ca, k1.cn, k1.ct, k1.cm⟩ ⟨k2.ca, k2.cn, k2.ct, k2.cm⟩ ⟨k3.ca, k3.cn, k3.ct, k3.cm⟩ ⟨k4.ca, k4.cn, k4.ct, k4.cm⟩ ⟨k5.ca, k5.cn, k5.ct, k5.cm⟩ ⟨k6.ca, k6.cn, k6.ct, k6.cm⟩, k7.kk, all7 (PySem.W.mg_of X G k0.aC) (PySem.W.mg_of X G k1.aC) (PySem.W.mg_of X G k2.aC) (PySem.W.mg_of X G k3.aC) (PySem.W.mg_of X G k4.aC) (PySem.W.mg_of X G k5.aC) (PySem.W.mg_of X G k6.aC), all7 k0.sf k1.sf k2.sf k3.sf k4.sf k5.sf k6.sf, all7 k0.ne k1.ne k2.ne k3.ne k4.ne k5.ne k6.ne, all7 k0.kS k1.kS k2.kS k3.kS k4.kS k5.kS k6.kS, all7 k0.kT k1.kT k2.kT k3.kT k4.kT k5.kT k6.kT⟩
  let EC : Nat → Addr := cf e0 e1 e2 e3 e4 e5 e6
  have NKC : NK K C := n7.nk
  have DI : Cl l.prog w K mg base 1 "is_integer" ["value"] (spIsIntG K) := cl_of fDI X G (fun _ _ _ _ _ _ us hl => match us, hl with | [_], _ => rfl) fun f fd F => ok_isintG F PT
  have DP : Cl l.prog w K mg base 2 "is_place" ["value"] (spIsPlace K) := cl_of fDP X G (fun _ _ _ _ _ _ us hl => match us, hl with | [_], _ => rfl) fun f fd F => ok_isplace F PT DI
  have DS : Cl l.prog w K mg base 3 "_is_stretch" ["value"] spIsStretchP := cl_of fDS X G (fun _ _ _ _ _ _ us hl => match us, hl with | [_], _ => rfl) fun f fd F => ok_isstretch F PT DP
  have DJ : Cl l.prog w K mg base 1 "_joined" ["stretches"] (spJoined K) := cl_of fDJ X G (fun _ _ _ _ _ _ us hl => match us, hl with | [_], _ => rfl) fun f fd F => ok_joined F PT
  have DC : Cl l.prog w K mg base 1 "_counts_before" ["stretches"] (spCounts K) := cl_of fDC X G (fun _ _ _ _ _ _ us hl => match us, hl with | [_], _ => rfl) fun f fd F => ok_counts F PT
  have PM : PMk' l.prog w K mg base CP := pmk_of PT L mI DS DJ DC
  have GRP : Mt l.prog w K mg base 1 CP "greatest" ["self"] (spLeast CP greatV) := mt_of hGRP (ps := ["self"]) (fun _ _ _ _ _ _ us hl => match us, hl with | [_], _ => rfl) fun f fd F => ok_great F PT
  have IW : Cl l.prog w K mg base 1 "is_word" ["value"] spIsWord := cl_of fIW X G (fun _ _ _ _ _ _ us hl => match us, hl with | [_], _ => rfl) fun f fd F => ok_isword F WT
  have CW : Cl l.prog w K mg base 2 "check_word" ["value"] spChkW := cl_of fCW X G (fun _ _ _ _ _ _ us hl => match us, hl with | [_], _ => rfl) fun f fd F => ok_chkw F IW
  have CT2 : Cl l.prog w K mg base 3 "check_two_words" ["function", "other"] spChkTwo := cl_of fCT2 X G (fun _ _ _ _ _ _ us hl => match us, hl with | [_, _], _ => rfl) fun f fd F => ok_chktwo F CW
  have CS : Cl l.prog w K mg base 1 "check_sign" ["value", "allowed"] (spChkS K) := cl_of fCS X G (fun _ _ _ _ _ _ us hl => match us, hl with | [_, _], _ => rfl) fun f fd F => ok_chks F
  have M0 : CMk l.prog w K mg base C 0 ["self", "function", "places"] := ⟨by
    obtain ⟨f, fd, F, a, b, c⟩ := mI0.ex
    exact ⟨f, fd, ⟨k0.mks, a, b, k0.kc⟩, ok_AnsI F CT CW, F.binds (fun _ _ _ _ _ _ us hl => match us, hl with | [_, _, _], _ => rfl)⟩, CT.mgC 0 (by decide)⟩
  have mT0 : Mt l.prog w K mg base 1 c0 "functions_told" ["self"] (spCTold CP C 0) := mt_of hmT0 (ps := ["self"]) (fun _ _ _ _ _ _ us hl => match us, hl with | [_], _ => rfl) fun f fd F => ok_AnsF F CT
  have M1 : CMk l.prog w K mg base C 1 ["self", "function", "places"] := ⟨by
    obtain ⟨f, fd, F, a, b, c⟩ := mI1.ex
    exact ⟨f, fd, ⟨k1.mks, a, b, k1.kc⟩, ok_RefI F CT CW, F.binds (fun _ _ _ _ _ _ us hl => match us, hl with | [_, _, _], _ => rfl)⟩, CT.mgC 1 (by decide)⟩
  have mT1 : Mt l.prog w K mg base 1 c1 "functions_told" ["self"] (spCTold CP C 1) := mt_of hmT1 (ps := ["self"]) (fun _ _ _ _ _ _ us hl => match us, hl with | [_], _ => rfl) fun f fd F => ok_RefF F CT
  have M2 : CMk l.prog w K mg base C 2 ["self", "function", "places", "other"] := ⟨by
    obtain ⟨f, fd, F, a, b, c⟩ := mI2.ex
    exact ⟨f, fd, ⟨k2.mks, a, b, k2.kc⟩, ok_NeeI F CT CT2, F.binds (fun _ _ _ _ _ _ us hl => match us, hl with | [_, _, _, _], _ => rfl)⟩, CT.mgC 2 (by decide)⟩
  have mT2 : Mt l.prog w K mg base 1 c2 "functions_told" ["self"] (spCTold CP C 2) := mt_of hmT2 (ps := ["self"]) (fun _ _ _ _ _ _ us hl => match us, hl with | [_], _ => rfl) fun f fd F => ok_NeeF F CT
  have M3 : CMk l.prog w K mg base C 3 ["self", "function", "places", "way"] := ⟨by
    obtain ⟨f, fd, F, a, b, c⟩ := mI3.ex
    exact ⟨f, fd, ⟨k3.mks, a, b, k3.kc⟩, ok_SprI F CT CW CS WT, F.binds (fun _ _ _ _ _ _ us hl => match us, hl with | [_, _, _, _], _ => rfl)⟩, CT.mgC 3 (by decide)⟩
  have mT3 : Mt l.prog w K mg base 1 c3 "functions_told" ["self"] (spCTold CP C 3) := mt_of hmT3 (ps := ["self"]) (fun _ _ _ _ _ _ us hl => match us, hl with | [_], _ => rfl) fun f fd F => ok_SprF F CT
  have M4 : CMk l.prog w K mg base C 4 ["self", "function", "places", "sign", "slope", "height"] := ⟨by
    obtain ⟨f, fd, F, a, b, c⟩ := mI4.ex
    exact ⟨f, fd, ⟨k4.mks, a, b, k4.kc⟩, ok_BouI F CT CW CS WT, F.binds (fun _ _ _ _ _ _ us hl => match us, hl with | [_, _, _, _, _, _], _ => rfl)⟩, CT.mgC 4 (by decide)⟩
  have mT4 : Mt l.prog w K mg base 1 c4 "functions_told" ["self"] (spCTold CP C 4) := mt_of hmT4 (ps := ["self"]) (fun _ _ _ _ _ _ us hl => match us, hl with | [_], _ => rfl) fun f fd F => ok_BouF F CT
  have M5 : CMk l.prog w K mg base C 5 ["self", "function", "places", "sign", "other", "slope", "height"] := ⟨by
    obtain ⟨f, fd, F, a, b, c⟩ := mI5.ex
    exact ⟨f, fd, ⟨k5.mks, a, b, k5.kc⟩, ok_PaiI F CT CT2 CS WT, F.binds (fun _ _ _ _ _ _ us hl => match us, hl with | [_, _, _, _, _, _, _], _ => rfl)⟩, CT.mgC 5 (by decide)⟩
  have mT5 : Mt l.prog w K mg base 1 c5 "functions_told" ["self"] (spCTold CP C 5) := mt_of hmT5 (ps := ["self"]) (fun _ _ _ _ _ _ us hl => match us, hl with | [_], _ => rfl) fun f fd F => ok_PaiF F CT
  have M6 : CMk l.prog w K mg base C 6 ["self", "function", "places", "sign", "height"] := ⟨by
    obtain ⟨f, fd, F, a, b, c⟩ := mI6.ex
    exact ⟨f, fd, ⟨k6.mks, a, b, k6.kc⟩, ok_SteI F CT CW CS WT, F.binds (fun _ _ _ _ _ _ us hl => match us, hl with | [_, _, _, _, _], _ => rfl)⟩, CT.mgC 6 (by decide)⟩
  have mT6 : Mt l.prog w K mg base 1 c6 "functions_told" ["self"] (spCTold CP C 6) := mt_of hmT6 (ps := ["self"]) (fun _ _ _ _ _ _ us hl => match us, hl with | [_], _ => rfl) fun f fd F => ok_SteF F CT
  have TO : ∀ i, i < 7 → Mt l.prog w K mg base 1 (C i) "functions_told" ["self"] (spCTold CP C i) := all7 mT0 mT1 mT2 mT3 mT4 mT5 mT6
  have E0 : ErK l.prog w K mg base "BadFunctions" "count" (EC 0) CE := er_of X G eE0 (none z_ValueError) (fun _ _ _ _ _ _ us hl => match us, hl with | [_, _], _ => rfl) fun f fd F T => ok_erBf F T
  have E1 : ErK l.prog w K mg base "BadWord" "word" (EC 1) CE := er_of X G eE1 (none z_ValueError) (fun _ _ _ _ _ _ us hl => match us, hl with | [_, _], _ => rfl) fun f fd F T => ok_erBw F T
  have E2 : ErK l.prog w K mg base "Twice" "word" (EC 2) CE := er_of X G eE2 (none z_ValueError) (fun _ _ _ _ _ _ us hl => match us, hl with | [_, _], _ => rfl) fun f fd F T => ok_erTw F T
  have E3 : ErK l.prog w K mg base "NoPlace" "place" (EC 3) CE := er_of X G eE3 (none z_ValueError) (fun _ _ _ _ _ _ us hl => match us, hl with | [_, _], _ => rfl) fun f fd F T => ok_erNp F T
  have E4 : ErK l.prog w K mg base "TooMany" "count" (EC 4) CE := er_of X G eE4 (none z_ValueError) (fun _ _ _ _ _ _ us hl => match us, hl with | [_, _], _ => rfl) fun f fd F T => ok_erTm F T
  have E5 : ErK l.prog w K mg base "NoClause" "index" (EC 5) CE := er_of X G eE5 (none z_ValueError) (fun _ _ _ _ _ _ us hl => match us, hl with | [_, _], _ => rfl) fun f fd F T => ok_erNc F T
  have E6 : ErK l.prog w K mg base "NoFunction" "function" (EC 6) CE := er_of X G eE6 (none z_ValueError) (fun _ _ _ _ _ _ us hl => match us, hl with | [_, _], _ => rfl) fun f fd F T => ok_erNf F T
  have IWV : Cl l.prog w K mg base 1 "is_word" ["value"] spIsWordV := cl_of fIW X G (fun _ _ _ _ _ _ us hl => match us, hl with | [_], _ => rfl) fun f fd F => ok_iswordV F WT
  have KWX : ClX l.prog w K mg base 3 "check_word" ["value"] (spChkWX (EC 1)) := clX_of fCW X G (fun _ _ _ _ _ _ us hl => match us, hl with | [_], _ => rfl) fun f fd F => ok_chkwX F E1 IWV
  have DHow : Cl l.prog w K mg base 1 "_how_many_upto" ["numbers", "x"] (spHow K) := cl_of fDHow X G (fun _ _ _ _ _ _ us hl => match us, hl with | [_, _], _ => rfl) fun f fd F => ok_how F PT
  have SZ : Mt l.prog w K mg base 1 CP "size" ["self"] (spSize CP) := mt_of hSZ (ps := ["self"]) (fun _ _ _ _ _ _ us hl => match us, hl with | [_], _ => rfl) fun f fd F => ok_size F PT
  have RK : Mt l.prog w K mg base 2 CP "rank" ["self", "x"] (spRank CP) := mt_of hRK (ps := ["self", "x"]) (fun _ _ _ _ _ _ us hl => match us, hl with | [_, _], _ => rfl) fun f fd F => ok_rank F PT (none Z.min) DHow
  obtain ⟨gi, gd, gF, gs, gf, gn⟩ := hGET.ex
  obtain ⟨npI, npd, npT, npF, npb⟩ := E3.ex
  have GET : FnR l.prog w K mg base (L2.CX l.prog w) 3 gi (spGet CP (EC 3)) := fnR_ofX (ok_get gF PT npT npF npb DI DHow SZ) (gF.binds (fun _ _ _ _ _ _ us hl => match us, hl with | [_, _], _ => rfl))
  have ICX : Cl l.prog w K mg base 1 "is_clause" ["value"] (spIsClauseX CP C) := cl_of fICX X G (fun _ _ _ _ _ _ us hl => match us, hl with | [_], _ => rfl) fun f fd F => ok_isclauseX F CT NKC PT
  have KFX : ClX l.prog w K mg base 5 "check_fits" ["clause", "functions", "last"] (spFitsX K CP C EC) := clX_of fKFX X G (fun _ _ _ _ _ _ us hl => match us, hl with | [_, _, _], _ => rfl) fun f fd F => ok_fitsX F CT PT E6 E3 TO GRP RK GET gs gf gn
  have CFX : ClX l.prog w K mg base 4 "_check_functions" ["functions"] (spChkFunsX K EC) := clX_of fCFX X G (fun _ _ _ _ _ _ us hl => match us, hl with | [_], _ => rfl) fun f fd F => ok_chkfunsX F PT RT E0 E2 KWX
  have RMX : RMkX l.prog w K mg base CR CP C EC := ⟨by
    obtain ⟨f, fd, F, a, b, c⟩ := mIR.ex
    exact ⟨f, fd, ⟨LR.mks, a, b, LR.kc⟩, ok_ruinitX F PT RT E3 E4 E5 CFX DP ICX KFX, F.binds (fun _ _ _ _ _ _ us hl => match us, hl with | [_, _, _, _], _ => rfl)⟩, RT.mgC⟩
  have DPen : Cl l.prog w K mg base 1 "_law_pen_of" ["_law_script"] (spPen K) := cl_of fDPen X G (fun _ _ _ _ _ _ us hl => match us, hl with | [_], _ => rfl) fun f fd F => ok_pen F BL
  have DDraw : Cl l.prog w K mg base 1 "_law_draw" ["_law_pen", "_law_many"] spDraw := cl_of fDDraw X G (fun _ _ _ _ _ _ us hl => match us, hl with | [_, _], _ => rfl) fun f fd F => ok_draw F BL
  have DPick : Cl l.prog w K mg base 2 "_law_pick" ["_law_pen", "_law_options"] (spPick K) := cl_of fDPick X G (fun _ _ _ _ _ _ us hl => match us, hl with | [_, _], _ => rfl) fun f fd F => ok_pick F BL DDraw
  have DPickS : Cl l.prog w K mg base 2 "_law_pick" ["_law_pen", "_law_options"] spPickS := cl_of fDPick X G (fun _ _ _ _ _ _ us hl => match us, hl with | [_, _], _ => rfl) fun f fd F => ok_pickS F BL DDraw
  have DWords : Cl l.prog w K mg base 3 "_law_words_of" ["_law_pen", "_law_many"] spWordsOf := cl_of fDWords X G (fun _ _ _ _ _ _ us hl => match us, hl with | [_, _], _ => rfl) fun f fd F => ok_words F B DPick DPickS
  have DNormal : Cl l.prog w K mg base 1 "_law_normal" ["_law_rows"] (spNormal K) := cl_of fDNormal X G (fun _ _ _ _ _ _ us hl => match us, hl with | [_], _ => rfl) fun f fd F => ok_normal F B
  have DNear : Cl l.prog w K mg base 3 "_law_near" ["_law_pen", "_law_world"] spNear := cl_of fDNear X G (fun _ _ _ _ _ _ us hl => match us, hl with | [_, _], _ => rfl) fun f fd F => ok_near F DDraw DPick
  have DStr : Cl l.prog w K mg base 4 "_law_stretches" ["_law_pen", "_law_world", "_law_most"] spStr := cl_of fDStr X G (fun _ _ _ _ _ _ us hl => match us, hl with | [_, _, _], _ => rfl) fun f fd F => ok_stretches F B DDraw DNear DNormal
  have DWorth : Cl l.prog w K mg base 3 "_law_worth" ["_law_pen", "_law_world", "_law_line", "_law_other", "_law_rows", "_law_sign"] (spWorth K) := cl_of fDWorth X G (fun _ _ _ _ _ _ us hl => match us, hl with | [_, _, _, _, _, _], _ => rfl) fun f fd F => ok_worth F B DPick
  have DSlope : Cl l.prog w K mg base 3 "_law_slope_of" ["_law_pen", "_law_world"] spSlope := cl_of fDSlope X G (fun _ _ _ _ _ _ us hl => match us, hl with | [_, _], _ => rfl) fun f fd F => ok_slope F DPick
  have DNum : Cl l.prog w K mg base 4 "_law_number_clause" ["_law_pen", "_law_world", "_law_kind", "_law_f", "_law_rows", "_law_sign"] spNumCl := cl_of fDNum X G (fun _ _ _ _ _ _ us hl => match us, hl with | [_, _, _, _, _, _], _ => rfl) fun f fd F => ok_numcl F DDraw DPick DSlope DWorth
  have DClause : Cl l.prog w K mg base 5 "_law_clause_of" ["_law_pen", "_law_world"] spClOf := cl_of fDClause X G (fun _ _ _ _ _ _ us hl => match us, hl with | [_, _], _ => rfl) fun f fd F => ok_clof F DPick DStr DNum
  have DWorld : Cl l.prog w K mg base 6 "_law_world_of" ["_law_pen", "_law_small", "_law_most"] spWorldOf := cl_of fDWorld X G (fun _ _ _ _ _ _ us hl => match us, hl with | [_, _, _], _ => rfl) fun f fd F => ok_world F B DDraw DPick DWords DStr DClause
  have DMade : Cl l.prog w K mg base 6 "_law_made_of" ["_law_told"] (spMadeX CP C) := cl_of fDMade X G (fun _ _ _ _ _ _ us hl => match us, hl with | [_], _ => rfl) fun f fd F => ok_madeX F B PM M0 M1 M2 M3 M4 M5 M6
  have DRefusal : Cl l.prog w K mg base 8 "_law_refusal" ["_law_words", "_law_last", "_law_clauses"] (spRefusal K CP C tag) := cl_of fDRefusal X G (fun _ _ _ _ _ _ us hl => match us, hl with | [_, _, _], _ => rfl) fun f fd F => ok_refusal F PT RMX E0 E1 E2 E3 E4 E5 E6 (x7.xx eE0.exb eE1.exb eE2.exb eE3.exb eE4.exb eE5.exb eE6.exb)
  have DLIW : Cl l.prog w K mg base 1 "_law_is_word" ["_law_value"] spIsWordV := cl_of fDLIW X G (fun _ _ _ _ _ _ us hl => match us, hl with | [_], _ => rfl) fun f fd F => ok_liswordV F WT
  have DDue : Cl l.prog w K mg base 3 "_law_due" ["_law_words", "_law_last", "_law_parts"] (spDue K tag) := cl_of fDDue X G (fun _ _ _ _ _ _ us hl => match us, hl with | [_, _, _], _ => rfl) fun f fd F => ok_due F B PT DLIW
  exact ok_law F B PT DPen DDraw DPick DWorld DMade DRefusal DDue
end OR
namespace PySem.W.Fast
def tw2702474632982335105 : Nat := 0
theorem te2702474632982335105 : True := trivial
def tw6102140269498550054 : Nat := 0
theorem te6102140269498550054 : True := trivial
def tw16665337896849476525 : Nat := 0
theorem te16665337896849476525 : True := trivial
def tw5127021897134524458 : Nat := 0
theorem te5127021897134524458 : True := trivial
end PySem.W.Fast
open PySem PySem.W PyProof.Rows
set_option maxRecDepth 100000 in
set_option maxHeartbeats 0 in
theorem PySem.Challenge.cw_openranges_k26_rules_refused_holds : PySem.Challenge.rw_openranges_k26_rules_refused.Holds := by
  w_on; o_law; o_head (kHook OR.K26 (nat_lit 2 :: nat_lit 3 :: nat_lit 27 :: nat_lit 28 :: nat_lit 34 :: nat_lit 35 :: nat_lit 156 :: nat_lit 157 :: nat_lit 177 :: nat_lit 178 :: nat_lit 232 :: nat_lit 233 :: nat_lit 235 :: nat_lit 236 :: nat_lit 289 :: nat_lit 290 :: nat_lit 292 :: nat_lit 293 :: nat_lit 308 :: nat_lit 309 :: nat_lit 311 :: nat_lit 312 :: nat_lit 327 :: nat_lit 328 :: nat_lit 330 :: nat_lit 331 :: nat_lit 346 :: nat_lit 347 :: nat_lit 349 :: nat_lit 350 :: nat_lit 365 :: nat_lit 366 :: nat_lit 368 :: nat_lit 369 :: nat_lit 384 :: nat_lit 385 :: nat_lit 387 :: nat_lit 388 :: nat_lit 394 :: nat_lit 395 :: nat_lit 401 :: nat_lit 402 :: nat_lit 408 :: nat_lit 409 :: nat_lit 415 :: nat_lit 416 :: nat_lit 417 :: nat_lit 418 :: nat_lit 431 :: nat_lit 432 :: nat_lit 445 :: nat_lit 446 :: nat_lit 483 :: nat_lit 484 :: nat_lit 501 :: nat_lit 502 :: nat_lit 515 :: nat_lit 516 :: nat_lit 553 :: nat_lit 554 :: nat_lit 571 :: nat_lit 572 :: nat_lit 585 :: nat_lit 586 :: nat_lit 623 :: nat_lit 624 :: nat_lit 641 :: nat_lit 642 :: nat_lit 655 :: nat_lit 656 :: nat_lit 693 :: nat_lit 694 :: nat_lit 711 :: nat_lit 712 :: nat_lit 732 :: nat_lit 733 :: nat_lit 770 :: nat_lit 771 :: nat_lit 788 :: nat_lit 789 :: nat_lit 809 :: nat_lit 810 :: nat_lit 847 :: nat_lit 848 :: nat_lit 865 :: nat_lit 866 :: nat_lit 879 :: nat_lit 880 :: nat_lit 917 :: nat_lit 918 :: nat_lit 928 :: nat_lit 929 :: nat_lit 956 :: nat_lit 957 :: nat_lit 966 :: nat_lit 967 :: nat_lit 977 :: nat_lit 978 :: nat_lit 984 :: nat_lit 985 :: nat_lit 1000 :: nat_lit 1001 :: nat_lit 1005 :: nat_lit 1006 :: nat_lit 1033 :: nat_lit 1034 :: nat_lit 1075 :: nat_lit 1076 :: nat_lit 1082 :: nat_lit 1083 :: nat_lit 1096 :: nat_lit 1097 :: nat_lit 1139 :: nat_lit 1142 :: nat_lit 1143 :: nat_lit 1160 :: nat_lit 1161 :: nat_lit 1165 :: nat_lit 1166 :: nat_lit 1172 :: nat_lit 1173 :: nat_lit 1179 :: nat_lit 1180 :: nat_lit 1212 :: nat_lit 1213 :: nat_lit 1219 :: nat_lit 1220 :: nat_lit 1226 :: nat_lit 1227 :: nat_lit 1231 :: nat_lit 1232 :: nat_lit 1236 :: nat_lit 1237 :: nat_lit 1243 :: nat_lit 1244 :: nat_lit 1250 :: nat_lit 1251 :: nat_lit 1255 :: nat_lit 1256 :: nat_lit 1262 :: nat_lit 1263 :: nat_lit 1267 :: nat_lit 1268 :: nat_lit 1272 :: nat_lit 1273 :: nat_lit 1279 :: nat_lit 1280 :: nat_lit 1286 :: nat_lit 1287 :: nat_lit 1293 :: nat_lit 1294 :: nat_lit 1298 :: nat_lit 1299 :: nat_lit 1303 :: nat_lit 1304 :: nat_lit 1308 :: nat_lit 1309 :: []) (fun _ => by kernel_rfl)); (case hw => w_witness2)
  k_fill
  refine OR.walk_ofX (l := PySem.Challenge.rw_openranges_k26_rules_refused) (n := 63) (k := 9) (x := "_law_script") (CX := fun _ => L2.CX0) (sp := fun w => OR.spLaw _) rfl (by decide) rfl ⟨rfl, by decide, by decide⟩ (fun w h Y => PySem.W.kIn_of Y) ?F (fun _ _ a ns hl _ hS => ⟨a, ns, rfl, hS, hl, fun _ => rfl⟩) (fun _ _ _ _ _ h => h)
  case F =>
    intro w mg fa h KX G XL hmg
    refine' OR.all_mk KX G hmg ?L ?LR ?Z ?z_str ?z_all ?z_ValueError ?lp ?let_ ?most ?tS ?tW ?mfun ?mcl ?k0 ?k1 ?k2 ?k3 ?k4 ?k5 ?k6 ?k7 ?n7 ?x7 ?mI ?fDI ?fDP ?fDS ?fDJ ?fDC ?hGRP ?fIW ?fCW ?fCT2 ?fCS ?mI0 ?hmT0 ?mI1 ?hmT1 ?mI2 ?hmT2 ?mI3 ?hmT3 ?mI4 ?hmT4 ?mI5 ?hmT5 ?mI6 ?hmT6 ?eE0 ?eE1 ?eE2 ?eE3 ?eE4 ?eE5 ?eE6 ?fDHow ?hSZ ?hRK ?hGET ?fICX ?fKFX ?fCFX ?mIR ?fDPen ?fDDraw ?fDPick ?fDWords ?fDNormal ?fDNear ?fDStr ?fDWorth ?fDSlope ?fDNum ?fDClause ?fDWorld ?fDMade ?fDRefusal ?fDLIW ?fDDue ?fLaw
    case lp => exact OR.lp_of XL (by first | exact List.Mem.head _ | exact .tail _ (.head _) | exact .tail _ (.tail _ (.head _)))
    all_goals try clear hmg XL
    case L =>
      refine' OR.PAt.mk ?aC ?pg ?hd ?po ?sa ?mks ?kc ?nS ?nF ?nB ?ca ?cn ?ct ?cm ?ne ?sT ?sL ?kPP ?kT ?kL ?sf
      (case aC => k_is); (case pg => k_is); (case hd => k_is); (case po => k_is); (case sa => k_is); (case mks => k_is); (case kc => k_is); (case nS => k_is); (case nF => k_is); (case nB => k_is); (case ca => k_is); (case cn => k_is); (case ct => k_is); (case cm => k_is); (case ne => k_is); (case sT => k_is); (case sL => k_is); (case kPP => kit_is); (case kT => kit_is); (case kL => kit_is); (case sf => k_is)
    case LR =>
      refine' OR.RAt.mk ?aC ?pg ?hd ?po ?sa ?mks ?kc ?nF ?nL ?nT ?ca ?cn ?ct ?cm ?ne ?kRR ?kTup ?kInt ?nTup ?nInt
      (case aC => k_is); (case pg => k_is); (case hd => k_is); (case po => k_is); (case sa => k_is); (case mks => k_is); (case kc => k_is); (case nF => k_is); (case nL => k_is); (case nT => k_is); (case ca => k_is); (case cn => k_is); (case ct => k_is); (case cm => k_is); (case ne => k_is); (case kRR => kit_is); (case kTup => kit_is); (case kInt => kit_is); (case nTup => k_is); (case nInt => k_is)
    case Z =>
      refine' OR.ZAt.mk ?isi ?int ?bool ?tup ?list ?len ?max ?min ?sorted ?enum ?range ?set ?abs
      (case isi => k_is); (case int => k_is); (case bool => k_is); (case tup => k_is); (case list => k_is); (case len => k_is); (case max => k_is); (case min => k_is); (case sorted => k_is); (case enum => k_is); (case range => k_is); (case set => k_is); (case abs => k_is)
    case z_str => k_is
    case z_all => k_is
    case z_ValueError => k_is

    case let_ => exact ⟨_, by k_is⟩
    case most => exact ⟨_, by k_is⟩
    case mfun => exact ⟨_, by k_is⟩
    case mcl => exact ⟨_, by k_is⟩
    case tS => refine' OR.tp3 KX ?a ?l; (case a => k_is); (case l => k_is)
    case tW => refine' OR.tp2 KX ?a ?l; (case a => k_is); (case l => k_is)
    case k0 =>
      refine' OR.CAt.mk ?aC ?pg ?hd ?po ?sa ?mks ?kc ?no ?sf ?ca ?cn ?ct ?cm ?ne ?kS ?kT ?nS ?nT
      (case aC => k_is); (case pg => k_is); (case hd => k_is); (case po => k_is); (case sa => k_is); (case mks => k_is); (case kc => k_is); (case no => refine' OR.fa1 ?n0 (OR.fa1 ?n1 (OR.fa1 ?n2 (OR.fa0))); (case n0 => k_is); (case n1 => k_is); (case n2 => k_is)); (case sf => k_is); (case ca => k_is); (case cn => k_is); (case ct => k_is); (case cm => k_is); (case ne => k_is); (case kS => kit_is); (case kT => kit_is); (case nS => k_is); (case nT => k_is)
    case k1 =>
      refine' OR.CAt.mk ?aC ?pg ?hd ?po ?sa ?mks ?kc ?no ?sf ?ca ?cn ?ct ?cm ?ne ?kS ?kT ?nS ?nT
      (case aC => k_is); (case pg => k_is); (case hd => k_is); (case po => k_is); (case sa => k_is); (case mks => k_is); (case kc => k_is); (case no => refine' OR.fa1 ?n0 (OR.fa1 ?n1 (OR.fa1 ?n2 (OR.fa0))); (case n0 => k_is); (case n1 => k_is); (case n2 => k_is)); (case sf => k_is); (case ca => k_is); (case cn => k_is); (case ct => k_is); (case cm => k_is); (case ne => k_is); (case kS => kit_is); (case kT => kit_is); (case nS => k_is); (case nT => k_is)
    case k2 =>
      refine' OR.CAt.mk ?aC ?pg ?hd ?po ?sa ?mks ?kc ?no ?sf ?ca ?cn ?ct ?cm ?ne ?kS ?kT ?nS ?nT
      (case aC => k_is); (case pg => k_is); (case hd => k_is); (case po => k_is); (case sa => k_is); (case mks => k_is); (case kc => k_is); (case no => refine' OR.fa1 ?n0 (OR.fa1 ?n1 (OR.fa1 ?n2 (OR.fa1 ?n3 (OR.fa0)))); (case n0 => k_is); (case n1 => k_is); (case n2 => k_is); (case n3 => k_is)); (case sf => k_is); (case ca => k_is); (case cn => k_is); (case ct => k_is); (case cm => k_is); (case ne => k_is); (case kS => kit_is); (case kT => kit_is); (case nS => k_is); (case nT => k_is)
    case k3 =>
      refine' OR.CAt.mk ?aC ?pg ?hd ?po ?sa ?mks ?kc ?no ?sf ?ca ?cn ?ct ?cm ?ne ?kS ?kT ?nS ?nT
      (case aC => k_is); (case pg => k_is); (case hd => k_is); (case po => k_is); (case sa => k_is); (case mks => k_is); (case kc => k_is); (case no => refine' OR.fa1 ?n0 (OR.fa1 ?n1 (OR.fa1 ?n2 (OR.fa1 ?n3 (OR.fa0)))); (case n0 => k_is); (case n1 => k_is); (case n2 => k_is); (case n3 => k_is)); (case sf => k_is); (case ca => k_is); (case cn => k_is); (case ct => k_is); (case cm => k_is); (case ne => k_is); (case kS => kit_is); (case kT => kit_is); (case nS => k_is); (case nT => k_is)
    case k4 =>
      refine' OR.CAt.mk ?aC ?pg ?hd ?po ?sa ?mks ?kc ?no ?sf ?ca ?cn ?ct ?cm ?ne ?kS ?kT ?nS ?nT
      (case aC => k_is); (case pg => k_is); (case hd => k_is); (case po => k_is); (case sa => k_is); (case mks => k_is); (case kc => k_is); (case no => refine' OR.fa1 ?n0 (OR.fa1 ?n1 (OR.fa1 ?n2 (OR.fa1 ?n3 (OR.fa1 ?n4 (OR.fa1 ?n5 (OR.fa0)))))); (case n0 => k_is); (case n1 => k_is); (case n2 => k_is); (case n3 => k_is); (case n4 => k_is); (case n5 => k_is)); (case sf => k_is); (case ca => k_is); (case cn => k_is); (case ct => k_is); (case cm => k_is); (case ne => k_is); (case kS => kit_is); (case kT => kit_is); (case nS => k_is); (case nT => k_is)
    case k5 =>
      refine' OR.CAt.mk ?aC ?pg ?hd ?po ?sa ?mks ?kc ?no ?sf ?ca ?cn ?ct ?cm ?ne ?kS ?kT ?nS ?nT
      (case aC => k_is); (case pg => k_is); (case hd => k_is); (case po => k_is); (case sa => k_is); (case mks => k_is); (case kc => k_is); (case no => refine' OR.fa1 ?n0 (OR.fa1 ?n1 (OR.fa1 ?n2 (OR.fa1 ?n3 (OR.fa1 ?n4 (OR.fa1 ?n5 (OR.fa1 ?n6 (OR.fa0))))))); (case n0 => k_is); (case n1 => k_is); (case n2 => k_is); (case n3 => k_is); (case n4 => k_is); (case n5 => k_is); (case n6 => k_is)); (case sf => k_is); (case ca => k_is); (case cn => k_is); (case ct => k_is); (case cm => k_is); (case ne => k_is); (case kS => kit_is); (case kT => kit_is); (case nS => k_is); (case nT => k_is)
    case k6 =>
      refine' OR.CAt.mk ?aC ?pg ?hd ?po ?sa ?mks ?kc ?no ?sf ?ca ?cn ?ct ?cm ?ne ?kS ?kT ?nS ?nT
      (case aC => k_is); (case pg => k_is); (case hd => k_is); (case po => k_is); (case sa => k_is); (case mks => k_is); (case kc => k_is); (case no => refine' OR.fa1 ?n0 (OR.fa1 ?n1 (OR.fa1 ?n2 (OR.fa1 ?n3 (OR.fa1 ?n4 (OR.fa0))))); (case n0 => k_is); (case n1 => k_is); (case n2 => k_is); (case n3 => k_is); (case n4 => k_is)); (case sf => k_is); (case ca => k_is); (case cn => k_is); (case ct => k_is); (case cm => k_is); (case ne => k_is); (case kS => kit_is); (case kT => kit_is); (case nS => k_is); (case nT => k_is)
    case k7 =>
      refine' OR.K7.mk ?q00 ?q01 ?q02 ?q03 ?q04 ?q05 ?q06 ?q10 ?q11 ?q12 ?q13 ?q14 ?q15 ?q16 ?q20 ?q21 ?q22 ?q23 ?q24 ?q25 ?q26 ?q30 ?q31 ?q32 ?q33 ?q34 ?q35 ?q36 ?q40 ?q41 ?q42 ?q43 ?q44 ?q45 ?q46 ?q50 ?q51 ?q52 ?q53 ?q54 ?q55 ?q56 ?q60 ?q61 ?q62 ?q63 ?q64 ?q65 ?q66 ?s01 ?s02 ?s03 ?s04 ?s05 ?s06 ?s10 ?s12 ?s13 ?s14 ?s15 ?s16 ?s20 ?s21 ?s23 ?s24 ?s25 ?s26 ?s30 ?s31 ?s32 ?s34 ?s35 ?s36 ?s40 ?s41 ?s42 ?s43 ?s45 ?s46 ?s50 ?s51 ?s52 ?s53 ?s54 ?s56 ?s60 ?s61 ?s62 ?s63 ?s64 ?s65
      (case q00 => kit_is); (case q01 => kit_is); (case q02 => kit_is); (case q03 => kit_is); (case q04 => kit_is); (case q05 => kit_is); (case q06 => kit_is); (case q10 => kit_is); (case q11 => kit_is); (case q12 => kit_is); (case q13 => kit_is); (case q14 => kit_is); (case q15 => kit_is); (case q16 => kit_is); (case q20 => kit_is); (case q21 => kit_is); (case q22 => kit_is); (case q23 => kit_is); (case q24 => kit_is); (case q25 => kit_is); (case q26 => kit_is); (case q30 => kit_is); (case q31 => kit_is); (case q32 => kit_is); (case q33 => kit_is); (case q34 => kit_is); (case q35 => kit_is); (case q36 => kit_is); (case q40 => kit_is); (case q41 => kit_is); (case q42 => kit_is); (case q43 => kit_is); (case q44 => kit_is); (case q45 => kit_is); (case q46 => kit_is); (case q50 => kit_is); (case q51 => kit_is); (case q52 => kit_is); (case q53 => kit_is); (case q54 => kit_is); (case q55 => kit_is); (case q56 => kit_is); (case q60 => kit_is); (case q61 => kit_is); (case q62 => kit_is); (case q63 => kit_is); (case q64 => kit_is); (case q65 => kit_is); (case q66 => kit_is)
      (case s01 => k_is); (case s02 => k_is); (case s03 => k_is); (case s04 => k_is); (case s05 => k_is); (case s06 => k_is); (case s10 => k_is); (case s12 => k_is); (case s13 => k_is); (case s14 => k_is); (case s15 => k_is); (case s16 => k_is); (case s20 => k_is); (case s21 => k_is); (case s23 => k_is); (case s24 => k_is); (case s25 => k_is); (case s26 => k_is); (case s30 => k_is); (case s31 => k_is); (case s32 => k_is); (case s34 => k_is); (case s35 => k_is); (case s36 => k_is); (case s40 => k_is); (case s41 => k_is); (case s42 => k_is); (case s43 => k_is); (case s45 => k_is); (case s46 => k_is); (case s50 => k_is); (case s51 => k_is); (case s52 => k_is); (case s53 => k_is); (case s54 => k_is); (case s56 => k_is); (case s60 => k_is); (case s61 => k_is); (case s62 => k_is); (case s63 => k_is); (case s64 => k_is); (case s65 => k_is)
    case n7 =>
      refine' OR.N7.mk ?kI0 ?kI1 ?kI2 ?kI3 ?kI4 ?kI5 ?kI6 ?kN0 ?kN1 ?kN2 ?kN3 ?kN4 ?kN5 ?kN6 ?kB0 ?kB1 ?kB2 ?kB3 ?kB4 ?kB5 ?kB6
      (case kI0 => kit_is); (case kI1 => kit_is); (case kI2 => kit_is); (case kI3 => kit_is); (case kI4 => kit_is); (case kI5 => kit_is); (case kI6 => kit_is); (case kN0 => kit_is); (case kN1 => kit_is); (case kN2 => kit_is); (case kN3 => kit_is); (case kN4 => kit_is); (case kN5 => kit_is); (case kN6 => kit_is); (case kB0 => kit_is); (case kB1 => kit_is); (case kB2 => kit_is); (case kB3 => kit_is); (case kB4 => kit_is); (case kB5 => kit_is); (case kB6 => kit_is)
    case mI => refine' OR.mtD KX ?a ?l ?lT ?l0 ?c ?k ?i; (case a => k_is); (case l => k_is); (case lT => k_is); (case l0 => k_is); (case c => k_is); (case k => k_is); (case i => k_is)
    case fDI => refine' OR.fnAt KX ?a ?l ?c ?k; (case a => k_is); (case l => k_is); (case c => k_is); (case k => k_is)
    case fDP => refine' OR.fnAt KX ?a ?l ?c ?k; (case a => k_is); (case l => k_is); (case c => k_is); (case k => k_is)
    case fDS => refine' OR.fnAt KX ?a ?l ?c ?k; (case a => k_is); (case l => k_is); (case c => k_is); (case k => k_is)
    case fDJ => refine' OR.fnAt KX ?a ?l ?c ?k; (case a => k_is); (case l => k_is); (case c => k_is); (case k => k_is)
    case fDC => refine' OR.fnAt KX ?a ?l ?c ?k; (case a => k_is); (case l => k_is); (case c => k_is); (case k => k_is)
    case hGRP => refine' OR.mtAt KX ?a ?l ?c ?k ?i ?nn; (case a => k_is); (case l => k_is); (case c => k_is); (case k => k_is); (case i => k_is); (case nn => k_is)
    case fIW => refine' OR.fnAt KX ?a ?l ?c ?k; (case a => k_is); (case l => k_is); (case c => k_is); (case k => k_is)
    case fCW => refine' OR.fnAt KX ?a ?l ?c ?k; (case a => k_is); (case l => k_is); (case c => k_is); (case k => k_is)
    case fCT2 => refine' OR.fnAt KX ?a ?l ?c ?k; (case a => k_is); (case l => k_is); (case c => k_is); (case k => k_is)
    case fCS => refine' OR.fnAt KX ?a ?l ?c ?k; (case a => k_is); (case l => k_is); (case c => k_is); (case k => k_is)
    case mI0 => refine' OR.mtAt KX ?a ?l ?c ?k ?i ?nn; (case a => k_is); (case l => k_is); (case c => k_is); (case k => k_is); (case i => k_is); (case nn => k_is)
    case hmT0 => refine' OR.mtAt KX ?a ?l ?c ?k ?i ?nn; (case a => k_is); (case l => k_is); (case c => k_is); (case k => k_is); (case i => k_is); (case nn => k_is)
    case mI1 => refine' OR.mtAt KX ?a ?l ?c ?k ?i ?nn; (case a => k_is); (case l => k_is); (case c => k_is); (case k => k_is); (case i => k_is); (case nn => k_is)
    case hmT1 => refine' OR.mtAt KX ?a ?l ?c ?k ?i ?nn; (case a => k_is); (case l => k_is); (case c => k_is); (case k => k_is); (case i => k_is); (case nn => k_is)
    case mI2 => refine' OR.mtAt KX ?a ?l ?c ?k ?i ?nn; (case a => k_is); (case l => k_is); (case c => k_is); (case k => k_is); (case i => k_is); (case nn => k_is)
    case hmT2 => refine' OR.mtAt KX ?a ?l ?c ?k ?i ?nn; (case a => k_is); (case l => k_is); (case c => k_is); (case k => k_is); (case i => k_is); (case nn => k_is)
    case mI3 => refine' OR.mtAt KX ?a ?l ?c ?k ?i ?nn; (case a => k_is); (case l => k_is); (case c => k_is); (case k => k_is); (case i => k_is); (case nn => k_is)
    case hmT3 => refine' OR.mtAt KX ?a ?l ?c ?k ?i ?nn; (case a => k_is); (case l => k_is); (case c => k_is); (case k => k_is); (case i => k_is); (case nn => k_is)
    case mI4 => refine' OR.mtAt KX ?a ?l ?c ?k ?i ?nn; (case a => k_is); (case l => k_is); (case c => k_is); (case k => k_is); (case i => k_is); (case nn => k_is)
    case hmT4 => refine' OR.mtAt KX ?a ?l ?c ?k ?i ?nn; (case a => k_is); (case l => k_is); (case c => k_is); (case k => k_is); (case i => k_is); (case nn => k_is)
    case mI5 => refine' OR.mtAt KX ?a ?l ?c ?k ?i ?nn; (case a => k_is); (case l => k_is); (case c => k_is); (case k => k_is); (case i => k_is); (case nn => k_is)
    case hmT5 => refine' OR.mtAt KX ?a ?l ?c ?k ?i ?nn; (case a => k_is); (case l => k_is); (case c => k_is); (case k => k_is); (case i => k_is); (case nn => k_is)
    case mI6 => refine' OR.mtAt KX ?a ?l ?c ?k ?i ?nn; (case a => k_is); (case l => k_is); (case c => k_is); (case k => k_is); (case i => k_is); (case nn => k_is)
    case hmT6 => refine' OR.mtAt KX ?a ?l ?c ?k ?i ?nn; (case a => k_is); (case l => k_is); (case c => k_is); (case k => k_is); (case i => k_is); (case nn => k_is)
    case eE0 => refine' OR.ErAt.mk ?aB ?aR ?cls ?sa ?ga ?gg ?noF ?kC ?exC ?tyC ?hdC ?ca ?cn ?ct ?cm ?sub ?kR ?kV ?init; (case aB => k_is); (case aR => k_is); (case cls => refine' OR.erCls KX ?l ?b; (case l => k_is); (case b => decide +kernel)); (case sa => k_is); (case ga => k_is); (case gg => k_is); (case noF => k_is); (case kC => k_is); (case exC => k_is); (case tyC => k_is); (case hdC => k_is); (case ca => k_is); (case cn => k_is); (case ct => k_is); (case cm => k_is); (case sub => first | rfl | k_is); (case kR => kit_is); (case kV => kit_is); (case init => refine' OR.erInit KX ?a ?l ?c ?k ?t; (case a => k_is); (case l => k_is); (case c => k_is); (case k => k_is); (case t => k_is))
    case eE1 => refine' OR.ErAt.mk ?aB ?aR ?cls ?sa ?ga ?gg ?noF ?kC ?exC ?tyC ?hdC ?ca ?cn ?ct ?cm ?sub ?kR ?kV ?init; (case aB => k_is); (case aR => k_is); (case cls => refine' OR.erCls KX ?l ?b; (case l => k_is); (case b => decide +kernel)); (case sa => k_is); (case ga => k_is); (case gg => k_is); (case noF => k_is); (case kC => k_is); (case exC => k_is); (case tyC => k_is); (case hdC => k_is); (case ca => k_is); (case cn => k_is); (case ct => k_is); (case cm => k_is); (case sub => first | rfl | k_is); (case kR => kit_is); (case kV => kit_is); (case init => refine' OR.erInit KX ?a ?l ?c ?k ?t; (case a => k_is); (case l => k_is); (case c => k_is); (case k => k_is); (case t => k_is))
    case eE2 => refine' OR.ErAt.mk ?aB ?aR ?cls ?sa ?ga ?gg ?noF ?kC ?exC ?tyC ?hdC ?ca ?cn ?ct ?cm ?sub ?kR ?kV ?init; (case aB => k_is); (case aR => k_is); (case cls => refine' OR.erCls KX ?l ?b; (case l => k_is); (case b => decide +kernel)); (case sa => k_is); (case ga => k_is); (case gg => k_is); (case noF => k_is); (case kC => k_is); (case exC => k_is); (case tyC => k_is); (case hdC => k_is); (case ca => k_is); (case cn => k_is); (case ct => k_is); (case cm => k_is); (case sub => first | rfl | k_is); (case kR => kit_is); (case kV => kit_is); (case init => refine' OR.erInit KX ?a ?l ?c ?k ?t; (case a => k_is); (case l => k_is); (case c => k_is); (case k => k_is); (case t => k_is))
    case eE3 => refine' OR.ErAt.mk ?aB ?aR ?cls ?sa ?ga ?gg ?noF ?kC ?exC ?tyC ?hdC ?ca ?cn ?ct ?cm ?sub ?kR ?kV ?init; (case aB => k_is); (case aR => k_is); (case cls => refine' OR.erCls KX ?l ?b; (case l => k_is); (case b => decide +kernel)); (case sa => k_is); (case ga => k_is); (case gg => k_is); (case noF => k_is); (case kC => k_is); (case exC => k_is); (case tyC => k_is); (case hdC => k_is); (case ca => k_is); (case cn => k_is); (case ct => k_is); (case cm => k_is); (case sub => first | rfl | k_is); (case kR => kit_is); (case kV => kit_is); (case init => refine' OR.erInit KX ?a ?l ?c ?k ?t; (case a => k_is); (case l => k_is); (case c => k_is); (case k => k_is); (case t => k_is))
    case eE4 => refine' OR.ErAt.mk ?aB ?aR ?cls ?sa ?ga ?gg ?noF ?kC ?exC ?tyC ?hdC ?ca ?cn ?ct ?cm ?sub ?kR ?kV ?init; (case aB => k_is); (case aR => k_is); (case cls => refine' OR.erCls KX ?l ?b; (case l => k_is); (case b => decide +kernel)); (case sa => k_is); (case ga => k_is); (case gg => k_is); (case noF => k_is); (case kC => k_is); (case exC => k_is); (case tyC => k_is); (case hdC => k_is); (case ca => k_is); (case cn => k_is); (case ct => k_is); (case cm => k_is); (case sub => first | rfl | k_is); (case kR => kit_is); (case kV => kit_is); (case init => refine' OR.erInit KX ?a ?l ?c ?k ?t; (case a => k_is); (case l => k_is); (case c => k_is); (case k => k_is); (case t => k_is))
    case eE5 => refine' OR.ErAt.mk ?aB ?aR ?cls ?sa ?ga ?gg ?noF ?kC ?exC ?tyC ?hdC ?ca ?cn ?ct ?cm ?sub ?kR ?kV ?init; (case aB => k_is); (case aR => k_is); (case cls => refine' OR.erCls KX ?l ?b; (case l => k_is); (case b => decide +kernel)); (case sa => k_is); (case ga => k_is); (case gg => k_is); (case noF => k_is); (case kC => k_is); (case exC => k_is); (case tyC => k_is); (case hdC => k_is); (case ca => k_is); (case cn => k_is); (case ct => k_is); (case cm => k_is); (case sub => first | rfl | k_is); (case kR => kit_is); (case kV => kit_is); (case init => refine' OR.erInit KX ?a ?l ?c ?k ?t; (case a => k_is); (case l => k_is); (case c => k_is); (case k => k_is); (case t => k_is))
    case eE6 => refine' OR.ErAt.mk ?aB ?aR ?cls ?sa ?ga ?gg ?noF ?kC ?exC ?tyC ?hdC ?ca ?cn ?ct ?cm ?sub ?kR ?kV ?init; (case aB => k_is); (case aR => k_is); (case cls => refine' OR.erCls KX ?l ?b; (case l => k_is); (case b => decide +kernel)); (case sa => k_is); (case ga => k_is); (case gg => k_is); (case noF => k_is); (case kC => k_is); (case exC => k_is); (case tyC => k_is); (case hdC => k_is); (case ca => k_is); (case cn => k_is); (case ct => k_is); (case cm => k_is); (case sub => first | rfl | k_is); (case kR => kit_is); (case kV => kit_is); (case init => refine' OR.erInit KX ?a ?l ?c ?k ?t; (case a => k_is); (case l => k_is); (case c => k_is); (case k => k_is); (case t => k_is))
    case fDHow => refine' OR.fnAt KX ?a ?l ?c ?k; (case a => k_is); (case l => k_is); (case c => k_is); (case k => k_is)
    case hSZ => refine' OR.mtAt KX ?a ?l ?c ?k ?i ?nn; (case a => k_is); (case l => k_is); (case c => k_is); (case k => k_is); (case i => k_is); (case nn => k_is)
    case hRK => refine' OR.mtAt KX ?a ?l ?c ?k ?i ?nn; (case a => k_is); (case l => k_is); (case c => k_is); (case k => k_is); (case i => k_is); (case nn => k_is)
    case hGET => refine' OR.mtAt KX ?a ?l ?c ?k ?i ?nn; (case a => k_is); (case l => k_is); (case c => k_is); (case k => k_is); (case i => k_is); (case nn => k_is)
    case fICX => refine' OR.fnAt KX ?a ?l ?c ?k; (case a => k_is); (case l => k_is); (case c => k_is); (case k => k_is)
    case fKFX => refine' OR.fnAt KX ?a ?l ?c ?k; (case a => k_is); (case l => k_is); (case c => k_is); (case k => k_is)
    case fCFX => refine' OR.fnAt KX ?a ?l ?c ?k; (case a => k_is); (case l => k_is); (case c => k_is); (case k => k_is)
    case mIR => refine' OR.mtAt KX ?a ?l ?c ?k ?i ?nn; (case a => k_is); (case l => k_is); (case c => k_is); (case k => k_is); (case i => k_is); (case nn => k_is)
    case fDPen => refine' OR.fnAt KX ?a ?l ?c ?k; (case a => k_is); (case l => k_is); (case c => k_is); (case k => k_is)
    case fDDraw => refine' OR.fnAt KX ?a ?l ?c ?k; (case a => k_is); (case l => k_is); (case c => k_is); (case k => k_is)
    case fDPick => refine' OR.fnAt KX ?a ?l ?c ?k; (case a => k_is); (case l => k_is); (case c => k_is); (case k => k_is)
    case fDWords => refine' OR.fnAt KX ?a ?l ?c ?k; (case a => k_is); (case l => k_is); (case c => k_is); (case k => k_is)
    case fDNormal => refine' OR.fnAt KX ?a ?l ?c ?k; (case a => k_is); (case l => k_is); (case c => k_is); (case k => k_is)
    case fDNear => refine' OR.fnAt KX ?a ?l ?c ?k; (case a => k_is); (case l => k_is); (case c => k_is); (case k => k_is)
    case fDStr => refine' OR.fnAt KX ?a ?l ?c ?k; (case a => k_is); (case l => k_is); (case c => k_is); (case k => k_is)
    case fDWorth => refine' OR.fnAt KX ?a ?l ?c ?k; (case a => k_is); (case l => k_is); (case c => k_is); (case k => k_is)
    case fDSlope => refine' OR.fnAt KX ?a ?l ?c ?k; (case a => k_is); (case l => k_is); (case c => k_is); (case k => k_is)
    case fDNum => refine' OR.fnAt KX ?a ?l ?c ?k; (case a => k_is); (case l => k_is); (case c => k_is); (case k => k_is)
    case fDClause => refine' OR.fnAt KX ?a ?l ?c ?k; (case a => k_is); (case l => k_is); (case c => k_is); (case k => k_is)
    case fDWorld => refine' OR.fnAt KX ?a ?l ?c ?k; (case a => k_is); (case l => k_is); (case c => k_is); (case k => k_is)
    case fDMade => refine' OR.fnAt KX ?a ?l ?c ?k; (case a => k_is); (case l => k_is); (case c => k_is); (case k => k_is)
    case fDRefusal => refine' OR.fnAt KX ?a ?l ?c ?k; (case a => k_is); (case l => k_is); (case c => k_is); (case k => k_is)
    case fDLIW => refine' OR.fnAt KX ?a ?l ?c ?k; (case a => k_is); (case l => k_is); (case c => k_is); (case k => k_is)
    case fDDue => refine' OR.fnAt KX ?a ?l ?c ?k; (case a => k_is); (case l => k_is); (case c => k_is); (case k => k_is)
    case fLaw => refine' OR.fnAt KX ?a ?l ?c ?k; (case a => k_is); (case l => k_is); (case c => k_is); (case k => k_is)
    case x7 =>
      refine' OR.X7.mk ?x01 ?x02 ?x03 ?x04 ?x05 ?x06 ?x10 ?x12 ?x13 ?x14 ?x15 ?x16 ?x20 ?x21 ?x23 ?x24 ?x25 ?x26 ?x30 ?x31 ?x32 ?x34 ?x35 ?x36 ?x40 ?x41 ?x42 ?x43 ?x45 ?x46 ?x50 ?x51 ?x52 ?x53 ?x54 ?x56 ?x60 ?x61 ?x62 ?x63 ?x64 ?x65
      (case x01 => k_is); (case x02 => k_is); (case x03 => k_is); (case x04 => k_is); (case x05 => k_is); (case x06 => k_is); (case x10 => k_is); (case x12 => k_is); (case x13 => k_is); (case x14 => k_is); (case x15 => k_is); (case x16 => k_is); (case x20 => k_is); (case x21 => k_is); (case x23 => k_is); (case x24 => k_is); (case x25 => k_is); (case x26 => k_is); (case x30 => k_is); (case x31 => k_is); (case x32 => k_is); (case x34 => k_is); (case x35 => k_is); (case x36 => k_is); (case x40 => k_is); (case x41 => k_is); (case x42 => k_is); (case x43 => k_is); (case x45 => k_is); (case x46 => k_is); (case x50 => k_is); (case x51 => k_is); (case x52 => k_is); (case x53 => k_is); (case x54 => k_is); (case x56 => k_is); (case x60 => k_is); (case x61 => k_is); (case x62 => k_is); (case x63 => k_is); (case x64 => k_is); (case x65 => k_is)

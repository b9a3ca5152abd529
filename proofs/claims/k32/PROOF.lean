import PyProof.Rows.All
import Wide.All
import OpenK.AllK
import Wide.FinOn
import HandS.ForMost
import HandS.Wide
import HandS.IsInst
import HandS.TupAny
import HandS.TupLe
import HandS.Star
import HandS.Evl
import HandS.SortRule
import HandS.NoneIn
import HandS.Defaults
import HandS.TupSets
import HandS.Keys
import HandS.Small
import KE.KOpsOwn
import HandS.SlotsOwn
import KE.RegKIsAll
import PyProof.Draws
import HandS.ForExc
import HandS.Text
import HandS.FStr
import HandS.StrMore
import HandS.MapJoin
import HandS.Style
import HandS.Records
import HandS.Rev
import HandS.Flow
import HandS.WideBits
import HandS.CallLocal
import HandS.Codes
import HandS.OwnEq
import PySem.Challenge.RW_openranges_k32_hop_costs
set_option Elab.async false
set_option linter.all false
set_option maxRecDepth 100000
namespace OR
open PySem PySem.Spec PyProof.Rows L2
def top (i : Nat) : Stmt := PySem.Challenge.pw_openranges_k32_hop_costs.main.body.getD i (.Pass ⟨0, 0, 0, 0⟩)
abbrev pWall : Stmt := top 0
abbrev sBadStretchInit : Stmt := inClass (top 3) 0
abbrev sBadTextInit : Stmt := inClass (top 4) 0
abbrev sBadWordInit : Stmt := inClass (top 5) 0
abbrev sSameFunctionInit : Stmt := inClass (top 6) 0
abbrev sBadSignInit : Stmt := inClass (top 7) 0
abbrev sBadFunctionsInit : Stmt := inClass (top 8) 0
abbrev sTwiceInit : Stmt := inClass (top 9) 0
abbrev sTooManyInit : Stmt := inClass (top 10) 0
abbrev sNoFunctionInit : Stmt := inClass (top 11) 0
abbrev sNoPlaceInit : Stmt := inClass (top 12) 0
abbrev sNoClauseInit : Stmt := inClass (top 13) 0
abbrev sIsInt : Stmt := top 18
abbrev sIsPlace : Stmt := top 19
abbrev sDec : Stmt := top 20
abbrev sRDec : Stmt := top 21
abbrev sRPl : Stmt := top 22
abbrev pOverlaps : Stmt := top 24
abbrev sPlInit : Stmt := inClass (top 26) 0
abbrev sPlEq : Stmt := inClass (top 26) 1
abbrev sPlBool : Stmt := inClass (top 26) 2
abbrev sPlacesContains : Stmt := inClass (top 26) 3
abbrev sPlacesGetitem : Stmt := inClass (top 26) 4
abbrev sPlacesIter : Stmt := inClass (top 26) 5
abbrev sPlacesOr : Stmt := inClass (top 26) 6
abbrev sPlacesAnd : Stmt := inClass (top 26) 7
abbrev sPlacesSub : Stmt := inClass (top 26) 8
abbrev sPlacesXor : Stmt := inClass (top 26) 9
abbrev sPlacesSize : Stmt := inClass (top 26) 10
abbrev sPlacesRank : Stmt := inClass (top 26) 11
abbrev sPlacesLeast : Stmt := inClass (top 26) 12
abbrev sPlacesGreatest : Stmt := inClass (top 26) 13
abbrev sPlacesWithin : Stmt := inClass (top 26) 14
abbrev sPlacesShifted : Stmt := inClass (top 26) 15
abbrev sPlacesMirrored : Stmt := inClass (top 26) 16
abbrev sPlacesInner : Stmt := inClass (top 26) 17
abbrev sPlText : Stmt := inClass (top 26) 18
abbrev sPlacesRead : Stmt := inClass (top 26) 19
abbrev sRStrs : Stmt := top 27
abbrev sIsStretch : Stmt := top 28
abbrev sJoined : Stmt := top 29
abbrev sCounts : Stmt := top 30
abbrev pHowManyUpto : Stmt := top 31
abbrev pCommon : Stmt := top 32
abbrev pGaps : Stmt := top 33
abbrev sSText : Stmt := top 34
abbrev sRStr : Stmt := top 35
abbrev sLInit : Stmt := inClass (top 37) 0
abbrev sLineCall : Stmt := inClass (top 37) 1
abbrev sLEq : Stmt := inClass (top 37) 2
abbrev sLineAdd : Stmt := inClass (top 37) 3
abbrev sLineRadd : Stmt := inClass (top 37) 4
abbrev sLineNeg : Stmt := inClass (top 37) 5
abbrev sLineSub : Stmt := inClass (top 37) 6
abbrev sLineRsub : Stmt := inClass (top 37) 7
abbrev sLineMul : Stmt := inClass (top 37) 8
abbrev sLineRmul : Stmt := inClass (top 37) 9
abbrev sLineMoved : Stmt := inClass (top 37) 10
abbrev sLineMirrored : Stmt := inClass (top 37) 11
abbrev sLText : Stmt := inClass (top 37) 12
abbrev sRise : Stmt := top 38
abbrev pValueAt : Stmt := top 39
abbrev pPlaceLine : Stmt := top 41
abbrev pSpotLine : Stmt := top 42
abbrev pIsString : Stmt := top 43
abbrev pIsSequence : Stmt := top 44
abbrev sStretchInit : Stmt := inClass (top 45) 0
abbrev sStretchNeverAbove : Stmt := inClass (top 45) 1
abbrev sStretchAlwaysSame : Stmt := inClass (top 45) 2
abbrev sStretchSweptWithin : Stmt := inClass (top 45) 3
abbrev sStretchCovered : Stmt := inClass (top 45) 4
abbrev sStretchTurning : Stmt := inClass (top 45) 5
abbrev sHopInit : Stmt := inClass (top 47) 0
abbrev pHopLine : Stmt := top 48
abbrev pReadHop : Stmt := top 49
abbrev pStepCalls : Stmt := top 50
abbrev pUprightCalls : Stmt := top 51
abbrev pNames : Stmt := top 52
abbrev pHopCost : Stmt := top 54
abbrev sIsWord : Stmt := top 58
abbrev sChkW : Stmt := top 59
abbrev sChkTwo : Stmt := top 60
abbrev sChkSign : Stmt := top 61
abbrev sAnsInit : Stmt := inClass (top 65) 0
abbrev sAnsEq : Stmt := inClass (top 65) 1
abbrev sAnsTold : Stmt := inClass (top 65) 2
abbrev sAnsNeg : Stmt := inClass (top 65) 3
abbrev sAnsTim : Stmt := inClass (top 65) 4
abbrev sAnsMov : Stmt := inClass (top 65) 5
abbrev sAnsMir : Stmt := inClass (top 65) 6
abbrev sAnsTxt : Stmt := inClass (top 65) 7
abbrev sRefInit : Stmt := inClass (top 66) 0
abbrev sRefEq : Stmt := inClass (top 66) 1
abbrev sRefTold : Stmt := inClass (top 66) 2
abbrev sRefNeg : Stmt := inClass (top 66) 3
abbrev sRefTim : Stmt := inClass (top 66) 4
abbrev sRefMov : Stmt := inClass (top 66) 5
abbrev sRefMir : Stmt := inClass (top 66) 6
abbrev sRefTxt : Stmt := inClass (top 66) 7
abbrev sNeeInit : Stmt := inClass (top 67) 0
abbrev sNeeEq : Stmt := inClass (top 67) 1
abbrev sNeeTold : Stmt := inClass (top 67) 2
abbrev sNeeNeg : Stmt := inClass (top 67) 3
abbrev sNeeTim : Stmt := inClass (top 67) 4
abbrev sNeeMov : Stmt := inClass (top 67) 5
abbrev sNeeMir : Stmt := inClass (top 67) 6
abbrev sNeeTxt : Stmt := inClass (top 67) 7
abbrev sSprInit : Stmt := inClass (top 68) 0
abbrev sSprEq : Stmt := inClass (top 68) 1
abbrev sSprTold : Stmt := inClass (top 68) 2
abbrev sSprNeg : Stmt := inClass (top 68) 3
abbrev sSprTim : Stmt := inClass (top 68) 4
abbrev sSprMov : Stmt := inClass (top 68) 5
abbrev sSprMir : Stmt := inClass (top 68) 6
abbrev sSprTxt : Stmt := inClass (top 68) 7
abbrev sBouInit : Stmt := inClass (top 69) 0
abbrev sBouEq : Stmt := inClass (top 69) 1
abbrev sBouLine : Stmt := inClass (top 69) 2
abbrev sBouTold : Stmt := inClass (top 69) 3
abbrev sBouNeg : Stmt := inClass (top 69) 4
abbrev sBouTim : Stmt := inClass (top 69) 5
abbrev sBouMov : Stmt := inClass (top 69) 6
abbrev sBouMir : Stmt := inClass (top 69) 7
abbrev sBouTxt : Stmt := inClass (top 69) 8
abbrev sPaiInit : Stmt := inClass (top 70) 0
abbrev sPaiEq : Stmt := inClass (top 70) 1
abbrev sPaiLine : Stmt := inClass (top 70) 2
abbrev sPaiTold : Stmt := inClass (top 70) 3
abbrev sPaiNeg : Stmt := inClass (top 70) 4
abbrev sPaiTim : Stmt := inClass (top 70) 5
abbrev sPaiMov : Stmt := inClass (top 70) 6
abbrev sPaiMir : Stmt := inClass (top 70) 7
abbrev sPaiTxt : Stmt := inClass (top 70) 8
abbrev sSteInit : Stmt := inClass (top 71) 0
abbrev sSteEq : Stmt := inClass (top 71) 1
abbrev sSteTold : Stmt := inClass (top 71) 2
abbrev sSteNeg : Stmt := inClass (top 71) 3
abbrev sSteTim : Stmt := inClass (top 71) 4
abbrev sSteMov : Stmt := inClass (top 71) 5
abbrev sSteMir : Stmt := inClass (top 71) 6
abbrev sSteTxt : Stmt := inClass (top 71) 7
abbrev sIsClause : Stmt := top 72
abbrev sBegin : Stmt := top 73
abbrev sAdded : Stmt := top 74
abbrev sRuInit : Stmt := inClass (top 78) 0
abbrev sRuEq : Stmt := inClass (top 78) 1
abbrev sChkFits : Stmt := top 79
abbrev sChkFuns : Stmt := top 80
abbrev sPenOf : Stmt := top 82
abbrev sDraw : Stmt := top 83
abbrev sPick : Stmt := top 84
abbrev sWordsOf : Stmt := top 85
abbrev sNormal : Stmt := top 86
abbrev sNear : Stmt := top 87
abbrev sStretches : Stmt := top 88
abbrev sWorth : Stmt := top 89
abbrev sSlopeOf : Stmt := top 90
abbrev sNumberClause : Stmt := top 91
abbrev sClauseOf : Stmt := top 92
abbrev sWorldOf : Stmt := top 93
abbrev sMadeOf : Stmt := top 94
abbrev sRulesOf : Stmt := top 95
abbrev sIn : Stmt := top 96
abbrev sLIsPlace : Stmt := top 97
abbrev sIsIndex : Stmt := top 98
abbrev sStepCost : Stmt := top 99
abbrev sHopCost : Stmt := top 100
abbrev sHopOf : Stmt := top 101
abbrev sBent : Stmt := top 102
abbrev sLaw : Stmt := top 103
end OR

namespace OR
open PySem PySem.Spec PyProof.Rows L2
/-! ### the pen: a dict of the cells, how many have begun, what is left of the last one -/
theorem kBC : ¬ ((Sum.inr ("begun" : Str) : Key) = Sum.inr ("cells" : Str)) := by decide +kernel
theorem kLC : ¬ ((Sum.inr ("left" : Str) : Key) = Sum.inr ("cells" : Str)) := by decide +kernel
theorem kLB : ¬ ((Sum.inr ("left" : Str) : Key) = Sum.inr ("begun" : Str)) := by decide +kernel
def penK (c : Addr) (k l : Int) : List (Key × V) := [(.inr ("cells" : Str), .ref c), (.inr ("begun" : Str), .int k), (.inr ("left" : Str), .int l)]
theorem pen_cells (c : Addr) (k l : Int) : valV (penK c k l) (.inr ("cells" : Str)) = some (.ref c) := valV_pos rfl
theorem pen_begun (c : Addr) (k l : Int) : valV (penK c k l) (.inr ("begun" : Str)) = some (.int k) :=
  (valV_neg (fun e => kBC e.symm)).trans (valV_pos rfl)
theorem pen_left (c : Addr) (k l : Int) : valV (penK c k l) (.inr ("left" : Str)) = some (.int l) :=
  (valV_neg (fun e => kLC e.symm)).trans ((valV_neg (fun e => kLB e.symm)).trans (valV_pos rfl))
theorem pen_put_left (c : Addr) (k l y : Int) : putK (penK c k l) (.inr ("left" : Str)) (.int y) = penK c k y := by
  have h1 : ¬ ((Sum.inr ("cells" : Str) : Key) = Sum.inr ("left" : Str)) := fun e => kLC e.symm
  have h2 : ¬ ((Sum.inr ("begun" : Str) : Key) = Sum.inr ("left" : Str)) := fun e => kLB e.symm
  unfold putK penK
  simp only [List.any_cons, List.any_nil, List.map_cons, List.map_nil, h1, h2, decide_true, decide_false, Bool.or_false, Bool.false_or, if_true, if_false]
theorem pen_put_begun (c : Addr) (k l y : Int) : putK (penK c k l) (.inr ("begun" : Str)) (.int y) = penK c y l := by
  have h1 : ¬ ((Sum.inr ("cells" : Str) : Key) = Sum.inr ("begun" : Str)) := fun e => kBC e.symm
  have h2 : ¬ ((Sum.inr ("left" : Str) : Key) = Sum.inr ("begun" : Str)) := kLB
  unfold putK penK
  simp only [List.any_cons, List.any_nil, List.map_cons, List.map_nil, h1, h2, decide_true, decide_false, Bool.or_false, Bool.false_or, Bool.or_true, if_true, if_false]
/-- a pen at p after at most n draws -/
def Pen (H : Hp) (p : Addr) (n : Nat) : Prop := ∃ (c : Addr) (ns : List Int) (k l : Int), H p = some (.dK (penK c k l)) ∧ H c = some (.lst (ns.map V.int)) ∧ ns.length ≤ 63 ∧ 0 ≤ k ∧ k ≤ n ∧ 0 ≤ l
/-- where the pen at p keeps its cells -/
def cellsAt (H : Hp) (p c : Addr) : Prop := ∃ k l, H p = some (.dK (penK c k l))
theorem penK_inj {c c' : Addr} {k l k' l' : Int} (h : penK c k l = penK c' k' l') : c = c' := by
  unfold penK at h
  injection h with h1 _
  injection h1 with _ h2
  injection h2
theorem cellsAt.inj {H : Hp} {p c : Addr} {k l : Int} {c' : Addr} (h : cellsAt H p c) (e : H p = some (.dK (penK c' k l))) : c = c' := by
  obtain ⟨k', l', e'⟩ := h
  rw [e] at e'
  injection e' with e'
  injection e' with e'
  exact (penK_inj e').symm
/-- all but what stands at p is as it was, and the pen there has the same cells -/
structure Frm (p : Addr) (H H' : Hp) : Prop where
  at_ : ∀ b o, H b = some o → b ≠ p → H' b = some o
  ce : ∀ c, cellsAt H p c → cellsAt H' p c
instance {p : Addr} {H H' : Hp} : CoeFun (Frm p H H') (fun _ => ∀ b o, H b = some o → b ≠ p → H' b = some o) := ⟨Frm.at_⟩
theorem Frm.refl (p : Addr) (H : Hp) : Frm p H H := ⟨fun _ _ h _ => h, fun _ h => h⟩
theorem Frm.trans {p : Addr} {H H1 H2 : Hp} (a : Frm p H H1) (b : Frm p H1 H2) : Frm p H H2 := ⟨fun c o h n => b c o (a c o h n) n, fun c h => b.ce c (a.ce c h)⟩
theorem Frm.pen {p c : Addr} {H : Hp} {k l k' l' : Int} (h : H p = some (.dK (penK c k l))) : Frm p H (upd H p (.dK (penK c k' l'))) :=
  ⟨fun b x e n => by rw [upd_ne n]; exact e, fun c' h' => by rw [h'.inj h]; exact ⟨k', l', upd_same⟩⟩
theorem Frm.new {p q : Addr} {H : Hp} {o : HO} (h : H q = none) : Frm p H (upd H q o) :=
  ⟨fun b x e _ => by rw [upd_ne (ne_of_none e h)]; exact e, fun c ⟨k, l, e⟩ => ⟨k, l, by rw [upd_ne (ne_of_none e h)]; exact e⟩⟩
/-- a list that is not the pen's cells is changed -/
theorem Pen.put {H : Hp} {p c a : Addr} {n : Nat} {xs : List V} {o : HO} (P : Pen H p n) (hc : cellsAt H p c) (h : H a = some (.lst xs)) (n1 : c ≠ a) : Pen (upd H a o) p n := by
  obtain ⟨c', ns, k, l, h1, h2, h3⟩ := P
  obtain rfl := hc.inj h1
  exact ⟨c, ns, k, l, by rw [upd_ne (ne_of h1 h (by intro z; cases z))]; exact h1, by rw [upd_ne n1]; exact h2, h3⟩
theorem Pen.cells {H : Hp} {p : Addr} {n : Nat} (P : Pen H p n) : ∃ c, cellsAt H p c ∧ H c ≠ none := by
  obtain ⟨c, ns, k, l, h1, h2, _⟩ := P
  exact ⟨c, ⟨k, l, h1⟩, by rw [h2]; exact fun z => nomatch z⟩
theorem Pen.dict {H : Hp} {p : Addr} {n : Nat} (P : Pen H p n) : ∃ kvs, H p = some (.dK kvs) := by
  obtain ⟨c, ns, k, l, h1, _⟩ := P
  exact ⟨_, h1⟩
/-- what stands at a list, a tuple or an object is not the pen -/
theorem Frm.lst {H H' : Hp} {p a : Addr} {n : Nat} {xs : List V} (f : Frm p H H') (P : Pen H p n) (h : H a = some (.lst xs)) : H' a = some (.lst xs) := by
  obtain ⟨kvs, hp⟩ := P.dict
  exact f _ _ h (ne_of h hp (by intro z; cases z))
theorem Pen.mono {H : Hp} {p : Addr} {n m : Nat} (P : Pen H p n) (h : n ≤ m) : Pen H p m := by
  obtain ⟨c, ns, k, l, h1, h2, h3, h4, h5, h6⟩ := P
  exact ⟨c, ns, k, l, h1, h2, h3, h4, by omega, h6⟩
theorem Pen.new {H : Hp} {p q : Addr} {n : Nat} {o : HO} (P : Pen H p n) (h : H q = none) : Pen (upd H q o) p n := by
  obtain ⟨c, ns, k, l, h1, h2, h3, h4, h5, h6⟩ := P
  exact ⟨c, ns, k, l, by rw [upd_ne (ne_of_none h1 h)]; exact h1, by rw [upd_ne (ne_of_none h2 h)]; exact h2, h3, h4, h5, h6⟩
/-! ### the promises -/
/-- a draw: some number below m -/
def spDraw : Sp := fun vs H Q _ => ∃ (p : Addr) (m : Int) (n : Nat), vs = [.ref p, .int m] ∧ 0 < m ∧ m.natAbs < 2 ^ 200 ∧ Pen H p n ∧ n ≤ 1000000 ∧
  ∀ (r : Int) (H' : Hp), 0 ≤ r → r < m → Pen H' p (n + 1) → Frm p H H' → Q (.int r) H'
/-- a def that lets nothing out, as it is called by its name -/
structure Cl (P : Program) (w : World) (K : PySem.W.Frag) (mg : Str → Option Value) (base : Heap) (k : Nat) (x : Str) (ps : List Str) (sp : Sp) : Prop where
  ex : ∃ (f : Addr) (fd : FuncData), FnOk P w K mg base CX0 k f fd ps sp ∧ mg x = some (.ref f) ∧ PySem.W.keepIn K (.ref f) = true ∧ Binds K fd ps []
theorem pe_cl {X : Cx} {k j : Nat} {x : Str} {ps : List Str} {sp : Sp} {e : Expr} {es : List Expr} {t : TA} {p pos : Pos} (c : Cl X.prog X.w X.K X.mg X.base k x ps sp) (hr : Room j X.A) (hk : k ≤ j) (hg : Gl X x) (ha : PA X (e :: es) t)
    (hdb : (x == ("__debug__" : Str)) = false := by decide) (he : starEach (e :: es) X.env = (false, eval e X.env) :: starEach es X.env := by rfl) (hpl : (backTo pos (starEach es X.env)).any (·.1) = false := by rfl) :
    PE X (.Call (.Name x p) (e :: es) [] pos) (tCall sp [] E0 t) := by
  obtain ⟨f, fd, F, hm, hkp, hb⟩ := c.ex
  exact pe_call F (hr.mono hk) hg hm hkp hb .nil pass0 ha hdb he hpl
theorem Frm.seq {K : PySem.W.Frag} {H H' : Hp} {p a : Addr} {n : Nat} {xs : List V} (f : Frm p H H') (P : Pen H p n) (h : SqL K H a xs) : SqL K H' a xs := by
  obtain ⟨c, ns, k, l, hp, _⟩ := P
  rcases h with (h | ⟨o, h⟩) | h
  · exact .inl (.inl (f _ _ h (ne_of h hp (by intro z; cases z))))
  · exact .inl (.inr ⟨o, f _ _ h (ne_of h hp (by intro z; cases z))⟩)
  · exact .inr h
theorem Frm.tup {K : PySem.W.Frag} {H H' : Hp} {p a : Addr} {n : Nat} {xs : List V} (f : Frm p H H') (P : Pen H p n) (h : SqT K H a xs) : SqT K H' a xs := by
  obtain ⟨c, ns, k, l, hp, _⟩ := P
  rcases h with (h | ⟨o, h⟩) | h
  · exact .inl (.inl (f _ _ h (ne_of h hp (by intro z; cases z))))
  · exact .inl (.inr ⟨o, f _ _ h (ne_of h hp (by intro z; cases z))⟩)
  · exact .inr h
/-- an item of a list that is not empty -/
def spPick (K : PySem.W.Frag) : Sp := fun vs H Q _ => ∃ (p a : Addr) (xs : List V) (n : Nat), vs = [.ref p, .ref a] ∧ SqL K H a xs ∧ 0 < xs.length ∧ xs.length ≤ 1000 ∧ Pen H p n ∧ n ≤ 1000000 ∧
  ∀ (v : V) (H' : Hp), v ∈ xs → Pen H' p (n + 1) → Frm p H H' → Q v H'
/-- some number, not too great -/
def spWhole : Sp := fun vs H Q _ => ∃ (p : Addr) (n : Nat), vs = [.ref p] ∧ Pen H p n ∧ n ≤ 900000 ∧
  ∀ (r : Int) (H' : Hp), -(10 ^ 30) < r → r < 10 ^ 30 → Pen H' p (n + 3) → Frm p H H' → Q (.int r) H'
/-- the pen, made of the script -/
def spPen (K : PySem.W.Frag) : Sp := fun vs H Q _ => ∃ (a : Addr) (ns : List Int), vs = [.ref a] ∧ SqL K H a (ns.map V.int) ∧ ns.length ≤ 63 ∧
  ∀ (p : Addr) (H' : Hp), H p = none → Pen H' p 0 → Same H H' → Q (.ref p) H'
structure Bl (mg : Str → Option Value) : Prop where
  int : mg "int" = none
  len : mg "len" = none
  abs : mg "abs" = none
  list : mg "list" = none
theorem dg {H : Hp} {p : Addr} {kvs : List (Key × V)} {x : Str} {v : V} (h : H p = some (.dK kvs)) (e : valV kvs (.inr x) = some v) : DGet H p (.str x) (some v) := e ▸ DGet.k (k := .inr x) h
theorem dp {H : Hp} {p : Addr} {kvs kvs' : List (Key × V)} {x : Str} {v : V} (h : H p = some (.dK kvs)) (e : putK kvs (.inr x) v = kvs') (hl : kvs.length < sizeLine) : DPut H p (.str x) v (upd H p (.dK kvs')) := e ▸ DPut.k (k := .inr x) h hl
theorem pen_small (c : Addr) (k l : Int) : (penK c k l).length < sizeLine := by show 3 < sizeLine; decide
theorem mod_bd (a b : Int) (h : 0 < b) : 0 ≤ a % b ∧ a % b < b := ⟨Int.emod_nonneg a (by omega), Int.emod_lt_of_pos a h⟩
theorem boot_absO : bootBuiltins ("abs" : Str) = some (.builtin "abs") := by decide +kernel
section
variable {P : Program} {w : World} {K : PySem.W.Frag} {mg : Str → Option Value} {base : Heap}
theorem scDraw : FnScope ["_law_pen", "_law_many", "_law_digit", "_law_place", "_law_size", "_law_told", "_law_blend"] ["_law_pen", "_law_many"] (defScope sDraw) := ⟨rfl, rfl, rfl, by decide +kernel, rfl, by decide +kernel, by decide +kernel⟩
theorem div200 {m : Int} (h : 0 < m) (h2 : m.natAbs < 2 ^ 200) (i : Int) : CDivW i m := wide_div h h2 (by decide) (by decide)
theorem ok_draw {f : Addr} {fd : FuncData} (F : Fun K "_law_draw" "_law_draw" sDraw f fd) (B : Bl mg) : FnOk P w K mg base CX0 1 f fd ["_law_pen", "_law_many"] spDraw := by
  refine F.ok scDraw (fun vs H Q E h => ?_) (fun cdv A outer s H vs Q E hr h => ?_)
  · obtain ⟨p, m, n, rfl, _⟩ := h
    rfl
  · obtain ⟨p, m, n, rfl, hm, hmb, ⟨c, ns, k, l, hp, hc, hns, hk0, hkn, hl⟩, hn, q⟩ := h
    have hu := hu_of hr
    have ncp : c ≠ p := ne_of hc hp (by intro z; cases z)
    have nd := scDraw.nd
    refine ⟨_, pss_cons (ps_if (pt_cmpR op_gt (pe_dget hu (pv 0) pe_str (fun _ _ => rfl)) pe_int (nomark _))
        (pss_cons (ps_set (i := 2) nd rfl (.inl rfl) (pe_op op_mod (pe_callTy call_int1 (by rfl) B.int boot_int (pa_cons (pe_dget hu (pv 0) pe_str (fun _ _ => rfl)) pa_nil)) (pv 1)))
        (pss_cons (ps_dput hu (pv 0) pe_str (pe_op op_fdivW (pe_dget hu (pv 0) pe_str (fun _ _ => rfl)) (pv 1)) rfl)
        (pss_one (ps_ret (pv 2))))) pss_nil)
      (pss_cons (ps_par (i := 3) (j := 4) rfl nd rfl rfl (by decide) rfl rfl (pa_cons (pe_dget hu (pv 0) pe_str (fun _ _ => rfl)) (pa_cons (pe_callB call_len_seq (by rfl) B.len PySem.boot_len (pa_cons (pe_dget hu (pv 0) pe_str (fun _ _ => rfl)) pa_nil)) pa_nil)) rfl)
      (pss_cons (ps_dput hu (pv 0) pe_str (pe_op op_add (pv 3) pe_int) rfl)
      (Evl.pss_cut (ps_set (i := 5) nd rfl (.inl rfl) (pe_ifExp (pt_cmpR op_gt (pv 4) pe_int (nomark _))
          (pe_ix ix_list (pe_dget hu (pv 0) pe_str (fun _ _ => rfl)) (pe_op op_mod (pe_callTy call_int1 (by rfl) B.int boot_int (pa_cons (pv 3) pa_nil)) (pv 4)) (fun _ _ => rfl))
          (pe_op op_add (pe_op op_mul pe_int (pv 3)) pe_int)))
      (Evl.pss_cut (ps_if (PW.pt (pw_and (pt_cmpR op_lt (pv 3) (pv 4) (nomark _)) (pw_and1 (pt_cmpR op_ge (pe_callB call_abs (by rfl) B.abs boot_absO (pa_cons (pv 5) pa_nil)) (pe_op op_pow pe_int pe_int) (nomark _)))))
        (pss_cons (ps_dput hu (pv 0) pe_str (pe_op op_fdivW (pe_op op_sub (pe_callB call_abs (by rfl) B.abs boot_absO (pa_cons (pv 5) pa_nil)) (pe_op op_pow pe_int pe_int)) (pv 1)) rfl)
        (pss_one (ps_ret (pe_op op_mod (pe_callTy call_int1 (by rfl) B.int boot_int (pa_cons (pe_op op_sub (pe_callB call_abs (by rfl) B.abs boot_absO (pa_cons (pv 5) pa_nil)) (pe_op op_pow pe_int pe_int)) pa_nil)) (pv 1))))) pss_nil)
      (pss_cons (ps_set (i := 6) nd rfl (.inl rfl) (pe_op op_mod (pe_callTy call_int1 (by rfl) B.int boot_int (pa_cons
          (pe_op op_add (pe_op op_add (pe_op op_mul (pe_op op_mod (pe_callTy call_int1 (by rfl) B.int boot_int (pa_cons (pv 5) pa_nil)) pe_int) pe_int) (pe_op op_mul (pe_op op_mul pe_int (pv 3)) (pv 3))) pe_int) pa_nil)) pe_int))
      (pss_cons (ps_set (i := 6) nd rfl (.inl rfl) (pe_op op_mod (pe_callTy call_int1 (by rfl) B.int boot_int (pa_cons
          (pe_op op_add (pe_op op_add (pe_op op_add (pe_op op_mul (pv 6) (pv 6)) (pe_op op_mul pe_int (pv 6))) (pe_op op_mul pe_int (pv 3))) pe_int) pa_nil)) pe_int))
      (pss_one (ps_ret (pe_op op_mod (pe_callTy call_int1 (by rfl) B.int boot_int (pa_cons (pe_op op_fdiv (pe_op op_mod (pe_callTy call_int1 (by rfl) B.int boot_int (pa_cons (pe_op op_mul (pv 6) (pe_op op_add (pv 6) pe_int)) pa_nil)) pe_int) pe_int) pa_nil)) (pv 1)))))))))), ?_⟩
    -- if pen['left'] > 0
    have dL : DGet H p (.str "left") (some (.int l)) := dg hp (pen_left c k l)
    have dB : DGet H p (.str "begun") (some (.int k)) := dg hp (pen_begun c k l)
    have dC : DGet H p (.str "cells") (some (.ref c)) := dg hp (pen_cells c k l)
    refine ⟨_, rfl, p, .int l, rfl, dL, _, _, rfl, rfl, _, rfl, ite2 (fun e => ?_) (fun e => ?_)⟩
    · have hl1 : 0 < l := of_decide_eq_true e
      refine ⟨_, rfl, p, .int l, rfl, dL, .inl ⟨l, rfl, _, rfl, l, m, rfl, rfl, hm, ?_⟩⟩
      refine ⟨_, rfl, p, .int l, rfl, dL, _, rfl, l, m, rfl, rfl, div200 hm hmb l, _, rfl, p, _, rfl, dp hp (pen_put_left c k l _) (pen_small c k l), _, rfl, ?_⟩
      refine q (l % m) _ (mod_bd l m hm).1 (mod_bd l m hm).2 ⟨c, ns, k, l / m, upd_same, by rw [upd_ne ncp]; exact hc, hns, hk0, by omega, Int.ediv_nonneg hl (by omega)⟩ (Frm.pen hp)
    · -- k, size = pen['begun'], len(pen['cells'])
      have hcL : SqL K H c (ns.map V.int) := .inl (.inl hc)
      refine ⟨_, rfl, p, .int k, rfl, dB, _, rfl, p, .ref c, rfl, dC, c, _, rfl, .inl hcL, _, _, rfl, ?_⟩
      refine ⟨_, rfl, _, _, rfl, rfl, _, rfl, p, _, rfl, dp hp (pen_put_begun c k l _) (pen_small c k l), ?_⟩
      -- cell = ..
      have hl0 : l = 0 := by
        have : ¬ (0 < l) := fun z => e (decide_eq_true z)
        omega
      have hp1 : (upd H p (.dK (penK c (k + 1) l))) p = some (.dK (penK c (k + 1) l)) := upd_same
      have hc1 : (upd H p (.dK (penK c (k + 1) l))) c = some (.lst (ns.map V.int)) := by rw [upd_ne ncp]; exact hc
      have dC1 := dg (x := "cells") hp1 (pen_cells c (k + 1) l)
      have hcL1 : SqL K (upd H p (.dK (penK c (k + 1) l))) c (ns.map V.int) := .inl (.inl hc1)
      have fin : ∀ (r y : Int), 0 ≤ r → r < m → 0 ≤ y → ∀ H', H' = upd H p (.dK (penK c (k + 1) y)) → Q (.int r) H' := fun r y h0 h1 hy H' e => by
        subst e
        exact q r _ h0 h1 ⟨c, ns, k + 1, y, upd_same, by rw [upd_ne ncp]; exact hc, hns, by omega, by omega, hy⟩ (Frm.pen hp)
      refine ⟨fun σ' H' => ∃ cell : Int, σ' = [some (.ref p), some (.int m), none, some (.int k), some (.int ((ns.map V.int).length : Int)), some (.int cell), none] ∧ H' = upd H p (.dK (penK c (k + 1) l)), ?_, ?_⟩
      · refine ⟨_, rfl, _, _, rfl, rfl, _, rfl, ite2 (fun e2 => ?_) (fun e2 => ?_)⟩
        · have hsz : (0 : Int) < ((ns.map V.int).length : Int) := of_decide_eq_true e2
          have hb := mod_bd k _ hsz
          have hj : (k % ((ns.map V.int).length : Int)).toNat < ns.length := by
            rw [List.length_map] at hb ⊢
            omega
          refine ⟨_, rfl, p, _, rfl, dC1, _, rfl, .inl ⟨k, rfl, _, rfl, k, _, rfl, rfl, hsz, c, ns.map V.int, _, .int ns[(k % ((ns.map V.int).length : Int)).toNat], rfl, rfl, hcL1, ?_, ?_⟩⟩
          · have := atI_nat (xs := ns.map V.int) (j := (k % ((ns.map V.int).length : Int)).toNat) (v := .int ns[(k % ((ns.map V.int).length : Int)).toNat]) (by rw [List.getElem?_map, List.getElem?_eq_getElem hj]; rfl)
            rw [Int.toNat_of_nonneg hb.1] at this
            exact this
          · exact ⟨_, rfl, rfl⟩
        · refine ⟨_, rfl, _, _, rfl, rfl, .inl ⟨by decide, by decide⟩, _, _, rfl, rfl, ?_⟩
          exact ⟨_, rfl, rfl⟩
      · rintro σ' H' ⟨cell, rfl, rfl⟩
        refine ⟨fun σ' H' => σ' = [some (.ref p), some (.int m), none, some (.int k), some (.int ((ns.map V.int).length : Int)), some (.int cell), none] ∧ H' = upd H p (.dK (penK c (k + 1) l)), ?_, ?_⟩
        · have hpow : CPow 10 18 := ⟨by decide, by decide, by decide⟩
          refine ⟨_, rfl, _, rfl, _, _, rfl, rfl, _, rfl, ite2 (fun e2 => ?_) (fun e2 => ?_)⟩
          · refine ⟨_, rfl, cell, rfl, _, _, rfl, rfl, hpow, _, _, rfl, rfl, _, rfl, ite2 (fun e3 => ?_) (fun e3 => ?_)⟩
            · have hge := of_decide_eq_true e3
              refine ⟨_, rfl, cell, rfl, _, _, rfl, rfl, hpow, _, _, rfl, rfl, _, rfl, _, _, rfl, rfl, div200 hm hmb _, _, rfl, p, _, rfl, dp hp1 (pen_put_left c (k + 1) l _) (pen_small c _ l), ?_⟩
              refine ⟨_, rfl, cell, rfl, _, _, rfl, rfl, hpow, _, _, rfl, rfl, .inl ⟨_, rfl, _, rfl, _, _, rfl, rfl, hm, ?_⟩⟩
              refine fin _ (((if cell < 0 then -cell else cell) - 10 ^ (18 : Int).toNat) / m) (mod_bd _ m hm).1 (mod_bd _ m hm).2 (Int.ediv_nonneg ?_ (by omega)) _ ?_
              · show (0 : Int) ≤ (if cell < 0 then -cell else cell) - 10 ^ (18 : Int).toNat
                have : (10 : Int) ^ (18 : Int).toNat ≤ (if cell < 0 then -cell else cell) := hge
                omega
              · rw [upd_upd]
            · exact ⟨rfl, rfl⟩
          · exact iteF ⟨rfl, rfl⟩
        · rintro σ' H' ⟨rfl, rfl⟩
          refine ⟨_, rfl, .inl ⟨_, rfl, _, _, rfl, rfl, (by show (0 : Int) < 4294967279; decide), _, _, rfl, rfl, .inr ⟨by decide, by decide⟩, _, rfl, _, _, rfl, rfl, .inl ⟨by decide, by decide⟩, _, rfl, _, _, rfl, rfl, .inl ?_, _, _, rfl, rfl, _, _, rfl, rfl, .inl ⟨_, rfl, _, _, rfl, rfl, (by show (0 : Int) < 4294967291; decide), ?_⟩⟩⟩
          · constructor <;> omega
          generalize hM : (cell % 4294967279 * 50923 + 31249 * k * k + 977) % 4294967291 = M
          have hMb : 0 ≤ M ∧ M < 4294967291 := hM ▸ mod_bd _ _ (by decide)
          refine ⟨_, rfl, _, rfl, _, _, rfl, rfl, .inl (by constructor <;> omega), _, rfl, _, _, rfl, rfl, .inl ⟨by decide, by decide⟩, _, _, rfl, rfl, _, rfl, _, _, rfl, rfl, .inl ⟨by decide, by decide⟩, _, _, rfl, rfl, _, _, rfl, rfl, .inl ⟨_, rfl, _, _, rfl, rfl, (by show (0 : Int) < 4294967231; decide), ?_⟩⟩
          generalize hM2 : (M * M + 70001 * M + 41 * k + 13) % 4294967231 = M2
          have hMb2 : 0 ≤ M2 ∧ M2 < 4294967231 := hM2 ▸ mod_bd _ _ (by decide)
          refine ⟨_, rfl, _, rfl, _, _, rfl, rfl, _, _, rfl, rfl, .inl (by constructor <;> omega), .inl ⟨_, rfl, _, _, rfl, rfl, (by show (0 : Int) < 4294967189; decide), _, _, rfl, rfl, ⟨by decide, by decide⟩, .inl ⟨_, rfl, _, rfl, _, _, rfl, rfl, hm, ?_⟩⟩⟩
          exact fin _ l (mod_bd _ m hm).1 (mod_bd _ m hm).2 hl _ rfl
theorem scPick : FnScope ["_law_pen", "_law_options"] ["_law_pen", "_law_options"] (defScope sPick) := ⟨rfl, rfl, rfl, by decide +kernel, rfl, by decide +kernel, by decide +kernel⟩
theorem ok_pick {f : Addr} {fd : FuncData} (F : Fun K "_law_pick" "_law_pick" sPick f fd) (B : Bl mg) (D : Cl P w K mg base 1 "_law_draw" ["_law_pen", "_law_many"] spDraw) : FnOk P w K mg base CX0 2 f fd ["_law_pen", "_law_options"] (spPick K) := by
  refine F.ok scPick (fun vs H Q E h => ?_) (fun cdv A outer s H vs Q E hr h => ?_)
  · obtain ⟨p, a, xs, n, rfl, _⟩ := h
    rfl
  · obtain ⟨p, a, xs, n, rfl, hS, h0, h1, hP, hn, q⟩ := h
    refine ⟨_, pss_one (ps_ret (pe_ix ix_list (pv 1) (pe_cl D hr (by decide) (by rfl) (pa_cons (pv 0) (pa_cons (pe_callB call_len_seq (by rfl) B.len PySem.boot_len (pa_cons (pv 1) pa_nil)) pa_nil))) (fun _ _ => rfl))), ?_⟩
    refine ⟨_, rfl, _, rfl, _, rfl, a, xs, rfl, .inl hS, p, xs.length, n, rfl, by omega, ?_, hP, hn, fun r H' hr0 hr1 hP' hF => ?_⟩
    · have : xs.length < 2 ^ 200 := Nat.lt_of_le_of_lt h1 (by decide)
      simpa using this
    · have hj : r.toNat < xs.length := by omega
      refine ⟨a, xs, r, xs[r.toNat], rfl, rfl, hF.seq hP hS, ?_, q _ _ (List.getElem_mem hj) hP' hF⟩
      have := atI_nat (xs := xs) (j := r.toNat) (v := xs[r.toNat]) (List.getElem?_eq_getElem hj)
      rw [Int.toNat_of_nonneg hr0] at this
      exact this
theorem scPen : FnScope ["_law_script"] ["_law_script"] (defScope sPenOf) := ⟨rfl, rfl, rfl, by decide +kernel, rfl, by decide +kernel, by decide +kernel⟩
theorem cut63 (ns : List Int) : cutV (ns.map V.int) none (some 63) = (ns.take 63).map V.int := by
  unfold cutV
  rw [HT.sIx_none, show HT.sIx (ns.map V.int).length (ns.map V.int).length (some 63) = min 63 (ns.map V.int).length from HT.sIx_nat _ _ 63, List.drop_zero, Nat.sub_zero, List.map_take]
  rcases Nat.le_total 63 (ns.map V.int).length with h | h
  · rw [Nat.min_eq_left h]
  · rw [Nat.min_eq_right h, List.take_of_length_le (Nat.le_refl _), List.take_of_length_le h]
theorem ok_pen {f : Addr} {fd : FuncData} (F : Fun K "_law_pen_of" "_law_pen_of" sPenOf f fd) (B : Bl mg) : FnOk P w K mg base CX0 1 f fd ["_law_script"] (spPen K) := by
  refine F.ok scPen (fun vs H Q E h => ?_) (fun cdv A outer s H vs Q E hr h => ?_)
  · obtain ⟨a, ns, rfl, _⟩ := h
    rfl
  · obtain ⟨a, ns, rfl, hS, hlen, q⟩ := h
    refine ⟨_, pss_one (ps_ret (pe_disp (pps_cons pe_str (pe_callTy call_list_of (by rfl) B.list (by decide +kernel) (pa_cons (pe_slice sl_list (pv 0) po_none (po_some pe_int)) pa_nil)) (pps_cons pe_str pe_int (pps_cons pe_str pe_int pps_nil))) rfl rfl (by simp) (by decide))), ?_⟩
    intro p hp
    have s1 : Same H (upd H p (.dK [])) := fun b o e => by rw [upd_ne (ne_of_none e hp)]; exact e
    refine ⟨_, rfl, _, rfl, a, _, rfl, s1.seq hS, fun x hx => ?_⟩
    refine ⟨x, _, rfl, .inl (.inl (.inl upd_same)), fun c hc => ?_⟩
    have npx : p ≠ x := ne_of_none upd_same hx
    have npc : p ≠ c := by
      intro e
      subst e
      rw [upd_ne npx, upd_same] at hc
      cases hc
    have a1 : putK ([] : List (Key × V)) (.inr ("cells" : Str)) (.ref c) = [(.inr ("cells" : Str), .ref c)] := putK_new _ valV_nil
    have a2 : putK ([(.inr ("cells" : Str), .ref c)] : List (Key × V)) (.inr ("begun" : Str)) (.int 0) = [(.inr ("cells" : Str), .ref c), (.inr ("begun" : Str), .int 0)] := putK_new _ ((valV_neg (fun e => kBC e.symm)).trans valV_nil)
    have a3 : putK ([(.inr ("cells" : Str), .ref c), (.inr ("begun" : Str), .int 0)] : List (Key × V)) (.inr ("left" : Str)) (.int 0) = penK c 0 0 := putK_new _ ((valV_neg (fun e => kLC e.symm)).trans ((valV_neg (fun e => kLB e.symm)).trans valV_nil))
    have e3 : mergeK [] (penK c 0 0) = penK c 0 0 := by
      show putK (putK (putK ([] : List (Key × V)) (.inr ("cells" : Str)) (.ref c)) (.inr ("begun" : Str)) (.int 0)) (.inr ("left" : Str)) (.int 0) = penK c 0 0
      rw [a1, a2, a3]
    refine ⟨by rw [upd_ne npc, upd_ne npx, upd_same], penK c 0 0, rfl, by show 3 ≤ 15; decide, ?_⟩
    rw [e3]
    refine q p _ hp ⟨c, ns.take 63, 0, 0, upd_same, ?_, by rw [List.length_take]; omega, by omega, by omega, by omega⟩ fun b o e => ?_
    · rw [upd_ne npc.symm, upd_same, cut63]
    · have h1 := s1 b o e
      have nbx : b ≠ x := ne_of_none h1 hx
      have h2 : (upd (upd H p (.dK [])) x (.lst (cutV (ns.map V.int) none (some 63)))) b = some o := by rw [upd_ne nbx]; exact h1
      rw [upd_ne (ne_of_none e hp), upd_ne (ne_of_none h2 hc)]
      exact h2
end
end OR

namespace OR
open PySem PySem.Spec PyProof.Rows L2
/-! ### own classes: double-underscore methods behind the signs -/
/-- a method of the class at C, called with its object and arguments by position -/
structure Md (P : Program) (w : World) (K : PySem.W.Frag) (mg : Str → Option Value) (base : Heap) (k : Nat) (C : Addr) (m : Str) (sp : Sp) : Prop where
  ex : ∃ f, FnR P w K mg base CX0 k f sp ∧ PySem.W.findIn K (.ref C) m = some (some (.ref f)) ∧ PySem.W.isFn K (.ref f) = true ∧ PySem.W.fnIn K f = true
theorem fnR_of {P : Program} {w : World} {K : PySem.W.Frag} {mg : Str → Option Value} {base : Heap} {k : Nat} {f : Addr} {fd : FuncData} {ps : List Str} {sp : Sp} (F : FnOk P w K mg base CX0 k f fd ps sp) (hb : Binds K fd ps []) : FnR P w K mg base CX0 k f sp :=
  (F.raw hb .nil).imp fun vs H Q E h => by rw [List.append_nil]; exact h
section
variable {X : Cx} {n : Nat} {C : Addr} {sp : Sp}
def rBinS (C : Addr) (sp : Sp) : R2 := fun x y H Q => ∃ a b dx dy fs gs, x = .ref a ∧ y = .ref b ∧ H a = some (.ins C dx fs) ∧ H b = some (.ins C dy gs) ∧ sp [x, y] H Q E0
theorem op_binS {op : Operator} (m : Md X.prog X.w X.K X.mg X.base n C (PySem.dunder op.info.2) sp) (sf : PySem.W.selfFirst X.K C = true) (hr : Room n X.A) : OpR X (binaryOp op) (rBinS C sp) := by
  intro pins s σ H x y v u Q I rx ry h
  obtain ⟨f, F, hs, hf, _⟩ := m.ex
  obtain ⟨a, b, dx, dy, fs, gs, rfl, rfl, ha, hb, q⟩ := h
  cases (show v = Value.ref a from rx)
  cases (show u = Value.ref b from ry)
  obtain ⟨mA, J, _⟩ := ins_get I.hok ha
  obtain ⟨mB, J', _⟩ := ins_get I.hok hb
  obtain ⟨od, J, _⟩ := J.look
  obtain ⟨od', J', _⟩ := J'.look
  obtain ⟨m, hF⟩ := I.fr
  refine PySem.W.binop_K hF I.ok.mod.kin J J'.type sf hs hf ?_
  refine wpAny_mono (wpAny_call (run_fnR (us := [.ref a, .ref b]) (vs := [.ref a, .ref b]) F hr pass0 I (.cons rfl (.cons rfl .nil)) q)) (fun w s' z => ?_) fun _ _ x => x
  obtain ⟨z', H', I', rz, qz⟩ := z
  exact SlX.cmpback rz ⟨z', H', I', rz, qz⟩
/-- what + and the like ask of the class for an int on the right -/
structure BinI (K : PySem.W.Frag) (C : Addr) (op : Operator) : Prop where
  rc : ∃ rc, PySem.W.findIn K (.ref C) (PySem.dunderR op.info.2) = some rc ∧ (rc = none ∨ ∃ g : Addr, rc = some (.ref g))
  fo : ∃ fo, PySem.W.findIn K (.type "int") (PySem.dunder op.info.2) = some fo
  ro : ∃ ro, PySem.W.findIn K (.type "int") (PySem.dunderR op.info.2) = some ro
  sub : PySem.W.subIn K (.type "int") (.ref C) = some false
def rBinI (C : Addr) (sp : Sp) : R2 := fun x y H Q => ∃ a dx fs i, x = .ref a ∧ y = .int i ∧ H a = some (.ins C dx fs) ∧ sp [x, y] H Q E0
theorem op_binI {op : Operator} (m : Md X.prog X.w X.K X.mg X.base n C (PySem.dunder op.info.2) sp) (b : BinI X.K C op) (sf : PySem.W.selfFirst X.K C = true) (hr : Room n X.A) : OpR X (binaryOp op) (rBinI C sp) := by
  intro pins s σ H x y v u Q I rx ry h
  obtain ⟨f, F, hs, hf, _⟩ := m.ex
  obtain ⟨a, dx, fs, i, rfl, rfl, ha, q⟩ := h
  cases (show v = Value.ref a from rx)
  obtain ⟨t, rfl⟩ := (show ∃ t, u = Value.int i t from ry)
  obtain ⟨mA, J, _⟩ := ins_get I.hok ha
  obtain ⟨od, J, _⟩ := J.look
  obtain ⟨m, hF⟩ := I.fr
  obtain ⟨rc, hrc, hp⟩ := b.rc
  obtain ⟨fo, h1⟩ := b.fo
  obtain ⟨ro, h2⟩ := b.ro
  refine PySem.W.ksp_binT (T := "int") hF I.ok.mod.kin J rfl sf hs hf hrc hp h1 h2 b.sub ?_
  refine wpAny_mono (wpAny_call (run_fnR (us := [.ref a, .int i t]) (vs := [.ref a, .int i]) F hr pass0 I (.cons rfl (.cons ⟨t, rfl⟩ .nil)) q)) (fun w s' z => ?_) fun _ _ x => x
  obtain ⟨z', H', I', rz, qz⟩ := z
  exact SlX.cmpback rz ⟨z', H', I', rz, qz⟩
def rNegO (C : Addr) (sp : Sp) : V → Hp → VK → Prop := fun x H Q => ∃ a dx fs, x = .ref a ∧ H a = some (.ins C dx fs) ∧ sp [x] H Q E0
theorem un_negO (m : Md X.prog X.w X.K X.mg X.base n C "__neg__" sp) (hr : Room n X.A) : UnR X (unaryOp .USub) (rNegO C sp) := by
  intro pins s σ H x v Q I rx h
  obtain ⟨f, F, hs, hf, _⟩ := m.ex
  obtain ⟨a, dx, fs, rfl, ha, q⟩ := h
  cases (show v = Value.ref a from rx)
  obtain ⟨mA, J, _⟩ := ins_get I.hok ha
  obtain ⟨od, J, _⟩ := J.look
  obtain ⟨m, hF⟩ := I.fr
  refine PySem.W.ksp_neg hF I.ok.mod.kin J hs hf ?_
  refine wpAny_mono (wpAny_call (run_fnR (us := [.ref a]) (vs := [.ref a]) F hr pass0 I (.cons rfl .nil) q)) (fun w s' z => ?_) fun _ _ x => x
  exact z
end
/-- a reading may ask for more -/
theorem pe_imp {X : Cx} {e : Expr} {t t' : TE} (h : PE X e t) (i : ∀ σ H Q, t' σ H Q → t σ H Q) : PE X e t' := ⟨fun pins s σ H Q I q => h.run pins s σ H Q I (i σ H Q q)⟩
structure FnAt (K : PySem.W.Frag) (x : Str) (st : Stmt) : Prop where
  ex : ∃ f fd, Fun K x x st f fd ∧ PySem.W.nsIn K mainGlobals x = some (some (.ref f))
theorem fnAt {K : PySem.W.Frag} {h : Heap} {x : Str} {st : Stmt} {f : Addr} {oc : Value} {od an : Option Addr} {osl : Array (Option Value)} {kV doc pm cdv ct : Value} (_X : K.In h)
    (a : PySem.W.nsIn K mainGlobals x = some (some (.ref f))) (l : K.lookup f = some ⟨oc, od, .func (PySem.W.fnOf x x (defArgs st) (defBody st) (defScope st) .none kV doc pm an cdv ct), osl⟩)
    (c : PySem.W.codeIn K cdv x = true) (k : PySem.W.keepIn K (.ref f) = true) : FnAt K x st := ⟨f, _, fun_mk l c k, a⟩
structure MtAt (K : PySem.W.Frag) (C : Addr) (m m' qual : Str) (st : Stmt) : Prop where
  ex : ∃ f fd, Fun K m qual st f fd ∧ PySem.W.findIn K (.ref C) m' = some (some (.ref f)) ∧ PySem.W.isFn K (.ref f) = true ∧ PySem.W.fnIn K f = true
theorem mtAt {K : PySem.W.Frag} {h : Heap} {C : Addr} {m m' qual : Str} {st : Stmt} {f : Addr} {oc : Value} {od an : Option Addr} {osl : Array (Option Value)} {kV doc pm cdv ct : Value} (_X : K.In h)
    (a : PySem.W.findIn K (.ref C) m' = some (some (.ref f))) (l : K.lookup f = some ⟨oc, od, .func (PySem.W.fnOf m qual (defArgs st) (defBody st) (defScope st) .none kV doc pm an cdv ct), osl⟩)
    (c : PySem.W.codeIn K cdv qual = true) (k : PySem.W.keepIn K (.ref f) = true) (i : PySem.W.isFn K (.ref f) = true) (n : PySem.W.fnIn K f = true) : MtAt K C m m' qual st := ⟨f, _, fun_mk l c k, a, i, n⟩
section
variable {P : Program} {w : World} {K : PySem.W.Frag} {mg : Str → Option Value} {base h : Heap}
theorem cl_of {x : Str} {st : Stmt} {k : Nat} {ps : List Str} {sp : Sp} (a : FnAt K x st) (X : K.In h) (G : h.Ns mainGlobals mg)
    (hb : ∀ (kV doc pm : Value) (an : Option Addr) (cdv ct : Value) (us : List Value), us.length = ps.length → bindArgs (PySem.W.fnOf x x (defArgs st) (defBody st) (defScope st) .none kV doc pm an cdv ct) ⟨us, []⟩ = pure (ps.zip us))
    (ok : ∀ f fd, Fun K x x st f fd → FnOk P w K mg base CX0 k f fd ps sp) : Cl P w K mg base k x ps sp := by
  obtain ⟨f, fd, F, e⟩ := a.ex
  exact ⟨f, fd, ok f fd F, PySem.W.mg_of X G e, F.kp, F.binds hb⟩
theorem md_of {C : Addr} {m m' qual : Str} {st : Stmt} {k : Nat} {ps : List Str} {sp : Sp} (a : MtAt K C m m' qual st)
    (hb : ∀ (kV doc pm : Value) (an : Option Addr) (cdv ct : Value) (us : List Value), us.length = ps.length → bindArgs (PySem.W.fnOf m qual (defArgs st) (defBody st) (defScope st) .none kV doc pm an cdv ct) ⟨us, []⟩ = pure (ps.zip us))
    (ok : ∀ f fd, Fun K m qual st f fd → FnOk P w K mg base CX0 k f fd ps sp) : Md P w K mg base k C m' sp := by
  obtain ⟨f, fd, F, e, i, n⟩ := a.ex
  exact ⟨f, fnR_of (ok f fd F) (F.binds hb), e, i, n⟩
end
end OR

namespace OR
open PySem PySem.Spec PyProof.Rows L2
open AutoSeq1 (wpAny_loadPart')
/-! ### enumerate of a tuple -/
section
variable {prog : Program} {w : World} {A : Around} {E : Value → Shared → Prop} {s : Shared}
theorem nextOf_tup_item {it t : Addr} {i : Nat} {items : Array Value} {x : Value} {Q : Value → Shared → Prop} (hit : s.heap.IsTupleIter it t i) (ht : s.heap.IsTuple t items) (hx : items[i]? = some x)
    (hQ : ∀ h', h'.IsTupleIter it t (i + 1) → Heap.SameBut it s.heap h' → Q x { s with heap := h' }) : wpAny (model prog w) A (Builtin.SmallTypes.nextOf (.ref it)) Q E s := by
  obtain ⟨o, ho, hc, hd⟩ := id hit
  obtain ⟨ol, hol, _, nl, hdl⟩ := ht
  unfold Builtin.SmallTypes.nextOf
  refine wpAny_bind (wpAny_callSpecial?_slot (name := Str.ofString "__next__") hit.typeIs F.slot_tuple_iterator_next (wpAny_call_entry F.slot_tuple_iterator_next hit.typeIs F.entry_tuple_iterator_next ?_ (F.args_tuple_iterator_next_1 _)))
  show wpAny _ _ (field (.ref it) 0 >>= _) _ _ s
  refine wpAny_bind (wpAny_field ho hd (x := .ref t) rfl ?_)
  show wpAny _ _ (if (Value.ref t == Value.none) = true then _ else _) _ _ s
  rw [if_neg (show ¬ ((Value.ref t == Value.none) = true) by exact Bool.false_ne_true)]
  show wpAny _ _ (field (.ref it) 1 >>= _) _ _ s
  refine wpAny_bind (wpAny_field ho hd (x := .int i 0) rfl ?_)
  show wpAny _ _ (seqItems? (.ref t) >>= _) _ _ s
  refine wpAny_bind (wpAny_seqItems hol hdl ?_)
  simp only [Int.toNat_natCast, hx]
  refine wpAny_bind (wpAny_setField ho hd (by simp) (wpAny_pure ⟨x, rfl, wpAny_pure (hQ _ ⟨_, Heap.get?_update_self _ ho (Obj.isFreed_of_fields (Obj.data_mapFields hd _)), (Obj.cls_mapFields ..).trans hc, by
    rw [Obj.data_mapFields hd]; simp [rawInt]⟩ (Heap.SameBut.update ..))⟩))
theorem nextOf_tup_end {it t : Addr} {i : Nat} {items : Array Value} {Q : Value → Shared → Prop} (hh : A.handled = none) (hit : s.heap.IsTupleIter it t i) (ht : s.heap.IsTuple t items) (hx : items[i]? = none)
    (hE : ∀ h' e, Heap.ExtBut it s.heap h' → (∃ o, h'.get? e = some o ∧ o.cls = .type "StopIteration") → E (.ref e) { s with heap := h' }) : wpAny (model prog w) A (Builtin.SmallTypes.nextOf (.ref it)) Q E s := by
  obtain ⟨o, ho, hc, hd⟩ := id hit
  obtain ⟨ol, hol, _, nl, hdl⟩ := ht
  unfold Builtin.SmallTypes.nextOf
  refine wpAny_bind (wpAny_callSpecial?_slot (name := Str.ofString "__next__") hit.typeIs F.slot_tuple_iterator_next (wpAny_call_entry F.slot_tuple_iterator_next hit.typeIs F.entry_tuple_iterator_next ?_ (F.args_tuple_iterator_next_1 _)))
  show wpAny _ _ (field (.ref it) 0 >>= _) _ _ s
  refine wpAny_bind (wpAny_field ho hd (x := .ref t) rfl ?_)
  show wpAny _ _ (if (Value.ref t == Value.none) = true then _ else _) _ _ s
  rw [if_neg (show ¬ ((Value.ref t == Value.none) = true) by exact Bool.false_ne_true)]
  show wpAny _ _ (field (.ref it) 1 >>= _) _ _ s
  refine wpAny_bind (wpAny_field ho hd (x := .int i 0) rfl ?_)
  show wpAny _ _ (seqItems? (.ref t) >>= _) _ _ s
  refine wpAny_bind (wpAny_seqItems hol hdl ?_)
  simp only [Int.toNat_natCast, hx]
  refine wpAny_bind (wpAny_rule (wpAny_bind (wpAny_setField ho hd (by simp) ?_)))
  show wpAny _ _ (newExc (.type "StopIteration") [] >>= _) _ _ _
  refine wpAny_bind ?_
  simp only [newExc, newTuple]
  refine wpAny_bind (wpAny_newObj_type ?_ (by size_fits))
  refine wpAny_bind (m := firstArgMember _ _) (wpAny_of_eq (a := Value.none) (by first | rfl | (simp only [firstArgMember]; rfl)) ?_)
  refine wpAny_newObj_type ?_ (by size_fits)
  simp only [raiseNew]
  refine wpAny_bind (wpAny_handled ?_)
  first | rw [show A.in1.handled = none from hh] | rw [hh]
  refine wpAny_bind (wpAny_pure (wpAny_throw ?_))
  exact hE _ _ (((Heap.SameBut.update ..).extBut.push _).push _) ⟨_, Heap.get?_push_size _ rfl, rfl⟩
theorem draws_tup (hh : A.handled = none) (it t : Addr) (hne : t ≠ it) (items : Array Value) :
    Draws prog w A it [it, t] items.size (fun i v => items[i]? = some v) (fun i h => h.IsTupleIter it t i ∧ h.IsTuple t items) where
  live := fun _ _ st => let ⟨o, ho, _⟩ := st.1; ⟨o, ho⟩
  frame := fun _ _ _ st hk => ⟨let ⟨o, ho, r⟩ := st.1; ⟨o, hk it (by simp) o ho, r⟩, let ⟨o, ho, r⟩ := st.2; ⟨o, hk t (by simp) o ho, r⟩⟩
  item := fun i s Q E hi st hQ => by
    refine nextOf_tup_item st.1 st.2 (x := items[i]) (by simp [hi]) fun h' hit' hs' => ?_
    exact hQ _ h' s.toks (by simp [hi]) ⟨hit', st.2.extBut hs'.extBut hne⟩ hs'
  done := fun s Q E st hE => nextOf_tup_end hh st.1 st.2 (by simp) hE
theorem meets_enum_tup (l : Addr) (items : Array Value) (n : Nat) (dct : Option Addr) (sl : Array (Option Value)) :
    Meets (Builtin.«enumerate.__new__» ⟨[.type "enumerate", .ref l], []⟩) (fun _ R s => s.heap.get? l = some { cls := .type "tuple", dict := dct, data := .seq items n, slots := sl } ∧
      R (.ok (.ret (.ref (s.heap.push { cls := .type "tuple_iterator", data := .fields #[.ref l, .int 0 0] }).objs.size)))
        { s with heap := (s.heap.push { cls := .type "tuple_iterator", data := .fields #[.ref l, .int 0 0] }).push { cls := .type "enumerate", data := .fields #[.none, .bool false, .ref s.heap.objs.size, rawInt 0, .none, .none] } }) :=
  .of_wp fun prog w A R s h => by
    obtain ⟨hp, g, d, tk, os⟩ := s
    obtain ⟨hl, h⟩ := h
    have hsub := sub_enumerate
    have hL : Heap.IsTuple (Shared.heap ⟨hp, g, d, tk, os⟩) l items := ⟨_, hl, rfl, n, rfl⟩
    wp_walk using wpAny_loadPart' hl
    refine wpAny_stack_any fun st => wpAny_pure ?_
    split
    · rename_i c _ _ _ _ _
      cases (c == Value.type "enumerate")
      · wp_walk using wpAny_loadPart' hl, wpAny_pyIter_tuple hL
        exact ⟨_, rfl, h⟩
      · wp_walk using wpAny_loadPart' hl, wpAny_pyIter_tuple hL
        exact ⟨_, rfl, h⟩
    · wp_walk using wpAny_loadPart' hl, wpAny_pyIter_tuple hL
      exact ⟨_, rfl, h⟩
theorem call_enum_tup {l : Addr} {items : Array Value} {Q : Value → Shared → Prop} (hL : s.heap.IsTuple l items)
    (h : ∀ h', IsEnum h' (s.heap.objs.size + 1) s.heap.objs.size 0 .none → h'.IsTupleIter s.heap.objs.size l 0 → h'.objs.size = s.heap.objs.size + 2 →
      (∀ b o, s.heap.get? b = some o → h'.get? b = some o) → Q (.ref (s.heap.objs.size + 1)) { s with heap := h' }) :
    wpAny (model prog w) A (call (.type "enumerate") [.ref l]) Q E s := by
  obtain ⟨⟨c, dct, dt, sl⟩, hl, hc, n, hd⟩ := hL
  replace hc : c = .type "tuple" := hc
  replace hd : dt = .seq items n := hd
  subst hc hd
  refine callType_new F.called_enumerate (by decide) (F.typeCall_enumerate_1 _) (F.newCall_enumerate_1 _) (fun obj => F.args_object_init_2 obj _) F.entry_enumerate_new (meets_enum_tup l items n dct sl) ⟨hl, ?_⟩
  have hz : (s.heap.push { cls := .type "tuple_iterator", data := .fields #[.ref l, .int 0 0] }).objs.size = s.heap.objs.size + 1 := Heap.size_push ..
  show _ ∧ _
  rw [hz]
  have he : IsEnum ((s.heap.push { cls := .type "tuple_iterator", data := .fields #[.ref l, .int 0 0] }).push
      { cls := .type "enumerate", data := .fields #[.none, .bool false, .ref s.heap.objs.size, rawInt 0, .none, .none] }) (s.heap.objs.size + 1) s.heap.objs.size 0 .none := by
    have := Heap.get?_push_size (s.heap.push { cls := .type "tuple_iterator", data := .fields #[.ref l, .int 0 0] })
      (o := { cls := .type "enumerate", data := .fields #[.none, .bool false, .ref s.heap.objs.size, rawInt 0, .none, .none] }) rfl
    rw [hz] at this; exact this
  refine ⟨⟨_, he, rfl⟩, h _ he ⟨_, Heap.get?_push_of_some _ (Heap.get?_push_size _ rfl), rfl, rfl⟩ (by rw [Heap.size_push, hz]) fun b o x => Heap.get?_push_of_some _ (Heap.get?_push_of_some _ x)⟩
end
/-- the tuple at a as it stands at each turn, each item in a new pair -/
def IteT (K : PySem.W.Frag) (a : Addr) : It :=
  ⟨fun i H => ∃ (xs : List V) (x : V), SqT K H a xs ∧ xs[i]? = some x, fun i H v H' => ∃ T x, v = .ref T ∧ H T = none ∧ H' = upd H T (.tup [.int (i : Nat), x]) ∧ ∀ xs, SqT K H a xs → xs[i]? = some x, fun i H => ∃ xs : List V, SqT K H a xs ∧ xs.length ≤ i⟩
theorem turn_enumT {P : Program} {w : World} {K : PySem.W.Frag} {elts : List Expr} {kk : Nat} {tpos : Pos} (a e it : Addr) (hai : a ≠ it) (hea : e ≠ a) :
    Turn P w K (.Tuple elts kk tpos) (IteT K a) [e, it] e (fun i h => (∃ old, IsEnum h e it ((i : Nat) : Int) old) ∧ h.IsTupleIter it a i ∧ e ≠ it) where
  mem := by simp
  obj := fun i h st b hb => by
    obtain ⟨⟨old, he⟩, ⟨o, ho, hc, hd⟩, _⟩ := st
    have e' : b = e ∨ b = it := by simpa using hb
    rcases e' with z | z
    · rw [z]; exact ⟨_, he, fun v q => nomatch q⟩
    · rw [z]; exact ⟨o, ho, fun v q => by rw [hd] at q; cases q⟩
  keep := fun i h h' st k => by
    obtain ⟨⟨old, he⟩, ⟨o, ho, r⟩, hne⟩ := st
    exact ⟨⟨old, k e (by simp) _ he⟩, ⟨o, k it (by simp) o ho, r⟩, hne⟩
  item := by
    intro X hP hw hK hc i pins s σ H E I hf st hg
    subst hP hw hK
    obtain ⟨⟨old, he⟩, hit, hne⟩ := st
    obtain ⟨xs, x, hq, hx⟩ := hg
    obtain ⟨its, rv, p, hz⟩ := I.tuple hq
    obtain ⟨u, hu, ru⟩ := rv.get hx
    have hel : e < s.heap.objs.size := Heap.lt_size he
    have hil : it < s.heap.objs.size := by obtain ⟨_, q, _⟩ := hit; exact Heap.lt_size q
    have hD := draws_tup (prog := X.prog) (w := X.w) (A := X.A.in1) (I.ok.hd hc) it a hai its.toArray
    have hlt : i < its.toArray.size := by
      have := (List.getElem?_eq_some_iff.mp hu).1
      simpa using this
    refine wpAny_pyNext_enum_itemD hD he ⟨hit, show s.heap.IsTuple a its.toArray from p⟩ hlt hne (by simp [hne, hea]) fun y h' tk hy ho hst' hT hsz hk => ?_
    obtain rfl : y = u := by
      have h1 : its[i]? = some y := by simpa using hy
      rw [hu] at h1
      exact (Option.some.inj h1).symm
    refine ⟨_, rfl, wpAny_letOwnedTupleGo_enum (s := { s with heap := h', toks := tk + 1 }) ho fun h'' he' sb => ?_⟩
    have hT2 : h''.get? s.heap.objs.size = some { cls := .type "tuple", data := .seq #[.int i tk, y] } := (sb.2 _ (Nat.ne_of_gt hel)).trans hT
    have new : ObjOk X.prog X.w (upd H s.heap.objs.size (.tup [.int (i : Nat), x])) h'' s.heap.objs.size (.tup [.int (i : Nat), x]) :=
      ⟨by show 2 ≤ sizeLine; decide, [.int i tk, y], .cons ⟨_, rfl⟩ (.cons ru .nil), ⟨_, hT2, rfl, _, rfl⟩⟩
    have I1 : Inv X pins σ (upd H s.heap.objs.size (.tup [.int (i : Nat), x])) { s with heap := h'', toks := tk + 1 } :=
      I.turnedNew (ch := [e, it]) (fun b ob hb q => (sb.2 b (fun z => hb (by simp [z]))).trans (hk b ob (fun z => hb (by simp [z])) (fun z => hb (by simp [z])) q)) hf (Nat.le_refl _) new
    refine ⟨.ref s.heap.objs.size, _, I1, rfl, ⟨_, x, rfl, I.hok.fresh (Nat.le_refl _), rfl, fun ys hy => by rw [I.tuple_inj hy hq]; exact hx⟩, ⟨⟨y, ?_⟩, ?_, hne⟩, fun b hb => ?_⟩
    · have e1 : ((i + 1 : Nat) : Int) = (i : Int) + 1 := by omega
      rw [e1]; exact he'
    · obtain ⟨o, ho', r⟩ := hst'.1
      exact ⟨o, (sb.2 it (Ne.symm hne)).trans ho', r⟩
    · have hb' : b < s.heap.objs.size := by
        have e' : b = e ∨ b = it := by simpa using hb
        rcases e' with z | z
        · rw [z]; exact hel
        · rw [z]; exact hil
      rw [upd_ne (Nat.ne_of_lt hb')]
      exact (hf b hb).1
  done := by
    intro X hP hw hK hc i pins s σ H E I hf st hg
    subst hP hw hK
    obtain ⟨⟨old, he⟩, hit, hne⟩ := st
    obtain ⟨xs, hq, hx⟩ := hg
    obtain ⟨its, rv, p, hz⟩ := I.tuple hq
    obtain ⟨f0, f1, f2, f3, f4, f5⟩ := hf it (by simp)
    have hl := rv.length
    have hT : s.TypeIs (.ref e) "enumerate" := ⟨_, he, rfl⟩
    unfold pyNext
    refine wpAny_bind (wpAny_attempt (wpAny_callSpecial?_slot (name := Str.ofString "__next__") hT F.slot_enumerate_next (wpAny_call_entry F.slot_enumerate_next hT F.entry_enumerate_next ?_ (F.args_enumerate_next_1 _))))
    show wpAny _ _ (field (.ref e) 2 >>= _) _ _ _
    refine wpAny_bind (wpAny_field he rfl (x := .ref it) rfl ?_)
    refine wpAny_bind (nextOf_tup_end (I.ok.hd hc) hit (show s.heap.IsTuple a its.toArray from p) (by simp; omega) fun h' x he' hx' => ?_)
    obtain ⟨o, ho, hc'⟩ := hx'
    refine wpAny_bind (wpAny_isInstance (T := "StopIteration") (b := true) ⟨o, ho, hc'⟩ isSubtype_stop ?_)
    exact wpAny_pure ⟨rfl, I.turned (t' := s.toks) (fun b o hb q => he' b o hb q) f0 f1 f3 f4 f5⟩
  self := fun A i s Q E st h => let ⟨⟨_, he⟩, _⟩ := st; wpAny_pyIter_enum he h
def iEnumT (K : PySem.W.Frag) (ta : TA) : TI := fun σ H R => ta σ H fun vs H1 => ∃ a xs, vs = [.ref a] ∧ SqT K H1 a xs ∧ R (IteT K a) H1
theorem pi_enumT {X : Cx} {e : Expr} {ta : TA} {p pos tpos : Pos} {elts : List Expr} {kk : Nat} (hg : Gl X "enumerate") (hm : X.mg "enumerate" = none) (ha : PA X [e] ta) (hs : starEach [e] X.env = [(false, eval e X.env)] := by rfl) :
    PI X (.Tuple elts kk tpos) (.Call (.Name "enumerate" p) [e] [] pos) (iEnumT X.K ta) := by
  refine ⟨fun pins s σ H R I h => ?_⟩
  refine Call_ (ld_blt I hg hm boot_enumerate (PyProof.Rows.callWith_type1 (thn (ha.run pos pins s σ H _ I h) fun us s1 ⟨vs, H1, I1, r1, q1⟩ => ?_) hs rfl))
  obtain ⟨a, xs, ex, hq, q⟩ := q1
  subst ex
  cases r1 with
  | cons r rr =>
    cases rr
    cases r
    obtain ⟨its, rv, p', hz⟩ := I1.tuple hq
    have pt : s1.heap.IsTuple a its.toArray := p'
    have hal : a < s1.heap.objs.size := by obtain ⟨o, ho, _⟩ := pt; exact Heap.lt_size ho
    refine call_enum_tup pt fun h' he hit hsz hk => wpAny_pyIter_enum he ?_
    have I2 : Inv X pins σ H1 { s1 with heap := h' } := I1.kept (t' := s1.toks) hk
    refine ⟨s1.heap.objs.size + 1, [s1.heap.objs.size + 1, s1.heap.objs.size], _, _, H1, rfl, I2, turn_enumT a (s1.heap.objs.size + 1) s1.heap.objs.size (Nat.ne_of_lt hal) (Nat.ne_of_gt (Nat.lt_succ_of_lt hal)), ⟨⟨.none, he⟩, hit, Nat.succ_ne_self _⟩, fun b hb => ?_, q⟩
    have e' : b = s1.heap.objs.size + 1 ∨ b = s1.heap.objs.size := by simpa using hb
    have hle : s1.heap.objs.size ≤ b := by
      rcases e' with z | z
      · rw [z]; exact Nat.le_add_right _ _
      · rw [z]; exact Nat.le_refl _
    exact I1.fpOk hle (I1.hok.fresh hle)
/-- either reading of what is walked -/
theorem pi_or {X : Cx} {tg iter : Expr} {w1 w2 : TI} (h1 : PI X tg iter w1) (h2 : PI X tg iter w2) : PI X tg iter (fun σ H R => w1 σ H R ∨ w2 σ H R) :=
  ⟨fun pins s σ H R I q => q.elim (h1.run pins s σ H R I) (h2.run pins s σ H R I)⟩
theorem pg_or {X : Cx} {tg : Expr} {g1 g2 : TG} (h1 : PG X tg g1) (h2 : PG X tg g2) : PG X tg (fun v σ H Q => g1 v σ H Q ∨ g2 v σ H Q) :=
  ⟨fun pins s σ H x v Q I r q => q.elim (h1.run pins s σ H x v Q I r) (h2.run pins s σ H x v Q I r)⟩
end OR

namespace OR
abbrev Row := Int × Int
def mem (l : List Row) (x : Int) : Prop := ∃ r ∈ l, r.1 ≤ x ∧ x ≤ r.2
theorem mem_nil (x : Int) : ¬ mem [] x := fun ⟨_, h, _⟩ => nomatch h
theorem mem_cons {r : Row} {l : List Row} {x : Int} : mem (r :: l) x ↔ (r.1 ≤ x ∧ x ≤ r.2) ∨ mem l x := by
  constructor
  · rintro ⟨q, hq, h⟩
    rcases List.mem_cons.mp hq with e | e
    · subst e
      exact .inl h
    · exact .inr ⟨q, e, h⟩
  · rintro (h | ⟨q, hq, h⟩)
    · exact ⟨r, List.mem_cons_self, h⟩
    · exact ⟨q, List.mem_cons_of_mem _ hq, h⟩
theorem mem_append {l m : List Row} {x : Int} : mem (l ++ m) x ↔ mem l x ∨ mem m x := by
  constructor
  · rintro ⟨q, hq, h⟩
    rcases List.mem_append.mp hq with e | e
    · exact .inl ⟨q, e, h⟩
    · exact .inr ⟨q, e, h⟩
  · rintro (⟨q, hq, h⟩ | ⟨q, hq, h⟩)
    · exact ⟨q, List.mem_append_left _ hq, h⟩
    · exact ⟨q, List.mem_append_right _ hq, h⟩
theorem mem_same {l m : List Row} (h : ∀ r, r ∈ l ↔ r ∈ m) (x : Int) : mem l x ↔ mem m x :=
  ⟨fun ⟨q, hq, k⟩ => ⟨q, (h q).mp hq, k⟩, fun ⟨q, hq, k⟩ => ⟨q, (h q).mpr hq, k⟩⟩
theorem mem_reverse {l : List Row} {x : Int} : mem l.reverse x ↔ mem l x := mem_same (fun _ => List.mem_reverse) x
/-- the one form: in order, with a gap between any two -/
structure Nf (l : List Row) : Prop where
  ok : ∀ r ∈ l, r.1 ≤ r.2
  gap : l.Pairwise fun r s => r.2 + 1 < s.1
theorem Nf.nil : Nf [] := ⟨fun _ h => (nomatch h), .nil⟩
theorem Nf.tail {r : Row} {l : List Row} (h : Nf (r :: l)) : Nf l := ⟨fun q hq => h.ok q (List.mem_cons_of_mem _ hq), (List.pairwise_cons.mp h.gap).2⟩
theorem Nf.head {r : Row} {l : List Row} (h : Nf (r :: l)) : r.1 ≤ r.2 := h.ok r List.mem_cons_self
theorem Nf.behind {r : Row} {l : List Row} (h : Nf (r :: l)) {x : Int} (m : mem l x) : r.2 + 1 < x := by
  obtain ⟨q, hq, h1, _⟩ := m
  have := (List.pairwise_cons.mp h.gap).1 q hq
  omega
/-- the one form is told by its places -/
theorem Nf.unique : ∀ {l m : List Row}, Nf l → Nf m → (∀ x, mem l x ↔ mem m x) → l = m
  | [], [], _, _, _ => rfl
  | [], s :: m, _, hm, h => absurd ((h s.1).mpr (mem_cons.mpr (.inl ⟨Int.le_refl _, hm.head⟩))) (mem_nil _)
  | r :: l, [], hl, _, h => absurd ((h r.1).mp (mem_cons.mpr (.inl ⟨Int.le_refl _, hl.head⟩))) (mem_nil _)
  | r :: l, s :: m, hl, hm, h => by
    have lr := hl.head
    have ls := hm.head
    have least : ∀ {x}, mem (r :: l) x → r.1 ≤ x := fun {x} hx => by
      rcases mem_cons.mp hx with k | k
      · exact k.1
      · have := hl.behind k; omega
    have least' : ∀ {x}, mem (s :: m) x → s.1 ≤ x := fun {x} hx => by
      rcases mem_cons.mp hx with k | k
      · exact k.1
      · have := hm.behind k; omega
    have e1 : r.1 = s.1 := by
      have a := least ((h s.1).mpr (mem_cons.mpr (.inl ⟨Int.le_refl _, ls⟩)))
      have b := least' ((h r.1).mp (mem_cons.mpr (.inl ⟨Int.le_refl _, lr⟩)))
      omega
    have nr : ¬ mem (r :: l) (r.2 + 1) := fun k => by
      rcases mem_cons.mp k with k | k
      · omega
      · have := hl.behind k; omega
    have ns : ¬ mem (s :: m) (s.2 + 1) := fun k => by
      rcases mem_cons.mp k with k | k
      · omega
      · have := hm.behind k; omega
    have e2 : r.2 = s.2 := by
      rcases Int.lt_trichotomy r.2 s.2 with k | k | k
      · exact absurd ((h _).mpr (mem_cons.mpr (.inl ⟨by omega, by omega⟩))) nr
      · exact k
      · exact absurd ((h _).mp (mem_cons.mpr (.inl ⟨by omega, by omega⟩))) ns
    have e : r = s := Prod.ext e1 e2
    subst e
    congr 1
    refine Nf.unique hl.tail hm.tail fun x => ⟨fun k => ?_, fun k => ?_⟩
    · have b := hl.behind k
      rcases mem_cons.mp ((h x).mp (mem_cons.mpr (.inr k))) with z | z
      · omega
      · exact z
    · have b := hm.behind k
      rcases mem_cons.mp ((h x).mpr (mem_cons.mpr (.inr k))) with z | z
      · omega
      · exact z
/-- a row more behind rows in one form, which are written backwards -/
def jstep : List Row → Row → List Row
  | [], r => [r]
  | q :: t, r => if r.1 ≤ q.2 + 1 then (q.1, if r.2 > q.2 then r.2 else q.2) :: t else r :: q :: t
def jfold (l : List Row) : List Row := l.foldl jstep []
/-- what the fold keeps: acc stands backwards -/
structure Jn (acc : List Row) (done : List Row) (b : Int) : Prop where
  nf : Nf acc.reverse
  up : ∀ q ∈ acc, q.1 ≤ b
  me : ∀ x, mem acc x ↔ mem done x
theorem nf_snoc {l : List Row} {r : Row} (h : Nf l) (hr : r.1 ≤ r.2) (hg : ∀ q ∈ l, q.2 + 1 < r.1) : Nf (l ++ [r]) := by
  refine ⟨fun q hq => ?_, List.pairwise_append.mpr ⟨h.gap, List.pairwise_singleton _ _, fun a ha b hb => ?_⟩⟩
  · rcases List.mem_append.mp hq with k | k
    · exact h.ok q k
    · rw [List.mem_singleton.mp k]; exact hr
  · rw [List.mem_singleton.mp hb]; exact hg a ha
theorem nf_unsnoc {l : List Row} {r : Row} (h : Nf (l ++ [r])) : Nf l ∧ r.1 ≤ r.2 ∧ ∀ q ∈ l, q.2 + 1 < r.1 := by
  have g := List.pairwise_append.mp h.gap
  exact ⟨⟨fun q hq => h.ok q (List.mem_append_left _ hq), g.1⟩, h.ok r (List.mem_append_right _ (List.mem_singleton.mpr rfl)), fun q hq => g.2.2 q hq r (List.mem_singleton.mpr rfl)⟩
theorem Jn.step {acc done : List Row} {b : Int} {r : Row} (h : Jn acc done b) (hb : b ≤ r.1) (hr : r.1 ≤ r.2) : Jn (jstep acc r) (done ++ [r]) r.1 := by
  have tailm : ∀ x, mem [r] x ↔ (r.1 ≤ x ∧ x ≤ r.2) := fun x => by
    rw [mem_cons]
    exact ⟨fun k => k.elim id fun z => absurd z (mem_nil _), .inl⟩
  cases acc with
  | nil =>
    refine ⟨nf_snoc Nf.nil hr (fun _ z => nomatch z), fun q hq => ?_, fun x => ?_⟩
    · rw [List.mem_singleton.mp hq]; exact Int.le_refl _
    · rw [mem_append, ← h.me x]
      exact ⟨.inr, fun k => k.elim (fun z => absurd z (mem_nil _)) id⟩
  | cons q t =>
    have n := h.nf
    rw [List.reverse_cons] at n
    obtain ⟨nt, hq, gq⟩ := nf_unsnoc n
    have hqr : q.1 ≤ r.1 := Int.le_trans (h.up q List.mem_cons_self) hb
    show Jn (if r.1 ≤ q.2 + 1 then (q.1, if r.2 > q.2 then r.2 else q.2) :: t else r :: q :: t) (done ++ [r]) r.1
    by_cases c : r.1 ≤ q.2 + 1
    · rw [if_pos c]
      refine ⟨?_, fun z hz => ?_, fun x => ?_⟩
      · rw [List.reverse_cons]
        refine nf_snoc nt ?_ fun z hz => gq z hz
        show q.1 ≤ (if r.2 > q.2 then r.2 else q.2)
        split <;> omega
      · rcases List.mem_cons.mp hz with e | e
        · subst e; exact hqr
        · exact Int.le_trans (h.up z (List.mem_cons_of_mem _ e)) hb
      · rw [mem_append, ← h.me x, mem_cons, mem_cons, tailm]
        show ((q.1 ≤ x ∧ x ≤ (if r.2 > q.2 then r.2 else q.2)) ∨ mem t x) ↔ _
        constructor
        · rintro (⟨k1, k2⟩ | k)
          · by_cases hx : x ≤ q.2
            · exact .inl (.inl ⟨k1, hx⟩)
            · split at k2
              · exact .inr ⟨by omega, k2⟩
              · omega
          · exact .inl (.inr k)
        · rintro ((⟨k1, k2⟩ | k) | ⟨k1, k2⟩)
          · refine .inl ⟨k1, ?_⟩
            split <;> omega
          · exact .inr k
          · refine .inl ⟨by omega, ?_⟩
            split <;> omega
    · rw [if_neg c]
      refine ⟨?_, fun z hz => ?_, fun x => ?_⟩
      · rw [List.reverse_cons, List.reverse_cons]
        refine nf_snoc n hr fun z hz => ?_
        rcases List.mem_append.mp hz with k | k
        · have := gq z k; omega
        · rw [List.mem_singleton.mp k]; omega
      · rcases List.mem_cons.mp hz with e | e
        · subst e; exact Int.le_refl _
        · exact Int.le_trans (h.up z e) hb
      · rw [mem_append, ← h.me x, mem_cons, tailm]
        exact ⟨fun k => k.elim .inr .inl, fun k => k.elim .inr .inl⟩
theorem Jn.nil (b : Int) : Jn [] [] b := ⟨Nf.nil, fun _ h => (nomatch h), fun _ => Iff.rfl⟩
/-- the fold over rows that ascend -/
theorem jfold_go : ∀ (l acc done : List Row) (b : Int), Jn acc done b → (∀ r ∈ l, r.1 ≤ r.2) → (∀ r ∈ l, b ≤ r.1) → l.Pairwise (fun r s => r.1 ≤ s.1) → ∃ b', Jn (l.foldl jstep acc) (done ++ l) b'
  | [], acc, done, b, h, _, _, _ => ⟨b, by rw [List.append_nil]; exact h⟩
  | r :: l, acc, done, b, h, ho, hb, hs => by
    have p := List.pairwise_cons.mp hs
    obtain ⟨b', h'⟩ := jfold_go l (jstep acc r) (done ++ [r]) r.1 (h.step (hb r List.mem_cons_self) (ho r List.mem_cons_self)) (fun q hq => ho q (List.mem_cons_of_mem _ hq)) (fun q hq => p.1 q hq) p.2
    exact ⟨b', by rw [List.append_assoc] at h'; exact h'⟩
theorem jfold_ok {l : List Row} (ho : ∀ r ∈ l, r.1 ≤ r.2) (hs : l.Pairwise (fun r s => r.1 ≤ s.1)) : Nf (jfold l).reverse ∧ ∀ x, mem (jfold l).reverse x ↔ mem l x := by
  cases l with
  | nil => exact ⟨Nf.nil, fun _ => Iff.rfl⟩
  | cons r l =>
    have p := List.pairwise_cons.mp hs
    obtain ⟨b', h⟩ := jfold_go (r :: l) [] [] r.1 (Jn.nil _) ho (fun q hq => by
      rcases List.mem_cons.mp hq with e | e
      · subst e; exact Int.le_refl _
      · exact p.1 q e) hs
    exact ⟨h.nf, fun x => by rw [mem_reverse]; exact h.me x⟩
end OR

namespace OR
open PySem PySem.Spec PyProof.Rows L2
/-! ### the code of Places -/
def lastP : Int := 10 ^ 30
def placeB (n : Int) : Bool := decide (0 ≤ n) && decide (n ≤ lastP)
def okRow (r : Row) : Bool := placeB r.1 && (placeB r.2 && decide (r.1 ≤ r.2))
structure PTxt (K : PySem.W.Frag) (mg : Str → Option Value) (C : Addr) : Prop where
  cl : Cls K C
  nS : NoAttr K C "stretches"
  nF : NoAttr K C "_firsts"
  nB : NoAttr K C "_before"
  mgC : mg "Places" = some (.ref C)
  isi : SlX.SIsi K C
  kPP : PySem.W.kitOne K (.ref C) (.ref C) = some true
  zIsi : mg "isinstance" = none
  zInt : mg "int" = none
  zBool : mg "bool" = none
  zTup : mg "tuple" = none
  zList : mg "list" = none
  zLen : mg "len" = none
  zMax : mg "max" = none
  zSort : mg "sorted" = none
  zEnum : mg "enumerate" = none
  last : ∃ t, mg "LAST_PLACE" = some (.int lastP t)
theorem bt_isi : bootBuiltins ("isinstance" : Str) = some (.builtin "isinstance") := by decide +kernel
theorem bt_int : bootBuiltins ("int" : Str) = some (.type "int") := by decide +kernel
theorem bt_bool : bootBuiltins ("bool" : Str) = some (.type "bool") := by decide +kernel
theorem bt_tup : bootBuiltins ("tuple" : Str) = some (.type "tuple") := by decide +kernel
theorem bt_list : bootBuiltins ("list" : Str) = some (.type "list") := by decide +kernel
theorem bt_max : bootBuiltins ("max" : Str) = some (.builtin "max") := by decide +kernel
theorem bt_min : bootBuiltins ("min" : Str) = some (.builtin "min") := by decide +kernel
theorem bt_sorted : bootBuiltins ("sorted" : Str) = some (.builtin "sorted") := by decide +kernel
/-- any value whose type is known -/
def spIsIntG (K : PySem.W.Frag) : Sp := fun vs H Q _ => ∃ (x : V) (T : String) (b1 b2 : Bool), vs = [x] ∧ TyX K H x (.type T) ∧ kitB T "int" = some b1 ∧ kitB T "bool" = some b2 ∧ Q (.bl (b1 && !b2)) H
def spIsPlace (K : PySem.W.Frag) : Sp := fun vs H Q _ => ∃ x, vs = [x] ∧ ((∃ n, x = .int n ∧ Q (.bl (placeB n)) H) ∨ ∃ (T : String) (b1 b2 : Bool), TyX K H x (.type T) ∧ kitB T "int" = some b1 ∧ kitB T "bool" = some b2 ∧ (b1 && !b2) = false ∧ Q (.bl false) H)
/-- a pair of integers, a tuple or a list -/
def PairAt (H : Hp) (a : Addr) (r : Row) : Prop := H a = some (.tup [.int r.1, .int r.2]) ∨ H a = some (.lst [.int r.1, .int r.2])
def spIsStretchP : Sp := fun vs H Q _ => ∃ a r, vs = [.ref a] ∧ PairAt H a r ∧ ∀ H', Same H H' → Q (.bl (okRow r)) H'
section
variable {P : Program} {w : World} {K : PySem.W.Frag} {mg : Str → Option Value} {base : Heap}
theorem scIsI : FnScope ["value"] ["value"] (defScope sIsInt) := ⟨rfl, rfl, rfl, by decide +kernel, rfl, by decide +kernel, by decide +kernel⟩
theorem ok_isintG {f C : Addr} {fd : FuncData} (F : Fun K "is_integer" "is_integer" sIsInt f fd) (T : PTxt K mg C) : FnOk P w K mg base CX0 1 f fd ["value"] (spIsIntG K) := by
  refine F.ok scIsI (fun vs H Q E h => ?_) (fun cdv A outer s H vs Q E hr h => ?_)
  · obtain ⟨x, _, _, _, rfl, _⟩ := h
    rfl
  · obtain ⟨x, ty, b1, b2, rfl, hT, h1, h2, q⟩ := h
    refine ⟨_, pss_one (ps_ret (pe_and (pe_callB call_isi (by rfl) T.zIsi bt_isi (pa_cons (pv 0) (pa_cons (pe_bltn (v := .ty "int") (by rfl) T.zInt bt_int rfl) pa_nil)))
      (pe_one (pe_not (pe_callB call_isi (by rfl) T.zIsi bt_isi (pa_cons (pv 0) (pa_cons (pe_bltn (v := .ty "bool") (by rfl) T.zBool bt_bool rfl) pa_nil))))))), ?_⟩
    refine ⟨_, rfl, x, .ty "int", _, _, b1, rfl, .ty "int", hT, kit_ty h1, b1, rfl, ?_⟩
    cases b1 with
    | true => exact iteT ⟨_, rfl, x, .ty "bool", _, _, b2, rfl, .ty "bool", hT, kit_ty h2, b2, rfl, q⟩
    | false => exact iteF q
theorem scIsP : FnScope ["value"] ["value"] (defScope sIsPlace) := ⟨rfl, rfl, rfl, by decide +kernel, rfl, by decide +kernel, by decide +kernel⟩
theorem ok_isplace {f C : Addr} {fd : FuncData} (F : Fun K "is_place" "is_place" sIsPlace f fd) (T : PTxt K mg C) (I : Cl P w K mg base 1 "is_integer" ["value"] (spIsIntG K)) : FnOk P w K mg base CX0 2 f fd ["value"] (spIsPlace K) := by
  refine F.ok scIsP (fun vs H Q E h => ?_) (fun cdv A outer s H vs Q E hr h => ?_)
  · obtain ⟨x, rfl, _⟩ := h
    rfl
  · obtain ⟨x, rfl, h⟩ := h
    obtain ⟨tl, hl⟩ := T.last
    refine ⟨_, pss_one (ps_ret (pe_and (pe_cl I hr (by decide) (by rfl) (pa_cons (pv 0) pa_nil)) (pe_one (pe_chain op_le op_le pe_int (pv 0) (pe_glob (v := .int lastP) (by rfl) hl ⟨tl, rfl⟩))))), ?_⟩
    rcases h with ⟨n, rfl, q⟩ | ⟨ty, b1, b2, hT, h1, h2, hb, q⟩
    · refine ⟨_, rfl, .int n, "int", true, false, rfl, .base (.int n), by decide +kernel, by decide +kernel, true, rfl, iteT ?_⟩
      refine ⟨_, rfl, _, _, rfl, rfl, _, rfl, ?_⟩
      unfold placeB at q
      cases e : decide ((0 : Int) ≤ n) with
      | true =>
        rw [e] at q
        exact iteT ⟨_, _, rfl, rfl, q⟩
      | false =>
        rw [e] at q
        exact iteF q
    · exact ⟨_, rfl, x, ty, b1, b2, rfl, hT, h1, h2, _, rfl, by rw [hb]; exact iteF q⟩
theorem scIsS : FnScope ["value", "first", "last"] ["value"] (defScope sIsStretch) := ⟨rfl, rfl, rfl, by decide +kernel, rfl, by decide +kernel, by decide +kernel⟩
theorem ok_isstretch {f C : Addr} {fd : FuncData} (F : Fun K "_is_stretch" "_is_stretch" sIsStretch f fd) (T : PTxt K mg C) (I : Cl P w K mg base 2 "is_place" ["value"] (spIsPlace K)) : FnOk P w K mg base CX0 3 f fd ["value"] spIsStretchP := by
  refine F.ok scIsS (fun vs H Q E h => ?_) (fun cdv A outer s H vs Q E hr h => ?_)
  · obtain ⟨a, r, rfl, _⟩ := h
    rfl
  · obtain ⟨a, r, rfl, hp, q⟩ := h
    have nd := scIsS.nd
    refine ⟨_, pss_cons (ps_if (PW.pt (pw_or (pt_not (pt_val (pe_callB call_isiT (by rfl) T.zIsi bt_isi (pa_cons (pv 0) (pa_cons (pe_tup (pa_cons (pe_bltn (v := .ty "tuple") (by rfl) T.zTup bt_tup rfl) (pa_cons (pe_bltn (v := .ty "list") (by rfl) T.zList bt_list rfl) pa_nil))) pa_nil)))))
        (pw_or1 (pt_cmpR op_ne (pe_callB call_len_seq (by rfl) T.zLen PySem.boot_len (pa_cons (pv 0) pa_nil)) pe_int (nomark _))))) (pss_one (ps_ret pe_bl)) pss_nil)
      (pss_cons (ps_asg (pv 0) (pg_or (pg_tup rfl (pgs_cons (pg_name (i := 1) nd rfl (.inl rfl)) (pgs_cons (pg_name (i := 2) nd rfl (.inl rfl)) pgs_nil))) (pg_unl rfl (pgs_cons (pg_name (i := 1) nd rfl (.inl rfl)) (pgs_cons (pg_name (i := 2) nd rfl (.inl rfl)) pgs_nil)))))
      (pss_one (ps_ret (pe_and (pe_cl I hr (by decide) (by rfl) (pa_cons (pv 1) pa_nil)) (pe_and (pe_cl I hr (by decide) (by rfl) (pa_cons (pv 2) pa_nil)) (pe_one (pe_cmpR op_le (pv 1) (pv 2) (nomark _)))))))), ?_⟩
    refine ⟨_, rfl, by show 2 ≤ sizeLine; decide, fun t ht => ?_⟩
    have S1 : Same H (upd H t (.tup [.ty "tuple", .ty "list"])) := fun b o e => by rw [upd_ne (ne_of_none e ht)]; exact e
    have hp1 : PairAt (upd H t (.tup [.ty "tuple", .ty "list"])) a r := hp.elim (fun e => .inl (S1 _ _ e)) fun e => .inr (S1 _ _ e)
    have hseq : SqL K (upd H t (.tup [.ty "tuple", .ty "list"])) a [.int r.1, .int r.2] ∨ SqT K (upd H t (.tup [.ty "tuple", .ty "list"])) a [.int r.1, .int r.2] := hp1.elim (fun e => .inr (.inl (.inl e))) fun e => .inl (.inl (.inl e))
    have hty : ∃ T, TyX K (upd H t (.tup [.ty "tuple", .ty "list"])) (.ref a) (.type T) ∧ PySem.W.kitAny K (.type T) [.type "tuple", .type "list"] = some true := by
      rcases hp1 with e | e
      · exact ⟨"tuple", .base (.tup e), kitAny_cons (kit_ty (b := "tuple") (r := true) (by decide +kernel)) (fun z => nomatch z) fun _ => rfl⟩
      · exact ⟨"list", .base (.lst e), kitAny_cons (kit_ty (b := "tuple") (r := false) (by decide +kernel)) (fun _ => kitAny_cons (kit_ty (b := "list") (r := true) (by decide +kernel)) (fun z => nomatch z) fun _ => rfl) fun z => nomatch z⟩
    obtain ⟨ty, hT, hk⟩ := hty
    refine ⟨.ref a, t, _, .type ty, [.type "tuple", .type "list"], true, rfl, upd_same, .cons (.ty "tuple") (.cons (.ty "list") .nil), hT, hk, true, rfl, iteF ?_⟩
    refine ⟨_, rfl, a, _, rfl, hseq, rfl, _, rfl, iteNS rfl ?_⟩
    have fin : ∀ (Q' : Prop), (Q (.bl (okRow r)) (upd H t (.tup [.ty "tuple", .ty "list"])) → Q') → Q' := fun Q' k => k (q _ S1)
    have tail : ∀ σ : L2.St, σ = [some (.ref a), some (.int r.1), some (.int r.2)] → (tRet (tAndV (tCall (spIsPlace K) [] E0 (tCons (tVar 1) tNil)) (tAndV (tCall (spIsPlace K) [] E0 (tCons (tVar 2) tNil)) (tOp (rI0 fun i j => .bl (decide (i ≤ j))) (tVar 1) (tVar 2))))) { nx := fun _ H' => Q .non H', rt := Q } σ (upd H t (.tup [.ty "tuple", .ty "list"])) := by
      intro σ e
      subst e
      refine ⟨_, rfl, _, rfl, .inl ⟨r.1, rfl, _, rfl, ?_⟩⟩
      have q1 := q _ S1
      unfold okRow at q1
      cases e1 : placeB r.1 with
      | false => rw [e1] at q1; exact iteF q1
      | true =>
        rw [e1] at q1
        refine iteT ⟨_, rfl, _, rfl, .inl ⟨r.2, rfl, _, rfl, ?_⟩⟩
        cases e2 : placeB r.2 with
        | false => rw [e2] at q1; exact iteF q1
        | true =>
          rw [e2] at q1
          exact iteT ⟨_, rfl, _, rfl, _, _, rfl, rfl, q1⟩
    rcases hp1 with e | e
    · exact ⟨_, rfl, .inl ⟨a, _, rfl, .inl (.inl e), rfl, _, _, rfl, _, _, rfl, rfl, tail _ rfl⟩⟩
    · exact ⟨_, rfl, .inr ⟨a, _, rfl, .inl (.inl e), rfl, _, _, rfl, _, _, rfl, rfl, tail _ rfl⟩⟩
end
end OR

namespace OR
open PySem PySem.Spec PyProof.Rows L2
/-- all but what stands at p is as it was -/
def Fre (p : Addr) (H H' : Hp) : Prop := ∀ b o, H b = some o → b ≠ p → H' b = some o
theorem Fre.refl (p : Addr) (H : Hp) : Fre p H H := fun _ _ h _ => h
theorem Fre.trans {p : Addr} {H H1 H2 : Hp} (a : Fre p H H1) (b : Fre p H1 H2) : Fre p H H2 := fun c o h n => b c o (a c o h n) n
theorem Fre.put {p : Addr} {H : Hp} {o : HO} : Fre p H (upd H p o) := fun b x e n => by rw [upd_ne n]; exact e
/-! ### rows of pairs in the heap -/
abbrev ARow := Addr × Row
def refs (L : List ARow) : List V := L.map fun p => V.ref p.1
def rws (L : List ARow) : List Row := L.map (·.2)
def AtR (H : Hp) (L : List ARow) : Prop := ∀ p ∈ L, H p.1 = some (.tup [.int p.2.1, .int p.2.2])
def PairsAt (H : Hp) (L : List ARow) : Prop := ∀ p ∈ L, PairAt H p.1 p.2
theorem AtR.same {H H' : Hp} {L : List ARow} (h : AtR H L) (s : Same H H') : AtR H' L := fun p hp => s _ _ (h p hp)
theorem PairsAt.same {H H' : Hp} {L : List ARow} (h : PairsAt H L) (s : Same H H') : PairsAt H' L := fun p hp => (h p hp).elim (fun e => .inl (s _ _ e)) fun e => .inr (s _ _ e)
theorem AtR.pairs {H : Hp} {L : List ARow} (h : AtR H L) : PairsAt H L := fun p hp => .inl (h p hp)
theorem refs_len (L : List ARow) : (refs L).length = L.length := List.length_map ..
theorem rws_len (L : List ARow) : (rws L).length = L.length := List.length_map ..
theorem refs_snoc (L : List ARow) (p : ARow) : refs (L ++ [p]) = refs L ++ [.ref p.1] := by unfold refs; rw [List.map_append]; rfl
theorem rws_snoc (L : List ARow) (p : ARow) : rws (L ++ [p]) = rws L ++ [p.2] := by unfold rws; rw [List.map_append]; rfl
theorem refs_get {L : List ARow} {i : Nat} {v : V} (h : (refs L)[i]? = some v) : ∃ p, L[i]? = some p ∧ p ∈ L ∧ v = .ref p.1 := by
  unfold refs at h
  rw [List.getElem?_map] at h
  cases e : L[i]? with
  | none => rw [e] at h; cases h
  | some p => rw [e] at h; exact ⟨p, rfl, List.mem_of_getElem? e, (Option.some.inj h).symm⟩
theorem rws_get {L : List ARow} {i : Nat} {p : ARow} (h : L[i]? = some p) : (rws L)[i]? = some p.2 := by
  unfold rws
  rw [List.getElem?_map, h]
  rfl
theorem mem_rws {L : List ARow} {r : Row} : r ∈ rws L ↔ ∃ a, (a, r) ∈ L := by
  unfold rws
  rw [List.mem_map]
  exact ⟨fun ⟨p, hp, e⟩ => ⟨p.1, by rw [← e]; exact hp⟩, fun ⟨a, h⟩ => ⟨(a, r), h, rfl⟩⟩
/-- what a reference to a pair is worth -/
def kOf (H : Hp) : V → Int × Int
  | .ref a => match H a with
    | some (.tup [.int x, .int y]) => (x, y)
    | _ => (0, 0)
  | _ => (0, 0)
theorem kOf_at {H : Hp} {a : Addr} {x y : Int} (h : H a = some (.tup [.int x, .int y])) : kOf H (.ref a) = (x, y) := by
  show (match H a with
    | some (.tup [.int x, .int y]) => (x, y)
    | _ => (0, 0)) = (x, y)
  rw [h]
def adr : V → Addr
  | .ref a => a
  | _ => 0
/-- an arrangement of references is one of rows -/
theorem refs_perm {H : Hp} {M : List ARow} {ys : List V} (hM : AtR H M) (hp : ys.Perm (refs M)) : ∃ S : List ARow, ys = refs S ∧ AtR H S ∧ (∀ r, r ∈ rws S ↔ r ∈ rws M) ∧ S.length = M.length ∧ rws S = ys.map (kOf H) := by
  have each : ∀ y ∈ ys, ∃ p ∈ M, y = .ref p.1 ∧ kOf H y = p.2 := fun y hy => by
    have := hp.mem_iff.mp hy
    unfold refs at this
    obtain ⟨p, hpM, e⟩ := List.mem_map.mp this
    subst e
    exact ⟨p, hpM, rfl, kOf_at (hM p hpM)⟩
  have back : ∀ p ∈ M, V.ref p.1 ∈ ys := fun p hpM => hp.mem_iff.mpr (List.mem_map.mpr ⟨p, hpM, rfl⟩)
  refine ⟨ys.map fun y => (adr y, kOf H y), ?_, ?_, fun r => ?_, ?_, ?_⟩
  · unfold refs
    rw [List.map_map]
    refine Eq.trans (List.map_id ys).symm (List.map_congr_left fun y hy => ?_)
    obtain ⟨p, _, rfl, _⟩ := each y hy
    rfl
  · intro q hq
    obtain ⟨y, hy, e⟩ := List.mem_map.mp hq
    obtain ⟨p, hpM, rfl, k⟩ := each y hy
    subst e
    show H p.1 = some (.tup [.int (kOf H (.ref p.1)).1, .int (kOf H (.ref p.1)).2])
    rw [k]
    exact hM p hpM
  · unfold rws
    rw [List.map_map, List.mem_map, List.mem_map]
    constructor
    · rintro ⟨y, hy, e⟩
      obtain ⟨p, hpM, rfl, k⟩ := each y hy
      exact ⟨p, hpM, by rw [← e]; exact k.symm⟩
    · rintro ⟨p, hpM, e⟩
      exact ⟨.ref p.1, back p hpM, by rw [← e]; exact kOf_at (hM p hpM)⟩
  · rw [List.length_map, hp.length_eq, refs_len]
  · unfold rws
    rw [List.map_map]
    rfl
theorem jstep_len : ∀ (acc : List Row) (r : Row), (jstep acc r).length ≤ acc.length + 1
  | [], r => Nat.le_refl _
  | q :: t, r => by
    show (if r.1 ≤ q.2 + 1 then (q.1, if r.2 > q.2 then r.2 else q.2) :: t else r :: q :: t).length ≤ _
    split
    · exact Nat.le_succ _
    · exact Nat.le_refl _
theorem jfold_len : ∀ (l acc : List Row), (l.foldl jstep acc).length ≤ acc.length + l.length
  | [], acc => Nat.le_refl _
  | r :: l, acc => by
    have h1 := jfold_len l (jstep acc r)
    have h2 := jstep_len acc r
    show (l.foldl jstep (jstep acc r)).length ≤ _
    rw [List.length_cons]
    omega
theorem ixN_last (n : Nat) : ixN (n + 1) (-1) = some n := by
  unfold ixN
  rw [if_neg (by omega), if_pos (by omega)]
  congr 1
  omega
theorem set_last (xs : List V) (v u : V) : (xs ++ [v]).set xs.length u = xs ++ [u] := by
  rw [List.set_append_right _ _ (Nat.le_refl _), Nat.sub_self]
  rfl
def rTupOf (K : PySem.W.Frag) : List V → Hp → VK → Prop := fun xs H Q => ∃ p ys, xs = [.ref p] ∧ ((SqL K H p ys ∧ ∀ l, H l = none → Q (.ref l) (upd H l (.tup ys))) ∨ (SqT K H p ys ∧ Q (.ref p) H))
theorem call_tupOf {X : Cx} (K : PySem.W.Frag) (h : X.K = K) : CallR X (.type "tuple") (rTupOf K) := by
  subst h
  exact call_tuple_of
theorem yesT {σ : L2.St} {H : Hp} {A B : Hp → Prop} (h : A H) : tYes σ H (fun b H3 => if b = true then A H3 else B H3) := by
  show if true = true then A H else B H
  rw [if_pos rfl]
  exact h
theorem same_upd {H H' : Hp} {b : Addr} {u : HO} (s : Same H H') (h : H b = none) : Same H (upd H' b u) := fun c v e => by rw [upd_ne (ne_of_none e h)]; exact s c v e
theorem same_lay {H : Hp} {q : Addr} {o : HO} (h : H q = none) : Same H (upd H q o) := fun b x e => by rw [upd_ne (ne_of_none e h)]; exact e
theorem sameT {K : PySem.W.Frag} {H H' : Hp} {a : Addr} {xs : List V} (e : Same H H') (h : SqT K H a xs) : SqT K H' a xs := by
  rcases h with (h | ⟨o, h⟩) | h
  · exact .inl (.inl (e _ _ h))
  · exact .inl (.inr ⟨o, e _ _ h⟩)
  · exact .inr h
def spJoined (K : PySem.W.Frag) : Sp := fun vs H Q _ => ∃ (a : Addr) (L : List ARow), vs = [.ref a] ∧ (SqL K H a (refs L) ∨ SqT K H a (refs L)) ∧ L.length ≤ 1000 ∧ PairsAt H L ∧ (∀ r ∈ rws L, r.1 ≤ r.2) ∧
  ∀ (t : Addr) (M : List ARow) (H' : Hp), Same H H' → H t = none → H' t = some (.tup (refs M)) → AtR H' M → Nf (rws M) → (∀ x, mem (rws M) x ↔ mem (rws L) x) → M.length ≤ L.length → Q (.ref t) H'
section
variable {P : Program} {w : World} {K : PySem.W.Frag} {mg : Str → Option Value} {base : Heap}
theorem scJ : FnScope ["stretches", "rows", "first", "last", "stretch"] ["stretches"] (defScope sJoined) := ⟨rfl, rfl, rfl, by decide +kernel, rfl, by decide +kernel, by decide +kernel⟩
theorem small_l {n : Nat} (h : n ≤ 1000) : n ≤ sizeLine := Nat.le_of_lt (small1000 h)
theorem ok_joined {f C : Addr} {fd : FuncData} (F : Fun K "_joined" "_joined" sJoined f fd) (T : PTxt K mg C) : FnOk P w K mg base CX0 1 f fd ["stretches"] (spJoined K) := by
  refine F.ok scJ (fun vs H Q E h => ?_) (fun cdv A outer s H vs Q E hr h => ?_)
  · obtain ⟨a, L, rfl, _⟩ := h
    rfl
  · obtain ⟨a, L, rfl, hS, hlen, hP, hok, q⟩ := h
    have nd := scJ.nd
    refine ⟨_, pss_cons (ps_set (i := 1) nd rfl (.inl rfl) (pe_lst pa_nil))
      (pss_cons (ps_for PassesOwn.never rfl (pi_list (pe_callB cr_sortedPO (by rfl) T.zSort bt_sorted (pa_cons
            (pe_lc (own := [("stretch", 4)]) (g := gName 4) (tt := tYes) rfl nd (pi_or (pi_list (pv 0)) (pi_tup (pv 0))) (blkOk_by (N := ["stretches", "rows", "first", "last", "stretch"]) (sc := defScope sJoined) (by decide +kernel))
              (fun _ _ _ _ _ => pg_name (i := 4) nd rfl (.inl rfl)) (fun _ _ _ _ _ => pts_nil) (fun _ _ _ _ _ => pe_callTy (call_tupOf K rfl) (by rfl) T.zTup bt_tup (pa_cons (pv 4) pa_nil))) pa_nil)))
          (pg_tup rfl (pgs_cons (pg_name (i := 2) nd rfl (.inl rfl)) (pgs_cons (pg_name (i := 3) nd rfl (.inl rfl)) pgs_nil)))
        (pss_one (ps_if (PW.pt (pw_and (pt_truth (pv 1) (by intro _; rfl)) (pw_and1 (pt_cmpR op_le (pv 2) (pe_op op_add (pe_ix ix_tup (pe_ix ix_list (pv 1) (pe_un un_neg pe_int) (fun _ _ => rfl)) pe_int (fun _ _ => rfl)) pe_int) (nomark _)))))
          (pss_one (ps_asg (pe_tup (pa_cons (pe_ix ix_tup (pe_ix ix_list (pv 1) (pe_un un_neg pe_int) (fun _ _ => rfl)) pe_int (fun _ _ => rfl))
              (pa_cons (pe_callB (call_max2 rfl) (by rfl) T.zMax bt_max (pa_cons (pe_ix ix_tup (pe_ix ix_list (pv 1) (pe_un un_neg pe_int) (fun _ _ => rfl)) pe_int (fun _ _ => rfl)) (pa_cons (pv 3) pa_nil))) pa_nil)))
            (pg_sub (pv 1) (pe_un un_neg pe_int) set_list)))
          (pss_one (ps_expr (pe_bm PySem.F.plainAttrs_list PySem.F.slot_list_append PySem.F.type_list_append mt_append (pv 1) (pa_cons (pe_tup (pa_cons (pv 2) (pa_cons (pv 3) pa_nil))) pa_nil)))))))
      (pss_one (ps_ret (pe_callTy call_tuple_of (by rfl) T.zTup bt_tup (pa_cons (pv 1) pa_nil))))), ?_⟩
    refine ⟨Nat.zero_le _, fun o no => ?_⟩
    have S1 : Same H (upd H o (.lst [])) := fun b u e => by rw [upd_ne (ne_of_none e no)]; exact e
    rcases hS with hS | hS
    · refine .inl ⟨_, rfl, a, rfl, ⟨_, S1.seq hS⟩, fun D hD => lc_list (K := K) (a := a) (xs := refs L) (fun i H2 => ∃ M : List ARow, H2 D = some (.lst (refs M)) ∧ AtR H2 M ∧ rws M = (rws L).take i ∧ Same (upd H o (.lst [])) H2)
        ⟨[], upd_same, (fun _ z => nomatch z), rfl, same_lay hD⟩ (fun i H2 _ ⟨_, _, _, _, s⟩ => s.seq (S1.seq hS)) ?_ ?_⟩
      · intro i x H2 hx hI
        obtain ⟨M, hD2, hM, eM, s2⟩ := hI
        obtain ⟨p, hp, hpL, rfl⟩ := refs_get hx
        have hil : i < L.length := (List.getElem?_eq_some_iff.mp hp).1
        have hlM : M.length = i := by
          rw [← rws_len M, eM, List.length_take, rws_len]
          omega
        have e1 : (rws L).take (i + 1) = (rws L).take i ++ [p.2] := by rw [List.take_add_one, rws_get hp]; rfl
        have nDp : ∀ q ∈ M, q.1 ≠ D := fun q hq => ne_of (hM q hq) hD2 (by intro z; cases z)
        refine ⟨rfl, yesT ?_⟩
        refine ⟨_, rfl, p.1, [.int p.2.1, .int p.2.2], rfl, ?_⟩
        rcases hP p hpL with e | e
        · have e3 := s2 _ _ (S1 _ _ e)
          refine .inr ⟨.inl (.inl e3), refs M, hD2, small1000 (by rw [refs_len, hlM]; omega), M ++ [p], ?_, ?_, ?_, same_upd s2 hD⟩
          · rw [upd_same, refs_snoc]
          · intro q hq
            rcases List.mem_append.mp hq with k | k
            · rw [upd_ne (nDp q k)]; exact hM q k
            · rw [List.mem_singleton.mp k, upd_ne (ne_of e3 hD2 (by intro z; cases z))]; exact e3
          · rw [rws_snoc, eM, e1]
        · have e3 := s2 _ _ (S1 _ _ e)
          refine .inl ⟨.inl (.inl e3), fun l hl => ?_⟩
          have nDl : D ≠ l := ne_of_none hD2 hl
          have s3 := same_lay (o := .tup [.int p.2.1, .int p.2.2]) hl
          refine ⟨refs M, s3 _ _ hD2, small1000 (by rw [refs_len, hlM]; omega), M ++ [(l, p.2)], ?_, ?_, ?_, same_upd (s2.trans s3) hD⟩
          · rw [upd_same, refs_snoc]
          · intro q hq
            rcases List.mem_append.mp hq with k | k
            · rw [upd_ne (nDp q k)]; exact s3 _ _ (hM q k)
            · rw [List.mem_singleton.mp k, upd_ne nDl.symm, upd_same]
          · rw [rws_snoc, eM, e1]
      · intro H2 hI
        obtain ⟨M, hD2, hM, eM, s2⟩ := hI
        rw [refs_len, List.take_of_length_le (by rw [rws_len]; exact Nat.le_refl _)] at eM
        have no2 : H2 o = some (.lst []) := s2 _ _ upd_same
        have lM : M.length = L.length := by rw [← rws_len M, eM, rws_len]
        -- sorted
        refine ⟨D, refs M, kOf H2, rfl, .inl (.inl hD2), fun y hy => ?_, fun ys p hs hb np => ?_⟩
        · unfold refs at hy
          obtain ⟨z, hz, rfl⟩ := List.mem_map.mp hy
          exact ⟨z.1, rfl, by rw [kOf_at (hM z hz)]; exact hM z hz⟩
        obtain ⟨S, rfl, hSA, hSm, hSl, hSk⟩ := refs_perm hM hb.perm
        have hso : (rws S).Pairwise fun r s => r.1 ≤ s.1 := by
          rw [hSk]
          refine List.pairwise_map.mpr (hs.imp fun {x y} hxy => ?_)
          have := SrtO.lexB_no.mp hxy
          omega
        have hSok : ∀ r ∈ rws S, r.1 ≤ r.2 := fun r hr => hok r (by rw [← eM]; exact (hSm r).mp hr)
        obtain ⟨hnf, hme⟩ := jfold_ok hSok hso
        have s3 := same_lay (o := .lst (refs S)) np
        have nop : o ≠ p := ne_of_none no2 np
        refine ⟨p, rfl, ⟨_, .inl (.inl upd_same)⟩, for_list (K := K) (a := p) (xs := refs S) (fun i σ H' => ∃ f l, ∃ A : List ARow, σ = [some (.ref a), some (.ref o), f, l, none] ∧ H' o = some (.lst (refs A)) ∧ AtR H' A ∧ rws A = (((rws S).take i).foldl jstep []).reverse ∧ Fre o (upd H2 p (.lst (refs S))) H' ∧ A.length ≤ i)
          ⟨none, none, [], rfl, by rw [upd_ne nop]; exact no2, (fun _ z => nomatch z), rfl, Fre.refl _ _, Nat.le_refl _⟩ (fun i σ H' _ ⟨_, _, _, _, _, _, _, fr, _⟩ => .inl (.inl (fr _ _ upd_same nop.symm))) ?_ ?_⟩
        · rintro i y σ H' hy ⟨f, l, A, rfl, hoA, hA, eA, fr, hAl⟩
          obtain ⟨z, hz, hzS, rfl⟩ := refs_get hy
          have hil : i < S.length := (List.getElem?_eq_some_iff.mp hz).1
          have ez : H' z.1 = some (.tup [.int z.2.1, .int z.2.2]) := fr _ _ (s3 _ _ (hSA z hzS)) (ne_of (hSA z hzS) no2 (by intro q; cases q))
          have e1 : ((rws S).take (i + 1)).foldl jstep [] = jstep (((rws S).take i).foldl jstep []) z.2 := by
            rw [List.take_add_one, rws_get hz, List.foldl_append]
            rfl
          have nAo : ∀ q ∈ A, q.1 ≠ o := fun q hq => ne_of (hA q hq) hoA (by intro w; cases w)
          refine ⟨z.1, _, rfl, .inl (.inl ez), rfl, _, _, rfl, _, _, rfl, rfl, ?_⟩
          refine ⟨_, rfl, !(refs A).isEmpty, .inl ⟨refs A, .inl (.inl hoA), rfl⟩, ?_⟩
          -- the row goes to the end
          have app : ∀ (hj : jstep (((rws S).take i).foldl jstep []) z.2 = z.2 :: ((rws S).take i).foldl jstep []) (T : Addr), H' T = none →
              ∃ f' l', ∃ A' : List ARow, [some (V.ref a), some (.ref o), some (.int z.2.1), some (.int z.2.2), none] = [some (.ref a), some (.ref o), f', l', none] ∧ (upd (upd H' T (.tup [.int z.2.1, .int z.2.2])) o (.lst (refs A ++ [.ref T]))) o = some (.lst (refs A')) ∧ AtR (upd (upd H' T (.tup [.int z.2.1, .int z.2.2])) o (.lst (refs A ++ [.ref T]))) A' ∧
                rws A' = (((rws S).take (i + 1)).foldl jstep []).reverse ∧ Fre o (upd H2 p (.lst (refs S))) (upd (upd H' T (.tup [.int z.2.1, .int z.2.2])) o (.lst (refs A ++ [.ref T]))) ∧ A'.length ≤ i + 1 := by
            intro hj Tn hT
            have s4 := same_lay (o := .tup [.int z.2.1, .int z.2.2]) hT
            have noT : Tn ≠ o := by
              intro e
              rw [e] at hT
              rw [hT] at hoA
              cases hoA
            refine ⟨_, _, A ++ [(Tn, z.2)], rfl, by rw [upd_same, refs_snoc], ?_, ?_, (fr.trans (fun b u e _ => s4 b u e)).trans Fre.put, by rw [List.length_append]; exact Nat.succ_le_succ hAl⟩
            · intro q hq
              rcases List.mem_append.mp hq with k | k
              · rw [upd_ne (nAo q k)]; exact s4 _ _ (hA q k)
              · rw [List.mem_singleton.mp k, upd_ne noT, upd_same]
            · rw [rws_snoc, eA, e1, hj, List.reverse_cons]
          have alen : (refs A).length < sizeLine := small1000 (by rw [refs_len]; omega)
          have two : 2 ≤ sizeLine := by decide
          cases hacc : ((rws S).take i).foldl jstep [] with
          | nil =>
            have eA0 : A = [] := by
              rw [hacc] at eA
              exact List.map_eq_nil_iff.mp eA
            refine ite2 (fun k => ?_) (fun _ => iteF ?_)
            · rw [eA0] at k
              exact absurd k (by decide)
            · refine ⟨_, rfl, .inl ⟨rfl, _, .inl (.inl hoA)⟩, _, rfl, _, rfl, two, fun Tn hT => ?_⟩
              refine ⟨o, refs A, _, rfl, rfl, same_lay hT _ _ hoA, alen, ?_⟩
              exact app (by rw [hacc]; rfl) Tn hT
          | cons q0 t0 =>
            have eA1 : rws A = t0.reverse ++ [q0] := by rw [eA, hacc, List.reverse_cons]
            obtain ⟨B, A2, rfl, eB, eA2⟩ := List.map_eq_append_iff.mp eA1
            obtain ⟨⟨aq, q1⟩, A3, rfl, eq1, eA3⟩ := List.map_eq_cons_iff.mp eA2
            obtain rfl := List.map_eq_nil_iff.mp eA3
            obtain rfl : q1 = q0 := eq1
            have haq : H' aq = some (.tup [.int q1.1, .int q1.2]) := hA (aq, q1) (List.mem_append_right _ (List.mem_singleton.mpr rfl))
            rw [refs_snoc] at hoA
            have hSo : SqL K H' o (refs B ++ [.ref aq]) := .inl (.inl hoA)
            have hSq : SqT K H' aq [.int q1.1, .int q1.2] := .inl (.inl haq)
            have g0 : atI [V.int q1.1, .int q1.2] 0 = some (.int q1.1) := atI_nat (j := 0) rfl
            have g1 : atI [V.int q1.1, .int q1.2] 1 = some (.int q1.2) := atI_nat (j := 1) rfl
            have gl : atI (refs B ++ [V.ref aq]) (-1) = some (.ref aq) := atI_last _ _
            refine ite2 (fun _ => ?_) (fun k => ?_)
            · refine ⟨_, rfl, _, rfl, 1, rfl, o, _, -1, _, rfl, rfl, hSo, gl, aq, _, 1, _, rfl, rfl, hSq, g1, _, _, rfl, rfl, _, _, rfl, rfl, _, rfl, ite2 (fun c => ?_) (fun c => ?_)⟩
              · have hc : z.2.1 ≤ q1.2 + 1 := of_decide_eq_true c
                refine ⟨_, rfl, 1, rfl, o, _, -1, _, rfl, rfl, hSo, gl, aq, _, 0, _, rfl, rfl, hSq, g0, _, rfl, 1, rfl, o, _, -1, _, rfl, rfl, hSo, gl, aq, _, 1, _, rfl, rfl, hSq, g1, _, rfl, _, _, rfl, two, fun Tn hT => ?_⟩
                have s4 := same_lay (o := .tup [.int q1.1, .int (if z.2.2 > q1.2 then z.2.2 else q1.2)]) hT
                have noT : Tn ≠ o := by
                  intro e
                  rw [e] at hT
                  rw [hT] at hoA
                  cases hoA
                have ixe : ixN (refs B ++ [V.ref aq]).length (-1) = some (refs B).length := by
                  rw [List.length_append]
                  exact ixN_last _
                refine ⟨_, rfl, 1, rfl, o, _, -1, _, rfl, rfl, s4 _ _ hoA, ixe, ?_⟩
                refine ⟨_, _, B ++ [(Tn, (q1.1, if z.2.2 > q1.2 then z.2.2 else q1.2))], rfl, by rw [upd_same, set_last, refs_snoc], ?_, ?_, (fr.trans (fun b u e _ => s4 b u e)).trans Fre.put, ?_⟩
                · intro q hq
                  rcases List.mem_append.mp hq with k | k
                  · rw [upd_ne (nAo q (List.mem_append_left _ k))]; exact s4 _ _ (hA q (List.mem_append_left _ k))
                  · rw [List.mem_singleton.mp k, upd_ne noT, upd_same]
                · rw [rws_snoc, e1, hacc]
                  show rws B ++ [(q1.1, if z.2.2 > q1.2 then z.2.2 else q1.2)] = (if z.2.1 ≤ q1.2 + 1 then (q1.1, if z.2.2 > q1.2 then z.2.2 else q1.2) :: t0 else z.2 :: q1 :: t0).reverse
                  rw [if_pos hc, List.reverse_cons]
                  exact congrArg (· ++ [(q1.1, if z.2.2 > q1.2 then z.2.2 else q1.2)]) eB
                · rw [List.length_append] at hAl ⊢
                  exact Nat.le_succ_of_le hAl
              · have hc : ¬ z.2.1 ≤ q1.2 + 1 := fun w => c (decide_eq_true w)
                refine ⟨_, rfl, .inl ⟨rfl, _, .inl (.inl hoA)⟩, _, rfl, _, rfl, two, fun Tn hT => ?_⟩
                refine ⟨o, _, _, rfl, rfl, same_lay hT _ _ hoA, by rw [← refs_snoc]; exact alen, ?_⟩
                rw [← refs_snoc]
                refine app ?_ Tn hT
                rw [hacc]
                show (if z.2.1 ≤ q1.2 + 1 then (q1.1, if z.2.2 > q1.2 then z.2.2 else q1.2) :: t0 else z.2 :: q1 :: t0) = z.2 :: q1 :: t0
                rw [if_neg hc]
            · exfalso
              apply k
              rw [refs_snoc]
              simp
        · rintro σ H' ⟨f, l, A, rfl, hoA, hA, eA, fr, hAl⟩
          rw [refs_len, List.take_of_length_le (by rw [rws_len]; exact Nat.le_refl _)] at eA
          have eN : rws A = (jfold (rws S)).reverse := eA
          refine ⟨_, rfl, o, refs A, rfl, .inl ⟨.inl (.inl hoA), fun t ht => ?_⟩⟩
          have s5 := same_lay (o := .tup (refs A)) ht
          have s6 : Same H H' := fun b u e => fr b u (s3 b u (s2 b u (S1 b u e))) (ne_of_none e no)
          refine q t A _ (s6.trans s5) (s6.free ht) upd_same (hA.same s5) (by rw [eN]; exact hnf) (fun x => ?_) ?_
          · rw [eN, hme x, ← eM]
            exact mem_same hSm x
          · rw [refs_len] at hAl
            omega
    · refine .inr ⟨_, rfl, a, rfl, ⟨_, sameT S1 hS⟩, fun D hD => lc_tup (K := K) (a := a) (xs := refs L) (fun i H2 => ∃ M : List ARow, H2 D = some (.lst (refs M)) ∧ AtR H2 M ∧ rws M = (rws L).take i ∧ Same (upd H o (.lst [])) H2)
        ⟨[], upd_same, (fun _ z => nomatch z), rfl, same_lay hD⟩ (fun i H2 _ ⟨_, _, _, _, s⟩ => sameT s (sameT S1 hS)) ?_ ?_⟩
      · intro i x H2 hx hI
        obtain ⟨M, hD2, hM, eM, s2⟩ := hI
        obtain ⟨p, hp, hpL, rfl⟩ := refs_get hx
        have hil : i < L.length := (List.getElem?_eq_some_iff.mp hp).1
        have hlM : M.length = i := by
          rw [← rws_len M, eM, List.length_take, rws_len]
          omega
        have e1 : (rws L).take (i + 1) = (rws L).take i ++ [p.2] := by rw [List.take_add_one, rws_get hp]; rfl
        have nDp : ∀ q ∈ M, q.1 ≠ D := fun q hq => ne_of (hM q hq) hD2 (by intro z; cases z)
        refine ⟨rfl, yesT ?_⟩
        refine ⟨_, rfl, p.1, [.int p.2.1, .int p.2.2], rfl, ?_⟩
        rcases hP p hpL with e | e
        · have e3 := s2 _ _ (S1 _ _ e)
          refine .inr ⟨.inl (.inl e3), refs M, hD2, small1000 (by rw [refs_len, hlM]; omega), M ++ [p], ?_, ?_, ?_, same_upd s2 hD⟩
          · rw [upd_same, refs_snoc]
          · intro q hq
            rcases List.mem_append.mp hq with k | k
            · rw [upd_ne (nDp q k)]; exact hM q k
            · rw [List.mem_singleton.mp k, upd_ne (ne_of e3 hD2 (by intro z; cases z))]; exact e3
          · rw [rws_snoc, eM, e1]
        · have e3 := s2 _ _ (S1 _ _ e)
          refine .inl ⟨.inl (.inl e3), fun l hl => ?_⟩
          have nDl : D ≠ l := ne_of_none hD2 hl
          have s3 := same_lay (o := .tup [.int p.2.1, .int p.2.2]) hl
          refine ⟨refs M, s3 _ _ hD2, small1000 (by rw [refs_len, hlM]; omega), M ++ [(l, p.2)], ?_, ?_, ?_, same_upd (s2.trans s3) hD⟩
          · rw [upd_same, refs_snoc]
          · intro q hq
            rcases List.mem_append.mp hq with k | k
            · rw [upd_ne (nDp q k)]; exact s3 _ _ (hM q k)
            · rw [List.mem_singleton.mp k, upd_ne nDl.symm, upd_same]
          · rw [rws_snoc, eM, e1]
      · intro H2 hI
        obtain ⟨M, hD2, hM, eM, s2⟩ := hI
        rw [refs_len, List.take_of_length_le (by rw [rws_len]; exact Nat.le_refl _)] at eM
        have no2 : H2 o = some (.lst []) := s2 _ _ upd_same
        have lM : M.length = L.length := by rw [← rws_len M, eM, rws_len]
        -- sorted
        refine ⟨D, refs M, kOf H2, rfl, .inl (.inl hD2), fun y hy => ?_, fun ys p hs hb np => ?_⟩
        · unfold refs at hy
          obtain ⟨z, hz, rfl⟩ := List.mem_map.mp hy
          exact ⟨z.1, rfl, by rw [kOf_at (hM z hz)]; exact hM z hz⟩
        obtain ⟨S, rfl, hSA, hSm, hSl, hSk⟩ := refs_perm hM hb.perm
        have hso : (rws S).Pairwise fun r s => r.1 ≤ s.1 := by
          rw [hSk]
          refine List.pairwise_map.mpr (hs.imp fun {x y} hxy => ?_)
          have := SrtO.lexB_no.mp hxy
          omega
        have hSok : ∀ r ∈ rws S, r.1 ≤ r.2 := fun r hr => hok r (by rw [← eM]; exact (hSm r).mp hr)
        obtain ⟨hnf, hme⟩ := jfold_ok hSok hso
        have s3 := same_lay (o := .lst (refs S)) np
        have nop : o ≠ p := ne_of_none no2 np
        refine ⟨p, rfl, ⟨_, .inl (.inl upd_same)⟩, for_list (K := K) (a := p) (xs := refs S) (fun i σ H' => ∃ f l, ∃ A : List ARow, σ = [some (.ref a), some (.ref o), f, l, none] ∧ H' o = some (.lst (refs A)) ∧ AtR H' A ∧ rws A = (((rws S).take i).foldl jstep []).reverse ∧ Fre o (upd H2 p (.lst (refs S))) H' ∧ A.length ≤ i)
          ⟨none, none, [], rfl, by rw [upd_ne nop]; exact no2, (fun _ z => nomatch z), rfl, Fre.refl _ _, Nat.le_refl _⟩ (fun i σ H' _ ⟨_, _, _, _, _, _, _, fr, _⟩ => .inl (.inl (fr _ _ upd_same nop.symm))) ?_ ?_⟩
        · rintro i y σ H' hy ⟨f, l, A, rfl, hoA, hA, eA, fr, hAl⟩
          obtain ⟨z, hz, hzS, rfl⟩ := refs_get hy
          have hil : i < S.length := (List.getElem?_eq_some_iff.mp hz).1
          have ez : H' z.1 = some (.tup [.int z.2.1, .int z.2.2]) := fr _ _ (s3 _ _ (hSA z hzS)) (ne_of (hSA z hzS) no2 (by intro q; cases q))
          have e1 : ((rws S).take (i + 1)).foldl jstep [] = jstep (((rws S).take i).foldl jstep []) z.2 := by
            rw [List.take_add_one, rws_get hz, List.foldl_append]
            rfl
          have nAo : ∀ q ∈ A, q.1 ≠ o := fun q hq => ne_of (hA q hq) hoA (by intro w; cases w)
          refine ⟨z.1, _, rfl, .inl (.inl ez), rfl, _, _, rfl, _, _, rfl, rfl, ?_⟩
          refine ⟨_, rfl, !(refs A).isEmpty, .inl ⟨refs A, .inl (.inl hoA), rfl⟩, ?_⟩
          -- the row goes to the end
          have app : ∀ (hj : jstep (((rws S).take i).foldl jstep []) z.2 = z.2 :: ((rws S).take i).foldl jstep []) (T : Addr), H' T = none →
              ∃ f' l', ∃ A' : List ARow, [some (V.ref a), some (.ref o), some (.int z.2.1), some (.int z.2.2), none] = [some (.ref a), some (.ref o), f', l', none] ∧ (upd (upd H' T (.tup [.int z.2.1, .int z.2.2])) o (.lst (refs A ++ [.ref T]))) o = some (.lst (refs A')) ∧ AtR (upd (upd H' T (.tup [.int z.2.1, .int z.2.2])) o (.lst (refs A ++ [.ref T]))) A' ∧
                rws A' = (((rws S).take (i + 1)).foldl jstep []).reverse ∧ Fre o (upd H2 p (.lst (refs S))) (upd (upd H' T (.tup [.int z.2.1, .int z.2.2])) o (.lst (refs A ++ [.ref T]))) ∧ A'.length ≤ i + 1 := by
            intro hj Tn hT
            have s4 := same_lay (o := .tup [.int z.2.1, .int z.2.2]) hT
            have noT : Tn ≠ o := by
              intro e
              rw [e] at hT
              rw [hT] at hoA
              cases hoA
            refine ⟨_, _, A ++ [(Tn, z.2)], rfl, by rw [upd_same, refs_snoc], ?_, ?_, (fr.trans (fun b u e _ => s4 b u e)).trans Fre.put, by rw [List.length_append]; exact Nat.succ_le_succ hAl⟩
            · intro q hq
              rcases List.mem_append.mp hq with k | k
              · rw [upd_ne (nAo q k)]; exact s4 _ _ (hA q k)
              · rw [List.mem_singleton.mp k, upd_ne noT, upd_same]
            · rw [rws_snoc, eA, e1, hj, List.reverse_cons]
          have alen : (refs A).length < sizeLine := small1000 (by rw [refs_len]; omega)
          have two : 2 ≤ sizeLine := by decide
          cases hacc : ((rws S).take i).foldl jstep [] with
          | nil =>
            have eA0 : A = [] := by
              rw [hacc] at eA
              exact List.map_eq_nil_iff.mp eA
            refine ite2 (fun k => ?_) (fun _ => iteF ?_)
            · rw [eA0] at k
              exact absurd k (by decide)
            · refine ⟨_, rfl, .inl ⟨rfl, _, .inl (.inl hoA)⟩, _, rfl, _, rfl, two, fun Tn hT => ?_⟩
              refine ⟨o, refs A, _, rfl, rfl, same_lay hT _ _ hoA, alen, ?_⟩
              exact app (by rw [hacc]; rfl) Tn hT
          | cons q0 t0 =>
            have eA1 : rws A = t0.reverse ++ [q0] := by rw [eA, hacc, List.reverse_cons]
            obtain ⟨B, A2, rfl, eB, eA2⟩ := List.map_eq_append_iff.mp eA1
            obtain ⟨⟨aq, q1⟩, A3, rfl, eq1, eA3⟩ := List.map_eq_cons_iff.mp eA2
            obtain rfl := List.map_eq_nil_iff.mp eA3
            obtain rfl : q1 = q0 := eq1
            have haq : H' aq = some (.tup [.int q1.1, .int q1.2]) := hA (aq, q1) (List.mem_append_right _ (List.mem_singleton.mpr rfl))
            rw [refs_snoc] at hoA
            have hSo : SqL K H' o (refs B ++ [.ref aq]) := .inl (.inl hoA)
            have hSq : SqT K H' aq [.int q1.1, .int q1.2] := .inl (.inl haq)
            have g0 : atI [V.int q1.1, .int q1.2] 0 = some (.int q1.1) := atI_nat (j := 0) rfl
            have g1 : atI [V.int q1.1, .int q1.2] 1 = some (.int q1.2) := atI_nat (j := 1) rfl
            have gl : atI (refs B ++ [V.ref aq]) (-1) = some (.ref aq) := atI_last _ _
            refine ite2 (fun _ => ?_) (fun k => ?_)
            · refine ⟨_, rfl, _, rfl, 1, rfl, o, _, -1, _, rfl, rfl, hSo, gl, aq, _, 1, _, rfl, rfl, hSq, g1, _, _, rfl, rfl, _, _, rfl, rfl, _, rfl, ite2 (fun c => ?_) (fun c => ?_)⟩
              · have hc : z.2.1 ≤ q1.2 + 1 := of_decide_eq_true c
                refine ⟨_, rfl, 1, rfl, o, _, -1, _, rfl, rfl, hSo, gl, aq, _, 0, _, rfl, rfl, hSq, g0, _, rfl, 1, rfl, o, _, -1, _, rfl, rfl, hSo, gl, aq, _, 1, _, rfl, rfl, hSq, g1, _, rfl, _, _, rfl, two, fun Tn hT => ?_⟩
                have s4 := same_lay (o := .tup [.int q1.1, .int (if z.2.2 > q1.2 then z.2.2 else q1.2)]) hT
                have noT : Tn ≠ o := by
                  intro e
                  rw [e] at hT
                  rw [hT] at hoA
                  cases hoA
                have ixe : ixN (refs B ++ [V.ref aq]).length (-1) = some (refs B).length := by
                  rw [List.length_append]
                  exact ixN_last _
                refine ⟨_, rfl, 1, rfl, o, _, -1, _, rfl, rfl, s4 _ _ hoA, ixe, ?_⟩
                refine ⟨_, _, B ++ [(Tn, (q1.1, if z.2.2 > q1.2 then z.2.2 else q1.2))], rfl, by rw [upd_same, set_last, refs_snoc], ?_, ?_, (fr.trans (fun b u e _ => s4 b u e)).trans Fre.put, ?_⟩
                · intro q hq
                  rcases List.mem_append.mp hq with k | k
                  · rw [upd_ne (nAo q (List.mem_append_left _ k))]; exact s4 _ _ (hA q (List.mem_append_left _ k))
                  · rw [List.mem_singleton.mp k, upd_ne noT, upd_same]
                · rw [rws_snoc, e1, hacc]
                  show rws B ++ [(q1.1, if z.2.2 > q1.2 then z.2.2 else q1.2)] = (if z.2.1 ≤ q1.2 + 1 then (q1.1, if z.2.2 > q1.2 then z.2.2 else q1.2) :: t0 else z.2 :: q1 :: t0).reverse
                  rw [if_pos hc, List.reverse_cons]
                  exact congrArg (· ++ [(q1.1, if z.2.2 > q1.2 then z.2.2 else q1.2)]) eB
                · rw [List.length_append] at hAl ⊢
                  exact Nat.le_succ_of_le hAl
              · have hc : ¬ z.2.1 ≤ q1.2 + 1 := fun w => c (decide_eq_true w)
                refine ⟨_, rfl, .inl ⟨rfl, _, .inl (.inl hoA)⟩, _, rfl, _, rfl, two, fun Tn hT => ?_⟩
                refine ⟨o, _, _, rfl, rfl, same_lay hT _ _ hoA, by rw [← refs_snoc]; exact alen, ?_⟩
                rw [← refs_snoc]
                refine app ?_ Tn hT
                rw [hacc]
                show (if z.2.1 ≤ q1.2 + 1 then (q1.1, if z.2.2 > q1.2 then z.2.2 else q1.2) :: t0 else z.2 :: q1 :: t0) = z.2 :: q1 :: t0
                rw [if_neg hc]
            · exfalso
              apply k
              rw [refs_snoc]
              simp
        · rintro σ H' ⟨f, l, A, rfl, hoA, hA, eA, fr, hAl⟩
          rw [refs_len, List.take_of_length_le (by rw [rws_len]; exact Nat.le_refl _)] at eA
          have eN : rws A = (jfold (rws S)).reverse := eA
          refine ⟨_, rfl, o, refs A, rfl, .inl ⟨.inl (.inl hoA), fun t ht => ?_⟩⟩
          have s5 := same_lay (o := .tup (refs A)) ht
          have s6 : Same H H' := fun b u e => fr b u (s3 b u (s2 b u (S1 b u e))) (ne_of_none e no)
          refine q t A _ (s6.trans s5) (s6.free ht) upd_same (hA.same s5) (by rw [eN]; exact hnf) (fun x => ?_) ?_
          · rw [eN, hme x, ← eM]
            exact mem_same hSm x
          · rw [refs_len] at hAl
            omega
end
end OR

namespace OR
open PySem PySem.Spec PyProof.Rows L2
/-! ### counts before, and __init__ -/
def tot (l : List Row) : Int := l.foldl (fun t r => t + r.2 - r.1 + 1) 0
def befs (l : List Row) : List Int := (List.range l.length).map fun j => tot (l.take j)
theorem tot_snoc (l : List Row) (r : Row) : tot (l ++ [r]) = tot l + r.2 - r.1 + 1 := by
  unfold tot
  rw [List.foldl_append]
  rfl
def spCounts (K : PySem.W.Frag) : Sp := fun vs H Q _ => ∃ (t : Addr) (M : List ARow), vs = [.ref t] ∧ H t = some (.tup (refs M)) ∧ AtR H M ∧ M.length ≤ 1000 ∧
  ∀ (b : Addr) (H' : Hp), Same H H' → H b = none → H' b = some (.tup ((befs (rws M)).map V.int)) → Q (.ref b) H'
/-- an instance of Places with these rows -/
theorem kFS : ¬ (("_firsts" : Str) = "stretches") := by decide +kernel
theorem kBS : ¬ (("_before" : Str) = "stretches") := by decide +kernel
theorem kBF : ¬ (("_before" : Str) = "_firsts") := by decide +kernel
def pFl (t f b : Addr) : List (Str × V) := putF "_before" (.ref b) (putF "_firsts" (.ref f) (putF "stretches" (.ref t) []))
theorem pFl_s (t f b : Addr) : (pFl t f b).lookup ("stretches" : Str) = some (.ref t) := by
  unfold pFl
  rw [lookup_putF, if_neg (fun e => kBS e.symm), lookup_putF, if_neg (fun e => kFS e.symm), lookup_putF, if_pos rfl]
theorem pFl_f (t f b : Addr) : (pFl t f b).lookup ("_firsts" : Str) = some (.ref f) := by
  unfold pFl
  rw [lookup_putF, if_neg (fun e => kBF e.symm), lookup_putF, if_pos rfl]
theorem pFl_b (t f b : Addr) : (pFl t f b).lookup ("_before" : Str) = some (.ref b) := by
  unfold pFl
  rw [lookup_putF, if_pos rfl]
theorem pFl_no (t f b : Addr) {m : Str} (h1 : ¬ m = "_before") (h2 : ¬ m = "_firsts") (h3 : ¬ m = "stretches") : (pFl t f b).lookup m = none := by
  unfold pFl
  rw [lookup_putF, if_neg h1, lookup_putF, if_neg h2, lookup_putF, if_neg h3]
  rfl
structure IsP (C : Addr) (H : Hp) (x : Addr) (l : List Row) : Prop where
  nf : Nf l
  ex : ∃ (dx t f b : Addr) (M : List ARow), H x = some (.ins C dx (pFl t f b)) ∧ H t = some (.tup (refs M)) ∧ AtR H M ∧ rws M = l ∧ H f = some (.tup (l.map fun r => V.int r.1)) ∧ H b = some (.tup ((befs l).map V.int)) ∧ M.length ≤ 1000
theorem IsP.same {C : Addr} {H H' : Hp} {x : Addr} {l : List Row} (h : IsP C H x l) (s : Same H H') : IsP C H' x l := by
  obtain ⟨nf, dx, t, f, b, M, h1, h2, h3, h4, h5, h6, h7⟩ := h
  exact ⟨nf, dx, t, f, b, M, s _ _ h1, s _ _ h2, h3.same s, h4, s _ _ h5, s _ _ h6, h7⟩
/-- enumerate, turn by turn -/
theorem for_enum {K : PySem.W.Frag} {a : Addr} {xs : List V} {g : TG} {tb : TS} {D : Ends} {σ : L2.St} {H : Hp} (Pv : Nat → L2.St → Hp → Prop) (h0 : Pv 0 σ H) (hl : ∀ i σ H, i ≤ xs.length → Pv i σ H → SqL K H a xs)
    (hs : ∀ i x σ H T, xs[i]? = some x → Pv i σ H → H T = none → g (.ref T) σ (upd H T (.tup [.int (i : Nat), x])) fun σ2 H2 => tb { D with nx := Pv (i + 1), ct := Pv (i + 1), bk := D.nx } σ2 H2) (hd : ∀ σ H, Pv xs.length σ H → D.nx σ H) :
    ∃ W : Nat → Nat → L2.St → Hp → Prop, (∃ m, W 0 m σ H) ∧ ∀ i m σ H, W i m σ H →
      ((Ite K a).stop i H ∧ D.nx σ H) ∨ ((Ite K a).go i H ∧ ∃ N : L2.St → Hp → Prop, (∀ σ' H', N σ' H' → ∃ m', m' < m ∧ W (i + 1) m' σ' H') ∧ ∀ x H', (Ite K a).yld i H x H' → g x σ H' fun σ2 H2 => tb { D with nx := N, ct := N, bk := D.nx } σ2 H2) := by
  refine ⟨fun i m σ H => m = xs.length - i ∧ i ≤ xs.length ∧ Pv i σ H, ⟨xs.length, by simp, Nat.zero_le _, h0⟩, ?_⟩
  rintro i m σ H ⟨rfl, hi, p⟩
  have q := hl i σ H hi p
  by_cases hlt : i < xs.length
  · refine .inr ⟨⟨xs, xs[i], q, by simp [hlt]⟩, Pv (i + 1), fun σ' H' p' => ⟨xs.length - (i + 1), by omega, rfl, hlt, p'⟩, fun v H' y => ?_⟩
    obtain ⟨T, x, rfl, hT, rfl, hx⟩ := y
    exact hs i x σ H T (hx xs q) p hT
  · obtain rfl : i = xs.length := by omega
    exact .inl ⟨⟨xs, q, Nat.le_refl _⟩, hd σ H p⟩
theorem for_enumT {K : PySem.W.Frag} {a : Addr} {xs : List V} {g : TG} {tb : TS} {D : Ends} {σ : L2.St} {H : Hp} (Pv : Nat → L2.St → Hp → Prop) (h0 : Pv 0 σ H) (hl : ∀ i σ H, i ≤ xs.length → Pv i σ H → SqT K H a xs)
    (hs : ∀ i x σ H T, xs[i]? = some x → Pv i σ H → H T = none → g (.ref T) σ (upd H T (.tup [.int (i : Nat), x])) fun σ2 H2 => tb { D with nx := Pv (i + 1), ct := Pv (i + 1), bk := D.nx } σ2 H2) (hd : ∀ σ H, Pv xs.length σ H → D.nx σ H) :
    ∃ W : Nat → Nat → L2.St → Hp → Prop, (∃ m, W 0 m σ H) ∧ ∀ i m σ H, W i m σ H →
      ((IteT K a).stop i H ∧ D.nx σ H) ∨ ((IteT K a).go i H ∧ ∃ N : L2.St → Hp → Prop, (∀ σ' H', N σ' H' → ∃ m', m' < m ∧ W (i + 1) m' σ' H') ∧ ∀ x H', (IteT K a).yld i H x H' → g x σ H' fun σ2 H2 => tb { D with nx := N, ct := N, bk := D.nx } σ2 H2) := by
  refine ⟨fun i m σ H => m = xs.length - i ∧ i ≤ xs.length ∧ Pv i σ H, ⟨xs.length, by simp, Nat.zero_le _, h0⟩, ?_⟩
  rintro i m σ H ⟨rfl, hi, p⟩
  have q := hl i σ H hi p
  by_cases hlt : i < xs.length
  · refine .inr ⟨⟨xs, xs[i], q, by simp [hlt]⟩, Pv (i + 1), fun σ' H' p' => ⟨xs.length - (i + 1), by omega, rfl, hlt, p'⟩, fun v H' y => ?_⟩
    obtain ⟨T, x, rfl, hT, rfl, hx⟩ := y
    exact hs i x σ H T (hx xs q) p hT
  · obtain rfl : i = xs.length := by omega
    exact .inl ⟨⟨xs, q, Nat.le_refl _⟩, hd σ H p⟩
def spPlInit (K : PySem.W.Frag) (C : Addr) : Sp := fun vs H Q _ => ∃ (x dx a : Addr) (L : List ARow), vs = [.ref x, .ref a] ∧ H x = some (.ins C dx []) ∧ (SqL K H a (refs L) ∨ SqT K H a (refs L)) ∧ L.length ≤ 1000 ∧ PairsAt H L ∧ (∀ r ∈ rws L, okRow r = true) ∧
  ∀ (l : List Row) (H' : Hp), (∀ c o, H c = some o → c ≠ x → H' c = some o) → IsP C H' x l → (∀ z, mem l z ↔ mem (rws L) z) → l.length ≤ L.length → Q .non H'
theorem okRow_le {r : Row} (h : okRow r = true) : r.1 ≤ r.2 := by
  unfold okRow at h
  simp only [Bool.and_eq_true, decide_eq_true_eq] at h
  exact h.2.2
section
variable {P : Program} {w : World} {K : PySem.W.Frag} {mg : Str → Option Value} {base : Heap}
theorem scC : FnScope ["stretches", "counts", "total", "first", "last"] ["stretches"] (defScope sCounts) := ⟨rfl, rfl, rfl, by decide +kernel, rfl, by decide +kernel, by decide +kernel⟩
theorem ok_counts {f C : Addr} {fd : FuncData} (F : Fun K "_counts_before" "_counts_before" sCounts f fd) (T : PTxt K mg C) : FnOk P w K mg base CX0 1 f fd ["stretches"] (spCounts K) := by
  refine F.ok scC (fun vs H Q E h => ?_) (fun cdv A outer s H vs Q E hr h => ?_)
  · obtain ⟨t, M, rfl, _⟩ := h
    rfl
  · obtain ⟨t, M, rfl, ht, hM, hlen, q⟩ := h
    have nd := scC.nd
    refine ⟨_, pss_cons (ps_set (i := 1) nd rfl (.inl rfl) (pe_lst pa_nil))
      (pss_cons (ps_set (i := 2) nd rfl (.inl rfl) pe_int)
      (pss_cons (ps_for PassesOwn.never rfl (pi_tup (pv 0)) (pg_tup rfl (pgs_cons (pg_name (i := 3) nd rfl (.inl rfl)) (pgs_cons (pg_name (i := 4) nd rfl (.inl rfl)) pgs_nil)))
        (pss_cons (ps_expr (pe_bm PySem.F.plainAttrs_list PySem.F.slot_list_append PySem.F.type_list_append mt_append (pv 1) (pa_cons (pv 2) pa_nil)))
        (pss_one (ps_set (i := 2) nd rfl (.inl rfl) (pe_op op_add (pe_op op_sub (pe_op op_add (pv 2) (pv 4)) (pv 3)) pe_int)))))
      (pss_one (ps_ret (pe_callTy call_tuple_of (by rfl) T.zTup bt_tup (pa_cons (pv 1) pa_nil)))))), ?_⟩
    refine ⟨Nat.zero_le _, fun o no => ?_⟩
    have s1 := same_lay (o := .lst []) no
    refine ⟨_, rfl, t, rfl, ⟨_, .inl (.inl (s1 _ _ ht))⟩, for_tup (K := K) (a := t) (xs := refs M) (fun i σ H' => ∃ f l, σ = [some (.ref t), some (.ref o), some (.int (tot ((rws M).take i))), f, l] ∧ H' o = some (.lst (((List.range i).map fun j => tot ((rws M).take j)).map V.int)) ∧ Fre o (upd H o (.lst [])) H')
      ⟨none, none, rfl, upd_same, Fre.refl _ _⟩ (fun i σ H' _ ⟨_, _, _, _, fr⟩ => .inl (.inl (fr _ _ (s1 _ _ ht) (ne_of_none ht no)))) ?_ ?_⟩
    · rintro i y σ H' hy ⟨f, l, rfl, ho, fr⟩
      obtain ⟨z, hz, hzM, rfl⟩ := refs_get hy
      have hil : i < M.length := (List.getElem?_eq_some_iff.mp hz).1
      have ez : H' z.1 = some (.tup [.int z.2.1, .int z.2.2]) := fr _ _ (s1 _ _ (hM z hzM)) (ne_of_none (hM z hzM) no)
      refine ⟨z.1, _, rfl, .inl (.inl ez), rfl, _, _, rfl, _, _, rfl, rfl, ?_⟩
      refine ⟨_, rfl, .inl ⟨rfl, _, .inl (.inl ho)⟩, _, rfl, o, _, _, rfl, rfl, ho, small1000 (by rw [List.length_map, List.length_map, List.length_range]; omega), ?_⟩
      refine ⟨_, rfl, _, rfl, _, _, rfl, rfl, _, rfl, _, _, rfl, rfl, _, _, rfl, rfl, ?_⟩
      have e1 : (rws M).take (i + 1) = (rws M).take i ++ [z.2] := by rw [List.take_add_one, rws_get hz]; rfl
      refine ⟨some (.int z.2.1), some (.int z.2.2), ?_, ?_, fr.trans Fre.put⟩
      · rw [e1, tot_snoc]
        rfl
      · rw [upd_same, List.range_succ, List.map_append, List.map_append]
        rfl
    · rintro σ H' ⟨f, l, rfl, ho, fr⟩
      refine ⟨_, rfl, o, _, rfl, .inl ⟨.inl (.inl ho), fun b hb => ?_⟩⟩
      have s2 := same_lay (o := .tup (((List.range (refs M).length).map fun j => tot ((rws M).take j)).map V.int)) hb
      have s3 : Same H H' := fun c u e => fr c u (s1 c u e) (ne_of_none e no)
      refine q b _ (s3.trans s2) (s3.free hb) ?_
      rw [upd_same]
      unfold befs
      rw [rws_len, refs_len]
theorem scPI : FnScope ["self", "stretches", "index", "stretch", "first", "_"] ["self", "stretches"] (defScope sPlInit) := ⟨rfl, rfl, rfl, by decide +kernel, rfl, by decide +kernel, by decide +kernel⟩
theorem ok_plinit {f C : Addr} {fd : FuncData} {dvs : List V} (F : FunD K "__init__" "Places.__init__" (defArgs sPlInit) (defBody sPlInit) (defScope sPlInit) dvs [] f fd) (T : PTxt K mg C) (S : Cl P w K mg base 3 "_is_stretch" ["value"] spIsStretchP)
    (J : Cl P w K mg base 1 "_joined" ["stretches"] (spJoined K)) (B : Cl P w K mg base 1 "_counts_before" ["stretches"] (spCounts K)) : FnOk P w K mg base CX0 4 f fd ["self", "stretches"] (spPlInit K C) := by
  refine F.ok scPI (fun vs H Q E h => ?_) (fun cdv A outer s H vs Q E hr h => ?_)
  · obtain ⟨x, dx, a, L, rfl, _⟩ := h
    rfl
  · obtain ⟨x, dx, a, L, rfl, hx, hS, hlen, hP, hok, q⟩ := h
    have nd := scPI.nd
    have hb := PSs.nox (X := cxOf CX0 P w K mg base ["self", "stretches", "index", "stretch", "first", "_"] "Places.__init__" (defScope sPlInit) f cdv A outer s H E) (st := defBody sPlInit) (pss_cons (ps_for PassesOwn.never rfl (pi_or (pi_enum (by rfl) T.zEnum (pa_cons (pv 1) pa_nil)) (pi_enumT (by rfl) T.zEnum (pa_cons (pv 1) pa_nil)))
          (pg_tup rfl (pgs_cons (pg_name (i := 2) nd rfl (.inl rfl)) (pgs_cons (pg_name (i := 3) nd rfl (.inl rfl)) pgs_nil)))
        (pss_one (ps_if (pt_not (pt_val (pe_cl S hr (by decide) (by rfl) (pa_cons (pv 3) pa_nil)))) (pss_one ps_never) pss_nil)))
      (pss_cons (ps_fld (pv 0) (pe_cl J hr (by decide) (by rfl) (pa_cons (pv 1) pa_nil)) rfl)
      (pss_cons (ps_fld (pv 0) (pe_callTy call_tuple_of (by rfl) T.zTup bt_tup (pa_cons
          (pe_lc (own := [("first", 4), ("_", 5)]) (g := gTup K 2 (gCons (gName 4) (gCons (gName 5) gNil))) (tt := tYes) rfl nd (pi_tup (pe_fld (pv 0) rfl)) (blkOk_by (N := ["self", "stretches", "index", "stretch", "first", "_"]) (sc := defScope sPlInit) (by decide +kernel))
            (fun _ _ _ _ _ => pg_tup rfl (pgs_cons (pg_name (i := 4) nd rfl (.inl rfl)) (pgs_cons (pg_name (i := 5) nd rfl (.inl rfl)) pgs_nil))) (fun _ _ _ _ _ => pts_nil) (fun _ _ _ _ _ => pv 4)) pa_nil)) rfl)
      (pss_one (ps_fld (pv 0) (pe_cl B hr (by decide) (by rfl) (pa_cons (pe_fld (pv 0) rfl) pa_nil)) rfl)))))
    refine ⟨_, hb, ?_⟩
    clear hb
    -- what follows the loop
    have after : ∀ (σ : L2.St) (H1 : Hp) (i1 s1 : Option V), σ = [some (.ref x), some (.ref a), i1, s1, none, none] → Same H H1 → (tSeq (sFld K (tVar 0) (tCall (spJoined K) [] E0 (tCons (tVar 1) tNil)) "stretches")
        (tSeq (sFld K (tVar 0) (tCB (fun xs H Q => ∃ p ys, xs = [V.ref p] ∧ ((SqL K H p ys ∧ ∀ l, H l = none → Q (.ref l) (upd H l (.tup ys))) ∨ (SqT K H p ys ∧ Q (.ref p) H))) (tCons (tLc (iTup K (tFld K (tVar 0) "stretches")) (gTup K 2 (gCons (gName 4) (gCons (gName 5) gNil))) tYes (tVar 4) [4, 5]) tNil)) "_firsts")
        (sFld K (tVar 0) (tCall (spCounts K) [] E0 (tCons (tFld K (tVar 0) "stretches") tNil)) "_before"))) { nx := fun _ H' => Q .non H', rt := Q } σ H1 := by
      rintro σ H1 i1 s1 rfl S1
      have hS1 : SqL K H1 a (refs L) ∨ SqT K H1 a (refs L) := hS.elim (fun e => .inl (S1.seq e)) fun e => .inr (sameT S1 e)
      refine ⟨_, rfl, a, L, rfl, hS1, hlen, hP.same S1, fun r hr => okRow_le (hok r hr), fun t M H2 S2 nt ht hM hnf hme hlM => ?_⟩
      have hx2 := S2 _ _ (S1 _ _ hx)
      refine ⟨_, rfl, x, C, dx, [], rfl, hx2, T.cl, T.nS, (by show 0 < 1000; decide), ?_⟩
      have ntx : t ≠ x := ne_of ht hx2 (by intro z; cases z)
      have nMx : ∀ p ∈ M, p.1 ≠ x := fun p hp => ne_of (hM p hp) hx2 (by intro z; cases z)
      -- firsts
      generalize hH3 : upd H2 x (.ins C dx (putF "stretches" (.ref t) [])) = H3
      have hx3 : H3 x = some (.ins C dx (putF "stretches" (.ref t) [])) := by rw [← hH3, upd_same]
      have ht3 : H3 t = some (.tup (refs M)) := by rw [← hH3, upd_ne ntx]; exact ht
      have hM3 : AtR H3 M := fun p hp => by rw [← hH3, upd_ne (nMx p hp)]; exact hM p hp
      have f3 : ∀ c o, H c = some o → c ≠ x → H3 c = some o := fun c o e n => by rw [← hH3, upd_ne n]; exact S2 _ _ (S1 _ _ e)
      have lk : (putF "stretches" (V.ref t) []).lookup ("stretches" : Str) = some (V.ref t) := by rw [lookup_putF, if_pos rfl]
      refine ⟨_, rfl, x, C, dx, _, _, rfl, hx3, T.cl, T.nS, lk, t, rfl, ⟨_, .inl (.inl ht3)⟩, fun D hD => lc_tup (K := K) (a := t) (xs := refs M) (fun i H4 => H4 D = some (.lst ((rws M).take i |>.map fun r => V.int r.1)) ∧ Same H3 H4)
        ⟨upd_same, same_lay hD⟩ (fun i H4 _ ⟨_, s⟩ => .inl (.inl (s _ _ ht3))) ?_ ?_⟩
      · rintro i y H4 hy ⟨hD4, s4⟩
        obtain ⟨z, hz, hzM, rfl⟩ := refs_get hy
        have hil : i < M.length := (List.getElem?_eq_some_iff.mp hz).1
        have ez := s4 _ _ (hM3 z hzM)
        refine ⟨z.1, _, rfl, .inl (.inl ez), rfl, _, _, rfl, _, _, rfl, rfl, rfl, yesT ?_⟩
        refine ⟨_, rfl, _, hD4, small1000 (by rw [List.length_map, List.length_take]; omega), ?_, same_upd s4 hD⟩
        have e1 : (rws M).take (i + 1) = (rws M).take i ++ [z.2] := by rw [List.take_add_one, rws_get hz]; rfl
        rw [upd_same, e1, List.map_append]
        rfl
      · rintro H4 ⟨hD4, s4⟩
        rw [refs_len, List.take_of_length_le (by rw [rws_len]; exact Nat.le_refl _)] at hD4
        refine ⟨D, _, rfl, .inl ⟨.inl (.inl hD4), fun f nf => ?_⟩⟩
        have s5 := same_lay (o := .tup ((rws M).map fun r => V.int r.1)) nf
        have s35 := s4.trans s5
        have hx5 := s35 _ _ hx3
        refine ⟨_, rfl, x, C, dx, _, rfl, hx5, T.cl, T.nF, (by show 1 < 1000; decide), ?_⟩
        have nfx : f ≠ x := by
          intro e
          rw [e] at nf
          rw [s4 _ _ hx3] at nf
          cases nf
        generalize hH6 : upd (upd H4 f (.tup ((rws M).map fun r => V.int r.1))) x (.ins C dx (putF "_firsts" (.ref f) (putF "stretches" (.ref t) []))) = H6
        have hx6 : H6 x = some (.ins C dx (putF "_firsts" (.ref f) (putF "stretches" (.ref t) []))) := by rw [← hH6, upd_same]
        have ht6 : H6 t = some (.tup (refs M)) := by rw [← hH6, upd_ne ntx]; exact s35 _ _ ht3
        have hM6 : AtR H6 M := fun p hp => by rw [← hH6, upd_ne (nMx p hp)]; exact s35 _ _ (hM3 p hp)
        have hf6 : H6 f = some (.tup ((rws M).map fun r => V.int r.1)) := by rw [← hH6, upd_ne nfx, upd_same]
        have f6 : ∀ c o, H c = some o → c ≠ x → H6 c = some o := fun c o e n => by rw [← hH6, upd_ne n]; exact s35 _ _ (f3 c o e n)
        have lk6 : (putF "_firsts" (V.ref f) (putF "stretches" (V.ref t) [])).lookup ("stretches" : Str) = some (V.ref t) := by
          rw [lookup_putF, if_neg (fun e => kFS e.symm), lookup_putF, if_pos rfl]
        refine ⟨_, rfl, x, C, dx, _, _, rfl, hx6, T.cl, T.nS, lk6, t, M, rfl, ht6, hM6, Nat.le_trans hlM hlen, fun b H7 s7 nb hb => ?_⟩
        have hx7 := s7 _ _ hx6
        refine ⟨_, rfl, x, C, dx, _, rfl, hx7, T.cl, T.nB, (by show 2 < 1000; decide), ?_⟩
        have nbx : b ≠ x := ne_of hb hx7 (by intro z; cases z)
        refine q (rws M) _ (fun c o e n => by rw [upd_ne n]; exact s7 _ _ (f6 c o e n)) ⟨hnf, dx, t, f, b, M, upd_same, ?_, fun p hp => ?_, rfl, ?_, ?_, Nat.le_trans hlM hlen⟩ hme (by rw [rws_len]; exact hlM)
        · rw [upd_ne ntx]; exact s7 _ _ ht6
        · rw [upd_ne (nMx p hp)]; exact s7 _ _ (hM6 p hp)
        · rw [upd_ne nfx]; exact s7 _ _ hf6
        · rw [upd_ne nbx]; exact hb
    rcases hS with hS' | hS'
    · refine .inl ⟨_, rfl, a, refs L, rfl, hS', for_enum (K := K) (a := a) (xs := refs L) (fun i σ H' => ∃ i1 s1, σ = [some (.ref x), some (.ref a), i1, s1, none, none] ∧ Same H H')
        ⟨none, none, rfl, Same.refl _⟩ (fun i σ H' _ ⟨_, _, _, s⟩ => s.seq hS') ?_ ?_⟩
      · rintro i y σ H' Tn hy ⟨i1, s1, rfl, S1⟩ hT
        obtain ⟨z, hz, hzL, rfl⟩ := refs_get hy
        have s2 := same_lay (o := .tup [.int (i : Nat), .ref z.1]) hT
        have pz := (hP.same (S1.trans s2)) z hzL
        have okz : okRow z.2 = true := hok z.2 (mem_rws.mpr ⟨z.1, hzL⟩)
        refine ⟨Tn, _, rfl, .inl (.inl upd_same), rfl, _, _, rfl, _, _, rfl, rfl, ?_⟩
        refine ⟨_, rfl, z.1, z.2, rfl, pz, fun H'' S3 => ⟨_, rfl, ?_⟩⟩
        rw [okz]
        exact iteF ⟨_, _, rfl, (S1.trans s2).trans S3⟩
      · rintro σ H' ⟨i1, s1, rfl, S1⟩
        exact after _ _ i1 s1 rfl S1
    · refine .inr ⟨_, rfl, a, refs L, rfl, hS', for_enumT (K := K) (a := a) (xs := refs L) (fun i σ H' => ∃ i1 s1, σ = [some (.ref x), some (.ref a), i1, s1, none, none] ∧ Same H H')
        ⟨none, none, rfl, Same.refl _⟩ (fun i σ H' _ ⟨_, _, _, s⟩ => sameT s hS') ?_ ?_⟩
      · rintro i y σ H' Tn hy ⟨i1, s1, rfl, S1⟩ hT
        obtain ⟨z, hz, hzL, rfl⟩ := refs_get hy
        have s2 := same_lay (o := .tup [.int (i : Nat), .ref z.1]) hT
        have pz := (hP.same (S1.trans s2)) z hzL
        have okz : okRow z.2 = true := hok z.2 (mem_rws.mpr ⟨z.1, hzL⟩)
        refine ⟨Tn, _, rfl, .inl (.inl upd_same), rfl, _, _, rfl, _, _, rfl, rfl, ?_⟩
        refine ⟨_, rfl, z.1, z.2, rfl, pz, fun H'' S3 => ⟨_, rfl, ?_⟩⟩
        rw [okz]
        exact iteF ⟨_, _, rfl, (S1.trans s2).trans S3⟩
      · rintro σ H' ⟨i1, s1, rfl, S1⟩
        exact after _ _ i1 s1 rfl S1
end
end OR

namespace OR
open PySem PySem.Spec PyProof.Rows L2
/-! ### deep data made of rows -/
def rowD (r : Row) : PyData := .tuple [.int r.1, .int r.2]
theorem dp_row {K : PySem.W.Frag} {H : Hp} {a : Addr} {r : Row} (h : H a = some (.tup [.int r.1, .int r.2])) : Dp K H (.ref a) (rowD r) := .tup (.inl (.inl h)) (.cons (.int _) (.cons (.int _) .nil))
theorem dp_rows {K : PySem.W.Frag} {H : Hp} : ∀ {L : List ARow}, AtR H L → DpAll K H (refs L) ((rws L).map rowD)
  | [], _ => .nil
  | p :: L, h => .cons (dp_row (h p List.mem_cons_self)) (dp_rows fun q hq => h q (List.mem_cons_of_mem _ hq))
theorem lay_rows : ∀ l : List Row, PyData.canLayAll0 (l.map rowD) = true
  | [] => rfl
  | r :: l => by
    show (PyData.canLay0 (rowD r) && PyData.canLayAll0 (l.map rowD)) = true
    rw [lay_rows l]
    rfl
theorem dep_rows : ∀ l : List Row, PyData.depthAll (l.map rowD) ≤ 1
  | [] => Nat.zero_le _
  | r :: l => by
    show max (PyData.depth (rowD r)) (PyData.depthAll (l.map rowD)) ≤ 1
    have := dep_rows l
    have e : PyData.depth (rowD r) = 1 := rfl
    omega
theorem shp_tup (l : List Row) : SeqAt.shaped (.tuple (l.map rowD)) = true := by
  unfold SeqAt.shaped
  rw [show PyData.canLay0 (.tuple (l.map rowD)) = true from lay_rows l, Bool.true_and]
  refine decide_eq_true ?_
  show PyData.depthAll (l.map rowD) + 1 ≤ 64
  have := dep_rows l
  omega
theorem shp_lst (l : List Row) : SeqAt.shaped (.list (l.map rowD)) = true := by
  unfold SeqAt.shaped
  rw [show PyData.canLay0 (.list (l.map rowD)) = true from lay_rows l, Bool.true_and]
  refine decide_eq_true ?_
  show PyData.depthAll (l.map rowD) + 1 ≤ 64
  have := dep_rows l
  omega
theorem eqv_row (r s : Row) : PyData.eqv (rowD r) (rowD s) = decide (r = s) := by
  show ((r.1 == s.1) && ((r.2 == s.2) && true)) = decide (r = s)
  rw [Bool.and_true]
  by_cases h : r = s
  · subst h
    simp
  · rw [decide_eq_false h]
    by_cases h1 : r.1 = s.1
    · have h2 : r.2 ≠ s.2 := fun e => h (Prod.ext h1 e)
      simp [h2]
    · simp [h1]
theorem eqv_rows : ∀ l m : List Row, PyData.eqvAll (l.map rowD) (m.map rowD) = decide (l = m)
  | [], [] => by simp [PyData.eqvAll]
  | [], _ :: _ => by simp [PyData.eqvAll]
  | _ :: _, [] => by simp [PyData.eqvAll]
  | r :: l, s :: m => by
    show (PyData.eqv (rowD r) (rowD s) && PyData.eqvAll (l.map rowD) (m.map rowD)) = decide (r :: l = s :: m)
    rw [eqv_row, eqv_rows l m]
    by_cases h1 : r = s
    · by_cases h2 : l = m
      · simp [h1, h2]
      · simp [h1, h2]
    · simp [h1]
theorem AtR.frm {H H' : Hp} {L : List ARow} {p : Addr} {n : Nat} (h : AtR H L) (f : Frm p H H') (P : Pen H p n) : AtR H' L := fun q hq => by
  obtain ⟨c, ns, k, l, hp, _⟩ := P
  exact f _ _ (h q hq) (ne_of (h q hq) hp (by intro z; cases z))
theorem Frm.free {p q : Addr} {H H' : Hp} {n : Nat} (f : Frm p H H') (P : Pen H' p n) (h : H' q = none) : H q = none := by
  obtain ⟨c, ns, k, l, hp, _⟩ := P
  cases e : H q with
  | none => rfl
  | some o =>
    by_cases ep : q = p
    · rw [ep, hp] at h
      cases h
    · rw [f q o e ep] at h
      cases h
theorem frmS {p : Addr} {H H' : Hp} (s : Same H H') : Frm p H H' := ⟨fun b o e _ => s b o e, fun c ⟨k, l, e⟩ => ⟨k, l, s _ _ e⟩⟩
theorem Pen.same' {H H' : Hp} {p : Addr} {n : Nat} (P : Pen H p n) (s : Same H H') : Pen H' p n := by
  obtain ⟨c, ns, k, l, h1, h2, h⟩ := P
  exact ⟨c, ns, k, l, s _ _ h1, s _ _ h2, h⟩
/-! ### the law's drawing of rows -/
def spSpot : Sp := fun vs H Q _ => ∃ (p : Addr) (n : Nat), vs = [.ref p] ∧ Pen H p n ∧ n ≤ 900000 ∧ ∀ (r : Int) (H' : Hp), placeB r = true → Pen H' p (n + 2) → Frm p H H' → Q (.int r) H'
def spDrawn : Sp := fun vs H Q _ => ∃ (p : Addr) (m n : Nat), vs = [.ref p, .int m] ∧ m ≤ 20 ∧ Pen H p n ∧ n ≤ 700000 ∧
  ∀ (a : Addr) (L : List ARow) (H' : Hp), H a = none → H' a = some (.lst (refs L)) → AtR H' L → (∀ r ∈ rws L, okRow r = true) → L.length ≤ m → Pen H' p (n + 1000) → Frm p H H' → Q (.ref a) H'
theorem place_of {r : Int} (h0 : 0 ≤ r) (h1 : r ≤ lastP) : placeB r = true := by
  unfold placeB
  rw [decide_eq_true h0, decide_eq_true h1]
  rfl
theorem place_iff {r : Int} (h : placeB r = true) : 0 ≤ r ∧ r ≤ lastP := by
  unfold placeB at h
  simp only [Bool.and_eq_true, decide_eq_true_eq] at h
  exact h
theorem okRow_of {a b : Int} (h0 : 0 ≤ a) (h1 : a ≤ b) (h2 : b ≤ lastP) : okRow (a, b) = true := by
  unfold okRow
  rw [place_of (r := a) h0 (Int.le_trans h1 h2), place_of (r := b) (Int.le_trans h0 h1) h2, Bool.true_and, Bool.true_and]
  exact decide_eq_true h1
theorem okRow_iff {r : Row} (h : okRow r = true) : 0 ≤ r.1 ∧ r.1 ≤ r.2 ∧ r.2 ≤ lastP := by
  unfold okRow at h
  rw [Bool.and_eq_true, Bool.and_eq_true, decide_eq_true_eq] at h
  exact ⟨(place_iff h.1).1, h.2.2, (place_iff h.2.1).2⟩
structure Bd (mg : Str → Option Value) : Prop where
  range : mg "range" = none
  min : mg "min" = none
  max : mg "max" = none
  int : mg "int" = none
  len : mg "len" = none
  list : mg "list" = none
  set : mg "set" = none
  sorted : mg "sorted" = none
end OR

namespace OR
open PySem PySem.Spec PyProof.Rows L2
/-! ### own ==, !=, bool -/
section
variable {prog : Program} {w : World} {A : Around} {E : Value → Shared → Prop} {s : Shared} {K : PySem.W.Frag} {x C L f : Addr} {h₀ : Heap} {m : Str → Option Value} {ox : Obj} {od : Option Obj} {b tb : Value}
theorem ifBound_ne {M : Model} {args : List Value} {Q : Option Value → Shared → Prop} (X : K.In s.heap) (I : PySem.W.InstAt s.heap x ox C od) (hs : PySem.W.findIn K (.ref C) "__ne__" = some (some (.builtin "object.__ne__")))
    (h : wpAny M A (call (.builtin "object.__ne__") (.ref x :: args)) (fun v => Q (some v)) E s) : wpAny M A (callSpecialIfBound? (.ref x) "__ne__" args) Q E s := by
  simp only [callSpecialIfBound?, bindSpecialIfBound?]
  refine wpAny_holding (wpAny_bind (wpAny_bind (wpAny_bind (I.type.here ((PySem.W.looks_findIn X hs).here ?_)))))
  simp only [PySem.F.cmp_object.ne.bind]
  refine wpAny_bind (wpAny_askSetting (wpAny_ite ?_))
  have fin : wpAny M A (call (.builtin "object.__ne__") ([.ref x] ++ args) >>= fun v => pure (some v)) Q E s := wpAny_bind (wpAny_mono h (fun v s' h' => wpAny_pure h') fun _ _ h' => h')
  split
  · exact wpAny_bind (wpAny_pure (wpAny_pure fin))
  · exact wpAny_tryCatch (wpAny_bind (wpAny_pure (wpAny_pure fin)))
theorem check_ne {M : Model} {Q : Unit → Shared → Prop} (X : K.In s.heap) (I : PySem.W.InstAt s.heap x ox C od) (hm : PySem.W.mroIn K C (.type "object") = some true) (hq : Q () s) :
    wpAny M A (PySem.checkBuiltinCall "object.__ne__" ⟨[.ref x, b], []⟩) Q E s := by
  have hsig : ∃ sig, Manifest.signature? "object.__ne__" = sig := ⟨_, rfl⟩
  obtain ⟨sig, hsig⟩ := hsig
  have ha := PySem.F.cmpArgs_ne (.ref x) b
  unfold argsOk at ha
  simp only [PySem.checkBuiltinCall, PySem.F.cmpKind_ne, PySem.F.cmpSplit_ne]
  refine wpAny_bind (m := PySem.isInstance _ _) ?_
  unfold PySem.isInstance
  refine wpAny_bind (I.type.here ((PySem.W.looks_mroIn X hm).here ?_))
  rw [hsig] at ha ⊢
  cases sig with
  | none => exact wpAny_pure hq
  | some sg =>
    have h2 : Bind.checkArgs "object.__ne__" sg ⟨[.ref x, b], []⟩ = pure () := ha
    show wpAny M A (Bind.checkArgs "object.__ne__" sg ⟨[.ref x, b], []⟩) Q E _
    rw [h2]; exact wpAny_pure hq
/-- x != b by the own == of x -/
theorem ne_K {Q : Value → Shared → Prop} (hu : A.units + 1 < cLine) (F : PyProof.Rows.Fr h₀ L s.heap m) (X₀ : K.In h₀) (I : PySem.W.InstAt s.heap x ox C od) (hb : PySem.W.Looks (model prog w) s.heap (typeOf b) tb) (hn : PySem.W.notFirst K C tb = true)
    (h1 : PySem.W.findIn K (.ref C) "__ne__" = some (some (.builtin "object.__ne__"))) (hm : PySem.W.mroIn K C (.type "object") = some true) (hs : PySem.W.findIn K (.ref C) "__eq__" = some (some (.ref f))) (hf : PySem.W.isFn K (.ref f) = true)
    (h : wpAny (model prog w) A.in1 (call (.ref f) [.ref x, b]) (fun v s' => ∃ k, v = .bool k ∧ Q (.bool (!k)) s') E s) : wpAny (model prog w) A (richCompare .NotEq (.ref x) b) Q E s := by
  have X := X₀.keeps F.keep
  have entry : wpAny (model prog w) A.in1 (Builtin.«object.__ne__» ⟨[.ref x, b], []⟩) (fun r s' => ∃ k, r = .done (.ret (.bool (!k))) ∧ Q (.bool (!k)) s') E s := by
    unfold Builtin.«object.__ne__»
    refine wpAny_bind (m := PySem.slotArgs "__ne__" 1 _) (wpAny_pure ?_)
    refine wpAny_bind (wpAny_cRoomFor hu ?_)
    refine wpAny_bind (m := callSpecialIfBound? (.ref x) (Str.ofString "__eq__") [b]) (PySem.W.ifBound_K X I hs hf (wpAny_mono h (fun r s' hr => ?_) fun _ _ e => e))
    obtain ⟨k, rfl, hq⟩ := hr
    refine wpAny_bind (m := truthy (.bool k)) (wpAny_truthy_bool ?_)
    exact wpAny_pure ⟨k, rfl, hq⟩
  have one : wpAny (model prog w) A (tryCompare (.ref x) "__ne__" b) (fun r s' => ∃ v, r = some v ∧ Q v s') E s := by
    unfold tryCompare
    refine wpAny_bind (ifBound_ne X I h1 (wpAny_call (codeAny_call_builtin PySem.F.cmp_object.ne.plain PySem.F.cmpEntry_ne (check_ne X I hm (wpAny_mono entry (fun r s' z => ?_) fun _ _ e => e)))))
    obtain ⟨k, rfl, hq⟩ := z
    exact wpAny_pure ⟨_, rfl, hq⟩
  unfold richCompare
  simp only [oneThing_ref]
  refine wpAny_holding (wpAny_bind (wpAny_cRoomFor (by omega) ?_))
  refine wpAny_bind (I.type.here (wpAny_bind (hb.here ?_)))
  split
  · rename_i q
    have e : PySem.W.subIn K tb (.ref C) = some false := by
      rcases Bool.or_eq_true_iff.mp hn with e | e
      · rw [beq_iff_eq.mp e] at q; simp at q
      · exact beq_iff_eq.mp e
    refine wpAny_bind ((PySem.W.looks_subIn X e).here ?_)
    simp only [Bool.false_eq_true, if_false]
    refine wpAny_bind (wpAny_mono one (fun r s' z => ?_) fun _ _ e => e)
    obtain ⟨v, rfl, hq⟩ := z
    exact wpAny_pure hq
  · refine wpAny_bind (wpAny_pure ?_)
    simp only [Bool.false_eq_true, if_false]
    refine wpAny_bind (wpAny_mono one (fun r s' z => ?_) fun _ _ e => e)
    obtain ⟨v, rfl, hq⟩ := z
    exact wpAny_pure hq
theorem bool_truth {v : Value} {Q : Value → Shared → Prop} (h : wpAny (model prog w) A.in1.in1 (truthy v) (fun b s' => Q (.bool b) s') E s) : wpAny (model prog w) A (call (.type "bool") [v]) Q E s := by
  refine PySem.callType_codes (T := "bool") (Bi := Builtin.«object.__init__») (Q₁ := fun r s₁ => ∃ b, r = Value.bool b ∧ Q r s₁) PySem.F.called_bool (PySem.F.typeCall_bool_1 _) PySem.F.entry_object_init ?_ ?_
  · refine codeAny_of_tree ?_
    show wpAny _ A.in1.in1 (do checkBuiltinCall "bool.__new__" ⟨[.type "bool", v], []⟩; again (.builtin "bool.__new__" ⟨[.type "bool", v], []⟩)) _ _ s
    refine wpAny_bind (wpAny_of_eq (PySem.F.newCall_bool_1 _) (wpAny_pure ⟨plainId_quiet (by decide +kernel) _, codeAny_builtin PySem.F.entry_bool_new ?_⟩))
    rw [Around.under_plainId (by decide +kernel) _]
    unfold Builtin.«bool.__new__»
    refine wpAny_bind (wpAny_of_eq (a := true) (by first | rfl | kernel_rfl | (unfold isType; rw [isSubtype_type]; kernel_rfl)) ?_)
    refine PySem.W.KFB.if_not rfl ?_
    refine wpAny_bind (wpAny_of_eq (a := true) PySem.F.conv_sub_bool ?_)
    refine PySem.W.KFB.if_not rfl ?_
    refine wpAny_bind (wpAny_of_eq (a := [v]) rfl ?_)
    refine wpAny_bind (wpAny_mono h (fun b s' hq => ?_) fun _ _ e => e)
    exact wpAny_pure ⟨b, rfl, hq⟩
  · rintro obj s₁ ⟨b, rfl, hq⟩
    exact ⟨rfl, PySem.F.args_object_init_2 _ _, object_init_meets PySem.F.called_bool.init.lookup PySem.F.called_bool.made (by decide) prog w A.in1 _ s₁ ⟨rfl, rfl, hq⟩⟩
end
section
variable {X : Cx} {n : Nat} {C : Addr} {sp : Sp}
/-- what stands on the right: an instance of the class, or a value of a type that is no class below -/
def RightOf (K : PySem.W.Frag) (C : Addr) (H : Hp) (y : V) : Prop := ∃ tb, TyX K H y tb ∧ PySem.W.notFirst K C tb = true
/-- x == y by the own == of x -/
def rEqO (K : PySem.W.Frag) (C : Addr) (sp : Sp) : R2 := fun x y H Q => ∃ a dx fs, x = .ref a ∧ H a = some (.ins C dx fs) ∧ RightOf K C H y ∧ sp [x, y] H Q E0
theorem op_eqO (K : PySem.W.Frag) (hK : X.K = K) (m : Md X.prog X.w X.K X.mg X.base n C "__eq__" sp) (hr : Room n X.A) : OpR X (compareOp .Eq) (rEqO K C sp) := by
  subst hK
  intro pins s σ H x y v u Q I rx ry h
  obtain ⟨f, F, hs, hf, _⟩ := m.ex
  obtain ⟨a, dx, fs, rfl, ha, ⟨tb, hy, hn⟩, q⟩ := h
  cases (show v = Value.ref a from rx)
  obtain ⟨mA, J, _⟩ := ins_get I.hok ha
  obtain ⟨od, J, _⟩ := J.look
  obtain ⟨Pk, hk, hp, _⟩ := kit_of I ry hy
  obtain ⟨m, hF⟩ := I.fr
  refine PySem.W.cmp_K (op := .Eq) (tb := tb) hr.units0 hF I.ok.mod.kin J (hk.ty _ _ I.kIn hp) hn hs hf ?_
  refine wpAny_mono (wpAny_call (run_fnR (us := [.ref a, u]) (vs := [.ref a, y]) F hr pass0 I (.cons rfl (.cons ry .nil)) q)) (fun w s' z => ?_) fun _ _ x => x
  obtain ⟨z', H', I', rz, qz⟩ := z
  exact SlX.cmpback rz ⟨z', H', I', rz, qz⟩
/-- x != y by the own == of x -/
def rNeO (K : PySem.W.Frag) (C : Addr) (sp : Sp) : R2 := fun x y H Q => ∃ a dx fs, x = .ref a ∧ H a = some (.ins C dx fs) ∧ RightOf K C H y ∧ sp [x, y] H (fun z H' => ∃ k, z = .bl k ∧ Q (.bl (!k)) H') E0
theorem op_neO (K : PySem.W.Frag) (hK : X.K = K) (m : Md X.prog X.w X.K X.mg X.base n C "__eq__" sp) (h1 : PySem.W.findIn X.K (.ref C) "__ne__" = some (some (.builtin "object.__ne__"))) (hm : PySem.W.mroIn X.K C (.type "object") = some true) (hr : Room (n + 1) X.A) : OpR X (compareOp .NotEq) (rNeO K C sp) := by
  subst hK
  intro pins s σ H x y v u Q I rx ry h
  obtain ⟨f, F, hs, hf, _⟩ := m.ex
  obtain ⟨a, dx, fs, rfl, ha, ⟨tb, hy, hn⟩, q⟩ := h
  cases (show v = Value.ref a from rx)
  obtain ⟨mA, J, _⟩ := ins_get I.hok ha
  obtain ⟨od, J, _⟩ := J.look
  obtain ⟨Pk, hk, hp, _⟩ := kit_of I ry hy
  obtain ⟨m, hF⟩ := I.fr
  refine ne_K (tb := tb) (by have := hr.units; omega) hF I.ok.mod.kin J (hk.ty _ _ I.kIn hp) hn h1 hm hs hf ?_
  refine wpAny_mono (wpAny_call (SlX.run_at (us := [.ref a, u]) (ws := [.ref a, y]) F hr.in1 I.env0.in1 pass0 I (.cons rfl (.cons ry .nil)) q)) (fun w s' z => ?_) fun _ _ x => x
  obtain ⟨z', H', I', rz, k, ek, qz⟩ := z
  subst ek
  cases (show w = Value.bool k from rz)
  exact ⟨k, rfl, .bl (!k), H', I', rfl, qz⟩
/-- the truth of x by its own bool -/
def rTruO (C : Addr) (sp : Sp) : V → Hp → (Bool → Hp → Prop) → Prop := fun x H Q => ∃ a dx fs, x = .ref a ∧ H a = some (.ins C dx fs) ∧ sp [x] H (fun z H' => ∃ k, z = .bl k ∧ Q k H') E0
theorem tru_own (m : Md X.prog X.w X.K X.mg X.base n C "__bool__" sp) (hr : Room n X.A) : TruR X (rTruO C sp) := by
  intro pins s σ H x v Q I rx h
  obtain ⟨f, F, hs, hf, _⟩ := m.ex
  obtain ⟨a, dx, fs, rfl, ha, q⟩ := h
  cases (show v = Value.ref a from rx)
  obtain ⟨mA, J, _⟩ := ins_get I.hok ha
  obtain ⟨od, J, _⟩ := J.look
  obtain ⟨m, hF⟩ := I.fr
  refine PySem.W.truthy_K hF I.ok.mod.kin J hs hf ?_
  refine wpAny_mono (wpAny_call (run_fnR (us := [.ref a]) (vs := [.ref a]) F hr pass0 I (.cons rfl .nil) q)) (fun w s' z => ?_) fun _ _ x => x
  obtain ⟨z', H', I', rz, k, ek, qz⟩ := z
  subst ek
  cases (show w = Value.bool k from rz)
  exact ⟨H', I', qz⟩
/-- bool(x) by its own bool -/
def rBoolO (C : Addr) (sp : Sp) : List V → Hp → VK → Prop := fun xs H Q => ∃ a dx fs, xs = [.ref a] ∧ H a = some (.ins C dx fs) ∧ sp xs H (fun z H' => ∃ k, z = .bl k ∧ Q z H') E0
theorem call_boolO (m : Md X.prog X.w X.K X.mg X.base n C "__bool__" sp) (hr : Room (n + 2) X.A) : CallR X (.type "bool") (rBoolO C sp) := by
  intro pins s σ H xs us Q I r h
  obtain ⟨f, F, hs, hf, _⟩ := m.ex
  obtain ⟨a, dx, fs, rfl, ha, q⟩ := h
  obtain ⟨u, rfl, ru⟩ := r.one
  cases (show u = Value.ref a from ru)
  obtain ⟨mA, J, _⟩ := ins_get I.hok ha
  obtain ⟨od, J, _⟩ := J.look
  obtain ⟨m, hF⟩ := I.fr
  have hr2 : Room n X.A.in1.in1 := (show Room (n + 1) X.A.in1 from Room.in1 hr).in1
  refine bool_truth (PySem.W.truthy_K hF I.ok.mod.kin J hs hf ?_)
  refine wpAny_mono (wpAny_call (SlX.run_at (us := [.ref a]) (ws := [.ref a]) F hr2 I.env0.in1.in1 pass0 I (.cons rfl .nil) q)) (fun w s' z => ?_) fun _ _ x => x
  obtain ⟨z', H', I', rz, k, ek, qz⟩ := z
  subst ek
  cases (show w = Value.bool k from rz)
  exact ⟨.bl k, H', I', rfl, qz⟩
/-- bool(a tuple) -/
theorem call_boolT (K : PySem.W.Frag) (hK : X.K = K) : CallR X (.type "bool") (fun xs H Q => ∃ (a : Addr) (zs : List V), xs = [.ref a] ∧ SqT K H a zs ∧ Q (.bl (!zs.isEmpty)) H) := by
  subst hK
  intro pins s σ H xs us Q I r h
  obtain ⟨a, zs, rfl, hq, q⟩ := h
  obtain rfl := Vals.ref1 r
  obtain ⟨its, rv, pl, hz⟩ := I.tuple hq
  have hl := line63
  have hlen := rv.length
  exact bool_truth (truthy_tuple pl (by simp only [List.size_toArray]; omega) ⟨.bl (!zs.isEmpty), H, I.tok _, by rw [isEmpty_of rv]; rfl, q⟩)
end
end OR

namespace OR
open PySem PySem.Spec PyProof.Rows L2
/-! ### Places: made, compared, its truth -/
structure PMk' (P : Program) (w : World) (K : PySem.W.Frag) (mg : Str → Option Value) (base : Heap) (C : Addr) : Prop where
  T : PTxt K mg C
  made : ∃ f fd t0, Mk K C f ∧ FnOk P w K mg base CX0 4 f fd ["self", "stretches"] (spPlInit K C) ∧ Binds K fd ["self", "stretches"] [] ∧ Binds K fd ["self", "stretches"] [.ref t0] ∧ ∀ H : Hp, SqT K H t0 []
def tMkP (K : PySem.W.Frag) (C : Addr) (t : TA) : TE := fun σ H Q => t σ H fun vs H1 => ∃ (a : Addr) (L : List ARow), vs = [.ref a] ∧ (SqL K H1 a (refs L) ∨ SqT K H1 a (refs L)) ∧ L.length ≤ 1000 ∧ PairsAt H1 L ∧ (∀ r ∈ rws L, okRow r = true) ∧
  ∀ (x : Addr) (l : List Row) (H' : Hp), H1 x = none → IsP C H' x l → (∀ z, mem l z ↔ mem (rws L) z) → l.length ≤ L.length → Same H1 H' → Q (.ref x) H'
def tMkP0 (C : Addr) : TE := fun σ H Q => ∀ (x : Addr) (H' : Hp), H x = none → IsP C H' x [] → Same H H' → Q (.ref x) H'
theorem made_same {C x dx : Addr} {H H' : Hp} (nx : H x = none) (ndx : H dx = none) (hs : ∀ c o, (upd (upd H dx (.own x)) x (.ins C dx [])) c = some o → c ≠ x → H' c = some o) : Same H H' := fun c o e => by
  have ncx : c ≠ x := ne_of_none e nx
  refine hs c o ?_ ncx
  rw [upd_ne ncx, upd_ne (ne_of_none e ndx)]
  exact e
theorem pe_mkP {X : Cx} (K : PySem.W.Frag) (hK : X.K = K) {C : Addr} {j : Nat} {e : Expr} {es : List Expr} {t : TA} {p pos : Pos} (M : PMk' X.prog X.w X.K X.mg X.base C) (hr : Room j X.A) (hj : 5 ≤ j) (hg : Gl X "Places") (ha : PA X (e :: es) t)
    (he : starEach (e :: es) X.env = (false, eval e X.env) :: starEach es X.env := by rfl) (hpl : (backTo pos (starEach es X.env)).any (·.1) = false := by rfl) : PE X (.Call (.Name "Places" p) (e :: es) [] pos) (tMkP K C t) := by
  subst hK
  obtain ⟨f, fd, t0, mk, F, hb, _⟩ := M.made
  refine ⟨fun pins s σ H Q I h => ?_⟩
  refine wpAny_Call_Name_kw (ld_glob I hg M.T.mgC ?_ (by decide))
  refine PySem.W.callWith_K (h₀ := X.base) I.ok.mod.kin mk.kp (thn (ha.run pos pins s σ H _ I h) fun us s1 ⟨vs, H1, I1, r, q⟩ => ⟨I1.kIn, ?_⟩) he hpl
  obtain ⟨a, L, rfl, hS, hlen, hP, hok, q⟩ := q
  refine run_make mk F (hr.mono hj) hb .nil pass0 I1 r fun x dx nx ndx nex => ?_
  have S1 : Same H1 (upd (upd H1 dx (.own x)) x (.ins C dx [])) := fun c o e => by rw [upd_ne (ne_of_none e nx), upd_ne (ne_of_none e ndx)]; exact e
  exact ⟨x, dx, a, L, rfl, upd_same, hS.elim (fun e => .inl (S1.seq e)) (fun e => .inr (sameT S1 e)), hlen, hP.same S1, hok, fun l H' hs hp hme hle => ⟨rfl, q x l H' nx hp hme hle (made_same nx ndx hs)⟩⟩
theorem pe_mkP0 {X : Cx} {C : Addr} {j : Nat} {p pos : Pos} (M : PMk' X.prog X.w X.K X.mg X.base C) (hr : Room j X.A) (hj : 5 ≤ j) (hg : Gl X "Places") : PE X (.Call (.Name "Places" p) [] [] pos) (tMkP0 C) := by
  obtain ⟨f, fd, t0, mk, F, _, hb, ht⟩ := M.made
  refine ⟨fun pins s σ H Q I q => ?_⟩
  refine wpAny_Call_Name_kw (ld_glob I hg M.T.mgC ?_ (by decide))
  refine PySem.W.callWith_K0 I.kIn mk.kp (run_make (us := []) (vs := []) (dvs := [.ref t0]) mk F (hr.mono hj) hb (.cons rfl .nil) pass0 I .nil fun x dx nx ndx nex => ?_)
  refine ⟨x, dx, t0, [], rfl, upd_same, .inr (ht _), Nat.zero_le _, (fun _ z => nomatch z), (fun _ z => nomatch z), fun l H' hs hp hme _ => ⟨rfl, ?_⟩⟩
  have el : l = [] := Nf.unique hp.nf Nf.nil hme
  subst el
  exact q x H' nx hp (made_same nx ndx hs)
def spPlEq (K : PySem.W.Frag) (C : Addr) : Sp := fun vs H Q _ => ∃ x l y, vs = [.ref x, y] ∧ IsP C H x l ∧ ((∃ b m, y = .ref b ∧ IsP C H b m ∧ Q (.bl (decide (l = m))) H) ∨ (∃ T : String, TyX K H y (.type T) ∧ PySem.W.kitOne K (.type T) (.ref C) = some false ∧ Q (.bl false) H))
def spPlBool (C : Addr) : Sp := fun vs H Q _ => ∃ x l, vs = [.ref x] ∧ IsP C H x l ∧ Q (.bl (!l.isEmpty)) H
section
variable {P : Program} {w : World} {K : PySem.W.Frag} {mg : Str → Option Value} {base : Heap}
theorem tyP {C : Addr} (T : PTxt K mg C) {H : Hp} {x dx : Addr} {fs : List (Str × V)} (hx : H x = some (.ins C dx fs)) : TyX K H (.ref x) (.ref C) := .base (.ins hx T.cl T.isi.ca T.isi.cn T.isi.ct T.isi.cm)
theorem scEq : FnScope ["self", "other"] ["self", "other"] (defScope sPlEq) := ⟨rfl, rfl, rfl, by decide +kernel, rfl, by decide +kernel, by decide +kernel⟩
theorem ok_pleq {f C : Addr} {fd : FuncData} (F : Fun K "__eq__" "Places.__eq__" sPlEq f fd) (T : PTxt K mg C) : FnOk P w K mg base CX0 1 f fd ["self", "other"] (spPlEq K C) := by
  refine F.ok scEq (fun vs H Q E h => ?_) (fun cdv A outer s H vs Q E hr h => ?_)
  · obtain ⟨x, l, y, rfl, _⟩ := h
    rfl
  · obtain ⟨x, l, y, rfl, ⟨_, dx, t, fi, b, M, hx, ht, hM, rfl, _⟩, h⟩ := h
    have hu64 : (A.deeper (envOfC "Places.__eq__" (defScope sPlEq) s.heap.objs.size f cdv)).units + 64 < cLine := hr.units
    refine ⟨_, pss_one (ps_ret (pe_and (pe_callB call_isi (by rfl) T.zIsi bt_isi (pa_cons (pv 1) (pa_cons (pe_glob (v := .ref C) (by rfl) T.mgC rfl) pa_nil)))
      (pe_one (pe_cmpR (op_eqD hu64) (pe_fld (pv 0) rfl) (pe_fld (pv 1) rfl) (nomark _))))), ?_⟩
    rcases h with ⟨y, m, rfl, ⟨_, dy, t2, f2, b2, M2, hy, ht2, hM2, rfl, _⟩, q⟩ | ⟨ty, hT, hk, q⟩
    · refine ⟨_, rfl, .ref y, .ref C, _, _, true, rfl, .own C, tyP T hy, T.kPP, true, rfl, iteT ?_⟩
      refine ⟨_, rfl, x, C, dx, _, _, rfl, hx, T.cl, T.nS, pFl_s _ _ _, _, rfl, y, C, dy, _, _, rfl, hy, T.cl, T.nS, pFl_s _ _ _, .tuple ((rws M).map rowD), .tuple ((rws M2).map rowD), .tup (.inl (.inl ht)) (dp_rows hM), .tup (.inl (.inl ht2)) (dp_rows hM2), shp_tup _, shp_tup _, ?_⟩
      have e : PyData.eqv (.tuple ((rws M).map rowD)) (.tuple ((rws M2).map rowD)) = decide (rws M = rws M2) := eqv_rows _ _
      rw [e]
      exact q
    · exact ⟨_, rfl, y, .ref C, _, _, false, rfl, .own C, hT, hk, false, rfl, iteF q⟩
theorem scBo : FnScope ["self"] ["self"] (defScope sPlBool) := ⟨rfl, rfl, rfl, by decide +kernel, rfl, by decide +kernel, by decide +kernel⟩
theorem ok_plbool {f C : Addr} {fd : FuncData} (F : Fun K "__bool__" "Places.__bool__" sPlBool f fd) (T : PTxt K mg C) : FnOk P w K mg base CX0 1 f fd ["self"] (spPlBool C) := by
  refine F.ok scBo (fun vs H Q E h => ?_) (fun cdv A outer s H vs Q E hr h => ?_)
  · obtain ⟨x, l, rfl, _⟩ := h
    rfl
  · obtain ⟨x, l, rfl, ⟨_, dx, t, fi, b, M, hx, ht, hM, rfl, _⟩, q⟩ := h
    refine ⟨_, pss_one (ps_ret (pe_callTy (call_boolT K rfl) (by rfl) T.zBool bt_bool (pa_cons (pe_fld (pv 0) rfl) pa_nil))), ?_⟩
    refine ⟨_, rfl, x, C, dx, _, _, rfl, hx, T.cl, T.nS, pFl_s _ _ _, t, refs M, rfl, .inl (.inl ht), ?_⟩
    have e : (refs M).isEmpty = (rws M).isEmpty := by cases M <;> rfl
    rw [e]
    exact q
end
end OR

namespace OR
open PySem PySem.Spec PyProof.Rows L2
open TL (tl numL)
theorem boot_strT : bootBuiltins ("str" : Str) = some (.type "str") := by decide +kernel
theorem sz1 {n : Nat} (h : n ≤ 20000) : n ≤ sizeLine := Nat.le_trans h (by decide)
/-! ### words, signs -/
def letters : Str := "abcdefghijklmnopqrstuvwxyz"
structure Word (s : Str) : Prop where
  pos : 1 ≤ s.length
  len : s.length ≤ 8
  az : ∀ c ∈ tl s, 97 ≤ c ∧ c ≤ 122
theorem az_in {c : Nat} (h0 : 97 ≤ c) (h1 : c ≤ 122) : c ∈ tl letters := by
  have e : tl letters = (List.range 26).map (· + 97) := by decide +kernel
  rw [e]
  exact List.mem_map.mpr ⟨c - 97, List.mem_range.mpr (by omega), by omega⟩
structure WTxt (K : PySem.W.Frag) (mg : Str → Option Value) (ts tw : Addr) : Prop where
  zIsi : mg "isinstance" = none
  zStr : mg "str" = none
  zLen : mg "len" = none
  zAll : mg "all" = none
  let_ : ∃ t, mg "_LETTERS" = some (.str letters t)
  most : ∃ t, mg "_MOST_LETTERS" = some (.int 8 t)
  gS : mg "SIGNS" = some (.ref ts)
  gW : mg "WAYS" = some (.ref tw)
  hS : ∀ H : Hp, SqT K H ts [.str ("<=" : Str), .str (">=" : Str), .str ("=" : Str)]
  hW : ∀ H : Hp, SqT K H tw [.str ("up" : Str), .str ("down" : Str)]
def spIsWord : Sp := fun vs H Q _ => ∃ s : Str, vs = [.str s] ∧ Word s ∧ ∀ H', Same H H' → Q (.bl true) H'
def spChkW : Sp := fun vs H Q _ => ∃ s : Str, vs = [.str s] ∧ Word s ∧ ∀ H', Same H H' → Q .non H'
def spChkTwo : Sp := fun vs H Q _ => ∃ s t : Str, vs = [.str s, .str t] ∧ Word s ∧ Word t ∧ s ≠ t ∧ ∀ H', Same H H' → Q .non H'
def isSign (s : Str) : Prop := s = "<=" ∨ s = ">=" ∨ s = "="
def isWay (s : Str) : Prop := s = "up" ∨ s = "down"
def spChkS (K : PySem.W.Frag) : Sp := fun vs H Q _ => ∃ (s : Str) (a : Addr) (xs : List Str), vs = [.str s, .ref a] ∧ SqT K H a (xs.map V.str) ∧ s ∈ xs ∧ Q .non H
theorem bt_all : bootBuiltins ("all" : Str) = some (.builtin "all") := by decide +kernel
theorem lc_str {x : Str} {g : TG} {tt : TT} {te : TE} {vs : List Nat} {σ : L2.St} {H1 : Hp} {D : Addr} {Qd : Hp → Prop} (Pv : Nat → Hp → Prop) (h0 : Pv 0 (upd H1 D (.lst [])))
    (hs : ∀ i c H, (tl x)[i]? = some c → Pv i H → g (.str ⟨#[c]⟩) (wipe σ vs) H fun σ2 H2 => wipe σ2 vs = wipe σ vs ∧ tt σ2 H2 fun b H3 =>
      if b = true then te σ2 H3 fun y H4 => ∃ acc, H4 D = some (.lst acc) ∧ acc.length < sizeLine ∧ Pv (i + 1) (upd H4 D (.lst (acc ++ [y]))) else Pv (i + 1) H3) (hd : ∀ H, Pv x.length H → Qd H) :
    ∃ W : Nat → Nat → Hp → Prop, (∃ m, W 0 m (upd H1 D (.lst []))) ∧ ∀ i m H, W i m H →
      ((Its x).stop i H ∧ Qd H) ∨ ((Its x).go i H ∧ ∃ Nx : Hp → Prop, (∀ H', Nx H' → ∃ m', m' < m ∧ W (i + 1) m' H') ∧ ∀ y H', (Its x).yld i H y H' → g y (wipe σ vs) H' fun σ2 H2 => wipe σ2 vs = wipe σ vs ∧ tt σ2 H2 fun b H3 =>
        if b = true then te σ2 H3 fun y H4 => ∃ acc, H4 D = some (.lst acc) ∧ acc.length < sizeLine ∧ Nx (upd H4 D (.lst (acc ++ [y]))) else Nx H3) := by
  have hl : x.length = x.cps.size := rfl
  refine ⟨fun i m H => m = x.length - i ∧ i ≤ x.length ∧ Pv i H, ⟨x.length, by simp, Nat.zero_le _, h0⟩, ?_⟩
  rintro i m H ⟨rfl, hi, p⟩
  by_cases hlt : i < x.length
  · refine .inr ⟨hlt, Pv (i + 1), fun H' p' => ⟨x.length - (i + 1), by omega, rfl, hlt, p'⟩, fun y H' hy => ?_⟩
    obtain ⟨e, c, hc, e2⟩ := hy
    subst e e2
    refine hs i c _ ?_ p
    show x.cps.toList[i]? = some c
    rw [Array.getElem?_toList]
    exact hc
  · have e : i = x.length := by omega
    subst e
    exact .inl ⟨Nat.le_refl _, hd H p⟩
section
variable {P : Program} {w : World} {K : PySem.W.Frag} {mg : Str → Option Value} {base : Heap} {ts tw : Addr}
theorem scIW : FnScope ["value", "letter"] ["value"] (defScope sIsWord) := ⟨rfl, rfl, rfl, by decide +kernel, rfl, by decide +kernel, by decide +kernel⟩
theorem ok_isword {f : Addr} {fd : FuncData} (F : Fun K "is_word" "is_word" sIsWord f fd) (T : WTxt K mg ts tw) : FnOk P w K mg base CX0 1 f fd ["value"] spIsWord := by
  obtain ⟨t1, hl⟩ := T.let_
  obtain ⟨t2, hm⟩ := T.most
  refine F.ok scIW (fun vs H Q E h => ?_) (fun cdv A outer s H vs Q E hr h => ?_)
  · obtain ⟨s, rfl, _⟩ := h
    rfl
  · obtain ⟨x, rfl, hw, q⟩ := h
    have nd := scIW.nd
    refine ⟨_, pss_cons (ps_if (PW.pt (pw_or (pt_not (pt_val (pe_callB call_isi (by rfl) T.zIsi bt_isi (pa_cons (pv 0) (pa_cons (pe_bltn (v := .ty "str") (by rfl) T.zStr boot_strT rfl) pa_nil)))))
          (pw_or1 (pt_not (pt_chain op_le op_le pe_int (pe_callB call_len_str (by rfl) T.zLen PySem.boot_len (pa_cons (pv 0) pa_nil)) (pe_glob (v := .int 8) (by rfl) hm ⟨_, rfl⟩)))))) (pss_one (ps_ret pe_bl)) pss_nil)
      (pss_one (ps_ret (pe_callB (cr_all rfl) (by rfl) T.zAll bt_all (pa_cons
        (pe_lc (own := [("letter", 1)]) (g := gName 1) (tt := tYes) rfl nd (pi_str (pv 0)) (blkOk_by (N := ["value", "letter"]) (sc := defScope sIsWord) (by decide +kernel))
          (fun _ _ _ _ _ => pg_name (i := 1) nd rfl (.inl rfl)) (fun _ _ _ _ _ => pts_nil) (fun _ _ _ _ _ => pe_cmpR op_in_sign (pv 1) (pe_glob (v := .str letters) (by rfl) hl ⟨_, rfl⟩) (by rfl))) pa_nil)))), ?_⟩
    have hp := hw.pos
    have hq := hw.len
    refine ⟨_, rfl, _, .ty "str", _, _, true, rfl, .ty "str", .base (.str _), kit_ty (by decide +kernel), _, rfl, iteF ?_⟩
    refine ⟨_, rfl, x, rfl, sz1 (by omega), _, _, rfl, rfl, _, rfl, ite2 (fun _ => ?_) (fun z => absurd (decide_eq_true (show (1 : Int) ≤ (x.length : Nat) by omega)) z)⟩
    refine ⟨_, _, rfl, rfl, _, rfl, ite2 (fun z => ?_) (fun _ => ?_)⟩
    · exfalso
      have h8 : decide (((x.length : Nat) : Int) ≤ 8) = true := decide_eq_true (by omega)
      rw [h8] at z
      exact absurd z (by decide)
    · refine ⟨_, rfl, x, rfl, fun D hD => lc_str (x := x) (fun i G => G D = some (.lst ((List.replicate i true).map V.bl)) ∧ Same H G) ⟨upd_same, same_lay hD⟩ ?_ ?_⟩
      · rintro i c G hc ⟨hd, s⟩
        have hz := hw.az c (List.mem_of_getElem? hc)
        have hi : i < x.length := by
          have := (List.getElem?_eq_some_iff.mp hc).1
          rw [TL.len_tl]
          exact this
        refine ⟨rfl, yesT ?_⟩
        refine ⟨_, rfl, c, letters, rfl, rfl, _, hd, small1000 (by rw [List.length_map, List.length_replicate]; omega), ?_, same_upd s hD⟩
        rw [upd_same, List.replicate_succ', List.map_append, show decide (c ∈ letters.cps.toList) = true from decide_eq_true (az_in hz.1 hz.2)]
        rfl
      · rintro G ⟨hd, s⟩
        refine ⟨D, _, rfl, .inl (.inl hd), ?_⟩
        have e : (List.replicate x.length true).all id = true := by
          rw [List.all_eq_true]
          intro b hb
          exact (List.mem_replicate.mp hb).2
        rw [e]
        exact q G s
theorem scKW : FnScope ["value"] ["value"] (defScope sChkW) := ⟨rfl, rfl, rfl, by decide +kernel, rfl, by decide +kernel, by decide +kernel⟩
theorem ok_chkw {f : Addr} {fd : FuncData} (F : Fun K "check_word" "check_word" sChkW f fd) (IW : Cl P w K mg base 1 "is_word" ["value"] spIsWord) : FnOk P w K mg base CX0 2 f fd ["value"] spChkW := by
  refine F.ok scKW (fun vs H Q E h => ?_) (fun cdv A outer s H vs Q E hr h => ?_)
  · obtain ⟨s, rfl, _⟩ := h
    rfl
  · obtain ⟨x, rfl, hw, q⟩ := h
    refine ⟨_, pss_one (ps_if (pt_not (pt_val (pe_cl IW hr (by decide) (by rfl) (pa_cons (pv 0) pa_nil)))) (pss_one ps_never) pss_nil), ?_⟩
    exact ⟨_, rfl, x, rfl, hw, fun H' s => ⟨_, rfl, iteF (q H' s)⟩⟩
theorem scKT : FnScope ["function", "other"] ["function", "other"] (defScope sChkTwo) := ⟨rfl, rfl, rfl, by decide +kernel, rfl, by decide +kernel, by decide +kernel⟩
theorem ok_chktwo {f : Addr} {fd : FuncData} (F : Fun K "check_two_words" "check_two_words" sChkTwo f fd) (CW : Cl P w K mg base 2 "check_word" ["value"] spChkW) : FnOk P w K mg base CX0 3 f fd ["function", "other"] spChkTwo := by
  refine F.ok scKT (fun vs H Q E h => ?_) (fun cdv A outer s H vs Q E hr h => ?_)
  · obtain ⟨s, t, rfl, _⟩ := h
    rfl
  · obtain ⟨x, y, rfl, hx, hy, ne, q⟩ := h
    refine ⟨_, pss_cons (ps_expr (pe_cl CW hr (by decide) (by rfl) (pa_cons (pv 0) pa_nil))) (pss_cons (ps_expr (pe_cl CW hr (by decide) (by rfl) (pa_cons (pv 1) pa_nil))) (pss_one (ps_if (pt_cmpR op_eq (pv 0) (pv 1) (nomark _)) (pss_one ps_never) pss_nil))), ?_⟩
    refine ⟨_, rfl, x, rfl, hx, fun H1 s1 => ⟨_, rfl, y, rfl, hy, fun H2 s2 => ⟨_, rfl, _, rfl, rfl, _, rfl, ite2 (fun z => absurd (V.str.inj (of_decide_eq_true z)) ne) (fun _ => q H2 (s1.trans s2))⟩⟩⟩
theorem scKS : FnScope ["value", "allowed"] ["value", "allowed"] (defScope sChkSign) := ⟨rfl, rfl, rfl, by decide +kernel, rfl, by decide +kernel, by decide +kernel⟩
theorem op_notIn_seqK {X : Cx} (K : PySem.W.Frag) (hK : X.K = K) : OpR X (compareOp .NotIn) (rIn K true) := by
  subst hK
  exact op_notIn_seq
theorem in_strs {s : Str} {xs : List Str} (h : s ∈ xs) : inV (.str s) (xs.map V.str) = true := by
  unfold inV
  rw [List.any_eq_true]
  exact ⟨.str s, List.mem_map.mpr ⟨s, h, rfl⟩, by simp [eqV]⟩
theorem notin_strs {s : Str} {xs : List Str} (h : s ∉ xs) : inV (.str s) (xs.map V.str) = false := by
  unfold inV
  rw [List.any_eq_false]
  intro v hv
  obtain ⟨t, ht, rfl⟩ := List.mem_map.mp hv
  have : t ≠ s := fun e => h (e ▸ ht)
  simp [eqV, this]
theorem flat_strs (xs : List Str) : (xs.map V.str).all flatV = true := by
  rw [List.all_eq_true]
  intro v hv
  obtain ⟨t, ht, rfl⟩ := List.mem_map.mp hv
  rfl
theorem ok_chks {f : Addr} {fd : FuncData} (F : Fun K "check_sign" "check_sign" sChkSign f fd) : FnOk P w K mg base CX0 1 f fd ["value", "allowed"] (spChkS K) := by
  refine F.ok scKS (fun vs H Q E h => ?_) (fun cdv A outer s H vs Q E hr h => ?_)
  · obtain ⟨s, a, xs, rfl, _⟩ := h
    rfl
  · obtain ⟨x, a, xs, rfl, hS, hx, q⟩ := h
    refine ⟨_, pss_one (ps_if (pt_cmpR (op_notIn_seqK K rfl) (pv 0) (pv 1) (by rfl)) (pss_one ps_never) pss_nil), ?_⟩
    refine ⟨_, rfl, _, rfl, a, _, rfl, .inr hS, rfl, flat_strs xs, _, rfl, ?_⟩
    rw [in_strs hx]
    exact iteF q
end
end OR

namespace OR
open PySem PySem.Spec PyProof.Rows L2
open TL (tl numL)
theorem nf_self {K : PySem.W.Frag} {C : Addr} : PySem.W.notFirst K C (.ref C) = true := by simp [PySem.W.notFirst]
theorem ne_q {K : PySem.W.Frag} {mg : Str → Option Value} {C : Addr} (T : PTxt K mg C) {H : Hp} {x y : Addr} {l m : List Row} {Q : VK} (hx : IsP C H x l) (hy : IsP C H y m) (k : Q (.bl (!decide (l = m))) H) : rNeO K C (spPlEq K C) (.ref x) (.ref y) H Q := by
  obtain ⟨_, dx, _, _, _, _, e1, _⟩ := id hx
  obtain ⟨_, dy, _, _, _, _, e2, _⟩ := id hy
  exact ⟨x, dx, _, rfl, e1, ⟨.ref C, tyP T e2, nf_self⟩, x, l, .ref y, rfl, hx, .inl ⟨y, m, rfl, hy, _, rfl, k⟩⟩
theorem eq_q {K : PySem.W.Frag} {mg : Str → Option Value} {C : Addr} (T : PTxt K mg C) {H : Hp} {x y : Addr} {l m : List Row} {Q : VK} (hx : IsP C H x l) (hy : IsP C H y m) (k : Q (.bl (decide (l = m))) H) : rEqO K C (spPlEq K C) (.ref x) (.ref y) H Q := by
  obtain ⟨_, dx, _, _, _, _, e1, _⟩ := id hx
  obtain ⟨_, dy, _, _, _, _, e2, _⟩ := id hy
  exact ⟨x, dx, _, rfl, e1, ⟨.ref C, tyP T e2, nf_self⟩, x, l, .ref y, rfl, hx, .inl ⟨y, m, rfl, hy, k⟩⟩
structure Mt (P : Program) (w : World) (K : PySem.W.Frag) (mg : Str → Option Value) (base : Heap) (k : Nat) (C : Addr) (m : Str) (ps : List Str) (sp : Sp) : Prop where
  ex : ∃ (f : Addr) (fd : FuncData), Meth K C m f ∧ FnOk P w K mg base CX0 k f fd ps sp ∧ Binds K fd ps []
theorem pe_mt {X : Cx} {k j : Nat} {C : Addr} {m : Str} {ps : List Str} {sp : Sp} {o e : Expr} {es : List Expr} {ta : TE} {t : TA} {apos pos : Pos} {pl : Sem Bool} (M : Mt X.prog X.w X.K X.mg X.base k C m ps sp) (c : Cls X.K C) (hr : Room j X.A) (hk : k ≤ j) (he : PE X o ta) (ha : PA X (e :: es) t)
    (hst : starEach (e :: es) X.env = (false, eval e X.env) :: starEach es X.env := by rfl) (hpl : (backTo pos (starEach es X.env)).any (·.1) = false := by rfl)
    (ht : eval (.Call (.Attribute o m apos) (e :: es) [] pos) X.env = (do
      let ov ← eval o X.env
      standAt apos.atName
      let (f, first) ← holding [ov] (getMethod ov m pl)
      callWith pos f first (backTo pos (starEach (e :: es) X.env)) (backToKw pos (keywordEach [] X.env))) := by rfl) : PE X (.Call (.Attribute o m apos) (e :: es) [] pos) (tMeth C m sp [] E0 ta t) := by
  obtain ⟨f, fd, hm, F, hb⟩ := M.ex
  exact pe_meth he c hm F (hr.mono hk) hb .nil pass0 ha hst hpl ht
theorem mt_of {P : Program} {w : World} {K : PySem.W.Frag} {mg : Str → Option Value} {base : Heap} {C : Addr} {m m' qual : Str} {st : Stmt} {k : Nat} {ps : List Str} {sp : Sp} (a : MtAt K C m m' qual st)
    (hb : ∀ (kV doc pm : Value) (an : Option Addr) (cdv ct : Value) (us : List Value), us.length = ps.length → bindArgs (PySem.W.fnOf m qual (defArgs st) (defBody st) (defScope st) .none kV doc pm an cdv ct) ⟨us, []⟩ = pure (ps.zip us))
    (ok : ∀ f fd, Fun K m qual st f fd → FnOk P w K mg base CX0 k f fd ps sp) : Mt P w K mg base k C m' ps sp := by
  obtain ⟨f, fd, F, e, i, n⟩ := a.ex
  exact ⟨f, fd, ⟨e, i, F.kp⟩, ok f fd F, F.binds hb⟩
theorem pe_mt0 {X : Cx} {k j : Nat} {C : Addr} {m : Str} {ps : List Str} {sp : Sp} {o : Expr} {ta : TE} {apos pos : Pos} {pl : Sem Bool} (M : Mt X.prog X.w X.K X.mg X.base k C m ps sp) (c : Cls X.K C) (hr : Room j X.A) (hk : k ≤ j) (he : PE X o ta)
    (ht : eval (.Call (.Attribute o m apos) [] [] pos) X.env = (do
      let ov ← eval o X.env
      standAt apos.atName
      let (f, first) ← holding [ov] (getMethod ov m pl)
      callWith pos f first (backTo pos (starEach [] X.env)) (backToKw pos (keywordEach [] X.env))) := by rfl) : PE X (.Call (.Attribute o m apos) [] [] pos) (tMeth C m sp [] E0 ta tNil) := by
  obtain ⟨f, fd, hm, F, hb⟩ := M.ex
  exact pe_meth0 he c hm F (hr.mono hk) hb .nil pass0 ht
theorem pe_fldK {X : Cx} {e : Expr} {f : Str} {pos : Pos} {ta : TE} (K : PySem.W.Frag) (hK : X.K = K) (he : PE X e ta) (hb : attributeBase e f X.env (eval e X.env) = eval e X.env) : PE X (.Attribute e f pos) (tFld K ta f) := by
  subst hK
  exact pe_fld he hb
/-! ### clauses as they stand -/
def kName : Nat → Str
  | 0 => "answers"
  | 1 => "refuses"
  | 2 => "needs"
  | 3 => "spreads"
  | 4 => "bound"
  | 5 => "pair"
  | _ => "step"
def clsName : Nat → Str
  | 0 => "Answers"
  | 1 => "Refuses"
  | 2 => "Needs"
  | 3 => "Spreads"
  | 4 => "Bound"
  | 5 => "Pair"
  | _ => "Step"
def xNames : Nat → List Str
  | 0 => []
  | 1 => []
  | 2 => ["other"]
  | 3 => ["way"]
  | 4 => ["sign", "slope", "height"]
  | 5 => ["sign", "other", "slope", "height"]
  | _ => ["sign", "height"]
def allNames (i : Nat) : List Str := "kind" :: "function" :: "places" :: xNames i
def cVals (i : Nat) (f : Str) (pl : Addr) (x : List V) : List V := .str (kName i) :: .str f :: .ref pl :: x
def putAll : List (Str × V) → List (Str × V) → List (Str × V)
  | [], acc => acc
  | (n, v) :: r, acc => putAll r (putF n v acc)
def cFl (i : Nat) (f : Str) (pl : Addr) (x : List V) : List (Str × V) := putAll ((allNames i).zip (cVals i f pl x)) []
theorem nodup_all : ∀ i, (allNames i).Nodup
  | 0 => by decide +kernel
  | 1 => by decide +kernel
  | 2 => by decide +kernel
  | 3 => by decide +kernel
  | 4 => by decide +kernel
  | 5 => by decide +kernel
  | _ + 6 => by
    show ("kind" :: "function" :: "places" :: ["sign", "height"] : List Str).Nodup
    decide +kernel
theorem lookup_none {m : Str} : ∀ {l : List (Str × V)}, (∀ p ∈ l, p.1 ≠ m) → l.lookup m = none
  | [], _ => rfl
  | (n, v) :: r, h => by
    have h1 : (m == n) = false := beq_eq_false_iff_ne.mpr fun e => h (n, v) List.mem_cons_self e.symm
    rw [List.lookup_cons, h1]
    exact lookup_none fun p hp => h p (List.mem_cons_of_mem _ hp)
theorem putAll_lookup {m : Str} : ∀ (l acc : List (Str × V)), (l.map (·.1)).Nodup → (putAll l acc).lookup m = ((l.lookup m).or (acc.lookup m))
  | [], acc, _ => by simp [putAll]
  | (n, v) :: r, acc, h => by
    rw [List.map_cons, List.nodup_cons] at h
    show (putAll r (putF n v acc)).lookup m = _
    rw [putAll_lookup r _ h.2, lookup_putF, List.lookup_cons]
    by_cases e : m = n
    · subst e
      rw [if_pos rfl, lookup_none (l := r) (fun p hp ep => h.1 (List.mem_map.mpr ⟨p, hp, ep⟩))]
      simp
    · rw [if_neg e, beq_eq_false_iff_ne.mpr e]
theorem zip_lookup {n : Str} {v : V} : ∀ {ns : List Str} {vs : List V} {j : Nat}, ns.Nodup → ns[j]? = some n → vs[j]? = some v → (ns.zip vs).lookup n = some v
  | [], _, _, _, h, _ => by simp at h
  | _ :: _, [], _, _, _, h => by simp at h
  | a :: ns, b :: vs, 0, _, h1, h2 => by
    have e1 : a = n := Option.some.inj h1
    have e2 : b = v := Option.some.inj h2
    subst e1 e2
    rw [List.zip_cons_cons, List.lookup_cons, beq_self_eq_true]
  | a :: ns, b :: vs, j + 1, hd, h1, h2 => by
    have hd' := List.nodup_cons.mp hd
    have hm : n ∈ ns := List.mem_of_getElem? (show ns[j]? = some n from h1)
    have ne : n ≠ a := fun e => hd'.1 (e ▸ hm)
    rw [List.zip_cons_cons, List.lookup_cons, beq_eq_false_iff_ne.mpr ne]
    exact zip_lookup hd'.2 (show ns[j]? = some n from h1) (show vs[j]? = some v from h2)
theorem zip_fst_sub {ns : List Str} {vs : List V} : ∀ {p : Str × V}, p ∈ ns.zip vs → p.1 ∈ ns := fun h => (List.of_mem_zip h).1
theorem zip_nodup : ∀ {ns : List Str} {vs : List V}, ns.Nodup → ((ns.zip vs).map (·.1)).Nodup
  | [], _, _ => by simp
  | _ :: _, [], _ => by simp
  | a :: ns, b :: vs, h => by
    have h' := List.nodup_cons.mp h
    rw [List.zip_cons_cons, List.map_cons, List.nodup_cons]
    refine ⟨fun hm => ?_, zip_nodup h'.2⟩
    obtain ⟨p, hp, e⟩ := List.mem_map.mp hm
    have e2 : p.1 = a := e
    exact h'.1 (by rw [← e2]; exact zip_fst_sub hp)
theorem cFl_at {i j : Nat} {f n : Str} {pl : Addr} {x : List V} {v : V} (hn : (allNames i)[j]? = some n) (hv : (cVals i f pl x)[j]? = some v) : (cFl i f pl x).lookup n = some v := by
  unfold cFl
  rw [putAll_lookup _ _ (zip_nodup (nodup_all i)), zip_lookup (nodup_all i) hn hv]
  rfl
theorem cFl_no {i : Nat} {f n : Str} {pl : Addr} {x : List V} (hn : n ∉ allNames i) : (cFl i f pl x).lookup n = none := by
  unfold cFl
  rw [putAll_lookup _ _ (zip_nodup (nodup_all i)), lookup_none (l := (allNames i).zip (cVals i f pl x)) (m := n) (fun p hp e => hn (by rw [← e]; exact zip_fst_sub hp))]
  rfl
def Num (a : Int) : Prop := a.natAbs < 10 ^ 90
def WF : Nat → Str → List V → Prop
  | 0, _, x => x = []
  | 1, _, x => x = []
  | 2, f, x => ∃ g, x = [.str g] ∧ Word g ∧ g ≠ f
  | 3, _, x => ∃ w, x = [.str w] ∧ isWay w
  | 4, _, x => ∃ s a b, x = [.str s, .int a, .int b] ∧ isSign s ∧ Num a ∧ Num b
  | 5, f, x => ∃ s g a b, x = [.str s, .str g, .int a, .int b] ∧ isSign s ∧ Word g ∧ g ≠ f ∧ Num a ∧ Num b
  | _, _, x => ∃ s b, x = [.str s, .int b] ∧ isSign s ∧ Num b
structure IsC (CP : Addr) (C : Nat → Addr) (H : Hp) (z : Addr) (i : Nat) (f : Str) (l : List Row) (x : List V) : Prop where
  ex : ∃ dx pl, H z = some (.ins (C i) dx (cFl i f pl x)) ∧ IsP CP H pl l
  lt : i < 7
  w : Word f
  wf : WF i f x
  ok : ∀ r ∈ l, okRow r = true
  len : l.length ≤ 20
theorem IsC.same {CP : Addr} {C : Nat → Addr} {H H' : Hp} {z : Addr} {i : Nat} {f : Str} {l : List Row} {x : List V} (h : IsC CP C H z i f l x) (s : Same H H') : IsC CP C H' z i f l x := by
  obtain ⟨⟨dx, pl, e, hp⟩, a, b, c, d, g⟩ := h
  exact ⟨⟨dx, pl, s _ _ e, hp.same s⟩, a, b, c, d, g⟩
def ceq (i : Nat) (f : Str) (l : List Row) (x : List V) (j : Nat) (g : Str) (m : List Row) (u : List V) : Bool := decide (i = j ∧ f = g ∧ l = m ∧ x = u)
structure CTxt (K : PySem.W.Frag) (mg : Str → Option Value) (C : Nat → Addr) : Prop where
  cl : ∀ i, i < 7 → Cls K (C i)
  no : ∀ i, i < 7 → ∀ n ∈ allNames i, NoAttr K (C i) n
  isi : ∀ i, i < 7 → SlX.SIsi K (C i)
  kk : ∀ i, i < 7 → ∀ j, j < 7 → PySem.W.kitOne K (.ref (C i)) (.ref (C j)) = some (decide (i = j))
  mgC : ∀ i, i < 7 → mg (clsName i) = some (.ref (C i))
  sf : ∀ i, i < 7 → PySem.W.selfFirst K (C i) = true
  ne : ∀ i, i < 7 → PySem.W.findIn K (.ref (C i)) "__ne__" = some (some (.builtin "object.__ne__"))
  kS : ∀ i, i < 7 → PySem.W.kitOne K (.type "str") (.ref (C i)) = some false
  kT : ∀ i, i < 7 → PySem.W.kitOne K (.type "tuple") (.ref (C i)) = some false
section
variable {P : Program} {w : World} {K : PySem.W.Frag} {mg : Str → Option Value} {base : Heap} {C : Nat → Addr} {CP : Addr}
theorem tyC (T : CTxt K mg C) {H : Hp} {z dx : Addr} {i : Nat} {fs : List (Str × V)} (hi : i < 7) (hz : H z = some (.ins (C i) dx fs)) : TyX K H (.ref z) (.ref (C i)) := .base (.ins hz (T.cl i hi) (T.isi i hi).ca (T.isi i hi).cn (T.isi i hi).ct (T.isi i hi).cm)
/-- a field is read -/
theorem fld (T : CTxt K mg C) {H : Hp} {z dx pl : Addr} {i j : Nat} {f n : Str} {x : List V} {v : V} {Q : V → Prop} (hz : H z = some (.ins (C i) dx (cFl i f pl x))) (hi : i < 7) (hn : (allNames i)[j]? = some n) (hv : (cVals i f pl x)[j]? = some v) (q : Q v) :
    ∃ a C' dx fs v', V.ref z = .ref a ∧ H a = some (.ins C' dx fs) ∧ Cls K C' ∧ NoAttr K C' n ∧ fs.lookup n = some v' ∧ Q v' :=
  ⟨z, C i, dx, _, v, rfl, hz, T.cl i hi, T.no i hi n (List.mem_of_getElem? hn), cFl_at hn hv, q⟩
def spCInit (C : Nat → Addr) (i : Nat) : Sp := fun vs H Q _ => ∃ (p dx : Addr) (f : Str) (pl : Addr) (x : List V), vs = .ref p :: .str f :: .ref pl :: x ∧ Word f ∧ WF i f x ∧ H p = some (.ins (C i) dx []) ∧
  ∀ H', H' p = some (.ins (C i) dx (cFl i f pl x)) → (∀ c o, H c = some o → c ≠ p → H' c = some o) → Q .non H'
def spCEq (K : PySem.W.Frag) (CP : Addr) (C : Nat → Addr) (i : Nat) : Sp := fun vs H Q _ => ∃ (a : Addr) (y : V) (f : Str) (l : List Row) (x : List V), vs = [.ref a, y] ∧ IsC CP C H a i f l x ∧
  ((∃ b j g m u, y = .ref b ∧ IsC CP C H b j g m u ∧ Q (.bl (ceq i f l x j g m u)) H) ∨ (∃ T : String, TyX K H y (.type T) ∧ PySem.W.kitOne K (.type T) (.ref (C i)) = some false ∧ Q (.bl false) H))
def told : Nat → Str → List V → List V
  | 2, f, [g] => [.str f, g]
  | 5, f, [_, g, _, _] => [.str f, g]
  | _, f, _ => [.str f]
def spCTold (CP : Addr) (C : Nat → Addr) (i : Nat) : Sp := fun vs H Q _ => ∃ (z : Addr) (f : Str) (l : List Row) (x : List V), vs = [.ref z] ∧ IsC CP C H z i f l x ∧ ∀ t, H t = none → Q (.ref t) (upd H t (.tup (told i f x)))
end
end OR

namespace OR
open PySem PySem.Spec PyProof.Rows L2
open TL (tl numL)
theorem sign_in {s : Str} (h : isSign s) : s ∈ (["<=", ">=", "="] : List Str) := by
  rcases h with e | e | e <;> subst e <;> simp
theorem way_in {s : Str} (h : isWay s) : s ∈ (["up", "down"] : List Str) := by
  rcases h with e | e <;> subst e <;> simp
section
variable {P : Program} {w : World} {K : PySem.W.Frag} {mg : Str → Option Value} {base : Heap} {C : Nat → Addr} {CP : Addr} {ts tw : Addr}
theorem scAnsI : FnScope ["self", "function", "places"] ["self", "function", "places"] (defScope sAnsInit) := ⟨rfl, rfl, rfl, by decide +kernel, rfl, by decide +kernel, by decide +kernel⟩
theorem ok_AnsI {f : Addr} {fd : FuncData} (F : Fun K "__init__" "Answers.__init__" sAnsInit f fd) (T : CTxt K mg C) (CW : Cl P w K mg base 2 "check_word" ["value"] spChkW) : FnOk P w K mg base CX0 4 f fd ["self", "function", "places"] (spCInit C 0) := by
  refine F.ok scAnsI (fun vs H Q E h => ?_) (fun cdv A outer s0 H vs Q E hr h => ?_)
  · obtain ⟨p, dx, f', pl, x, rfl, _, rfl, _⟩ := h
    rfl
  · obtain ⟨p, dx, f', pl, x, rfl, hw, rfl, hp, q⟩ := h
    have hi : 0 < 7 := by decide
    refine ⟨_, pss_cons (ps_expr (pe_cl CW hr (by decide) (by rfl) (pa_cons (pv 1) pa_nil)))
      (pss_cons (ps_fld (pv 0) pe_str rfl)
      (pss_cons (ps_fld (pv 0) (pv 1) rfl)
      (pss_one (ps_fld (pv 0) (pv 2) rfl)))), ?_⟩
    refine ⟨_, rfl, f', rfl, hw, fun H1 S1 => ⟨_, rfl, p, C 0, dx, [], rfl, S1 _ _ hp, T.cl 0 hi, T.no 0 hi _ (List.mem_of_getElem? (i := 0) rfl), (by show 0 < 1000; decide), _, rfl, _, rfl, p, C 0, dx, _, rfl, upd_same, T.cl 0 hi, T.no 0 hi _ (List.mem_of_getElem? (i := 1) rfl), (by show 1 < 1000; decide), _, rfl, _, rfl, p, C 0, dx, _, rfl, upd_same, T.cl 0 hi, T.no 0 hi _ (List.mem_of_getElem? (i := 2) rfl), (by show 2 < 1000; decide), ?_⟩⟩
    refine q _ upd_same fun c o e n => ?_
    simp only [upd_ne n]
    exact S1 _ _ e
theorem scRefI : FnScope ["self", "function", "places"] ["self", "function", "places"] (defScope sRefInit) := ⟨rfl, rfl, rfl, by decide +kernel, rfl, by decide +kernel, by decide +kernel⟩
theorem ok_RefI {f : Addr} {fd : FuncData} (F : Fun K "__init__" "Refuses.__init__" sRefInit f fd) (T : CTxt K mg C) (CW : Cl P w K mg base 2 "check_word" ["value"] spChkW) : FnOk P w K mg base CX0 4 f fd ["self", "function", "places"] (spCInit C 1) := by
  refine F.ok scRefI (fun vs H Q E h => ?_) (fun cdv A outer s0 H vs Q E hr h => ?_)
  · obtain ⟨p, dx, f', pl, x, rfl, _, rfl, _⟩ := h
    rfl
  · obtain ⟨p, dx, f', pl, x, rfl, hw, rfl, hp, q⟩ := h
    have hi : 1 < 7 := by decide
    refine ⟨_, pss_cons (ps_expr (pe_cl CW hr (by decide) (by rfl) (pa_cons (pv 1) pa_nil)))
      (pss_cons (ps_fld (pv 0) pe_str rfl)
      (pss_cons (ps_fld (pv 0) (pv 1) rfl)
      (pss_one (ps_fld (pv 0) (pv 2) rfl)))), ?_⟩
    refine ⟨_, rfl, f', rfl, hw, fun H1 S1 => ⟨_, rfl, p, C 1, dx, [], rfl, S1 _ _ hp, T.cl 1 hi, T.no 1 hi _ (List.mem_of_getElem? (i := 0) rfl), (by show 0 < 1000; decide), _, rfl, _, rfl, p, C 1, dx, _, rfl, upd_same, T.cl 1 hi, T.no 1 hi _ (List.mem_of_getElem? (i := 1) rfl), (by show 1 < 1000; decide), _, rfl, _, rfl, p, C 1, dx, _, rfl, upd_same, T.cl 1 hi, T.no 1 hi _ (List.mem_of_getElem? (i := 2) rfl), (by show 2 < 1000; decide), ?_⟩⟩
    refine q _ upd_same fun c o e n => ?_
    simp only [upd_ne n]
    exact S1 _ _ e
theorem scNeeI : FnScope ["self", "function", "places", "other"] ["self", "function", "places", "other"] (defScope sNeeInit) := ⟨rfl, rfl, rfl, by decide +kernel, rfl, by decide +kernel, by decide +kernel⟩
theorem ok_NeeI {f : Addr} {fd : FuncData} (F : Fun K "__init__" "Needs.__init__" sNeeInit f fd) (T : CTxt K mg C) (CT : Cl P w K mg base 3 "check_two_words" ["function", "other"] spChkTwo) : FnOk P w K mg base CX0 4 f fd ["self", "function", "places", "other"] (spCInit C 2) := by
  refine F.ok scNeeI (fun vs H Q E h => ?_) (fun cdv A outer s0 H vs Q E hr h => ?_)
  · obtain ⟨p, dx, f', pl, x, rfl, _, ⟨g, rfl, hg, ng⟩, _⟩ := h
    rfl
  · obtain ⟨p, dx, f', pl, x, rfl, hw, ⟨g, rfl, hg, ng⟩, hp, q⟩ := h
    have hi : 2 < 7 := by decide
    refine ⟨_, pss_cons (ps_expr (pe_cl CT hr (by decide) (by rfl) (pa_cons (pv 1) (pa_cons (pv 3) pa_nil))))
      (pss_cons (ps_fld (pv 0) pe_str rfl)
      (pss_cons (ps_fld (pv 0) (pv 1) rfl)
      (pss_cons (ps_fld (pv 0) (pv 2) rfl)
      (pss_one (ps_fld (pv 0) (pv 3) rfl))))), ?_⟩
    refine ⟨_, rfl, _, rfl, f', g, rfl, hw, hg, ng.symm, fun H1 S1 => ⟨_, rfl, p, C 2, dx, [], rfl, S1 _ _ hp, T.cl 2 hi, T.no 2 hi _ (List.mem_of_getElem? (i := 0) rfl), (by show 0 < 1000; decide), _, rfl, _, rfl, p, C 2, dx, _, rfl, upd_same, T.cl 2 hi, T.no 2 hi _ (List.mem_of_getElem? (i := 1) rfl), (by show 1 < 1000; decide), _, rfl, _, rfl, p, C 2, dx, _, rfl, upd_same, T.cl 2 hi, T.no 2 hi _ (List.mem_of_getElem? (i := 2) rfl), (by show 2 < 1000; decide), _, rfl, _, rfl, p, C 2, dx, _, rfl, upd_same, T.cl 2 hi, T.no 2 hi _ (List.mem_of_getElem? (i := 3) rfl), (by show 3 < 1000; decide), ?_⟩⟩
    refine q _ upd_same fun c o e n => ?_
    simp only [upd_ne n]
    exact S1 _ _ e
theorem scSprI : FnScope ["self", "function", "places", "way"] ["self", "function", "places", "way"] (defScope sSprInit) := ⟨rfl, rfl, rfl, by decide +kernel, rfl, by decide +kernel, by decide +kernel⟩
theorem ok_SprI {f : Addr} {fd : FuncData} (F : Fun K "__init__" "Spreads.__init__" sSprInit f fd) (T : CTxt K mg C) (CW : Cl P w K mg base 2 "check_word" ["value"] spChkW) (CS : Cl P w K mg base 1 "check_sign" ["value", "allowed"] (spChkS K)) (WT : WTxt K mg ts tw) : FnOk P w K mg base CX0 4 f fd ["self", "function", "places", "way"] (spCInit C 3) := by
  refine F.ok scSprI (fun vs H Q E h => ?_) (fun cdv A outer s0 H vs Q E hr h => ?_)
  · obtain ⟨p, dx, f', pl, x, rfl, _, ⟨w, rfl, hs⟩, _⟩ := h
    rfl
  · obtain ⟨p, dx, f', pl, x, rfl, hw, ⟨w, rfl, hs⟩, hp, q⟩ := h
    have hi : 3 < 7 := by decide
    refine ⟨_, pss_cons (ps_expr (pe_cl CW hr (by decide) (by rfl) (pa_cons (pv 1) pa_nil)))
      (pss_cons (ps_expr (pe_cl CS hr (by decide) (by rfl) (pa_cons (pv 3) (pa_cons (pe_glob (v := .ref tw) (by rfl) WT.gW rfl) pa_nil))))
      (pss_cons (ps_fld (pv 0) pe_str rfl)
      (pss_cons (ps_fld (pv 0) (pv 1) rfl)
      (pss_cons (ps_fld (pv 0) (pv 2) rfl)
      (pss_one (ps_fld (pv 0) (pv 3) rfl)))))), ?_⟩
    refine ⟨_, rfl, f', rfl, hw, fun H1 S1 => ⟨_, rfl, w, tw, ["up", "down"], rfl, WT.hW _, way_in hs, _, rfl, p, C 3, dx, [], rfl, S1 _ _ hp, T.cl 3 hi, T.no 3 hi _ (List.mem_of_getElem? (i := 0) rfl), (by show 0 < 1000; decide), _, rfl, _, rfl, p, C 3, dx, _, rfl, upd_same, T.cl 3 hi, T.no 3 hi _ (List.mem_of_getElem? (i := 1) rfl), (by show 1 < 1000; decide), _, rfl, _, rfl, p, C 3, dx, _, rfl, upd_same, T.cl 3 hi, T.no 3 hi _ (List.mem_of_getElem? (i := 2) rfl), (by show 2 < 1000; decide), _, rfl, _, rfl, p, C 3, dx, _, rfl, upd_same, T.cl 3 hi, T.no 3 hi _ (List.mem_of_getElem? (i := 3) rfl), (by show 3 < 1000; decide), ?_⟩⟩
    refine q _ upd_same fun c o e n => ?_
    simp only [upd_ne n]
    exact S1 _ _ e
theorem scBouI : FnScope ["self", "function", "places", "sign", "slope", "height"] ["self", "function", "places", "sign", "slope", "height"] (defScope sBouInit) := ⟨rfl, rfl, rfl, by decide +kernel, rfl, by decide +kernel, by decide +kernel⟩
theorem ok_BouI {f : Addr} {fd : FuncData} (F : Fun K "__init__" "Bound.__init__" sBouInit f fd) (T : CTxt K mg C) (CW : Cl P w K mg base 2 "check_word" ["value"] spChkW) (CS : Cl P w K mg base 1 "check_sign" ["value", "allowed"] (spChkS K)) (WT : WTxt K mg ts tw) : FnOk P w K mg base CX0 4 f fd ["self", "function", "places", "sign", "slope", "height"] (spCInit C 4) := by
  refine F.ok scBouI (fun vs H Q E h => ?_) (fun cdv A outer s0 H vs Q E hr h => ?_)
  · obtain ⟨p, dx, f', pl, x, rfl, _, ⟨s, a, b, rfl, hs, na, nb⟩, _⟩ := h
    rfl
  · obtain ⟨p, dx, f', pl, x, rfl, hw, ⟨s, a, b, rfl, hs, na, nb⟩, hp, q⟩ := h
    have hi : 4 < 7 := by decide
    refine ⟨_, pss_cons (ps_expr (pe_cl CW hr (by decide) (by rfl) (pa_cons (pv 1) pa_nil)))
      (pss_cons (ps_expr (pe_cl CS hr (by decide) (by rfl) (pa_cons (pv 3) (pa_cons (pe_glob (v := .ref ts) (by rfl) WT.gS rfl) pa_nil))))
      (pss_cons (ps_fld (pv 0) pe_str rfl)
      (pss_cons (ps_fld (pv 0) (pv 1) rfl)
      (pss_cons (ps_fld (pv 0) (pv 2) rfl)
      (pss_cons (ps_fld (pv 0) (pv 3) rfl)
      (pss_cons (ps_fld (pv 0) (pv 4) rfl)
      (pss_one (ps_fld (pv 0) (pv 5) rfl)))))))), ?_⟩
    refine ⟨_, rfl, f', rfl, hw, fun H1 S1 => ⟨_, rfl, s, ts, ["<=", ">=", "="], rfl, WT.hS _, sign_in hs, _, rfl, p, C 4, dx, [], rfl, S1 _ _ hp, T.cl 4 hi, T.no 4 hi _ (List.mem_of_getElem? (i := 0) rfl), (by show 0 < 1000; decide), _, rfl, _, rfl, p, C 4, dx, _, rfl, upd_same, T.cl 4 hi, T.no 4 hi _ (List.mem_of_getElem? (i := 1) rfl), (by show 1 < 1000; decide), _, rfl, _, rfl, p, C 4, dx, _, rfl, upd_same, T.cl 4 hi, T.no 4 hi _ (List.mem_of_getElem? (i := 2) rfl), (by show 2 < 1000; decide), _, rfl, _, rfl, p, C 4, dx, _, rfl, upd_same, T.cl 4 hi, T.no 4 hi _ (List.mem_of_getElem? (i := 3) rfl), (by show 3 < 1000; decide), _, rfl, _, rfl, p, C 4, dx, _, rfl, upd_same, T.cl 4 hi, T.no 4 hi _ (List.mem_of_getElem? (i := 4) rfl), (by show 4 < 1000; decide), _, rfl, _, rfl, p, C 4, dx, _, rfl, upd_same, T.cl 4 hi, T.no 4 hi _ (List.mem_of_getElem? (i := 5) rfl), (by show 5 < 1000; decide), ?_⟩⟩
    refine q _ upd_same fun c o e n => ?_
    simp only [upd_ne n]
    exact S1 _ _ e
theorem scPaiI : FnScope ["self", "function", "places", "sign", "other", "slope", "height"] ["self", "function", "places", "sign", "other", "slope", "height"] (defScope sPaiInit) := ⟨rfl, rfl, rfl, by decide +kernel, rfl, by decide +kernel, by decide +kernel⟩
theorem ok_PaiI {f : Addr} {fd : FuncData} (F : Fun K "__init__" "Pair.__init__" sPaiInit f fd) (T : CTxt K mg C) (CT : Cl P w K mg base 3 "check_two_words" ["function", "other"] spChkTwo) (CS : Cl P w K mg base 1 "check_sign" ["value", "allowed"] (spChkS K)) (WT : WTxt K mg ts tw) : FnOk P w K mg base CX0 4 f fd ["self", "function", "places", "sign", "other", "slope", "height"] (spCInit C 5) := by
  refine F.ok scPaiI (fun vs H Q E h => ?_) (fun cdv A outer s0 H vs Q E hr h => ?_)
  · obtain ⟨p, dx, f', pl, x, rfl, _, ⟨s, g, a, b, rfl, hs, hg, ng, na, nb⟩, _⟩ := h
    rfl
  · obtain ⟨p, dx, f', pl, x, rfl, hw, ⟨s, g, a, b, rfl, hs, hg, ng, na, nb⟩, hp, q⟩ := h
    have hi : 5 < 7 := by decide
    refine ⟨_, pss_cons (ps_expr (pe_cl CT hr (by decide) (by rfl) (pa_cons (pv 1) (pa_cons (pv 4) pa_nil))))
      (pss_cons (ps_expr (pe_cl CS hr (by decide) (by rfl) (pa_cons (pv 3) (pa_cons (pe_glob (v := .ref ts) (by rfl) WT.gS rfl) pa_nil))))
      (pss_cons (ps_fld (pv 0) pe_str rfl)
      (pss_cons (ps_fld (pv 0) (pv 1) rfl)
      (pss_cons (ps_fld (pv 0) (pv 2) rfl)
      (pss_cons (ps_fld (pv 0) (pv 3) rfl)
      (pss_cons (ps_fld (pv 0) (pv 4) rfl)
      (pss_cons (ps_fld (pv 0) (pv 5) rfl)
      (pss_one (ps_fld (pv 0) (pv 6) rfl))))))))), ?_⟩
    refine ⟨_, rfl, _, rfl, f', g, rfl, hw, hg, ng.symm, fun H1 S1 => ⟨_, rfl, s, ts, ["<=", ">=", "="], rfl, WT.hS _, sign_in hs, _, rfl, p, C 5, dx, [], rfl, S1 _ _ hp, T.cl 5 hi, T.no 5 hi _ (List.mem_of_getElem? (i := 0) rfl), (by show 0 < 1000; decide), _, rfl, _, rfl, p, C 5, dx, _, rfl, upd_same, T.cl 5 hi, T.no 5 hi _ (List.mem_of_getElem? (i := 1) rfl), (by show 1 < 1000; decide), _, rfl, _, rfl, p, C 5, dx, _, rfl, upd_same, T.cl 5 hi, T.no 5 hi _ (List.mem_of_getElem? (i := 2) rfl), (by show 2 < 1000; decide), _, rfl, _, rfl, p, C 5, dx, _, rfl, upd_same, T.cl 5 hi, T.no 5 hi _ (List.mem_of_getElem? (i := 3) rfl), (by show 3 < 1000; decide), _, rfl, _, rfl, p, C 5, dx, _, rfl, upd_same, T.cl 5 hi, T.no 5 hi _ (List.mem_of_getElem? (i := 4) rfl), (by show 4 < 1000; decide), _, rfl, _, rfl, p, C 5, dx, _, rfl, upd_same, T.cl 5 hi, T.no 5 hi _ (List.mem_of_getElem? (i := 5) rfl), (by show 5 < 1000; decide), _, rfl, _, rfl, p, C 5, dx, _, rfl, upd_same, T.cl 5 hi, T.no 5 hi _ (List.mem_of_getElem? (i := 6) rfl), (by show 6 < 1000; decide), ?_⟩⟩
    refine q _ upd_same fun c o e n => ?_
    simp only [upd_ne n]
    exact S1 _ _ e
theorem scSteI : FnScope ["self", "function", "places", "sign", "height"] ["self", "function", "places", "sign", "height"] (defScope sSteInit) := ⟨rfl, rfl, rfl, by decide +kernel, rfl, by decide +kernel, by decide +kernel⟩
theorem ok_SteI {f : Addr} {fd : FuncData} (F : Fun K "__init__" "Step.__init__" sSteInit f fd) (T : CTxt K mg C) (CW : Cl P w K mg base 2 "check_word" ["value"] spChkW) (CS : Cl P w K mg base 1 "check_sign" ["value", "allowed"] (spChkS K)) (WT : WTxt K mg ts tw) : FnOk P w K mg base CX0 4 f fd ["self", "function", "places", "sign", "height"] (spCInit C 6) := by
  refine F.ok scSteI (fun vs H Q E h => ?_) (fun cdv A outer s0 H vs Q E hr h => ?_)
  · obtain ⟨p, dx, f', pl, x, rfl, _, ⟨s, b, rfl, hs, nb⟩, _⟩ := h
    rfl
  · obtain ⟨p, dx, f', pl, x, rfl, hw, ⟨s, b, rfl, hs, nb⟩, hp, q⟩ := h
    have hi : 6 < 7 := by decide
    refine ⟨_, pss_cons (ps_expr (pe_cl CW hr (by decide) (by rfl) (pa_cons (pv 1) pa_nil)))
      (pss_cons (ps_expr (pe_cl CS hr (by decide) (by rfl) (pa_cons (pv 3) (pa_cons (pe_glob (v := .ref ts) (by rfl) WT.gS rfl) pa_nil))))
      (pss_cons (ps_fld (pv 0) pe_str rfl)
      (pss_cons (ps_fld (pv 0) (pv 1) rfl)
      (pss_cons (ps_fld (pv 0) (pv 2) rfl)
      (pss_cons (ps_fld (pv 0) (pv 3) rfl)
      (pss_one (ps_fld (pv 0) (pv 4) rfl))))))), ?_⟩
    refine ⟨_, rfl, f', rfl, hw, fun H1 S1 => ⟨_, rfl, s, ts, ["<=", ">=", "="], rfl, WT.hS _, sign_in hs, _, rfl, p, C 6, dx, [], rfl, S1 _ _ hp, T.cl 6 hi, T.no 6 hi _ (List.mem_of_getElem? (i := 0) rfl), (by show 0 < 1000; decide), _, rfl, _, rfl, p, C 6, dx, _, rfl, upd_same, T.cl 6 hi, T.no 6 hi _ (List.mem_of_getElem? (i := 1) rfl), (by show 1 < 1000; decide), _, rfl, _, rfl, p, C 6, dx, _, rfl, upd_same, T.cl 6 hi, T.no 6 hi _ (List.mem_of_getElem? (i := 2) rfl), (by show 2 < 1000; decide), _, rfl, _, rfl, p, C 6, dx, _, rfl, upd_same, T.cl 6 hi, T.no 6 hi _ (List.mem_of_getElem? (i := 3) rfl), (by show 3 < 1000; decide), _, rfl, _, rfl, p, C 6, dx, _, rfl, upd_same, T.cl 6 hi, T.no 6 hi _ (List.mem_of_getElem? (i := 4) rfl), (by show 4 < 1000; decide), ?_⟩⟩
    refine q _ upd_same fun c o e n => ?_
    simp only [upd_ne n]
    exact S1 _ _ e
end
end OR

namespace OR
open PySem PySem.Spec PyProof.Rows L2
open TL (tl numL)
section
variable {P : Program} {w : World} {K : PySem.W.Frag} {mg : Str → Option Value} {base : Heap} {C : Nat → Addr} {CP : Addr} {ts tw : Addr}
theorem scAnsE : FnScope ["self", "other"] ["self", "other"] (defScope sAnsEq) := ⟨rfl, rfl, rfl, by decide +kernel, rfl, by decide +kernel, by decide +kernel⟩
theorem ok_AnsE {f : Addr} {fd : FuncData} (F : Fun K "__eq__" "Answers.__eq__" sAnsEq f fd) (T : CTxt K mg C) (PT : PTxt K mg CP) (EQ : Md P w K mg base 1 CP "__eq__" (spPlEq K CP)) : FnOk P w K mg base CX0 2 f fd ["self", "other"] (spCEq K CP C 0) := by
  refine F.ok scAnsE (fun vs H Q E h => ?_) (fun cdv A outer s0 H vs Q E hr h => ?_)
  · obtain ⟨p, y, f1, l, x, rfl, _⟩ := h
    rfl
  · obtain ⟨p, y, f1, l, x, rfl, hA, h⟩ := h
    have hi : 0 < 7 := by decide
    have nd := scAnsE.nd
    refine ⟨_, pss_one (ps_ret (pe_and (pe_callB call_isi (by rfl) PT.zIsi bt_isi (pa_cons (pv 1) (pa_cons (pe_glob (v := .ref (C 0)) (by rfl) (T.mgC 0 hi) rfl) pa_nil))) (pe_and (pe_cmpR op_eq (pe_fld (pv 0) rfl) (pe_fld (pv 1) rfl) (nomark _)) (pe_one (pe_cmpR (op_eqO K rfl EQ (hr.mono (by decide))) (pe_fld (pv 0) rfl) (pe_fld (pv 1) rfl) (nomark _)))))), ?_⟩
    obtain ⟨⟨dx, pl, hz, hp⟩, _, _, wf, _, _⟩ := hA
    rcases h with ⟨z2, j, f2, m, u, rfl, hB, q⟩ | ⟨Ty, hT, hk, q⟩
    · by_cases e : j = 0
      · subst e
        obtain ⟨⟨dy, pm, hy, hpm⟩, _, _, wf2, _, _⟩ := hB
        cases (show x = [] from wf)
        cases (show u = [] from wf2)
        have key : ceq 0 f1 l [] 0 f2 m [] = decide (f1 = f2 ∧ l = m) := by
          unfold ceq
          exact decide_eq_decide.mpr (by simp)
        rw [key] at q
        have no : ¬ (f1 = f2 ∧ l = m) → Q (.bl false) H := fun h => by
          rw [decide_eq_false h] at q
          exact q
        clear key
        refine ⟨_, rfl, .ref z2, .ref (C 0), _, _, true, rfl, .own (C 0), tyC T hi hy, T.kk 0 hi 0 hi, _, rfl, iteT ?_⟩
        refine ⟨_, rfl, fld T hz hi (j := 1) rfl rfl ⟨_, rfl, fld T hy hi (j := 1) rfl rfl ⟨rfl, _, rfl, ite2 (fun e1 => ?_) (fun e1 => (no fun z => e1 (decide_eq_true (by rw [z.1]))))⟩⟩⟩
        have E_function := V.str.inj (of_decide_eq_true e1)
        exact ⟨_, rfl, fld T hz hi (j := 2) rfl rfl ⟨_, rfl, fld T hy hi (j := 2) rfl rfl (eq_q PT hp hpm (by rw [show decide (f1 = f2 ∧ l = m) = decide (l = m) from decide_eq_decide.mpr ⟨fun z => z.2, fun zz => ⟨E_function, zz⟩⟩] at q; exact q))⟩⟩
      · have kf : PySem.W.kitOne K (.ref (C j)) (.ref (C 0)) = some false := by
          rw [T.kk j hB.lt 0 hi, decide_eq_false e]
        rw [show ceq 0 f1 l x j f2 m u = false from decide_eq_false fun z => e z.1.symm] at q
        obtain ⟨dy, pm, hy, _⟩ := hB.ex
        exact ⟨_, rfl, .ref z2, .ref (C 0), _, _, false, rfl, .own (C 0), tyC T hB.lt hy, kf, _, rfl, iteF q⟩
    · exact ⟨_, rfl, y, .ref (C 0), _, _, false, rfl, .own (C 0), hT, hk, _, rfl, iteF q⟩
theorem scRefE : FnScope ["self", "other"] ["self", "other"] (defScope sRefEq) := ⟨rfl, rfl, rfl, by decide +kernel, rfl, by decide +kernel, by decide +kernel⟩
theorem ok_RefE {f : Addr} {fd : FuncData} (F : Fun K "__eq__" "Refuses.__eq__" sRefEq f fd) (T : CTxt K mg C) (PT : PTxt K mg CP) (EQ : Md P w K mg base 1 CP "__eq__" (spPlEq K CP)) : FnOk P w K mg base CX0 2 f fd ["self", "other"] (spCEq K CP C 1) := by
  refine F.ok scRefE (fun vs H Q E h => ?_) (fun cdv A outer s0 H vs Q E hr h => ?_)
  · obtain ⟨p, y, f1, l, x, rfl, _⟩ := h
    rfl
  · obtain ⟨p, y, f1, l, x, rfl, hA, h⟩ := h
    have hi : 1 < 7 := by decide
    have nd := scRefE.nd
    refine ⟨_, pss_one (ps_ret (pe_and (pe_callB call_isi (by rfl) PT.zIsi bt_isi (pa_cons (pv 1) (pa_cons (pe_glob (v := .ref (C 1)) (by rfl) (T.mgC 1 hi) rfl) pa_nil))) (pe_and (pe_cmpR op_eq (pe_fld (pv 0) rfl) (pe_fld (pv 1) rfl) (nomark _)) (pe_one (pe_cmpR (op_eqO K rfl EQ (hr.mono (by decide))) (pe_fld (pv 0) rfl) (pe_fld (pv 1) rfl) (nomark _)))))), ?_⟩
    obtain ⟨⟨dx, pl, hz, hp⟩, _, _, wf, _, _⟩ := hA
    rcases h with ⟨z2, j, f2, m, u, rfl, hB, q⟩ | ⟨Ty, hT, hk, q⟩
    · by_cases e : j = 1
      · subst e
        obtain ⟨⟨dy, pm, hy, hpm⟩, _, _, wf2, _, _⟩ := hB
        cases (show x = [] from wf)
        cases (show u = [] from wf2)
        have key : ceq 1 f1 l [] 1 f2 m [] = decide (f1 = f2 ∧ l = m) := by
          unfold ceq
          exact decide_eq_decide.mpr (by simp)
        rw [key] at q
        have no : ¬ (f1 = f2 ∧ l = m) → Q (.bl false) H := fun h => by
          rw [decide_eq_false h] at q
          exact q
        clear key
        refine ⟨_, rfl, .ref z2, .ref (C 1), _, _, true, rfl, .own (C 1), tyC T hi hy, T.kk 1 hi 1 hi, _, rfl, iteT ?_⟩
        refine ⟨_, rfl, fld T hz hi (j := 1) rfl rfl ⟨_, rfl, fld T hy hi (j := 1) rfl rfl ⟨rfl, _, rfl, ite2 (fun e1 => ?_) (fun e1 => (no fun z => e1 (decide_eq_true (by rw [z.1]))))⟩⟩⟩
        have E_function := V.str.inj (of_decide_eq_true e1)
        exact ⟨_, rfl, fld T hz hi (j := 2) rfl rfl ⟨_, rfl, fld T hy hi (j := 2) rfl rfl (eq_q PT hp hpm (by rw [show decide (f1 = f2 ∧ l = m) = decide (l = m) from decide_eq_decide.mpr ⟨fun z => z.2, fun zz => ⟨E_function, zz⟩⟩] at q; exact q))⟩⟩
      · have kf : PySem.W.kitOne K (.ref (C j)) (.ref (C 1)) = some false := by
          rw [T.kk j hB.lt 1 hi, decide_eq_false e]
        rw [show ceq 1 f1 l x j f2 m u = false from decide_eq_false fun z => e z.1.symm] at q
        obtain ⟨dy, pm, hy, _⟩ := hB.ex
        exact ⟨_, rfl, .ref z2, .ref (C 1), _, _, false, rfl, .own (C 1), tyC T hB.lt hy, kf, _, rfl, iteF q⟩
    · exact ⟨_, rfl, y, .ref (C 1), _, _, false, rfl, .own (C 1), hT, hk, _, rfl, iteF q⟩
theorem scNeeE : FnScope ["self", "other"] ["self", "other"] (defScope sNeeEq) := ⟨rfl, rfl, rfl, by decide +kernel, rfl, by decide +kernel, by decide +kernel⟩
theorem ok_NeeE {f : Addr} {fd : FuncData} (F : Fun K "__eq__" "Needs.__eq__" sNeeEq f fd) (T : CTxt K mg C) (PT : PTxt K mg CP) (EQ : Md P w K mg base 1 CP "__eq__" (spPlEq K CP)) : FnOk P w K mg base CX0 2 f fd ["self", "other"] (spCEq K CP C 2) := by
  refine F.ok scNeeE (fun vs H Q E h => ?_) (fun cdv A outer s0 H vs Q E hr h => ?_)
  · obtain ⟨p, y, f1, l, x, rfl, _⟩ := h
    rfl
  · obtain ⟨p, y, f1, l, x, rfl, hA, h⟩ := h
    have hi : 2 < 7 := by decide
    have nd := scNeeE.nd
    refine ⟨_, pss_cons (ps_if (pt_not (pt_val (pe_callB call_isi (by rfl) PT.zIsi bt_isi (pa_cons (pv 1) (pa_cons (pe_glob (v := .ref (C 2)) (by rfl) (T.mgC 2 hi) rfl) pa_nil))))) (pss_one (ps_ret pe_bl)) pss_nil)
      (pss_one (ps_ret (pe_and (pe_cmpR op_eq (pe_fld (pv 0) rfl) (pe_fld (pv 1) rfl) (nomark _)) (pe_and (pe_cmpR (op_eqO K rfl EQ (hr.mono (by decide))) (pe_fld (pv 0) rfl) (pe_fld (pv 1) rfl) (nomark _)) (pe_one (pe_cmpR op_eq (pe_fld (pv 0) rfl) (pe_fld (pv 1) rfl) (nomark _))))))), ?_⟩
    obtain ⟨⟨dx, pl, hz, hp⟩, _, _, wf, _, _⟩ := hA
    rcases h with ⟨z2, j, f2, m, u, rfl, hB, q⟩ | ⟨Ty, hT, hk, q⟩
    · by_cases e : j = 2
      · subst e
        obtain ⟨⟨dy, pm, hy, hpm⟩, _, _, wf2, _, _⟩ := hB
        obtain ⟨g, rfl, hg, ng⟩ := wf
        obtain ⟨g', rfl, _, _⟩ := wf2
        have key : ceq 2 f1 l [.str g] 2 f2 m [.str g'] = decide (f1 = f2 ∧ l = m ∧ g = g') := by
          unfold ceq
          exact decide_eq_decide.mpr (by simp)
        rw [key] at q
        have no : ¬ (f1 = f2 ∧ l = m ∧ g = g') → Q (.bl false) H := fun h => by
          rw [decide_eq_false h] at q
          exact q
        clear key
        refine ⟨_, rfl, .ref z2, .ref (C 2), _, _, true, rfl, .own (C 2), tyC T hi hy, T.kk 2 hi 2 hi, _, rfl, iteF ?_⟩
        refine ⟨_, rfl, fld T hz hi (j := 1) rfl rfl ⟨_, rfl, fld T hy hi (j := 1) rfl rfl ⟨rfl, _, rfl, ite2 (fun e1 => ?_) (fun e1 => (no fun z => e1 (decide_eq_true (by rw [z.1]))))⟩⟩⟩
        have E_function := V.str.inj (of_decide_eq_true e1)
        refine ⟨_, rfl, fld T hz hi (j := 2) rfl rfl ⟨_, rfl, fld T hy hi (j := 2) rfl rfl (eq_q PT hp hpm ⟨_, rfl, ite2 (fun e2 => ?_) (fun e2 => no fun z => e2 (decide_eq_true z.2.1))⟩)⟩⟩
        have E_places : l = m := of_decide_eq_true e2
        exact ⟨_, rfl, fld T hz hi (j := 3) rfl rfl ⟨_, rfl, fld T hy hi (j := 3) rfl rfl ⟨rfl, (by rw [show decide (f1 = f2 ∧ l = m ∧ g = g') = decide (V.str g = V.str g') from decide_eq_decide.mpr ⟨fun z => by rw [z.2.2], fun zz => ⟨E_function, E_places, V.str.inj zz⟩⟩] at q; exact q)⟩⟩⟩
      · have kf : PySem.W.kitOne K (.ref (C j)) (.ref (C 2)) = some false := by
          rw [T.kk j hB.lt 2 hi, decide_eq_false e]
        rw [show ceq 2 f1 l x j f2 m u = false from decide_eq_false fun z => e z.1.symm] at q
        obtain ⟨dy, pm, hy, _⟩ := hB.ex
        exact ⟨_, rfl, .ref z2, .ref (C 2), _, _, false, rfl, .own (C 2), tyC T hB.lt hy, kf, _, rfl, iteT q⟩
    · exact ⟨_, rfl, y, .ref (C 2), _, _, false, rfl, .own (C 2), hT, hk, _, rfl, iteT q⟩
theorem scSprE : FnScope ["self", "other"] ["self", "other"] (defScope sSprEq) := ⟨rfl, rfl, rfl, by decide +kernel, rfl, by decide +kernel, by decide +kernel⟩
theorem ok_SprE {f : Addr} {fd : FuncData} (F : Fun K "__eq__" "Spreads.__eq__" sSprEq f fd) (T : CTxt K mg C) (PT : PTxt K mg CP) (EQ : Md P w K mg base 1 CP "__eq__" (spPlEq K CP)) : FnOk P w K mg base CX0 2 f fd ["self", "other"] (spCEq K CP C 3) := by
  refine F.ok scSprE (fun vs H Q E h => ?_) (fun cdv A outer s0 H vs Q E hr h => ?_)
  · obtain ⟨p, y, f1, l, x, rfl, _⟩ := h
    rfl
  · obtain ⟨p, y, f1, l, x, rfl, hA, h⟩ := h
    have hi : 3 < 7 := by decide
    have nd := scSprE.nd
    refine ⟨_, pss_cons (ps_if (pt_not (pt_val (pe_callB call_isi (by rfl) PT.zIsi bt_isi (pa_cons (pv 1) (pa_cons (pe_glob (v := .ref (C 3)) (by rfl) (T.mgC 3 hi) rfl) pa_nil))))) (pss_one (ps_ret pe_bl)) pss_nil)
      (pss_one (ps_ret (pe_and (pe_cmpR op_eq (pe_fld (pv 0) rfl) (pe_fld (pv 1) rfl) (nomark _)) (pe_and (pe_cmpR (op_eqO K rfl EQ (hr.mono (by decide))) (pe_fld (pv 0) rfl) (pe_fld (pv 1) rfl) (nomark _)) (pe_one (pe_cmpR op_eq (pe_fld (pv 0) rfl) (pe_fld (pv 1) rfl) (nomark _))))))), ?_⟩
    obtain ⟨⟨dx, pl, hz, hp⟩, _, _, wf, _, _⟩ := hA
    rcases h with ⟨z2, j, f2, m, u, rfl, hB, q⟩ | ⟨Ty, hT, hk, q⟩
    · by_cases e : j = 3
      · subst e
        obtain ⟨⟨dy, pm, hy, hpm⟩, _, _, wf2, _, _⟩ := hB
        obtain ⟨w, rfl, hs⟩ := wf
        obtain ⟨w', rfl, _⟩ := wf2
        have key : ceq 3 f1 l [.str w] 3 f2 m [.str w'] = decide (f1 = f2 ∧ l = m ∧ w = w') := by
          unfold ceq
          exact decide_eq_decide.mpr (by simp)
        rw [key] at q
        have no : ¬ (f1 = f2 ∧ l = m ∧ w = w') → Q (.bl false) H := fun h => by
          rw [decide_eq_false h] at q
          exact q
        clear key
        refine ⟨_, rfl, .ref z2, .ref (C 3), _, _, true, rfl, .own (C 3), tyC T hi hy, T.kk 3 hi 3 hi, _, rfl, iteF ?_⟩
        refine ⟨_, rfl, fld T hz hi (j := 1) rfl rfl ⟨_, rfl, fld T hy hi (j := 1) rfl rfl ⟨rfl, _, rfl, ite2 (fun e1 => ?_) (fun e1 => (no fun z => e1 (decide_eq_true (by rw [z.1]))))⟩⟩⟩
        have E_function := V.str.inj (of_decide_eq_true e1)
        refine ⟨_, rfl, fld T hz hi (j := 2) rfl rfl ⟨_, rfl, fld T hy hi (j := 2) rfl rfl (eq_q PT hp hpm ⟨_, rfl, ite2 (fun e2 => ?_) (fun e2 => no fun z => e2 (decide_eq_true z.2.1))⟩)⟩⟩
        have E_places : l = m := of_decide_eq_true e2
        exact ⟨_, rfl, fld T hz hi (j := 3) rfl rfl ⟨_, rfl, fld T hy hi (j := 3) rfl rfl ⟨rfl, (by rw [show decide (f1 = f2 ∧ l = m ∧ w = w') = decide (V.str w = V.str w') from decide_eq_decide.mpr ⟨fun z => by rw [z.2.2], fun zz => ⟨E_function, E_places, V.str.inj zz⟩⟩] at q; exact q)⟩⟩⟩
      · have kf : PySem.W.kitOne K (.ref (C j)) (.ref (C 3)) = some false := by
          rw [T.kk j hB.lt 3 hi, decide_eq_false e]
        rw [show ceq 3 f1 l x j f2 m u = false from decide_eq_false fun z => e z.1.symm] at q
        obtain ⟨dy, pm, hy, _⟩ := hB.ex
        exact ⟨_, rfl, .ref z2, .ref (C 3), _, _, false, rfl, .own (C 3), tyC T hB.lt hy, kf, _, rfl, iteT q⟩
    · exact ⟨_, rfl, y, .ref (C 3), _, _, false, rfl, .own (C 3), hT, hk, _, rfl, iteT q⟩
theorem scBouE : FnScope ["self", "other", "same_line"] ["self", "other"] (defScope sBouEq) := ⟨rfl, rfl, rfl, by decide +kernel, rfl, by decide +kernel, by decide +kernel⟩
theorem ok_BouE {f : Addr} {fd : FuncData} (F : Fun K "__eq__" "Bound.__eq__" sBouEq f fd) (T : CTxt K mg C) (PT : PTxt K mg CP) (EQ : Md P w K mg base 1 CP "__eq__" (spPlEq K CP)) : FnOk P w K mg base CX0 2 f fd ["self", "other"] (spCEq K CP C 4) := by
  refine F.ok scBouE (fun vs H Q E h => ?_) (fun cdv A outer s0 H vs Q E hr h => ?_)
  · obtain ⟨p, y, f1, l, x, rfl, _⟩ := h
    rfl
  · obtain ⟨p, y, f1, l, x, rfl, hA, h⟩ := h
    have hi : 4 < 7 := by decide
    have nd := scBouE.nd
    refine ⟨_, pss_cons (ps_if (PW.pt (pw_or (pt_not (pt_val (pe_callB call_isi (by rfl) PT.zIsi bt_isi (pa_cons (pv 1) (pa_cons (pe_glob (v := .ref (C 4)) (by rfl) (T.mgC 4 hi) rfl) pa_nil))))) (pw_or1 (pt_cmpR op_ne (pe_fld (pv 0) rfl) (pe_fld (pv 1) rfl) (nomark _))))) (pss_one (ps_ret pe_bl)) pss_nil)
      (Evl.pss_cut (ps_set (i := 2) nd rfl (.inl rfl) (pe_and (pe_cmpR op_eq (pe_fld (pv 0) rfl) (pe_fld (pv 1) rfl) (nomark _)) (pe_one (pe_cmpR op_eq (pe_fld (pv 0) rfl) (pe_fld (pv 1) rfl) (nomark _)))))
      (pss_one (ps_ret (pe_and (pv 2) (pe_and (pe_cmpR op_eq (pe_fld (pv 0) rfl) (pe_fld (pv 1) rfl) (nomark _)) (pe_one (pe_cmpR (op_eqO K rfl EQ (hr.mono (by decide))) (pe_fld (pv 0) rfl) (pe_fld (pv 1) rfl) (nomark _)))))))), ?_⟩
    obtain ⟨⟨dx, pl, hz, hp⟩, _, _, wf, _, _⟩ := hA
    rcases h with ⟨z2, j, f2, m, u, rfl, hB, q⟩ | ⟨Ty, hT, hk, q⟩
    · by_cases e : j = 4
      · subst e
        obtain ⟨⟨dy, pm, hy, hpm⟩, _, _, wf2, _, _⟩ := hB
        obtain ⟨s, a, b, rfl, hs, na, nb⟩ := wf
        obtain ⟨s', a', b', rfl, _, _, _⟩ := wf2
        have key : ceq 4 f1 l [.str s, .int a, .int b] 4 f2 m [.str s', .int a', .int b'] = decide (f1 = f2 ∧ l = m ∧ s = s' ∧ a = a' ∧ b = b') := by
          unfold ceq
          exact decide_eq_decide.mpr (by simp)
        rw [key] at q
        have no : ¬ (f1 = f2 ∧ l = m ∧ s = s' ∧ a = a' ∧ b = b') → Q (.bl false) H := fun h => by
          rw [decide_eq_false h] at q
          exact q
        clear key
        refine ⟨_, rfl, .ref z2, .ref (C 4), _, _, true, rfl, .own (C 4), tyC T hi hy, T.kk 4 hi 4 hi, _, rfl, iteF ?_⟩
        refine ⟨_, rfl, fld T hz hi (j := 3) rfl rfl ⟨_, rfl, fld T hy hi (j := 3) rfl rfl ⟨rfl, _, rfl, ?_⟩⟩⟩
        by_cases e0 : V.str s = V.str s'
        · have E_sign := V.str.inj e0
          refine iteNS e0 ?_
          refine ⟨fun σ' H' => σ' = [some (V.ref p), some (.ref z2), some (.bl (decide (a = a' ∧ b = b')))] ∧ H' = H, ?_, ?_⟩
          · refine ⟨_, rfl, fld T hz hi (j := 4) rfl rfl ⟨_, rfl, fld T hy hi (j := 4) rfl rfl ⟨rfl, _, rfl, ite2 (fun e1 => ?_) (fun e1 => ?_)⟩⟩⟩
            · refine ⟨_, rfl, fld T hz hi (j := 5) rfl rfl ⟨_, rfl, fld T hy hi (j := 5) rfl rfl ⟨rfl, ?_, rfl⟩⟩⟩
              rw [show decide (a = a' ∧ b = b') = decide (V.int b = V.int b') from decide_eq_decide.mpr ⟨fun z => by rw [z.2], fun zz => ⟨V.int.inj (of_decide_eq_true e1), V.int.inj zz⟩⟩]
              rfl
            · refine ⟨?_, rfl⟩
              rw [decide_eq_false (fun z : a = a' ∧ b = b' => e1 (decide_eq_true (by rw [z.1])))]
              rfl
          rintro σ' H' ⟨rfl, rfl⟩
          refine ⟨_, rfl, _, rfl, ite2 (fun e1 => ?_) (fun e1 => no fun z => e1 (decide_eq_true ⟨z.2.2.2.1, z.2.2.2.2⟩))⟩
          obtain ⟨E_slope, E_height⟩ := of_decide_eq_true e1
          refine ⟨_, rfl, fld T hz hi (j := 1) rfl rfl ⟨_, rfl, fld T hy hi (j := 1) rfl rfl ⟨rfl, _, rfl, ite2 (fun e2 => ?_) (fun e2 => (no fun z => e2 (decide_eq_true (by rw [z.1]))))⟩⟩⟩
          have E_function := V.str.inj (of_decide_eq_true e2)
          exact ⟨_, rfl, fld T hz hi (j := 2) rfl rfl ⟨_, rfl, fld T hy hi (j := 2) rfl rfl (eq_q PT hp hpm (by rw [show decide (f1 = f2 ∧ l = m ∧ s = s' ∧ a = a' ∧ b = b') = decide (l = m) from decide_eq_decide.mpr ⟨fun z => z.2.1, fun zz => ⟨E_function, zz, E_sign, E_slope, E_height⟩⟩] at q; exact q))⟩⟩
        · rw [decide_eq_false e0]
          exact iteT (no fun z => e0 (by rw [z.2.2.1]))
      · have kf : PySem.W.kitOne K (.ref (C j)) (.ref (C 4)) = some false := by
          rw [T.kk j hB.lt 4 hi, decide_eq_false e]
        rw [show ceq 4 f1 l x j f2 m u = false from decide_eq_false fun z => e z.1.symm] at q
        obtain ⟨dy, pm, hy, _⟩ := hB.ex
        exact ⟨_, rfl, .ref z2, .ref (C 4), _, _, false, rfl, .own (C 4), tyC T hB.lt hy, kf, _, rfl, iteT q⟩
    · exact ⟨_, rfl, y, .ref (C 4), _, _, false, rfl, .own (C 4), hT, hk, _, rfl, iteT q⟩
theorem scPaiE : FnScope ["self", "other", "same_functions", "same_line"] ["self", "other"] (defScope sPaiEq) := ⟨rfl, rfl, rfl, by decide +kernel, rfl, by decide +kernel, by decide +kernel⟩
theorem ok_PaiE {f : Addr} {fd : FuncData} (F : Fun K "__eq__" "Pair.__eq__" sPaiEq f fd) (T : CTxt K mg C) (PT : PTxt K mg CP) (EQ : Md P w K mg base 1 CP "__eq__" (spPlEq K CP)) : FnOk P w K mg base CX0 2 f fd ["self", "other"] (spCEq K CP C 5) := by
  refine F.ok scPaiE (fun vs H Q E h => ?_) (fun cdv A outer s0 H vs Q E hr h => ?_)
  · obtain ⟨p, y, f1, l, x, rfl, _⟩ := h
    rfl
  · obtain ⟨p, y, f1, l, x, rfl, hA, h⟩ := h
    have hi : 5 < 7 := by decide
    have nd := scPaiE.nd
    refine ⟨_, pss_cons (ps_if (PW.pt (pw_or (pt_not (pt_val (pe_callB call_isi (by rfl) PT.zIsi bt_isi (pa_cons (pv 1) (pa_cons (pe_glob (v := .ref (C 5)) (by rfl) (T.mgC 5 hi) rfl) pa_nil))))) (pw_or1 (pt_cmpR op_ne (pe_fld (pv 0) rfl) (pe_fld (pv 1) rfl) (nomark _))))) (pss_one (ps_ret pe_bl)) pss_nil)
      (Evl.pss_cut (ps_set (i := 2) nd rfl (.inl rfl) (pe_and (pe_cmpR op_eq (pe_fld (pv 0) rfl) (pe_fld (pv 1) rfl) (nomark _)) (pe_one (pe_cmpR op_eq (pe_fld (pv 0) rfl) (pe_fld (pv 1) rfl) (nomark _)))))
      (Evl.pss_cut (ps_set (i := 3) nd rfl (.inl rfl) (pe_and (pe_cmpR op_eq (pe_fld (pv 0) rfl) (pe_fld (pv 1) rfl) (nomark _)) (pe_one (pe_cmpR op_eq (pe_fld (pv 0) rfl) (pe_fld (pv 1) rfl) (nomark _)))))
      (pss_one (ps_ret (pe_and (pv 2) (pe_and (pv 3) (pe_one (pe_cmpR (op_eqO K rfl EQ (hr.mono (by decide))) (pe_fld (pv 0) rfl) (pe_fld (pv 1) rfl) (nomark _))))))))), ?_⟩
    obtain ⟨⟨dx, pl, hz, hp⟩, _, _, wf, _, _⟩ := hA
    rcases h with ⟨z2, j, f2, m, u, rfl, hB, q⟩ | ⟨Ty, hT, hk, q⟩
    · by_cases e : j = 5
      · subst e
        obtain ⟨⟨dy, pm, hy, hpm⟩, _, _, wf2, _, _⟩ := hB
        obtain ⟨s, g, a, b, rfl, hs, hg, ng, na, nb⟩ := wf
        obtain ⟨s', g', a', b', rfl, _, _, _, _, _⟩ := wf2
        have key : ceq 5 f1 l [.str s, .str g, .int a, .int b] 5 f2 m [.str s', .str g', .int a', .int b'] = decide (f1 = f2 ∧ l = m ∧ s = s' ∧ g = g' ∧ a = a' ∧ b = b') := by
          unfold ceq
          exact decide_eq_decide.mpr (by simp)
        rw [key] at q
        have no : ¬ (f1 = f2 ∧ l = m ∧ s = s' ∧ g = g' ∧ a = a' ∧ b = b') → Q (.bl false) H := fun h => by
          rw [decide_eq_false h] at q
          exact q
        clear key
        refine ⟨_, rfl, .ref z2, .ref (C 5), _, _, true, rfl, .own (C 5), tyC T hi hy, T.kk 5 hi 5 hi, _, rfl, iteF ?_⟩
        refine ⟨_, rfl, fld T hz hi (j := 3) rfl rfl ⟨_, rfl, fld T hy hi (j := 3) rfl rfl ⟨rfl, _, rfl, ?_⟩⟩⟩
        by_cases e0 : V.str s = V.str s'
        · have E_sign := V.str.inj e0
          refine iteNS e0 ?_
          refine ⟨fun σ' H' => σ' = [some (V.ref p), some (.ref z2), some (.bl (decide (f1 = f2 ∧ g = g'))), none] ∧ H' = H, ?_, ?_⟩
          · refine ⟨_, rfl, fld T hz hi (j := 1) rfl rfl ⟨_, rfl, fld T hy hi (j := 1) rfl rfl ⟨rfl, _, rfl, ite2 (fun e1 => ?_) (fun e1 => ?_)⟩⟩⟩
            · refine ⟨_, rfl, fld T hz hi (j := 4) rfl rfl ⟨_, rfl, fld T hy hi (j := 4) rfl rfl ⟨rfl, ?_, rfl⟩⟩⟩
              rw [show decide (f1 = f2 ∧ g = g') = decide (V.str g = V.str g') from decide_eq_decide.mpr ⟨fun z => by rw [z.2], fun zz => ⟨V.str.inj (of_decide_eq_true e1), V.str.inj zz⟩⟩]
              rfl
            · refine ⟨?_, rfl⟩
              rw [decide_eq_false (fun z : f1 = f2 ∧ g = g' => e1 (decide_eq_true (by rw [z.1])))]
              rfl
          rintro σ' H' ⟨rfl, rfl⟩
          refine ⟨fun σ' H'' => σ' = [some (V.ref p), some (.ref z2), some (.bl (decide (f1 = f2 ∧ g = g'))), some (.bl (decide (a = a' ∧ b = b')))] ∧ H'' = H', ?_, ?_⟩
          · refine ⟨_, rfl, fld T hz hi (j := 5) rfl rfl ⟨_, rfl, fld T hy hi (j := 5) rfl rfl ⟨rfl, _, rfl, ite2 (fun e1 => ?_) (fun e1 => ?_)⟩⟩⟩
            · refine ⟨_, rfl, fld T hz hi (j := 6) rfl rfl ⟨_, rfl, fld T hy hi (j := 6) rfl rfl ⟨rfl, ?_, rfl⟩⟩⟩
              rw [show decide (a = a' ∧ b = b') = decide (V.int b = V.int b') from decide_eq_decide.mpr ⟨fun z => by rw [z.2], fun zz => ⟨V.int.inj (of_decide_eq_true e1), V.int.inj zz⟩⟩]
              rfl
            · refine ⟨?_, rfl⟩
              rw [decide_eq_false (fun z : a = a' ∧ b = b' => e1 (decide_eq_true (by rw [z.1])))]
              rfl
          rintro σ' H' ⟨rfl, rfl⟩
          refine ⟨_, rfl, _, rfl, ite2 (fun e1 => ?_) (fun e1 => no fun z => e1 (decide_eq_true ⟨z.1, z.2.2.2.1⟩))⟩
          obtain ⟨E_function, E_other⟩ := of_decide_eq_true e1
          refine ⟨_, rfl, _, rfl, ite2 (fun e2 => ?_) (fun e2 => no fun z => e2 (decide_eq_true ⟨z.2.2.2.2.1, z.2.2.2.2.2⟩))⟩
          obtain ⟨E_slope, E_height⟩ := of_decide_eq_true e2
          exact ⟨_, rfl, fld T hz hi (j := 2) rfl rfl ⟨_, rfl, fld T hy hi (j := 2) rfl rfl (eq_q PT hp hpm (by rw [show decide (f1 = f2 ∧ l = m ∧ s = s' ∧ g = g' ∧ a = a' ∧ b = b') = decide (l = m) from decide_eq_decide.mpr ⟨fun z => z.2.1, fun zz => ⟨E_function, zz, E_sign, E_other, E_slope, E_height⟩⟩] at q; exact q))⟩⟩
        · rw [decide_eq_false e0]
          exact iteT (no fun z => e0 (by rw [z.2.2.1]))
      · have kf : PySem.W.kitOne K (.ref (C j)) (.ref (C 5)) = some false := by
          rw [T.kk j hB.lt 5 hi, decide_eq_false e]
        rw [show ceq 5 f1 l x j f2 m u = false from decide_eq_false fun z => e z.1.symm] at q
        obtain ⟨dy, pm, hy, _⟩ := hB.ex
        exact ⟨_, rfl, .ref z2, .ref (C 5), _, _, false, rfl, .own (C 5), tyC T hB.lt hy, kf, _, rfl, iteT q⟩
    · exact ⟨_, rfl, y, .ref (C 5), _, _, false, rfl, .own (C 5), hT, hk, _, rfl, iteT q⟩
theorem scSteE : FnScope ["self", "other"] ["self", "other"] (defScope sSteEq) := ⟨rfl, rfl, rfl, by decide +kernel, rfl, by decide +kernel, by decide +kernel⟩
theorem ok_SteE {f : Addr} {fd : FuncData} (F : Fun K "__eq__" "Step.__eq__" sSteEq f fd) (T : CTxt K mg C) (PT : PTxt K mg CP) (EQ : Md P w K mg base 1 CP "__eq__" (spPlEq K CP)) : FnOk P w K mg base CX0 2 f fd ["self", "other"] (spCEq K CP C 6) := by
  refine F.ok scSteE (fun vs H Q E h => ?_) (fun cdv A outer s0 H vs Q E hr h => ?_)
  · obtain ⟨p, y, f1, l, x, rfl, _⟩ := h
    rfl
  · obtain ⟨p, y, f1, l, x, rfl, hA, h⟩ := h
    have hi : 6 < 7 := by decide
    have nd := scSteE.nd
    refine ⟨_, pss_cons (ps_if (PW.pt (pw_or (pt_not (pt_val (pe_callB call_isi (by rfl) PT.zIsi bt_isi (pa_cons (pv 1) (pa_cons (pe_glob (v := .ref (C 6)) (by rfl) (T.mgC 6 hi) rfl) pa_nil))))) (pw_or1 (pt_cmpR op_ne (pe_fld (pv 0) rfl) (pe_fld (pv 1) rfl) (nomark _))))) (pss_one (ps_ret pe_bl)) pss_nil)
      (pss_one (ps_ret (pe_and (pe_cmpR op_eq (pe_fld (pv 0) rfl) (pe_fld (pv 1) rfl) (nomark _)) (pe_and (pe_cmpR (op_eqO K rfl EQ (hr.mono (by decide))) (pe_fld (pv 0) rfl) (pe_fld (pv 1) rfl) (nomark _)) (pe_one (pe_cmpR op_eq (pe_fld (pv 0) rfl) (pe_fld (pv 1) rfl) (nomark _))))))), ?_⟩
    obtain ⟨⟨dx, pl, hz, hp⟩, _, _, wf, _, _⟩ := hA
    rcases h with ⟨z2, j, f2, m, u, rfl, hB, q⟩ | ⟨Ty, hT, hk, q⟩
    · by_cases e : j = 6
      · subst e
        obtain ⟨⟨dy, pm, hy, hpm⟩, _, _, wf2, _, _⟩ := hB
        obtain ⟨s, b, rfl, hs, nb⟩ := wf
        obtain ⟨s', b', rfl, _, _⟩ := wf2
        have key : ceq 6 f1 l [.str s, .int b] 6 f2 m [.str s', .int b'] = decide (f1 = f2 ∧ l = m ∧ s = s' ∧ b = b') := by
          unfold ceq
          exact decide_eq_decide.mpr (by simp)
        rw [key] at q
        have no : ¬ (f1 = f2 ∧ l = m ∧ s = s' ∧ b = b') → Q (.bl false) H := fun h => by
          rw [decide_eq_false h] at q
          exact q
        clear key
        refine ⟨_, rfl, .ref z2, .ref (C 6), _, _, true, rfl, .own (C 6), tyC T hi hy, T.kk 6 hi 6 hi, _, rfl, iteF ?_⟩
        refine ⟨_, rfl, fld T hz hi (j := 3) rfl rfl ⟨_, rfl, fld T hy hi (j := 3) rfl rfl ⟨rfl, _, rfl, ?_⟩⟩⟩
        by_cases e0 : V.str s = V.str s'
        · have E_sign := V.str.inj e0
          refine iteNS e0 ?_
          refine ⟨_, rfl, fld T hz hi (j := 1) rfl rfl ⟨_, rfl, fld T hy hi (j := 1) rfl rfl ⟨rfl, _, rfl, ite2 (fun e1 => ?_) (fun e1 => (no fun z => e1 (decide_eq_true (by rw [z.1]))))⟩⟩⟩
          have E_function := V.str.inj (of_decide_eq_true e1)
          refine ⟨_, rfl, fld T hz hi (j := 2) rfl rfl ⟨_, rfl, fld T hy hi (j := 2) rfl rfl (eq_q PT hp hpm ⟨_, rfl, ite2 (fun e2 => ?_) (fun e2 => no fun z => e2 (decide_eq_true z.2.1))⟩)⟩⟩
          have E_places : l = m := of_decide_eq_true e2
          exact ⟨_, rfl, fld T hz hi (j := 4) rfl rfl ⟨_, rfl, fld T hy hi (j := 4) rfl rfl ⟨rfl, (by rw [show decide (f1 = f2 ∧ l = m ∧ s = s' ∧ b = b') = decide (V.int b = V.int b') from decide_eq_decide.mpr ⟨fun z => by rw [z.2.2.2], fun zz => ⟨E_function, E_places, E_sign, V.int.inj zz⟩⟩] at q; exact q)⟩⟩⟩
        · rw [decide_eq_false e0]
          exact iteT (no fun z => e0 (by rw [z.2.2.1]))
      · have kf : PySem.W.kitOne K (.ref (C j)) (.ref (C 6)) = some false := by
          rw [T.kk j hB.lt 6 hi, decide_eq_false e]
        rw [show ceq 6 f1 l x j f2 m u = false from decide_eq_false fun z => e z.1.symm] at q
        obtain ⟨dy, pm, hy, _⟩ := hB.ex
        exact ⟨_, rfl, .ref z2, .ref (C 6), _, _, false, rfl, .own (C 6), tyC T hB.lt hy, kf, _, rfl, iteT q⟩
    · exact ⟨_, rfl, y, .ref (C 6), _, _, false, rfl, .own (C 6), hT, hk, _, rfl, iteT q⟩
end
end OR

namespace OR
open PySem PySem.Spec PyProof.Rows L2
/-! ### == and != of lists and tuples whose items have their own ==: both answers -/
section
open PySem.SeqAt
open AutoSeq1 (wpAny_loadPart')
open MeetsSeq MeetsSeq2 MeetsSeq3 SeqRoads2
variable {prog : Program} {w : World} {A : Around} {R : Result → Shared → Prop}
/-- what stands at two lists of N items each; J: behind two items that are not equal -/
structure TwoL (l b : Addr) (N : Nat) (s : Shared) (xs ys : Array Value) : Prop where
  ga : ∃ n, s.heap.get? l = some { cls := .type "list", data := .seq xs n }
  gb : ∃ n, s.heap.get? b = some { cls := .type "list", data := .seq ys n }
  za : xs.size = N
  zb : ys.size = N
structure Loop (prog : Program) (w : World) (A : Around) (E : Value → Shared → Prop) (l b : Addr) (N : Nat) (I : Nat → Shared → Prop) (J : Shared → Prop) : Prop where
  at_ : ∀ i s, I i s → ∃ xs ys, TwoL l b N s xs ys ∧ ∀ (h1 : i < xs.size) (h2 : i < ys.size),
    wpAny (model prog w) A.in1 (eqBool xs[i] ys[i]) (fun r t => (r = true ∧ I (i + 1) t) ∨ (r = false ∧ J t)) E s
  no : ∀ t, J t → ∃ xs ys, TwoL l b N t xs ys
theorem loop_eq (l b : Addr) (N : Nat) (I : Nat → Shared → Prop) (J : Shared → Prop) (hl : Loop prog w A (fun e t => R (.error e) t) l b N I J)
    (yes : ∀ t, I N t → R (.ok (.ret (.bool true))) t) (no : ∀ t, J t → R (.ok (.ret (.bool false))) t) (k : Nat) :
    ∀ i : Nat, N - i = k → i ≤ N → ∀ s, I i s →
      wpAny (model prog w) A.in1 (Builtin.«list.__eq__.loop» ⟨[.ref l, .ref b, rawInt i, rawInt 2], []⟩) (GQ.FinOf prog w A R) (fun e t => R (.error e) t) s := by
  induction k with
  | zero =>
    intro i hk hi s h
    obtain ⟨xs, ys, ⟨⟨n1, ga⟩, ⟨n2, gb⟩, za, zb⟩, _⟩ := hl.at_ _ _ h
    obtain rfl : i = N := by omega
    have hR := yes s h
    obtain ⟨hp, g, d, tk, os⟩ := s
    wp_walk using wpAny_loadPart' ga, wpAny_loadPart' gb
    have o1 : xs[((i : Nat) : Int).toNat]? = none := by simp; omega
    have o2 : ys[((i : Nat) : Int).toNat]? = none := by simp; omega
    rw [o1, o2]
    wp_walk using wpAny_loadPart' ga, wpAny_loadPart' gb
    show R (.ok (.ret (.bool (xs.size == ys.size)))) _
    rw [za, zb]
    simpa using hR
  | succ k ih =>
    intro i hk hi s h
    obtain ⟨xs, ys, ⟨⟨n1, ga⟩, ⟨n2, gb⟩, za, zb⟩, turn⟩ := hl.at_ _ _ h
    have i1 : i < xs.size := by omega
    have i2 : i < ys.size := by omega
    have ht := turn i1 i2
    obtain ⟨hp, g, d, tk, os⟩ := s
    wp_walk using wpAny_loadPart' ga, wpAny_loadPart' gb
    have o1 : xs[((i : Nat) : Int).toNat]? = some xs[i] := by simp [i1]
    have o2 : ys[((i : Nat) : Int).toNat]? = some ys[i] := by simp [i2]
    have hc : ((i : Int) + 1) = ((i + 1 : Nat) : Int) := by omega
    rw [o1, o2]
    refine wpAny_bind (wpAny_mono ht (fun r t h2 => ?_) fun _ _ x => x)
    rcases h2 with ⟨rfl, h2⟩ | ⟨rfl, h2⟩
    · have hrec := ih (i + 1) (by omega) (by omega) t h2
      obtain ⟨hp2, g2, d2, tk2, os2⟩ := t
      wp_walk
      rw [hc]
      exact ⟨plainId_quiet plain_eq_loop _, codeAny_builtin entry_eq_loop (by
        rw [Around.under_plainId plain_eq_loop _]; exact hrec)⟩
    · obtain ⟨us, vs, ⟨⟨m1, ha⟩, ⟨m2, hb⟩, ya, yb⟩⟩ := hl.no _ h2
      have hR := no _ h2
      have p1 : i < us.size := by omega
      have p2 : i < vs.size := by omega
      have q1 : us[((i : Nat) : Int).toNat]? = some us[i] := by simp [p1]
      have q2 : vs[((i : Nat) : Int).toNat]? = some vs[i] := by simp [p2]
      obtain ⟨hp2, g2, d2, tk2, os2⟩ := t
      wp_walk using wpAny_loadPart' ha, wpAny_loadPart' hb
      rw [q1, q2]
      wp_walk
      simpa using hR
theorem list_eq (l b : Addr) (N : Nat) (I : Nat → Shared → Prop) (J : Shared → Prop) (hl : Loop prog w A (fun e t => R (.error e) t) l b N I J)
    (yes : ∀ t, I N t → R (.ok (.ret (.bool true))) t) (no : ∀ t, J t → R (.ok (.ret (.bool false))) t) {s : Shared} (h : I 0 s) :
    wpAny (model prog w) A.in1 (Builtin.«list.__eq__» ⟨[.ref l, .ref b], []⟩) (GQ.FinOf prog w A R) (fun e t => R (.error e) t) s := by
  obtain ⟨xs, ys, ⟨⟨n1, ga⟩, ⟨n2, gb⟩, za, zb⟩, _⟩ := hl.at_ _ _ h
  have hrec := loop_eq (A := A) (R := R) l b N I J hl yes no _ 0 rfl (Nat.zero_le _) s h
  obtain ⟨hp, g, d, tk, os⟩ := s
  have f3 := AutoSeq1.sub_list_list
  have hz : ¬ (xs.size != ys.size) = true := by simp [za, zb]
  wp_walk using wpAny_loadPart' ga, wpAny_loadPart' gb
  exact ⟨plainId_quiet plain_eq_loop _, codeAny_builtin entry_eq_loop (by
    rw [Around.under_plainId plain_eq_loop _]; exact hrec)⟩
theorem listLen_eq (l b : Addr) (xs ys : Array Value) (n1 n2 : Nat) (hz : (xs.size != ys.size) = true) {s : Shared} (ga : s.heap.get? l = some { cls := .type "list", data := .seq xs n1 }) (gb : s.heap.get? b = some { cls := .type "list", data := .seq ys n2 }) (no : R (.ok (.ret (.bool false))) s) :
    wpAny (model prog w) A.in1 (Builtin.«list.__eq__» ⟨[.ref l, .ref b], []⟩) (GQ.FinOf prog w A R) (fun e t => R (.error e) t) s := by
  obtain ⟨hp, g, d, tk, os⟩ := s
  have f3 := AutoSeq1.sub_list_list
  wp_walk using wpAny_loadPart' ga, wpAny_loadPart' gb
  exact no
theorem tup_eq (l b : Addr) (xs ys : Array Value) (n1 n2 : Nat) (dd dd2 : Option Addr) (sl sl2 : Array (Option Value)) (I : Nat → Shared → Prop) (J : Shared → Prop)
    (turn : ∀ i (h1 : i < xs.size) (h2 : i < ys.size) s, I i s → wpAny (model prog w) A.in1 (eqBool xs[i] ys[i]) (fun r t => (r = true ∧ I (i + 1) t) ∨ (r = false ∧ J t)) (fun e t => R (.error e) t) s)
    (fin : ∀ s, I (min xs.size ys.size) s → R (.ok (.ret (.bool (xs.size == ys.size)))) s) (no : ∀ t, J t → R (.ok (.ret (.bool false))) t) {s : Shared} (ga : s.heap.get? l = some { cls := .type "tuple", dict := dd, data := .seq xs n1, slots := sl }) (gb : s.heap.get? b = some { cls := .type "tuple", dict := dd2, data := .seq ys n2, slots := sl2 }) (h : I 0 s) :
    wpAny (model prog w) A.in1 (Builtin.«tuple.__eq__» ⟨[.ref l, .ref b], []⟩) (GQ.FinOf prog w A R) (fun e t => R (.error e) t) s := by
  have f2 := AutoSeq1.sub_tuple_tuple
  have hZ : (xs.toList.zip ys.toList).length = min xs.size ys.size := by simp
  have h0 := h
  obtain ⟨hp, g, d, tk, os⟩ := s
  wp_walk using wpAny_loadPart' ga, wpAny_loadPart' gb, wpAny_forIn_list _ (fun rest z t => z.1 = none ∧ ∃ i, rest = (xs.toList.zip ys.toList).drop i ∧ i ≤ min xs.size ys.size ∧ I i t) _
  case turn =>
    rintro ⟨y, x⟩ rest z t ⟨hz', i, hz, hi, hI⟩
    have lt : i < (xs.toList.zip ys.toList).length := by
      rcases Nat.lt_or_ge i (xs.toList.zip ys.toList).length with k | k
      · exact k
      · rw [List.drop_of_length_le k] at hz; cases hz
    have h1 : i < xs.size := by omega
    have h2 : i < ys.size := by omega
    rw [List.drop_eq_getElem_cons lt] at hz
    injection hz with hyx hrest
    have hy : y = xs[i] := by have := congrArg Prod.fst hyx; simpa using this
    have hx : x = ys[i] := by have := congrArg Prod.snd hyx; simpa using this
    subst hy hx
    refine wpAny_bind (wpAny_mono (turn i h1 h2 t hI) (fun r t2 q2 => ?_) fun _ _ x => x)
    rcases q2 with ⟨rfl, q2⟩ | ⟨rfl, q2⟩
    · wp_walk
      exact ⟨rfl, i + 1, hrest, by omega, q2⟩
    · have hR := no _ q2
      wp_walk
      exact hR
  case fin =>
    rintro ⟨b1, b2⟩ t ⟨hb', i, hz, hi, hI⟩
    simp only at hb'
    subst hb'
    have ge : min xs.size ys.size ≤ i := by
      rcases Nat.lt_or_ge i (xs.toList.zip ys.toList).length with k | k
      · rw [List.drop_eq_getElem_cons k] at hz; cases hz
      · exact hZ ▸ k
    obtain rfl : i = min xs.size ys.size := by omega
    have hR := fin t hI
    wp_walk
    simpa [Builtin.Tuple.tupleCompareSizes, bne] using hR
  case h =>
    exact ⟨rfl, 0, rfl, Nat.zero_le _, h0⟩
theorem loop_ne (l b : Addr) (N : Nat) (I : Nat → Shared → Prop) (J : Shared → Prop) (hl : Loop prog w A (fun e t => R (.error e) t) l b N I J)
    (yes : ∀ t, I N t → R (.ok (.ret (.bool false))) t) (no : ∀ t, J t → R (.ok (.ret (.bool true))) t) (k : Nat) :
    ∀ i : Nat, N - i = k → i ≤ N → ∀ s, I i s →
      wpAny (model prog w) A.in1 (Builtin.«list.__eq__.loop» ⟨[.ref l, .ref b, rawInt i, rawInt 3], []⟩) (GQ.FinOf prog w A R) (fun e t => R (.error e) t) s := by
  induction k with
  | zero =>
    intro i hk hi s h
    obtain ⟨xs, ys, ⟨⟨n1, ga⟩, ⟨n2, gb⟩, za, zb⟩, _⟩ := hl.at_ _ _ h
    obtain rfl : i = N := by omega
    have hR := yes s h
    obtain ⟨hp, g, d, tk, os⟩ := s
    wp_walk using wpAny_loadPart' ga, wpAny_loadPart' gb
    have o1 : xs[((i : Nat) : Int).toNat]? = none := by simp; omega
    have o2 : ys[((i : Nat) : Int).toNat]? = none := by simp; omega
    rw [o1, o2]
    wp_walk using wpAny_loadPart' ga, wpAny_loadPart' gb
    show R (.ok (.ret (.bool (xs.size != ys.size)))) _
    rw [za, zb]
    simpa using hR
  | succ k ih =>
    intro i hk hi s h
    obtain ⟨xs, ys, ⟨⟨n1, ga⟩, ⟨n2, gb⟩, za, zb⟩, turn⟩ := hl.at_ _ _ h
    have i1 : i < xs.size := by omega
    have i2 : i < ys.size := by omega
    have ht := turn i1 i2
    obtain ⟨hp, g, d, tk, os⟩ := s
    wp_walk using wpAny_loadPart' ga, wpAny_loadPart' gb
    have o1 : xs[((i : Nat) : Int).toNat]? = some xs[i] := by simp [i1]
    have o2 : ys[((i : Nat) : Int).toNat]? = some ys[i] := by simp [i2]
    have hc : ((i : Int) + 1) = ((i + 1 : Nat) : Int) := by omega
    rw [o1, o2]
    refine wpAny_bind (wpAny_mono ht (fun r t h2 => ?_) fun _ _ x => x)
    rcases h2 with ⟨rfl, h2⟩ | ⟨rfl, h2⟩
    · have hrec := ih (i + 1) (by omega) (by omega) t h2
      obtain ⟨hp2, g2, d2, tk2, os2⟩ := t
      wp_walk
      rw [hc]
      exact ⟨plainId_quiet plain_eq_loop _, codeAny_builtin entry_eq_loop (by
        rw [Around.under_plainId plain_eq_loop _]; exact hrec)⟩
    · obtain ⟨us, vs, ⟨⟨m1, ha⟩, ⟨m2, hb⟩, ya, yb⟩⟩ := hl.no _ h2
      have hR := no _ h2
      have p1 : i < us.size := by omega
      have p2 : i < vs.size := by omega
      have q1 : us[((i : Nat) : Int).toNat]? = some us[i] := by simp [p1]
      have q2 : vs[((i : Nat) : Int).toNat]? = some vs[i] := by simp [p2]
      obtain ⟨hp2, g2, d2, tk2, os2⟩ := t
      wp_walk using wpAny_loadPart' ha, wpAny_loadPart' hb
      rw [q1, q2]
      wp_walk
      simpa using hR
theorem list_ne (l b : Addr) (N : Nat) (I : Nat → Shared → Prop) (J : Shared → Prop) (hl : Loop prog w A (fun e t => R (.error e) t) l b N I J)
    (yes : ∀ t, I N t → R (.ok (.ret (.bool false))) t) (no : ∀ t, J t → R (.ok (.ret (.bool true))) t) {s : Shared} (h : I 0 s) :
    wpAny (model prog w) A.in1 (Builtin.«list.__ne__» ⟨[.ref l, .ref b], []⟩) (GQ.FinOf prog w A R) (fun e t => R (.error e) t) s := by
  obtain ⟨xs, ys, ⟨⟨n1, ga⟩, ⟨n2, gb⟩, za, zb⟩, _⟩ := hl.at_ _ _ h
  have hrec := loop_ne (A := A) (R := R) l b N I J hl yes no _ 0 rfl (Nat.zero_le _) s h
  obtain ⟨hp, g, d, tk, os⟩ := s
  have f3 := AutoSeq1.sub_list_list
  have hz : ¬ (xs.size != ys.size) = true := by simp [za, zb]
  wp_walk using wpAny_loadPart' ga, wpAny_loadPart' gb
  exact ⟨plainId_quiet plain_eq_loop _, codeAny_builtin entry_eq_loop (by
    rw [Around.under_plainId plain_eq_loop _]; exact hrec)⟩
theorem listLen_ne (l b : Addr) (xs ys : Array Value) (n1 n2 : Nat) (hz : (xs.size != ys.size) = true) {s : Shared} (ga : s.heap.get? l = some { cls := .type "list", data := .seq xs n1 }) (gb : s.heap.get? b = some { cls := .type "list", data := .seq ys n2 }) (no : R (.ok (.ret (.bool true))) s) :
    wpAny (model prog w) A.in1 (Builtin.«list.__ne__» ⟨[.ref l, .ref b], []⟩) (GQ.FinOf prog w A R) (fun e t => R (.error e) t) s := by
  obtain ⟨hp, g, d, tk, os⟩ := s
  have f3 := AutoSeq1.sub_list_list
  wp_walk using wpAny_loadPart' ga, wpAny_loadPart' gb
  exact no
theorem tup_ne (l b : Addr) (xs ys : Array Value) (n1 n2 : Nat) (dd dd2 : Option Addr) (sl sl2 : Array (Option Value)) (I : Nat → Shared → Prop) (J : Shared → Prop)
    (turn : ∀ i (h1 : i < xs.size) (h2 : i < ys.size) s, I i s → wpAny (model prog w) A.in1 (eqBool xs[i] ys[i]) (fun r t => (r = true ∧ I (i + 1) t) ∨ (r = false ∧ J t)) (fun e t => R (.error e) t) s)
    (fin : ∀ s, I (min xs.size ys.size) s → R (.ok (.ret (.bool (xs.size != ys.size)))) s) (no : ∀ t, J t → R (.ok (.ret (.bool true))) t) {s : Shared} (ga : s.heap.get? l = some { cls := .type "tuple", dict := dd, data := .seq xs n1, slots := sl }) (gb : s.heap.get? b = some { cls := .type "tuple", dict := dd2, data := .seq ys n2, slots := sl2 }) (h : I 0 s) :
    wpAny (model prog w) A.in1 (Builtin.«tuple.__ne__» ⟨[.ref l, .ref b], []⟩) (GQ.FinOf prog w A R) (fun e t => R (.error e) t) s := by
  have f2 := AutoSeq1.sub_tuple_tuple
  have hZ : (xs.toList.zip ys.toList).length = min xs.size ys.size := by simp
  have h0 := h
  obtain ⟨hp, g, d, tk, os⟩ := s
  wp_walk using wpAny_loadPart' ga, wpAny_loadPart' gb, wpAny_forIn_list _ (fun rest z t => z.1 = none ∧ ∃ i, rest = (xs.toList.zip ys.toList).drop i ∧ i ≤ min xs.size ys.size ∧ I i t) _
  case turn =>
    rintro ⟨y, x⟩ rest z t ⟨hz', i, hz, hi, hI⟩
    have lt : i < (xs.toList.zip ys.toList).length := by
      rcases Nat.lt_or_ge i (xs.toList.zip ys.toList).length with k | k
      · exact k
      · rw [List.drop_of_length_le k] at hz; cases hz
    have h1 : i < xs.size := by omega
    have h2 : i < ys.size := by omega
    rw [List.drop_eq_getElem_cons lt] at hz
    injection hz with hyx hrest
    have hy : y = xs[i] := by have := congrArg Prod.fst hyx; simpa using this
    have hx : x = ys[i] := by have := congrArg Prod.snd hyx; simpa using this
    subst hy hx
    refine wpAny_bind (wpAny_mono (turn i h1 h2 t hI) (fun r t2 q2 => ?_) fun _ _ x => x)
    rcases q2 with ⟨rfl, q2⟩ | ⟨rfl, q2⟩
    · wp_walk
      exact ⟨rfl, i + 1, hrest, by omega, q2⟩
    · have hR := no _ q2
      wp_walk
      exact hR
  case fin =>
    rintro ⟨b1, b2⟩ t ⟨hb', i, hz, hi, hI⟩
    simp only at hb'
    subst hb'
    have ge : min xs.size ys.size ≤ i := by
      rcases Nat.lt_or_ge i (xs.toList.zip ys.toList).length with k | k
      · rw [List.drop_eq_getElem_cons k] at hz; cases hz
      · exact hZ ▸ k
    obtain rfl : i = min xs.size ys.size := by omega
    have hR := fin t hI
    wp_walk
    simpa [Builtin.Tuple.tupleCompareSizes, bne] using hR
  case h =>
    exact ⟨rfl, 0, rfl, Nat.zero_le _, h0⟩
end
end OR

namespace OR
open PySem PySem.Spec PyProof.Rows L2
/-! ### values that stand for models -/
abbrev Rep (α : Type) := Hp → V → α → Prop
inductive All2 {α β : Type} (p : α → β → Prop) : List α → List β → Prop where
  | nil : All2 p [] []
  | cons {a : α} {b : β} {as : List α} {bs : List β} (h : p a b) (t : All2 p as bs) : All2 p (a :: as) (b :: bs)
namespace All2
variable {α β : Type} {p q : α → β → Prop}
theorem length : ∀ {as : List α} {bs : List β}, All2 p as bs → as.length = bs.length
  | _, _, .nil => rfl
  | _, _, .cons _ t => by rw [List.length_cons, List.length_cons, t.length]
theorem imp (f : ∀ a b, p a b → q a b) : ∀ {as : List α} {bs : List β}, All2 p as bs → All2 q as bs
  | _, _, .nil => .nil
  | _, _, .cons h t => .cons (f _ _ h) (t.imp f)
theorem append : ∀ {as as' : List α} {bs bs' : List β}, All2 p as bs → All2 p as' bs' → All2 p (as ++ as') (bs ++ bs')
  | _, _, _, _, .nil, h => h
  | _, _, _, _, .cons h t, h' => .cons h (t.append h')
theorem get : ∀ {as : List α} {bs : List β}, All2 p as bs → ∀ {i : Nat} {a : α} {b : β}, as[i]? = some a → bs[i]? = some b → p a b
  | _, _, .nil, _, _, _, h, _ => by simp at h
  | _, _, .cons h _, 0, _, _, h1, h2 => by
    simp at h1 h2
    subst h1 h2
    exact h
  | _, _, .cons _ t, i + 1, _, _, h1, h2 => t.get (i := i) (by simpa using h1) (by simpa using h2)
theorem getL : ∀ {as : List α} {bs : List β}, All2 p as bs → ∀ {i : Nat} {a : α}, as[i]? = some a → ∃ b, bs[i]? = some b ∧ p a b
  | _, _, .nil, _, _, h => by simp at h
  | _, _, .cons (b := b) h _, 0, _, h1 => by
    simp at h1
    subst h1
    exact ⟨b, rfl, h⟩
  | _, _, .cons _ t, i + 1, _, h1 => t.getL (i := i) (by simpa using h1)
theorem take : ∀ {as : List α} {bs : List β}, All2 p as bs → ∀ n, All2 p (as.take n) (bs.take n)
  | _, _, .nil, n => by simp; exact .nil
  | _, _, .cons h t, 0 => by simp; exact .nil
  | _, _, .cons h t, n + 1 => by rw [List.take_succ_cons, List.take_succ_cons]; exact .cons h (t.take n)
theorem drop : ∀ {as : List α} {bs : List β}, All2 p as bs → ∀ n, All2 p (as.drop n) (bs.drop n)
  | _, _, .nil, n => by simp; exact .nil
  | _, _, .cons h t, 0 => by rw [List.drop_zero, List.drop_zero]; exact .cons h t
  | _, _, .cons h t, n + 1 => by rw [List.drop_succ_cons, List.drop_succ_cons]; exact t.drop n
theorem mem : ∀ {as : List α} {bs : List β}, All2 p as bs → ∀ {a : α}, a ∈ as → ∃ b, b ∈ bs ∧ p a b
  | _, _, .nil, _, h => nomatch h
  | _, _, .cons (b := b) h t, a, hm => by
    rcases List.mem_cons.mp hm with e | e
    · subst e
      exact ⟨b, List.mem_cons_self, h⟩
    · obtain ⟨c, hc, hp⟩ := t.mem e
      exact ⟨c, List.mem_cons_of_mem _ hc, hp⟩
end All2
/-- == inside lists and tuples gives whether the models are equal, and only makes objects -/
def EqR {α : Type} [DecidableEq α] (X : Cx) (n : Nat) (Rp : Rep α) : Prop :=
  ∀ (A : Around) (pins : List (Addr × Obj)) (s : Shared) (σ : L2.St) (H : Hp) (x y : V) (u v : Value) (a b : α), Sub X n A → Inv X pins σ H s → RelV x u → RelV y v → Rp H x a → Rp H y b →
    wpAny (model X.prog X.w) A (eqBool u v) (fun r t => r = decide (a = b) ∧ ∃ H', Inv X pins σ H' t ∧ Ext H H') X.xe s
/-- the same of the comparison itself; neg: of != -/
def RcR {α : Type} [DecidableEq α] (X : Cx) (n : Nat) (neg : Bool) (Rp : Rep α) : Prop :=
  ∀ (A : Around) (pins : List (Addr × Obj)) (s : Shared) (σ : L2.St) (H : Hp) (x y : V) (u v : Value) (a b : α), Sub X n A → Inv X pins σ H s → RelV x u → RelV y v → Rp H x a → Rp H y b →
    wpAny (model X.prog X.w) A (richCompare (if neg then .NotEq else .Eq) u v) (fun r t => r = .bool (xor neg (decide (a = b))) ∧ ∃ H', Inv X pins σ H' t ∧ Ext H H') X.xe s
structure MonR {α : Type} (Rp : Rep α) : Prop where
  up : ∀ {H H' : Hp} {x : V} {a : α}, Ext H H' → Rp H x a → Rp H' x a
  fn : ∀ {H : Hp} {x : V} {a b : α}, Rp H x a → Rp H x b → a = b
def LRep {α : Type} (Rp : Rep α) : Rep (List α) := fun H x L => ∃ a xs, x = .ref a ∧ H a = some (.lst xs) ∧ All2 (Rp H) xs L
def TRep {α : Type} (K : PySem.W.Frag) (Rp : Rep α) : Rep (List α) := fun H x L => ∃ a xs, x = .ref a ∧ SqT K H a xs ∧ All2 (Rp H) xs L
theorem all2_fn {α : Type} {Rp : V → α → Prop} (fn : ∀ (x : V) (a b : α), Rp x a → Rp x b → a = b) : ∀ {xs : List V} {L M : List α}, All2 Rp xs L → All2 Rp xs M → L = M
  | _, _, _, .nil, .nil => rfl
  | _, _, _, .cons h t, .cons h' t' => by rw [fn _ _ _ h h', all2_fn fn t t']
theorem mon_LRep {α : Type} {Rp : Rep α} (m : MonR Rp) : MonR (LRep Rp) := ⟨fun e ⟨a, xs, hx, h, p⟩ => ⟨a, xs, hx, e _ _ h, p.imp fun _ _ => m.up e⟩, fun ⟨a, xs, hx, h, p⟩ ⟨b, ys, hy, h', p'⟩ => by
  subst hx
  cases hy
  rw [h] at h'
  cases h'
  exact all2_fn (Rp := Rp _) (fun _ _ _ h h' => m.fn h h') p p'⟩
theorem takes_step {α : Type} {L M : List α} {i : Nat} {a b : α} (ha : L[i]? = some a) (hb : M[i]? = some b) (h : L.take i = M.take i) (e : a = b) : L.take (i + 1) = M.take (i + 1) := by
  rw [List.take_add_one, List.take_add_one, h, ha, hb, e]
theorem ne_at {α : Type} {L M : List α} {i : Nat} {a b : α} (ha : L[i]? = some a) (hb : M[i]? = some b) (h : a ≠ b) : L ≠ M := fun e => h (by
  subst e
  rw [ha] at hb
  exact Option.some.inj hb)
section
variable {α : Type} [DecidableEq α] {X : Cx} {n : Nat} {Rp : Rep α}
/-- what the loop over the items keeps, and what is left behind two items that differ -/
def KeepI (X : Cx) (pins : List (Addr × Obj)) (σ : L2.St) (H : Hp) (L M : List α) (i : Nat) (t : Shared) : Prop := (∃ H', Inv X pins σ H' t ∧ Ext H H') ∧ L.take i = M.take i
def GoneJ (X : Cx) (pins : List (Addr × Obj)) (σ : L2.St) (H : Hp) (L M : List α) (t : Shared) : Prop := (∃ H', Inv X pins σ H' t ∧ Ext H H') ∧ L ≠ M
theorem step_items (m : MonR Rp) (h : EqR X n Rp) {A : Around} (sb : Sub X (n + 1) A) {pins : List (Addr × Obj)} {σ : L2.St} {H : Hp} {xs ys : List V} {L M : List α} {us vs : List Value} (pa : All2 (Rp H) xs L) (pb : All2 (Rp H) ys M) (r1 : Vals xs us) (r2 : Vals ys vs)
    (i : Nat) (h1 : i < us.toArray.size) (h2 : i < vs.toArray.size) (t : Shared) (k : KeepI X pins σ H L M i t) :
    wpAny (model X.prog X.w) A.in1 (eqBool us.toArray[i] vs.toArray[i]) (fun r t2 => (r = true ∧ KeepI X pins σ H L M (i + 1) t2) ∨ (r = false ∧ GoneJ X pins σ H L M t2)) X.xe t := by
  obtain ⟨⟨H1, I1, e1⟩, k⟩ := k
  have b1 : i < us.length := by simpa using h1
  have b2 : i < vs.length := by simpa using h2
  have g1 : us[i]? = some us.toArray[i] := by rw [List.getElem?_eq_getElem b1] <;> simp
  have g2 : vs[i]? = some vs.toArray[i] := by rw [List.getElem?_eq_getElem b2] <;> simp
  have c1 : i < xs.length := by rw [r1.length]; exact b1
  have c2 : i < ys.length := by rw [r2.length]; exact b2
  obtain ⟨u, hu, ru⟩ := r1.get (List.getElem?_eq_getElem c1)
  obtain ⟨v, hv, rv⟩ := r2.get (List.getElem?_eq_getElem c2)
  obtain ⟨a, ha, qa⟩ := pa.getL (List.getElem?_eq_getElem c1)
  obtain ⟨b, hb, qb⟩ := pb.getL (List.getElem?_eq_getElem c2)
  rw [g1] at hu
  rw [g2] at hv
  rw [Option.some.inj hu, Option.some.inj hv]
  refine wpAny_mono (h A.in1 pins t σ H1 _ _ u v a b sb.in1 I1 ru rv (m.up e1 qa) (m.up e1 qb)) (fun r t2 q => ?_) fun _ _ x => x
  obtain ⟨hr, H2, I2, e2⟩ := q
  by_cases e : a = b
  · exact .inl ⟨by rw [hr]; exact decide_eq_true e, ⟨H2, I2, e1.trans e2⟩, takes_step ha hb k e⟩
  · exact .inr ⟨by rw [hr]; exact decide_eq_false e, ⟨H2, I2, e1.trans e2⟩, ne_at ha hb e⟩
theorem two_lists {pins : List (Addr × Obj)} {σ : L2.St} {H H1 : Hp} {t : Shared} {a b : Addr} {xs ys : List V} (I : Inv X pins σ H1 t) (e : Ext H H1) (ha : H a = some (.lst xs)) (hb : H b = some (.lst ys)) (hz : xs.length = ys.length) :
    ∃ us vs, TwoL a b xs.length t us.toArray vs.toArray ∧ Vals xs us ∧ Vals ys vs := by
  obtain ⟨z, us, k, r, g⟩ := I.hok a _ (e _ _ ha)
  obtain ⟨z2, vs, k2, r2, g2⟩ := I.hok b _ (e _ _ hb)
  exact ⟨us, vs, ⟨⟨k, g⟩, ⟨k2, g2⟩, by rw [List.size_toArray, ← r.length], by rw [List.size_toArray, ← r2.length, ← hz]⟩, r, r2⟩
theorem loopI (m : MonR Rp) (h : EqR X n Rp) {A : Around} (sb : Sub X (n + 1) A) {pins : List (Addr × Obj)} {σ : L2.St} {H : Hp} {a b : Addr} {xs ys : List V} {L M : List α} (ha : H a = some (.lst xs)) (hb : H b = some (.lst ys)) (pa : All2 (Rp H) xs L) (pb : All2 (Rp H) ys M) (hz : xs.length = ys.length) :
    Loop X.prog X.w A X.xe a b xs.length (KeepI X pins σ H L M) (GoneJ X pins σ H L M) := by
  refine ⟨fun i t k => ?_, fun t k => ?_⟩
  · obtain ⟨H1, I1, e1⟩ := id k.1
    obtain ⟨us, vs, tw, r, r2⟩ := two_lists I1 e1 ha hb hz
    exact ⟨_, _, tw, fun h1 h2 => step_items m h sb pa pb r r2 i h1 h2 t k⟩
  · obtain ⟨H1, I1, e1⟩ := id k.1
    obtain ⟨us, vs, tw, _, _⟩ := two_lists I1 e1 ha hb hz
    exact ⟨_, _, tw⟩
theorem len_ne {xs ys : List V} {H : Hp} {L M : List α} (pa : All2 (Rp H) xs L) (pb : All2 (Rp H) ys M) (hz : xs.length ≠ ys.length) : L ≠ M := fun e => hz (by rw [pa.length, pb.length, e])
theorem take_all {L M : List α} {xs ys : List V} {H : Hp} (pa : All2 (Rp H) xs L) (pb : All2 (Rp H) ys M) (hz : xs.length = ys.length) (h : L.take xs.length = M.take xs.length) : L = M := by
  rw [List.take_of_length_le (by rw [pa.length]; exact Nat.le_refl _), List.take_of_length_le (by rw [hz, pb.length]; exact Nat.le_refl _)] at h
  exact h
theorem rcR_list (m : MonR Rp) (h : EqR X n Rp) (neg : Bool) : RcR X (n + 1) neg (LRep Rp) := by
  intro A pins s σ H x y u v L M sb I rx ry ⟨a, xs, ex, ha, pa⟩ ⟨b, ys, ey, hb, pb⟩
  subst ex ey
  obtain rfl : u = Value.ref a := rx
  obtain rfl : v = Value.ref b := ry
  obtain ⟨z, us, k, r, g⟩ := I.hok a _ ha
  obtain ⟨z2, vs, k2, r2, g2⟩ := I.hok b _ hb
  have here : ∃ H', Inv X pins σ H' s ∧ Ext H H' := ⟨H, I, Ext.rfl'⟩
  by_cases hz : xs.length = ys.length
  · have lo := loopI (pins := pins) (σ := σ) m h sb ha hb pa pb hz
    have st : KeepI X pins σ H L M 0 s := ⟨here, by rw [List.take_zero, List.take_zero]⟩
    cases neg with
    | false =>
      refine wpAny_richCompare_same_room (op := .Eq) ⟨_, g, rfl⟩ ⟨_, g2, rfl⟩ F.slot_list_eq (GQ.call_here F.slot_list_eq ⟨_, g, rfl⟩ F.entry_list_eq (F.args_list_eq_2 _ _) ?_) sb.room.units0
      refine list_eq (R := wants (fun v s' => v ≠ .notImplemented ∧ _) X.xe) a b xs.length _ _ lo (fun t k => ⟨(fun x => nomatch x), ?_, k.1⟩) (fun t k => ⟨(fun x => nomatch x), ?_, k.1⟩) st
      · rw [decide_eq_true (take_all pa pb hz k.2)]; simp
      · rw [decide_eq_false k.2]; rfl
    | true =>
      refine wpAny_richCompare_same_room (op := .NotEq) ⟨_, g, rfl⟩ ⟨_, g2, rfl⟩ F.slot_list_ne (GQ.call_here F.slot_list_ne ⟨_, g, rfl⟩ F.entry_list_ne (F.args_list_ne_2 _ _) ?_) sb.room.units0
      refine list_ne (R := wants (fun v s' => v ≠ .notImplemented ∧ _) X.xe) a b xs.length _ _ lo (fun t k => ⟨(fun x => nomatch x), ?_, k.1⟩) (fun t k => ⟨(fun x => nomatch x), ?_, k.1⟩) st
      · rw [decide_eq_true (take_all pa pb hz k.2)]; simp
      · rw [decide_eq_false k.2]; rfl
  · have sz : (us.toArray.size != vs.toArray.size) = true := by
      rw [List.size_toArray, List.size_toArray, ← r.length, ← r2.length]
      exact bne_iff_ne.mpr hz
    have d := decide_eq_false (len_ne pa pb hz)
    cases neg with
    | false =>
      refine wpAny_richCompare_same_room (op := .Eq) ⟨_, g, rfl⟩ ⟨_, g2, rfl⟩ F.slot_list_eq (GQ.call_here F.slot_list_eq ⟨_, g, rfl⟩ F.entry_list_eq (F.args_list_eq_2 _ _) ?_) sb.room.units0
      refine listLen_eq (R := wants (fun v s' => v ≠ .notImplemented ∧ _) X.xe) a b _ _ _ _ sz g g2 ⟨(fun x => nomatch x), ?_, here⟩
      rw [d]; rfl
    | true =>
      refine wpAny_richCompare_same_room (op := .NotEq) ⟨_, g, rfl⟩ ⟨_, g2, rfl⟩ F.slot_list_ne (GQ.call_here F.slot_list_ne ⟨_, g, rfl⟩ F.entry_list_ne (F.args_list_ne_2 _ _) ?_) sb.room.units0
      refine listLen_ne (R := wants (fun v s' => v ≠ .notImplemented ∧ _) X.xe) a b _ _ _ _ sz g g2 ⟨(fun x => nomatch x), ?_, here⟩
      rw [d]; rfl
theorem rcR_tup (m : MonR Rp) (h : EqR X n Rp) (neg : Bool) : RcR X (n + 1) neg (TRep X.K Rp) := by
  intro A pins s σ H x y u v L M sb I rx ry ⟨a, xs, ex, ha, pa⟩ ⟨b, ys, ey, hb, pb⟩
  subst ex ey
  obtain rfl : u = Value.ref a := rx
  obtain rfl : v = Value.ref b := ry
  obtain ⟨us, r, e, z⟩ := I.tuple ha
  obtain ⟨vs, r2, e2, z2⟩ := I.tuple hb
  have here : ∃ H', Inv X pins σ H' s ∧ Ext H H' := ⟨H, I, Ext.rfl'⟩
  have st : KeepI X pins σ H L M 0 s := ⟨here, by rw [List.take_zero, List.take_zero]⟩
  have fin : ∀ t, KeepI X pins σ H L M (min us.toArray.size vs.toArray.size) t → (us.toArray.size == vs.toArray.size) = decide (L = M) := fun t k => by
    have k2 := k.2
    rw [List.size_toArray, List.size_toArray, ← r.length, ← r2.length] at k2 ⊢
    by_cases hz : xs.length = ys.length
    · rw [← hz, Nat.min_self] at k2
      rw [decide_eq_true (take_all pa pb hz k2), hz]
      simp
    · rw [decide_eq_false (len_ne pa pb hz)]
      exact beq_eq_false_iff_ne.mpr hz
  obtain ⟨⟨cls, dd, data, sl⟩, ho, hc, n1, hd⟩ := id e
  obtain ⟨⟨cls2, dd2, data2, sl2⟩, ho2, hc2, n2, hd2⟩ := id e2
  simp only at hc hd hc2 hd2
  subst hc hd hc2 hd2
  cases neg with
  | false =>
    refine wpAny_richCompare_same_room (op := .Eq) ⟨_, ho, rfl⟩ ⟨_, ho2, rfl⟩ F.slot_tuple_eq (GQ.call_here F.slot_tuple_eq ⟨_, ho, rfl⟩ F.entry_tuple_eq (F.args_tuple_eq_2 _ _) ?_) sb.room.units0
    refine tup_eq (R := wants (fun v s' => v ≠ .notImplemented ∧ _) X.xe) a b _ _ _ _ _ _ _ _ (KeepI X pins σ H L M) (GoneJ X pins σ H L M) (fun i h1 h2 t k => step_items m h sb pa pb r r2 i h1 h2 t k) (fun t k => ⟨(fun x => nomatch x), ?_, k.1⟩) (fun t k => ⟨(fun x => nomatch x), ?_, k.1⟩) ho ho2 st
    · rw [fin t k]; simp
    · rw [decide_eq_false k.2]; rfl
  | true =>
    refine wpAny_richCompare_same_room (op := .NotEq) ⟨_, ho, rfl⟩ ⟨_, ho2, rfl⟩ F.slot_tuple_ne (GQ.call_here F.slot_tuple_ne ⟨_, ho, rfl⟩ F.entry_tuple_ne (F.args_tuple_ne_2 _ _) ?_) sb.room.units0
    refine tup_ne (R := wants (fun v s' => v ≠ .notImplemented ∧ _) X.xe) a b _ _ _ _ _ _ _ _ (KeepI X pins σ H L M) (GoneJ X pins σ H L M) (fun i h1 h2 t k => step_items m h sb pa pb r r2 i h1 h2 t k) (fun t k => ⟨(fun x => nomatch x), ?_, k.1⟩) (fun t k => ⟨(fun x => nomatch x), ?_, k.1⟩) ho ho2 st
    · rw [bne, fin t k]; simp
    · rw [decide_eq_false k.2]; rfl
/-- from the comparison of references to == inside a list -/
theorem RcR.eqR (m : MonR Rp) (h : RcR X n false Rp) (hr : ∀ H x a, Rp H x a → ∃ p, x = .ref p) : EqR X n Rp := by
  intro A pins s σ H x y u v L M sb I rx ry hx hy
  obtain ⟨a, ea⟩ := hr _ _ _ hx
  obtain ⟨b, eb⟩ := hr _ _ _ hy
  subst ea eb
  obtain rfl : u = Value.ref a := rx
  obtain rfl : v = Value.ref b := ry
  by_cases hab : a = b
  · subst hab
    refine SeqAt.EqAt.same (A := A) (s := s) (.ref a) X.prog X.w X.xe _ ⟨?_, H, I, Ext.rfl'⟩
    rw [decide_eq_true (m.fn hx hy)]
  · refine GQ.eqBool_refG hab (wpAny_mono (h A pins s σ H (.ref a) (.ref b) _ _ L M sb I rfl rfl hx hy) (fun r t q => ?_) fun _ _ x => x)
    obtain ⟨er, q⟩ := q
    refine ⟨decide (L = M), ?_, rfl, q⟩
    rw [er]; simp
/-- x == y, x != y as expressions -/
def rCmpR (neg : Bool) (Rp : Rep α) : R2 := fun x y H Q => ∃ a b, Rp H x a ∧ Rp H y b ∧ ∀ H', Ext H H' → Q (.bl (xor neg (decide (a = b)))) H'
theorem op_eqR (h : RcR X n false Rp) (hr : Room n X.A) : OpR X (compareOp .Eq) (rCmpR false Rp) := by
  intro pins s σ H x y v u Q I rx ry ⟨a, b, ha, hb, q⟩
  show wpAny (model X.prog X.w) X.A (richCompare .Eq v u) (EP X pins σ Q) X.xe s
  refine wpAny_mono (h X.A pins s σ H x y v u a b ⟨hr, rfl⟩ I rx ry ha hb) (fun r t z => ?_) fun _ _ x => x
  obtain ⟨er, H', I', e⟩ := z
  subst er
  exact ⟨.bl _, H', I', rfl, q H' e⟩
theorem op_neR (h : RcR X n true Rp) (hr : Room n X.A) : OpR X (compareOp .NotEq) (rCmpR true Rp) := by
  intro pins s σ H x y v u Q I rx ry ⟨a, b, ha, hb, q⟩
  show wpAny (model X.prog X.w) X.A (richCompare .NotEq v u) (EP X pins σ Q) X.xe s
  refine wpAny_mono (h X.A pins s σ H x y v u a b ⟨hr, rfl⟩ I rx ry ha hb) (fun r t z => ?_) fun _ _ x => x
  obtain ⟨er, H', I', e⟩ := z
  subst er
  exact ⟨.bl _, H', I', rfl, q H' e⟩
end
end OR

namespace OR
open PySem PySem.Spec PyProof.Rows L2
/-! ### clauses as models -/
structure NF (K : PySem.W.Frag) (C : Nat → Addr) : Prop where
  cc : ∀ i, i < 7 → ∀ j, j < 7 → PySem.W.notFirst K (C i) (.ref (C j)) = true
  cs : ∀ i, i < 7 → PySem.W.notFirst K (C i) (.type "str") = true
  ct : ∀ i, i < 7 → PySem.W.notFirst K (C i) (.type "tuple") = true
theorem rows_fn {H : Hp} : ∀ {M N : List ARow}, AtR H M → AtR H N → refs M = refs N → rws M = rws N
  | [], [], _, _, _ => rfl
  | [], _ :: _, _, _, e => by cases e
  | _ :: _, [], _, _, e => by cases e
  | p :: M, q :: N, h, h', e => by
    have e' : V.ref p.1 :: refs M = V.ref q.1 :: refs N := e
    injection e' with e1 e2
    injection e1 with e1
    have a := h p List.mem_cons_self
    have b := h' q List.mem_cons_self
    rw [e1, b] at a
    injection a with a
    injection a with a
    injection a with a1 a2
    injection a1 with a1
    injection a2 with a2 _
    injection a2 with a2
    show p.2 :: rws M = q.2 :: rws N
    rw [rows_fn (fun z hz => h z (List.mem_cons_of_mem _ hz)) (fun z hz => h' z (List.mem_cons_of_mem _ hz)) e2]
    rw [Prod.ext (x := p.2) (y := q.2) a1.symm a2.symm]
theorem IsP.fn {C : Addr} {H : Hp} {x : Addr} {l m : List Row} (h : IsP C H x l) (h' : IsP C H x m) : l = m := by
  obtain ⟨_, dx, t, f, b, M, h1, h2, h3, rfl, _⟩ := h
  obtain ⟨_, dy, u, g, c, N, k1, k2, k3, rfl, _⟩ := h'
  rw [h1] at k1
  injection k1 with k1
  injection k1 with _ _ k1
  have e := pFl_s t f b
  rw [k1, pFl_s] at e
  injection e with e
  injection e with e
  rw [e, h2] at k2
  injection k2 with k2
  injection k2 with k2
  exact rows_fn h3 k3 k2
theorem kName_inj : ∀ {i j : Nat}, i < 7 → j < 7 → kName i = kName j → i = j := by
  have : ∀ i, i < 7 → ∀ j, j < 7 → kName i = kName j → i = j := by decide +kernel
  exact fun {i j} hi hj => this i hi j hj
theorem x_fn {i : Nat} {f g : Str} {pl pm : Addr} {x u : List V} (hi : i < 7) (h : WF i f x) (h' : WF i g u) (e : cFl i f pl x = cFl i g pm u) : x = u := by
  have at_ : ∀ (j : Nat) (n : Str) (a b : V), (allNames i)[j + 3]? = some n → x[j]? = some a → u[j]? = some b → a = b := fun j n a b hn ha hb => by
    have l1 := cFl_at (f := f) (pl := pl) (x := x) (v := a) hn (show (cVals i f pl x)[j + 3]? = some a from ha)
    have l2 := cFl_at (f := g) (pl := pm) (x := u) (v := b) hn (show (cVals i g pm u)[j + 3]? = some b from hb)
    rw [e, l2] at l1
    exact (Option.some.inj l1).symm
  match i, hi, h, h' with
  | 0, _, h, h' => rw [show x = [] from h, show u = [] from h']
  | 1, _, h, h' => rw [show x = [] from h, show u = [] from h']
  | 2, _, ⟨a, h, _⟩, ⟨b, h', _⟩ => subst h h'; rw [at_ 0 _ _ _ rfl rfl rfl]
  | 3, _, ⟨a, h, _⟩, ⟨b, h', _⟩ => subst h h'; rw [at_ 0 _ _ _ rfl rfl rfl]
  | 4, _, ⟨a, b, c, h, _⟩, ⟨a', b', c', h', _⟩ => subst h h'; rw [at_ 0 _ _ _ rfl rfl rfl, at_ 1 _ _ _ rfl rfl rfl, at_ 2 _ _ _ rfl rfl rfl]
  | 5, _, ⟨a, b, c, d, h, _⟩, ⟨a', b', c', d', h', _⟩ => subst h h'; rw [at_ 0 _ _ _ rfl rfl rfl, at_ 1 _ _ _ rfl rfl rfl, at_ 2 _ _ _ rfl rfl rfl, at_ 3 _ _ _ rfl rfl rfl]
  | 6, _, ⟨a, b, h, _⟩, ⟨a', b', h', _⟩ => subst h h'; rw [at_ 0 _ _ _ rfl rfl rfl, at_ 1 _ _ _ rfl rfl rfl]
  | n + 7, hi, _, _ => omega
abbrev CM := Nat × Str × List Row × List V
def CRep (CP : Addr) (C : Nat → Addr) : Rep CM := fun H x m => ∃ z, x = .ref z ∧ IsC CP C H z m.1 m.2.1 m.2.2.1 m.2.2.2
theorem IsC.fn {CP : Addr} {C : Nat → Addr} {H : Hp} {z : Addr} {i j : Nat} {f g : Str} {l m : List Row} {x u : List V} (h : IsC CP C H z i f l x) (h' : IsC CP C H z j g m u) : i = j ∧ f = g ∧ l = m ∧ x = u := by
  obtain ⟨⟨dx, pl, h1, h2⟩, hi, _, hw, _⟩ := h
  obtain ⟨⟨dy, pm, k1, k2⟩, hj, _, kw, _⟩ := h'
  rw [h1] at k1
  injection k1 with k1
  injection k1 with _ _ k1
  have e0 := cFl_at (i := i) (f := f) (pl := pl) (x := x) (j := 0) (n := "kind") (v := .str (kName i)) rfl rfl
  rw [k1, cFl_at (i := j) (j := 0) (v := .str (kName j)) rfl rfl] at e0
  injection e0 with e0
  injection e0 with e0
  obtain rfl := kName_inj hj hi e0
  have e1 := cFl_at (i := j) (f := f) (pl := pl) (x := x) (j := 1) (n := "function") (v := .str f) rfl rfl
  rw [k1, cFl_at (i := j) (j := 1) (v := .str g) rfl rfl] at e1
  injection e1 with e1
  injection e1 with e1
  have e2 := cFl_at (i := j) (f := f) (pl := pl) (x := x) (j := 2) (n := "places") (v := .ref pl) rfl rfl
  rw [k1, cFl_at (i := j) (j := 2) (v := .ref pm) rfl rfl] at e2
  injection e2 with e2
  injection e2 with e2
  subst e2
  exact ⟨rfl, e1.symm, h2.fn k2, x_fn hi hw kw k1⟩
theorem mon_CRep {CP : Addr} {C : Nat → Addr} : MonR (CRep CP C) := ⟨fun e ⟨z, hx, h⟩ => ⟨z, hx, h.same e⟩, fun {H x a b} ⟨z, hx, h⟩ ⟨z', hx', h'⟩ => by
  subst hx
  cases hx'
  obtain ⟨e1, e2, e3, e4⟩ := h.fn h'
  obtain ⟨a1, a2, a3, a4⟩ := a
  obtain ⟨b1, b2, b3, b4⟩ := b
  simp only at e1 e2 e3 e4
  rw [e1, e2, e3, e4]⟩
theorem ceq_dec {a b : CM} : ceq a.1 a.2.1 a.2.2.1 a.2.2.2 b.1 b.2.1 b.2.2.1 b.2.2.2 = decide (a = b) := by
  obtain ⟨a1, a2, a3, a4⟩ := a
  obtain ⟨b1, b2, b3, b4⟩ := b
  unfold ceq
  simp only [Prod.mk.injEq]
theorem env_sub {X : Cx} {n : Nat} {A : Around} (sb : Sub X n A) {pins : List (Addr × Obj)} {σ : L2.St} {H : Hp} {s : Shared} (I : Inv X pins σ H s) : Env0 X.prog X.w X.K X.mg X.base A X.stack s H := by
  have e := I.env0
  exact ⟨by rw [sb.fr]; exact e.frames, e.mod, e.bs, e.bsz, e.funs, e.frf, e.hok, e.bare⟩
theorem rcR_cl {X : Cx} {CP : Addr} {C : Nat → Addr} (T : CTxt X.K X.mg C) (N : NF X.K C) (EQ : ∀ i, i < 7 → Md X.prog X.w X.K X.mg X.base 2 (C i) "__eq__" (spCEq X.K CP C i)) : RcR X 2 false (CRep CP C) := by
  intro A pins s σ H x y u v a b sb I rx ry ⟨z, ex, ha⟩ ⟨z', ey, hb⟩
  subst ex ey
  obtain rfl : u = Value.ref z := rx
  obtain rfl : v = Value.ref z' := ry
  obtain ⟨dx, pl, h1, _⟩ := id ha.ex
  obtain ⟨dy, pm, k1, _⟩ := id hb.ex
  obtain ⟨f, F, hs, hf, _⟩ := (EQ _ ha.lt).ex
  obtain ⟨mA, J, _⟩ := ins_get I.hok h1
  obtain ⟨mB, J', _⟩ := ins_get I.hok k1
  obtain ⟨od, J, _⟩ := J.look
  obtain ⟨od', J', _⟩ := J'.look
  obtain ⟨m, hF⟩ := I.fr
  refine PySem.W.cmp_K (op := .Eq) (tb := .ref (C b.1)) sb.room.units0 hF I.ok.mod.kin J J'.type (N.cc _ ha.lt _ hb.lt) hs hf ?_
  have q : spCEq X.K CP C a.1 [.ref z, .ref z'] H (fun r G => r = .bl (decide (a = b)) ∧ Ext H G) E0 := ⟨z, .ref z', _, _, _, rfl, ha, .inl ⟨z', _, _, _, _, rfl, hb, by rw [ceq_dec], Ext.rfl'⟩⟩
  refine wpAny_mono (wpAny_call (SlX.run_at (us := [.ref z, .ref z']) (ws := [.ref z, .ref z']) F sb.room (env_sub sb I) pass0 I (.cons rfl (.cons rfl .nil)) q)) (fun r t z => ?_) fun _ _ x => x
  obtain ⟨r', H', I', rz, er, e⟩ := z
  subst er
  cases (show r = Value.bool (decide (a = b)) from rz)
  exact ⟨by rw [Bool.false_xor], H', I', e⟩
theorem eqR_cl {X : Cx} {CP : Addr} {C : Nat → Addr} (T : CTxt X.K X.mg C) (N : NF X.K C) (EQ : ∀ i, i < 7 → Md X.prog X.w X.K X.mg X.base 2 (C i) "__eq__" (spCEq X.K CP C i)) : EqR X 2 (CRep CP C) :=
  (rcR_cl T N EQ).eqR mon_CRep fun _ _ _ ⟨z, e, _⟩ => ⟨z, e⟩
end OR

namespace OR
open PySem PySem.Spec PyProof.Rows L2
section
variable {P : Program} {w : World} {K : PySem.W.Frag} {mg : Str → Option Value} {base : Heap} {C : Nat → Addr} {CP : Addr}
theorem scAnsF : FnScope ["self"] ["self"] (defScope sAnsTold) := ⟨rfl, rfl, rfl, by decide +kernel, rfl, by decide +kernel, by decide +kernel⟩
theorem ok_AnsF {f : Addr} {fd : FuncData} (F : Fun K "functions_told" "Answers.functions_told" sAnsTold f fd) (T : CTxt K mg C) : FnOk P w K mg base CX0 1 f fd ["self"] (spCTold CP C 0) := by
  refine F.ok scAnsF (fun vs H Q E h => ?_) (fun cdv A outer s0 H vs Q E hr h => ?_)
  · obtain ⟨z, f1, l, x, rfl, _⟩ := h
    rfl
  · obtain ⟨z, f1, l, x, rfl, hA, q⟩ := h
    obtain ⟨⟨dx, pl, hz, hp⟩, hi, hw, wf, ok, hl⟩ := hA
    cases (show x = [] from wf)
    exact ⟨_, pss_one (ps_ret (pe_tup (pa_cons (pe_fld (pv 0) rfl) pa_nil))), ⟨_, rfl, fld T hz hi (j := 1) rfl rfl ⟨by show 1 ≤ sizeLine; decide, fun t ht => q t ht⟩⟩⟩
theorem scRefF : FnScope ["self"] ["self"] (defScope sRefTold) := ⟨rfl, rfl, rfl, by decide +kernel, rfl, by decide +kernel, by decide +kernel⟩
theorem ok_RefF {f : Addr} {fd : FuncData} (F : Fun K "functions_told" "Refuses.functions_told" sRefTold f fd) (T : CTxt K mg C) : FnOk P w K mg base CX0 1 f fd ["self"] (spCTold CP C 1) := by
  refine F.ok scRefF (fun vs H Q E h => ?_) (fun cdv A outer s0 H vs Q E hr h => ?_)
  · obtain ⟨z, f1, l, x, rfl, _⟩ := h
    rfl
  · obtain ⟨z, f1, l, x, rfl, hA, q⟩ := h
    obtain ⟨⟨dx, pl, hz, hp⟩, hi, hw, wf, ok, hl⟩ := hA
    cases (show x = [] from wf)
    exact ⟨_, pss_one (ps_ret (pe_tup (pa_cons (pe_fld (pv 0) rfl) pa_nil))), ⟨_, rfl, fld T hz hi (j := 1) rfl rfl ⟨by show 1 ≤ sizeLine; decide, fun t ht => q t ht⟩⟩⟩
theorem scNeeF : FnScope ["self"] ["self"] (defScope sNeeTold) := ⟨rfl, rfl, rfl, by decide +kernel, rfl, by decide +kernel, by decide +kernel⟩
theorem ok_NeeF {f : Addr} {fd : FuncData} (F : Fun K "functions_told" "Needs.functions_told" sNeeTold f fd) (T : CTxt K mg C) : FnOk P w K mg base CX0 1 f fd ["self"] (spCTold CP C 2) := by
  refine F.ok scNeeF (fun vs H Q E h => ?_) (fun cdv A outer s0 H vs Q E hr h => ?_)
  · obtain ⟨z, f1, l, x, rfl, _⟩ := h
    rfl
  · obtain ⟨z, f1, l, x, rfl, hA, q⟩ := h
    obtain ⟨⟨dx, pl, hz, hp⟩, hi, hw, wf, ok, hl⟩ := hA
    obtain ⟨g, rfl, hg, ng⟩ := wf
    exact ⟨_, pss_one (ps_ret (pe_tup (pa_cons (pe_fld (pv 0) rfl) (pa_cons (pe_fld (pv 0) rfl) pa_nil)))), ⟨_, rfl, fld T hz hi (j := 1) rfl rfl ⟨_, rfl, fld T hz hi (j := 3) rfl rfl ⟨by show 2 ≤ sizeLine; decide, fun t ht => q t ht⟩⟩⟩⟩
theorem scSprF : FnScope ["self"] ["self"] (defScope sSprTold) := ⟨rfl, rfl, rfl, by decide +kernel, rfl, by decide +kernel, by decide +kernel⟩
theorem ok_SprF {f : Addr} {fd : FuncData} (F : Fun K "functions_told" "Spreads.functions_told" sSprTold f fd) (T : CTxt K mg C) : FnOk P w K mg base CX0 1 f fd ["self"] (spCTold CP C 3) := by
  refine F.ok scSprF (fun vs H Q E h => ?_) (fun cdv A outer s0 H vs Q E hr h => ?_)
  · obtain ⟨z, f1, l, x, rfl, _⟩ := h
    rfl
  · obtain ⟨z, f1, l, x, rfl, hA, q⟩ := h
    obtain ⟨⟨dx, pl, hz, hp⟩, hi, hw, wf, ok, hl⟩ := hA
    obtain ⟨w, rfl, hs⟩ := wf
    exact ⟨_, pss_one (ps_ret (pe_tup (pa_cons (pe_fld (pv 0) rfl) pa_nil))), ⟨_, rfl, fld T hz hi (j := 1) rfl rfl ⟨by show 1 ≤ sizeLine; decide, fun t ht => q t ht⟩⟩⟩
theorem scBouF : FnScope ["self"] ["self"] (defScope sBouTold) := ⟨rfl, rfl, rfl, by decide +kernel, rfl, by decide +kernel, by decide +kernel⟩
theorem ok_BouF {f : Addr} {fd : FuncData} (F : Fun K "functions_told" "Bound.functions_told" sBouTold f fd) (T : CTxt K mg C) : FnOk P w K mg base CX0 1 f fd ["self"] (spCTold CP C 4) := by
  refine F.ok scBouF (fun vs H Q E h => ?_) (fun cdv A outer s0 H vs Q E hr h => ?_)
  · obtain ⟨z, f1, l, x, rfl, _⟩ := h
    rfl
  · obtain ⟨z, f1, l, x, rfl, hA, q⟩ := h
    obtain ⟨⟨dx, pl, hz, hp⟩, hi, hw, wf, ok, hl⟩ := hA
    obtain ⟨s, a, b, rfl, hs, na, nb⟩ := wf
    exact ⟨_, pss_one (ps_ret (pe_tup (pa_cons (pe_fld (pv 0) rfl) pa_nil))), ⟨_, rfl, fld T hz hi (j := 1) rfl rfl ⟨by show 1 ≤ sizeLine; decide, fun t ht => q t ht⟩⟩⟩
theorem scPaiF : FnScope ["self"] ["self"] (defScope sPaiTold) := ⟨rfl, rfl, rfl, by decide +kernel, rfl, by decide +kernel, by decide +kernel⟩
theorem ok_PaiF {f : Addr} {fd : FuncData} (F : Fun K "functions_told" "Pair.functions_told" sPaiTold f fd) (T : CTxt K mg C) : FnOk P w K mg base CX0 1 f fd ["self"] (spCTold CP C 5) := by
  refine F.ok scPaiF (fun vs H Q E h => ?_) (fun cdv A outer s0 H vs Q E hr h => ?_)
  · obtain ⟨z, f1, l, x, rfl, _⟩ := h
    rfl
  · obtain ⟨z, f1, l, x, rfl, hA, q⟩ := h
    obtain ⟨⟨dx, pl, hz, hp⟩, hi, hw, wf, ok, hl⟩ := hA
    obtain ⟨s, g, a, b, rfl, hs, hg, ng, na, nb⟩ := wf
    exact ⟨_, pss_one (ps_ret (pe_tup (pa_cons (pe_fld (pv 0) rfl) (pa_cons (pe_fld (pv 0) rfl) pa_nil)))), ⟨_, rfl, fld T hz hi (j := 1) rfl rfl ⟨_, rfl, fld T hz hi (j := 4) rfl rfl ⟨by show 2 ≤ sizeLine; decide, fun t ht => q t ht⟩⟩⟩⟩
theorem scSteF : FnScope ["self"] ["self"] (defScope sSteTold) := ⟨rfl, rfl, rfl, by decide +kernel, rfl, by decide +kernel, by decide +kernel⟩
theorem ok_SteF {f : Addr} {fd : FuncData} (F : Fun K "functions_told" "Step.functions_told" sSteTold f fd) (T : CTxt K mg C) : FnOk P w K mg base CX0 1 f fd ["self"] (spCTold CP C 6) := by
  refine F.ok scSteF (fun vs H Q E h => ?_) (fun cdv A outer s0 H vs Q E hr h => ?_)
  · obtain ⟨z, f1, l, x, rfl, _⟩ := h
    rfl
  · obtain ⟨z, f1, l, x, rfl, hA, q⟩ := h
    obtain ⟨⟨dx, pl, hz, hp⟩, hi, hw, wf, ok, hl⟩ := hA
    obtain ⟨s, b, rfl, hs, nb⟩ := wf
    exact ⟨_, pss_one (ps_ret (pe_tup (pa_cons (pe_fld (pv 0) rfl) pa_nil))), ⟨_, rfl, fld T hz hi (j := 1) rfl rfl ⟨by show 1 ≤ sizeLine; decide, fun t ht => q t ht⟩⟩⟩
end
/-! ### the greatest place -/
def greatV (l : List Row) : V := match l.getLast? with
  | none => .non
  | some r => .int r.2
def spLeast (C : Addr) (g : List Row → V) : Sp := fun vs H Q _ => ∃ p l, vs = [.ref p] ∧ IsP C H p l ∧ Q (g l) H
theorem greatV_le {l : List Row} {n : Int} (h : ∀ r ∈ l, r.2 ≤ n) : greatV l = .non ∨ ∃ k, greatV l = .int k ∧ k ≤ n := by
  unfold greatV
  cases e : l.getLast? with
  | none => exact .inl rfl
  | some r => exact .inr ⟨r.2, rfl, h r (List.mem_of_getLast? e)⟩
section
variable {P : Program} {w : World} {K : PySem.W.Frag} {mg : Str → Option Value} {base : Heap}
theorem scGr : FnScope ["self"] ["self"] (defScope sPlacesGreatest) := ⟨rfl, rfl, rfl, by decide +kernel, rfl, by decide +kernel, by decide +kernel⟩
theorem ok_great {f C : Addr} {fd : FuncData} (F : Fun K "greatest" "Places.greatest" sPlacesGreatest f fd) (T : PTxt K mg C) : FnOk P w K mg base CX0 1 f fd ["self"] (spLeast C greatV) := by
  refine F.ok scGr (fun vs H Q E h => ?_) (fun cdv A outer s H vs Q E hr h => ?_)
  · obtain ⟨p, l, rfl, _⟩ := h
    rfl
  · obtain ⟨p, l, rfl, hp, q⟩ := h
    refine ⟨_, pss_one (ps_ret (pe_ifExp (pt_truth (pe_fld (pv 0) rfl) (by intro _; rfl)) (pe_ix ix_tup (pe_ix ix_tup (pe_fld (pv 0) rfl) (pe_un un_neg pe_int) (fun _ _ => rfl)) pe_int (fun _ _ => rfl)) pe_non)), ?_⟩
    obtain ⟨nf, dx, t, fi, b, M, e1, e2, e3, e4, _⟩ := id hp
    refine ⟨_, rfl, p, C, dx, _, _, rfl, e1, T.cl, T.nS, pFl_s _ _ _, !(refs M).isEmpty, .inr (.inl ⟨refs M, .inl (.inl e2), rfl⟩), ?_⟩
    subst e4
    by_cases c : M = []
    · subst c
      exact iteF q
    · obtain ⟨M', z, rfl⟩ : ∃ M' z, M = M' ++ [z] := ⟨_, _, (List.dropLast_concat_getLast c).symm⟩
      rw [refs_snoc] at e2 ⊢
      have en : (!(refs M' ++ [V.ref z.1]).isEmpty) = true := by simp
      rw [en]
      have ez := e3 z (List.mem_append_right _ (List.mem_singleton.mpr rfl))
      have eg : greatV (rws (M' ++ [z])) = .int z.2.2 := by
        unfold greatV
        rw [rws_snoc, List.getLast?_concat]
      rw [eg] at q
      exact iteT ⟨_, rfl, p, C, dx, _, _, rfl, e1, T.cl, T.nS, pFl_s _ _ _, 1, rfl, t, _, -1, .ref z.1, rfl, rfl, .inl (.inl e2), atI_last _ _, z.1, _, 1, .int z.2.2, rfl, rfl, .inl (.inl ez), atI_nat (j := 1) rfl, q⟩
end
end OR

namespace OR
open PySem PySem.Spec PyProof.Rows L2
/-! ### rules -/
def SqE (K : PySem.W.Frag) (H : Hp) (a : Addr) (xs : List V) : Prop := SqL K H a xs ∨ SqT K H a xs
theorem SqE.same {K : PySem.W.Frag} {H H' : Hp} {a : Addr} {xs : List V} (h : SqE K H a xs) (s : Same H H') : SqE K H' a xs := h.elim (fun e => .inl (s.seq e)) fun e => .inr (sameT s e)
theorem noM : ∀ i, ("functions_told" : Str) ∉ allNames i
  | 0 => by decide +kernel
  | 1 => by decide +kernel
  | 2 => by decide +kernel
  | 3 => by decide +kernel
  | 4 => by decide +kernel
  | 5 => by decide +kernel
  | _ + 6 => by
    show ("functions_told" : Str) ∉ ("kind" :: "function" :: "places" :: ["sign", "height"] : List Str)
    decide +kernel
/-- a method of one of some classes -/
theorem pe_mtF {X : Cx} {k j : Nat} {I : Nat → Prop} {C : Nat → Addr} {m : Str} {ps : List Str} {sp : Nat → Sp} {o : Expr} {ta : TE} {apos pos : Pos} {pl : Sem Bool} (M : ∀ i, I i → Mt X.prog X.w X.K X.mg X.base k (C i) m ps (sp i)) (c : ∀ i, I i → Cls X.K (C i)) (hr : Room j X.A) (hk : k ≤ j) (he : PE X o ta)
    (ht : eval (.Call (.Attribute o m apos) [] [] pos) X.env = (do
      let ov ← eval o X.env
      standAt apos.atName
      let (f, first) ← holding [ov] (getMethod ov m pl)
      callWith pos f first (backTo pos (starEach [] X.env)) (backToKw pos (keywordEach [] X.env))) := by rfl) : PE X (.Call (.Attribute o m apos) [] [] pos) (fun σ H Q => ∃ i, I i ∧ tMeth (C i) m (sp i) [] E0 ta tNil σ H Q) :=
  ⟨fun pins s σ H Q I0 ⟨i, hi, h⟩ => (pe_mt0 (M i hi) (c i hi) hr hk he ht).run pins s σ H Q I0 h⟩
/-- a clause over these functions and the places up to last -/
structure Fits (fs : List Str) (n : Int) (m : CM) : Prop where
  told : ∀ v ∈ told m.1 m.2.1 m.2.2.2, ∃ g ∈ fs, v = .str g
  rows : ∀ r ∈ m.2.2.1, r.2 ≤ n
structure RTxt (K : PySem.W.Frag) (mg : Str → Option Value) (CR : Addr) : Prop where
  cl : Cls K CR
  nF : NoAttr K CR "functions"
  nL : NoAttr K CR "last"
  nT : NoAttr K CR "told"
  mgC : mg "Rules" = some (.ref CR)
  isi : SlX.SIsi K CR
  kRR : PySem.W.kitOne K (.ref CR) (.ref CR) = some true
  few : ∃ t, mg "MOST_FUNCTIONS" = some (.int 3 t)
  most : ∃ t, mg "_MOST_CLAUSES" = some (.int 60 t)
theorem kLF : ¬ (("last" : Str) = "functions") := by decide +kernel
theorem kTF : ¬ (("told" : Str) = "functions") := by decide +kernel
theorem kTL : ¬ (("told" : Str) = "last") := by decide +kernel
def rFl (f : Addr) (n : Int) (t : Addr) : List (Str × V) := putF "told" (.ref t) (putF "last" (.int n) (putF "functions" (.ref f) []))
theorem rFl_f (f : Addr) (n : Int) (t : Addr) : (rFl f n t).lookup ("functions" : Str) = some (.ref f) := by
  unfold rFl
  rw [lookup_putF, if_neg (fun e => kTF e.symm), lookup_putF, if_neg (fun e => kLF e.symm), lookup_putF, if_pos rfl]
theorem rFl_l (f : Addr) (n : Int) (t : Addr) : (rFl f n t).lookup ("last" : Str) = some (.int n) := by
  unfold rFl
  rw [lookup_putF, if_neg (fun e => kTL e.symm), lookup_putF, if_pos rfl]
theorem rFl_t (f : Addr) (n : Int) (t : Addr) : (rFl f n t).lookup ("told" : Str) = some (.ref t) := by
  unfold rFl
  rw [lookup_putF, if_pos rfl]
/-- rules, as they stand -/
def IsR (K : PySem.W.Frag) (CR CP : Addr) (C : Nat → Addr) (H : Hp) (x : Addr) (fs : List Str) (n : Int) (ms : List CM) : Prop :=
  ∃ dx f t xs, H x = some (.ins CR dx (rFl f n t)) ∧ SqT K H f (fs.map V.str) ∧ SqT K H t xs ∧ All2 (CRep CP C H) xs ms
theorem IsR.same {K : PySem.W.Frag} {CR CP : Addr} {C : Nat → Addr} {H H' : Hp} {x : Addr} {fs : List Str} {n : Int} {ms : List CM} (h : IsR K CR CP C H x fs n ms) (s : Same H H') : IsR K CR CP C H' x fs n ms := by
  obtain ⟨dx, f, t, xs, h1, h2, h3, h4⟩ := h
  exact ⟨dx, f, t, xs, s _ _ h1, sameT s h2, sameT s h3, h4.imp fun _ _ => mon_CRep.up s⟩
section
variable {P : Program} {w : World} {K : PySem.W.Frag} {mg : Str → Option Value} {base : Heap} {C : Nat → Addr} {CP CR : Addr}
def spIsClause (CP : Addr) (C : Nat → Addr) : Sp := fun vs H Q _ => ∃ z m, vs = [.ref z] ∧ CRep CP C H (.ref z) m ∧ ∀ H', Same H H' → Q (.bl true) H'
def spFits (K : PySem.W.Frag) (CP : Addr) (C : Nat → Addr) : Sp := fun vs H Q _ => ∃ (z a : Addr) (n : Int) (m : CM) (fs : List Str), vs = [.ref z, .ref a, .int n] ∧ CRep CP C H (.ref z) m ∧ SqE K H a (fs.map V.str) ∧ Fits fs n m ∧ ∀ H', Same H H' → Q .non H'
def GoodFs (fs : List Str) : Prop := 1 ≤ fs.length ∧ fs.length ≤ 3 ∧ (∀ f ∈ fs, Word f) ∧ fs.Pairwise (· ≠ ·)
def spChkFuns (K : PySem.W.Frag) : Sp := fun vs H Q _ => ∃ (a : Addr) (fs : List Str), vs = [.ref a] ∧ SqE K H a (fs.map V.str) ∧ GoodFs fs ∧ ∀ H', Same H H' → Q .non H'
theorem any_of (T : CTxt K mg C) {i : Nat} (hi : i < 7) : PySem.W.kitAny K (.ref (C i)) [.ref (C 0), .ref (C 1), .ref (C 2), .ref (C 3), .ref (C 4), .ref (C 5), .ref (C 6)] = some true := by
  have k := T.kk i hi
  unfold PySem.W.kitAny; rw [k 0 (by decide)]
  unfold PySem.W.kitAny; rw [k 1 (by decide)]
  unfold PySem.W.kitAny; rw [k 2 (by decide)]
  unfold PySem.W.kitAny; rw [k 3 (by decide)]
  unfold PySem.W.kitAny; rw [k 4 (by decide)]
  unfold PySem.W.kitAny; rw [k 5 (by decide)]
  unfold PySem.W.kitAny; rw [k 6 (by decide)]
  rcases (show i = 0 ∨ i = 1 ∨ i = 2 ∨ i = 3 ∨ i = 4 ∨ i = 5 ∨ i = 6 by omega) with e | e | e | e | e | e | e <;> subst e <;> rfl
theorem scIC : FnScope ["value"] ["value"] (defScope sIsClause) := ⟨rfl, rfl, rfl, by decide +kernel, rfl, by decide +kernel, by decide +kernel⟩
theorem ok_isclause {f : Addr} {fd : FuncData} (F : Fun K "is_clause" "is_clause" sIsClause f fd) (T : CTxt K mg C) (Z : PTxt K mg CP) : FnOk P w K mg base CX0 1 f fd ["value"] (spIsClause CP C) := by
  refine F.ok scIC (fun vs H Q E h => ?_) (fun cdv A outer s H vs Q E hr h => ?_)
  · obtain ⟨z, m, rfl, _⟩ := h
    rfl
  · obtain ⟨z, m, rfl, ⟨z', e, hC⟩, q⟩ := h
    injection e with e
    subst e
    refine ⟨_, pss_one (ps_ret (pe_callB call_isiT (by rfl) Z.zIsi bt_isi (pa_cons (pv 0) (pa_cons (pe_tup (pa_cons (pe_glob (v := .ref (C 0)) (by rfl) (T.mgC 0 (by decide)) rfl) (pa_cons (pe_glob (v := .ref (C 1)) (by rfl) (T.mgC 1 (by decide)) rfl) (pa_cons (pe_glob (v := .ref (C 2)) (by rfl) (T.mgC 2 (by decide)) rfl)
      (pa_cons (pe_glob (v := .ref (C 3)) (by rfl) (T.mgC 3 (by decide)) rfl) (pa_cons (pe_glob (v := .ref (C 4)) (by rfl) (T.mgC 4 (by decide)) rfl) (pa_cons (pe_glob (v := .ref (C 5)) (by rfl) (T.mgC 5 (by decide)) rfl) (pa_cons (pe_glob (v := .ref (C 6)) (by rfl) (T.mgC 6 (by decide)) rfl) pa_nil)))))))) pa_nil)))), ?_⟩
    obtain ⟨dx, pl, hz, _⟩ := hC.ex
    refine ⟨_, rfl, by show 7 ≤ sizeLine; decide, fun t nt => ?_⟩
    have s1 := same_lay (o := .tup [.ref (C 0), .ref (C 1), .ref (C 2), .ref (C 3), .ref (C 4), .ref (C 5), .ref (C 6)]) nt
    exact ⟨.ref z, t, _, _, _, true, rfl, upd_same, .cons (.own _) (.cons (.own _) (.cons (.own _) (.cons (.own _) (.cons (.own _) (.cons (.own _) (.cons (.own _) .nil)))))), tyC T hC.lt (s1 _ _ hz), any_of T hC.lt, q _ s1⟩
theorem scKF : FnScope ["clause", "functions", "last", "function", "greatest"] ["clause", "functions", "last"] (defScope sChkFits) := ⟨rfl, rfl, rfl, by decide +kernel, rfl, by decide +kernel, by decide +kernel⟩
theorem ok_fits {f : Addr} {fd : FuncData} (F : Fun K "check_fits" "check_fits" sChkFits f fd) (T : CTxt K mg C) (PT : PTxt K mg CP) (TO : ∀ i, i < 7 → Mt P w K mg base 1 (C i) "functions_told" ["self"] (spCTold CP C i)) (GR : Mt P w K mg base 1 CP "greatest" ["self"] (spLeast CP greatV)) : FnOk P w K mg base CX0 2 f fd ["clause", "functions", "last"] (spFits K CP C) := by
  refine F.ok scKF (fun vs H Q E h => ?_) (fun cdv A outer s H vs Q E hr h => ?_)
  · obtain ⟨z, a, n, m, fs, rfl, _⟩ := h
    rfl
  · obtain ⟨z, a, n, m, fs, rfl, ⟨z', e, hC⟩, hS, hF, q⟩ := h
    injection e with e
    subst e
    have nd := scKF.nd
    refine ⟨_, pss_cons (ps_for PassesOwn.never rfl (pi_tup (pe_mtF TO T.cl hr (by decide) (pv 0))) (pg_name (i := 3) nd rfl (.inl rfl))
          (pss_one (ps_if (pt_cmpR (op_notIn_seqK K rfl) (pv 3) (pv 1) (by rfl))
              (pss_one ps_never)
              pss_nil)))
      (pss_cons (ps_set (i := 4) nd rfl (.inl rfl) (pe_mt0 GR PT.cl hr (by decide) (pe_fld (pv 0) rfl)))
      (pss_one (ps_if (PW.pt (pw_and (pt_cmp (pc_notN (pv 4))) (pw_and1 (pt_cmpR op_gt (pv 4) (pv 2) (nomark _)))))
          (pss_one ps_never)
          pss_nil))), ?_⟩
    obtain ⟨dx, pl, hz, hp⟩ := hC.ex
    obtain ⟨_, dxp, t1, f1, b1, M, hpi, _⟩ := id hp
    refine ⟨m.1, hC.lt, _, rfl, z, dx, _, rfl, hz, cFl_no (noM _), z, m.2.1, m.2.2.1, m.2.2.2, rfl, hC, fun t nt => ?_⟩
    have s1 := same_lay (o := .tup (told m.1 m.2.1 m.2.2.2)) nt
    refine ⟨t, rfl, ⟨_, .inl (.inl upd_same)⟩, for_tup (K := K) (a := t) (xs := told m.1 m.2.1 m.2.2.2) (fun i σ G => (∃ s3, σ = [some (.ref z), some (.ref a), some (.int n), s3, none]) ∧ G = upd H t (.tup (told m.1 m.2.1 m.2.2.2)))
      ⟨⟨none, rfl⟩, rfl⟩ (fun i σ G _ ⟨_, e⟩ => by rw [e]; exact .inl (.inl upd_same)) ?_ ?_⟩
    · rintro i y σ G hy ⟨⟨s3, rfl⟩, rfl⟩
      obtain ⟨g, hg, rfl⟩ := hF.told y (List.mem_of_getElem? hy)
      refine ⟨_, rfl, _, rfl, a, _, rfl, (hS.same s1), rfl, flat_strs fs, _, rfl, ?_⟩
      rw [in_strs hg]
      exact iteF ⟨⟨_, rfl⟩, rfl⟩
    · rintro σ G ⟨⟨s3, rfl⟩, rfl⟩
      refine ⟨_, rfl, z, C m.1, dx, _, .ref pl, rfl, s1 _ _ hz, T.cl _ hC.lt, T.no _ hC.lt "places" (List.mem_of_getElem? (i := 2) rfl), cFl_at (j := 2) rfl rfl, pl, dxp, _, rfl, s1 _ _ hpi, pFl_no _ _ _ (by decide +kernel) (by decide +kernel) (by decide +kernel), pl, _, rfl, hp.same s1, ?_⟩
      rcases greatV_le hF.rows with e | ⟨k, e, hk⟩
      · rw [e]
        exact ⟨_, rfl, _, rfl, iteF (iteF (q _ s1))⟩
      · rw [e]
        refine ⟨_, rfl, _, rfl, iteT ⟨_, rfl, _, rfl, _, _, rfl, rfl, _, rfl, ite2 (fun c => ?_) (fun _ => q _ s1)⟩⟩
        exact absurd (of_decide_eq_true c) (by omega)
end
end OR

namespace OR
open PySem PySem.Spec PyProof.Rows L2
theorem cut_strs (fs : List Str) (i : Nat) : cutV (fs.map V.str) none (some (i : Int)) = (fs.take i).map V.str := by
  unfold cutV
  rw [HT.sIx_none, HT.sIx_nat, List.drop_zero, Nat.sub_zero, List.map_take]
  rcases Nat.le_total i (fs.map V.str).length with h | h
  · rw [Nat.min_eq_left h]
  · rw [Nat.min_eq_right h, List.take_of_length_le (Nat.le_refl _), List.take_of_length_le h]
theorem not_full {fs : List Str} {i : Nat} (h : i < fs.length) : ¬ (HT.sIx (fs.map V.str).length 0 none = 0 ∧ HT.sIx (fs.map V.str).length (fs.map V.str).length (some (i : Int)) = (fs.map V.str).length) := fun ⟨_, e⟩ => by
  rw [HT.sIx_nat, List.length_map] at e
  omega
theorem fresh_at {fs : List Str} {i : Nat} {g : Str} (hp : fs.Pairwise (· ≠ ·)) (hg : fs[i]? = some g) : g ∉ fs.take i := fun hm => by
  obtain ⟨hi, e⟩ := List.getElem?_eq_some_iff.mp hg
  obtain ⟨j, hj, e2⟩ := List.mem_iff_getElem.mp hm
  rw [List.length_take] at hj
  have hji : j < i := by omega
  rw [List.getElem_take] at e2
  exact List.pairwise_iff_getElem.mp hp j i (by omega) hi hji (by rw [e2, e])
theorem op_in_seqK {X : Cx} (K : PySem.W.Frag) (hK : X.K = K) : OpR X (compareOp .In) (rIn K false) := by
  subst hK
  exact op_in_seq
theorem tupOf_E {K : PySem.W.Frag} {H : Hp} {a : Addr} {xs : List V} {Q : VK} (h : SqE K H a xs) (q : ∀ t H', SqT K H' t xs → Same H H' → Q (.ref t) H') : rTupOf K [.ref a] H Q := by
  rcases h with h | h
  · exact ⟨a, xs, rfl, .inl ⟨h, fun l nl => q l _ (.inl (.inl upd_same)) (same_lay nl)⟩⟩
  · exact ⟨a, xs, rfl, .inr ⟨h, q a H h (Same.refl _)⟩⟩
theorem SqE.len {K : PySem.W.Frag} {H : Hp} {a : Addr} {xs : List V} (h : SqE K H a xs) : SqL K H a xs ∨ SqT K H a xs := h
/-- a tuple stays where an instance changes -/
theorem tup_fre {K : PySem.W.Frag} {H H' : Hp} {x t C dx : Addr} {fs : List (Str × V)} {xs : List V} (h : SqT K H t xs) (hx : H x = some (.ins C dx fs)) (f : Fre x H H') : SqT K H' t xs := by
  rcases h with (h | ⟨o, h⟩) | h
  · exact .inl (.inl (f _ _ h (ne_of h hx (by intro z; cases z))))
  · exact .inl (.inr ⟨o, f _ _ h (ne_of h hx (by intro z; cases z))⟩)
  · exact .inr h
theorem lst_fre {K : PySem.W.Frag} {H H' : Hp} {x t C dx : Addr} {fs : List (Str × V)} {xs : List V} (h : SqL K H t xs) (hx : H x = some (.ins C dx fs)) (f : Fre x H H') : SqL K H' t xs := by
  rcases h with (h | ⟨o, h⟩) | h
  · exact .inl (.inl (f _ _ h (ne_of h hx (by intro z; cases z))))
  · exact .inl (.inr ⟨o, f _ _ h (ne_of h hx (by intro z; cases z))⟩)
  · exact .inr h
theorem SqE.fre {K : PySem.W.Frag} {H H' : Hp} {x t C dx : Addr} {fs : List (Str × V)} {xs : List V} (h : SqE K H t xs) (hx : H x = some (.ins C dx fs)) (f : Fre x H H') : SqE K H' t xs := h.elim (fun h => .inl (lst_fre h hx f)) fun h => .inr (tup_fre h hx f)
section
variable {P : Program} {w : World} {K : PySem.W.Frag} {mg : Str → Option Value} {base : Heap} {C : Nat → Addr} {CP CR : Addr}
theorem scCF : FnScope ["functions", "index", "word"] ["functions"] (defScope sChkFuns) := ⟨rfl, rfl, rfl, by decide +kernel, rfl, by decide +kernel, by decide +kernel⟩
theorem ok_chkfuns {f : Addr} {fd : FuncData} (F : Fun K "_check_functions" "_check_functions" sChkFuns f fd) (T : PTxt K mg CP) (R : RTxt K mg CR) (KW : Cl P w K mg base 2 "check_word" ["value"] spChkW) : FnOk P w K mg base CX0 3 f fd ["functions"] (spChkFuns K) := by
  refine F.ok scCF (fun vs H Q E h => ?_) (fun cdv A outer s H vs Q E hr h => ?_)
  · obtain ⟨a, fs, rfl, _⟩ := h
    rfl
  · obtain ⟨a, fs, rfl, hS, hg_, q⟩ := h
    obtain ⟨t3, hm⟩ := R.few
    have nd := scCF.nd
    refine ⟨_, pss_cons (ps_if (pt_not (pt_chain op_le op_le pe_int (pe_callB call_len_seq (by rfl) T.zLen PySem.boot_len (pa_cons (pv 0) pa_nil)) (pe_glob (v := .int 3) (by rfl) hm ⟨_, rfl⟩)))
          (pss_one ps_never)
          pss_nil)
      (pss_one (ps_for PassesOwn.never rfl (pi_or (pi_enum (by rfl) T.zEnum (pa_cons (pv 0) pa_nil)) (pi_enumT (by rfl) T.zEnum (pa_cons (pv 0) pa_nil))) (pg_tup rfl (pgs_cons (pg_name (i := 1) nd rfl (.inl rfl)) (pgs_cons (pg_name (i := 2) nd rfl (.inl rfl)) pgs_nil)))
          (pss_cons (ps_expr (pe_cl KW hr (by decide) (by rfl) (pa_cons (pv 2) pa_nil)))
          (pss_one (ps_if (pt_cmpR (op_in_seqK K rfl) (pv 2) (pe_slice (SlR.or sl_list sl_tup) (pv 0) po_none (po_some (pv 1))) (by rfl))
              (pss_one ps_never)
              pss_nil))))), ?_⟩
    have l1 := hg_.1
    have l3 := hg_.2.1
    refine ⟨_, rfl, a, _, rfl, hS, _, _, rfl, rfl, _, rfl, ite2 (fun _ => ?_) (fun z => absurd (decide_eq_true (show (1 : Int) ≤ ((fs.map V.str).length : Nat) by rw [List.length_map]; omega)) z)⟩
    refine ⟨_, _, rfl, rfl, _, rfl, ite2 (fun z => ?_) (fun _ => ?_)⟩
    · exfalso
      have h8 : decide ((((fs.map V.str).length : Nat) : Int) ≤ 3) = true := decide_eq_true (by rw [List.length_map]; omega)
      rw [h8] at z
      exact absurd z (by decide)
    rcases hS with hS | hS
    · refine .inl ⟨_, rfl, a, fs.map V.str, rfl, hS, for_enum (K := K) (a := a) (xs := fs.map V.str) (fun i σ G => (∃ s1 s2, σ = [some (.ref a), s1, s2]) ∧ Same H G)
        ⟨⟨none, none, rfl⟩, Same.refl _⟩ (fun i σ G _ ⟨_, s⟩ => s.seq hS) ?_ ?_⟩
      · rintro i y σ G Tn hy ⟨⟨s1, s2, rfl⟩, S1⟩ hT
        rw [List.getElem?_map] at hy
        obtain ⟨g, hg, rfl⟩ := Option.map_eq_some_iff.mp hy
        have hi : i < fs.length := (List.getElem?_eq_some_iff.mp hg).1
        have S2 := S1.trans (same_lay (o := .tup [.int (i : Nat), .str g]) hT)
        refine ⟨Tn, _, rfl, .inl (.inl upd_same), rfl, _, _, rfl, _, _, rfl, rfl, ?_⟩
        refine ⟨_, rfl, g, rfl, hg_.2.2.1 g (List.mem_of_getElem? hg), fun G2 S3 => ?_⟩
        have S4 := S2.trans S3
        refine ⟨_, rfl, _, rfl, _, rfl, _, rfl, .inl ⟨a, _, rfl, S4.seq hS, fun l nl => ?_⟩⟩
        have S5 := S4.trans (same_lay (o := .lst (cutV (fs.map V.str) none (some (i : Int)))) nl)
        refine ⟨l, _, rfl, .inl (.inl (.inl upd_same)), rfl, ?_, _, rfl, ?_⟩
        · rw [cut_strs]; exact flat_strs _
        · rw [cut_strs] at S5
          rw [cut_strs, notin_strs (fresh_at hg_.2.2.2 hg)]
          exact iteF ⟨⟨_, _, rfl⟩, S5⟩
      · rintro σ G ⟨⟨s1, s2, rfl⟩, S1⟩
        exact q G S1
    · refine .inr ⟨_, rfl, a, fs.map V.str, rfl, hS, for_enumT (K := K) (a := a) (xs := fs.map V.str) (fun i σ G => (∃ s1 s2, σ = [some (.ref a), s1, s2]) ∧ Same H G)
        ⟨⟨none, none, rfl⟩, Same.refl _⟩ (fun i σ G _ ⟨_, s⟩ => sameT s hS) ?_ ?_⟩
      · rintro i y σ G Tn hy ⟨⟨s1, s2, rfl⟩, S1⟩ hT
        rw [List.getElem?_map] at hy
        obtain ⟨g, hg, rfl⟩ := Option.map_eq_some_iff.mp hy
        have hi : i < fs.length := (List.getElem?_eq_some_iff.mp hg).1
        have S2 := S1.trans (same_lay (o := .tup [.int (i : Nat), .str g]) hT)
        refine ⟨Tn, _, rfl, .inl (.inl upd_same), rfl, _, _, rfl, _, _, rfl, rfl, ?_⟩
        refine ⟨_, rfl, g, rfl, hg_.2.2.1 g (List.mem_of_getElem? hg), fun G2 S3 => ?_⟩
        have S4 := S2.trans S3
        refine ⟨_, rfl, _, rfl, _, rfl, _, rfl, .inr ⟨a, _, rfl, sameT S4 hS, not_full hi, fun l nl => ?_⟩⟩
        have S5 := S4.trans (same_lay (o := .tup (cutV (fs.map V.str) none (some (i : Int)))) nl)
        refine ⟨l, _, rfl, .inr (.inl (.inl upd_same)), rfl, ?_, _, rfl, ?_⟩
        · rw [cut_strs]; exact flat_strs _
        · rw [cut_strs] at S5
          rw [cut_strs, notin_strs (fresh_at hg_.2.2.2 hg)]
          exact iteF ⟨⟨_, _, rfl⟩, S5⟩
      · rintro σ G ⟨⟨s1, s2, rfl⟩, S1⟩
        exact q G S1
def spRuInit (K : PySem.W.Frag) (CR CP : Addr) (C : Nat → Addr) : Sp := fun vs H Q _ => ∃ (x dx a b : Addr) (n : Int) (fs : List Str) (xs : List V) (ms : List CM), vs = [.ref x, .ref a, .int n, .ref b] ∧ H x = some (.ins CR dx []) ∧ SqE K H a (fs.map V.str) ∧ GoodFs fs ∧ placeB n = true ∧
  SqE K H b xs ∧ All2 (CRep CP C H) xs ms ∧ ms.length ≤ 60 ∧ (∀ m ∈ ms, Fits fs n m) ∧ ∀ (ft tt : Addr) H', H' x = some (.ins CR dx (rFl ft n tt)) → SqT K H' ft (fs.map V.str) → SqT K H' tt xs → Fre x H H' → Q .non H'
theorem scRI : FnScope ["self", "functions", "last", "told", "index", "clause"] ["self", "functions", "last", "told"] (defScope sRuInit) := ⟨rfl, rfl, rfl, by decide +kernel, rfl, by decide +kernel, by decide +kernel⟩
theorem ok_ruinit {f : Addr} {fd : FuncData} (F : Fun K "__init__" "Rules.__init__" sRuInit f fd) (T : PTxt K mg CP) (R : RTxt K mg CR) (CF : Cl P w K mg base 3 "_check_functions" ["functions"] (spChkFuns K)) (IP : Cl P w K mg base 2 "is_place" ["value"] (spIsPlace K))
    (IC : Cl P w K mg base 1 "is_clause" ["value"] (spIsClause CP C)) (KF : Cl P w K mg base 2 "check_fits" ["clause", "functions", "last"] (spFits K CP C)) : FnOk P w K mg base CX0 4 f fd ["self", "functions", "last", "told"] (spRuInit K CR CP C) := by
  refine F.ok scRI (fun vs H Q E h => ?_) (fun cdv A outer s H vs Q E hr h => ?_)
  · obtain ⟨x, dx, a, b, n, fs, xs, ms, rfl, _⟩ := h
    rfl
  · obtain ⟨x, dx, a, b, n, fs, xs, ms, rfl, hx, hS, hg, hn, hB, hA, hl, hF, q⟩ := h
    obtain ⟨t60, hm⟩ := R.most
    have nd := scRI.nd
    refine ⟨_, pss_cons (ps_expr (pe_cl CF hr (by decide) (by rfl) (pa_cons (pv 1) pa_nil)))
      (pss_cons (ps_if (pt_not (pt_val (pe_cl IP hr (by decide) (by rfl) (pa_cons (pv 2) pa_nil))))
          (pss_one ps_never)
          pss_nil)
      (pss_cons (ps_if (pt_cmpR op_gt (pe_callB call_len_seq (by rfl) T.zLen PySem.boot_len (pa_cons (pv 3) pa_nil)) (pe_glob (v := .int 60) (by rfl) hm ⟨_, rfl⟩) (nomark _))
          (pss_one ps_never)
          pss_nil)
      (pss_cons (ps_for PassesOwn.never rfl (pi_or (pi_enum (by rfl) T.zEnum (pa_cons (pv 3) pa_nil)) (pi_enumT (by rfl) T.zEnum (pa_cons (pv 3) pa_nil))) (pg_tup rfl (pgs_cons (pg_name (i := 4) nd rfl (.inl rfl)) (pgs_cons (pg_name (i := 5) nd rfl (.inl rfl)) pgs_nil)))
          (pss_cons (ps_if (pt_not (pt_val (pe_cl IC hr (by decide) (by rfl) (pa_cons (pv 5) pa_nil))))
              (pss_one ps_never)
              pss_nil)
          (pss_one (ps_expr (pe_cl KF hr (by decide) (by rfl) (pa_cons (pv 5) (pa_cons (pv 1) (pa_cons (pv 2) pa_nil))))))))
      (pss_cons (ps_fld (pv 0) (pe_callTy (call_tupOf K rfl) (by rfl) T.zTup bt_tup (pa_cons (pv 1) pa_nil)) rfl)
      (pss_cons (ps_fld (pv 0) (pv 2) rfl)
      (pss_one (ps_fld (pv 0) (pe_callTy (call_tupOf K rfl) (by rfl) T.zTup bt_tup (pa_cons (pv 3) pa_nil)) rfl))))))), ?_⟩
    have lx : xs.length = ms.length := hA.length
    refine ⟨_, rfl, a, fs, rfl, hS, hg, fun H0 S0 => ?_⟩
    refine ⟨_, rfl, .int n, rfl, .inl ⟨n, rfl, _, rfl, ?_⟩⟩
    rw [hn]
    refine iteF ⟨_, rfl, b, xs, rfl, hB.same S0, _, _, rfl, rfl, _, rfl, ite2 (fun z => absurd (of_decide_eq_true z) (by omega)) (fun _ => ?_)⟩
    have after : ∀ (σ : L2.St) (G : Hp) (i1 s1 : Option V), σ = [some (.ref x), some (.ref a), some (.int n), some (.ref b), i1, s1] → Same H G → (tSeq (sFld K (tVar 0) (tCB (rTupOf K) (tCons (tVar 1) tNil)) "functions") (tSeq (sFld K (tVar 0) (tVar 2) "last") (sFld K (tVar 0) (tCB (rTupOf K) (tCons (tVar 3) tNil)) "told")))
        { nx := fun _ H' => Q .non H', rt := Q } σ G := by
      rintro σ G i1 s1 rfl SG
      refine ⟨_, rfl, ?_⟩
      dsimp only [tNil]
      refine tupOf_E (hS.same SG) fun t G1 ht S1 => ?_
      have hx1 := S1 _ _ (SG _ _ hx)
      refine ⟨_, rfl, x, CR, dx, _, rfl, hx1, R.cl, R.nF, (by show 0 < 1000; decide), ?_⟩
      refine ⟨_, rfl, _, rfl, x, CR, dx, _, rfl, upd_same, R.cl, R.nL, (by show 1 < 1000; decide), ?_⟩
      rw [upd_upd]
      have f2 : Fre x G1 (upd G1 x (.ins CR dx (putF "last" (.int n) (putF "functions" (.ref t) [])))) := Fre.put
      refine ⟨_, rfl, ?_⟩
      dsimp only [tNil]
      refine tupOf_E ((hB.same (SG.trans S1)).fre hx1 f2) fun t2 G2 ht2 S2 => ?_
      have hx2 : G2 x = _ := S2 _ _ (upd_same)
      refine ⟨_, rfl, x, CR, dx, _, rfl, hx2, R.cl, R.nT, (by show 2 < 1000; decide), ?_⟩
      have f3 : Fre x G2 (upd G2 x (.ins CR dx (rFl t n t2))) := Fre.put
      refine q t t2 _ upd_same (tup_fre (sameT S2 (tup_fre ht hx1 f2)) hx2 f3) (tup_fre ht2 hx2 f3) ?_
      exact fun c o e nc => f3 _ _ (S2 _ _ (f2 _ _ (S1 _ _ (SG _ _ e)) nc)) nc
    have hS := hS
    rcases hB with hB | hB
    · refine .inl ⟨_, rfl, b, xs, rfl, S0.seq hB, for_enum (K := K) (a := b) (xs := xs) (fun i σ G => (∃ s1 s2, σ = [some (.ref x), some (.ref a), some (.int n), some (.ref b), s1, s2]) ∧ Same H G)
        ⟨⟨none, none, rfl⟩, S0⟩ (fun i σ G _ ⟨_, s⟩ => s.seq hB) ?_ ?_⟩
      · rintro i y σ G Tn hy ⟨⟨s1, s2, rfl⟩, S1⟩ hT
        obtain ⟨m, hm, hC⟩ := hA.getL hy
        obtain ⟨z, rfl, _⟩ := id hC
        have S2 := S1.trans (same_lay (o := .tup [.int (i : Nat), .ref z]) hT)
        refine ⟨Tn, _, rfl, .inl (.inl upd_same), rfl, _, _, rfl, _, _, rfl, rfl, ?_⟩
        refine ⟨_, rfl, z, m, rfl, mon_CRep.up S2 hC, fun G2 S3 => ⟨_, rfl, iteF ?_⟩⟩
        have S4 := S2.trans S3
        refine ⟨_, rfl, _, rfl, _, rfl, z, a, n, m, fs, rfl, mon_CRep.up S4 hC, hS.same S4, hF m (List.mem_of_getElem? hm), fun G3 S5 => ?_⟩
        exact ⟨⟨_, _, rfl⟩, S4.trans S5⟩
      · rintro σ G ⟨⟨s1, s2, rfl⟩, S1⟩
        exact after _ G s1 s2 rfl S1
    · refine .inr ⟨_, rfl, b, xs, rfl, sameT S0 hB, for_enumT (K := K) (a := b) (xs := xs) (fun i σ G => (∃ s1 s2, σ = [some (.ref x), some (.ref a), some (.int n), some (.ref b), s1, s2]) ∧ Same H G)
        ⟨⟨none, none, rfl⟩, S0⟩ (fun i σ G _ ⟨_, s⟩ => sameT s hB) ?_ ?_⟩
      · rintro i y σ G Tn hy ⟨⟨s1, s2, rfl⟩, S1⟩ hT
        obtain ⟨m, hm, hC⟩ := hA.getL hy
        obtain ⟨z, rfl, _⟩ := id hC
        have S2 := S1.trans (same_lay (o := .tup [.int (i : Nat), .ref z]) hT)
        refine ⟨Tn, _, rfl, .inl (.inl upd_same), rfl, _, _, rfl, _, _, rfl, rfl, ?_⟩
        refine ⟨_, rfl, z, m, rfl, mon_CRep.up S2 hC, fun G2 S3 => ⟨_, rfl, iteF ?_⟩⟩
        have S4 := S2.trans S3
        refine ⟨_, rfl, _, rfl, _, rfl, z, a, n, m, fs, rfl, mon_CRep.up S4 hC, hS.same S4, hF m (List.mem_of_getElem? hm), fun G3 S5 => ?_⟩
        exact ⟨⟨_, _, rfl⟩, S4.trans S5⟩
      · rintro σ G ⟨⟨s1, s2, rfl⟩, S1⟩
        exact after _ G s1 s2 rfl S1
end
end OR

namespace OR
open PySem PySem.Spec PyProof.Rows L2
theorem dp_strs {K : PySem.W.Frag} {H : Hp} : ∀ ws : List Str, DpAll K H (ws.map V.str) (ws.map PyData.str)
  | [] => .nil
  | w :: r => .cons (.str w) (dp_strs r)
def SmallS (w : Str) : Prop := ∀ c ∈ w.cps.toList, c < 200
theorem Word.small {w : Str} (h : Word w) : SmallS w := fun c hc => by have := h.az c hc; omega
theorem strOk_of {w : Str} (h : SmallS w) : PyData.strOk w = true := by
  unfold PyData.strOk
  rw [← Array.all_toList, List.all_eq_true]
  intro c hc
  have := h c hc
  exact decide_eq_true (by omega)
theorem lay_strs : ∀ {ws : List Str}, (∀ w ∈ ws, SmallS w) → PyData.canLayAll0 (ws.map PyData.str) = true
  | [], _ => rfl
  | w :: r, h => by
    show (PyData.strOk w && PyData.canLayAll0 (r.map PyData.str)) = true
    rw [lay_strs fun x hx => h x (List.mem_cons_of_mem _ hx), Bool.and_true]
    exact strOk_of (h w List.mem_cons_self)
theorem dep_strs : ∀ ws : List Str, PyData.depthAll (ws.map PyData.str) = 0
  | [] => rfl
  | w :: r => by
    show max (PyData.depth (.str w)) (PyData.depthAll (r.map PyData.str)) = 0
    rw [dep_strs r]
    rfl
theorem shpT_strs {ws : List Str} (h : ∀ w ∈ ws, SmallS w) : SeqAt.shaped (.tuple (ws.map PyData.str)) = true := by
  unfold SeqAt.shaped
  rw [show PyData.canLay0 (.tuple (ws.map PyData.str)) = true from lay_strs h, Bool.true_and]
  refine decide_eq_true ?_
  show PyData.depthAll (ws.map PyData.str) + 1 ≤ 64
  rw [dep_strs]
  decide
theorem shpL_strs {ws : List Str} (h : ∀ w ∈ ws, SmallS w) : SeqAt.shaped (.list (ws.map PyData.str)) = true := by
  unfold SeqAt.shaped
  rw [show PyData.canLay0 (.list (ws.map PyData.str)) = true from lay_strs h, Bool.true_and]
  refine decide_eq_true ?_
  show PyData.depthAll (ws.map PyData.str) + 1 ≤ 64
  rw [dep_strs]
  decide
theorem eqvAll_strs : ∀ (xs ys : List Str), PyData.eqvAll (xs.map PyData.str) (ys.map PyData.str) = decide (xs = ys)
  | [], [] => rfl
  | [], _ :: _ => rfl
  | _ :: _, [] => rfl
  | x :: xs, y :: ys => by
    show (PyData.eqv (.str x) (.str y) && PyData.eqvAll (xs.map PyData.str) (ys.map PyData.str)) = _
    rw [eqvAll_strs xs ys]
    show (x == y && decide (xs = ys)) = _
    by_cases e : x = y
    · subst e
      by_cases e2 : xs = ys <;> simp [e2]
    · simp [e]
theorem eqvT_strs (xs ys : List Str) : PyData.eqv (.tuple (xs.map PyData.str)) (.tuple (ys.map PyData.str)) = decide (xs = ys) := eqvAll_strs xs ys
theorem eqvL_strs (xs ys : List Str) : PyData.eqv (.list (xs.map PyData.str)) (.list (ys.map PyData.str)) = decide (xs = ys) := eqvAll_strs xs ys
section
variable {P : Program} {w : World} {K : PySem.W.Frag} {mg : Str → Option Value} {base : Heap} {C : Nat → Addr} {CP CR : Addr}
theorem tyR {H : Hp} {x dx : Addr} {fs : List (Str × V)} (R : RTxt K mg CR) (hx : H x = some (.ins CR dx fs)) : TyX K H (.ref x) (.ref CR) := .base (.ins hx R.cl R.isi.ca R.isi.cn R.isi.ct R.isi.cm)
instance decCML : DecidableEq (List CM) := @instDecidableEqList CM (fun a b => instDecidableEqProd a b)
def req (fs : List Str) (n : Int) (ms : List CM) (gs : List Str) (k : Int) (ns : List CM) : Bool := decide (fs = gs) && (decide (n = k) && decide (ms = ns))
def spRuEq (K : PySem.W.Frag) (CR CP : Addr) (C : Nat → Addr) : Sp := fun vs H Q _ => ∃ (a : Addr) (y : V) (fs : List Str) (n : Int) (ms : List CM), vs = [.ref a, y] ∧ IsR K CR CP C H a fs n ms ∧ (∀ f ∈ fs, SmallS f) ∧
  ((∃ b gs k ns, y = .ref b ∧ IsR K CR CP C H b gs k ns ∧ (∀ f ∈ gs, SmallS f) ∧ ∀ H', Same H H' → Q (.bl (req fs n ms gs k ns)) H') ∨ (∃ T : String, TyX K H y (.type T) ∧ PySem.W.kitOne K (.type T) (.ref CR) = some false ∧ Q (.bl false) H))
theorem scRE : FnScope ["self", "other"] ["self", "other"] (defScope sRuEq) := ⟨rfl, rfl, rfl, by decide +kernel, rfl, by decide +kernel, by decide +kernel⟩
theorem ok_rueq {f : Addr} {fd : FuncData} (F : Fun K "__eq__" "Rules.__eq__" sRuEq f fd) (T : PTxt K mg CP) (R : RTxt K mg CR) (CT : CTxt K mg C) (N : NF K C) (EQ : ∀ i, i < 7 → Md P w K mg base 2 (C i) "__eq__" (spCEq K CP C i)) : FnOk P w K mg base CX0 4 f fd ["self", "other"] (spRuEq K CR CP C) := by
  refine F.ok scRE (fun vs H Q E h => ?_) (fun cdv A outer s H vs Q E hr h => ?_)
  · obtain ⟨x, y, fs, n, ms, rfl, _⟩ := h
    rfl
  · obtain ⟨x, y, fs, n, ms, rfl, ⟨dx, ft, t, xs, hx, hf, ht, hA⟩, sf, h⟩ := h
    have hu64 : (A.deeper (envOfC "Rules.__eq__" (defScope sRuEq) s.heap.objs.size f cdv)).units + 64 < cLine := hr.units
    have nd := scRE.nd
    refine ⟨_, pss_cons (ps_if (pt_not (pt_val (pe_callB call_isi (by rfl) T.zIsi bt_isi (pa_cons (pv 1) (pa_cons (pe_glob (v := .ref CR) (by rfl) R.mgC rfl) pa_nil)))))
          (pss_one (ps_ret pe_bl))
          pss_nil)
      (pss_one (ps_ret (pe_and (pe_cmpR (op_eqD hu64) (pe_fld (pv 0) rfl) (pe_fld (pv 1) rfl) (nomark _)) (pe_and (pe_cmpR op_eq (pe_fld (pv 0) rfl) (pe_fld (pv 1) rfl) (nomark _))
        (pe_one (pe_cmpR (op_eqR (rcR_tup mon_CRep (eqR_cl CT N EQ) false) hr) (pe_fld (pv 0) rfl) (pe_fld (pv 1) rfl) (nomark _))))))), ?_⟩
    rcases h with ⟨y, gs, k, ns, rfl, ⟨dy, gt, u, ys, hy, hg, hu, hB⟩, sg, q⟩ | ⟨ty, hT, hk, q⟩
    · refine ⟨_, rfl, .ref y, .ref CR, _, _, true, rfl, .own CR, tyR R hy, R.kRR, true, rfl, iteF ?_⟩
      refine ⟨_, rfl, x, CR, dx, _, _, rfl, hx, R.cl, R.nF, rFl_f _ _ _, _, rfl, y, CR, dy, _, _, rfl, hy, R.cl, R.nF, rFl_f _ _ _, .tuple (fs.map PyData.str), .tuple (gs.map PyData.str), .tup hf (dp_strs fs), .tup hg (dp_strs gs), shpT_strs sf, shpT_strs sg, ?_⟩
      rw [eqvT_strs]
      unfold req at q
      refine ⟨_, rfl, ite2 (fun e1 => ?_) (fun e1 => ?_)⟩
      · rw [e1] at q
        refine ⟨_, rfl, x, CR, dx, _, _, rfl, hx, R.cl, R.nL, rFl_l _ _ _, _, rfl, y, CR, dy, _, _, rfl, hy, R.cl, R.nL, rFl_l _ _ _, rfl, ?_⟩
        have en : decide (V.int n = V.int k) = decide (n = k) := by simp
        rw [en]
        refine ⟨_, rfl, ite2 (fun e2 => ?_) (fun e2 => ?_)⟩
        · rw [e2] at q
          refine ⟨_, rfl, x, CR, dx, _, _, rfl, hx, R.cl, R.nT, rFl_t _ _ _, _, rfl, y, CR, dy, _, _, rfl, hy, R.cl, R.nT, rFl_t _ _ _, ms, ns, ⟨t, xs, rfl, ht, hA⟩, ⟨u, ys, rfl, hu, hB⟩, fun G e => ?_⟩
          have q' := q G e
          simpa using q'
        · have : decide (n = k) = false := by simpa using e2
          rw [this] at q
          simpa using q H (Same.refl _)
      · have : decide (fs = gs) = false := by simpa using e1
        rw [this] at q
        simpa using q H (Same.refl _)
    · exact ⟨_, rfl, y, .ref CR, _, _, false, rfl, .own CR, hT, hk, false, rfl, iteT q⟩
structure RMk (P : Program) (w : World) (K : PySem.W.Frag) (mg : Str → Option Value) (base : Heap) (CR CP : Addr) (C : Nat → Addr) : Prop where
  made : ∃ f fd, Mk K CR f ∧ FnOk P w K mg base CX0 4 f fd ["self", "functions", "last", "told"] (spRuInit K CR CP C) ∧ Binds K fd ["self", "functions", "last", "told"] []
  mgC : mg "Rules" = some (.ref CR)
def tMkR (K : PySem.W.Frag) (CR CP : Addr) (C : Nat → Addr) (t : TA) : TE := fun σ H Q => t σ H fun vs H1 => ∃ (a b : Addr) (n : Int) (fs : List Str) (xs : List V) (ms : List CM), vs = [.ref a, .int n, .ref b] ∧ SqE K H1 a (fs.map V.str) ∧ GoodFs fs ∧ placeB n = true ∧
  SqE K H1 b xs ∧ All2 (CRep CP C H1) xs ms ∧ ms.length ≤ 60 ∧ (∀ m ∈ ms, Fits fs n m) ∧ ∀ x H', H1 x = none → IsR K CR CP C H' x fs n ms → Same H1 H' → Q (.ref x) H'
theorem pe_mkR {X : Cx} {C : Nat → Addr} {CR CP : Addr} {j : Nat} {e : Expr} {es : List Expr} {t : TA} {p pos : Pos} (M : RMk X.prog X.w X.K X.mg X.base CR CP C) (hr : Room j X.A) (hj : 5 ≤ j) (hg : Gl X "Rules") (ha : PA X (e :: es) t)
    (he : starEach (e :: es) X.env = (false, eval e X.env) :: starEach es X.env := by rfl) (hpl : (backTo pos (starEach es X.env)).any (·.1) = false := by rfl) : PE X (.Call (.Name "Rules" p) (e :: es) [] pos) (tMkR X.K CR CP C t) := by
  obtain ⟨f, fd, mk, F, hb⟩ := M.made
  refine ⟨fun pins s σ H Q I h => ?_⟩
  refine wpAny_Call_Name_kw (ld_glob I hg M.mgC ?_ (by decide))
  refine PySem.W.callWith_K (h₀ := X.base) I.ok.mod.kin mk.kp (thn (ha.run pos pins s σ H _ I h) fun us s1 ⟨vs, H1, I1, r, q⟩ => ⟨I1.kIn, ?_⟩) he hpl
  obtain ⟨a, b, n, fs, xs, ms, rfl, hS, hg2, hn, hB, hA, hl, hF, q⟩ := q
  refine run_make mk F (hr.mono hj) hb .nil pass0 I1 r fun x dx nx ndx nex => ?_
  have S1 : Same H1 (upd (upd H1 dx (.own x)) x (.ins CR dx [])) := fun c o e => by rw [upd_ne (ne_of_none e nx), upd_ne (ne_of_none e ndx)]; exact e
  refine ⟨x, dx, a, b, n, fs, xs, ms, rfl, upd_same, hS.same S1, hg2, hn, hB.same S1, hA.imp fun _ _ => mon_CRep.up S1, hl, hF, fun ft tt H' hx h1 h2 hs => ⟨rfl, ?_⟩⟩
  have S2 : Same H1 H' := fun c o e => hs c o (S1 c o e) (ne_of_none e nx)
  exact q x H' nx ⟨dx, ft, tt, xs, hx, h1, h2, hA.imp fun _ _ => mon_CRep.up S2⟩ S2
end
end OR

namespace OR
open PySem PySem.Spec PyProof.Rows L2
open TL (tl numL)
/-! ### drawn words -/
def ch (c : Nat) : Str := ⟨#[c]⟩
theorem tl_ch (c : Nat) : tl (ch c) = [c] := rfl
theorem tl_join0 : ∀ cs : List Nat, tl (Txt.join ("" : Str) (cs.map ch)) = cs
  | [] => rfl
  | [c] => by rw [TL.join_eq]; rfl
  | c :: d :: r => by
    have ih := tl_join0 (d :: r)
    rw [TL.join_eq] at ih ⊢
    show tl ((ch c ++ ("" : Str)) ++ Str.join ("" : Str) ((d :: r).map ch)) = _
    rw [TL.tl_append, TL.tl_append, ih]
    rfl
theorem let_az {c : Nat} (h : c ∈ tl letters) : 97 ≤ c ∧ c ≤ 122 := by
  have e : tl letters = (List.range 26).map (· + 97) := by decide +kernel
  rw [e] at h
  obtain ⟨j, hj, rfl⟩ := List.mem_map.mp h
  have := List.mem_range.mp hj
  omega
theorem Frm.putNew {p d : Addr} {H H2 : Hp} {xs : List V} {o : HO} (f : Frm p H H2) (nd : H d = none) (h : H2 d = some (.lst xs)) : Frm p H (upd H2 d o) := ⟨fun b u e nb => by rw [upd_ne (ne_of_none e nd)]; exact f _ _ e nb, fun c hc => by
  obtain ⟨k, l', e⟩ := f.ce c hc
  exact ⟨k, l', by rw [upd_ne (ne_of e h (by intro z; cases z))]; exact e⟩⟩
def spPickS : Sp := fun vs H Q _ => ∃ (p : Addr) (s : Str) (n : Nat), vs = [.ref p, .str s] ∧ 0 < s.length ∧ s.length ≤ 1000 ∧ Pen H p n ∧ n ≤ 1000000 ∧ ∀ (c : Nat) (H' : Hp), c ∈ tl s → Pen H' p (n + 1) → Frm p H H' → Q (.str (ch c)) H'
theorem sum_le : ∀ (ws : List Str) (k : Nat), (∀ w ∈ ws, w.length ≤ k) → (ws.map (·.length)).sum ≤ ws.length * k
  | [], _, _ => by simp
  | w :: r, k, h => by
    have h1 := sum_le r k fun x hx => h x (List.mem_cons_of_mem _ hx)
    have h2 := h w List.mem_cons_self
    rw [List.map_cons, List.sum_cons, List.length_cons, Nat.succ_mul]
    omega
theorem len_app (a b : Str) : (a ++ b).length = a.length + b.length := by rw [TL.len_tl, TL.len_tl, TL.len_tl, TL.tl_append, List.length_append]
theorem Pen.putNew {H0 G : Hp} {p o : Addr} {n m : Nat} {xs : List V} {u : HO} (P0 : Pen H0 p m) (P : Pen G p n) (f : Frm p H0 G) (no : H0 o = none) (h : G o = some (.lst xs)) : Pen (upd G o u) p n := by
  obtain ⟨c0, hc0, hcn⟩ := P0.cells
  exact P.put (f.ce c0 hc0) h fun e => hcn (by rw [e]; exact no)
theorem ix_tupK {X : Cx} (K : PySem.W.Frag) (hK : X.K = K) : IxR X (rIxT K) := by
  subst hK
  exact ix_tup
theorem ix_listK {X : Cx} (K : PySem.W.Frag) (hK : X.K = K) : IxR X (rIxL K) := by
  subst hK
  exact ix_list
/-- the words of the law: a stem and one of three letters -/
def wrd (stem : List Nat) (k : Nat) : Str := ⟨(stem ++ [112 + k]).toArray⟩
theorem wrd_tl (stem : List Nat) (k : Nat) : tl (wrd stem k) = stem ++ [112 + k] := rfl
theorem wrd_ok {stem : List Nat} {k : Nat} (hl : stem.length ≤ 7) (hs : ∀ x ∈ stem, 97 ≤ x ∧ x ≤ 122) (hk : k < 3) : Word (wrd stem k) := by
  have len : (wrd stem k).length = stem.length + 1 := by
    rw [TL.len_tl, wrd_tl, List.length_append]; rfl
  refine ⟨by omega, by omega, fun x hx => ?_⟩
  rw [wrd_tl] at hx
  rcases List.mem_append.mp hx with h | h
  · exact hs x h
  · rw [List.mem_singleton.mp h]; omega
theorem wrd_ne {s t : List Nat} {j k : Nat} (h : j ≠ k) : wrd s j ≠ wrd t k := fun e => h (by
  have := congrArg tl e
  rw [wrd_tl, wrd_tl] at this
  have := congrArg List.getLast? this
  rw [List.getLast?_append, List.getLast?_append] at this
  simp at this
  exact this)
/-- the k-th word of a list is the k-th word of the law -/
def WordsAt (ws : List Str) : Prop := ∀ (k : Nat) (x : Str), ws[k]? = some x → ∃ stem : List Nat, x = wrd stem k ∧ stem.length ≤ 7 ∧ ∀ c ∈ stem, 97 ≤ c ∧ c ≤ 122
theorem WordsAt.snoc {ws : List Str} {stem : List Nat} (h : WordsAt ws) (hl : stem.length ≤ 7) (hs : ∀ c ∈ stem, 97 ≤ c ∧ c ≤ 122) : WordsAt (ws ++ [wrd stem ws.length]) := fun k x hx => by
  rcases Nat.lt_trichotomy k ws.length with e | e | e
  · rw [List.getElem?_append_left e] at hx
    exact h k x hx
  · subst e
    rw [List.getElem?_concat_length] at hx
    exact ⟨stem, (Option.some.inj hx).symm, hl, hs⟩
  · rw [List.getElem?_eq_none (by rw [List.length_append]; show ws.length + 1 ≤ k; omega)] at hx
    cases hx
theorem WordsAt.word {ws : List Str} (h : WordsAt ws) (hl : ws.length ≤ 3) : ∀ x ∈ ws, Word x := fun x hx => by
  obtain ⟨k, hk⟩ := List.getElem?_of_mem hx
  obtain ⟨stem, rfl, h1, h2⟩ := h k x hk
  exact wrd_ok h1 h2 (by have := (List.getElem?_eq_some_iff.mp hk).1; omega)
theorem WordsAt.ne {ws : List Str} (h : WordsAt ws) : ws.Pairwise (· ≠ ·) := by
  refine List.pairwise_iff_getElem.mpr fun i j hi hj hij => ?_
  obtain ⟨s, e, _⟩ := h i _ (List.getElem?_eq_getElem hi)
  obtain ⟨t, e2, _⟩ := h j _ (List.getElem?_eq_getElem hj)
  rw [e, e2]
  exact wrd_ne (Nat.ne_of_lt hij)
def spWordsOf : Sp := fun vs H Q _ => ∃ (p : Addr) (m n : Nat), vs = [.ref p, .int (m : Nat)] ∧ m ≤ 3 ∧ Pen H p n ∧ n ≤ 900000 ∧
  ∀ (a : Addr) (ws : List Str) (H' : Hp), H a = none → H' a = some (.lst (ws.map V.str)) → ws.length = m → WordsAt ws → Pen H' p (n + 40) → Frm p H H' → Q (.ref a) H'
section
variable {P : Program} {w : World} {K : PySem.W.Frag} {mg : Str → Option Value} {base : Heap}
theorem ok_pickS {f : Addr} {fd : FuncData} (F : Fun K "_law_pick" "_law_pick" sPick f fd) (B : Bl mg) (D : Cl P w K mg base 1 "_law_draw" ["_law_pen", "_law_many"] spDraw) : FnOk P w K mg base CX0 2 f fd ["_law_pen", "_law_options"] spPickS := by
  refine F.ok scPick (fun vs H Q E h => ?_) (fun cdv A outer s H vs Q E hr h => ?_)
  · obtain ⟨p, s, n, rfl, _⟩ := h
    rfl
  · obtain ⟨p, x, n, rfl, h0, h1, hP, hn, q⟩ := h
    refine ⟨_, pss_one (ps_ret (pe_ix ix_str (pv 1) (pe_cl D hr (by decide) (by rfl) (pa_cons (pv 0) (pa_cons (pe_callB call_len_str (by rfl) B.len PySem.boot_len (pa_cons (pv 1) pa_nil)) pa_nil))) (fun _ _ => rfl))), ?_⟩
    refine ⟨_, rfl, _, rfl, _, rfl, x, rfl, sz1 (by omega), p, x.length, n, rfl, by omega, ?_, hP, hn, fun r H' hr0 hr1 hP' hF => ?_⟩
    · have : x.length < 2 ^ 200 := Nat.lt_of_le_of_lt h1 (by decide)
      simpa using this
    · have hj : r.toNat < (tl x).length := by rw [← TL.len_tl]; omega
      refine ⟨x, r, (tl x)[r.toNat], rfl, rfl, sz1 (by omega), ?_, q _ _ (List.getElem_mem hj) hP' hF⟩
      have := atI_nat (xs := tl x) (j := r.toNat) (v := (tl x)[r.toNat]) (List.getElem?_eq_getElem hj)
      rw [Int.toNat_of_nonneg hr0] at this
      exact this
theorem scWd : FnScope ["_law_pen", "_law_many", "_law_found", "_law_k", "_law_stem", "_law_j"] ["_law_pen", "_law_many"] (defScope sWordsOf) := ⟨rfl, rfl, rfl, by decide +kernel, rfl, by decide +kernel, by decide +kernel⟩
theorem ok_words {f : Addr} {fd : FuncData} (F : Fun K "_law_words_of" "_law_words_of" sWordsOf f fd) (B : Bd mg) (PI : Cl P w K mg base 2 "_law_pick" ["_law_pen", "_law_options"] (spPick K)) (PS : Cl P w K mg base 2 "_law_pick" ["_law_pen", "_law_options"] spPickS) : FnOk P w K mg base CX0 3 f fd ["_law_pen", "_law_many"] spWordsOf := by
  refine F.ok scWd (fun vs H Q E h => ?_) (fun cdv A outer s H vs Q E hr h => ?_)
  · obtain ⟨p, m, n, rfl, _⟩ := h
    rfl
  · obtain ⟨p, m, n, rfl, hm, hP, hn, q⟩ := h
    have nd := scWd.nd
    refine ⟨_, pss_cons (ps_set (i := 2) nd rfl (.inl rfl) (pe_lst pa_nil))
      (pss_cons (ps_for PassesOwn.never rfl (pi_range1 (by rfl) B.range (pa_cons (pv 1) pa_nil)) (pg_name (i := 3) nd rfl (.inl rfl))
          (pss_cons (ps_set (i := 4) nd rfl (.inl rfl) (pe_join pe_str (pe_lc (own := [("_law_j", 5)]) (g := (gName 5)) (tt := tYes) rfl nd (pi_range1 (by rfl) B.range (pa_cons (pe_cl PI hr (by decide) (by rfl) (pa_cons (pv 0) (pa_cons (pe_lst (pa_cons pe_int (pa_cons pe_int (pa_cons pe_int (pa_cons pe_int pa_nil))))) pa_nil))) pa_nil)) (blkOk_by (N := ["_law_pen", "_law_many", "_law_found", "_law_k", "_law_stem", "_law_j"]) (sc := defScope sWordsOf) (by decide +kernel)) (fun _ _ _ _ _ => pg_name (i := 5) nd rfl (.inl rfl)) (fun _ _ _ _ _ => pts_nil) (fun _ _ _ _ _ => (pe_cl PS hr (by decide) (by rfl) (pa_cons (pv 0) (pa_cons pe_str pa_nil)))))))
          (pss_one (ps_expr (pe_bm PySem.F.plainAttrs_list PySem.F.slot_list_append PySem.F.type_list_append mt_append (pv 2) (pa_cons (pe_op op_add_str (pv 4) (pe_ix ix_str pe_str (pv 3) (fun _ _ => rfl))) pa_nil))))))
      (pss_one (ps_ret (pv 2)))), ?_⟩
    refine ⟨Nat.zero_le _, fun o no => ?_⟩
    have s1 : Same H _ := same_lay (o := .lst []) no
    have F1 := frmS (p := p) s1
    refine ⟨_, rfl, m, rfl, by omega, by omega, for_range (lo := 0) (n := ((m : Nat) : Int).toNat) (fun i σ G => ∃ ws : List Str, (∃ s3 s4 s5, σ = [some (.ref p), some (.int (m : Nat)), some (.ref o), s3, s4, s5]) ∧ G o = some (.lst (ws.map V.str)) ∧ ws.length = i ∧ WordsAt ws ∧ Pen G p (n + 8 * i) ∧ Frm p H G)
      ⟨[], ⟨none, none, none, rfl⟩, upd_same, rfl, (fun k x h => by cases h), hP.same' s1, F1⟩ ?_ ?_⟩
    · rintro i σ G hi ⟨ws, ⟨s3, s4, s5, rfl⟩, hG, lw, hW, PG, FG⟩
      have hi3 : i < 3 := by omega
      refine ⟨⟨_, rfl⟩, _, rfl, by show 4 ≤ sizeLine; decide, fun l nl => ?_⟩
      have P1 := PG.new (o := .lst (([0, 1, 3, 7] : List Int).map V.int)) nl
      have G1 := FG.trans (Frm.new (o := .lst (([0, 1, 3, 7] : List Int).map V.int)) nl)
      have hG1 := same_lay (o := .lst (([0, 1, 3, 7] : List Int).map V.int)) nl _ _ hG
      refine ⟨p, l, _, _, rfl, .inl (.inl upd_same), Nat.succ_pos _, by show 4 ≤ 1000; decide, P1, by omega, fun v H2 hv P2 F2 => ?_⟩
      obtain ⟨r, hr', rfl⟩ := List.mem_map.mp (show v ∈ ([0, 1, 3, 7] : List Int).map V.int from hv)
      have rb : 0 ≤ r ∧ r ≤ 7 := by
        simp only [List.mem_cons, List.not_mem_nil, or_false] at hr'
        omega
      have hG2 := F2.lst P1 hG1
      have G2 := G1.trans F2
      refine ⟨r, rfl, by omega, by omega, fun d hd => ?_⟩
      have nod : o ≠ d := ne_of_none hG2 hd
      have P3 := P2.new (o := .lst []) hd
      refine lc_range (lo := 0) (n := r.toNat) (fun i2 G3 => ∃ cs : List Nat, cs.length = i2 ∧ (∀ c ∈ cs, c ∈ tl letters) ∧ G3 d = some (.lst ((cs.map ch).map V.str)) ∧ Pen G3 p (n + 8 * i + 1 + i2) ∧ Frm p H2 G3)
        ⟨[], rfl, (fun _ z => nomatch z), upd_same, P3, Frm.new hd⟩ ?_ ?_
      · rintro i2 G3 hi2 ⟨cs, lc, hcs, hD, PG3, FG3⟩
        refine ⟨rfl, yesT ?_⟩
        refine ⟨_, rfl, p, letters, _, rfl, by decide, by decide, PG3, by omega, fun c G4 hc P4 F4 => ?_⟩
        have hD4 := F4.lst PG3 hD
        have FF := FG3.trans F4
        refine ⟨_, hD4, small1000 (by rw [List.length_map, List.length_map]; omega), cs ++ [c], by rw [List.length_append, lc]; rfl, fun x hx => ?_, ?_, (P2.putNew P4 FF hd hD4).mono (by omega), FF.putNew hd hD4⟩
        · rcases List.mem_append.mp hx with k | k
          · exact hcs x k
          · rw [List.mem_singleton.mp k]; exact hc
        · rw [upd_same, List.map_append, List.map_append]
          rfl
      · rintro G3 ⟨cs, lc, hcs, hD, PG3, FG3⟩
        have l0 : ("" : Str).length = 0 := by decide
        refine ⟨_, d, cs.map ch, rfl, rfl, .inl (.inl (.inl hD)), ?_, ?_⟩
        · have := sum_le (cs.map ch) 1 (fun w hw => by
            obtain ⟨c, _, rfl⟩ := List.mem_map.mp hw
            exact Nat.le_refl 1)
          rw [List.length_map] at this ⊢
          rw [l0]
          omega
        generalize hstem : Txt.join (Str.ofString "") (cs.map ch) = stem
        have tls : tl stem = cs := by rw [← hstem]; exact tl_join0 cs
        have lens : stem.length = cs.length := by rw [TL.len_tl, tls]
        have azs : ∀ x ∈ cs, 97 ≤ x ∧ x ≤ 122 := fun x hx => let_az (hcs x hx)
        have hG3 := FG3.lst P2 hG2
        have FH := G2.trans FG3
        have hat : atI (tl ("pqr" : Str)) ((0 : Int) + (i : Int)) = some (112 + i) := by
          have : (tl ("pqr" : Str))[i]? = some (112 + i) := by
            rcases (show i = 0 ∨ i = 1 ∨ i = 2 by omega) with e | e | e <;> subst e <;> decide +kernel
          have := atI_nat this
          rw [Int.zero_add]
          exact this
        refine ⟨_, rfl, .inl ⟨rfl, _, .inl (.inl hG3)⟩, _, rfl, _, rfl, _, _, _, rfl, rfl, (by decide), hat, _, _, rfl, rfl, sz1 ?_, o, _, _, rfl, rfl, hG3, small1000 (by rw [List.length_map]; omega), ?_⟩
        · show stem.length + 1 ≤ 20000
          omega
        have ew : stem ++ ch (112 + i) = wrd cs i := TL.ext_tl (by rw [TL.tl_append, tls, wrd_tl, tl_ch])
        refine ⟨ws ++ [wrd cs i], ⟨_, _, _, rfl⟩, ?_, by rw [List.length_append, lw]; rfl, ?_, (hP.putNew PG3 FH no hG3).mono (by omega), FH.putNew no hG3⟩
        · rw [upd_same, List.map_append]
          show _ = some (HO.lst (ws.map V.str ++ [V.str (wrd cs i)]))
          rw [← ew]
          rfl
        · rw [← lw]
          exact hW.snoc (by omega) azs
    · rintro σ G ⟨ws, ⟨s3, s4, s5, rfl⟩, hG, lw, hW, PG, FG⟩
      have em : ((m : Nat) : Int).toNat = m := Int.toNat_natCast m
      exact ⟨_, rfl, q o ws G no hG (by rw [lw, em]) hW (PG.mono (by omega)) FG⟩
end
end OR

namespace OR
open PySem PySem.Spec PyProof.Rows L2
open TL (tl numL)
/-! ### stretches in one form -/
def spNormal (K : PySem.W.Frag) : Sp := fun vs H Q _ => ∃ (a : Addr) (L : List ARow), vs = [.ref a] ∧ SqL K H a (refs L) ∧ AtR H L ∧ (∀ r ∈ rws L, r.1 ≤ r.2) ∧ L.length ≤ 500 ∧
  ∀ (o : Addr) (M : List ARow) (H' : Hp), Same H H' → H o = none → H' o = some (.lst (refs M)) → AtR H' M → Nf (rws M) → (∀ x, mem (rws M) x ↔ mem (rws L) x) → M.length ≤ L.length → Q (.ref o) H'
section
variable {P : Program} {w : World} {K : PySem.W.Frag} {mg : Str → Option Value} {base : Heap}
theorem scNm : FnScope ["_law_rows", "_law_found", "_law_first", "_law_last", "_law_row"] ["_law_rows"] (defScope sNormal) := ⟨rfl, rfl, rfl, by decide +kernel, rfl, by decide +kernel, by decide +kernel⟩
theorem ok_normal {f : Addr} {fd : FuncData} (F : Fun K "_law_normal" "_law_normal" sNormal f fd) (B : Bd mg) : FnOk P w K mg base CX0 1 f fd ["_law_rows"] (spNormal K) := by
  refine F.ok scNm (fun vs H Q E h => ?_) (fun cdv A outer s H vs Q E hr h => ?_)
  · obtain ⟨a, L, rfl, _⟩ := h
    rfl
  · obtain ⟨a, L, rfl, hS, hP, hok, hlen, q⟩ := h
    have nd := scNm.nd
    have hu64 : (A.deeper (envOfC "_law_normal" (defScope sNormal) s.heap.objs.size f cdv)).units + 64 < cLine := hr.units
    refine ⟨_, pss_cons (ps_set (i := 1) nd rfl (.inl rfl) (pe_lst pa_nil))
      (pss_cons (ps_for PassesOwn.never rfl (pi_list (pe_callB cr_sortedPO (by rfl) B.sorted bt_sorted (pa_cons (pe_lc (own := [("_law_row", 4)]) (g := (gName 4)) (tt := tYes) rfl nd (pi_list (pv 0)) (blkOk_by (N := ["_law_rows", "_law_found", "_law_first", "_law_last", "_law_row"]) (sc := defScope sNormal) (by decide +kernel)) (fun _ _ _ _ _ => pg_name (i := 4) nd rfl (.inl rfl)) (fun _ _ _ _ _ => pts_nil) (fun _ _ _ _ _ => (pe_tup (pa_cons (pe_callTy call_int1 (by rfl) B.int bt_int (pa_cons (pe_ix (ix_tupK K rfl) (pv 4) pe_int (fun _ _ => rfl)) pa_nil)) (pa_cons (pe_callTy call_int1 (by rfl) B.int bt_int (pa_cons (pe_ix (ix_tupK K rfl) (pv 4) pe_int (fun _ _ => rfl)) pa_nil)) pa_nil))))) pa_nil))) (pg_tup rfl (pgs_cons (pg_name (i := 2) nd rfl (.inl rfl)) (pgs_cons (pg_name (i := 3) nd rfl (.inl rfl)) pgs_nil)))
          (pss_one (ps_if (PW.pt (pw_and (pt_cmpR (op_neD hu64) (pv 1) (pe_lst pa_nil) (nomark _)) (pw_and1 (pt_cmpR op_le (pv 2) (pe_op op_add (pe_ix ix_tup (pe_ix ix_list (pv 1) (pe_un un_neg pe_int) (fun _ _ => rfl)) pe_int (fun _ _ => rfl)) pe_int) (nomark _)))))
              (pss_one (ps_if (pt_cmpR op_gt (pv 3) (pe_ix ix_tup (pe_ix ix_list (pv 1) (pe_un un_neg pe_int) (fun _ _ => rfl)) pe_int (fun _ _ => rfl)) (nomark _))
                  (pss_one (ps_asg (pe_tup (pa_cons (pe_ix ix_tup (pe_ix ix_list (pv 1) (pe_un un_neg pe_int) (fun _ _ => rfl)) pe_int (fun _ _ => rfl)) (pa_cons (pv 3) pa_nil))) (pg_sub (pv 1) (pe_un un_neg pe_int) set_list)))
                  pss_nil))
              (pss_one (ps_expr (pe_bm PySem.F.plainAttrs_list PySem.F.slot_list_append PySem.F.type_list_append mt_append (pv 1) (pa_cons (pe_tup (pa_cons (pv 2) (pa_cons (pv 3) pa_nil))) pa_nil)))))))
      (pss_one (ps_ret (pv 1)))), ?_⟩
    refine ⟨Nat.zero_le _, fun o no => ?_⟩
    have S1 : Same H (upd H o (.lst [])) := same_lay no
    have two : 2 ≤ sizeLine := by decide
    refine ⟨_, rfl, a, rfl, ⟨_, S1.seq hS⟩, fun D hD => lc_list (K := K) (a := a) (xs := refs L) (fun i H2 => ∃ M : List ARow, H2 D = some (.lst (refs M)) ∧ AtR H2 M ∧ rws M = (rws L).take i ∧ Same (upd H o (.lst [])) H2)
      ⟨[], upd_same, (fun _ z => nomatch z), rfl, same_lay hD⟩ (fun i H2 _ ⟨_, _, _, _, s⟩ => s.seq (S1.seq hS)) ?_ ?_⟩
    · intro i x H2 hx hI
      obtain ⟨M, hD2, hM, eM, s2⟩ := hI
      obtain ⟨p, hp, hpL, rfl⟩ := refs_get hx
      have hil : i < L.length := (List.getElem?_eq_some_iff.mp hp).1
      have hlM : M.length = i := by
        rw [← rws_len M, eM, List.length_take, rws_len]
        omega
      have e1 : (rws L).take (i + 1) = (rws L).take i ++ [p.2] := by rw [List.take_add_one, rws_get hp]; rfl
      have nDp : ∀ q ∈ M, q.1 ≠ D := fun q hq => ne_of (hM q hq) hD2 (by intro z; cases z)
      have e3 := s2 _ _ (S1 _ _ (hP p hpL))
      refine ⟨rfl, yesT ?_⟩
      refine ⟨_, rfl, p.1, _, 0, .int p.2.1, rfl, rfl, .inl (.inl e3), atI_nat (j := 0) rfl, .inl ⟨_, rfl, _, rfl, p.1, _, 1, .int p.2.2, rfl, rfl, .inl (.inl e3), atI_nat (j := 1) rfl, .inl ⟨_, rfl, two, fun l hl => ?_⟩⟩⟩
      have nDl : D ≠ l := ne_of_none hD2 hl
      have s3 := same_lay (o := .tup [.int p.2.1, .int p.2.2]) hl
      refine ⟨refs M, s3 _ _ hD2, small1000 (by rw [refs_len, hlM]; omega), M ++ [(l, p.2)], ?_, ?_, ?_, same_upd (s2.trans s3) hD⟩
      · rw [upd_same, refs_snoc]
      · intro q hq
        rcases List.mem_append.mp hq with k | k
        · rw [upd_ne (nDp q k)]; exact s3 _ _ (hM q k)
        · rw [List.mem_singleton.mp k, upd_ne nDl.symm, upd_same]
      · rw [rws_snoc, eM, e1]
    · intro H2 hI
      obtain ⟨M, hD2, hM, eM, s2⟩ := hI
      rw [refs_len, List.take_of_length_le (by rw [rws_len]; exact Nat.le_refl _)] at eM
      have no2 : H2 o = some (.lst []) := s2 _ _ upd_same
      have lM : M.length = L.length := by rw [← rws_len M, eM, rws_len]
      refine ⟨D, refs M, kOf H2, rfl, .inl (.inl hD2), fun y hy => ?_, fun ys p hs hb np => ?_⟩
      · unfold refs at hy
        obtain ⟨z, hz, rfl⟩ := List.mem_map.mp hy
        exact ⟨z.1, rfl, by rw [kOf_at (hM z hz)]; exact hM z hz⟩
      obtain ⟨S, rfl, hSA, hSm, hSl, hSk⟩ := refs_perm hM hb.perm
      have hso : (rws S).Pairwise fun r s => r.1 ≤ s.1 := by
        rw [hSk]
        refine List.pairwise_map.mpr (hs.imp fun {x y} hxy => ?_)
        have := SrtO.lexB_no.mp hxy
        omega
      have hSok : ∀ r ∈ rws S, r.1 ≤ r.2 := fun r hr => hok r (by rw [← eM]; exact (hSm r).mp hr)
      obtain ⟨hnf, hme⟩ := jfold_ok hSok hso
      have s3 := same_lay (o := .lst (refs S)) np
      have nop : o ≠ p := ne_of_none no2 np
      refine ⟨p, rfl, ⟨_, .inl (.inl upd_same)⟩, for_list (K := K) (a := p) (xs := refs S) (fun i σ H' => ∃ f l, ∃ A : List ARow, σ = [some (.ref a), some (.ref o), f, l, none] ∧ H' o = some (.lst (refs A)) ∧ AtR H' A ∧ rws A = (((rws S).take i).foldl jstep []).reverse ∧ Fre o (upd H2 p (.lst (refs S))) H' ∧ A.length ≤ i)
        ⟨none, none, [], rfl, by rw [upd_ne nop]; exact no2, (fun _ z => nomatch z), rfl, Fre.refl _ _, Nat.le_refl _⟩ (fun i σ H' _ ⟨_, _, _, _, _, _, _, fr, _⟩ => .inl (.inl (fr _ _ upd_same nop.symm))) ?_ ?_⟩
      · rintro i y σ H' hy ⟨f, l, A, rfl, hoA, hA, eA, fr, hAl⟩
        obtain ⟨z, hz, hzS, rfl⟩ := refs_get hy
        have hil : i < S.length := (List.getElem?_eq_some_iff.mp hz).1
        have ez : H' z.1 = some (.tup [.int z.2.1, .int z.2.2]) := fr _ _ (s3 _ _ (hSA z hzS)) (ne_of (hSA z hzS) no2 (by intro q; cases q))
        have e1 : ((rws S).take (i + 1)).foldl jstep [] = jstep (((rws S).take i).foldl jstep []) z.2 := by
          rw [List.take_add_one, rws_get hz, List.foldl_append]
          rfl
        have nAo : ∀ q ∈ A, q.1 ≠ o := fun q hq => ne_of (hA q hq) hoA (by intro w; cases w)
        refine ⟨z.1, _, rfl, .inl (.inl ez), rfl, _, _, rfl, _, _, rfl, rfl, ?_⟩
        refine ⟨_, rfl, Nat.zero_le _, fun v hv => ?_⟩
        have sv := same_lay (o := .lst []) hv
        have hoV := sv _ _ hoA
        have hAV := hA.same sv
        have frV : Fre o (upd H2 p (.lst (refs S))) (upd H' v (.lst [])) := fr.trans fun b u e _ => sv b u e
        refine ⟨.list ((rws A).map rowD), .list [], .lst (.inl (.inl hoV)) (dp_rows hAV), .lst (.inl (.inl upd_same)) .nil, shp_lst _, rfl, _, rfl, ?_⟩
        generalize upd H' v (.lst []) = Hv at hoV hAV frV
        have app : ∀ (hj : jstep (((rws S).take i).foldl jstep []) z.2 = z.2 :: ((rws S).take i).foldl jstep []) (T : Addr), Hv T = none →
            ∃ f' l', ∃ A' : List ARow, [some (V.ref a), some (.ref o), some (.int z.2.1), some (.int z.2.2), none] = [some (.ref a), some (.ref o), f', l', none] ∧ (upd (upd Hv T (.tup [.int z.2.1, .int z.2.2])) o (.lst (refs A ++ [.ref T]))) o = some (.lst (refs A')) ∧ AtR (upd (upd Hv T (.tup [.int z.2.1, .int z.2.2])) o (.lst (refs A ++ [.ref T]))) A' ∧
              rws A' = (((rws S).take (i + 1)).foldl jstep []).reverse ∧ Fre o (upd H2 p (.lst (refs S))) (upd (upd Hv T (.tup [.int z.2.1, .int z.2.2])) o (.lst (refs A ++ [.ref T]))) ∧ A'.length ≤ i + 1 := by
          intro hj Tn hT
          have s4 := same_lay (o := .tup [.int z.2.1, .int z.2.2]) hT
          have noT : Tn ≠ o := by
            intro e
            rw [e, hoV] at hT
            cases hT
          refine ⟨_, _, A ++ [(Tn, z.2)], rfl, by rw [upd_same, refs_snoc], ?_, ?_, (frV.trans (fun b u e _ => s4 b u e)).trans Fre.put, by rw [List.length_append]; exact Nat.succ_le_succ hAl⟩
          · intro q hq
            rcases List.mem_append.mp hq with k | k
            · rw [upd_ne (nAo q k)]; exact s4 _ _ (hAV q k)
            · rw [List.mem_singleton.mp k, upd_ne noT, upd_same]
          · rw [rws_snoc, eA, e1, hj, List.reverse_cons]
        have alen : (refs A).length < sizeLine := small1000 (by rw [refs_len]; omega)
        cases hacc : ((rws S).take i).foldl jstep [] with
        | nil =>
          have eA0 : A = [] := by
            rw [hacc] at eA
            exact List.map_eq_nil_iff.mp eA
          refine ite2 (fun k => ?_) (fun _ => iteF ?_)
          · rw [eA0] at k
            exact absurd k (by decide)
          · refine ⟨_, rfl, .inl ⟨rfl, _, .inl (.inl hoV)⟩, _, rfl, _, rfl, two, fun Tn hT => ?_⟩
            refine ⟨o, refs A, _, rfl, rfl, same_lay hT _ _ hoV, alen, ?_⟩
            exact app (by rw [hacc]; rfl) Tn hT
        | cons q0 t0 =>
          have eA1 : rws A = t0.reverse ++ [q0] := by rw [eA, hacc, List.reverse_cons]
          obtain ⟨B', A2, rfl, eB, eA2⟩ := List.map_eq_append_iff.mp eA1
          obtain ⟨⟨aq, q1⟩, A3, rfl, eq1, eA3⟩ := List.map_eq_cons_iff.mp eA2
          obtain rfl := List.map_eq_nil_iff.mp eA3
          obtain rfl : q1 = q0 := eq1
          have haq : Hv aq = some (.tup [.int q1.1, .int q1.2]) := hAV (aq, q1) (List.mem_append_right _ (List.mem_singleton.mpr rfl))
          have hoW := hoV
          rw [refs_snoc] at hoV
          have hSo : SqL K Hv o (refs B' ++ [.ref aq]) := .inl (.inl hoV)
          have hSq : SqT K Hv aq [.int q1.1, .int q1.2] := .inl (.inl haq)
          have g0 : atI [V.int q1.1, .int q1.2] 0 = some (.int q1.1) := atI_nat (j := 0) rfl
          have g1 : atI [V.int q1.1, .int q1.2] 1 = some (.int q1.2) := atI_nat (j := 1) rfl
          have gl : atI (refs B' ++ [V.ref aq]) (-1) = some (.ref aq) := atI_last _ _
          refine ite2 (fun _ => ?_) (fun k => ?_)
          · refine ⟨_, rfl, _, rfl, 1, rfl, o, _, -1, _, rfl, rfl, hSo, gl, aq, _, 1, _, rfl, rfl, hSq, g1, _, _, rfl, rfl, _, _, rfl, rfl, _, rfl, ite2 (fun c => ?_) (fun c => ?_)⟩
            · have hc : z.2.1 ≤ q1.2 + 1 := of_decide_eq_true c
              refine ⟨_, rfl, _, rfl, 1, rfl, o, _, -1, _, rfl, rfl, hSo, gl, aq, _, 1, _, rfl, rfl, hSq, g1, _, _, rfl, rfl, _, rfl, ite2 (fun c2 => ?_) (fun c2 => ?_)⟩
              · have hc2 : z.2.2 > q1.2 := of_decide_eq_true c2
                refine ⟨_, rfl, 1, rfl, o, _, -1, _, rfl, rfl, hSo, gl, aq, _, 0, _, rfl, rfl, hSq, g0, _, rfl, two, fun Tn hT => ?_⟩
                have s4 := same_lay (o := .tup [.int q1.1, .int z.2.2]) hT
                have noT : Tn ≠ o := by
                  intro e
                  rw [e] at hT
                  rw [hT] at hoV
                  cases hoV
                have ixe : ixN (refs B' ++ [V.ref aq]).length (-1) = some (refs B').length := by
                  rw [List.length_append]
                  exact ixN_last _
                refine ⟨_, rfl, 1, rfl, o, _, -1, _, rfl, rfl, s4 _ _ hoV, ixe, ?_⟩
                refine ⟨_, _, B' ++ [(Tn, (q1.1, z.2.2))], rfl, by rw [upd_same, set_last, refs_snoc], ?_, ?_, (frV.trans (fun b u e _ => s4 b u e)).trans Fre.put, ?_⟩
                · intro q hq
                  rcases List.mem_append.mp hq with k | k
                  · rw [upd_ne (nAo q (List.mem_append_left _ k))]; exact s4 _ _ (hAV q (List.mem_append_left _ k))
                  · rw [List.mem_singleton.mp k, upd_ne noT, upd_same]
                · rw [rws_snoc, e1, hacc]
                  show rws B' ++ [(q1.1, z.2.2)] = (if z.2.1 ≤ q1.2 + 1 then (q1.1, if z.2.2 > q1.2 then z.2.2 else q1.2) :: t0 else z.2 :: q1 :: t0).reverse
                  rw [if_pos hc, if_pos hc2, List.reverse_cons]
                  exact congrArg (· ++ [(q1.1, z.2.2)]) eB
                · rw [List.length_append] at hAl ⊢
                  exact Nat.le_succ_of_le hAl
              · have hc2 : ¬ z.2.2 > q1.2 := fun w => c2 (decide_eq_true w)
                refine ⟨_, _, B' ++ [(aq, q1)], rfl, hoW, hAV, ?_, frV, Nat.le_succ_of_le hAl⟩
                rw [rws_snoc, e1, hacc]
                show rws B' ++ [q1] = (if z.2.1 ≤ q1.2 + 1 then (q1.1, if z.2.2 > q1.2 then z.2.2 else q1.2) :: t0 else z.2 :: q1 :: t0).reverse
                rw [if_pos hc, if_neg hc2, List.reverse_cons]
                exact congrArg (· ++ [q1]) eB
            · have hc : ¬ z.2.1 ≤ q1.2 + 1 := fun w => c (decide_eq_true w)
              refine ⟨_, rfl, .inl ⟨rfl, _, .inl (.inl hoV)⟩, _, rfl, _, rfl, two, fun Tn hT => ?_⟩
              refine ⟨o, _, _, rfl, rfl, same_lay hT _ _ hoV, by rw [← refs_snoc]; exact alen, ?_⟩
              rw [← refs_snoc]
              refine app ?_ Tn hT
              rw [hacc]
              show (if z.2.1 ≤ q1.2 + 1 then (q1.1, if z.2.2 > q1.2 then z.2.2 else q1.2) :: t0 else z.2 :: q1 :: t0) = z.2 :: q1 :: t0
              rw [if_neg hc]
          · exfalso
            apply k
            show (!PyData.eqvAll ((rws (B' ++ [(aq, q1)])).map rowD) []) = true
            rw [rws_snoc, List.map_append]
            cases (rws B').map rowD <;> rfl
      · rintro σ H' ⟨f, l, A, rfl, hoA, hA, eA, fr, hAl⟩
        rw [refs_len, List.take_of_length_le (by rw [rws_len]; exact Nat.le_refl _)] at eA
        have eN : rws A = (jfold (rws S)).reverse := eA
        have s6 : Same H H' := fun b u e => fr b u (s3 b u (s2 b u (S1 b u e))) (ne_of_none e no)
        refine ⟨_, rfl, q o A H' s6 no hoA hA (by rw [eN]; exact hnf) (fun x => ?_) ?_⟩
        · rw [eN, hme x, ← eM]
          exact mem_same hSm x
        · rw [refs_len] at hAl
          omega
end
end OR

namespace OR
open PySem PySem.Spec PyProof.Rows L2
open TL (tl numL)
/-! ### dicts with texts as keys -/
def dkv (l : List (Str × V)) : List (Key × V) := l.map fun x => (.inr x.1, x.2)
theorem valV_dkv : ∀ (l : List (Str × V)) (x : Str), valV (dkv l) (.inr x) = l.lookup x
  | [], _ => rfl
  | (n, v) :: r, x => by
    show valV ((Sum.inr n, v) :: dkv r) (.inr x) = _
    rw [List.lookup_cons]
    by_cases e : x = n
    · subst e
      rw [valV_pos rfl, beq_self_eq_true]
    · rw [valV_neg (fun z => e (Sum.inr.inj z).symm), valV_dkv r x, beq_eq_false_iff_ne.mpr e]
theorem dkv_app (l m : List (Str × V)) : dkv (l ++ m) = dkv l ++ dkv m := List.map_append ..
theorem put_dkv {l : List (Str × V)} {x : Str} {v : V} (h : l.lookup x = none) : putK (dkv l) (.inr x) v = dkv (l ++ [(x, v)]) := by
  rw [putK_new v (by rw [valV_dkv]; exact h), dkv_app]
  rfl
theorem fold_dkv : ∀ (m l : List (Str × V)), ((l ++ m).map (·.1)).Nodup → (dkv m).foldl (fun acc kv => putK acc kv.1 kv.2) (dkv l) = dkv (l ++ m)
  | [], l, _ => by rw [List.append_nil]; rfl
  | (n, v) :: r, l, h => by
    have hn : l.lookup n = none := by
      refine lookup_none fun p hp e => ?_
      rw [List.map_append, List.nodup_append] at h
      exact h.2.2 p.1 (List.mem_map.mpr ⟨p, hp, rfl⟩) n (by simp) e
    show (dkv r).foldl (fun acc kv => putK acc kv.1 kv.2) (putK (dkv l) (.inr n) v) = _
    rw [put_dkv hn, fold_dkv r (l ++ [(n, v)]) (by rw [List.append_assoc]; exact h), List.append_assoc]
    rfl
theorem merge_dkv {l : List (Str × V)} (h : (l.map (·.1)).Nodup) : mergeK [] (dkv l) = dkv l := fold_dkv l [] h
theorem getD {H : Hp} {p : Addr} {l : List (Str × V)} {x : Str} {v : V} (h : H p = some (.dK (dkv l))) (e : l.lookup x = some v) : DGet H p (.str x) (some v) := by
  rw [← e, ← valV_dkv]
  exact DGet.k (k := .inr x) h
/-! ### the world of the law -/
def wNames : List Str := ["last", "functions", "anchors", "lines", "mute", "great", "free", "told"]
theorem wNodup : wNames.Nodup := by decide +kernel
def wKv (n : Int) (wf an ln : Addr) (mute : V) (great free : Bool) (td : Addr) : List (Str × V) := wNames.zip [.int n, .ref wf, .ref an, .ref ln, mute, .bl great, .bl free, .ref td]
theorem wKv_at {n : Int} {wf an ln : Addr} {mute : V} {great free : Bool} {td : Addr} {x : Str} {v : V} {j : Nat} (hx : wNames[j]? = some x) (hv : ([.int n, .ref wf, .ref an, .ref ln, mute, .bl great, .bl free, .ref td] : List V)[j]? = some v) : (wKv n wf an ln mute great free td).lookup x = some v := zip_lookup wNodup hx hv
structure WldX (p : Addr) (H : Hp) (wp : Addr) (n : Int) (fs : List Str) (wf an ln : Addr) (mute : V) (great free : Bool) (td : Addr) (ans : List Int) (lts : List Addr) : Prop where
  ne : wp ≠ p
  ne2 : ln ≠ p
  d : H wp = some (.dK (dkv (wKv n wf an ln mute great free td)))
  f : H wf = some (.lst (fs.map V.str))
  a : H an = some (.lst (ans.map V.int))
  a0 : 0 < ans.length
  a1 : ans.length ≤ 10
  ab : ∀ z ∈ ans, 0 ≤ z ∧ z ≤ n
  l : H ln = some (.dK (dkv (fs.zip (lts.map V.ref))))
  ll : lts.length = fs.length
  lt : ∀ t ∈ lts, ∃ a b : Int, H t = some (.tup [.int a, .int b]) ∧ -3 ≤ a ∧ a ≤ 3 ∧ -9 ≤ b ∧ b ≤ 9
  mu : mute = .non ∨ ∃ g, mute = .str g
  fw : WordsAt fs
  f0 : 1 ≤ fs.length
  f2 : fs.length ≤ 2
  n0 : 0 ≤ n
  n1 : n ≤ lastP
def Wld (p : Addr) (H : Hp) (wp : Addr) (n : Int) (fs : List Str) : Prop := ∃ wf an ln mute great free td ans lts, WldX p H wp n fs wf an ln mute great free td ans lts
section
variable {p : Addr} {H H' : Hp} {wp : Addr} {n : Int} {fs : List Str} {wf an ln : Addr} {mute : V} {great free : Bool} {td : Addr} {ans : List Int} {lts : List Addr}
theorem WldX.at_ (h : WldX p H wp n fs wf an ln mute great free td ans lts) {x : Str} {v : V} {j : Nat} (hx : wNames[j]? = some x) (hv : ([.int n, .ref wf, .ref an, .ref ln, mute, .bl great, .bl free, .ref td] : List V)[j]? = some v) : DGet H wp (.str x) (some v) := getD h.d (wKv_at hx hv)
theorem WldX.frm (h : WldX p H wp n fs wf an ln mute great free td ans lts) (F : Frm p H H') {k : Nat} (P : Pen H p k) : WldX p H' wp n fs wf an ln mute great free td ans lts := by
  obtain ⟨kvs, hp⟩ := P.dict
  exact { h with
    d := F _ _ h.d h.ne
    f := F.lst P h.f
    a := F.lst P h.a
    l := F _ _ h.l h.ne2
    lt := fun t ht => by
      obtain ⟨a, b, e, r⟩ := h.lt t ht
      exact ⟨a, b, F _ _ e (ne_of e hp (by intro z; cases z)), r⟩ }
theorem WldX.same (h : WldX p H wp n fs wf an ln mute great free td ans lts) (s : Same H H') : WldX p H' wp n fs wf an ln mute great free td ans lts :=
  { h with
    d := s _ _ h.d
    f := s _ _ h.f
    a := s _ _ h.a
    l := s _ _ h.l
    lt := fun t ht => by
      obtain ⟨a, b, e, r⟩ := h.lt t ht
      exact ⟨a, b, s _ _ e, r⟩ }
theorem Wld.frm (h : Wld p H wp n fs) (F : Frm p H H') {k : Nat} (P : Pen H p k) : Wld p H' wp n fs := by
  obtain ⟨a1, a2, a3, a4, a5, a6, a7, a8, a9, h⟩ := h
  exact ⟨a1, a2, a3, a4, a5, a6, a7, a8, a9, h.frm F P⟩
theorem Wld.same (h : Wld p H wp n fs) (s : Same H H') : Wld p H' wp n fs := by
  obtain ⟨a1, a2, a3, a4, a5, a6, a7, a8, a9, h⟩ := h
  exact ⟨a1, a2, a3, a4, a5, a6, a7, a8, a9, h.same s⟩
/-- the line of a function -/
theorem WldX.line (h : WldX p H wp n fs wf an ln mute great free td ans lts) {g : Str} (hg : g ∈ fs) : ∃ t a b, DGet H ln (.str g) (some (.ref t)) ∧ H t = some (.tup [.int a, .int b]) ∧ -3 ≤ a ∧ a ≤ 3 ∧ -9 ≤ b ∧ b ≤ 9 := by
  obtain ⟨j, hj⟩ := List.getElem?_of_mem hg
  have hj2 : j < lts.length := by rw [h.ll]; exact (List.getElem?_eq_some_iff.mp hj).1
  obtain ⟨a, b, e, r⟩ := h.lt lts[j] (List.getElem_mem hj2)
  refine ⟨lts[j], a, b, getD h.l (zip_lookup (List.Pairwise.imp (fun e => e) h.fw.ne) hj ?_), e, r⟩
  rw [List.getElem?_map, List.getElem?_eq_getElem hj2]
  rfl
end
def spNear : Sp := fun vs H Q _ => ∃ (p wp : Addr) (n : Int) (fs : List Str) (k : Nat), vs = [.ref p, .ref wp] ∧ Wld p H wp n fs ∧ Pen H p k ∧ k ≤ 900000 ∧ ∀ r H', 0 ≤ r → r ≤ n → Pen H' p (k + 2) → Frm p H H' → Q (.int r) H'
def spStr : Sp := fun vs H Q _ => ∃ (p wp : Addr) (n : Int) (fs : List Str) (k m : Nat), vs = [.ref p, .ref wp, .int (m : Nat)] ∧ Wld p H wp n fs ∧ 1 ≤ m ∧ m ≤ 5 ∧ Pen H p k ∧ k ≤ 800000 ∧
  ∀ g M H', H g = none → H' g = some (.lst (refs M)) → AtR H' M → Nf (rws M) → (∀ r ∈ rws M, 0 ≤ r.1 ∧ r.2 ≤ n) → M ≠ [] → M.length ≤ 6 → Pen H' p (k + 40) → Frm p H H' → Q (.ref g) H'
theorem rows_in {l m : List Row} {n : Int} (hm : Nf m) (h : ∀ x, mem m x ↔ mem l x) (hl : ∀ r ∈ l, 0 ≤ r.1 ∧ r.2 ≤ n) : ∀ r ∈ m, 0 ≤ r.1 ∧ r.2 ≤ n := fun r hr => by
  have o := hm.ok r hr
  obtain ⟨q, hq, h1, h2⟩ := (h r.1).mp ⟨r, hr, Int.le_refl _, o⟩
  obtain ⟨q2, hq2, h3, h4⟩ := (h r.2).mp ⟨r, hr, o, Int.le_refl _⟩
  have b1 := hl q hq
  have b2 := hl q2 hq2
  exact ⟨by omega, by omega⟩
theorem rows_ne {l : List Row} {M : List ARow} (h : ∀ x, mem (rws M) x ↔ mem l x) (hl : ∀ r ∈ l, r.1 ≤ r.2) (h0 : l ≠ []) : M ≠ [] := fun e => by
  subst e
  cases l with
  | nil => exact h0 rfl
  | cons r t => exact mem_nil _ ((h r.1).mpr ⟨r, List.mem_cons_self, Int.le_refl _, hl r List.mem_cons_self⟩)
section
variable {P : Program} {w : World} {K : PySem.W.Frag} {mg : Str → Option Value} {base : Heap}
theorem scNe : FnScope ["_law_pen", "_law_world", "_law_place"] ["_law_pen", "_law_world"] (defScope sNear) := ⟨rfl, rfl, rfl, by decide +kernel, rfl, by decide +kernel, by decide +kernel⟩
theorem ok_near {f : Addr} {fd : FuncData} (F : Fun K "_law_near" "_law_near" sNear f fd) (D : Cl P w K mg base 1 "_law_draw" ["_law_pen", "_law_many"] spDraw) (PI : Cl P w K mg base 2 "_law_pick" ["_law_pen", "_law_options"] (spPick K)) : FnOk P w K mg base CX0 3 f fd ["_law_pen", "_law_world"] spNear := by
  refine F.ok scNe (fun vs H Q E h => ?_) (fun cdv A outer s H vs Q E hr h => ?_)
  · obtain ⟨_, _, _, _, _, rfl, _⟩ := h
    rfl
  · obtain ⟨p, wp, n, fs, k, rfl, hW, hP, hk, q⟩ := h
    have nd := scNe.nd
    have hu := hu_of hr
    refine ⟨_, pss_cons (ps_set (i := 2) nd rfl (.inl rfl) (pe_op op_sub (pe_op op_add (pe_cl PI hr (by decide) (by rfl) (pa_cons (pv 0) (pa_cons (pe_dget hu (pv 1) pe_str (fun _ _ => rfl)) pa_nil))) (pe_cl D hr (by decide) (by rfl) (pa_cons (pv 0) (pa_cons pe_int pa_nil)))) pe_int))
      (pss_cons (ps_if (pt_cmpR op_lt (pv 2) pe_int (nomark _))
          (pss_one (ps_ret pe_int))
          pss_nil)
      (pss_one (ps_ret (pe_ifExp (pt_cmpR op_gt (pv 2) (pe_dget hu (pv 1) pe_str (fun _ _ => rfl)) (nomark _)) (pe_dget hu (pv 1) pe_str (fun _ _ => rfl)) (pv 2))))), ?_⟩
    obtain ⟨wf, an, ln, mute, great, free, td, ans, lts, W⟩ := hW
    refine ⟨_, rfl, _, rfl, wp, _, rfl, W.at_ (j := 2) rfl rfl, p, an, ans.map V.int, k, rfl, .inl (.inl W.a), by rw [List.length_map]; exact W.a0, by rw [List.length_map]; exact Nat.le_trans W.a1 (by decide), hP, by omega, fun v H1 hv P1 F1 => ?_⟩
    obtain ⟨z, hz, rfl⟩ := List.mem_map.mp hv
    have zb := W.ab z hz
    refine ⟨_, rfl, p, 4, _, rfl, by decide, by decide, P1, by omega, fun r H2 r0 r1 P2 F2 => ⟨_, _, rfl, rfl, _, _, rfl, rfl, ?_⟩⟩
    have FF := F1.trans F2
    have W2 := W.frm FF hP
    refine ⟨_, rfl, _, _, rfl, rfl, _, rfl, ite2 (fun _ => q 0 H2 (Int.le_refl _) W.n0 P2 FF) (fun c => ?_)⟩
    have hc : ¬ (z + r - 1 < 0) := fun e => c (decide_eq_true e)
    refine ⟨_, rfl, _, rfl, wp, _, rfl, W2.at_ (j := 0) rfl rfl, _, _, rfl, rfl, _, rfl, ite2 (fun _ => ?_) (fun c2 => ?_)⟩
    · exact ⟨_, rfl, wp, _, rfl, W2.at_ (j := 0) rfl rfl, q n H2 W.n0 (Int.le_refl _) P2 FF⟩
    · have hc2 : ¬ (z + r - 1 > n) := fun e => c2 (decide_eq_true e)
      exact ⟨_, rfl, q _ H2 (by omega) (by omega) P2 FF⟩
theorem scSt : FnScope ["_law_pen", "_law_world", "_law_most", "_law_found", "_law_k", "_law_one", "_law_two"] ["_law_pen", "_law_world", "_law_most"] (defScope sStretches) := ⟨rfl, rfl, rfl, by decide +kernel, rfl, by decide +kernel, by decide +kernel⟩
theorem ok_stretches {f : Addr} {fd : FuncData} (F : Fun K "_law_stretches" "_law_stretches" sStretches f fd) (B : Bd mg) (D : Cl P w K mg base 1 "_law_draw" ["_law_pen", "_law_many"] spDraw) (NE : Cl P w K mg base 3 "_law_near" ["_law_pen", "_law_world"] spNear) (NO : Cl P w K mg base 1 "_law_normal" ["_law_rows"] (spNormal K)) : FnOk P w K mg base CX0 4 f fd ["_law_pen", "_law_world", "_law_most"] spStr := by
  refine F.ok scSt (fun vs H Q E h => ?_) (fun cdv A outer s H vs Q E hr h => ?_)
  · obtain ⟨_, _, _, _, _, _, rfl, _⟩ := h
    rfl
  · obtain ⟨p, wp, n, fs, k, m, rfl, hW, hm1, hm5, hP, hk, q⟩ := h
    have nd := scSt.nd
    have hu := hu_of hr
    refine ⟨_, pss_cons (ps_set (i := 3) nd rfl (.inl rfl) (pe_lst pa_nil))
      (pss_cons (ps_for PassesOwn.never rfl (pi_range1 (by rfl) B.range (pa_cons (pe_op op_add pe_int (pe_cl D hr (by decide) (by rfl) (pa_cons (pv 0) (pa_cons (pv 2) pa_nil)))) pa_nil)) (pg_name (i := 4) nd rfl (.inl rfl))
          (pss_cons (ps_par (i := 5) (j := 6) rfl nd rfl rfl (by decide) rfl rfl (pa_cons (pe_cl NE hr (by decide) (by rfl) (pa_cons (pv 0) (pa_cons (pv 1) pa_nil))) (pa_cons (pe_cl NE hr (by decide) (by rfl) (pa_cons (pv 0) (pa_cons (pv 1) pa_nil))) pa_nil)) rfl)
          (Evl.pss_cut (ps_if (pt_cmpR op_eq (pe_cl D hr (by decide) (by rfl) (pa_cons (pv 0) (pa_cons pe_int pa_nil))) pe_int (nomark _))
              (pss_one (ps_set (i := 6) nd rfl (.inl rfl) (pv 5)))
              pss_nil)
          (Evl.pss_cut (ps_if (pt_cmpR op_eq (pe_cl D hr (by decide) (by rfl) (pa_cons (pv 0) (pa_cons pe_int pa_nil))) pe_int (nomark _))
              (pss_one (ps_par (i := 5) (j := 6) rfl nd rfl rfl (by decide) rfl rfl (pa_cons pe_int (pa_cons (pe_dget hu (pv 1) pe_str (fun _ _ => rfl)) pa_nil)) rfl))
              pss_nil)
          (pss_one (ps_expr (pe_bm PySem.F.plainAttrs_list PySem.F.slot_list_append PySem.F.type_list_append mt_append (pv 3) (pa_cons (pe_ifExp (pt_cmpR op_lt (pv 5) (pv 6) (nomark _)) (pe_tup (pa_cons (pv 5) (pa_cons (pv 6) pa_nil))) (pe_tup (pa_cons (pv 6) (pa_cons (pv 5) pa_nil)))) pa_nil))))))))
      (pss_one (ps_ret (pe_cl NO hr (by decide) (by rfl) (pa_cons (pv 3) pa_nil))))), ?_⟩
    refine ⟨Nat.zero_le _, fun o no => ?_⟩
    have s1 : Same H _ := same_lay (o := .lst []) no
    have P1 := hP.same' s1
    refine ⟨_, rfl, _, rfl, p, m, k, rfl, by omega, ?_, P1, by omega, fun r H1 r0 r1 P2 F2 => ⟨_, _, rfl, rfl, ?_⟩⟩
    · exact Nat.lt_of_le_of_lt (show ((m : Nat) : Int).natAbs ≤ 5 by omega) (by decide)
    have FH := (frmS (p := p) s1).trans F2
    have ho1 := F2.lst P1 upd_same
    have W1 := (hW.same s1).frm F2 P1
    refine ⟨_, rfl, by omega, by omega, for_range (lo := 0) (n := (1 + r).toNat) (fun i σ G => ∃ L : List ARow, (∃ s4 s5 s6, σ = [some (.ref p), some (.ref wp), some (.int (m : Nat)), some (.ref o), s4, s5, s6]) ∧ G o = some (.lst (refs L)) ∧ AtR G L ∧ (∀ x ∈ rws L, 0 ≤ x.1 ∧ x.1 ≤ x.2 ∧ x.2 ≤ n) ∧ L.length = i ∧ Pen G p (k + 1 + 6 * i) ∧ Frm p H G)
      ⟨[], ⟨none, none, none, rfl⟩, ho1, (fun _ z => nomatch z), (fun _ z => nomatch z), rfl, P2, FH⟩ ?_ ?_⟩
    · rintro i σ G hi ⟨L, ⟨s4, s5, s6, rfl⟩, hG, hA, hb, hl, PG, FG⟩
      have WG := hW.frm FG hP
      obtain ⟨wf, an, ln, mute, great, free, td, ans, lts, WX⟩ := id hW
      have n0 := WX.n0
      refine ⟨_, rfl, _, rfl, p, wp, n, fs, _, rfl, WG, PG, by omega, fun x G1 x0 x1 P3 F3 => ?_⟩
      refine ⟨_, rfl, _, rfl, p, wp, n, fs, _, rfl, WG.frm F3 PG, P3, by omega, fun y G2 y0 y1 P4 F4 => ⟨_, _, rfl, ?_⟩⟩
      have F34 := F3.trans F4
      refine ⟨fun σ G3 => ∃ y2 : Int, 0 ≤ y2 ∧ y2 ≤ n ∧ σ = [some (.ref p), some (.ref wp), some (.int (m : Nat)), some (.ref o), some (.int (0 + (i : Int))), some (.int x), some (.int y2)] ∧ Pen G3 p (k + 1 + 6 * i + 5) ∧ Frm p G G3, ?_, ?_⟩
      · refine ⟨_, rfl, p, 5, _, rfl, by decide, by decide, P4, by omega, fun r5 G3 _ _ P5 F5 => ⟨rfl, _, rfl, ite2 (fun _ => ?_) (fun _ => ?_)⟩⟩
        · exact ⟨_, rfl, x, x0, x1, rfl, P5.mono (by omega), F34.trans F5⟩
        · exact ⟨y, y0, y1, rfl, P5.mono (by omega), F34.trans F5⟩
      rintro σ G3 ⟨y2, y20, y21, rfl, P5, F5⟩
      refine ⟨fun σ G4 => ∃ x3 y3 : Int, 0 ≤ x3 ∧ x3 ≤ n ∧ 0 ≤ y3 ∧ y3 ≤ n ∧ σ = [some (.ref p), some (.ref wp), some (.int (m : Nat)), some (.ref o), some (.int (0 + (i : Int))), some (.int x3), some (.int y3)] ∧ Pen G4 p (k + 1 + 6 * i + 6) ∧ Frm p G G4, ?_, ?_⟩
      · refine ⟨_, rfl, p, 4, _, rfl, by decide, by decide, P5, by omega, fun r5 G4 _ _ P6 F6 => ⟨rfl, _, rfl, ite2 (fun _ => ?_) (fun _ => ?_)⟩⟩
        · have W6 := (WX.frm FG hP).frm (F5.trans F6) PG
          exact ⟨_, rfl, wp, _, rfl, W6.at_ (j := 0) rfl rfl, _, _, rfl, 0, n, Int.le_refl _, n0, n0, Int.le_refl _, rfl, P6.mono (by omega), F5.trans F6⟩
        · exact ⟨x, y2, x0, x1, y20, y21, rfl, P6.mono (by omega), F5.trans F6⟩
      rintro σ G4 ⟨x3, y3, x30, x31, y30, y31, rfl, P6, F6⟩
      have hG4 := F6.lst PG hG
      have hA4 := hA.frm F6 PG
      have FH4 := FG.trans F6
      have fin : ∀ (a b : Int), 0 ≤ a → a ≤ b → b ≤ n → ∀ t, G4 t = none → ∃ L' : List ARow, (∃ s4 s5 s6, [some (V.ref p), some (.ref wp), some (.int (m : Nat)), some (.ref o), some (.int (0 + (i : Int))), some (.int x3), some (.int y3)] = [some (.ref p), some (.ref wp), some (.int (m : Nat)), some (.ref o), s4, s5, s6]) ∧ (upd (upd G4 t (.tup [.int a, .int b])) o (.lst (refs L ++ [.ref t]))) o = some (.lst (refs L')) ∧ AtR (upd (upd G4 t (.tup [.int a, .int b])) o (.lst (refs L ++ [.ref t]))) L' ∧
          (∀ x ∈ rws L', 0 ≤ x.1 ∧ x.1 ≤ x.2 ∧ x.2 ≤ n) ∧ L'.length = i + 1 ∧ Pen (upd (upd G4 t (.tup [.int a, .int b])) o (.lst (refs L ++ [.ref t]))) p (k + 1 + 6 * (i + 1)) ∧ Frm p H (upd (upd G4 t (.tup [.int a, .int b])) o (.lst (refs L ++ [.ref t]))) := fun a b a0 ab b1 t nt => by
        have st := same_lay (o := .tup [.int a, .int b]) nt
        have hG5 := st _ _ hG4
        have not_ : t ≠ o := fun e => by rw [e, hG4] at nt; cases nt
        have F5' := FH4.trans (frmS (p := p) st)
        refine ⟨L ++ [(t, (a, b))], ⟨_, _, _, rfl⟩, by rw [upd_same, refs_snoc], fun z hz => ?_, fun z hz => ?_, by rw [List.length_append, hl]; rfl, (hP.putNew (P6.same' st) F5' no hG5).mono (by omega), F5'.putNew no hG5⟩
        · rcases List.mem_append.mp hz with c | c
          · have e5 := st _ _ (hA4 z c)
            rw [upd_ne (ne_of e5 hG5 (by intro z; cases z))]
            exact e5
          · rw [List.mem_singleton.mp c, upd_ne not_, upd_same]
        · rw [rws_snoc] at hz
          rcases List.mem_append.mp hz with c | c
          · exact hb z c
          · rw [List.mem_singleton.mp c]
            exact ⟨a0, ab, b1⟩
      have two : 2 ≤ sizeLine := by decide
      refine ⟨_, rfl, .inl ⟨rfl, _, .inl (.inl hG4)⟩, _, rfl, _, rfl, _, _, rfl, rfl, _, rfl, ite2 (fun c => ?_) (fun c => ?_)⟩
      · have hc : x3 < y3 := of_decide_eq_true c
        refine ⟨_, rfl, _, rfl, two, fun t nt => ⟨o, _, _, rfl, rfl, same_lay nt _ _ hG4, small1000 (by rw [refs_len]; omega), fin x3 y3 x30 (Int.le_of_lt hc) y31 t nt⟩⟩
      · have hc : ¬ x3 < y3 := fun e => c (decide_eq_true e)
        refine ⟨_, rfl, _, rfl, two, fun t nt => ⟨o, _, _, rfl, rfl, same_lay nt _ _ hG4, small1000 (by rw [refs_len]; omega), fin y3 x3 y30 (by omega) x31 t nt⟩⟩
    · rintro σ G ⟨L, ⟨s4, s5, s6, rfl⟩, hG, hA, hb, hl, PG, FG⟩
      have hl6 : L.length ≤ 5 := by omega
      refine ⟨_, rfl, o, L, rfl, .inl (.inl hG), hA, fun x hx => (hb x hx).2.1, by omega, fun o2 M G2 s2 no2 ho2 hM hN hme hlen => ?_⟩
      have ln0 : rws L ≠ [] := fun e => by
        have : L.length = 0 := by rw [← rws_len, e]; rfl
        omega
      exact q o2 M G2 (FG.free PG no2) ho2 hM hN (rows_in hN hme fun x hx => ⟨(hb x hx).1, (hb x hx).2.2⟩) (rows_ne hme (fun x hx => (hb x hx).2.1) ln0) (by omega) ((PG.same' s2).mono (by omega)) (FG.trans (frmS s2))
end
end OR

namespace OR
open PySem PySem.Spec PyProof.Rows L2
open TL (tl numL)
/-! ### heights, slopes and clauses about numbers, as tuples -/
theorem pickInt {xs : List Int} {v : V} (h : v ∈ xs.map V.int) : ∃ x ∈ xs, v = .int x := by
  obtain ⟨x, hx, e⟩ := List.mem_map.mp h
  exact ⟨x, hx, e.symm⟩
def spWorth (K : PySem.W.Frag) : Sp := fun vs H Q _ => ∃ (p wp la oa ra : Addr) (n l0 l1 o0 o1 : Int) (fs : List Str) (k : Nat) (M : List ARow) (sg : Str), vs = [.ref p, .ref wp, .ref la, .ref oa, .ref ra, .str sg] ∧ Wld p H wp n fs ∧ Pen H p k ∧ k ≤ 900000 ∧
  H la = some (.tup [.int l0, .int l1]) ∧ H oa = some (.tup [.int o0, .int o1]) ∧ SqL K H ra (refs M) ∧ AtR H M ∧ (∀ r ∈ rws M, 0 ≤ r.1 ∧ r.1 ≤ r.2 ∧ r.2 ≤ n) ∧ M ≠ [] ∧ M.length ≤ 6 ∧ -(10 ^ 10) ≤ l0 ∧ l0 ≤ 10 ^ 10 ∧ -(10 ^ 10) ≤ o0 ∧ o0 ≤ 10 ^ 10 ∧ -(10 ^ 10) ≤ l1 ∧ l1 ≤ 10 ^ 10 ∧ -(10 ^ 10) ≤ o1 ∧ o1 ≤ 10 ^ 10 ∧
  ∀ r H', -(10 ^ 42) < r → r < 10 ^ 42 → Pen H' p (k + 1) → Frm p H H' → Q (.int r) H'
def spSlope : Sp := fun vs H Q _ => ∃ (p wp : Addr) (n : Int) (fs : List Str) (k : Nat), vs = [.ref p, .ref wp] ∧ Wld p H wp n fs ∧ Pen H p k ∧ k ≤ 900000 ∧ ∀ r H', -(3 * 10 ^ 9) ≤ r → r ≤ 3 * 10 ^ 9 → Pen H' p (k + 2) → Frm p H H' → Q (.int r) H'
/-- a value between two ends, of a great product -/
theorem prod_bd {d x n : Int} (hd : -(2 * 10 ^ 10) ≤ d ∧ d ≤ 2 * 10 ^ 10) (h0 : 0 ≤ x) (h1 : x ≤ 10 ^ 30) : -(2 * 10 ^ 40) ≤ d * x ∧ d * x ≤ 2 * 10 ^ 40 := by
  have a := Int.mul_le_mul_of_nonneg_right hd.2 h0
  have b := Int.mul_le_mul_of_nonneg_right hd.1 h0
  have c := Int.mul_le_mul_of_nonneg_left h1 (show (0 : Int) ≤ 2 * 10 ^ 10 by decide)
  have e : (-(2 * 10 ^ 10) : Int) * x = -(2 * 10 ^ 10 * x) := Int.neg_mul ..
  rw [e] at b
  have f : (2 * 10 ^ 10 : Int) * 10 ^ 30 = 2 * 10 ^ 40 := by decide
  rw [f] at c
  constructor <;> omega
section
variable {P : Program} {w : World} {K : PySem.W.Frag} {mg : Str → Option Value} {base : Heap}
theorem scSl : FnScope ["_law_pen", "_law_world", "_law_slope"] ["_law_pen", "_law_world"] (defScope sSlopeOf) := ⟨rfl, rfl, rfl, by decide +kernel, rfl, by decide +kernel, by decide +kernel⟩
theorem ok_slope {f : Addr} {fd : FuncData} (F : Fun K "_law_slope_of" "_law_slope_of" sSlopeOf f fd) (PI : Cl P w K mg base 2 "_law_pick" ["_law_pen", "_law_options"] (spPick K)) : FnOk P w K mg base CX0 3 f fd ["_law_pen", "_law_world"] spSlope := by
  refine F.ok scSl (fun vs H Q E h => ?_) (fun cdv A outer s H vs Q E hr h => ?_)
  · obtain ⟨_, _, _, _, _, rfl, _⟩ := h
    rfl
  · obtain ⟨p, wp, n, fs, k, rfl, hW, hP, hk, q⟩ := h
    have nd := scSl.nd
    have hu := hu_of hr
    refine ⟨_, pss_cons (ps_set (i := 2) nd rfl (.inl rfl) (pe_cl PI hr (by decide) (by rfl) (pa_cons (pv 0) (pa_cons (pe_lst (pa_cons pe_int (pa_cons pe_int (pa_cons pe_int (pa_cons (pe_un un_neg pe_int) (pa_cons pe_int (pa_cons (pe_un un_neg pe_int) pa_nil))))))) pa_nil))))
      (pss_one (ps_ret (pe_ifExp (pt_val (pe_dget hu (pv 1) pe_str (fun _ _ => rfl))) (pe_op op_mul (pv 2) (pe_cl PI hr (by decide) (by rfl) (pa_cons (pv 0) (pa_cons (pe_lst (pa_cons pe_int (pa_cons pe_int (pa_cons pe_int (pa_cons (pe_op op_pow pe_int pe_int) pa_nil))))) pa_nil)))) (pv 2)))), ?_⟩
    refine ⟨_, rfl, _, rfl, _, rfl, (by show 6 ≤ sizeLine; decide), fun l nl => ?_⟩
    refine ⟨p, l, ([0, 0, 1, -1, 2, -3] : List Int).map V.int, k, rfl, .inl (.inl upd_same), Nat.succ_pos _, by show 6 ≤ 1000; decide, hP.new nl, by omega, fun v H1 hv P1 F1 => ?_⟩
    obtain ⟨z, hz, rfl⟩ := pickInt hv
    have zb : -3 ≤ z ∧ z ≤ 3 := by
      simp only [List.mem_cons, List.not_mem_nil, or_false] at hz
      omega
    have FF := (Frm.new (p := p) (o := .lst (([0, 0, 1, -1, 2, -3] : List Int).map V.int)) nl).trans F1
    obtain ⟨wf, an, ln, mute, great, free, td, ans, lts, W⟩ := hW.frm FF hP
    refine ⟨_, rfl, wp, _, rfl, W.at_ (j := 5) rfl rfl, _, rfl, ite2 (fun _ => ?_) (fun _ => ?_)⟩
    · have pw9 : CPow 10 9 := ⟨by decide, by decide, by decide⟩
      refine ⟨_, rfl, _, rfl, _, _, rfl, rfl, pw9, by show 4 ≤ sizeLine; decide, fun e ne => ?_⟩
      refine ⟨p, e, ([1, 1, 1, 10 ^ 9] : List Int).map V.int, _, rfl, .inl (.inl upd_same), Nat.succ_pos _, by show 4 ≤ 1000; decide, P1.new ne, by omega, fun v H2 hv2 P2 F2 => ?_⟩
      obtain ⟨y, hy, rfl⟩ := pickInt hv2
      have yb : y = 1 ∨ y = 10 ^ 9 := by
        simp only [List.mem_cons, List.not_mem_nil, or_false] at hy
        omega
      refine ⟨_, _, rfl, rfl, .inl ⟨by omega, by omega⟩, q _ _ ?_ ?_ (P2.mono (by omega)) (FF.trans ((Frm.new (o := .lst (([1, 1, 1, 10 ^ 9] : List Int).map V.int)) ne).trans F2))⟩
      · rcases yb with e | e <;> subst e <;> show _ ≤ z * _ <;> omega
      · rcases yb with e | e <;> subst e <;> show z * _ ≤ _ <;> omega
    · exact ⟨_, rfl, q z H1 (by omega) (by omega) (P1.mono (by omega)) FF⟩
theorem scWo : FnScope ["_law_pen", "_law_world", "_law_line", "_law_other", "_law_rows", "_law_sign", "_law_gaps", "_law_first", "_law_last", "_law_x", "_law_free", "_law_gap"] ["_law_pen", "_law_world", "_law_line", "_law_other", "_law_rows", "_law_sign"] (defScope sWorth) := ⟨rfl, rfl, rfl, by decide +kernel, rfl, by decide +kernel, by decide +kernel⟩
theorem ok_worth {f : Addr} {fd : FuncData} (F : Fun K "_law_worth" "_law_worth" sWorth f fd) (B : Bd mg) (PI : Cl P w K mg base 2 "_law_pick" ["_law_pen", "_law_options"] (spPick K)) : FnOk P w K mg base CX0 3 f fd ["_law_pen", "_law_world", "_law_line", "_law_other", "_law_rows", "_law_sign"] (spWorth K) := by
  refine F.ok scWo (fun vs H Q E h => ?_) (fun cdv A outer s H vs Q E hr h => ?_)
  · obtain ⟨_, _, _, _, _, _, _, _, _, _, _, _, _, _, rfl, _⟩ := h
    rfl
  · obtain ⟨p, wp, la, oa, ra, n, l0, l1, o0, o1, fs, k, M, sg, rfl, hW, hP, hk, hla, hoa, hra, hM, hb, hM0, hM6, a1, a2, b1, b2, c1, c2, d1, d2, q⟩ := h
    have nd := scWo.nd
    have hu := hu_of hr
    refine ⟨_, pss_cons (ps_set (i := 6) nd rfl (.inl rfl) (pe_lst pa_nil))
      (pss_cons (ps_for PassesOwn.never rfl (pi_list (pv 4)) (pg_tup rfl (pgs_cons (pg_name (i := 7) nd rfl (.inl rfl)) (pgs_cons (pg_name (i := 8) nd rfl (.inl rfl)) pgs_nil)))
          (pss_one (ps_for PassesOwn.never rfl (pi_tup (pe_tup (pa_cons (pv 7) (pa_cons (pv 8) pa_nil)))) (pg_name (i := 9) nd rfl (.inl rfl))
              (pss_one (ps_expr (pe_bm PySem.F.plainAttrs_list PySem.F.slot_list_append PySem.F.type_list_append mt_append (pv 6) (pa_cons (pe_op op_sub (pe_op op_add (pe_op op_mul (pe_op op_sub (pe_ix ix_tup (pv 2) pe_int (fun _ _ => rfl)) (pe_ix ix_tup (pv 3) pe_int (fun _ _ => rfl))) (pv 9)) (pe_ix ix_tup (pv 2) pe_int (fun _ _ => rfl))) (pe_ix ix_tup (pv 3) pe_int (fun _ _ => rfl))) pa_nil)))))))
      (pss_cons (ps_set (i := 6) nd rfl (.inl rfl) (pe_callB cr_sorted (by rfl) B.sorted bt_sorted (pa_cons (pe_lc (own := [("_law_gap", 11)]) (g := (gName 11)) (tt := tYes) rfl nd (pi_list (pv 6)) (blkOk_by (N := ["_law_pen", "_law_world", "_law_line", "_law_other", "_law_rows", "_law_sign", "_law_gaps", "_law_first", "_law_last", "_law_x", "_law_free", "_law_gap"]) (sc := defScope sWorth) (by decide +kernel)) (fun _ _ _ _ _ => pg_name (i := 11) nd rfl (.inl rfl)) (fun _ _ _ _ _ => pts_nil) (fun _ _ _ _ _ => (pe_callTy call_int1 (by rfl) B.int bt_int (pa_cons (pv 11) pa_nil)))) pa_nil)))
      (pss_cons (ps_set (i := 10) nd rfl (.inl rfl) (pe_cl PI hr (by decide) (by rfl) (pa_cons (pv 0) (pa_cons (pe_lst (pa_cons pe_int (pa_cons pe_int (pa_cons pe_int (pa_cons pe_int (pa_cons pe_int (pa_cons (pe_ifExp (pt_val (pe_dget hu (pv 1) pe_str (fun _ _ => rfl))) (pe_op op_pow pe_int pe_int) pe_int) pa_nil))))))) pa_nil))))
      (pss_one (ps_ret (pe_ifExp (pt_cmpR op_eq (pv 5) pe_str (nomark _)) (pe_op op_add (pe_ix ix_list (pv 6) (pe_un un_neg pe_int) (fun _ _ => rfl)) (pv 10)) (pe_op op_sub (pe_ix ix_list (pv 6) pe_int (fun _ _ => rfl)) (pv 10)))))))), ?_⟩
    obtain ⟨wf, an, ln, mute, great, free, td, ans, lts, W⟩ := hW
    have n1 : n ≤ 10 ^ 30 := W.n1
    refine ⟨Nat.zero_le _, fun o no => ?_⟩
    have s1 : Same H _ := same_lay (o := .lst []) no
    let Bd1 (g : Int) : Prop := -(10 ^ 41) < g ∧ g < 10 ^ 41
    have gapB : ∀ x : Int, 0 ≤ x → x ≤ n → Bd1 ((l0 - o0) * x + l1 - o1) := fun x x0 x1 => by
      have := prod_bd (d := l0 - o0) (x := x) (n := n) ⟨by omega, by omega⟩ x0 (by omega)
      constructor <;> omega
    refine ⟨_, rfl, ra, rfl, ⟨_, s1.seq hra⟩, for_list (K := K) (a := ra) (xs := refs M) (fun i σ G => ∃ gs : List Int, (∃ s7 s8 s9, σ = [some (.ref p), some (.ref wp), some (.ref la), some (.ref oa), some (.ref ra), some (.str sg), some (.ref o), s7, s8, s9, none, none]) ∧ G o = some (.lst (gs.map V.int)) ∧ gs.length = 2 * i ∧ (∀ g ∈ gs, Bd1 g) ∧ Same H G)
      ⟨[], ⟨none, none, none, rfl⟩, upd_same, rfl, (fun _ z => nomatch z), s1⟩ (fun i σ G _ ⟨_, _, _, _, _, s⟩ => s.seq hra) ?_ ?_⟩
    · rintro i y σ G hy ⟨gs, ⟨s7, s8, s9, rfl⟩, hG, lg, hg, sG⟩
      obtain ⟨u, hu2, huM, rfl⟩ := refs_get hy
      have hil : i < M.length := (List.getElem?_eq_some_iff.mp hu2).1
      have ub := hb u.2 (mem_rws.mpr ⟨u.1, huM⟩)
      have eu := sG _ _ (hM u huM)
      refine ⟨u.1, _, rfl, .inl (.inl eu), rfl, _, _, rfl, _, _, rfl, rfl, ?_⟩
      refine ⟨_, rfl, _, rfl, by show 2 ≤ sizeLine; decide, fun t nt => ?_⟩
      have st := same_lay (o := .tup [.int u.2.1, .int u.2.2]) nt
      have sGt := sG.trans st
      refine ⟨t, rfl, ⟨_, .inl (.inl upd_same)⟩, for_tup (K := K) (a := t) (xs := [V.int u.2.1, .int u.2.2]) (fun j σ G2 => ∃ gs2 : List Int, (∃ s9, σ = [some (.ref p), some (.ref wp), some (.ref la), some (.ref oa), some (.ref ra), some (.str sg), some (.ref o), some (.int u.2.1), some (.int u.2.2), s9, none, none]) ∧ G2 o = some (.lst (gs2.map V.int)) ∧ gs2.length = 2 * i + j ∧ (∀ g ∈ gs2, Bd1 g) ∧ Same H G2 ∧ G2 t = some (.tup [.int u.2.1, .int u.2.2]))
        ⟨gs, ⟨_, rfl⟩, st _ _ hG, lg, hg, sGt, upd_same⟩ (fun j σ G2 _ ⟨_, _, _, _, _, _, e⟩ => .inl (.inl e)) ?_ ?_⟩
      · rintro j v σ G2 hv ⟨gs2, ⟨s9, rfl⟩, hG2, lg2, hg2, sG2, ht2⟩
        obtain ⟨x, rfl, x0, x1⟩ : ∃ x : Int, v = .int x ∧ 0 ≤ x ∧ x ≤ n := by
          rcases (show j = 0 ∨ j = 1 by have := (List.getElem?_eq_some_iff.mp hv).1; simp at this; omega) with e | e <;> subst e
          · exact ⟨u.2.1, (Option.some.inj hv).symm, ub.1, by omega⟩
          · exact ⟨u.2.2, (Option.some.inj hv).symm, by omega, ub.2.2⟩
        have hj : j < 2 := (List.getElem?_eq_some_iff.mp hv).1
        have ela := sG2 _ _ hla
        have eoa := sG2 _ _ hoa
        refine ⟨_, rfl, .inl ⟨rfl, _, .inl (.inl hG2)⟩, _, rfl, la, _, 0, .int l0, rfl, rfl, .inl (.inl ela), atI_nat (j := 0) rfl, _, rfl, oa, _, 0, .int o0, rfl, rfl, .inl (.inl eoa), atI_nat (j := 0) rfl, _, _, rfl, rfl, _, rfl, _, _, rfl, rfl, .inl ⟨by omega, by omega⟩, _, rfl, la, _, 1, .int l1, rfl, rfl, .inl (.inl ela), atI_nat (j := 1) rfl, _, _, rfl, rfl, _, rfl, oa, _, 1, .int o1, rfl, rfl, .inl (.inl eoa), atI_nat (j := 1) rfl, _, _, rfl, rfl, o, _, _, rfl, rfl, hG2, small1000 (by rw [List.length_map]; omega), ?_⟩
        refine ⟨gs2 ++ [(l0 - o0) * x + l1 - o1], ⟨_, rfl⟩, by rw [upd_same, List.map_append]; rfl, by rw [List.length_append, lg2]; rfl, fun g hg' => ?_, same_upd sG2 no, by rw [upd_ne (ne_of ht2 hG2 (by intro z; cases z))]; exact ht2⟩
        rcases List.mem_append.mp hg' with e | e
        · exact hg2 g e
        · rw [List.mem_singleton.mp e]; exact gapB x x0 x1
      · rintro σ G2 ⟨gs2, ⟨s9, rfl⟩, hG2, lg2, hg2, sG2, _⟩
        exact ⟨gs2, ⟨_, _, _, rfl⟩, hG2, lg2, hg2, sG2⟩
    · rintro σ G ⟨gs, ⟨s7, s8, s9, rfl⟩, hG, lg, hg, sG⟩
      have lM : (refs M).length = M.length := refs_len M
      have m0 : 0 < M.length := List.length_pos_iff.mpr hM0
      refine ⟨_, rfl, o, rfl, ⟨_, .inl (.inl hG)⟩, fun D hD => lc_list (K := K) (a := o) (xs := gs.map V.int) (fun i G2 => G2 D = some (.lst ((gs.take i).map V.int)) ∧ Same G G2)
        ⟨upd_same, same_lay hD⟩ (fun i G2 _ ⟨_, s⟩ => .inl (.inl (s _ _ hG))) ?_ ?_⟩
      · rintro i v G2 hv ⟨hD2, s2⟩
        rw [List.getElem?_map] at hv
        obtain ⟨g, hg', rfl⟩ := Option.map_eq_some_iff.mp hv
        have hil : i < gs.length := (List.getElem?_eq_some_iff.mp hg').1
        refine ⟨rfl, yesT ⟨_, rfl, .inl ⟨_, rfl, _, hD2, small1000 (by rw [List.length_map, List.length_take]; omega), ?_, same_upd s2 hD⟩⟩⟩
        rw [upd_same, List.take_add_one, hg', List.map_append]
        rfl
      · rintro G2 ⟨hD2, s2⟩
        rw [List.length_map, List.take_of_length_le (Nat.le_refl _)] at hD2
        refine ⟨D, gs, rfl, .inl (.inl hD2), by omega, fun gs2 o2 hperm hsort no2 => ?_⟩
        have s3 := (sG.trans s2).trans (same_lay (o := .lst (gs2.map V.int)) no2)
        have hg2 : ∀ g ∈ gs2, Bd1 g := fun g hh => hg g (hperm.mem_iff.mp hh)
        have l2 : gs2.length = 2 * M.length := by rw [hperm.length_eq, lg, lM]
        have P3 := hP.same' s3
        have W3 := W.same s3
        have pw20 : CPow 10 20 := ⟨by decide, by decide, by decide⟩
        have go : ∀ (x6 : Int) (e : Addr) (ne : (upd G2 o2 (.lst (gs2.map V.int))) e = none), 0 ≤ x6 → x6 ≤ 10 ^ 20 → ∀ (Q2 : VK), (∀ r G3, 0 ≤ r → r ≤ 10 ^ 20 → Pen G3 p (k + 1) → Frm p H G3 → G3 o2 = some (.lst (gs2.map V.int)) → Q2 (.int r) G3) → spPick K [.ref p, .ref e] (upd (upd G2 o2 (.lst (gs2.map V.int))) e (.lst [.int 0, .int 0, .int 1, .int 2, .int 5, .int x6])) Q2 E0 := fun x6 e ne x60 x61 Q2 hq => by
          refine ⟨p, e, _, k, rfl, .inl (.inl upd_same), Nat.succ_pos _, by show 6 ≤ 1000; decide, P3.new ne, by omega, fun v G3 hv P4 F4 => ?_⟩
          obtain ⟨r, rfl, r0, r1⟩ : ∃ r : Int, v = .int r ∧ 0 ≤ r ∧ r ≤ 10 ^ 20 := by
            simp only [List.mem_cons, List.not_mem_nil, or_false] at hv
            rcases hv with e | e | e | e | e | e <;> subst e <;> exact ⟨_, rfl, by omega, by omega⟩
          exact hq r G3 r0 r1 P4 (((frmS s3).trans (Frm.new ne)).trans F4) (F4.lst (P3.new ne) (same_lay ne _ _ upd_same))
        have fin : ∀ r G3, 0 ≤ r → r ≤ 10 ^ 20 → Pen G3 p (k + 1) → Frm p H G3 → G3 o2 = some (.lst (gs2.map V.int)) →
            (tIf (tTest (tOp rEq (tVar 5) (tC (.str "<=")))) (tOp rAdd (tOp (rIxL K) (tVar 6) (tUn (rU fun i => .int (-i)) (tC (.int 1)))) (tVar 10)) (tOp rSub (tOp (rIxL K) (tVar 6) (tC (.int 0))) (tVar 10))) [some (.ref p), some (.ref wp), some (.ref la), some (.ref oa), some (.ref ra), some (.str sg), some (.ref o2), s7, s8, s9, some (.int r), none] G3 Q := by
          intro r G3 r0 r1 P4 F4 ho2
          have at0 : ∃ g, gs2[0]? = some g ∧ Bd1 g := ⟨gs2[0]'(by omega), List.getElem?_eq_getElem (by omega), hg2 _ (List.getElem_mem _)⟩
          have atl : ∃ g gs3, gs2 = gs3 ++ [g] ∧ Bd1 g := by
            have hne : gs2 ≠ [] := fun e => by rw [e] at l2; simp at l2; omega
            exact ⟨gs2.getLast hne, gs2.dropLast, (List.dropLast_concat_getLast hne).symm, hg2 _ (List.getLast_mem hne)⟩
          obtain ⟨g, hg0, gb⟩ := at0
          obtain ⟨g', gs3, eg, gb'⟩ := atl
          have gb1 := gb.1
          have gb2 := gb.2
          have gb3 := gb'.1
          have gb4 := gb'.2
          refine ⟨_, rfl, rfl, _, rfl, ite2 (fun _ => ?_) (fun _ => ?_)⟩
          · refine ⟨_, rfl, 1, rfl, o2, _, -1, .int g', rfl, rfl, .inl (.inl ho2), ?_, _, rfl, _, _, rfl, rfl, q _ _ (by omega) (by omega) P4 F4⟩
            rw [eg, List.map_append]
            exact atI_last _ _
          · refine ⟨_, rfl, o2, _, 0, .int g, rfl, rfl, .inl (.inl ho2), ?_, _, rfl, _, _, rfl, rfl, q _ _ (by omega) (by omega) P4 F4⟩
            exact atI_nat (j := 0) (by rw [List.getElem?_map, hg0]; rfl)
        refine ⟨_, rfl, _, rfl, wp, _, rfl, W3.at_ (j := 5) rfl rfl, _, rfl, ite2 (fun _ => ?_) (fun _ => ?_)⟩
        · exact ⟨_, _, rfl, rfl, pw20, by show 6 ≤ sizeLine; decide, fun e ne => go _ e ne (by decide) (by decide) _ fun r G3 r0 r1 P4 F4 h2 => fin r G3 r0 r1 P4 F4 h2⟩
        · exact ⟨by show 6 ≤ sizeLine; decide, fun e ne => go _ e ne (by decide) (by decide) _ fun r G3 r0 r1 P4 F4 h2 => fin r G3 r0 r1 P4 F4 h2⟩
end
end OR

namespace OR
open PySem PySem.Spec PyProof.Rows L2
open TL (tl numL)
/-! ### clauses as tuples -/
/-- a clause that fits a world -/
structure GoodM (fs : List Str) (n : Int) (m : CM) : Prop where
  lt : m.1 < 7
  mem : m.2.1 ∈ fs
  wf : WF m.1 m.2.1 m.2.2.2
  told : ∀ v ∈ told m.1 m.2.1 m.2.2.2, ∃ g ∈ fs, v = .str g
  nf : Nf m.2.2.1
  bd : ∀ r ∈ m.2.2.1, 0 ≤ r.1 ∧ r.2 ≤ n
  ne : m.2.2.1 ≠ []
  len : m.2.2.1.length ≤ 6
/-- the tuple of a clause at t -/
def SpT (H : Hp) (t : Addr) (m : CM) : Prop := ∃ ra M, H t = some (.tup (.str (kName m.1) :: .str m.2.1 :: .ref ra :: m.2.2.2)) ∧ H ra = some (.lst (refs M)) ∧ AtR H M ∧ rws M = m.2.2.1
theorem SpT.same {H H' : Hp} {t : Addr} {m : CM} (h : SpT H t m) (s : Same H H') : SpT H' t m := by
  obtain ⟨ra, M, h1, h2, h3, h4⟩ := h
  exact ⟨ra, M, s _ _ h1, s _ _ h2, h3.same s, h4⟩
theorem SpT.frm {H H' : Hp} {p t : Addr} {m : CM} {k : Nat} (h : SpT H t m) (F : Frm p H H') (P : Pen H p k) : SpT H' t m := by
  obtain ⟨ra, M, h1, h2, h3, h4⟩ := h
  obtain ⟨kvs, hp⟩ := P.dict
  exact ⟨ra, M, F _ _ h1 (ne_of h1 hp (by intro z; cases z)), F.lst P h2, h3.frm F P, h4⟩
/-- the rows of a world, as they are handed on -/
structure RowsAt (H : Hp) (ra : Addr) (n : Int) (M : List ARow) : Prop where
  at_ : H ra = some (.lst (refs M))
  rows : AtR H M
  nf : Nf (rws M)
  bd : ∀ r ∈ rws M, 0 ≤ r.1 ∧ r.2 ≤ n
  ne : M ≠ []
  len : M.length ≤ 6
theorem RowsAt.frm {H H' : Hp} {p ra : Addr} {n : Int} {M : List ARow} {k : Nat} (h : RowsAt H ra n M) (F : Frm p H H') (P : Pen H p k) : RowsAt H' ra n M := { h with at_ := F.lst P h.at_, rows := h.rows.frm F P }
theorem RowsAt.same {H H' : Hp} {ra : Addr} {n : Int} {M : List ARow} (h : RowsAt H ra n M) (s : Same H H') : RowsAt H' ra n M := { h with at_ := s _ _ h.at_, rows := h.rows.same s }
theorem num_of_lt {b : Int} (h1 : -(10 ^ 42) < b) (h2 : b < 10 ^ 42) : Num b := by
  unfold Num
  have : b.natAbs < 10 ^ 42 := by omega
  exact Nat.lt_of_lt_of_le this (Nat.pow_le_pow_right (by decide) (by decide))
def spNumCl : Sp := fun vs H Q _ => ∃ (p wp ra : Addr) (n : Int) (fs : List Str) (k : Nat) (kd g : Str) (M : List ARow) (sg : Str), vs = [.ref p, .ref wp, .str kd, .str g, .ref ra, .str sg] ∧ Wld p H wp n fs ∧ g ∈ fs ∧ isSign sg ∧ RowsAt H ra n M ∧ Pen H p k ∧ k ≤ 800000 ∧
  ∀ t m H', H t = none → SpT H' t m → GoodM fs n m → Pen H' p (k + 20) → Frm p H H' → Q (.ref t) H'
theorem signs_at {sg : Str} (h : isSign sg) : ∃ c : Int, ([("<=", .int 1), (">=", .int (-1)), ("=", .int 0)] : List (Str × V)).lookup sg = some (.int c) ∧ -1 ≤ c ∧ c ≤ 1 := by
  rcases h with e | e | e <;> subst e
  · exact ⟨1, by decide +kernel, by decide, by decide⟩
  · exact ⟨-1, by decide +kernel, by decide, by decide⟩
  · exact ⟨0, by decide +kernel, by decide, by decide⟩
theorem filt_words {fs : List Str} {g x : Str} (h : x ∈ fs.filter fun y => decide (y ≠ g)) : x ∈ fs ∧ x ≠ g := by
  obtain ⟨h1, h2⟩ := List.mem_filter.mp h
  exact ⟨h1, by simpa using h2⟩
abbrev ncN : List Str := ["_law_pen", "_law_world", "_law_kind", "_law_f", "_law_rows", "_law_sign", "_law_own", "_law_free", "_law_height", "_law_others", "_law_g", "_law_slope", "_law_line", "_law_other"]
section
variable {P : Program} {w : World} {K : PySem.W.Frag} {mg : Str → Option Value} {base : Heap}
theorem scNC : FnScope ["_law_pen", "_law_world", "_law_kind", "_law_f", "_law_rows", "_law_sign", "_law_own", "_law_free", "_law_height", "_law_others", "_law_g", "_law_slope", "_law_line", "_law_other"] ["_law_pen", "_law_world", "_law_kind", "_law_f", "_law_rows", "_law_sign"] (defScope sNumberClause) := ⟨rfl, rfl, rfl, by decide +kernel, rfl, by decide +kernel, by decide +kernel⟩
theorem ok_numcl {f : Addr} {fd : FuncData} (F : Fun K "_law_number_clause" "_law_number_clause" sNumberClause f fd) (D : Cl P w K mg base 1 "_law_draw" ["_law_pen", "_law_many"] spDraw) (PI : Cl P w K mg base 2 "_law_pick" ["_law_pen", "_law_options"] (spPick K)) (SO : Cl P w K mg base 3 "_law_slope_of" ["_law_pen", "_law_world"] spSlope)
    (WO : Cl P w K mg base 3 "_law_worth" ["_law_pen", "_law_world", "_law_line", "_law_other", "_law_rows", "_law_sign"] (spWorth K)) : FnOk P w K mg base CX0 4 f fd ["_law_pen", "_law_world", "_law_kind", "_law_f", "_law_rows", "_law_sign"] spNumCl := by
  refine F.ok scNC (fun vs H Q E h => ?_) (fun cdv A outer s H vs Q E hr h => ?_)
  · obtain ⟨_, _, _, _, _, _, _, _, _, _, rfl, _⟩ := h
    rfl
  · obtain ⟨p, wp, ra, n, fs, k, kd, g, M, sg, rfl, hW, hg, hsg, hR, hP, hk, q⟩ := h
    have nd := scNC.nd
    have hu := hu_of hr
    have hu64 : (A.deeper (envOfC "_law_number_clause" (defScope sNumberClause) s.heap.objs.size f cdv)).units + 64 < cLine := hr.units
    refine ⟨_, Evl.pss_cut (ps_par (i := 6) (j := 7) rfl nd rfl rfl (by decide) rfl rfl (pa_cons (pe_dget hu (pe_dget hu (pv 1) pe_str (fun _ _ => rfl)) (pv 3) (fun _ _ => rfl)) (pa_cons (pe_or (pe_dget hu (pv 1) pe_str (fun _ _ => rfl)) (pe_one (pe_cmpR op_eq (pe_dget hu (pv 1) pe_str (fun _ _ => rfl)) (pv 3) (by rfl)))) pa_nil)) rfl)
      (pss_cons (ps_if (pt_cmpR op_eq (pv 2) pe_str (nomark _))
          (pss_cons (ps_set (i := 8) nd rfl (.inl rfl) (pe_op op_add (pe_ix (ix_tupK K rfl) (pv 6) pe_int (fun _ _ => rfl)) (pe_op op_mul (pe_cl PI hr (by decide) (by rfl) (pa_cons (pv 0) (pa_cons (pe_lst (pa_cons pe_int (pa_cons pe_int (pa_cons pe_int (pa_cons pe_int pa_nil))))) pa_nil))) (pe_dget hu (pe_disp (pps_cons pe_str pe_int (pps_cons pe_str (pe_un un_neg pe_int) (pps_cons pe_str pe_int pps_nil))) rfl rfl (by simp) (by decide)) (pv 5) (fun _ _ => rfl)))))
          (pss_one (ps_ret (pe_tup (pa_cons pe_str (pa_cons (pv 3) (pa_cons (pv 4) (pa_cons (pv 5) (pa_cons (pe_ifExp (pt_val (pv 7)) (pe_op op_sub (pe_cl D hr (by decide) (by rfl) (pa_cons (pv 0) (pa_cons pe_int pa_nil))) pe_int) (pv 8)) pa_nil)))))))))
          pss_nil)
      (pss_cons (ps_setLc (i := 9) (own := [("_law_other", 13)]) (g := (gName 13)) rfl nd rfl rfl (sw_true rfl rfl rfl (by decide +kernel)) (pi_list (pe_dget hu (pv 1) pe_str (fun _ _ => rfl))) (blkOk_by (N := ncN) (sc := defScope sNumberClause) (by decide +kernel)) (fun _ _ _ _ _ => pg_name (i := 13) nd rfl (.inl rfl)) (fun _ _ _ _ _ => pts_one (pt_cmpR op_ne (pv 13) (pv 3) (nomark _))) (fun _ _ _ _ _ => (pv 13)))
      (Evl.pss_cut (ps_if (PW.pt (pw_and (pt_cmpR op_eq (pv 2) pe_str (nomark _)) (pw_and1 (pt_cmpR (op_neD hu64) (pv 9) (pe_lst pa_nil) (nomark _)))))
          (pss_cons (ps_set (i := 10) nd rfl (.inl rfl) (pe_cl PI hr (by decide) (by rfl) (pa_cons (pv 0) (pa_cons (pv 9) pa_nil))))
          (Evl.pss_cut (ps_set (i := 11) nd rfl (.inl rfl) (pe_ifExp (pt_cmpR op_eq (pv 5) pe_str (nomark _)) (pe_op op_sub (pe_ix (ix_tupK K rfl) (pv 6) pe_int (fun _ _ => rfl)) (pe_ix (ix_tupK K rfl) (pe_dget hu (pe_dget hu (pv 1) pe_str (fun _ _ => rfl)) (pv 10) (fun _ _ => rfl)) pe_int (fun _ _ => rfl))) (pe_cl SO hr (by decide) (by rfl) (pa_cons (pv 0) (pa_cons (pv 1) pa_nil)))))
          (pss_cons (ps_set (i := 12) nd rfl (.inl rfl) (pe_tup (pa_cons (pe_op op_add (pe_ix (ix_tupK K rfl) (pe_dget hu (pe_dget hu (pv 1) pe_str (fun _ _ => rfl)) (pv 10) (fun _ _ => rfl)) pe_int (fun _ _ => rfl)) (pv 11)) (pa_cons (pe_ix (ix_tupK K rfl) (pe_dget hu (pe_dget hu (pv 1) pe_str (fun _ _ => rfl)) (pv 10) (fun _ _ => rfl)) pe_int (fun _ _ => rfl)) pa_nil))))
          (pss_cons (ps_set (i := 8) nd rfl (.inl rfl) (pe_op op_sub (pe_ix (ix_tupK K rfl) (pv 6) pe_int (fun _ _ => rfl)) (pe_ix (ix_tupK K rfl) (pv 12) pe_int (fun _ _ => rfl))))
          (Evl.pss_cut (ps_if (pt_cmpR op_ne (pv 5) pe_str (nomark _))
              (pss_one (ps_set (i := 8) nd rfl (.inl rfl) (pe_cl WO hr (by decide) (by rfl) (pa_cons (pv 0) (pa_cons (pv 1) (pa_cons (pv 6) (pa_cons (pv 12) (pa_cons (pv 4) (pa_cons (pv 5) pa_nil)))))))))
              pss_nil)
          (pss_one (ps_ret (pe_tup (pa_cons pe_str (pa_cons (pv 3) (pa_cons (pv 4) (pa_cons (pv 5) (pa_cons (pv 10) (pa_cons (pv 11) (pa_cons (pe_ifExp (pt_val (pv 7)) (pe_op op_sub (pe_cl D hr (by decide) (by rfl) (pa_cons (pv 0) (pa_cons pe_int pa_nil))) pe_int) (pv 8)) pa_nil)))))))))))))))
          pss_nil)
      (Evl.pss_cut (ps_set (i := 11) nd rfl (.inl rfl) (pe_ifExp (pt_cmpR op_eq (pv 5) pe_str (nomark _)) (pe_ix (ix_tupK K rfl) (pv 6) pe_int (fun _ _ => rfl)) (pe_cl SO hr (by decide) (by rfl) (pa_cons (pv 0) (pa_cons (pv 1) pa_nil)))))
      (pss_cons (ps_set (i := 8) nd rfl (.inl rfl) (pe_ix (ix_tupK K rfl) (pv 6) pe_int (fun _ _ => rfl)))
      (Evl.pss_cut (ps_if (pt_cmpR op_ne (pv 5) pe_str (nomark _))
          (pss_one (ps_set (i := 8) nd rfl (.inl rfl) (pe_cl WO hr (by decide) (by rfl) (pa_cons (pv 0) (pa_cons (pv 1) (pa_cons (pv 6) (pa_cons (pe_tup (pa_cons (pv 11) (pa_cons pe_int pa_nil))) (pa_cons (pv 4) (pa_cons (pv 5) pa_nil)))))))))
          pss_nil)
      (pss_one (ps_ret (pe_tup (pa_cons pe_str (pa_cons (pv 3) (pa_cons (pv 4) (pa_cons (pv 5) (pa_cons (pv 11) (pa_cons (pe_ifExp (pt_val (pv 7)) (pe_op op_sub (pe_cl D hr (by decide) (by rfl) (pa_cons (pv 0) (pa_cons pe_int pa_nil))) pe_int) (pv 8)) pa_nil))))))))))))))), ?_⟩
    obtain ⟨wf, an, ln, mute, great, free, td, ans, lts, W⟩ := hW
    have hW0 : Wld p H wp n fs := ⟨wf, an, ln, mute, great, free, td, ans, lts, W⟩
    obtain ⟨ot, a, b, hd, hot, a1, a2, b1, b2⟩ := W.line hg
    have wg := W.fw.word (Nat.le_trans W.f2 (by decide)) g hg
    have two : 2 ≤ sizeLine := by decide
    -- the end
    have fin : ∀ (i : Nat) (x : List V) (G : Hp), i < 7 → WF i g x → (∀ v ∈ told i g x, ∃ h ∈ fs, v = .str h) → Pen G p (k + 20) → Frm p H G → ∀ t, G t = none → Q (.ref t) (upd G t (.tup (.str (kName i) :: .str g :: .ref ra :: x))) := fun i x G hi hx ht PG FG t nt => by
      have st := same_lay (o := .tup (.str (kName i) :: .str g :: .ref ra :: x)) nt
      have R := (hR.frm FG hP).same st
      exact q t (i, g, rws M, x) _ (FG.free PG nt) ⟨ra, M, upd_same, R.at_, R.rows, rfl⟩ ⟨hi, hg, hx, ht, R.nf, R.bd, fun e => R.ne (List.map_eq_nil_iff.mp e), by rw [rws_len]; exact R.len⟩ (PG.same' st) (FG.trans (frmS st))
    have self : ∃ h ∈ fs, V.str g = .str h := ⟨g, hg, rfl⟩
    -- own, free
    refine ⟨fun σ G => ∃ fr : Bool, σ = [some (.ref p), some (.ref wp), some (.str kd), some (.str g), some (.ref ra), some (.str sg), some (.ref ot), some (.bl fr), none, none, none, none, none, none] ∧ H = G, ?_, ?_⟩
    · refine ⟨_, rfl, wp, _, rfl, W.at_ (j := 3) rfl rfl, _, rfl, ln, _, rfl, hd, _, rfl, wp, _, rfl, W.at_ (j := 6) rfl rfl, free, rfl, ite2 (fun _ => ?_) (fun _ => ?_)⟩
      · exact ⟨_, _, rfl, true, rfl, rfl⟩
      · refine ⟨_, rfl, wp, _, rfl, W.at_ (j := 4) rfl rfl, _, rfl, ?_⟩
        rcases W.mu with e | ⟨mt, e⟩ <;> subst e
        · exact ⟨rfl, _, _, rfl, _, rfl, rfl⟩
        · exact ⟨rfl, _, _, rfl, _, rfl, rfl⟩
    rintro σ G ⟨fr, rfl, rfl⟩
    refine ⟨_, rfl, rfl, _, rfl, ite2 (fun _ => ?_) (fun _ => ?_)⟩
    · refine ⟨_, rfl, ot, _, 0, .int a, rfl, rfl, .inl (.inl hot), atI_nat (j := 0) rfl, _, rfl, by show 4 ≤ sizeLine; decide, fun e ne => ?_⟩
      refine ⟨p, e, ([0, 0, 1, 3] : List Int).map V.int, k, rfl, .inl (.inl upd_same), Nat.succ_pos _, by show 4 ≤ 1000; decide, hP.new ne, by omega, fun v G1 hv P1 F1 => ?_⟩
      obtain ⟨r, hr2, rfl⟩ := pickInt hv
      have rb : 0 ≤ r ∧ r ≤ 3 := by
        simp only [List.mem_cons, List.not_mem_nil, or_false] at hr2
        omega
      intro d nd2
      refine ⟨1, rfl, upd_same, dkv [("<=", .int 1), (">=", .int (-1)), ("=", .int 0)], rfl, by show 3 ≤ 15; decide, ?_⟩
      rw [merge_dkv (by decide +kernel), upd_upd]
      obtain ⟨c, hc, c1, c2⟩ := signs_at hsg
      have FG := ((Frm.new (p := p) (o := .lst (([0, 0, 1, 3] : List Int).map V.int)) ne).trans F1).trans (Frm.new (o := .dK (dkv [("<=", .int 1), (">=", .int (-1)), ("=", .int 0)])) nd2)
      have PG := P1.new (o := .dK (dkv [("<=", .int 1), (">=", .int (-1)), ("=", .int 0)])) nd2
      refine ⟨_, rfl, d, .int c, rfl, getD upd_same hc, _, _, rfl, rfl, .inl ⟨by omega, by omega⟩, _, _, rfl, rfl, ?_⟩
      have rc : -3 ≤ r * c ∧ r * c ≤ 3 := by
        rcases (show c = -1 ∨ c = 0 ∨ c = 1 by omega) with e | e | e <;> subst e <;> omega
      refine ⟨_, rfl, _, rfl, _, rfl, _, rfl, _, rfl, ite2 (fun _ => ?_) (fun _ => ?_)⟩
      · refine ⟨_, rfl, p, 7, _, rfl, by decide, by decide, PG, by omega, fun z G2 z0 z1 P2 F2 => ⟨_, _, rfl, rfl, by show 5 ≤ sizeLine; decide, fun t nt => ?_⟩⟩
        exact fin 6 [.str sg, .int (z - 3)] G2 (by decide) ⟨sg, _, rfl, hsg, num_of_lt (by omega) (by omega)⟩ (fun v hv => by rw [List.mem_singleton.mp hv]; exact self) (P2.mono (by omega)) (FG.trans F2) t nt
      · refine ⟨_, rfl, by show 5 ≤ sizeLine; decide, fun t nt => ?_⟩
        exact fin 6 [.str sg, .int (a + r * c)] _ (by decide) ⟨sg, _, rfl, hsg, num_of_lt (by omega) (by omega)⟩ (fun v hv => by rw [List.mem_singleton.mp hv]; exact self) (PG.mono (by omega)) FG t nt
    · refine ⟨_, rfl, wp, _, rfl, W.at_ (j := 1) rfl rfl, wf, rfl, ⟨_, .inl (.inl W.f)⟩, fun D hD => lc_list (K := K) (a := wf) (xs := fs.map V.str) (fun i G => G D = some (.lst (((fs.take i).filter fun y => decide (y ≠ g)).map V.str)) ∧ Same H G)
        ⟨upd_same, same_lay hD⟩ (fun i G _ ⟨_, s⟩ => .inl (.inl (s _ _ W.f))) ?_ ?_⟩
      · rintro i v G hv ⟨hD2, s2⟩
        rw [List.getElem?_map] at hv
        obtain ⟨x, hx, rfl⟩ := Option.map_eq_some_iff.mp hv
        have e1 : (fs.take (i + 1)).filter (fun y => decide (y ≠ g)) = (fs.take i).filter (fun y => decide (y ≠ g)) ++ (if x ≠ g then [x] else []) := by
          rw [List.take_add_one, hx, List.filter_append]
          congr 1
          by_cases e : x = g <;> simp [e]
        refine ⟨rfl, ?_⟩
        refine ⟨_, rfl, _, rfl, rfl, _, rfl, ite2 (fun c => ?_) (fun c => ?_)⟩
        · have hc : x ≠ g := fun e => by subst e; simp at c
          have lf := List.length_filter_le (fun y => decide (y ≠ g)) (fs.take i)
          rw [List.length_take] at lf
          have f2 := W.f2
          refine ⟨_, rfl, _, hD2, small1000 (by rw [List.length_map]; omega), ?_, same_upd s2 hD⟩
          rw [upd_same, e1, if_pos hc, List.map_append]
          rfl
        · have hc : ¬ x ≠ g := fun e => c (by simp [e])
          refine ⟨?_, s2⟩
          rw [e1, if_neg hc, List.append_nil]
          exact hD2
      · rintro G1 ⟨hD2, s2⟩
        rw [List.length_map, List.take_of_length_le (Nat.le_refl _)] at hD2
        generalize hoth : fs.filter (fun y => decide (y ≠ g)) = oth at hD2
        have hof : ∀ x ∈ oth, x ∈ fs ∧ x ≠ g := fun x hx => filt_words (by rw [hoth]; exact hx)
        have hol : oth.length ≤ 2 := by
          rw [← hoth]
          exact Nat.le_trans (List.length_filter_le _ _) W.f2
        have PG1 := hP.same' s2
        refine ⟨fun σ G => σ = [some (.ref p), some (.ref wp), some (.str kd), some (.str g), some (.ref ra), some (.str sg), some (.ref ot), some (.bl fr), none, some (.ref D), none, none, none, none] ∧ Same H G, ?_, ?_⟩
        · refine ⟨_, rfl, rfl, _, rfl, ite2 (fun _ => ?_) (fun _ => iteF ⟨rfl, s2⟩)⟩
          refine ⟨_, rfl, Nat.zero_le _, fun e ne => ?_⟩
          have s3 := s2.trans (same_lay (o := .lst []) ne)
          have hD3 := same_lay (o := .lst []) ne _ _ hD2
          refine ⟨.list (oth.map PyData.str), .list [], .lst (.inl (.inl hD3)) (dp_strs oth), .lst (.inl (.inl upd_same)) .nil, shpL_strs (fun x hx => (W.fw.word (Nat.le_trans W.f2 (by decide)) x (hof x hx).1).small), rfl, _, rfl, ite2 (fun c => ?_) (fun _ => ⟨rfl, s3⟩)⟩
          have ho0 : 0 < oth.length := by
            cases oth with
            | nil => exact absurd c (by decide)
            | cons _ _ => exact Nat.succ_pos _
          have P3 := hP.same' s3
          refine ⟨_, rfl, _, rfl, p, D, oth.map V.str, _, rfl, .inl (.inl hD3), by rw [List.length_map]; exact ho0, by rw [List.length_map]; omega, P3, by omega, fun v G3 hv P4 F4 => ?_⟩
          obtain ⟨g2, hg2, rfl⟩ := List.mem_map.mp hv
          obtain ⟨hg2f, hg2n⟩ := hof g2 hg2
          have FH4 := (frmS (p := p) s3).trans F4
          have W4 := W.frm FH4 hP
          have wg2 := W.fw.word (Nat.le_trans W.f2 (by decide)) g2 hg2f
          obtain ⟨lt2, a', b', hd2, hlt2, a1', a2', b1', b2'⟩ := W4.line hg2f
          have hot4 := FH4 _ _ hot (by obtain ⟨kvs, hpd⟩ := hP.dict; exact ne_of hot hpd (by intro z; cases z))
          refine ⟨fun σ G => ∃ sl : Int, -(4 * 10 ^ 9) ≤ sl ∧ sl ≤ 4 * 10 ^ 9 ∧ σ = [some (.ref p), some (.ref wp), some (.str kd), some (.str g), some (.ref ra), some (.str sg), some (.ref ot), some (.bl fr), none, some (.ref D), some (.str g2), some (.int sl), none, none] ∧ Pen G p (k + 3) ∧ Frm p H G, ?_, ?_⟩
          · refine ⟨_, rfl, rfl, _, rfl, ite2 (fun _ => ?_) (fun _ => ?_)⟩
            · exact ⟨_, rfl, ot, _, 0, .int a, rfl, rfl, .inl (.inl hot4), atI_nat (j := 0) rfl, _, rfl, wp, _, rfl, W4.at_ (j := 3) rfl rfl, _, rfl, ln, _, rfl, hd2, lt2, _, 0, .int a', rfl, rfl, .inl (.inl hlt2), atI_nat (j := 0) rfl, _, _, rfl, rfl, a - a', by omega, by omega, rfl, P4.mono (by omega), FH4⟩
            · exact ⟨_, rfl, _, rfl, p, wp, n, fs, _, rfl, hW0.frm FH4 hP, P4, by omega, fun sl G5 h1 h2 P5 F5 => ⟨sl, by omega, by omega, rfl, P5.mono (by omega), FH4.trans F5⟩⟩
          rintro σ G5 ⟨sl, sl1, sl2, rfl, P5, F5⟩
          have W5 := W.frm F5 hP
          obtain ⟨lt2, a', b', hd2, hlt2, a1', a2', b1', b2'⟩ := W5.line hg2f
          have hot5 := F5 _ _ hot (by obtain ⟨kvs, hpd⟩ := hP.dict; exact ne_of hot hpd (by intro z; cases z))
          refine ⟨_, rfl, wp, _, rfl, W5.at_ (j := 3) rfl rfl, _, rfl, ln, _, rfl, hd2, lt2, _, 0, .int a', rfl, rfl, .inl (.inl hlt2), atI_nat (j := 0) rfl, _, rfl, _, _, rfl, rfl, _, rfl, wp, _, rfl, W5.at_ (j := 3) rfl rfl, _, rfl, ln, _, rfl, hd2, lt2, _, 1, .int b', rfl, rfl, .inl (.inl hlt2), atI_nat (j := 1) rfl, two, fun tl nt => ?_⟩
          have st := same_lay (o := .tup [.int (a' + sl), .int b']) nt
          have hot6 := st _ _ hot5
          have F6 := F5.trans (frmS (p := p) st)
          have P6 := P5.same' st
          refine ⟨_, rfl, ot, _, 1, .int b, rfl, rfl, .inl (.inl hot6), atI_nat (j := 1) rfl, _, rfl, tl, _, 1, .int b', rfl, rfl, .inl (.inl upd_same), atI_nat (j := 1) rfl, _, _, rfl, rfl, ?_⟩
          refine ⟨fun σ G => ∃ ht : Int, -(10 ^ 42) < ht ∧ ht < 10 ^ 42 ∧ σ = [some (.ref p), some (.ref wp), some (.str kd), some (.str g), some (.ref ra), some (.str sg), some (.ref ot), some (.bl fr), some (.int ht), some (.ref D), some (.str g2), some (.int sl), some (.ref tl), none] ∧ Pen G p (k + 4) ∧ Frm p H G, ?_, ?_⟩
          · refine ⟨_, rfl, rfl, _, rfl, ite2 (fun _ => ?_) (fun _ => ⟨b - b', by omega, by omega, rfl, P6.mono (by omega), F6⟩)⟩
            have R6 := hR.frm F6 hP
            refine ⟨_, rfl, _, rfl, _, rfl, _, rfl, _, rfl, _, rfl, p, wp, ot, tl, ra, n, a, b, a' + sl, b', fs, _, M, sg, rfl, hW0.frm F6 hP, P6, by omega, hot6, upd_same, .inl (.inl R6.at_), R6.rows, fun r hr3 => ⟨(R6.bd r hr3).1, R6.nf.ok r hr3, (R6.bd r hr3).2⟩, R6.ne, R6.len, by omega, by omega, by omega, by omega, by omega, by omega, by omega, by omega, fun ht G7 h1 h2 P7 F7 => ⟨ht, h1, h2, rfl, P7.mono (by omega), F6.trans F7⟩⟩
          rintro σ G7 ⟨ht, ht1, ht2, rfl, P7, F7⟩
          refine ⟨_, rfl, _, rfl, _, rfl, _, rfl, _, rfl, _, rfl, _, rfl, ite2 (fun _ => ?_) (fun _ => ?_)⟩
          · refine ⟨_, rfl, p, 9, _, rfl, by decide, by decide, P7, by omega, fun z G8 z0 z1 P8 F8 => ⟨_, _, rfl, rfl, by show 7 ≤ sizeLine; decide, fun t nt => ?_⟩⟩
            exact fin 5 [.str sg, .str g2, .int sl, .int (z - 4)] G8 (by decide) ⟨sg, g2, _, _, rfl, hsg, wg2, hg2n, num_of_lt (by omega) (by omega), num_of_lt (by omega) (by omega)⟩ (fun v hv => by
              rcases List.mem_cons.mp hv with e | e
              · rw [e]; exact self
              · rw [List.mem_singleton.mp e]; exact ⟨g2, hg2f, rfl⟩) (P8.mono (by omega)) (F7.trans F8) t nt
          · refine ⟨_, rfl, by show 7 ≤ sizeLine; decide, fun t nt => ?_⟩
            exact fin 5 [.str sg, .str g2, .int sl, .int ht] G7 (by decide) ⟨sg, g2, _, _, rfl, hsg, wg2, hg2n, num_of_lt (by omega) (by omega), num_of_lt ht1 ht2⟩ (fun v hv => by
              rcases List.mem_cons.mp hv with e | e
              · rw [e]; exact self
              · rw [List.mem_singleton.mp e]; exact ⟨g2, hg2f, rfl⟩) (P7.mono (by omega)) F7 t nt
        rintro σ G2 ⟨rfl, s3⟩
        have F3 := frmS (p := p) s3
        have P3 := hP.same' s3
        have hot3 := s3 _ _ hot
        refine ⟨fun σ G => ∃ sl : Int, -(4 * 10 ^ 9) ≤ sl ∧ sl ≤ 4 * 10 ^ 9 ∧ σ = [some (.ref p), some (.ref wp), some (.str kd), some (.str g), some (.ref ra), some (.str sg), some (.ref ot), some (.bl fr), none, some (.ref D), none, some (.int sl), none, none] ∧ Pen G p (k + 2) ∧ Frm p H G, ?_, ?_⟩
        · refine ⟨_, rfl, rfl, _, rfl, ite2 (fun _ => ?_) (fun _ => ?_)⟩
          · exact ⟨_, rfl, ot, _, 0, .int a, rfl, rfl, .inl (.inl hot3), atI_nat (j := 0) rfl, a, by omega, by omega, rfl, P3.mono (by omega), F3⟩
          · exact ⟨_, rfl, _, rfl, p, wp, n, fs, _, rfl, hW0.frm F3 hP, P3, by omega, fun sl G5 h1 h2 P5 F5 => ⟨sl, by omega, by omega, rfl, P5.mono (by omega), F3.trans F5⟩⟩
        rintro σ G5 ⟨sl, sl1, sl2, rfl, P5, F5⟩
        have hot5 := F5 _ _ hot (by obtain ⟨kvs, hpd⟩ := hP.dict; exact ne_of hot hpd (by intro z; cases z))
        refine ⟨_, rfl, ot, _, 1, .int b, rfl, rfl, .inl (.inl hot5), atI_nat (j := 1) rfl, ?_⟩
        refine ⟨fun σ G => ∃ ht : Int, -(10 ^ 42) < ht ∧ ht < 10 ^ 42 ∧ σ = [some (.ref p), some (.ref wp), some (.str kd), some (.str g), some (.ref ra), some (.str sg), some (.ref ot), some (.bl fr), some (.int ht), some (.ref D), none, some (.int sl), none, none] ∧ Pen G p (k + 4) ∧ Frm p H G, ?_, ?_⟩
        · refine ⟨_, rfl, rfl, _, rfl, ite2 (fun _ => ?_) (fun _ => ⟨b, by omega, by omega, rfl, P5.mono (by omega), F5⟩)⟩
          refine ⟨_, rfl, _, rfl, _, rfl, _, rfl, two, fun tl nt => ?_⟩
          have st := same_lay (o := .tup [.int sl, .int 0]) nt
          have F6 := F5.trans (frmS (p := p) st)
          have P6 := P5.same' st
          have R6 := hR.frm F6 hP
          refine ⟨_, rfl, _, rfl, p, wp, ot, tl, ra, n, a, b, sl, 0, fs, _, M, sg, rfl, hW0.frm F6 hP, P6, by omega, st _ _ hot5, upd_same, .inl (.inl R6.at_), R6.rows, fun r hr3 => ⟨(R6.bd r hr3).1, R6.nf.ok r hr3, (R6.bd r hr3).2⟩, R6.ne, R6.len, by omega, by omega, by omega, by omega, by omega, by omega, by omega, by omega, fun ht G7 h1 h2 P7 F7 => ⟨ht, h1, h2, rfl, P7.mono (by omega), F6.trans F7⟩⟩
        rintro σ G7 ⟨ht, ht1, ht2, rfl, P7, F7⟩
        refine ⟨_, rfl, _, rfl, _, rfl, _, rfl, _, rfl, _, rfl, ite2 (fun _ => ?_) (fun _ => ?_)⟩
        · refine ⟨_, rfl, p, 9, _, rfl, by decide, by decide, P7, by omega, fun z G8 z0 z1 P8 F8 => ⟨_, _, rfl, rfl, by show 6 ≤ sizeLine; decide, fun t nt => ?_⟩⟩
          exact fin 4 [.str sg, .int sl, .int (z - 4)] G8 (by decide) ⟨sg, _, _, rfl, hsg, num_of_lt (by omega) (by omega), num_of_lt (by omega) (by omega)⟩ (fun v hv => by rw [List.mem_singleton.mp hv]; exact self) (P8.mono (by omega)) (F7.trans F8) t nt
        · refine ⟨_, rfl, by show 6 ≤ sizeLine; decide, fun t nt => ?_⟩
          exact fin 4 [.str sg, .int sl, .int ht] G7 (by decide) ⟨sg, _, _, rfl, hsg, num_of_lt (by omega) (by omega), num_of_lt ht1 ht2⟩ (fun v hv => by rw [List.mem_singleton.mp hv]; exact self) (P7.mono (by omega)) F7 t nt
end
end OR

namespace OR
open PySem PySem.Spec PyProof.Rows L2
open TL (tl numL)
def spClOf : Sp := fun vs H Q _ => ∃ (p wp : Addr) (n : Int) (fs : List Str) (k : Nat), vs = [.ref p, .ref wp] ∧ Wld p H wp n fs ∧ Pen H p k ∧ k ≤ 700000 ∧
  ∀ t m H', H t = none → SpT H' t m → GoodM fs n m → Pen H' p (k + 100) → Frm p H H' → Q (.ref t) H'
abbrev coN : List Str := ["_law_pen", "_law_world", "_law_kind", "_law_f", "_law_rows", "_law_others", "_law_sign", "_law_other"]
section
variable {P : Program} {w : World} {K : PySem.W.Frag} {mg : Str → Option Value} {base : Heap}
theorem scCO : FnScope ["_law_pen", "_law_world", "_law_kind", "_law_f", "_law_rows", "_law_others", "_law_sign", "_law_other"] ["_law_pen", "_law_world"] (defScope sClauseOf) := ⟨rfl, rfl, rfl, by decide +kernel, rfl, by decide +kernel, by decide +kernel⟩
theorem ok_clof {f : Addr} {fd : FuncData} (F : Fun K "_law_clause_of" "_law_clause_of" sClauseOf f fd) (PI : Cl P w K mg base 2 "_law_pick" ["_law_pen", "_law_options"] (spPick K)) (ST : Cl P w K mg base 4 "_law_stretches" ["_law_pen", "_law_world", "_law_most"] spStr) (NC : Cl P w K mg base 4 "_law_number_clause" ["_law_pen", "_law_world", "_law_kind", "_law_f", "_law_rows", "_law_sign"] spNumCl) : FnOk P w K mg base CX0 5 f fd ["_law_pen", "_law_world"] spClOf := by
  refine F.ok scCO (fun vs H Q E h => ?_) (fun cdv A outer s H vs Q E hr h => ?_)
  · obtain ⟨_, _, _, _, _, rfl, _⟩ := h
    rfl
  · obtain ⟨p, wp, n, fs, k, rfl, hW, hP, hk, q⟩ := h
    have nd := scCO.nd
    have hu := hu_of hr
    have hu64 : (A.deeper (envOfC "_law_clause_of" (defScope sClauseOf) s.heap.objs.size f cdv)).units + 64 < cLine := hr.units
    refine ⟨_, pss_cons (ps_set (i := 2) nd rfl (.inl rfl) (pe_cl PI hr (by decide) (by rfl) (pa_cons (pv 0) (pa_cons (pe_lst (pa_cons pe_str (pa_cons pe_str (pa_cons pe_str (pa_cons pe_str (pa_cons pe_str (pa_cons pe_str (pa_cons pe_str (pa_cons pe_str (pa_cons pe_str (pa_cons pe_str (pa_cons pe_str (pa_cons pe_str pa_nil))))))))))))) pa_nil))))
      (pss_cons (ps_asg (pe_tup (pa_cons (pe_cl PI hr (by decide) (by rfl) (pa_cons (pv 0) (pa_cons (pe_dget hu (pv 1) pe_str (fun _ _ => rfl)) pa_nil))) (pa_cons (pe_cl ST hr (by decide) (by rfl) (pa_cons (pv 0) (pa_cons (pv 1) (pa_cons pe_int pa_nil)))) pa_nil))) (pg_tup rfl (pgs_cons (pg_name (i := 3) nd rfl (.inr rfl)) (pgs_cons (pg_name (i := 4) nd rfl (.inl rfl)) pgs_nil))))
      (pss_cons (ps_setLc (i := 5) (own := [("_law_other", 7)]) (g := (gName 7)) rfl nd rfl rfl (sw_true rfl rfl rfl (by decide +kernel)) (pi_list (pe_dget hu (pv 1) pe_str (fun _ _ => rfl))) (blkOk_by (N := coN) (sc := defScope sClauseOf) (by decide +kernel)) (fun _ _ _ _ _ => pg_name (i := 7) nd rfl (.inl rfl)) (fun _ _ _ _ _ => pts_one (pt_cmpR op_ne (pv 7) (pv 3) (nomark _))) (fun _ _ _ _ _ => (pv 7)))
      (Evl.pss_cut (ps_if (PW.pt (pw_and (pt_cmpR op_eq (pv 2) pe_str (nomark _)) (pw_and1 (PW.pt (pw_or (pt_val (pe_dget hu (pv 1) pe_str (fun _ _ => rfl))) (pw_or1 (pt_cmpR op_ne (pe_dget hu (pv 1) pe_str (fun _ _ => rfl)) (pv 3) (nomark _))))))))
          (pss_one (ps_ret (pe_tup (pa_cons pe_str (pa_cons (pv 3) (pa_cons (pv 4) pa_nil))))))
          pss_nil)
      (Evl.pss_cut (ps_if (PW.pt (pw_and (pt_cmpR op_eq (pv 2) pe_str (nomark _)) (pw_and1 (PW.pt (pw_or (pt_val (pe_dget hu (pv 1) pe_str (fun _ _ => rfl))) (pw_or1 (pt_cmpR op_eq (pe_dget hu (pv 1) pe_str (fun _ _ => rfl)) (pv 3) (nomark _))))))))
          (pss_one (ps_ret (pe_tup (pa_cons pe_str (pa_cons (pv 3) (pa_cons (pv 4) pa_nil))))))
          pss_nil)
      (Evl.pss_cut (ps_if (PW.pt (pw_and (pt_cmpR op_eq (pv 2) pe_str (nomark _)) (pw_and (pt_cmpR (op_neD hu64) (pv 5) (pe_lst pa_nil) (nomark _)) (pw_and1 (PW.pt (pw_or (pt_val (pe_dget hu (pv 1) pe_str (fun _ _ => rfl))) (pw_or1 (pt_cmpR op_ne (pe_dget hu (pv 1) pe_str (fun _ _ => rfl)) (pv 3) (nomark _)))))))))
          (pss_one (ps_ret (pe_tup (pa_cons pe_str (pa_cons (pv 3) (pa_cons (pv 4) (pa_cons (pe_cl PI hr (by decide) (by rfl) (pa_cons (pv 0) (pa_cons (pv 5) pa_nil))) pa_nil)))))))
          pss_nil)
      (Evl.pss_cut (ps_if (pt_cmpR op_eq (pv 2) pe_str (nomark _))
          (pss_one (ps_ret (pe_tup (pa_cons pe_str (pa_cons (pv 3) (pa_cons (pv 4) (pa_cons (pe_cl PI hr (by decide) (by rfl) (pa_cons (pv 0) (pa_cons (pe_lst (pa_cons pe_str (pa_cons pe_str pa_nil))) pa_nil))) pa_nil)))))))
          pss_nil)
      (pss_cons (ps_set (i := 6) nd rfl (.inl rfl) (pe_cl PI hr (by decide) (by rfl) (pa_cons (pv 0) (pa_cons (pe_lst (pa_cons pe_str (pa_cons pe_str (pa_cons pe_str (pa_cons pe_str (pa_cons pe_str pa_nil)))))) pa_nil))))
      (pss_one (ps_ret (pe_cl NC hr (by decide) (by rfl) (pa_cons (pv 0) (pa_cons (pv 1) (pa_cons (pe_ifExp (pt_cmpR (op_in_seqK K rfl) (pv 2) (pe_tup (pa_cons pe_str (pa_cons pe_str (pa_cons pe_str pa_nil)))) (by rfl)) (pv 2) pe_str) (pa_cons (pv 3) (pa_cons (pv 4) (pa_cons (pv 6) pa_nil)))))))))))))))), ?_⟩
    refine ⟨_, rfl, (by show 12 ≤ sizeLine; decide), fun l nl => ?_⟩
    refine ⟨p, l, (["answers", "answers", "spreads", "needs", "bound", "bound", "bound", "pair", "step", "step", "pair", "refuses"] : List Str).map V.str, k, rfl, .inl (.inl upd_same), Nat.succ_pos _, by show 12 ≤ 1000; decide, hP.new nl, by omega, fun v H1 hv P1 F1 => ?_⟩
    obtain ⟨kd, _, rfl⟩ := List.mem_map.mp hv
    have G1 := (Frm.new (p := p) (o := .lst ((["answers", "answers", "spreads", "needs", "bound", "bound", "bound", "pair", "step", "step", "pair", "refuses"] : List Str).map V.str)) nl).trans F1
    clear hv F1
    obtain ⟨wf, an, ln, mute, great, free, td, ans, lts, W⟩ := hW
    have hW0 : Wld p H wp n fs := ⟨wf, an, ln, mute, great, free, td, ans, lts, W⟩
    have W1 := W.frm G1 hP
    have f0 := W.f0
    have f2 := W.f2
    refine ⟨_, rfl, _, rfl, wp, _, rfl, W1.at_ (j := 1) rfl rfl, p, wf, fs.map V.str, _, rfl, .inl (.inl W1.f), by rw [List.length_map]; omega, by rw [List.length_map]; omega, P1, by omega, fun v H2 hv P2 F2 => ?_⟩
    obtain ⟨g, hg, rfl⟩ := List.mem_map.mp hv
    have G2 := G1.trans F2
    refine ⟨_, rfl, _, rfl, p, wp, n, fs, _, 2, rfl, hW0.frm G2 hP, by decide, by decide, P2, by omega, fun ra M H30 _ hra hM hN hb hM0 hM6 P30 F30 => ⟨by show 2 ≤ sizeLine; decide, fun t0 nt0 => ⟨t0, _, rfl, .inl (.inl upd_same), rfl, _, _, rfl, _, _, rfl, rfl, ?_⟩⟩⟩
    have st0 := same_lay (o := .tup [.str g, .ref ra]) nt0
    have P3 := P30.same' st0
    have G3 := (G2.trans F30).trans (frmS st0)
    have hR : RowsAt (upd H30 t0 (.tup [.str g, .ref ra])) ra n M := (⟨hra, hM, hN, hb, hM0, hM6⟩ : RowsAt H30 ra n M).same st0
    generalize upd H30 t0 (.tup [.str g, .ref ra]) = H3 at P3 G3 hR
    have W3 := W.frm G3 hP
    have hsc : scal mute (.str g) = true := by
      rcases W.mu with e | ⟨mt, e⟩ <;> subst e <;> rfl
    have wg := W.fw.word (Nat.le_trans W.f2 (by decide)) g hg
    have self : ∃ h ∈ fs, V.str g = .str h := ⟨g, hg, rfl⟩
    have fin : ∀ (i : Nat) (x : List V) (G : Hp), i < 7 → WF i g x → (∀ v ∈ told i g x, ∃ h ∈ fs, v = .str h) → Pen G p (k + 100) → Frm p H3 G → ∀ t, G t = none → Q (.ref t) (upd G t (.tup (.str (kName i) :: .str g :: .ref ra :: x))) := fun i x G hi hx ht PG FG t nt => by
      have st := same_lay (o := .tup (.str (kName i) :: .str g :: .ref ra :: x)) nt
      have R := (hR.frm FG P3).same st
      have GH := G3.trans FG
      exact q t (i, g, rws M, x) _ (GH.free PG nt) ⟨ra, M, upd_same, R.at_, R.rows, rfl⟩ ⟨hi, hg, hx, ht, R.nf, R.bd, fun e => R.ne (List.map_eq_nil_iff.mp e), by rw [rws_len]; exact R.len⟩ (PG.same' st) (GH.trans (frmS st))
    refine ⟨_, rfl, wp, _, rfl, W3.at_ (j := 1) rfl rfl, wf, rfl, ⟨_, .inl (.inl W3.f)⟩, fun D hD => lc_list (K := K) (a := wf) (xs := fs.map V.str) (fun i G => G D = some (.lst (((fs.take i).filter fun y => decide (y ≠ g)).map V.str)) ∧ Same H3 G)
      ⟨upd_same, same_lay hD⟩ (fun i G _ ⟨_, s⟩ => .inl (.inl (s _ _ W3.f))) ?_ ?_⟩
    · rintro i v G hv ⟨hD2, s2⟩
      rw [List.getElem?_map] at hv
      obtain ⟨x, hx, rfl⟩ := Option.map_eq_some_iff.mp hv
      have e1 : (fs.take (i + 1)).filter (fun y => decide (y ≠ g)) = (fs.take i).filter (fun y => decide (y ≠ g)) ++ (if x ≠ g then [x] else []) := by
        rw [List.take_add_one, hx, List.filter_append]
        congr 1
        by_cases e : x = g <;> simp [e]
      refine ⟨rfl, ?_⟩
      refine ⟨_, rfl, _, rfl, rfl, _, rfl, ite2 (fun c => ?_) (fun c => ?_)⟩
      · have hc : x ≠ g := fun e => by subst e; simp at c
        have lf := List.length_filter_le (fun y => decide (y ≠ g)) (fs.take i)
        rw [List.length_take] at lf
        refine ⟨_, rfl, _, hD2, small1000 (by rw [List.length_map]; omega), ?_, same_upd s2 hD⟩
        rw [upd_same, e1, if_pos hc, List.map_append]
        rfl
      · have hc : ¬ x ≠ g := fun e => c (by simp [e])
        refine ⟨?_, s2⟩
        rw [e1, if_neg hc, List.append_nil]
        exact hD2
    · rintro Gb ⟨hDb, sb⟩
      rw [List.length_map, List.take_of_length_le (Nat.le_refl _)] at hDb
      generalize hoth : fs.filter (fun y => decide (y ≠ g)) = oth at hDb
      have hof : ∀ x ∈ oth, x ∈ fs ∧ x ≠ g := fun x hx => filt_words (by rw [hoth]; exact hx)
      have hol : oth.length ≤ 2 := by
        rw [← hoth]
        exact Nat.le_trans (List.length_filter_le _ _) W.f2
      have Fb := frmS (p := p) sb
      have Pb := P3.same' sb
      have Wb := W3.same sb
      let S : L2.St := [some (.ref p), some (.ref wp), some (.str kd), some (.str g), some (.ref ra), some (.ref D), none, none]
      -- answers
      refine ⟨fun σ G => σ = S ∧ Same Gb G, ?_, ?_⟩
      · have s := Same.refl Gb
        exact ⟨_, rfl, rfl, _, rfl, ite2 (fun _ => ⟨_, rfl, wp, _, rfl, (Wb.same s).at_ (j := 6) rfl rfl, _, rfl, ite2 (fun _ => iteT (⟨_, rfl, _, rfl, by show 3 ≤ sizeLine; decide, fun t nt => fin 0 [] _ (by decide) rfl (fun v hv => by rw [List.mem_singleton.mp hv]; exact self) ((Pb.same' s).mono (by omega)) (Fb.trans (frmS s)) t nt⟩)) (fun _ => ⟨_, rfl, wp, _, rfl, (Wb.same s).at_ (j := 4) rfl rfl, _, rfl, hsc, _, rfl, ite2 (fun _ => ⟨_, rfl, _, rfl, by show 3 ≤ sizeLine; decide, fun t nt => fin 0 [] _ (by decide) rfl (fun v hv => by rw [List.mem_singleton.mp hv]; exact self) ((Pb.same' s).mono (by omega)) (Fb.trans (frmS s)) t nt⟩) (fun _ => ⟨rfl, s⟩)⟩)⟩) (fun _ => iteF ⟨rfl, s⟩)⟩
      rintro σ G ⟨rfl, s⟩
      -- refuses
      refine ⟨fun σ G => σ = S ∧ Same Gb G, ?_, ?_⟩
      · exact ⟨_, rfl, rfl, _, rfl, ite2 (fun _ => ⟨_, rfl, wp, _, rfl, (Wb.same s).at_ (j := 6) rfl rfl, _, rfl, ite2 (fun _ => iteT (⟨_, rfl, _, rfl, by show 3 ≤ sizeLine; decide, fun t nt => fin 1 [] _ (by decide) rfl (fun v hv => by rw [List.mem_singleton.mp hv]; exact self) ((Pb.same' s).mono (by omega)) (Fb.trans (frmS s)) t nt⟩)) (fun _ => ⟨_, rfl, wp, _, rfl, (Wb.same s).at_ (j := 4) rfl rfl, _, rfl, hsc, _, rfl, ite2 (fun _ => ⟨_, rfl, _, rfl, by show 3 ≤ sizeLine; decide, fun t nt => fin 1 [] _ (by decide) rfl (fun v hv => by rw [List.mem_singleton.mp hv]; exact self) ((Pb.same' s).mono (by omega)) (Fb.trans (frmS s)) t nt⟩) (fun _ => ⟨rfl, s⟩)⟩)⟩) (fun _ => iteF ⟨rfl, s⟩)⟩
      clear s
      rintro σ G ⟨rfl, s⟩
      -- needs
      refine ⟨fun σ G => σ = S ∧ Same Gb G, ?_, ?_⟩
      · refine ⟨_, rfl, rfl, _, rfl, ite2 (fun _ => ?_) (fun _ => iteF ⟨rfl, s⟩)⟩
        refine ⟨_, rfl, Nat.zero_le _, fun e ne => ?_⟩
        have s := s.trans (same_lay (o := .lst []) ne)
        have hD3 := s _ _ hDb
        refine ⟨.list (oth.map PyData.str), .list [], .lst (.inl (.inl hD3)) (dp_strs oth), .lst (.inl (.inl upd_same)) .nil, shpL_strs (fun x hx => (W.fw.word (Nat.le_trans W.f2 (by decide)) x (hof x hx).1).small), rfl, _, rfl, ite2 (fun c => ?_) (fun _ => iteF ⟨rfl, s⟩)⟩
        have ho0 : 0 < oth.length := by
          cases oth with
          | nil => exact absurd c (by decide)
          | cons _ _ => exact Nat.succ_pos _
        have Pn := Pb.same' s
        have thN : ∀ Q2 : VK, (∀ g2 G4, g2 ∈ oth → Pen G4 p (k + 1 + 1 + 40 + 1) → Frm p Gb G4 → Q2 (.str g2) G4) → spPick K [.ref p, .ref D] (upd G e (.lst [])) Q2 E0 := fun Q2 hq =>
          ⟨p, D, oth.map V.str, _, rfl, .inl (.inl hD3), by rw [List.length_map]; exact ho0, by rw [List.length_map]; omega, Pn, by omega, fun v G4 hv P4 F4 => by
            obtain ⟨g2, hg2, rfl⟩ := List.mem_map.mp hv
            exact hq g2 G4 hg2 P4 ((frmS s).trans F4)⟩
        have goN : ∀ g2 G4, g2 ∈ oth → Pen G4 p (k + 1 + 1 + 40 + 1) → Frm p Gb G4 → 4 ≤ sizeLine ∧ ∀ t, G4 t = none → Q (.ref t) (upd G4 t (.tup [.str "needs", .str g, .ref ra, .str g2])) := fun g2 G4 hg2 P4 F4 => by
          obtain ⟨h1, h2⟩ := hof g2 hg2
          refine ⟨by decide, fun t nt => fin 2 [.str g2] G4 (by decide) ⟨g2, rfl, W.fw.word (Nat.le_trans W.f2 (by decide)) g2 h1, h2⟩ (fun v hv => ?_) (P4.mono (by omega)) (Fb.trans F4) t nt⟩
          rcases List.mem_cons.mp hv with e | e
          · rw [e]; exact self
          · rw [List.mem_singleton.mp e]; exact ⟨g2, h1, rfl⟩
        exact ⟨_, rfl, wp, _, rfl, (Wb.same s).at_ (j := 6) rfl rfl, _, rfl, ite2 (fun _ => iteT (⟨_, rfl, _, rfl, _, rfl, _, rfl, thN _ goN⟩)) (fun _ => ⟨_, rfl, wp, _, rfl, (Wb.same s).at_ (j := 4) rfl rfl, _, rfl, hsc, _, rfl, ite2 (fun _ => ⟨_, rfl, _, rfl, _, rfl, _, rfl, thN _ goN⟩) (fun _ => ⟨rfl, s⟩)⟩)⟩
      clear s
      rintro σ G ⟨rfl, s⟩
      -- spreads
      refine ⟨fun σ G => σ = S ∧ Same Gb G, ?_, ?_⟩
      · refine ⟨_, rfl, rfl, _, rfl, ite2 (fun _ => ?_) (fun _ => ⟨rfl, s⟩)⟩
        refine ⟨_, rfl, _, rfl, _, rfl, by show 2 ≤ sizeLine; decide, fun e ne => ?_⟩
        have Pn := Pb.same' s
        refine ⟨p, e, (["up", "down"] : List Str).map V.str, _, rfl, .inl (.inl upd_same), Nat.succ_pos _, by show 2 ≤ 1000; decide, Pn.new ne, by omega, fun v G4 hv P4 F4 => ⟨by show 4 ≤ sizeLine; decide, fun t nt => ?_⟩⟩
        obtain ⟨wy, hwy, rfl⟩ := List.mem_map.mp hv
        have isw : isWay wy := by simpa [isWay] using hwy
        exact fin 3 [.str wy] G4 (by decide) ⟨wy, rfl, isw⟩ (fun v hv => by rw [List.mem_singleton.mp hv]; exact self) (P4.mono (by omega)) (Fb.trans ((frmS s).trans ((Frm.new ne).trans F4))) t nt
      clear s
      rintro σ G ⟨rfl, s⟩
      have Pn := Pb.same' s
      refine ⟨_, rfl, by show 5 ≤ sizeLine; decide, fun e ne => ?_⟩
      refine ⟨p, e, (["<=", "<=", ">=", ">=", "="] : List Str).map V.str, _, rfl, .inl (.inl upd_same), Nat.succ_pos _, by show 5 ≤ 1000; decide, Pn.new ne, by omega, fun v G4 hv P4 F4 => ?_⟩
      obtain ⟨sg, hsg, rfl⟩ := List.mem_map.mp hv
      have iss : isSign sg := by
        simp only [List.mem_cons, List.not_mem_nil, or_false] at hsg
        unfold isSign
        rcases hsg with e | e | e | e | e <;> simp [e]
      have FG4 := Fb.trans ((frmS s).trans ((Frm.new (o := .lst ((["<=", "<=", ">=", ">=", "="] : List Str).map V.str)) ne).trans F4))
      have last : ∀ (kd2 : Str) (G5 : Hp), Same G4 G5 → spNumCl [.ref p, .ref wp, .str kd2, .str g, .ref ra, .str sg] G5 Q E0 := fun kd2 G5 s5 => by
        have F5 := FG4.trans (frmS s5)
        have F50 := G3.trans F5
        have P5 := P4.same' s5
        refine ⟨p, wp, ra, n, fs, _, kd2, g, M, sg, rfl, hW0.frm F50 hP, hg, iss, hR.frm F5 P3, P5, by omega, fun t m G6 nt hS hG P6 F6 => ?_⟩
        exact q t m G6 (F50.free P5 nt) hS hG (P6.mono (by omega)) (F50.trans F6)
      refine ⟨_, rfl, _, rfl, _, rfl, by show 3 ≤ sizeLine; decide, fun e3 ne3 => ⟨e3, _, rfl, .inr (.inl (.inl upd_same)), rfl, rfl, _, rfl, ite2 (fun _ => ?_) (fun _ => ?_)⟩⟩
      · exact ⟨_, rfl, _, rfl, _, rfl, _, rfl, last kd _ (same_lay ne3)⟩
      · exact ⟨_, rfl, _, rfl, _, rfl, last "bound" _ (same_lay ne3)⟩
end
end OR

namespace OR
open PySem PySem.Spec PyProof.Rows L2
open TL (tl numL)
/-! ### the world -/
theorem Pen.ne_new {H0 : Hp} {p o : Addr} {m : Nat} (P0 : Pen H0 p m) (no : H0 o = none) : o ≠ p := fun e => by
  obtain ⟨kvs, h⟩ := P0.dict
  rw [e, h] at no
  cases no
theorem Pen.putAny {H0 G : Hp} {p o : Addr} {n m : Nat} {u : HO} (P0 : Pen H0 p m) (P : Pen G p n) (f : Frm p H0 G) (no : H0 o = none) : Pen (upd G o u) p n := by
  obtain ⟨c0, hc0, hcn⟩ := P0.cells
  obtain ⟨c, ns, k, l, h1, h2, h3⟩ := P
  obtain rfl := (f.ce c0 hc0).inj h1
  exact ⟨c0, ns, k, l, by rw [upd_ne (P0.ne_new no).symm]; exact h1, by rw [upd_ne (fun e => hcn (by rw [e]; exact no))]; exact h2, h3⟩
theorem Frm.putAny {H0 G : Hp} {p o : Addr} {m : Nat} {u : HO} (f : Frm p H0 G) (P0 : Pen H0 p m) (no : H0 o = none) : Frm p H0 (upd G o u) := ⟨fun b x e nb => by rw [upd_ne (ne_of_none e no)]; exact f _ _ e nb, fun c hc => by
  obtain ⟨k, l, e⟩ := f.ce c hc
  exact ⟨k, l, by rw [upd_ne (P0.ne_new no).symm]; exact e⟩⟩
def SRep (fs : List Str) (n : Int) : Rep CM := fun H x m => ∃ t, x = .ref t ∧ SpT H t m ∧ GoodM fs n m
theorem SRep.same {fs : List Str} {n : Int} {H H' : Hp} {x : V} {m : CM} (h : SRep fs n H x m) (s : Same H H') : SRep fs n H' x m := by
  obtain ⟨t, e, h1, h2⟩ := h
  exact ⟨t, e, h1.same s, h2⟩
theorem SRep.frm {fs : List Str} {n : Int} {H H' : Hp} {x : V} {m : CM} {p : Addr} {k : Nat} (h : SRep fs n H x m) (F : Frm p H H') (P : Pen H p k) : SRep fs n H' x m := by
  obtain ⟨t, e, h1, h2⟩ := h
  exact ⟨t, e, h1.frm F P, h2⟩
/-- the list of the told ones grows -/
theorem SpT.put {H : Hp} {t td : Addr} {m : CM} {xs : List V} {o : HO} (h : SpT H t m) (h0 : m.2.2.1 ≠ []) (hd : H td = some (.lst xs)) (hx : ∀ x ∈ xs, ∃ t' s r, x = .ref t' ∧ H t' = some (.tup (.str s :: r))) : SpT (upd H td o) t m := by
  obtain ⟨ra, M, h1, h2, h3, h4⟩ := h
  have n1 : t ≠ td := ne_of h1 hd (by intro z; cases z)
  have n2 : ra ≠ td := fun e => by
    subst e
    rw [h2] at hd
    injection hd with hd
    injection hd with hd
    cases M with
    | nil => exact h0 h4.symm
    | cons q M =>
      obtain ⟨t', s, r, e1, e2⟩ := hx (.ref q.1) (by rw [← hd]; exact List.mem_cons_self)
      injection e1 with e1
      rw [← e1, h3 q List.mem_cons_self] at e2
      injection e2 with e2
      injection e2 with e2
      injection e2 with e2
      cases e2
  exact ⟨ra, M, by rw [upd_ne n1]; exact h1, by rw [upd_ne n2]; exact h2, fun q hq => by rw [upd_ne (ne_of (h3 q hq) hd (by intro z; cases z))]; exact h3 q hq, h4⟩
theorem told_put {fs : List Str} {n : Int} {H : Hp} {td : Addr} {xs : List V} {ms : List CM} {o : HO} (h : All2 (SRep fs n H) xs ms) (hd : H td = some (.lst xs)) : All2 (SRep fs n (upd H td o)) xs ms := by
  have hx : ∀ x ∈ xs, ∃ t' s r, x = .ref t' ∧ H t' = some (.tup (.str s :: r)) := fun x hx => by
    obtain ⟨m, _, t, e, ⟨ra, M, h1, _⟩, _⟩ := h.mem hx
    exact ⟨t, _, _, e, h1⟩
  exact h.imp fun a b ⟨t, e, h1, h2⟩ => ⟨t, e, h1.put h2.ne hd hx, h2⟩
theorem one_put {fs : List Str} {n : Int} {H : Hp} {td : Addr} {xs : List V} {ms : List CM} {o : HO} {x : V} {m : CM} (h : All2 (SRep fs n H) xs ms) (hd : H td = some (.lst xs)) (hm : SRep fs n H x m) : SRep fs n (upd H td o) x m := by
  have hx : ∀ x ∈ xs, ∃ t' s r, x = .ref t' ∧ H t' = some (.tup (.str s :: r)) := fun x hx => by
    obtain ⟨m, _, t, e, ⟨ra, M, h1, _⟩, _⟩ := h.mem hx
    exact ⟨t, _, _, e, h1⟩
  obtain ⟨t, e, h1, h2⟩ := hm
  exact ⟨t, e, h1.put h2.ne hd hx, h2⟩
theorem WldX.put {p : Addr} {H : Hp} {wp : Addr} {n : Int} {fs : List Str} {wf an ln : Addr} {mute : V} {great free : Bool} {td : Addr} {ans : List Int} {lts : List Addr} {xs : List V} {o : HO} (h : WldX p H wp n fs wf an ln mute great free td ans lts) (hd : H td = some (.lst xs)) (n1 : wf ≠ td) (n2 : an ≠ td) : WldX p (upd H td o) wp n fs wf an ln mute great free td ans lts :=
  { h with
    d := by rw [upd_ne (ne_of h.d hd (by intro z; cases z))]; exact h.d
    f := by rw [upd_ne n1]; exact h.f
    a := by rw [upd_ne n2]; exact h.a
    l := by rw [upd_ne (ne_of h.l hd (by intro z; cases z))]; exact h.l
    lt := fun t ht => by
      obtain ⟨a, b, e, r⟩ := h.lt t ht
      exact ⟨a, b, by rw [upd_ne (ne_of e hd (by intro z; cases z))]; exact e, r⟩ }
/-- a world with its told clauses -/
def WldT (p : Addr) (H : Hp) (wp : Addr) (n : Int) (fs : List Str) (ms : List CM) : Prop := ∃ wf an ln mute great free td ans lts xs, WldX p H wp n fs wf an ln mute great free td ans lts ∧ H td = some (.lst xs) ∧ All2 (SRep fs n H) xs ms ∧ wf ≠ td ∧ an ≠ td
theorem WldT.wld {p : Addr} {H : Hp} {wp : Addr} {n : Int} {fs : List Str} {ms : List CM} (h : WldT p H wp n fs ms) : Wld p H wp n fs := by
  obtain ⟨a1, a2, a3, a4, a5, a6, a7, a8, a9, _, h, _⟩ := h
  exact ⟨a1, a2, a3, a4, a5, a6, a7, a8, a9, h⟩
theorem WldT.frm {p : Addr} {H H' : Hp} {wp : Addr} {n : Int} {fs : List Str} {ms : List CM} {k : Nat} (h : WldT p H wp n fs ms) (F : Frm p H H') (P : Pen H p k) : WldT p H' wp n fs ms := by
  obtain ⟨a1, a2, a3, a4, a5, a6, a7, a8, a9, xs, h1, h2, h3, h4⟩ := h
  exact ⟨a1, a2, a3, a4, a5, a6, a7, a8, a9, xs, h1.frm F P, F.lst P h2, h3.imp fun _ _ e => e.frm F P, h4⟩
theorem WldX.push {p : Addr} {G : Hp} {wp : Addr} {n : Int} {fs : List Str} {wf an ln : Addr} {mute : V} {great free : Bool} {td : Addr} {ans : List Int} {lts : List Addr} {xs : List V} {ms : List CM} {x : V} {m : CM} (h : WldX p G wp n fs wf an ln mute great free td ans lts) (hd : G td = some (.lst xs)) (hA : All2 (SRep fs n G) xs ms) (n1 : wf ≠ td) (n2 : an ≠ td) (hm : SRep fs n G x m) :
    WldX p (upd G td (.lst (xs ++ [x]))) wp n fs wf an ln mute great free td ans lts ∧ (upd G td (.lst (xs ++ [x]))) td = some (.lst (xs ++ [x])) ∧ All2 (SRep fs n (upd G td (.lst (xs ++ [x])))) (xs ++ [x]) (ms ++ [m]) :=
  ⟨h.put hd n1 n2, upd_same, (told_put hA hd).append (.cons (one_put hA hd hm) .nil)⟩
def spWorldOf : Sp := fun vs H Q _ => ∃ (p : Addr) (small : Bool) (m k : Nat), vs = [.ref p, .bl small, .int (m : Nat)] ∧ 2 ≤ m ∧ m ≤ 100 ∧ Pen H p k ∧ k ≤ 100000 ∧
  ∀ wp n fs ms H', H wp = none → WldT p H' wp n fs ms → 0 < ms.length → ms.length ≤ m + 1 → Pen H' p (k + 300 + 100 * m) → Frm p H H' → Q (.ref wp) H'
section
variable {P : Program} {w : World} {K : PySem.W.Frag} {mg : Str → Option Value} {base : Heap}
theorem scWW : FnScope ["_law_pen", "_law_small", "_law_most", "_law_last", "_law_words", "_law_anchors", "_law_k", "_law_lines", "_law_word", "_law_mute", "_law_world"] ["_law_pen", "_law_small", "_law_most"] (defScope sWorldOf) := ⟨rfl, rfl, rfl, by decide +kernel, rfl, by decide +kernel, by decide +kernel⟩
theorem ok_world {f : Addr} {fd : FuncData} (F : Fun K "_law_world_of" "_law_world_of" sWorldOf f fd) (B : Bd mg) (D : Cl P w K mg base 1 "_law_draw" ["_law_pen", "_law_many"] spDraw) (PI : Cl P w K mg base 2 "_law_pick" ["_law_pen", "_law_options"] (spPick K)) (WD : Cl P w K mg base 3 "_law_words_of" ["_law_pen", "_law_many"] spWordsOf)
    (ST : Cl P w K mg base 4 "_law_stretches" ["_law_pen", "_law_world", "_law_most"] spStr) (CO : Cl P w K mg base 5 "_law_clause_of" ["_law_pen", "_law_world"] spClOf) : FnOk P w K mg base CX0 6 f fd ["_law_pen", "_law_small", "_law_most"] spWorldOf := by
  refine F.ok scWW (fun vs H Q E h => ?_) (fun cdv A outer s H vs Q E hr h => ?_)
  · obtain ⟨_, _, _, _, rfl, _⟩ := h
    rfl
  · obtain ⟨p, small, m, k, rfl, hm2, hm, hP, hk, q⟩ := h
    have nd := scWW.nd
    have hu := hu_of hr
    refine ⟨_, pss_cons (ps_set (i := 3) nd rfl (.inl rfl) (pe_op op_add (pe_cl D hr (by decide) (by rfl) (pa_cons (pv 0) (pa_cons pe_int pa_nil))) (pe_cl D hr (by decide) (by rfl) (pa_cons (pv 0) (pa_cons pe_int pa_nil)))))
      (Evl.pss_cut (ps_if (pt_not (pt_val (pv 1)))
          (pss_one (ps_set (i := 3) nd rfl (.inl rfl) (pe_cl PI hr (by decide) (by rfl) (pa_cons (pv 0) (pa_cons (pe_lst (pa_cons (pv 3) (pa_cons (pe_op op_add pe_int (pe_cl D hr (by decide) (by rfl) (pa_cons (pv 0) (pa_cons pe_int pa_nil)))) (pa_cons (pe_op op_add (pe_op op_pow pe_int pe_int) (pe_cl D hr (by decide) (by rfl) (pa_cons (pv 0) (pa_cons pe_int pa_nil)))) (pa_cons (pe_op op_pow pe_int pe_int) (pa_cons (pe_op op_sub (pe_op op_pow pe_int pe_int) pe_int) pa_nil)))))) pa_nil)))))
          pss_nil)
      (pss_cons (ps_set (i := 4) nd rfl (.inl rfl) (pe_cl WD hr (by decide) (by rfl) (pa_cons (pv 0) (pa_cons (pe_cl PI hr (by decide) (by rfl) (pa_cons (pv 0) (pa_cons (pe_lst (pa_cons pe_int (pa_cons pe_int (pa_cons pe_int pa_nil)))) pa_nil))) pa_nil))))
      (pss_cons (ps_set (i := 5) nd rfl (.inl rfl) (pe_lst (pa_cons pe_int (pa_cons (pv 3) pa_nil))))
      (pss_cons (ps_for PassesOwn.never rfl (pi_range1 (by rfl) B.range (pa_cons pe_int pa_nil)) (pg_name (i := 6) nd rfl (.inl rfl))
          (pss_one (ps_if (pt_cmpR op_lt (pv 3) (pe_op op_pow pe_int pe_int) (nomark _))
              (pss_one (ps_expr (pe_bm PySem.F.plainAttrs_list PySem.F.slot_list_append PySem.F.type_list_append mt_append (pv 5) (pa_cons (pe_cl D hr (by decide) (by rfl) (pa_cons (pv 0) (pa_cons (pe_op op_add (pv 3) pe_int) pa_nil))) pa_nil))))
              (pss_one (ps_expr (pe_bm PySem.F.plainAttrs_list PySem.F.slot_list_append PySem.F.type_list_append mt_append (pv 5) (pa_cons (pe_op op_fdivW (pv 3) (pe_cl PI hr (by decide) (by rfl) (pa_cons (pv 0) (pa_cons (pe_lst (pa_cons pe_int (pa_cons pe_int (pa_cons pe_int (pa_cons pe_int (pa_cons (pe_op op_pow pe_int pe_int) (pa_cons (pe_op op_pow pe_int pe_int) (pa_cons (pe_op op_pow pe_int pe_int) pa_nil)))))))) pa_nil)))) pa_nil)))))))
      (pss_cons (ps_set (i := 7) nd rfl (.inl rfl) pe_dnewK)
      (pss_cons (ps_for PassesOwn.never rfl (pi_list (pv 4)) (pg_name (i := 8) nd rfl (.inl rfl))
          (pss_one (ps_dput hu (pv 7) (pv 8) (pe_tup (pa_cons (pe_cl PI hr (by decide) (by rfl) (pa_cons (pv 0) (pa_cons (pe_lst (pa_cons pe_int (pa_cons pe_int (pa_cons (pe_un un_neg pe_int) (pa_cons pe_int pa_nil))))) pa_nil))) (pa_cons (pe_op op_sub (pe_cl D hr (by decide) (by rfl) (pa_cons (pv 0) (pa_cons pe_int pa_nil))) pe_int) pa_nil))) rfl)))
      (Evl.pss_cut (ps_set (i := 9) nd rfl (.inl rfl) (pe_ifExp (PW.pt (pw_and (pt_cmpR op_eq (pe_callB call_len_seq (by rfl) B.len PySem.boot_len (pa_cons (pv 4) pa_nil)) pe_int (nomark _)) (pw_and1 (pt_cmpR op_eq (pe_cl D hr (by decide) (by rfl) (pa_cons (pv 0) (pa_cons pe_int pa_nil))) pe_int (nomark _))))) (pe_ix ix_list (pv 4) (pe_un un_neg pe_int) (fun _ _ => rfl)) pe_non))
      (pss_cons (ps_set (i := 10) nd rfl (.inl rfl) (pe_disp (pps_cons pe_str (pv 3) (pps_cons pe_str (pv 4) (pps_cons pe_str (pv 5) (pps_cons pe_str (pv 7) (pps_cons pe_str (pv 9) (pps_cons pe_str (pe_cmpR op_gt (pv 3) pe_int (by rfl)) (pps_cons pe_str (pe_cmpR op_eq (pe_cl D hr (by decide) (by rfl) (pa_cons (pv 0) (pa_cons pe_int pa_nil))) pe_int (by rfl)) (pps_cons pe_str (pe_lst pa_nil) pps_nil)))))))) rfl rfl (by simp) (by decide)))
      (Evl.pss_cut (ps_if (pt_cmpR op_gt (pe_cl D hr (by decide) (by rfl) (pa_cons (pv 0) (pa_cons pe_int pa_nil))) pe_int (nomark _))
          (pss_one (ps_expr (pe_bm PySem.F.plainAttrs_list PySem.F.slot_list_append PySem.F.type_list_append mt_append (pe_dget hu (pv 10) pe_str (fun _ _ => rfl)) (pa_cons (pe_tup (pa_cons pe_str (pa_cons (pe_ix ix_list (pv 4) pe_int (fun _ _ => rfl)) (pa_cons (pe_cl ST hr (by decide) (by rfl) (pa_cons (pv 0) (pa_cons (pv 10) (pa_cons pe_int pa_nil)))) pa_nil)))) pa_nil))))
          pss_nil)
      (pss_cons (ps_for PassesOwn.never rfl (pi_range1 (by rfl) B.range (pa_cons (pe_op op_add pe_int (pe_cl D hr (by decide) (by rfl) (pa_cons (pv 0) (pa_cons (pe_op op_sub (pv 2) pe_int) pa_nil)))) pa_nil)) (pg_name (i := 6) nd rfl (.inl rfl))
          (pss_one (ps_expr (pe_bm PySem.F.plainAttrs_list PySem.F.slot_list_append PySem.F.type_list_append mt_append (pe_dget hu (pv 10) pe_str (fun _ _ => rfl)) (pa_cons (pe_cl CO hr (by decide) (by rfl) (pa_cons (pv 0) (pa_cons (pv 10) pa_nil))) pa_nil)))))
      (pss_one (ps_ret (pv 10))))))))))))), ?_⟩
    have pw6 : CPow 10 6 := ⟨by decide, by decide, by decide⟩
    have pw7 : CPow 10 7 := ⟨by decide, by decide, by decide⟩
    have pw15 : CPow 10 15 := ⟨by decide, by decide, by decide⟩
    have pw29 : CPow 10 29 := ⟨by decide, by decide, by decide⟩
    have pw30 : CPow 10 30 := ⟨by decide, by decide, by decide⟩
    have eL : lastP = 10 ^ 30 := rfl
    -- last
    refine ⟨_, rfl, p, 9, _, rfl, by decide, by decide, hP, by omega, fun r1 H1 r10 r11 P1 F1 => ?_⟩
    refine ⟨_, rfl, p, 4, _, rfl, by decide, by decide, P1, by omega, fun r2 H2 r20 r21 P2 F2 => ⟨_, _, rfl, rfl, ?_⟩⟩
    have G2 := F1.trans F2
    refine ⟨fun σ G => ∃ n : Int, 0 ≤ n ∧ n ≤ lastP ∧ σ = [some (.ref p), some (.bl small), some (.int (m : Nat)), some (.int n), none, none, none, none, none, none, none] ∧ Pen G p (k + 5) ∧ Frm p H G, ?_, ?_⟩
    · refine ⟨_, rfl, _, rfl, ite2 (fun _ => ?_) (fun _ => ⟨r1 + r2, by omega, by omega, rfl, P2.mono (by omega), G2⟩)⟩
      refine ⟨_, rfl, _, rfl, _, rfl, p, 60, _, rfl, by decide, by decide, P2, by omega, fun r3 H3 r30 r31 P3 F3 => ⟨_, _, rfl, rfl, _, _, rfl, rfl, pw6, _, rfl, p, 9, _, rfl, by decide, by decide, P3, by omega, fun r4 H4 r40 r41 P4 F4 => ⟨_, _, rfl, rfl, _, _, rfl, rfl, pw30, _, _, rfl, rfl, pw30, _, _, rfl, rfl, by show 5 ≤ sizeLine; decide, fun e ne => ?_⟩⟩⟩
      refine ⟨p, e, _, _, rfl, .inl (.inl upd_same), Nat.succ_pos _, by show 5 ≤ 1000; decide, P4.new ne, by omega, fun v H5 hv P5 F5 => ?_⟩
      obtain ⟨n, rfl, n0, n1⟩ : ∃ n : Int, v = .int n ∧ 0 ≤ n ∧ n ≤ lastP := by
        simp only [List.mem_cons, List.not_mem_nil, or_false] at hv
        rcases hv with e | e | e | e | e <;> subst e
        · exact ⟨_, rfl, by omega, by omega⟩
        · exact ⟨_, rfl, by omega, by omega⟩
        · refine ⟨_, rfl, ?_, ?_⟩
          · show (0 : Int) ≤ 10 ^ 6 + r4
            omega
          · show (10 : Int) ^ 6 + r4 ≤ lastP
            omega
        · exact ⟨_, rfl, by decide, by decide⟩
        · exact ⟨_, rfl, by decide, by decide⟩
      exact ⟨n, n0, n1, rfl, P5.mono (by omega), (G2.trans (F3.trans F4)).trans ((Frm.new ne).trans F5)⟩
    rintro σ G3 ⟨n, n0, n1, rfl, P3, F3⟩
    -- words
    refine ⟨_, rfl, _, rfl, by show 3 ≤ sizeLine; decide, fun e ne => ?_⟩
    refine ⟨p, e, ([1, 2, 2] : List Int).map V.int, _, rfl, .inl (.inl upd_same), Nat.succ_pos _, by show 3 ≤ 1000; decide, P3.new ne, by omega, fun v H4 hv P4 F4 => ?_⟩
    obtain ⟨cnt, rfl, c1, c2⟩ : ∃ c : Nat, v = .int (c : Nat) ∧ 1 ≤ c ∧ c ≤ 2 := by
      obtain ⟨z, hz, rfl⟩ := pickInt hv
      simp only [List.mem_cons, List.not_mem_nil, or_false] at hz
      rcases hz with e | e | e <;> subst e
      · exact ⟨1, rfl, by decide, by decide⟩
      · exact ⟨2, rfl, by decide, by decide⟩
      · exact ⟨2, rfl, by decide, by decide⟩
    have G4 := F3.trans ((Frm.new (p := p) (o := .lst (([1, 2, 2] : List Int).map V.int)) ne).trans F4)
    refine ⟨p, cnt, _, rfl, by omega, P4, by omega, fun wl ws H5 nwl hwl lws hws P5 F5 => ?_⟩
    have G5 := G4.trans F5
    have nwl0 : H wl = none := G4.free P4 nwl
    -- anchors
    refine ⟨_, rfl, by show 2 ≤ sizeLine; decide, fun an nan => ?_⟩
    have nan0 : H an = none := G5.free P5 nan
    have san := same_lay (o := .lst [.int 0, .int n]) nan
    have wan : wl ≠ an := ne_of_none hwl nan
    refine ⟨4, rfl, by decide, by decide, for_range (lo := 0) (n := 4) (fun i σ G => ∃ ans : List Int, (∃ s6, σ = [some (.ref p), some (.bl small), some (.int (m : Nat)), some (.int n), some (.ref wl), some (.ref an), s6, none, none, none, none]) ∧ G an = some (.lst (ans.map V.int)) ∧ G wl = some (.lst (ws.map V.str)) ∧ ans.length = 2 + i ∧ (∀ z ∈ ans, 0 ≤ z ∧ z ≤ n) ∧ Pen G p (k + 46 + i) ∧ Frm p H G)
      ⟨[0, n], ⟨none, rfl⟩, upd_same, san _ _ hwl, rfl, (fun z hz => by
        simp only [List.mem_cons, List.not_mem_nil, or_false] at hz
        omega), (P5.same' san).mono (by omega), G5.trans (frmS san)⟩ ?_ ?_⟩
    · rintro i σ G hi ⟨ans, ⟨s6, rfl⟩, hG, hw, la, hans, PG, FG⟩
      have push : ∀ (z : Int) (G' : Hp), 0 ≤ z → z ≤ n → Pen G' p (k + 46 + i + 1) → Frm p G G' → ∃ ans' : List Int, (∃ s6, [some (V.ref p), some (.bl small), some (.int (m : Nat)), some (.int n), some (.ref wl), some (.ref an), some (.int (0 + (i : Int))), none, none, none, none] = [some (.ref p), some (.bl small), some (.int (m : Nat)), some (.int n), some (.ref wl), some (.ref an), s6, none, none, none, none]) ∧ (upd G' an (.lst (ans.map V.int ++ [.int z]))) an = some (.lst (ans'.map V.int)) ∧ (upd G' an (.lst (ans.map V.int ++ [.int z]))) wl = some (.lst (ws.map V.str)) ∧ ans'.length = 2 + (i + 1) ∧ (∀ z ∈ ans', 0 ≤ z ∧ z ≤ n) ∧ Pen (upd G' an (.lst (ans.map V.int ++ [.int z]))) p (k + 46 + (i + 1)) ∧ Frm p H (upd G' an (.lst (ans.map V.int ++ [.int z]))) := fun z G' z0 z1 P' F' => by
        have FH := FG.trans F'
        refine ⟨ans ++ [z], ⟨_, rfl⟩, by rw [upd_same, List.map_append]; rfl, by rw [upd_ne wan]; exact F'.lst PG hw, by rw [List.length_append, la]; rfl, fun y hy => ?_, (hP.putAny P' FH nan0).mono (by omega), FH.putAny hP nan0⟩
        rcases List.mem_append.mp hy with c | c
        · exact hans y c
        · rw [List.mem_singleton.mp c]; exact ⟨z0, z1⟩
      refine ⟨_, rfl, _, _, rfl, rfl, pw7, _, _, rfl, rfl, _, rfl, ite2 (fun c => ?_) (fun _ => ?_)⟩
      · have hc : n < 10 ^ 7 := of_decide_eq_true c
        refine ⟨_, rfl, .inl ⟨rfl, _, .inl (.inl hG)⟩, _, rfl, _, rfl, _, _, rfl, rfl, p, n + 1, _, rfl, by omega, ?_, PG, by omega, fun r G' r0 r1 P' F' => ⟨an, _, _, rfl, rfl, F'.lst PG hG, small1000 (by rw [List.length_map]; omega), push r G' r0 (by omega) P' F'⟩⟩
        exact Nat.lt_of_le_of_lt (show (n + 1).natAbs ≤ 10 ^ 8 by omega) (by decide)
      · refine ⟨_, rfl, .inl ⟨rfl, _, .inl (.inl hG)⟩, _, rfl, _, rfl, _, _, rfl, rfl, pw6, _, _, rfl, rfl, pw15, _, _, rfl, rfl, pw29, by show 7 ≤ sizeLine; decide, fun e ne => ?_⟩
        refine ⟨p, e, ([1, 2, 3, 10, 10 ^ 6, 10 ^ 15, 10 ^ 29] : List Int).map V.int, _, rfl, .inl (.inl upd_same), Nat.succ_pos _, by show 7 ≤ 1000; decide, PG.new ne, by omega, fun v G' hv P' F' => ?_⟩
        obtain ⟨y, hy, rfl⟩ := pickInt hv
        have yb : 0 < y ∧ y ≤ 10 ^ 29 := by
          simp only [List.mem_cons, List.not_mem_nil, or_false] at hy
          rcases hy with e | e | e | e | e | e | e <;> subst e <;> decide
        have FF := (Frm.new (p := p) (o := .lst (([1, 2, 3, 10, 10 ^ 6, 10 ^ 15, 10 ^ 29] : List Int).map V.int)) ne).trans F'
        refine ⟨_, _, rfl, rfl, div200 yb.1 (Nat.lt_of_le_of_lt (show y.natAbs ≤ 10 ^ 29 by omega) (by decide)) _, an, _, _, rfl, rfl, FF.lst PG hG, small1000 (by rw [List.length_map]; omega), push (n / y) G' (Int.ediv_nonneg n0 (by omega)) (Int.ediv_le_self _ n0) P' FF⟩
    rintro σ G6 ⟨ans, ⟨s6, rfl⟩, han, hwl6, la, hans, P6, F6⟩
    -- lines
    intro ln nln
    have nln0 : H ln = none := F6.free P6 nln
    have sln := same_lay (o := .dK []) nln
    refine ⟨_, rfl, wl, rfl, ⟨_, .inl (.inl (sln _ _ hwl6))⟩, for_list (K := K) (a := wl) (xs := ws.map V.str) (fun i σ G => ∃ lts : List Addr, (∃ s8, σ = [some (.ref p), some (.bl small), some (.int (m : Nat)), some (.int n), some (.ref wl), some (.ref an), s6, some (.ref ln), s8, none, none]) ∧ G ln = some (.dK (dkv ((ws.take i).zip (lts.map V.ref)))) ∧ lts.length = i ∧ (∀ t ∈ lts, ∃ a b : Int, G t = some (.tup [.int a, .int b]) ∧ -3 ≤ a ∧ a ≤ 3 ∧ -9 ≤ b ∧ b ≤ 9) ∧ G an = some (.lst (ans.map V.int)) ∧ G wl = some (.lst (ws.map V.str)) ∧ Pen G p (k + 50 + 2 * i) ∧ Frm p H G)
      ⟨[], ⟨none, rfl⟩, upd_same, rfl, (fun _ z => nomatch z), sln _ _ han, sln _ _ hwl6, (P6.same' sln).mono (by omega), F6.trans (frmS sln)⟩ (fun i σ G _ ⟨_, _, _, _, _, _, h, _⟩ => .inl (.inl h)) ?_ ?_⟩
    · rintro i y σ G hy ⟨lts, ⟨s8, rfl⟩, hln, ll, hlt, hanG, hwlG, PG, FG⟩
      rw [List.getElem?_map] at hy
      obtain ⟨x, hx, rfl⟩ := Option.map_eq_some_iff.mp hy
      have hil : i < ws.length := (List.getElem?_eq_some_iff.mp hx).1
      have lnp : ln ≠ p := hP.ne_new nln0
      refine ⟨_, rfl, _, rfl, by show 4 ≤ sizeLine; decide, fun e ne => ?_⟩
      refine ⟨p, e, ([0, 1, -1, 2] : List Int).map V.int, _, rfl, .inl (.inl upd_same), Nat.succ_pos _, by show 4 ≤ 1000; decide, PG.new ne, by omega, fun v G1 hv P1' F1' => ?_⟩
      obtain ⟨a, ha, rfl⟩ := pickInt hv
      have ab : -3 ≤ a ∧ a ≤ 3 := by
        simp only [List.mem_cons, List.not_mem_nil, or_false] at ha
        omega
      refine ⟨_, rfl, p, 9, _, rfl, by decide, by decide, P1', by omega, fun b G2' b0 b1 P2' F2' => ⟨_, _, rfl, rfl, by show 2 ≤ sizeLine; decide, fun t nt => ?_⟩⟩
      have FF := ((Frm.new (p := p) (o := .lst (([0, 1, -1, 2] : List Int).map V.int)) ne).trans F1').trans F2'
      have st := same_lay (o := .tup [.int a, .int (b - 4)]) nt
      have hln2 := st _ _ (FF _ _ hln lnp)
      have F3' := FF.trans (frmS (p := p) st)
      have FH := FG.trans F3'
      have P3' := P2'.same' st
      have lk : ((ws.take i).zip (lts.map V.ref)).lookup x = none := lookup_none fun z hz e => fresh_at hws.ne hx (by rw [← e]; exact zip_fst_sub hz)
      have ez : (ws.take i).zip (lts.map V.ref) ++ [(x, .ref t)] = (ws.take (i + 1)).zip ((lts ++ [t]).map V.ref) := by
        rw [List.take_add_one, hx, List.map_append, List.zip_append (by rw [List.length_take, List.length_map, ll]; omega)]
        rfl
      have lz : (dkv ((ws.take i).zip (lts.map V.ref))).length < sizeLine := by
        refine small1000 ?_
        unfold dkv
        rw [List.length_map, List.length_zip, List.length_map, ll]
        omega
      refine ⟨_, rfl, _, rfl, ln, _, rfl, dp hln2 (put_dkv lk) lz, lts ++ [t], ⟨_, rfl⟩, by rw [upd_same, ez], by rw [List.length_append, ll]; rfl, fun z hz => ?_, ?_, ?_, (hP.putAny P3' FH nln0).mono (by omega), FH.putAny hP nln0⟩
      · rcases List.mem_append.mp hz with c | c
        · obtain ⟨a', b', e', r'⟩ := hlt z c
          have e2 := F3'.at_ _ _ e' (by obtain ⟨kvs, hpd⟩ := PG.dict; exact ne_of e' hpd (by intro z; cases z))
          exact ⟨a', b', by rw [upd_ne (ne_of e2 hln2 (by intro z; cases z))]; exact e2, r'⟩
        · rw [List.mem_singleton.mp c]
          exact ⟨a, b - 4, by rw [upd_ne (ne_of upd_same hln2 (by intro z; cases z))]; exact upd_same, ab.1, ab.2, by omega, by omega⟩
      · have e2 := F3'.lst PG hanG
        rw [upd_ne (ne_of e2 hln2 (by intro z; cases z))]; exact e2
      · have e2 := F3'.lst PG hwlG
        rw [upd_ne (ne_of e2 hln2 (by intro z; cases z))]; exact e2
    rintro σ G7 ⟨lts, ⟨s8, rfl⟩, hln, ll, hlt, hanG, hwlG, P7, F7⟩
    rw [List.length_map] at ll P7
    rw [List.length_map, List.take_of_length_le (Nat.le_refl _)] at hln
    have lw2 : ws.length ≤ 2 := by omega
    have lnp : ln ≠ p := hP.ne_new nln0
    -- mute
    refine ⟨fun σ G => ∃ mute : V, (mute = .non ∨ ∃ g, mute = .str g) ∧ σ = [some (.ref p), some (.bl small), some (.int (m : Nat)), some (.int n), some (.ref wl), some (.ref an), s6, some (.ref ln), s8, some mute, none] ∧ Pen G p (k + 55) ∧ Frm p G7 G, ?_, ?_⟩
    · refine ⟨_, rfl, wl, _, rfl, .inl (.inl (.inl hwlG)), rfl, _, rfl, ite2 (fun _ => ?_) (fun _ => iteF ⟨.non, .inl rfl, rfl, P7.mono (by omega), Frm.refl _ _⟩)⟩
      refine ⟨_, rfl, p, 4, _, rfl, by decide, by decide, P7, by omega, fun r G8 _ _ P8 F8 => ⟨rfl, _, rfl, ite2 (fun _ => ?_) (fun _ => ⟨.non, .inl rfl, rfl, P8.mono (by omega), F8⟩)⟩⟩
      have hne : ws ≠ [] := fun e => by rw [e] at lws; simp at lws; omega
      obtain ⟨ini, y, ey⟩ : ∃ ini y, ws = ini ++ [y] := ⟨_, _, (List.dropLast_concat_getLast hne).symm⟩
      refine ⟨_, rfl, 1, rfl, wl, _, -1, .str y, rfl, rfl, .inl (.inl (F8.lst P7 hwlG)), ?_, _, .inr ⟨_, rfl⟩, rfl, P8.mono (by omega), F8⟩
      rw [ey, List.map_append]
      exact atI_last _ _
    rintro σ G8 ⟨mute, hmu, rfl, P8, F8⟩
    -- the world
    intro wp nwp
    have swp := same_lay (o := .dK []) nwp
    have P8' := P8.same' swp
    have wpp : wp ≠ p := P8.ne_new nwp
    refine ⟨_, rfl, _, rfl, _, rfl, _, rfl, _, rfl, _, rfl, _, _, rfl, rfl, _, rfl, p, 4, _, rfl, by decide, by decide, P8', by omega, fun r G9 r0 r1 P9 F9 => ⟨rfl, Nat.zero_le _, fun td ntd => ?_⟩⟩
    have std := same_lay (o := .lst []) ntd
    have hwp9 : (upd G9 td (.lst [])) wp = some (.dK []) := std _ _ (F9 _ _ upd_same wpp)
    refine ⟨hwp9, dkv (wKv n wl an ln mute (decide (n > 100)) (decide (V.int r = V.int 0)) td), rfl, by show 8 ≤ 15; decide, ?_⟩
    rw [merge_dkv (l := wKv n wl an ln mute (decide (n > 100)) (decide (V.int r = V.int 0)) td) (zip_nodup wNodup)]
    have FH8 := F7.trans F8
    have nwp0 : H wp = none := FH8.free P8 nwp
    have G89 : Frm p G8 (upd G9 td (.lst [])) := ((frmS (p := p) swp).trans F9).trans (frmS std)
    have F7' : Frm p G7 (upd G9 td (.lst [])) := F8.trans G89
    have FH9 := F7.trans F7'
    have ntd0 : H td = none := (F7.trans (F8.trans ((frmS (p := p) swp).trans F9))).free P9 ntd
    have keep : ∀ b o, G7 b = some o → (∀ kvs, o ≠ .dK kvs) → (upd (upd G9 td (.lst [])) wp (.dK (dkv (wKv n wl an ln mute (decide (n > 100)) (decide (V.int r = V.int 0)) td)))) b = some o := fun b o e ho => by
      obtain ⟨kvs, hpd⟩ := P7.dict
      have e2 := F7' _ _ e (ne_of e hpd (ho _))
      rw [upd_ne (ne_of e2 hwp9 (ho _))]
      exact e2
    have hW0 : WldX p (upd (upd G9 td (.lst [])) wp (.dK (dkv (wKv n wl an ln mute (decide (n > 100)) (decide (V.int r = V.int 0)) td)))) wp n ws wl an ln mute (decide (n > 100)) (decide (V.int r = V.int 0)) td ans lts := by
      have nlw : ln ≠ wp := fun e => by
        have := F8 _ _ hln lnp
        rw [e, nwp] at this
        cases this
      exact {
        ne := wpp
        ne2 := lnp
        d := upd_same
        f := keep _ _ hwlG (fun _ z => nomatch z)
        a := keep _ _ hanG (fun _ z => nomatch z)
        a0 := by omega
        a1 := by omega
        ab := hans
        l := by rw [upd_ne nlw]; exact F7' _ _ hln lnp
        ll := ll
        lt := fun t ht => by
          obtain ⟨a, b, e, r⟩ := hlt t ht
          exact ⟨a, b, keep _ _ e (fun _ z => nomatch z), r⟩
        mu := hmu
        fw := hws
        f0 := by omega
        f2 := lw2
        n0 := n0
        n1 := n1 }
    have nwt : td ≠ wp := fun e => by
      have h9 := F9 _ _ (upd_same (H := G8) (a := wp) (o := .dK [])) wpp
      rw [← e, ntd] at h9
      cases h9
    have nlt : wl ≠ td := by
      have h9 := F9.lst P8' (swp _ _ (F8.lst P7 hwlG))
      exact ne_of_none h9 ntd
    have nat_ : an ≠ td := by
      have h9 := F9.lst P8' (swp _ _ (F8.lst P7 hanG))
      exact ne_of_none h9 ntd
    have htd0 : (upd (upd G9 td (.lst [])) wp (.dK (dkv (wKv n wl an ln mute (decide (n > 100)) (decide (V.int r = V.int 0)) td)))) td = some (.lst []) := by
      rw [upd_ne nwt]
      exact upd_same
    have P10 : Pen (upd (upd G9 td (.lst [])) wp (.dK (dkv (wKv n wl an ln mute (decide (n > 100)) (decide (V.int r = V.int 0)) td)))) p (k + 56) := hP.putAny (P9.same' std) FH9 nwp0
    have F10 : Frm p H (upd (upd G9 td (.lst [])) wp (.dK (dkv (wKv n wl an ln mute (decide (n > 100)) (decide (V.int r = V.int 0)) td)))) := FH9.putAny hP nwp0
    generalize upd (upd G9 td (.lst [])) wp (.dK (dkv (wKv n wl an ln mute (decide (n > 100)) (decide (V.int r = V.int 0)) td))) = G10 at hW0 htd0 P10 F10
    generalize decide (n > 100) = gr at hW0
    generalize decide (V.int r = V.int 0) = fr at hW0
    clear keep G89 F7' FH9 hwp9 std ntd F9 P9 swp P8' FH8
    -- the first clause
    refine ⟨fun σ G => ∃ (xs : List V) (ms : List CM), σ = [some (.ref p), some (.bl small), some (.int (m : Nat)), some (.int n), some (.ref wl), some (.ref an), s6, some (.ref ln), s8, some mute, some (.ref wp)] ∧ (WldX p G wp n ws wl an ln mute gr fr td ans lts ∧ G td = some (.lst xs) ∧ All2 (SRep ws n G) xs ms) ∧ ms.length ≤ 1 ∧ Pen G p (k + 100) ∧ Frm p H G, ?_, ?_⟩
    · refine ⟨_, rfl, p, 3, _, rfl, by decide, by decide, P10, by omega, fun r G11 _ _ P11 F11 => ⟨_, _, rfl, rfl, _, rfl, ite2 (fun _ => ?_) (fun _ => ?_)⟩⟩
      · have W11 := hW0.frm F11 P10
        have htd11 := F11.lst P10 htd0
        have h0 : 0 < ws.length := by omega
        refine ⟨_, rfl, wp, _, rfl, W11.at_ (j := 7) rfl rfl, .inl ⟨rfl, _, .inl (.inl htd11)⟩, _, rfl, wl, _, 0, .str ws[0], rfl, rfl, .inl (.inl W11.f), ?_, _, rfl, _, rfl, p, wp, n, ws, _, 2, rfl, ⟨_, _, _, _, _, _, _, _, _, W11⟩, by decide, by decide, P11, by omega, fun ra M G12 _ hra hM hN hb hM0 hM6 P12 F12 => ⟨by show 3 ≤ sizeLine; decide, fun t nt => ?_⟩⟩
        · exact atI_nat (j := 0) (by rw [List.getElem?_map, List.getElem?_eq_getElem h0]; rfl)
        · have st := same_lay (o := .tup [.str "answers", .str ws[0], .ref ra]) nt
          have hR := (⟨hra, hM, hN, hb, hM0, hM6⟩ : RowsAt G12 ra n M).same st
          have W13 := (W11.frm F12 P11).same st
          have htd13 := st _ _ (F12.lst P11 htd11)
          have P13 := P12.same' st
          have F13 := ((F10.trans F11).trans F12).trans (frmS st)
          have hm1 : SRep ws n (upd G12 t (.tup [.str "answers", .str ws[0], .ref ra])) (.ref t) (0, ws[0], rws M, []) := ⟨t, rfl, ⟨ra, M, upd_same, hR.at_, hR.rows, rfl⟩, ⟨by show 0 < 7; decide, List.getElem_mem h0, rfl, fun v hv => ⟨ws[0], List.getElem_mem h0, List.mem_singleton.mp hv⟩, hR.nf, hR.bd, fun e => hR.ne (List.map_eq_nil_iff.mp e), by show (rws M).length ≤ 6; rw [rws_len]; exact hR.len⟩⟩
          exact ⟨td, _, _, rfl, rfl, htd13, small1000 (Nat.zero_le _), _, _, rfl, W13.push htd13 .nil nlt nat_ hm1, Nat.le_refl _, (hP.putAny P13 F13 ntd0).mono (by omega), F13.putAny hP ntd0⟩
      · exact ⟨[], [], rfl, ⟨hW0.frm F11 P10, F11.lst P10 htd0, .nil⟩, Nat.zero_le _, P11.mono (by omega), F10.trans F11⟩
    rintro σ G11 ⟨xs, ms, rfl, ⟨W11, htd11, hA11⟩, lm, P11, F11⟩
    -- the others
    refine ⟨_, rfl, _, rfl, _, _, rfl, rfl, p, (m : Nat) - 1, _, rfl, by omega, ?_, P11, by omega, fun r G12 r0 r1 P12 F12 => ⟨_, _, rfl, rfl, _, rfl, by omega, by omega, for_range (lo := 0) (n := (2 + r).toNat) (fun i σ G => ∃ (xs : List V) (ms : List CM), (∃ s6, σ = [some (.ref p), some (.bl small), some (.int (m : Nat)), some (.int n), some (.ref wl), some (.ref an), s6, some (.ref ln), s8, some mute, some (.ref wp)]) ∧ (WldX p G wp n ws wl an ln mute gr fr td ans lts ∧ G td = some (.lst xs) ∧ All2 (SRep ws n G) xs ms) ∧ i ≤ ms.length ∧ ms.length ≤ 1 + i ∧ Pen G p (k + 101 + 100 * i) ∧ Frm p H G)
      ⟨xs, ms, ⟨_, rfl⟩, ⟨W11.frm F12 P11, F12.lst P11 htd11, hA11.imp fun _ _ e => e.frm F12 P11⟩, Nat.zero_le _, lm, P12, F11.trans F12⟩ ?_ ?_⟩⟩
    · exact Nat.lt_of_le_of_lt (show ((m : Nat) - 1 : Int).natAbs ≤ 100 by omega) (by decide)
    · rintro i σ G hi ⟨xs, ms, ⟨s6, rfl⟩, ⟨WG, htd, hA⟩, l1, l2, PG, FG⟩
      refine ⟨_, rfl, wp, _, rfl, WG.at_ (j := 7) rfl rfl, .inl ⟨rfl, _, .inl (.inl htd)⟩, _, rfl, _, rfl, p, wp, n, ws, _, rfl, ⟨_, _, _, _, _, _, _, _, _, WG⟩, PG, by omega, fun t m' G' nt hS hG P' F' => ?_⟩
      have FH := FG.trans F'
      have htd' := F'.lst PG htd
      have lxs : xs.length = ms.length := hA.length
      exact ⟨td, _, _, rfl, rfl, htd', small1000 (by omega), _, _, ⟨_, rfl⟩, (WG.frm F' PG).push htd' (hA.imp fun _ _ e => e.frm F' PG) nlt nat_ ⟨t, rfl, hS, hG⟩, by rw [List.length_append]; exact Nat.succ_le_succ l1, by rw [List.length_append]; show ms.length + 1 ≤ _; omega, (hP.putAny P' FH ntd0).mono (by omega), FH.putAny hP ntd0⟩
    · rintro σ G ⟨xs, ms, ⟨s6, rfl⟩, ⟨WG, htd, hA⟩, l1, l2, PG, FG⟩
      exact ⟨_, rfl, q wp n ws ms G nwp0 ⟨_, _, _, _, _, _, _, _, _, xs, WG, htd, hA, nlt, nat_⟩ (by omega) (by omega) (PG.mono (by omega)) FG⟩
end
end OR

namespace OR
open PySem PySem.Spec PyProof.Rows L2
open TL (tl numL)
structure CMk (P : Program) (w : World) (K : PySem.W.Frag) (mg : Str → Option Value) (base : Heap) (C : Nat → Addr) (i : Nat) (ps : List Str) : Prop where
  made : ∃ f fd, Mk K (C i) f ∧ FnOk P w K mg base CX0 4 f fd ps (spCInit C i) ∧ Binds K fd ps []
  mgC : mg (clsName i) = some (.ref (C i))
def tMkC (C : Nat → Addr) (i : Nat) (t : TA) : TE := fun σ H Q => t σ H fun vs H1 => ∃ (f : Str) (pl : Addr) (x : List V), vs = .str f :: .ref pl :: x ∧ Word f ∧ WF i f x ∧ ∀ z dx H', H1 z = none → H' z = some (.ins (C i) dx (cFl i f pl x)) → Same H1 H' → Q (.ref z) H'
theorem pe_mkC {X : Cx} {C : Nat → Addr} {i j : Nat} {ps : List Str} {nm : Str} {e : Expr} {es : List Expr} {t : TA} {p pos : Pos} (M : CMk X.prog X.w X.K X.mg X.base C i ps) (hn : clsName i = nm) (hr : Room j X.A) (hj : 5 ≤ j) (hg : Gl X nm) (ha : PA X (e :: es) t) (hd : (nm == ("__debug__" : Str)) = false := by decide)
    (he : starEach (e :: es) X.env = (false, eval e X.env) :: starEach es X.env := by rfl) (hpl : (backTo pos (starEach es X.env)).any (·.1) = false := by rfl) : PE X (.Call (.Name nm p) (e :: es) [] pos) (tMkC C i t) := by
  subst hn
  obtain ⟨f, fd, mk, F, hb⟩ := M.made
  refine ⟨fun pins s σ H Q I h => ?_⟩
  refine wpAny_Call_Name_kw (ld_glob I hg M.mgC ?_ hd)
  refine PySem.W.callWith_K (h₀ := X.base) I.ok.mod.kin mk.kp (thn (ha.run pos pins s σ H _ I h) fun us s1 ⟨vs, H1, I1, r, q⟩ => ⟨I1.kIn, ?_⟩) he hpl
  obtain ⟨f1, pl, x, rfl, hw, wf, q⟩ := q
  refine run_make mk F (hr.mono hj) hb .nil pass0 I1 r fun z dx nz ndx nex => ?_
  refine ⟨z, dx, f1, pl, x, by rw [List.append_nil], hw, wf, upd_same, fun H' hx hs => ⟨rfl, q z dx H' nz hx fun c o e => ?_⟩⟩
  have ncz : c ≠ z := ne_of_none e nz
  refine hs c o ?_ ncz
  rw [upd_ne ncz, upd_ne (ne_of_none e ndx)]
  exact e
/-! ### the clause of a tuple -/
theorem kinds7' {i : Nat} (h : i < 7) : i = 0 ∨ i = 1 ∨ i = 2 ∨ i = 3 ∨ i = 4 ∨ i = 5 ∨ i = 6 := by omega
def spMade (CP : Addr) (C : Nat → Addr) : Sp := fun vs H Q _ => ∃ (t : Addr) (m : CM) (fs : List Str) (n : Int), vs = [.ref t] ∧ SpT H t m ∧ GoodM fs n m ∧ Word m.2.1 ∧ n ≤ lastP ∧ ∀ z H', CRep CP C H' (.ref z) m → Same H H' → Q (.ref z) H'
section
variable {P : Program} {w : World} {K : PySem.W.Frag} {mg : Str → Option Value} {base : Heap} {C : Nat → Addr} {CP : Addr}
theorem scMO : FnScope ["_law_told", "_law_kind", "_law_f", "_law_places"] ["_law_told"] (defScope sMadeOf) := ⟨rfl, rfl, rfl, by decide +kernel, rfl, by decide +kernel, by decide +kernel⟩
theorem ok_made {f : Addr} {fd : FuncData} (F : Fun K "_law_made_of" "_law_made_of" sMadeOf f fd) (B : Bd mg) (PM : PMk' P w K mg base CP) (M0 : CMk P w K mg base C 0 ["self", "function", "places"]) (M1 : CMk P w K mg base C 1 ["self", "function", "places"]) (M2 : CMk P w K mg base C 2 ["self", "function", "places", "other"]) (M3 : CMk P w K mg base C 3 ["self", "function", "places", "way"])
    (M4 : CMk P w K mg base C 4 ["self", "function", "places", "sign", "slope", "height"]) (M5 : CMk P w K mg base C 5 ["self", "function", "places", "sign", "other", "slope", "height"]) (M6 : CMk P w K mg base C 6 ["self", "function", "places", "sign", "height"]) : FnOk P w K mg base CX0 6 f fd ["_law_told"] (spMade CP C) := by
  refine F.ok scMO (fun vs H Q E h => ?_) (fun cdv A outer s H vs Q E hr h => ?_)
  · obtain ⟨_, _, _, _, rfl, _⟩ := h
    rfl
  · obtain ⟨t, m, fs, n, rfl, ⟨ra, M, ht, hra, hM, eM⟩, hG, hw, hn, q⟩ := h
    have nd := scMO.nd
    refine ⟨_, pss_cons (ps_par3 (i := 1) (j := 2) (l := 3) rfl nd rfl rfl rfl (by decide) (by decide) (by decide) rfl rfl rfl (pa_cons (pe_ix (ix_tupK K rfl) (pv 0) pe_int (fun _ _ => rfl)) (pa_cons (pe_ix (ix_tupK K rfl) (pv 0) pe_int (fun _ _ => rfl)) (pa_cons (pe_mkP K rfl PM hr (by decide) (by rfl) (pa_cons (pe_callTy call_list_of (by rfl) B.list bt_list (pa_cons (pe_ix (ix_tupK K rfl) (pv 0) pe_int (fun _ _ => rfl)) pa_nil)) pa_nil)) pa_nil))) rfl)
      (pss_cons (ps_if (pt_cmpR (op_in_seqK K rfl) (pv 1) (pe_tup (pa_cons pe_str (pa_cons pe_str pa_nil))) (by rfl))
          (pss_one (ps_ret (pe_ifExp (pt_cmpR op_eq (pv 1) pe_str (nomark _)) (pe_mkC M0 rfl hr (by decide) (by rfl) (pa_cons (pv 2) (pa_cons (pv 3) pa_nil))) (pe_mkC M1 rfl hr (by decide) (by rfl) (pa_cons (pv 2) (pa_cons (pv 3) pa_nil))))))
          pss_nil)
      (pss_cons (ps_if (pt_cmpR (op_in_seqK K rfl) (pv 1) (pe_tup (pa_cons pe_str (pa_cons pe_str pa_nil))) (by rfl))
          (pss_one (ps_ret (pe_ifExp (pt_cmpR op_eq (pv 1) pe_str (nomark _)) (pe_mkC M2 rfl hr (by decide) (by rfl) (pa_cons (pv 2) (pa_cons (pv 3) (pa_cons (pe_ix (ix_tupK K rfl) (pv 0) pe_int (fun _ _ => rfl)) pa_nil)))) (pe_mkC M3 rfl hr (by decide) (by rfl) (pa_cons (pv 2) (pa_cons (pv 3) (pa_cons (pe_ix (ix_tupK K rfl) (pv 0) pe_int (fun _ _ => rfl)) pa_nil)))))))
          pss_nil)
      (pss_cons (ps_if (pt_cmpR op_eq (pv 1) pe_str (nomark _))
          (pss_one (ps_ret (pe_mkC M4 rfl hr (by decide) (by rfl) (pa_cons (pv 2) (pa_cons (pv 3) (pa_cons (pe_ix (ix_tupK K rfl) (pv 0) pe_int (fun _ _ => rfl)) (pa_cons (pe_ix (ix_tupK K rfl) (pv 0) pe_int (fun _ _ => rfl)) (pa_cons (pe_ix (ix_tupK K rfl) (pv 0) pe_int (fun _ _ => rfl)) pa_nil))))))))
          pss_nil)
      (pss_cons (ps_if (pt_cmpR op_eq (pv 1) pe_str (nomark _))
          (pss_one (ps_ret (pe_mkC M5 rfl hr (by decide) (by rfl) (pa_cons (pv 2) (pa_cons (pv 3) (pa_cons (pe_ix (ix_tupK K rfl) (pv 0) pe_int (fun _ _ => rfl)) (pa_cons (pe_ix (ix_tupK K rfl) (pv 0) pe_int (fun _ _ => rfl)) (pa_cons (pe_ix (ix_tupK K rfl) (pv 0) pe_int (fun _ _ => rfl)) (pa_cons (pe_ix (ix_tupK K rfl) (pv 0) pe_int (fun _ _ => rfl)) pa_nil)))))))))
          pss_nil)
      (pss_one (ps_ret (pe_mkC M6 rfl hr (by decide) (by rfl) (pa_cons (pv 2) (pa_cons (pv 3) (pa_cons (pe_ix (ix_tupK K rfl) (pv 0) pe_int (fun _ _ => rfl)) (pa_cons (pe_ix (ix_tupK K rfl) (pv 0) pe_int (fun _ _ => rfl)) pa_nil))))))))))), ?_⟩
    obtain ⟨i, f0, l, x⟩ := m
    have hi : i < 7 := hG.lt
    have hwf : WF i f0 x := hG.wf
    have hnf : Nf l := hG.nf
    have ok : ∀ r ∈ l, okRow r = true := fun r hr3 => okRow_of (hG.bd r hr3).1 (hnf.ok r hr3) (Int.le_trans (hG.bd r hr3).2 hn)
    have ll : l.length ≤ 6 := hG.len
    have eM : rws M = l := eM
    refine ⟨_, rfl, t, _, 0, .str (kName i), rfl, rfl, .inl (.inl ht), atI_nat (j := 0) rfl, _, rfl, t, _, 1, .str f0, rfl, rfl, .inl (.inl ht), atI_nat (j := 1) rfl, _, rfl, t, _, 2, .ref ra, rfl, rfl, .inl (.inl ht), atI_nat (j := 2) rfl, ra, refs M, rfl, .inl (.inl (.inl hra)), fun y ny => ?_⟩
    have s1 := same_lay (o := .lst (refs M)) ny
    refine ⟨y, M, rfl, .inl (.inl (.inl upd_same)), by rw [← rws_len M, eM]; omega, (hM.same s1).pairs, by rw [eM]; exact ok, fun pl lr H2 npl hpl hme _ s2 => ⟨_, _, _, rfl, ?_⟩⟩
    obtain rfl : lr = l := Nf.unique hpl.nf hnf (by rw [← eM]; exact hme)
    have s12 := s1.trans s2
    have ht2 := s12 _ _ ht
    clear hme ny s1 s2
    have fin : ∀ z dx G, H2 z = none → G z = some (.ins (C i) dx (cFl i f0 pl x)) → ∀ H3, Same H2 H3 → Same H3 G → Q (.ref z) G := fun z dx G nz hz H3 s3 s4 =>
      q z G ⟨z, rfl, ⟨dx, pl, hz, hpl.same (s3.trans s4)⟩, hi, hw, hwf, ok, (by show lr.length ≤ 20; omega)⟩ (s12.trans (s3.trans s4))
    rcases kinds7' hi with e | e | e | e | e | e | e <;> subst e
    · have hx0 : x = [] := hwf; subst hx0
      refine ⟨_, rfl, by show 2 ≤ sizeLine; decide, fun eA nA => ⟨eA, [V.str "answers", .str "refuses"], rfl, .inr (.inl (.inl upd_same)), rfl, rfl, _, rfl, ite2 (fun _ => ?_) (fun z => absurd (by decide +kernel) z)⟩⟩
      have sA := same_lay (o := .tup [V.str "answers", .str "refuses"]) nA
      refine ⟨_, rfl, rfl, _, rfl, ite2 (fun _ => ?_) (fun z => absurd (decide_eq_true rfl) z)⟩
      exact ⟨_, rfl, _, rfl, f0, pl, [], rfl, hw, hwf, fun z dx G nz hz s4 => fin z dx G (sA.free nz) hz _ sA s4⟩
    · have hx0 : x = [] := hwf; subst hx0
      refine ⟨_, rfl, by show 2 ≤ sizeLine; decide, fun eA nA => ⟨eA, [V.str "answers", .str "refuses"], rfl, .inr (.inl (.inl upd_same)), rfl, rfl, _, rfl, ite2 (fun _ => ?_) (fun z => absurd (by decide +kernel) z)⟩⟩
      have sA := same_lay (o := .tup [V.str "answers", .str "refuses"]) nA
      refine ⟨_, rfl, rfl, _, rfl, ite2 (fun z => absurd (of_decide_eq_true z) (by decide +kernel)) (fun _ => ?_)⟩
      exact ⟨_, rfl, _, rfl, f0, pl, [], rfl, hw, hwf, fun z dx G nz hz s4 => fin z dx G (sA.free nz) hz _ sA s4⟩
    · obtain ⟨g, rfl, hg⟩ := id hwf
      refine ⟨_, rfl, by show 2 ≤ sizeLine; decide, fun eA nA => ⟨eA, [V.str "answers", .str "refuses"], rfl, .inr (.inl (.inl upd_same)), rfl, rfl, _, rfl, ite2 (fun z => absurd z (by decide +kernel)) (fun _ => ?_)⟩⟩
      have sA := same_lay (o := .tup [V.str "answers", .str "refuses"]) nA
      refine ⟨_, rfl, by show 2 ≤ sizeLine; decide, fun eB nB => ⟨eB, [V.str "needs", .str "spreads"], rfl, .inr (.inl (.inl upd_same)), rfl, rfl, _, rfl, ite2 (fun _ => ?_) (fun z => absurd (by decide +kernel) z)⟩⟩
      have sB := same_lay (o := .tup [V.str "needs", .str "spreads"]) nB
      refine ⟨_, rfl, rfl, _, rfl, ite2 (fun _ => ?_) (fun z => absurd (decide_eq_true rfl) z)⟩
      exact ⟨_, rfl, _, rfl, _, rfl, t, _, 3, .str g, rfl, rfl, .inl (.inl ((sA.trans sB) _ _ ht2)), atI_nat (j := 3) rfl, f0, pl, [.str g], rfl, hw, hwf, fun z dx G nz hz s4 => fin z dx G ((sA.trans sB).free nz) hz _ (sA.trans sB) s4⟩
    · obtain ⟨wy, rfl, hg⟩ := id hwf
      refine ⟨_, rfl, by show 2 ≤ sizeLine; decide, fun eA nA => ⟨eA, [V.str "answers", .str "refuses"], rfl, .inr (.inl (.inl upd_same)), rfl, rfl, _, rfl, ite2 (fun z => absurd z (by decide +kernel)) (fun _ => ?_)⟩⟩
      have sA := same_lay (o := .tup [V.str "answers", .str "refuses"]) nA
      refine ⟨_, rfl, by show 2 ≤ sizeLine; decide, fun eB nB => ⟨eB, [V.str "needs", .str "spreads"], rfl, .inr (.inl (.inl upd_same)), rfl, rfl, _, rfl, ite2 (fun _ => ?_) (fun z => absurd (by decide +kernel) z)⟩⟩
      have sB := same_lay (o := .tup [V.str "needs", .str "spreads"]) nB
      refine ⟨_, rfl, rfl, _, rfl, ite2 (fun z => absurd (of_decide_eq_true z) (by decide +kernel)) (fun _ => ?_)⟩
      exact ⟨_, rfl, _, rfl, _, rfl, t, _, 3, .str wy, rfl, rfl, .inl (.inl ((sA.trans sB) _ _ ht2)), atI_nat (j := 3) rfl, f0, pl, [.str wy], rfl, hw, hwf, fun z dx G nz hz s4 => fin z dx G ((sA.trans sB).free nz) hz _ (sA.trans sB) s4⟩
    · obtain ⟨sg, a, b, rfl, hg⟩ := id hwf
      refine ⟨_, rfl, by show 2 ≤ sizeLine; decide, fun eA nA => ⟨eA, [V.str "answers", .str "refuses"], rfl, .inr (.inl (.inl upd_same)), rfl, rfl, _, rfl, ite2 (fun z => absurd z (by decide +kernel)) (fun _ => ?_)⟩⟩
      have sA := same_lay (o := .tup [V.str "answers", .str "refuses"]) nA
      refine ⟨_, rfl, by show 2 ≤ sizeLine; decide, fun eB nB => ⟨eB, [V.str "needs", .str "spreads"], rfl, .inr (.inl (.inl upd_same)), rfl, rfl, _, rfl, ite2 (fun z => absurd z (by decide +kernel)) (fun _ => ?_)⟩⟩
      have sB := same_lay (o := .tup [V.str "needs", .str "spreads"]) nB
      refine ⟨_, rfl, rfl, _, rfl, ite2 (fun _ => ?_) (fun z => absurd (decide_eq_true rfl) z)⟩
      exact ⟨_, rfl, _, rfl, _, rfl, t, _, 3, .str sg, rfl, rfl, .inl (.inl ((sA.trans sB) _ _ ht2)), atI_nat (j := 3) rfl, _, rfl, t, _, 4, .int a, rfl, rfl, .inl (.inl ((sA.trans sB) _ _ ht2)), atI_nat (j := 4) rfl, _, rfl, t, _, 5, .int b, rfl, rfl, .inl (.inl ((sA.trans sB) _ _ ht2)), atI_nat (j := 5) rfl, f0, pl, [.str sg, .int a, .int b], rfl, hw, hwf, fun z dx G nz hz s4 => fin z dx G ((sA.trans sB).free nz) hz _ (sA.trans sB) s4⟩
    · obtain ⟨sg, g, a, b, rfl, hg⟩ := id hwf
      refine ⟨_, rfl, by show 2 ≤ sizeLine; decide, fun eA nA => ⟨eA, [V.str "answers", .str "refuses"], rfl, .inr (.inl (.inl upd_same)), rfl, rfl, _, rfl, ite2 (fun z => absurd z (by decide +kernel)) (fun _ => ?_)⟩⟩
      have sA := same_lay (o := .tup [V.str "answers", .str "refuses"]) nA
      refine ⟨_, rfl, by show 2 ≤ sizeLine; decide, fun eB nB => ⟨eB, [V.str "needs", .str "spreads"], rfl, .inr (.inl (.inl upd_same)), rfl, rfl, _, rfl, ite2 (fun z => absurd z (by decide +kernel)) (fun _ => ?_)⟩⟩
      have sB := same_lay (o := .tup [V.str "needs", .str "spreads"]) nB
      refine ⟨_, rfl, rfl, _, rfl, ite2 (fun z => absurd (of_decide_eq_true z) (by decide +kernel)) (fun _ => ?_)⟩
      refine ⟨_, rfl, rfl, _, rfl, ite2 (fun _ => ?_) (fun z => absurd (decide_eq_true rfl) z)⟩
      exact ⟨_, rfl, _, rfl, _, rfl, t, _, 3, .str sg, rfl, rfl, .inl (.inl ((sA.trans sB) _ _ ht2)), atI_nat (j := 3) rfl, _, rfl, t, _, 4, .str g, rfl, rfl, .inl (.inl ((sA.trans sB) _ _ ht2)), atI_nat (j := 4) rfl, _, rfl, t, _, 5, .int a, rfl, rfl, .inl (.inl ((sA.trans sB) _ _ ht2)), atI_nat (j := 5) rfl, _, rfl, t, _, 6, .int b, rfl, rfl, .inl (.inl ((sA.trans sB) _ _ ht2)), atI_nat (j := 6) rfl, f0, pl, [.str sg, .str g, .int a, .int b], rfl, hw, hwf, fun z dx G nz hz s4 => fin z dx G ((sA.trans sB).free nz) hz _ (sA.trans sB) s4⟩
    · obtain ⟨sg, b, rfl, hg⟩ := id hwf
      refine ⟨_, rfl, by show 2 ≤ sizeLine; decide, fun eA nA => ⟨eA, [V.str "answers", .str "refuses"], rfl, .inr (.inl (.inl upd_same)), rfl, rfl, _, rfl, ite2 (fun z => absurd z (by decide +kernel)) (fun _ => ?_)⟩⟩
      have sA := same_lay (o := .tup [V.str "answers", .str "refuses"]) nA
      refine ⟨_, rfl, by show 2 ≤ sizeLine; decide, fun eB nB => ⟨eB, [V.str "needs", .str "spreads"], rfl, .inr (.inl (.inl upd_same)), rfl, rfl, _, rfl, ite2 (fun z => absurd z (by decide +kernel)) (fun _ => ?_)⟩⟩
      have sB := same_lay (o := .tup [V.str "needs", .str "spreads"]) nB
      refine ⟨_, rfl, rfl, _, rfl, ite2 (fun z => absurd (of_decide_eq_true z) (by decide +kernel)) (fun _ => ?_)⟩
      refine ⟨_, rfl, rfl, _, rfl, ite2 (fun z => absurd (of_decide_eq_true z) (by decide +kernel)) (fun _ => ?_)⟩
      exact ⟨_, rfl, _, rfl, _, rfl, t, _, 3, .str sg, rfl, rfl, .inl (.inl ((sA.trans sB) _ _ ht2)), atI_nat (j := 3) rfl, _, rfl, t, _, 4, .int b, rfl, rfl, .inl (.inl ((sA.trans sB) _ _ ht2)), atI_nat (j := 4) rfl, f0, pl, [.str sg, .int b], rfl, hw, hwf, fun z dx G nz hz s4 => fin z dx G ((sA.trans sB).free nz) hz _ (sA.trans sB) s4⟩
end
end OR

namespace OR
open PySem PySem.Spec PyProof.Rows L2
theorem pt_neverO {X : Cx} {e : Expr} : PT X e (fun _ _ _ => False) := ⟨fun _ _ _ _ _ _ h => h.elim⟩
theorem op_or {X : Cx} {f : Value → Value → Sem Value} {r r' : R2} (h : OpR X f r) (h' : OpR X f r') : OpR X f (fun x y H Q => r x y H Q ∨ r' x y H Q) := by
  intro pins s σ H x y v u Q I rx ry q
  rcases q with q | q
  · exact h pins s σ H x y v u Q I rx ry q
  · exact h' pins s σ H x y v u Q I rx ry q
theorem un_or {X : Cx} {f : Value → Sem Value} {r r' : V → Hp → VK → Prop} (h : UnR X f r) (h' : UnR X f r') : UnR X f (fun x H Q => r x H Q ∨ r' x H Q) := by
  intro pins s σ H x v Q I rx q
  rcases q with q | q
  · exact h pins s σ H x v Q I rx q
  · exact h' pins s σ H x v Q I rx q
/-! ### a line as it stands -/
theorem kSH : ¬ (("slope" : Str) = "height") := by decide +kernel
def lFl (a b : Int) : List (Str × V) := putF "height" (.int b) (putF "slope" (.int a) [])
theorem lFl_slope (a b : Int) : (lFl a b).lookup ("slope" : Str) = some (.int a) := by
  unfold lFl
  rw [lookup_putF, if_neg kSH, lookup_putF, if_pos rfl]
theorem lFl_height (a b : Int) : (lFl a b).lookup ("height" : Str) = some (.int b) := by
  unfold lFl
  rw [lookup_putF, if_pos rfl]
theorem lFl_no (a b : Int) {m : Str} (h1 : ¬ m = "height") (h2 : ¬ m = "slope") : (lFl a b).lookup m = none := by
  unfold lFl
  rw [lookup_putF, if_neg h1, lookup_putF, if_neg h2]
  all_goals rfl
def IsL (C : Addr) (H : Hp) (x : Addr) (a b : Int) : Prop := ∃ dx, H x = some (.ins C dx (lFl a b))
theorem IsL.same {C : Addr} {H H' : Hp} {x : Addr} {a b : Int} (h : IsL C H x a b) (s : Same H H') : IsL C H' x a b := by
  obtain ⟨dx, e⟩ := h
  exact ⟨dx, s _ _ e⟩
theorem IsL.frm {C : Addr} {H H' : Hp} {x p : Addr} {a b : Int} {n : Nat} (h : IsL C H x a b) (s : Frm p H H') (P : Pen H p n) : IsL C H' x a b := by
  obtain ⟨dx, e⟩ := h
  obtain ⟨c, ns, k, l, hp, _⟩ := P
  exact ⟨dx, s _ _ e (ne_of e hp (by intro z; cases z))⟩
/-- what the text says of the class Line -/
structure LTxt (K : PySem.W.Frag) (mg : Str → Option Value) (C : Addr) : Prop where
  cl : Cls K C
  nS : NoAttr K C "slope"
  nH : NoAttr K C "height"
  mgC : mg "Line" = some (.ref C)
  sf : PySem.W.selfFirst K C = true
  isi : SlX.SIsi K C
  kLL : PySem.W.kitOne K (.ref C) (.ref C) = some true
  kIL : PySem.W.kitOne K (.type "int") (.ref C) = some false
  kTL : PySem.W.kitOne K (.type "tuple") (.ref C) = some false
  zIsi : mg "isinstance" = none
  zInt : mg "int" = none
  zBool : mg "bool" = none
def spLInit (C : Addr) : Sp := fun vs H Q _ => ∃ (p dx : Addr) (a b : Int), vs = [.ref p, .int a, .int b] ∧ H p = some (.ins C dx []) ∧ ∀ H', H' p = some (.ins C dx (lFl a b)) → (∀ c o, H c = some o → c ≠ p → H' c = some o) → Q .non H'
def spIsInt : Sp := fun vs H Q _ => ∃ n, vs = [.int n] ∧ Q (.bl true) H
def spLNeg (C : Addr) : Sp := fun vs H Q _ => ∃ x a b, vs = [.ref x] ∧ IsL C H x a b ∧ ∀ y H', H y = none → IsL C H' y (-a) (-b) → Same H H' → Q (.ref y) H'
def spLAdd (C : Addr) : Sp := fun vs H Q _ => ∃ (x : Addr) (a b : Int), IsL C H x a b ∧ ((∃ (y : Addr) (c d : Int), vs = [.ref x, .ref y] ∧ IsL C H y c d ∧ ∀ z H', H z = none → IsL C H' z (a + c) (b + d) → Same H H' → Q (.ref z) H') ∨
  (∃ n : Int, vs = [.ref x, .int n] ∧ ∀ z H', H z = none → IsL C H' z a (b + n) → Same H H' → Q (.ref z) H'))
def spLSub (C : Addr) : Sp := fun vs H Q _ => ∃ (x : Addr) (a b : Int), IsL C H x a b ∧ ((∃ (y : Addr) (c d : Int), vs = [.ref x, .ref y] ∧ IsL C H y c d ∧ ∀ z H', H z = none → IsL C H' z (a - c) (b - d) → Same H H' → Q (.ref z) H') ∨
  (∃ n : Int, vs = [.ref x, .int n] ∧ ∀ z H', H z = none → IsL C H' z a (b - n) → Same H H' → Q (.ref z) H'))
/-- multiplied; the factor is not too great -/
def spLMul (C : Addr) : Sp := fun vs H Q _ => ∃ (x : Addr) (a b n : Int), vs = [.ref x, .int n] ∧ IsL C H x a b ∧ CMulW a n ∧ CMulW b n ∧ ∀ z H', H z = none → IsL C H' z (a * n) (b * n) → Same H H' → Q (.ref z) H'
/-- == of a line and a line, or a line and a tuple -/
def spLEq (K : PySem.W.Frag) (C : Addr) : Sp := fun vs H Q _ => ∃ (x : Addr) (a b : Int) (y : V), vs = [.ref x, y] ∧ IsL C H x a b ∧ ((∃ (u : Addr) (c d : Int), y = .ref u ∧ IsL C H u c d ∧ Q (.bl (decide (a = c ∧ b = d))) H) ∨ (TyX K H y (.type "tuple") ∧ Q (.bl false) H))
def spLCall (C : Addr) : Sp := fun vs H Q _ => ∃ (x : Addr) (a b t : Int), vs = [.ref x, .int t] ∧ IsL C H x a b ∧ CMulW a t ∧ Q (.int (a * t + b)) H
section
variable {P : Program} {w : World} {K : PySem.W.Frag} {mg : Str → Option Value} {base : Heap}
theorem scLI : FnScope ["self", "slope", "height"] ["self", "slope", "height"] (defScope sLInit) := ⟨rfl, rfl, rfl, by decide +kernel, rfl, by decide +kernel, by decide +kernel⟩
theorem ok_linit {f C : Addr} {fd : FuncData} (F : Fun K "__init__" "Line.__init__" sLInit f fd) (T : LTxt K mg C) : FnOk P w K mg base CX0 1 f fd ["self", "slope", "height"] (spLInit C) := by
  refine F.ok scLI (fun vs H Q E h => ?_) (fun cdv A outer s H vs Q E hr h => ?_)
  · obtain ⟨p, dx, a, b, rfl, _⟩ := h
    rfl
  · obtain ⟨p, dx, a, b, rfl, hp, q⟩ := h
    refine ⟨_, pss_cons (ps_fld (pv 0) (pv 1) rfl) (pss_one (ps_fld (pv 0) (pv 2) rfl)), ?_⟩
    refine ⟨_, rfl, _, rfl, p, C, dx, [], rfl, hp, T.cl, T.nS, (by show 0 < 1000; decide), _, rfl, _, rfl, p, C, dx, _, rfl, upd_same, T.cl, T.nH, (by show 1 < 1000; decide), ?_⟩
    refine q _ upd_same fun c o e n => ?_
    rw [upd_ne n, upd_ne n]
    exact e
/-- Line(a, b) -/
def tMkL (C : Addr) (t : TA) : TE := fun σ H Q => t σ H fun vs H1 => ∃ a b, vs = [.int a, .int b] ∧ ∀ x H', H1 x = none → IsL C H' x a b → Same H1 H' → Q (.ref x) H'
end
/-- the class Line as it is made -/
structure LMk (P : Program) (w : World) (K : PySem.W.Frag) (mg : Str → Option Value) (base : Heap) (C : Addr) : Prop where
  T : LTxt K mg C
  made : ∃ f fd, Mk K C f ∧ FnOk P w K mg base CX0 1 f fd ["self", "slope", "height"] (spLInit C) ∧ Binds K fd ["self", "slope", "height"] []
theorem pe_mkL {X : Cx} {C : Addr} {j : Nat} {e : Expr} {es : List Expr} {t : TA} {p pos : Pos} (M : LMk X.prog X.w X.K X.mg X.base C) (hr : Room j X.A) (hj : 2 ≤ j) (hg : Gl X "Line") (ha : PA X (e :: es) t)
    (he : starEach (e :: es) X.env = (false, eval e X.env) :: starEach es X.env := by rfl) (hpl : (backTo pos (starEach es X.env)).any (·.1) = false := by rfl) : PE X (.Call (.Name "Line" p) (e :: es) [] pos) (tMkL C t) := by
  obtain ⟨f, fd, mk, F, hb⟩ := M.made
  refine ⟨fun pins s σ H Q I h => ?_⟩
  refine wpAny_Call_Name_kw (ld_glob I hg M.T.mgC ?_ (by decide))
  refine PySem.W.callWith_K (h₀ := X.base) I.ok.mod.kin mk.kp (thn (ha.run pos pins s σ H _ I h) fun us s1 ⟨vs, H1, I1, r, q⟩ => ⟨I1.kIn, ?_⟩) he hpl
  obtain ⟨a, b, rfl, q⟩ := q
  refine run_make mk F (hr.mono hj) hb .nil pass0 I1 r fun x dx nx ndx nex => ?_
  refine ⟨x, dx, a, b, rfl, upd_same, fun H' hx hs => ⟨rfl, q x H' nx ⟨dx, hx⟩ fun c o e => ?_⟩⟩
  have ncx : c ≠ x := ne_of_none e nx
  refine hs c o ?_ ncx
  rw [upd_ne ncx, upd_ne (ne_of_none e ndx)]
  exact e
section
variable {P : Program} {w : World} {K : PySem.W.Frag} {mg : Str → Option Value} {base : Heap}
theorem scLN : FnScope ["self"] ["self"] (defScope sLineNeg) := ⟨rfl, rfl, rfl, by decide +kernel, rfl, by decide +kernel, by decide +kernel⟩
theorem ok_lneg {f C : Addr} {fd : FuncData} (F : Fun K "__neg__" "Line.__neg__" sLineNeg f fd) (M : LMk P w K mg base C) : FnOk P w K mg base CX0 3 f fd ["self"] (spLNeg C) := by
  have T := M.T
  refine F.ok scLN (fun vs H Q E h => ?_) (fun cdv A outer s H vs Q E hr h => ?_)
  · obtain ⟨x, a, b, rfl, _⟩ := h
    rfl
  · obtain ⟨x, a, b, rfl, ⟨dx, hx⟩, q⟩ := h
    refine ⟨_, pss_one (ps_ret (pe_mkL M hr (by decide) (by rfl) (pa_cons (pe_un un_neg (pe_fld (pv 0) rfl)) (pa_cons (pe_un un_neg (pe_fld (pv 0) rfl)) pa_nil)))), ?_⟩
    exact ⟨_, rfl, x, C, dx, _, _, rfl, hx, T.cl, T.nS, lFl_slope a b, a, rfl, _, rfl, x, C, dx, _, _, rfl, hx, T.cl, T.nH, lFl_height a b, b, rfl, -a, -b, rfl, q⟩
theorem scLC : FnScope ["self", "x"] ["self", "x"] (defScope sLineCall) := ⟨rfl, rfl, rfl, by decide +kernel, rfl, by decide +kernel, by decide +kernel⟩
theorem ok_lcall {f C : Addr} {fd : FuncData} (F : Fun K "__call__" "Line.__call__" sLineCall f fd) (T : LTxt K mg C) : FnOk P w K mg base CX0 1 f fd ["self", "x"] (spLCall C) := by
  refine F.ok scLC (fun vs H Q E h => ?_) (fun cdv A outer s H vs Q E hr h => ?_)
  · obtain ⟨x, a, b, t, rfl, _⟩ := h
    rfl
  · obtain ⟨x, a, b, t, rfl, ⟨dx, hx⟩, hm, q⟩ := h
    refine ⟨_, pss_one (ps_ret (pe_op op_add (pe_op op_mulW (pe_fld (pv 0) rfl) (pv 1)) (pe_fld (pv 0) rfl))), ?_⟩
    exact ⟨_, rfl, x, C, dx, _, _, rfl, hx, T.cl, T.nS, lFl_slope a b, _, rfl, a, t, rfl, rfl, hm, _, rfl, x, C, dx, _, _, rfl, hx, T.cl, T.nH, lFl_height a b, _, _, rfl, rfl, q⟩
theorem tyL {C : Addr} (T : LTxt K mg C) {H : Hp} {x dx : Addr} {fs : List (Str × V)} (hx : H x = some (.ins C dx fs)) : TyX K H (.ref x) (.ref C) := .base (.ins hx T.cl T.isi.ca T.isi.cn T.isi.ct T.isi.cm)
theorem scII : FnScope ["value"] ["value"] (defScope sIsInt) := ⟨rfl, rfl, rfl, by decide +kernel, rfl, by decide +kernel, by decide +kernel⟩
theorem boot_isi : bootBuiltins ("isinstance" : Str) = some (.builtin "isinstance") := by decide +kernel
theorem boot_intT : bootBuiltins ("int" : Str) = some (.type "int") := by decide +kernel
theorem boot_boolT : bootBuiltins ("bool" : Str) = some (.type "bool") := by decide +kernel
theorem ok_isint {f C : Addr} {fd : FuncData} (F : Fun K "is_integer" "is_integer" sIsInt f fd) (T : LTxt K mg C) : FnOk P w K mg base CX0 1 f fd ["value"] spIsInt := by
  refine F.ok scII (fun vs H Q E h => ?_) (fun cdv A outer s H vs Q E hr h => ?_)
  · obtain ⟨n, rfl, _⟩ := h
    rfl
  · obtain ⟨n, rfl, q⟩ := h
    refine ⟨_, pss_one (ps_ret (pe_and (pe_callB call_isi (by rfl) T.zIsi boot_isi (pa_cons (pv 0) (pa_cons (pe_bltn (v := .ty "int") (by rfl) T.zInt boot_intT rfl) pa_nil)))
      (pe_one (pe_not (pe_callB call_isi (by rfl) T.zIsi boot_isi (pa_cons (pv 0) (pa_cons (pe_bltn (v := .ty "bool") (by rfl) T.zBool boot_boolT rfl) pa_nil))))))), ?_⟩
    refine ⟨_, rfl, .int n, .ty "int", _, _, true, rfl, .ty "int", .base (.int n), kit_ty (by decide +kernel), true, rfl, iteT ⟨_, rfl, .int n, .ty "bool", _, _, false, rfl, .ty "bool", .base (.int n), kit_ty (by decide +kernel), false, rfl, q⟩⟩
theorem scLA : FnScope ["self", "other"] ["self", "other"] (defScope sLineAdd) := ⟨rfl, rfl, rfl, by decide +kernel, rfl, by decide +kernel, by decide +kernel⟩
theorem ok_ladd {f C : Addr} {fd : FuncData} (F : Fun K "__add__" "Line.__add__" sLineAdd f fd) (M : LMk P w K mg base C) (D : Cl P w K mg base 1 "is_integer" ["value"] spIsInt) : FnOk P w K mg base CX0 3 f fd ["self", "other"] (spLAdd C) := by
  have T := M.T
  refine F.ok scLA (fun vs H Q E h => ?_) (fun cdv A outer s H vs Q E hr h => ?_)
  · obtain ⟨x, a, b, _, ⟨y, c, d, rfl, _⟩ | ⟨n, rfl, _⟩⟩ := h <;> rfl
  · refine ⟨_, pss_cons (ps_if (pt_val (pe_callB call_isi (by rfl) T.zIsi boot_isi (pa_cons (pv 1) (pa_cons (pe_glob (v := .ref C) (by rfl) T.mgC rfl) pa_nil))))
        (pss_one (ps_ret (pe_mkL M hr (by decide) (by rfl) (pa_cons (pe_op op_add (pe_fld (pv 0) rfl) (pe_fld (pv 1) rfl)) (pa_cons (pe_op op_add (pe_fld (pv 0) rfl) (pe_fld (pv 1) rfl)) pa_nil))))) pss_nil)
      (pss_cons (ps_if (pt_val (pe_cl D hr (by decide) (by rfl) (pa_cons (pv 1) pa_nil)))
        (pss_one (ps_ret (pe_mkL M hr (by decide) (by rfl) (pa_cons (pe_fld (pv 0) rfl) (pa_cons (pe_op op_add (pe_fld (pv 0) rfl) (pv 1)) pa_nil))))) pss_nil)
      (pss_one ps_never)), ?_⟩
    obtain ⟨x, a, b, ⟨dx, hx⟩, ⟨y, c, d, rfl, ⟨dy, hy⟩, q⟩ | ⟨n, rfl, q⟩⟩ := h
    · refine ⟨_, rfl, .ref y, .ref C, _, _, true, rfl, .own C, tyL T hy, T.kLL, true, rfl, iteT ?_⟩
      exact ⟨_, rfl, x, C, dx, _, _, rfl, hx, T.cl, T.nS, lFl_slope a b, _, rfl, y, C, dy, _, _, rfl, hy, T.cl, T.nS, lFl_slope c d, _, _, rfl, rfl, _, rfl, x, C, dx, _, _, rfl, hx, T.cl, T.nH, lFl_height a b, _, rfl, y, C, dy, _, _, rfl, hy, T.cl, T.nH, lFl_height c d, _, _, rfl, rfl, _, _, rfl, q⟩
    · refine ⟨_, rfl, .int n, .ref C, _, _, false, rfl, .own C, .base (.int n), T.kIL, false, rfl, iteF ?_⟩
      refine ⟨_, rfl, n, rfl, true, rfl, iteT ?_⟩
      exact ⟨_, rfl, x, C, dx, _, _, rfl, hx, T.cl, T.nS, lFl_slope a b, _, rfl, x, C, dx, _, _, rfl, hx, T.cl, T.nH, lFl_height a b, _, rfl, _, _, rfl, rfl, _, _, rfl, q⟩
theorem sc2L {st : Stmt} (h1 : (defScope st).kind = .function) (h2 : (defScope st).isCoroutine = false) (h3 : (defScope st).isGenerator = false) (h4 : ∀ x ∈ (["self", "other"] : List Str), (defScope st).names.lookup x = some .local ∨ (defScope st).names.lookup x = some .cell) (h6 : (["self", "other"] : List Str).Nodup) : True := trivial
theorem scLS : FnScope ["self", "other"] ["self", "other"] (defScope sLineSub) := ⟨rfl, rfl, rfl, by decide +kernel, rfl, by decide +kernel, by decide +kernel⟩
theorem ok_lsub {f C : Addr} {fd : FuncData} (F : Fun K "__sub__" "Line.__sub__" sLineSub f fd) (M : LMk P w K mg base C) (D : Cl P w K mg base 1 "is_integer" ["value"] spIsInt) (A1 : Md P w K mg base 3 C (PySem.dunder (Operator.info .Add).2) (spLAdd C)) (BI : BinI K C .Add) (N1 : Md P w K mg base 3 C "__neg__" (spLNeg C)) : FnOk P w K mg base CX0 4 f fd ["self", "other"] (spLSub C) := by
  have T := M.T
  refine F.ok scLS (fun vs H Q E h => ?_) (fun cdv A outer s H vs Q E hr h => ?_)
  · obtain ⟨x, a, b, _, ⟨y, c, d, rfl, _⟩ | ⟨n, rfl, _⟩⟩ := h <;> rfl
  · refine ⟨_, pss_cons (ps_if (PW.pt (pw_or (pt_val (pe_callB call_isi (by rfl) T.zIsi boot_isi (pa_cons (pv 1) (pa_cons (pe_glob (v := .ref C) (by rfl) T.mgC rfl) pa_nil)))) (pw_or1 (pt_val (pe_cl D hr (by decide) (by rfl) (pa_cons (pv 1) pa_nil))))))
        (pss_one (ps_ret (pe_op (op_or (op_binS A1 T.sf hr) (op_binI A1 BI T.sf hr)) (pv 0) (pe_un (un_or (un_negO N1 hr) un_neg) (pv 1))))) pss_nil)
      (pss_one ps_never), ?_⟩
    obtain ⟨x, a, b, ⟨dx, hx⟩, ⟨y, c, d, rfl, ⟨dy, hy⟩, q⟩ | ⟨n, rfl, q⟩⟩ := h
    · refine ⟨_, rfl, .ref y, .ref C, _, _, true, rfl, .own C, tyL T hy, T.kLL, true, rfl, iteT (iteT ?_)⟩
      refine ⟨_, rfl, _, rfl, .inl ⟨y, dy, _, rfl, hy, y, c, d, rfl, ⟨dy, hy⟩, fun z H1 nz hz s1 => ?_⟩⟩
      obtain ⟨dz, hz'⟩ := hz
      refine .inl ⟨x, z, dx, dz, _, _, rfl, rfl, s1 _ _ hx, hz', x, a, b, ⟨dx, s1 _ _ hx⟩, .inl ⟨z, -c, -d, rfl, ⟨dz, hz'⟩, fun z2 H2 nz2 hz2 s2 => ?_⟩⟩
      exact q z2 H2 (s1.free nz2) hz2 (s1.trans s2)
    · refine ⟨_, rfl, .int n, .ref C, _, _, false, rfl, .own C, .base (.int n), T.kIL, false, rfl, iteF ?_⟩
      refine ⟨_, rfl, n, rfl, true, rfl, iteT ?_⟩
      refine ⟨_, rfl, _, rfl, .inr ⟨n, rfl, ?_⟩⟩
      exact .inr ⟨x, dx, _, -n, rfl, rfl, hx, x, a, b, ⟨dx, hx⟩, .inr ⟨-n, rfl, q⟩⟩
theorem scLMu : FnScope ["self", "other"] ["self", "other"] (defScope sLineMul) := ⟨rfl, rfl, rfl, by decide +kernel, rfl, by decide +kernel, by decide +kernel⟩
theorem ok_lmul {f C : Addr} {fd : FuncData} (F : Fun K "__mul__" "Line.__mul__" sLineMul f fd) (M : LMk P w K mg base C) (D : Cl P w K mg base 1 "is_integer" ["value"] spIsInt) : FnOk P w K mg base CX0 3 f fd ["self", "other"] (spLMul C) := by
  have T := M.T
  refine F.ok scLMu (fun vs H Q E h => ?_) (fun cdv A outer s H vs Q E hr h => ?_)
  · obtain ⟨x, a, b, n, rfl, _⟩ := h; rfl
  · obtain ⟨x, a, b, n, rfl, ⟨dx, hx⟩, h1, h2, q⟩ := h
    refine ⟨_, pss_cons (ps_if (pt_val (pe_cl D hr (by decide) (by rfl) (pa_cons (pv 1) pa_nil)))
        (pss_one (ps_ret (pe_mkL M hr (by decide) (by rfl) (pa_cons (pe_op op_mulW (pe_fld (pv 0) rfl) (pv 1)) (pa_cons (pe_op op_mulW (pe_fld (pv 0) rfl) (pv 1)) pa_nil))))) pss_nil)
      (pss_one ps_never), ?_⟩
    refine ⟨_, rfl, n, rfl, true, rfl, iteT ?_⟩
    exact ⟨_, rfl, x, C, dx, _, _, rfl, hx, T.cl, T.nS, lFl_slope a b, _, rfl, a, n, rfl, rfl, h1, _, rfl, x, C, dx, _, _, rfl, hx, T.cl, T.nH, lFl_height a b, _, rfl, b, n, rfl, rfl, h2, _, _, rfl, q⟩
theorem scLEq : FnScope ["self", "other"] ["self", "other"] (defScope sLEq) := ⟨rfl, rfl, rfl, by decide +kernel, rfl, by decide +kernel, by decide +kernel⟩
theorem ok_leq {f C : Addr} {fd : FuncData} (F : Fun K "__eq__" "Line.__eq__" sLEq f fd) (T : LTxt K mg C) : FnOk P w K mg base CX0 1 f fd ["self", "other"] (spLEq K C) := by
  refine F.ok scLEq (fun vs H Q E h => ?_) (fun cdv A outer s H vs Q E hr h => ?_)
  · obtain ⟨x, a, b, y, rfl, _⟩ := h; rfl
  · obtain ⟨x, a, b, y, rfl, ⟨dx, hx⟩, h⟩ := h
    refine ⟨_, pss_one (ps_ret (pe_and (pe_callB call_isi (by rfl) T.zIsi boot_isi (pa_cons (pv 1) (pa_cons (pe_glob (v := .ref C) (by rfl) T.mgC rfl) pa_nil)))
      (pe_and (pe_cmpR op_eq (pe_fld (pv 0) rfl) (pe_fld (pv 1) rfl) (nomark _)) (pe_one (pe_cmpR op_eq (pe_fld (pv 0) rfl) (pe_fld (pv 1) rfl) (nomark _)))))), ?_⟩
    rcases h with ⟨u, c, d, rfl, ⟨du, hu⟩, q⟩ | ⟨ty, q⟩
    · refine ⟨_, rfl, .ref u, .ref C, _, _, true, rfl, .own C, tyL T hu, T.kLL, true, rfl, iteT ?_⟩
      refine ⟨_, rfl, x, C, dx, _, _, rfl, hx, T.cl, T.nS, lFl_slope a b, _, rfl, u, C, du, _, _, rfl, hu, T.cl, T.nS, lFl_slope c d, rfl, _, rfl, ite2 (fun e => ?_) (fun e => ?_)⟩
      · have e1 : a = c := by have := of_decide_eq_true e; cases this; rfl
        refine ⟨_, rfl, x, C, dx, _, _, rfl, hx, T.cl, T.nH, lFl_height a b, _, rfl, u, C, du, _, _, rfl, hu, T.cl, T.nH, lFl_height c d, rfl, ?_⟩
        have : decide (V.int b = V.int d) = decide (a = c ∧ b = d) := by
          by_cases h : b = d <;> simp [h, e1]
        rw [this]; exact q
      · have e1 : ¬ a = c := fun z => e (decide_eq_true (by rw [z]))
        have : decide (a = c ∧ b = d) = false := by
          simp [e1]
        rw [this] at q; exact q
    · exact ⟨_, rfl, y, .ref C, _, _, false, rfl, .own C, ty, T.kTL, false, rfl, iteF q⟩
end
end OR

namespace OR
open PySem PySem.Spec PyProof.Rows L2
open TL (tl numL)
/-! ### what stands apart from lists and dicts -/
def KP (G G' : Hp) : Prop := ∀ b o, G b = some o → (∀ ys, o ≠ .lst ys) → (∀ kvs, o ≠ .dK kvs) → G' b = some o
theorem KP.trans {G G1 G2 : Hp} (a : KP G G1) (b : KP G1 G2) : KP G G2 := fun c o e h1 h2 => b c o (a c o e h1 h2) h1 h2
theorem kp_same {G G' : Hp} (s : Same G G') : KP G G' := fun b o e _ _ => s b o e
theorem kp_frm {G G' : Hp} {p : Addr} {k : Nat} (F : Frm p G G') (P : Pen G p k) : KP G G' := fun b o e _ h => by
  obtain ⟨kvs, hp⟩ := P.dict
  exact F b o e (ne_of e hp (h kvs))
theorem kp_lst {G : Hp} {a : Addr} {ys : List V} {u : HO} (h : G a = some (.lst ys)) : KP G (upd G a u) := fun b o e h1 _ => by
  rw [upd_ne (ne_of e h (h1 ys))]
  exact e
theorem sqT_kp {K : PySem.W.Frag} {G G' : Hp} {a : Addr} {xs : List V} (h : SqT K G a xs) (k : KP G G') : SqT K G' a xs := by
  rcases h with (h | ⟨o, h⟩) | h
  · exact .inl (.inl (k _ _ h (fun _ z => nomatch z) (fun _ z => nomatch z)))
  · exact .inl (.inr ⟨o, k _ _ h (fun _ z => nomatch z) (fun _ z => nomatch z)⟩)
  · exact .inr h
theorem IsP.kp {CP : Addr} {G G' : Hp} {x : Addr} {l : List Row} (h : IsP CP G x l) (k : KP G G') : IsP CP G' x l := by
  obtain ⟨nf, dx, t, f, b, M, h1, h2, h3, h4, h5, h6, h7⟩ := h
  exact ⟨nf, dx, t, f, b, M, k _ _ h1 (fun _ z => nomatch z) (fun _ z => nomatch z), k _ _ h2 (fun _ z => nomatch z) (fun _ z => nomatch z), fun q hq => k _ _ (h3 q hq) (fun _ z => nomatch z) (fun _ z => nomatch z), h4, k _ _ h5 (fun _ z => nomatch z) (fun _ z => nomatch z), k _ _ h6 (fun _ z => nomatch z) (fun _ z => nomatch z), h7⟩
theorem CRep.kp {CP : Addr} {C : Nat → Addr} {G G' : Hp} {x : V} {m : CM} (h : CRep CP C G x m) (k : KP G G') : CRep CP C G' x m := by
  obtain ⟨z, e, ⟨dx, pl, h1, h2⟩, a, b, c, d, g⟩ := h
  exact ⟨z, e, ⟨dx, pl, k _ _ h1 (fun _ z => nomatch z) (fun _ z => nomatch z), h2.kp k⟩, a, b, c, d, g⟩
theorem IsR.kp {K : PySem.W.Frag} {CR CP : Addr} {C : Nat → Addr} {G G' : Hp} {x : Addr} {fs : List Str} {n : Int} {ms : List CM} (h : IsR K CR CP C G x fs n ms) (k : KP G G') : IsR K CR CP C G' x fs n ms := by
  obtain ⟨dx, f, t, xs, h1, h2, h3, h4⟩ := h
  exact ⟨dx, f, t, xs, k _ _ h1 (fun _ z => nomatch z) (fun _ z => nomatch z), sqT_kp h2 k, sqT_kp h3 k, h4.imp fun _ _ e => e.kp k⟩
theorem tyT {K : PySem.W.Frag} {G : Hp} {a : Addr} {xs : List V} (h : SqT K G a xs) : TyX K G (.ref a) (.type "tuple") := by
  rcases h with (h | ⟨o, h⟩) | ⟨o, its, n, h1, h2, h3⟩
  · exact .base (.tup h)
  · exact .fTuple h
  · exact .kTuple h1 h2
theorem iteB {b : Bool} {A B : Prop} (h : b = false) (k : B) : if b = true then A else B := by
  subst h
  exact k
/-! ### comparisons -/
section
variable {K : PySem.W.Frag} {mg : Str → Option Value} {C : Nat → Addr} {CP CR : Addr} {G : Hp}
theorem neT {a b : Addr} {fs : List Str} {Q : VK} (h1 : SqT K G a (fs.map V.str)) (h2 : SqT K G b (fs.map V.str)) (sm : ∀ f ∈ fs, SmallS f) (q : Q (.bl false) G) : rNeD K (.ref a) (.ref b) G Q := by
  refine ⟨.tuple (fs.map PyData.str), .tuple (fs.map PyData.str), .tup h1 (dp_strs fs), .tup h2 (dp_strs fs), shpT_strs sm, shpT_strs sm, ?_⟩
  have e : PyData.eqv (.tuple (fs.map PyData.str)) (.tuple (fs.map PyData.str)) = true := by rw [eqvT_strs]; simp
  rw [e]
  exact q
theorem eqL {a b : Addr} {fs gs : List Str} {Q : VK} (h1 : SqL K G a (fs.map V.str)) (h2 : SqL K G b (gs.map V.str)) (sm : ∀ f ∈ fs, SmallS f) (sm2 : ∀ f ∈ gs, SmallS f) (q : Q (.bl (decide (fs = gs))) G) : rEqD K (.ref a) (.ref b) G Q := by
  refine ⟨.list (fs.map PyData.str), .list (gs.map PyData.str), .lst h1 (dp_strs fs), .lst h2 (dp_strs gs), shpL_strs sm, shpL_strs sm2, ?_⟩
  rw [eqvL_strs]
  exact q
theorem r_eq {x y : Addr} {fs gs : List Str} {n k : Int} {ms ns : List CM} {Q : VK} (R : RTxt K mg CR) (h : IsR K CR CP C G x fs n ms) (h2 : IsR K CR CP C G y gs k ns) (sf : ∀ f ∈ fs, SmallS f) (sg : ∀ f ∈ gs, SmallS f) (q : ∀ G', Same G G' → Q (.bl (req fs n ms gs k ns)) G') : rEqO K CR (spRuEq K CR CP C) (.ref x) (.ref y) G Q := by
  obtain ⟨dx, ft, tt, xs, hx, _⟩ := id h
  obtain ⟨dy, gt, ut, ys, hy, _⟩ := id h2
  exact ⟨x, dx, _, rfl, hx, ⟨.ref CR, tyR R hy, nf_self⟩, x, .ref y, fs, n, ms, rfl, h, sf, .inl ⟨y, gs, k, ns, rfl, h2, sg, q⟩⟩
theorem r_ne {x y : Addr} {fs gs : List Str} {n k : Int} {ms ns : List CM} {Q : VK} (R : RTxt K mg CR) (h : IsR K CR CP C G x fs n ms) (h2 : IsR K CR CP C G y gs k ns) (sf : ∀ f ∈ fs, SmallS f) (sg : ∀ f ∈ gs, SmallS f) (q : ∀ G', Same G G' → Q (.bl (!req fs n ms gs k ns)) G') : rNeO K CR (spRuEq K CR CP C) (.ref x) (.ref y) G Q := by
  obtain ⟨dx, ft, tt, xs, hx, _⟩ := id h
  obtain ⟨dy, gt, ut, ys, hy, _⟩ := id h2
  exact ⟨x, dx, _, rfl, hx, ⟨.ref CR, tyR R hy, nf_self⟩, x, .ref y, fs, n, ms, rfl, h, sf, .inl ⟨y, gs, k, ns, rfl, h2, sg, fun G' s => ⟨_, rfl, q G' s⟩⟩⟩
theorem r_other {x : Addr} {y : V} {T : String} {fs : List Str} {n : Int} {ms : List CM} {Q : VK} (h : IsR K CR CP C G x fs n ms) (sf : ∀ f ∈ fs, SmallS f) (ty : TyX K G y (.type T)) (k1 : PySem.W.kitOne K (.type T) (.ref CR) = some false) (k2 : PySem.W.notFirst K CR (.type T) = true) (q : Q (.bl false) G) : rEqO K CR (spRuEq K CR CP C) (.ref x) y G Q := by
  obtain ⟨dx, ft, tt, xs, hx, _⟩ := id h
  exact ⟨x, dx, _, rfl, hx, ⟨.type T, ty, k2⟩, x, y, fs, n, ms, rfl, h, sf, .inr ⟨T, ty, k1, q⟩⟩
end
end OR

namespace OR
open PySem PySem.Spec PyProof.Rows L2
/-! ### spots -/
abbrev Spot := Bool × Int
def slp (s : Spot) : Int := if s.1 then 1 else 0
def plc (s : Spot) (x : Int) : Int := slp s * x + s.2
def SpotAt (H : Hp) (v : V) : Spot → Prop
  | (false, n) => v = .int n
  | (true, d) => ∃ a, v = .ref a ∧ H a = some (.tup [.str "x", .int d])
theorem SpotAt.same {H H' : Hp} {v : V} : ∀ {s : Spot}, SpotAt H v s → Same H H' → SpotAt H' v s
  | (false, n), h, _ => h
  | (true, d), ⟨a, e, h⟩, s => ⟨a, e, s _ _ h⟩
theorem SpotAt.kp {H H' : Hp} {v : V} : ∀ {s : Spot}, SpotAt H v s → KP H H' → SpotAt H' v s
  | (false, n), h, _ => h
  | (true, d), ⟨a, e, h⟩, k => ⟨a, e, k _ _ h (fun _ z => nomatch z) (fun _ z => nomatch z)⟩
def Sm40 (n : Int) : Prop := n.natAbs < 10 ^ 40
theorem cw40 {a n : Int} (h : a.natAbs < 10 ^ 40) (h2 : n.natAbs < 10 ^ 40) : CMulW a n := wide_mul (a := 140) (b := 140) (Nat.lt_of_lt_of_le h (by decide)) (Nat.lt_of_lt_of_le h2 (by decide)) (by decide) (by decide) (by decide)
theorem slp_small (s : Spot) : (slp s).natAbs < 10 ^ 40 := by
  unfold slp
  split <;> decide
def spStrIs (K : PySem.W.Frag) : Sp := fun vs H Q _ => ∃ (a b : Str), vs = [.str a, .str b] ∧ Q (.bl (decide (a = b))) H
def spSpotLine (CL : Addr) : Sp := fun vs H Q _ => ∃ (v : V) (s : Spot), vs = [v] ∧ SpotAt H v s ∧ ∀ z H', H z = none → IsL CL H' z (slp s) s.2 → Same H H' → Q (.ref z) H'
def spValAt (CL : Addr) : Sp := fun vs H Q _ => ∃ (z : Addr) (a b x : Int), vs = [.ref z, .int x] ∧ IsL CL H z a b ∧ CMulW a x ∧ Q (.int (a * x + b)) H
def spPlace : Sp := fun vs H Q _ => ∃ (v : V) (s : Spot) (x : Int), vs = [v, .int x] ∧ SpotAt H v s ∧ x.natAbs < 10 ^ 40 ∧ ∀ H', Same H H' → Q (.int (plc s x)) H'
def spPlaced (K : PySem.W.Frag) : Sp := fun vs H Q _ => ∃ (t : Addr) (x : Int), vs = [.ref t, .int x] ∧ x.natAbs < 10 ^ 40 ∧
  ((∃ i st b g e sb se, SqT K H t [i, st, b, g, e] ∧ SpotAt H b sb ∧ SpotAt H e se ∧ ∀ z H', H' z = some (.tup [i, st, .int (plc sb x), g, .int (plc se x)]) → Same H H' → Q (.ref z) H') ∨
   (∃ f b e r sb se, SqT K H t [f, b, e, r] ∧ SpotAt H b sb ∧ SpotAt H e se ∧ ∀ z H', H' z = some (.tup [f, .int (plc sb x), .int (plc se x), r]) → Same H H' → Q (.ref z) H'))
section
variable {P : Program} {w : World} {K : PySem.W.Frag} {mg : Str → Option Value} {base : Heap} {CL CP : Addr}
theorem bt_str2 : bootBuiltins ("str" : Str) = some (.type "str") := by decide +kernel
theorem scIStr : FnScope ["value", "text"] ["value", "text"] (defScope pIsString) := ⟨rfl, rfl, rfl, by decide +kernel, rfl, by decide +kernel, by decide +kernel⟩
theorem ok_isstr {f : Addr} {fd : FuncData} (F : Fun K "is_string" "is_string" pIsString f fd) (T : LTxt K mg CL) (zS : mg "str" = none) : FnOk P w K mg base CX0 1 f fd ["value", "text"] (spStrIs K) := by
  refine F.ok scIStr (fun vs H Q E h => ?_) (fun cdv A outer s H vs Q E hr h => ?_)
  · obtain ⟨_, _, rfl, _⟩ := h
    rfl
  · obtain ⟨a, b, rfl, q⟩ := h
    refine ⟨_, pss_one (ps_ret (pe_and (pe_callB call_isi (by rfl) T.zIsi boot_isi (pa_cons (pv 0) (pa_cons (pe_bltn (v := .ty "str") (by rfl) zS bt_str2 rfl) pa_nil))) (pe_one (pe_cmpR op_eq (pv 0) (pv 1) (by rfl))))), ?_⟩
    exact ⟨_, rfl, .str a, .ty "str", _, _, true, rfl, .ty "str", .base (.str a), kit_ty (by decide +kernel), true, rfl, iteT ⟨_, rfl, _, rfl, rfl, by
      have e : decide (V.str a = V.str b) = decide (a = b) := by simp
      show Q (.bl (decide (V.str a = V.str b))) H
      rw [e]
      exact q⟩⟩
theorem scSpL : FnScope ["value"] ["value"] (defScope pSpotLine) := ⟨rfl, rfl, rfl, by decide +kernel, rfl, by decide +kernel, by decide +kernel⟩
theorem ok_spotline {f : Addr} {fd : FuncData} (F : Fun K "spot_line" "spot_line" pSpotLine f fd) (M : LMk P w K mg base CL) (zT : mg "tuple" = none) (zL : mg "list" = none) (zN : mg "len" = none) (DI : Cl P w K mg base 1 "is_integer" ["value"] (spIsIntG K)) (IST : Cl P w K mg base 1 "is_string" ["value", "text"] (spStrIs K)) : FnOk P w K mg base CX0 3 f fd ["value"] (spSpotLine CL) := by
  have T := M.T
  refine F.ok scSpL (fun vs H Q E h => ?_) (fun cdv A outer s H vs Q E hr h => ?_)
  · obtain ⟨_, _, rfl, _⟩ := h
    rfl
  · obtain ⟨v, sp, rfl, hv, q⟩ := h
    refine ⟨_, pss_cons (ps_if (pt_val (pe_cl DI hr (by decide) (by rfl) (pa_cons (pv 0) pa_nil)))
          (pss_one (ps_ret (pe_mkL M hr (by decide) (by rfl) (pa_cons pe_int (pa_cons (pv 0) pa_nil)))))
          pss_nil)
      (pss_cons (ps_if (PW.pt (pw_or (pt_not (pt_val (pe_callB call_isiT (by rfl) T.zIsi boot_isi (pa_cons (pv 0) (pa_cons (pe_tup (pa_cons (pe_bltn (v := .ty "tuple") (by rfl) zT bt_tup rfl) (pa_cons (pe_bltn (v := .ty "list") (by rfl) zL bt_list rfl) pa_nil))) pa_nil))))) (pw_or (pt_cmpR op_ne (pe_callB call_len_seq (by rfl) zN PySem.boot_len (pa_cons (pv 0) pa_nil)) pe_int (nomark _)) (pw_or1 (pt_not (pt_val (pe_cl IST hr (by decide) (by rfl) (pa_cons (pe_ix (ix_tupK K rfl) (pv 0) pe_int (fun _ _ => rfl)) (pa_cons pe_str pa_nil)))))))))
          (pss_one (ps_ret pe_non))
          pss_nil)
      (pss_one (ps_ret (pe_ifExp (pt_val (pe_cl DI hr (by decide) (by rfl) (pa_cons (pe_ix (ix_tupK K rfl) (pv 0) pe_int (fun _ _ => rfl)) pa_nil))) (pe_mkL M hr (by decide) (by rfl) (pa_cons pe_int (pa_cons (pe_ix (ix_tupK K rfl) (pv 0) pe_int (fun _ _ => rfl)) pa_nil))) pe_non)))), ?_⟩
    match sp, hv, q with
    | (false, n), hv, q =>
      obtain rfl : v = .int n := hv
      refine ⟨_, rfl, .int n, "int", true, false, rfl, .base (.int n), by decide +kernel, by decide +kernel, true, rfl, iteT ?_⟩
      exact ⟨_, rfl, 0, n, rfl, q⟩
    | (true, d), ⟨a, e, ha⟩, q =>
      subst e
      have hS : SqT K H a [.str "x", .int d] := .inl (.inl ha)
      refine ⟨_, rfl, .ref a, "tuple", false, false, rfl, tyT hS, by decide +kernel, by decide +kernel, false, rfl, iteF ?_⟩
      refine ⟨_, rfl, by show 2 ≤ sizeLine; decide, fun t nt => ?_⟩
      have S1 := same_lay (o := .tup [.ty "tuple", .ty "list"]) nt
      have ha1 := S1 _ _ ha
      have hS1 : SqT K _ a [.str "x", .int d] := .inl (.inl ha1)
      refine ⟨.ref a, t, _, .type "tuple", [.type "tuple", .type "list"], true, rfl, upd_same, .cons (.ty "tuple") (.cons (.ty "list") .nil), tyT hS1, kitAny_cons (kit_ty (b := "tuple") (r := true) (by decide +kernel)) (fun z => nomatch z) fun _ => rfl, true, rfl, iteF ?_⟩
      refine ⟨_, rfl, a, _, rfl, .inr hS1, rfl, _, rfl, iteNS rfl ?_⟩
      refine ⟨_, rfl, a, _, 0, .str "x", rfl, rfl, hS1, atI_nat (j := 0) rfl, "x", "x", rfl, true, rfl, iteF ?_⟩
      refine ⟨_, rfl, a, _, 1, .int d, rfl, rfl, hS1, atI_nat (j := 1) rfl, .int d, "int", true, false, rfl, .base (.int d), by decide +kernel, by decide +kernel, true, rfl, iteT ?_⟩
      exact ⟨_, rfl, a, _, 1, .int d, rfl, rfl, hS1, atI_nat (j := 1) rfl, 1, d, rfl, fun z H' nz hz s => q z H' (S1.free nz) hz (S1.trans s)⟩
theorem scVal : FnScope ["line", "x"] ["line", "x"] (defScope pValueAt) := ⟨rfl, rfl, rfl, by decide +kernel, rfl, by decide +kernel, by decide +kernel⟩
theorem ok_valat {f : Addr} {fd : FuncData} (F : Fun K "value_at" "value_at" pValueAt f fd) (T : LTxt K mg CL) : FnOk P w K mg base CX0 1 f fd ["line", "x"] (spValAt CL) := by
  refine F.ok scVal (fun vs H Q E h => ?_) (fun cdv A outer s H vs Q E hr h => ?_)
  · obtain ⟨_, _, _, _, rfl, _⟩ := h
    rfl
  · obtain ⟨x, a, b, t, rfl, ⟨dx, hx⟩, hm, q⟩ := h
    refine ⟨_, pss_one (ps_ret (pe_op op_add (pe_op op_mulW (pe_fld (pv 0) rfl) (pv 1)) (pe_fld (pv 0) rfl))), ?_⟩
    exact ⟨_, rfl, x, CL, dx, _, _, rfl, hx, T.cl, T.nS, lFl_slope a b, _, rfl, a, t, rfl, rfl, hm, _, rfl, x, CL, dx, _, _, rfl, hx, T.cl, T.nH, lFl_height a b, _, _, rfl, rfl, q⟩
end
end OR

namespace OR
open PySem PySem.Spec PyProof.Rows L2
/-! ### members of Places: contains, rank -/
def mx (x y : Int) : Int := if y > x then y else x
def mn (x y : Int) : Int := if y < x then y else x
theorem mx_ok (x y : Int) : x ≤ mx x y ∧ y ≤ mx x y ∧ (mx x y = x ∨ mx x y = y) := by
  unfold mx
  split <;> omega
theorem mn_ok (x y : Int) : mn x y ≤ x ∧ mn x y ≤ y ∧ (mn x y = x ∨ mn x y = y) := by
  unfold mn
  split <;> omega
def hasB (l : List Row) (z : Int) : Bool := l.any fun r => decide (r.1 ≤ z) && decide (z ≤ r.2)
theorem hasB_iff (l : List Row) (z : Int) : hasB l z = true ↔ mem l z := by
  unfold hasB
  rw [List.any_eq_true]
  constructor
  · rintro ⟨r, hr, h⟩
    rw [Bool.and_eq_true, decide_eq_true_eq, decide_eq_true_eq] at h
    exact ⟨r, hr, h.1, h.2⟩
  · rintro ⟨r, hr, h1, h2⟩
    exact ⟨r, hr, by rw [Bool.and_eq_true, decide_eq_true_eq, decide_eq_true_eq]; exact ⟨h1, h2⟩⟩
theorem tot_from (l : List Row) (t : Int) : l.foldl (fun t r => t + r.2 - r.1 + 1) t = t + tot l := by
  induction l generalizing t with
  | nil =>
    show t = t + 0
    omega
  | cons r l ih =>
    show l.foldl (fun t r => t + r.2 - r.1 + 1) (t + r.2 - r.1 + 1) = t + l.foldl (fun t r => t + r.2 - r.1 + 1) (0 + r.2 - r.1 + 1)
    rw [ih, ih]
    omega
theorem tot_cons (r : Row) (l : List Row) : tot (r :: l) = (r.2 - r.1 + 1) + tot l := by
  show l.foldl (fun t r => t + r.2 - r.1 + 1) (0 + r.2 - r.1 + 1) = _
  rw [tot_from]
  omega
theorem tot_nil : tot [] = 0 := rfl
theorem tot_nonneg : ∀ {l : List Row}, Nf l → 0 ≤ tot l
  | [], _ => Int.le_refl _
  | r :: l, n => by
    have := tot_nonneg n.tail
    have := n.head
    rw [tot_cons]
    omega
/-- n of the numbers are at most x -/
structure Upto (ns : List Int) (x : Int) (n : Nat) : Prop where
  le : n ≤ ns.length
  lo : ∀ (i : Nat) (v : Int), i < n → ns[i]? = some v → v ≤ x
  hi : ∀ (i : Nat) (v : Int), n ≤ i → ns[i]? = some v → x < v
theorem nf_lt {l : List Row} (h : Nf l) {i j : Nat} {r s : Row} (hi : l[i]? = some r) (hj : l[j]? = some s) (hij : i < j) : r.2 + 1 < s.1 := by
  obtain ⟨a, e1⟩ := List.getElem?_eq_some_iff.mp hi
  obtain ⟨b, e2⟩ := List.getElem?_eq_some_iff.mp hj
  have := List.pairwise_iff_getElem.mp h.gap i j a b hij
  rw [e1, e2] at this
  exact this
theorem firsts_at {l : List Row} {i : Nat} {r : Row} (h : l[i]? = some r) : (l.map (·.1))[i]? = some r.1 := by rw [List.getElem?_map, h]; rfl
theorem has_upto {l : List Row} (h : Nf l) {x : Int} {n : Nat} (u : Upto (l.map (·.1)) x n) : hasB l x = true ↔ ∃ m r, n = m + 1 ∧ l[m]? = some r ∧ x ≤ r.2 := by
  rw [hasB_iff]
  constructor
  · rintro ⟨r, hr, h1, h2⟩
    obtain ⟨i, hi⟩ := List.getElem?_of_mem hr
    have hin : i < n := by
      refine Classical.byContradiction fun c => ?_
      have := u.hi i r.1 (by omega) (firsts_at hi)
      omega
    obtain ⟨m, rfl⟩ : ∃ m, n = m + 1 := ⟨n - 1, by omega⟩
    rcases Nat.lt_or_eq_of_le (Nat.le_of_lt_succ hin) with c | c
    · have hl := u.le
      rw [List.length_map] at hl
      obtain ⟨s, hs⟩ : ∃ s, l[m]? = some s := ⟨l[m], List.getElem?_eq_getElem (by omega)⟩
      have a := nf_lt h hi hs c
      have b := u.lo m s.1 (Nat.lt_succ_self m) (firsts_at hs)
      omega
    · subst c
      exact ⟨i, r, rfl, hi, h2⟩
  · rintro ⟨m, r, rfl, hm, h2⟩
    exact ⟨r, List.mem_of_getElem? hm, u.lo m r.1 (Nat.lt_succ_self m) (firsts_at hm), h2⟩
/-- befs are the sums ahead -/
theorem befs_at {l : List Row} {j : Nat} (h : j < l.length) : (befs l)[j]? = some (tot (l.take j)) := by
  unfold befs
  rw [List.getElem?_map, List.getElem?_range h]
  rfl
theorem befs_len (l : List Row) : (befs l).length = l.length := by
  unfold befs
  rw [List.length_map, List.length_range]
theorem nf_take {l : List Row} (n : Nf l) (j : Nat) : Nf (l.take j) := ⟨fun x hx => n.ok x (List.mem_of_mem_take hx), n.gap.sublist (List.take_sublist _ _)⟩
theorem tot_step {l : List Row} {j : Nat} {r : Row} (h : l[j]? = some r) : tot (l.take (j + 1)) = tot (l.take j) + r.2 - r.1 + 1 := by
  rw [List.take_add_one, h]
  exact tot_snoc _ _
theorem befs_asc {l : List Row} (n : Nf l) : (befs l).Pairwise (· < ·) := by
  refine List.pairwise_iff_getElem.mpr fun i j hi hj hij => ?_
  rw [befs_len] at hi hj
  have e1 := befs_at hi
  have e2 := befs_at hj
  rw [List.getElem?_eq_getElem (by rw [befs_len]; exact hi)] at e1
  rw [List.getElem?_eq_getElem (by rw [befs_len]; exact hj)] at e2
  rw [Option.some.inj e1, Option.some.inj e2]
  obtain ⟨d, rfl⟩ : ∃ d, j = i + 1 + d := ⟨j - (i + 1), by omega⟩
  have go : ∀ d, i + 1 + d ≤ l.length → tot (l.take i) < tot (l.take (i + 1 + d)) := by
    intro d
    induction d with
    | zero =>
      intro hd
      have hg : l[i]? = some l[i] := List.getElem?_eq_getElem (by omega)
      have := tot_step hg
      have := n.ok _ (List.mem_of_getElem? hg)
      rw [Nat.add_zero]
      omega
    | succ d ih =>
      intro hd
      have a := ih (by omega)
      have hg : l[i + 1 + d]? = some l[i + 1 + d] := List.getElem?_eq_getElem (by omega)
      have b := tot_step hg
      have c := n.ok _ (List.mem_of_getElem? hg)
      rw [show i + 1 + (d + 1) = i + 1 + d + 1 by omega]
      omega
  exact go d (by omega)
theorem firsts_asc {l : List Row} (n : Nf l) : (l.map (·.1)).Pairwise (· < ·) := List.pairwise_map.mpr (n.gap.imp_of_mem fun {a b} ha hb h => by have := n.ok a ha; omega)
/-- how many are below x -/
def rkT (x : Int) (r : Row) : Int := mn r.2 (x - 1) - r.1 + 1
def rk (l : List Row) (x : Int) : Int := l.foldl (fun a r => if r.1 < x then a + rkT x r else a) 0
theorem rk_from (x : Int) : ∀ (l : List Row) (a : Int), l.foldl (fun a r => if r.1 < x then a + rkT x r else a) a = a + rk l x
  | [], a => by show a = a + 0; omega
  | r :: l, a => by
    show l.foldl _ (if r.1 < x then a + rkT x r else a) = a + l.foldl _ (if r.1 < x then 0 + rkT x r else 0)
    rw [rk_from x l, rk_from x l]
    split <;> omega
theorem rk_cons (r : Row) (l : List Row) (x : Int) : rk (r :: l) x = (if r.1 < x then rkT x r else 0) + rk l x := by
  show l.foldl _ (if r.1 < x then 0 + rkT x r else 0) = _
  rw [rk_from]
  split <;> omega
theorem rk_snoc (l : List Row) (r : Row) (x : Int) : rk (l ++ [r]) x = rk l x + (if r.1 < x then rkT x r else 0) := by
  unfold rk
  rw [List.foldl_append]
  show (if r.1 < x then _ + rkT x r else _) = _
  split <;> omega
theorem rk_zero {x : Int} : ∀ {l : List Row}, (∀ r ∈ l, x ≤ r.1) → rk l x = 0
  | [], _ => rfl
  | r :: l, h => by
    rw [rk_cons, rk_zero fun q hq => h q (List.mem_cons_of_mem _ hq), if_neg (by have := h r List.mem_cons_self; omega)]
    rfl
theorem rk_full {x : Int} : ∀ {l : List Row}, (∀ r ∈ l, r.1 ≤ r.2 ∧ r.2 < x) → rk l x = tot l
  | [], _ => rfl
  | r :: l, h => by
    have a := h r List.mem_cons_self
    have m := mn_ok r.2 (x - 1)
    rw [rk_cons, rk_full fun q hq => h q (List.mem_cons_of_mem _ hq), tot_cons, if_pos (by omega)]
    unfold rkT
    omega
theorem rk_app (l m : List Row) (x : Int) : rk (l ++ m) x = rk l x + rk m x := by
  unfold rk
  rw [List.foldl_append, rk_from]
  rfl
theorem rank_upto {l : List Row} (n : Nf l) {x : Int} {m : Nat} (u : Upto (l.map (·.1)) x m) : (m = 0 → rk l x = 0) ∧ ∀ j r, m = j + 1 → l[j]? = some r → rk l x = tot (l.take j) + mn x (r.2 + 1) - r.1 := by
  have above : ∀ r ∈ l.drop m, x ≤ r.1 := fun r hr => by
    obtain ⟨i, hi⟩ := List.getElem?_of_mem hr
    rw [List.getElem?_drop] at hi
    have := u.hi (m + i) r.1 (by omega) (firsts_at hi)
    omega
  refine ⟨fun e => ?_, fun j r e hj => ?_⟩
  · subst e
    exact rk_zero above
  · subst e
    have hl := (List.getElem?_eq_some_iff.mp hj).1
    have e1 : l = l.take j ++ (r :: l.drop (j + 1)) := by
      conv => lhs; rw [← List.take_append_drop j l]
      rw [List.drop_eq_getElem_cons hl, (List.getElem?_eq_some_iff.mp hj).2]
    have lo := u.lo j r.1 (Nat.lt_succ_self j) (firsts_at hj)
    have below : ∀ q ∈ l.take j, q.1 ≤ q.2 ∧ q.2 < x := fun q hq => by
      obtain ⟨i, hi⟩ := List.getElem?_of_mem hq
      have hij : i < j := by
        have := (List.getElem?_eq_some_iff.mp hi).1
        rw [List.length_take] at this
        omega
      rw [List.getElem?_take_of_lt hij] at hi
      have a := nf_lt n hi hj hij
      exact ⟨n.ok q (List.mem_of_getElem? hi), by omega⟩
    have a := rk_full below
    have b := rk_zero above
    have c := rk_app (l.take j) (r :: l.drop (j + 1)) x
    rw [← e1, rk_cons, a, b] at c
    rw [c]
    have hr := n.ok r (List.mem_of_getElem? hj)
    have k1 := mn_ok r.2 (x - 1)
    have k2 := mn_ok x (r.2 + 1)
    unfold rkT
    split <;> omega
/-- x in o, o's own __contains__ -/
def rInO (C : Addr) (sp : Sp) : R2 := fun x y H Q => ∃ a dx fs, y = .ref a ∧ H a = some (.ins C dx fs) ∧ sp [y, x] H (fun z H' => ∃ k, z = .bl k ∧ Q z H') E0
theorem op_inO {X : Cx} {n : Nat} {C : Addr} {sp : Sp} (m : Md X.prog X.w X.K X.mg X.base n C "__contains__" sp) (hr : Room n X.A) : OpR X (compareOp .In) (rInO C sp) := by
  intro pins s σ H x y v u Q I rx ry h
  obtain ⟨f, F, hs, hf, _⟩ := m.ex
  obtain ⟨a, dx, fs, rfl, ha, q⟩ := h
  cases (show u = Value.ref a from ry)
  obtain ⟨mA, J, _⟩ := ins_get I.hok ha
  obtain ⟨od, J, _⟩ := J.look
  obtain ⟨m, hF⟩ := I.fr
  refine PySem.W.in_K hF I.ok.mod.kin J hs hf (wpAny_mono (wpAny_call (run_fnR (us := [.ref a, v]) (vs := [.ref a, x]) F hr pass0 I (.cons rfl (.cons rx .nil)) q)) (fun w s' z => ?_) fun _ _ x => x)
  obtain ⟨z', H', I', rz, k, ek, qz⟩ := z
  subst ek
  cases (show w = Value.bool k from rz)
  exact wpAny_truthy_bool ⟨.bl k, H', I', rfl, qz⟩
def spHow (K : PySem.W.Frag) : Sp := fun vs H Q _ => ∃ (t : Addr) (x : Int) (ns : List Int), vs = [.ref t, .int x] ∧ SqT K H t (ns.map V.int) ∧ ns.length ≤ 1000 ∧ ns.Pairwise (· < ·) ∧ ∀ n : Nat, Upto ns x n → Q (.int (n : Int)) H
def spCon (K : PySem.W.Frag) (C : Addr) : Sp := fun vs H Q _ => ∃ (p : Addr) (l : List Row) (v : V), vs = [.ref p, v] ∧ IsP C H p l ∧ ((∃ x, v = .int x ∧ Q (.bl (hasB l x)) H) ∨ ∃ (T : String) (b1 b2 : Bool), TyX K H v (.type T) ∧ kitB T "int" = some b1 ∧ kitB T "bool" = some b2 ∧ (b1 && !b2) = false ∧ Q (.bl false) H)
def spRank (C : Addr) : Sp := fun vs H Q _ => ∃ (p : Addr) (x : Int) (l : List Row), vs = [.ref p, .int x] ∧ IsP C H p l ∧ Q (.int (rk l x)) H
section
variable {P : Program} {w : World} {K : PySem.W.Frag} {mg : Str → Option Value} {base : Heap}
theorem scHo : FnScope ["numbers", "x", "low", "high", "middle"] ["numbers", "x"] (defScope pHowManyUpto) := ⟨rfl, rfl, rfl, by decide +kernel, rfl, by decide +kernel, by decide +kernel⟩
theorem ok_how {f C : Addr} {fd : FuncData} (F : Fun K "_how_many_upto" "_how_many_upto" pHowManyUpto f fd) (T : PTxt K mg C) : FnOk P w K mg base CX0 1 f fd ["numbers", "x"] (spHow K) := by
  refine F.ok scHo (fun vs H Q E h => ?_) (fun cdv A outer s H vs Q E hr h => ?_)
  · obtain ⟨t, x, ns, rfl, _⟩ := h
    rfl
  · obtain ⟨t, x, ns, rfl, hS, hlen, hs, q⟩ := h
    have nd := scHo.nd
    refine ⟨_, pss_cons (ps_set (i := 2) nd rfl (.inl rfl) pe_int)
      (pss_cons (ps_set (i := 3) nd rfl (.inl rfl) (pe_callB call_len_seq (by rfl) T.zLen PySem.boot_len (pa_cons (pv 0) pa_nil)))
      (pss_cons (ps_while PassesOwn.never (pt_cmpR op_lt (pv 2) (pv 3) (nomark _))
        (pss_cons (ps_set (i := 4) nd rfl (.inl rfl) (pe_op op_fdivW (pe_op op_add (pv 2) (pv 3)) pe_int))
        (pss_one (ps_if (pt_cmpR op_le (pe_ix ix_tup (pv 0) (pv 4) (fun _ _ => rfl)) (pv 1) (nomark _)) (pss_one (ps_set (i := 2) nd rfl (.inl rfl) (pe_op op_add (pv 4) pe_int))) (pss_one (ps_set (i := 3) nd rfl (.inl rfl) (pv 4)))))))
      (pss_one (ps_ret (pv 2))))), ?_⟩
    refine ⟨_, rfl, t, _, rfl, .inr hS, ?_⟩
    have el : ((ns.map V.int).length : Int) = ((ns.length : Nat) : Int) := by rw [List.length_map]
    rw [el]
    refine ⟨fun m σ H' => ∃ (lo hi : Nat) (s4 : Option V), m = hi - lo ∧ H' = H ∧ σ = [some (.ref t), some (.int x), some (.int (lo : Int)), some (.int (hi : Int)), s4] ∧ lo ≤ hi ∧ hi ≤ ns.length ∧ (∀ (i : Nat) (v : Int), i < lo → ns[i]? = some v → v ≤ x) ∧ (∀ (i : Nat) (v : Int), hi ≤ i → ns[i]? = some v → x < v),
      ⟨_, 0, ns.length, none, rfl, rfl, rfl, Nat.zero_le _, Nat.le_refl _, fun i v h => absurd h (Nat.not_lt_zero _), fun i v h e => absurd (List.getElem?_eq_some_iff.mp e).1 (by omega)⟩, ?_⟩
    rintro m σ H' ⟨lo, hi, s4, rfl, rfl, rfl, hlh, hh, a, b⟩
    refine ⟨_, rfl, _, rfl, _, _, rfl, rfl, _, rfl, ite2 (fun c => ?_) (fun c => ?_)⟩
    · have hc : (lo : Int) < (hi : Int) := of_decide_eq_true c
      have e2 : ((lo : Int) + (hi : Int)) / 2 = (((lo + hi) / 2 : Nat) : Int) := by omega
      have hm1 : (lo + hi) / 2 < ns.length := by omega
      have hg : ns[(lo + hi) / 2]? = some ns[(lo + hi) / 2] := List.getElem?_eq_getElem hm1
      have mono : ∀ (i j : Nat) (u v : Int), i ≤ j → ns[i]? = some u → ns[j]? = some v → u ≤ v := fun i j u v hij hi' hj' => by
        obtain ⟨p1, e1⟩ := List.getElem?_eq_some_iff.mp hi'
        obtain ⟨p2, e2⟩ := List.getElem?_eq_some_iff.mp hj'
        rcases Nat.lt_or_eq_of_le hij with k | k
        · have := List.pairwise_iff_getElem.mp hs i j p1 p2 k
          omega
        · subst k
          omega
      refine ⟨_, fun σ' H'' p => p, ?_⟩
      refine ⟨_, rfl, _, rfl, _, _, rfl, rfl, _, _, rfl, rfl, div200 (by decide) (by decide) _, ?_⟩
      have e3 : ((lo : Int) + (hi : Int)) / 2 + 1 = (((lo + hi) / 2 + 1 : Nat) : Int) := by omega
      have hat : atI (ns.map V.int) (((lo : Int) + (hi : Int)) / 2) = some (.int ns[(lo + hi) / 2]) := by rw [e2]; exact atI_nat (by rw [List.getElem?_map, hg]; rfl)
      refine ⟨_, rfl, _, rfl, t, _, _, _, rfl, rfl, hS, hat, _, rfl, _, _, rfl, rfl, _, rfl, ite2 (fun c2 => ?_) (fun c2 => ?_)⟩
      · have hc2 : ns[(lo + hi) / 2] ≤ x := of_decide_eq_true c2
        refine ⟨_, rfl, _, _, rfl, rfl, hi - ((lo + hi) / 2 + 1), by omega, (lo + hi) / 2 + 1, hi, some (.int (((lo : Int) + (hi : Int)) / 2)), rfl, rfl, (by rw [← e3]; rfl), by omega, hh, fun i v hi' e => ?_, b⟩
        have := mono i ((lo + hi) / 2) v _ (by omega) e hg
        omega
      · have hc2 : ¬ ns[(lo + hi) / 2] ≤ x := fun w => c2 (decide_eq_true w)
        refine ⟨_, rfl, (lo + hi) / 2 - lo, by omega, lo, (lo + hi) / 2, some (.int (((lo : Int) + (hi : Int)) / 2)), rfl, rfl, (by rw [← e2]; rfl), by omega, by omega, a, fun i v hi' e => ?_⟩
        have := mono ((lo + hi) / 2) i _ v hi' hg e
        omega
    · have hc : ¬ (lo : Int) < (hi : Int) := fun w => c (decide_eq_true w)
      have e : lo = hi := by omega
      subst e
      exact ⟨_, rfl, q lo ⟨hh, a, b⟩⟩
theorem scCon : FnScope ["self", "x", "at"] ["self", "x"] (defScope sPlacesContains) := ⟨rfl, rfl, rfl, by decide +kernel, rfl, by decide +kernel, by decide +kernel⟩
theorem firsts_v (l : List Row) : (l.map fun r => V.int r.1) = (l.map (·.1)).map V.int := by rw [List.map_map]; rfl
theorem ok_con {f C : Addr} {fd : FuncData} (F : Fun K "__contains__" "Places.__contains__" sPlacesContains f fd) (T : PTxt K mg C) (I : Cl P w K mg base 1 "is_integer" ["value"] (spIsIntG K)) (HW : Cl P w K mg base 1 "_how_many_upto" ["numbers", "x"] (spHow K)) : FnOk P w K mg base CX0 2 f fd ["self", "x"] (spCon K C) := by
  refine F.ok scCon (fun vs H Q E h => ?_) (fun cdv A outer s H vs Q E hr h => ?_)
  · obtain ⟨p, l, v, rfl, _⟩ := h
    rfl
  · obtain ⟨p, l, v, rfl, hp, h⟩ := h
    have nd := scCon.nd
    refine ⟨_, pss_cons (ps_if (pt_not (pt_val (pe_cl I hr (by decide) (by rfl) (pa_cons (pv 1) pa_nil)))) (pss_one (ps_ret pe_bl)) pss_nil)
      (pss_cons (ps_set (i := 2) nd rfl (.inl rfl) (pe_cl HW hr (by decide) (by rfl) (pa_cons (pe_fld (pv 0) rfl) (pa_cons (pv 1) pa_nil))))
      (pss_one (ps_ret (pe_and (pe_cmpR op_gt (pv 2) pe_int (nomark _)) (pe_one (pe_cmpR op_le (pv 1) (pe_ix ix_tup (pe_ix ix_tup (pe_fld (pv 0) rfl) (pe_op op_sub (pv 2) pe_int) (fun _ _ => rfl)) pe_int (fun _ _ => rfl)) (nomark _))))))), ?_⟩
    rcases h with ⟨x, rfl, q⟩ | ⟨ty, b1, b2, hT, h1, h2, hb, q⟩
    · refine ⟨_, rfl, .int x, "int", true, false, rfl, .base (.int x), by decide +kernel, by decide +kernel, _, rfl, iteF ?_⟩
      obtain ⟨nf, dx, t, fi, b, M, e1, e2, e3, e4, e5, e6, e7⟩ := id hp
      rw [firsts_v] at e5
      refine ⟨_, rfl, p, C, dx, _, _, rfl, e1, T.cl, T.nF, pFl_f _ _ _, _, rfl, fi, x, _, rfl, .inl (.inl e5), by rw [List.length_map, ← e4, rws_len]; exact e7, firsts_asc nf, fun n u => ?_⟩
      have hu := has_upto nf u
      refine ⟨_, rfl, _, _, rfl, rfl, _, rfl, ?_⟩
      cases n with
      | zero =>
        have e : hasB l x = false := by
          cases h : hasB l x with
          | false => rfl
          | true =>
            obtain ⟨m, r, c, _⟩ := hu.mp h
            omega
        rw [e] at q
        exact iteF q
      | succ m =>
        have pos : decide ((0 : Int) < ((m + 1 : Nat) : Int)) = true := decide_eq_true (by omega)
        rw [show decide (((m + 1 : Nat) : Int) > 0) = true from pos]
        have hl := u.le
        rw [List.length_map] at hl
        obtain ⟨r, hr'⟩ : ∃ r, l[m]? = some r := ⟨l[m], List.getElem?_eq_getElem (by omega)⟩
        have hr2 := hr'
        rw [← e4] at hr2
        obtain ⟨z, hz, rfl⟩ : ∃ z, M[m]? = some z ∧ z.2 = r := by
          unfold rws at hr2
          rw [List.getElem?_map] at hr2
          cases e : M[m]? with
          | none => rw [e] at hr2; cases hr2
          | some z => rw [e] at hr2; exact ⟨z, rfl, Option.some.inj hr2⟩
        have ez := e3 z (List.mem_of_getElem? hz)
        refine iteT ⟨_, rfl, _, rfl, p, C, dx, _, _, rfl, e1, T.cl, T.nS, pFl_s _ _ _, _, rfl, _, _, rfl, rfl, t, refs M, _, .ref z.1, rfl, rfl, .inl (.inl e2), ?_, z.1, _, 1, .int z.2.2, rfl, rfl, .inl (.inl ez), atI_nat (j := 1) rfl, _, _, rfl, rfl, ?_⟩
        · rw [show ((m + 1 : Nat) : Int) - 1 = (m : Int) by omega]
          exact atI_nat (by unfold refs; rw [List.getElem?_map, hz]; rfl)
        · have e : hasB l x = decide (x ≤ z.2.2) := by
            rw [Bool.eq_iff_iff, hu, decide_eq_true_eq]
            constructor
            · rintro ⟨m', r, h3, h4, h5⟩
              have : m' = m := by omega
              subst this
              rw [h4] at hr'
              rw [← Option.some.inj hr']
              exact h5
            · intro h5
              exact ⟨m, z.2, rfl, hr', h5⟩
          rw [e] at q
          exact q
    · exact ⟨_, rfl, v, ty, b1, b2, rfl, hT, h1, h2, _, rfl, by rw [hb]; exact iteT q⟩
theorem scRank : FnScope ["self", "x", "at", "first", "last"] ["self", "x"] (defScope sPlacesRank) := ⟨rfl, rfl, rfl, by decide +kernel, rfl, by decide +kernel, by decide +kernel⟩
theorem row_at {M : List ARow} {m : Nat} {r : Row} (h : (rws M)[m]? = some r) : ∃ z, M[m]? = some z ∧ z.2 = r := by
  unfold rws at h
  rw [List.getElem?_map] at h
  cases e : M[m]? with
  | none => rw [e] at h; cases h
  | some z => rw [e] at h; exact ⟨z, rfl, Option.some.inj h⟩
theorem ok_rank {f C : Addr} {fd : FuncData} (F : Fun K "rank" "Places.rank" sPlacesRank f fd) (T : PTxt K mg C) (zMin : mg "min" = none) (HW : Cl P w K mg base 1 "_how_many_upto" ["numbers", "x"] (spHow K)) : FnOk P w K mg base CX0 2 f fd ["self", "x"] (spRank C) := by
  refine F.ok scRank (fun vs H Q E h => ?_) (fun cdv A outer s H vs Q E hr h => ?_)
  · obtain ⟨p, x, l, rfl, _⟩ := h
    rfl
  · obtain ⟨p, x, l, rfl, hp, q⟩ := h
    have nd := scRank.nd
    refine ⟨_, pss_cons (ps_set (i := 2) nd rfl (.inl rfl) (pe_cl HW hr (by decide) (by rfl) (pa_cons (pe_fld (pv 0) rfl) (pa_cons (pv 1) pa_nil))))
      (pss_cons (ps_if (pt_cmpR op_eq (pv 2) pe_int (nomark _)) (pss_one (ps_ret pe_int)) pss_nil)
      (pss_cons (ps_asg (pe_ix ix_tup (pe_fld (pv 0) rfl) (pe_op op_sub (pv 2) pe_int) (fun _ _ => rfl)) (pg_tup rfl (pgs_cons (pg_name (i := 3) nd rfl (.inl rfl)) (pgs_cons (pg_name (i := 4) nd rfl (.inl rfl)) pgs_nil))))
      (pss_one (ps_ret (pe_op op_sub (pe_op op_add (pe_ix ix_tup (pe_fld (pv 0) rfl) (pe_op op_sub (pv 2) pe_int) (fun _ _ => rfl)) (pe_callB (call_min2 rfl) (by rfl) zMin bt_min (pa_cons (pv 1) (pa_cons (pe_op op_add (pv 4) pe_int) pa_nil)))) (pv 3)))))), ?_⟩
    obtain ⟨nf, dx, t, fi, b, M, e1, e2, e3, e4, e5, e6, e7⟩ := id hp
    rw [firsts_v] at e5
    refine ⟨_, rfl, p, C, dx, _, _, rfl, e1, T.cl, T.nF, pFl_f _ _ _, _, rfl, fi, x, _, rfl, .inl (.inl e5), by rw [List.length_map, ← e4, rws_len]; exact e7, firsts_asc nf, fun n u => ?_⟩
    obtain ⟨k0, k1⟩ := rank_upto nf u
    refine ⟨_, rfl, rfl, _, rfl, ?_⟩
    cases n with
    | zero =>
      rw [k0 rfl] at q
      exact iteT q
    | succ m =>
      have ne : decide (V.int ((m + 1 : Nat) : Int) = V.int 0) = false := decide_eq_false fun e => by have := V.int.inj e; omega
      rw [ne]
      refine iteF ?_
      have hl := u.le
      rw [List.length_map] at hl
      obtain ⟨r, hr'⟩ : ∃ r, l[m]? = some r := ⟨l[m], List.getElem?_eq_getElem (by omega)⟩
      obtain ⟨z, hz, ezr⟩ := row_at (show (rws M)[m]? = some r by rw [e4]; exact hr')
      have ez := e3 z (List.mem_of_getElem? hz)
      have em : ((m + 1 : Nat) : Int) - 1 = (m : Int) := by omega
      refine ⟨_, rfl, p, C, dx, _, _, rfl, e1, T.cl, T.nS, pFl_s _ _ _, _, rfl, _, _, rfl, rfl, t, refs M, _, .ref z.1, rfl, rfl, .inl (.inl e2), ?_, z.1, _, rfl, .inl (.inl ez), rfl, _, _, rfl, _, _, rfl, rfl, ?_⟩
      · rw [em]
        exact atI_nat (by unfold refs; rw [List.getElem?_map, hz]; rfl)
      refine ⟨_, rfl, p, C, dx, _, _, rfl, e1, T.cl, T.nB, pFl_b _ _ _, _, rfl, _, _, rfl, rfl, b, _, _, .int (tot (l.take m)), rfl, rfl, .inl (.inl e6), ?_, _, rfl, _, rfl, _, _, rfl, rfl, _, _, rfl, _, _, rfl, rfl, _, rfl, _, _, rfl, rfl, ?_⟩
      · rw [em]
        exact atI_nat (by rw [List.getElem?_map, befs_at (by omega)]; rfl)
      · have e := k1 m r rfl hr'
        rw [e, ← ezr] at q
        exact q
end
/-! ### stretches within -/
def inS (l : List Row) (a b : Int) : Bool := l.any fun r => decide (r.1 ≤ a) && decide (b ≤ r.2)
theorem inS_iff (l : List Row) (a b : Int) : inS l a b = true ↔ ∃ r ∈ l, r.1 ≤ a ∧ b ≤ r.2 := by
  unfold inS
  rw [List.any_eq_true]
  constructor
  · rintro ⟨r, hr, h⟩
    rw [Bool.and_eq_true, decide_eq_true_eq, decide_eq_true_eq] at h
    exact ⟨r, hr, h⟩
  · rintro ⟨r, hr, h⟩
    exact ⟨r, hr, by rw [Bool.and_eq_true, decide_eq_true_eq, decide_eq_true_eq]; exact h⟩
theorem rk_step : ∀ {l : List Row}, Nf l → ∀ z : Int, (mem l z → rk l (z + 1) = rk l z + 1) ∧ (¬ mem l z → rk l (z + 1) = rk l z)
  | [], _, z => ⟨fun h => absurd h (mem_nil z), fun _ => rfl⟩
  | r :: l, n, z => by
    have ih := rk_step n.tail z
    have ho := n.ok r List.mem_cons_self
    have gap : ∀ q ∈ l, r.2 + 1 < q.1 := (List.pairwise_cons.mp n.gap).1
    have m1 := mn_ok r.2 (z + 1 - 1)
    have m2 := mn_ok r.2 (z - 1)
    rw [rk_cons, rk_cons]
    have one : (r.1 ≤ z ∧ z ≤ r.2) → ¬ mem l z := fun h ⟨q, hq, h1, _⟩ => by have := gap q hq; omega
    by_cases c : r.1 ≤ z ∧ z ≤ r.2
    · have e := ih.2 (one c)
      have : (if r.1 < z + 1 then rkT (z + 1) r else 0) = (if r.1 < z then rkT z r else 0) + 1 := by
        unfold rkT
        split <;> split <;> omega
      exact ⟨fun _ => by omega, fun h => absurd ⟨r, List.mem_cons_self, c.1, c.2⟩ h⟩
    · have : (if r.1 < z + 1 then rkT (z + 1) r else 0) = (if r.1 < z then rkT z r else 0) := by
        unfold rkT
        split <;> split <;> omega
      constructor
      · rintro ⟨q, hq, h1, h2⟩
        rcases List.mem_cons.mp hq with e | e
        · subst e
          exact absurd ⟨h1, h2⟩ c
        · have := ih.1 ⟨q, e, h1, h2⟩
          omega
      · intro h
        have := ih.2 fun ⟨q, hq, h1, h2⟩ => h ⟨q, List.mem_cons_of_mem _ hq, h1, h2⟩
        omega
theorem rk_span {l : List Row} (n : Nf l) (a : Int) : ∀ k : Nat, rk l (a + k) - rk l a ≤ k ∧ (rk l (a + k) - rk l a = k ↔ ∀ z, a ≤ z → z < a + k → mem l z)
  | 0 => by
    rw [show a + ((0 : Nat) : Int) = a by omega]
    refine ⟨by omega, fun _ z h1 h2 => by omega, fun _ => by omega⟩
  | k + 1 => by
    obtain ⟨i1, i2⟩ := rk_span n a k
    have st := rk_step n (a + k)
    rw [show a + ((k + 1 : Nat) : Int) = a + k + 1 by omega]
    by_cases c : mem l (a + k)
    · have e := st.1 c
      refine ⟨by omega, fun h z h1 h2 => ?_, fun h => ?_⟩
      · by_cases cz : z = a + k
        · rw [cz]; exact c
        · exact i2.mp (by omega) z h1 (by omega)
      · have := i2.mpr fun z h1 h2 => h z h1 (by omega)
        omega
    · have e := st.2 c
      refine ⟨by omega, fun h => by omega, fun h => absurd (h (a + k) (by omega) (by omega)) c⟩
theorem swept_eq {l : List Row} (n : Nf l) {a b : Int} (h : a ≤ b) : (hasB l b && decide (V.int (rk l b - rk l a) = V.int (b - a))) = inS l a b := by
  have ek : b = a + ((b - a).toNat : Int) := by omega
  have sp := rk_span n a (b - a).toNat
  rw [← ek] at sp
  rw [Bool.eq_iff_iff, Bool.and_eq_true, hasB_iff, decide_eq_true_eq, inS_iff]
  constructor
  · rintro ⟨⟨r, hr, h1, h2⟩, e⟩
    have e := V.int.inj e
    refine ⟨r, hr, ?_, h2⟩
    refine Classical.byContradiction fun c => ?_
    obtain ⟨q, hq, q1, q2⟩ := sp.2.mp (by omega) (r.1 - 1) (by omega) (by omega)
    obtain ⟨i, hi⟩ := List.getElem?_of_mem hq
    obtain ⟨j, hj⟩ := List.getElem?_of_mem hr
    have oq := n.ok q hq
    rcases Nat.lt_trichotomy i j with k | k | k
    · have := nf_lt n hi hj k
      omega
    · subst k
      rw [hi] at hj
      cases hj
      omega
    · have := nf_lt n hj hi k
      have or_ := n.ok r hr
      omega
  · rintro ⟨r, hr, h1, h2⟩
    refine ⟨⟨r, hr, by omega, h2⟩, ?_⟩
    have := sp.2.mpr fun z z1 z2 => ⟨r, hr, by omega, by omega⟩
    congr 1
    omega
end OR

namespace OR
open PySem PySem.Spec PyProof.Rows L2
section
variable {C : Addr} {H : Hp} {Q : VK} {x y : Addr} {a b c d n : Int}
theorem rd_addS (hx : IsL C H x a b) (hy : IsL C H y c d) (q : ∀ z H', H z = none → IsL C H' z (a + c) (b + d) → Same H H' → Q (.ref z) H') : rBinS C (spLAdd C) (.ref x) (.ref y) H Q := by
  obtain ⟨dx, hx⟩ := hx
  obtain ⟨dy, hy⟩ := hy
  exact ⟨x, y, dx, dy, _, _, rfl, rfl, hx, hy, x, a, b, ⟨dx, hx⟩, .inl ⟨y, c, d, rfl, ⟨dy, hy⟩, q⟩⟩
theorem rd_subS (hx : IsL C H x a b) (hy : IsL C H y c d) (q : ∀ z H', H z = none → IsL C H' z (a - c) (b - d) → Same H H' → Q (.ref z) H') : rBinS C (spLSub C) (.ref x) (.ref y) H Q := by
  obtain ⟨dx, hx⟩ := hx
  obtain ⟨dy, hy⟩ := hy
  exact ⟨x, y, dx, dy, _, _, rfl, rfl, hx, hy, x, a, b, ⟨dx, hx⟩, .inl ⟨y, c, d, rfl, ⟨dy, hy⟩, q⟩⟩
theorem rd_addI (hx : IsL C H x a b) (q : ∀ z H', H z = none → IsL C H' z a (b + n) → Same H H' → Q (.ref z) H') : rBinI C (spLAdd C) (.ref x) (.int n) H Q := by
  obtain ⟨dx, hx⟩ := hx
  exact ⟨x, dx, _, n, rfl, rfl, hx, x, a, b, ⟨dx, hx⟩, .inr ⟨n, rfl, q⟩⟩
theorem rd_mulI (hx : IsL C H x a b) (h1 : CMulW a n) (h2 : CMulW b n) (q : ∀ z H', H z = none → IsL C H' z (a * n) (b * n) → Same H H' → Q (.ref z) H') : rBinI C (spLMul C) (.ref x) (.int n) H Q := by
  obtain ⟨dx, hx⟩ := hx
  exact ⟨x, dx, _, n, rfl, rfl, hx, x, a, b, n, rfl, ⟨dx, hx⟩, h1, h2, q⟩
theorem rd_neg (hx : IsL C H x a b) (q : ∀ z H', H z = none → IsL C H' z (-a) (-b) → Same H H' → Q (.ref z) H') : rNegO C (spLNeg C) (.ref x) H Q := by
  obtain ⟨dx, hx⟩ := hx
  exact ⟨x, dx, _, rfl, hx, x, a, b, rfl, ⟨dx, hx⟩, q⟩
end
/-! ### hops with spots and the lines of their costs -/
structure HM where
  i : Nat
  st : V
  b : Spot
  g : V
  e : Spot
def HopAt (K : PySem.W.Frag) (H : Hp) (v : V) (h : HM) : Prop := ∃ t b e, v = .ref t ∧ (SqT K H t [.int (h.i : Nat), h.st, b, h.g, e] ∨ SqL K H t [.int (h.i : Nat), h.st, b, h.g, e]) ∧ SpotAt H b h.b ∧ SpotAt H e h.e
theorem HopAt.same {K : PySem.W.Frag} {H H' : Hp} {v : V} {h : HM} (a : HopAt K H v h) (s : Same H H') : HopAt K H' v h := by
  obtain ⟨t, b, e, h1, h2, h3, h4⟩ := a
  exact ⟨t, b, e, h1, h2.elim (fun e => .inl (sameT s e)) (fun e => .inr (s.seq e)), h3.same s, h4.same s⟩
def BB (n : Int) : Prop := n.natAbs < 2 ^ 1000
theorem cwBB {a n : Int} (h : a.natAbs < 2 ^ 3000) (h2 : n.natAbs < 2 ^ 3000) : CMulW a n := wide_mul (a := 3000) (b := 3000) h h2 (by decide) (by decide) (by decide)
theorem BB.w {a : Int} (h : BB a) : a.natAbs < 2 ^ 3000 := Nat.lt_trans h (by decide +kernel)
/-- the numbers of a clause -/
def NumC (m : CM) (a h : Int) : Prop := (m.1 = 4 ∧ ∃ s, m.2.2.2 = [.str s, .int a, .int h]) ∨ (m.1 = 5 ∧ ∃ s g, m.2.2.2 = [.str s, .str g, .int a, .int h]) ∨ (m.1 = 6 ∧ a = 0 ∧ ∃ s, m.2.2.2 = [.str s, .int h])
def lnP (k : Nat) (a h : Int) (b : Spot) (same : Bool) (e : Spot) : Int × Int :=
  if k = 6 then ((slp e - slp b) * h, (e.2 - b.2) * h) else if same = true then (slp b * a, b.2 * a + h) else (-(slp b * a), -(b.2 * a + h))
def costI (k : Nat) (a h p : Int) (same : Bool) (q : Int) : Int := if k = 6 then h * (q - p) else if same = true then a * p + h else -(a * p + h)
theorem lnP_at (k : Nat) (a h x : Int) (b : Spot) (same : Bool) (e : Spot) : (lnP k a h b same e).1 * x + (lnP k a h b same e).2 = costI k a h (plc b x) same (plc e x) := by
  unfold lnP costI plc
  split
  · simp only [Int.sub_mul, Int.mul_add, Int.add_mul, Int.mul_sub]
    have e1 : h * (slp e * x) = slp e * h * x := by rw [Int.mul_comm h, Int.mul_assoc, Int.mul_comm x, ← Int.mul_assoc]
    have e2 : h * (slp b * x) = slp b * h * x := by rw [Int.mul_comm h, Int.mul_assoc, Int.mul_comm x, ← Int.mul_assoc]
    rw [e1, e2, Int.mul_comm h e.2, Int.mul_comm h b.2]
    omega
  · have e1 : slp b * a * x = a * (slp b * x) := by rw [Int.mul_comm (slp b), Int.mul_assoc]
    split
    · rw [Int.mul_add, e1, Int.mul_comm b.2]
      omega
    · simp only [Int.neg_mul, Int.mul_add]
      rw [e1, Int.mul_comm b.2]
      omega
def eqS (g : V) (f : Str) : Bool := decide (g = .str f)
/-- the line of a hop -/
def HopL (ms : List CM) (h : HM) (L : Int × Int) : Prop := ∃ m a c, ms[h.i]? = some m ∧ NumC m a c ∧ BB a ∧ BB c ∧ BB h.b.2 ∧ BB h.e.2 ∧ scal h.g (.str m.2.1) = true ∧ L = lnP m.1 a c h.b (eqS h.g m.2.1) h.e
def sumL : List (Int × Int) → Int × Int
  | [] => (0, 0)
  | q :: r => (q.1 + (sumL r).1, q.2 + (sumL r).2)
theorem sumL_app (a b : List (Int × Int)) : sumL (a ++ b) = ((sumL a).1 + (sumL b).1, (sumL a).2 + (sumL b).2) := by
  induction a with
  | nil => simp [sumL]
  | cons q r ih => simp only [List.cons_append, sumL, ih, Prod.mk.injEq]; omega
theorem sumL_rev (a : List (Int × Int)) : sumL a.reverse = sumL a := by
  induction a with
  | nil => rfl
  | cons q r ih => rw [List.reverse_cons, sumL_app, ih]; simp only [sumL, Prod.mk.injEq]; omega
theorem sumL_take {a : List (Int × Int)} {i : Nat} {q : Int × Int} (h : a[i]? = some q) : sumL (a.take (i + 1)) = ((sumL (a.take i)).1 + q.1, (sumL (a.take i)).2 + q.2) := by
  rw [List.take_add_one, h, sumL_app]
  simp [sumL]
def spHopLine (K : PySem.W.Frag) (CR CP CL : Addr) (C : Nat → Addr) : Sp := fun vs H Q _ => ∃ (x : Addr) (v : V) (fs : List Str) (n : Int) (ms : List CM) (h : HM) (L : Int × Int), vs = [.ref x, v] ∧ IsR K CR CP C H x fs n ms ∧ HopAt K H v h ∧ HopL ms h L ∧ ∀ z H', H z = none → IsL CL H' z L.1 L.2 → Same H H' → Q (.ref z) H'
section
variable {P : Program} {w : World} {K : PySem.W.Frag} {mg : Str → Option Value} {base : Heap} {CR CP CL : Addr} {C : Nat → Addr}
theorem scHL : FnScope ["rules", "hop", "index", "_", "begin", "goal", "end", "clause", "line"] ["rules", "hop"] (defScope pHopLine) := ⟨rfl, rfl, rfl, by decide +kernel, rfl, by decide +kernel, by decide +kernel⟩
theorem ok_hopline {f : Addr} {fd : FuncData} (F : Fun K "hop_line" "hop_line" pHopLine f fd) (R : RTxt K mg CR) (CT : CTxt K mg C) (T : LTxt K mg CL) (SL : Cl P w K mg base 3 "spot_line" ["value"] (spSpotLine CL))
    (A1 : Md P w K mg base 3 CL (PySem.dunder (Operator.info .Add).2) (spLAdd CL)) (A2 : BinI K CL .Add) (S1 : Md P w K mg base 4 CL (PySem.dunder (Operator.info .Sub).2) (spLSub CL)) (M1 : Md P w K mg base 3 CL (PySem.dunder (Operator.info .Mult).2) (spLMul CL)) (M2 : BinI K CL .Mult) (N1 : Md P w K mg base 3 CL "__neg__" (spLNeg CL)) : FnOk P w K mg base CX0 5 f fd ["rules", "hop"] (spHopLine K CR CP CL C) := by
  refine F.ok scHL (fun vs H Q E h => ?_) (fun cdv A outer s H vs Q E hr h => ?_)
  · obtain ⟨_, _, _, _, _, _, _, rfl, _⟩ := h
    rfl
  · obtain ⟨x, v, fs, n, ms, ⟨i, st, bs, g, es⟩, L, rfl, hR, ⟨t, b, e, rfl, ht, hb, he⟩, ⟨m, a, c, hm, hN, ba, bc, bb, be, hg, eL⟩, q⟩ := h
    have nd := scHL.nd
    have hr3 : Room 3 _ := hr.mono (show 3 ≤ 4 by decide)
    refine ⟨_, pss_cons (ps_asg (pv 1) (pg_or (pg_tup rfl (pgs_cons (pg_name (i := 2) nd rfl (.inl rfl)) (pgs_cons (pg_name (i := 3) nd rfl (.inl rfl)) (pgs_cons (pg_name (i := 4) nd rfl (.inl rfl)) (pgs_cons (pg_name (i := 5) nd rfl (.inl rfl)) (pgs_cons (pg_name (i := 6) nd rfl (.inl rfl)) pgs_nil)))))) (pg_unl rfl (pgs_cons (pg_name (i := 2) nd rfl (.inl rfl)) (pgs_cons (pg_name (i := 3) nd rfl (.inl rfl)) (pgs_cons (pg_name (i := 4) nd rfl (.inl rfl)) (pgs_cons (pg_name (i := 5) nd rfl (.inl rfl)) (pgs_cons (pg_name (i := 6) nd rfl (.inl rfl)) pgs_nil))))))))
      (pss_cons (ps_set (i := 7) nd rfl (.inl rfl) (pe_ix (ix_tupK K rfl) (pe_fld (pv 0) rfl) (pv 2) (fun _ _ => rfl)))
      (pss_cons (ps_if (pt_cmpR op_eq (pe_fld (pv 7) rfl) pe_str (nomark _))
          (pss_one (ps_ret (pe_op (op_binI M1 M2 T.sf hr3) (pe_op (op_binS S1 T.sf hr) (pe_cl SL hr (by decide) (by rfl) (pa_cons (pv 6) pa_nil)) (pe_cl SL hr (by decide) (by rfl) (pa_cons (pv 4) pa_nil))) (pe_fld (pv 7) rfl))))
          pss_nil)
      (pss_cons (ps_set (i := 8) nd rfl (.inl rfl) (pe_op (op_binI A1 A2 T.sf hr3) (pe_op (op_binI M1 M2 T.sf hr3) (pe_cl SL hr (by decide) (by rfl) (pa_cons (pv 4) pa_nil)) (pe_fld (pv 7) rfl)) (pe_fld (pv 7) rfl)))
      (pss_one (ps_ret (pe_ifExp (pt_cmpR op_eq (pv 5) (pe_fld (pv 7) rfl) (nomark _)) (pv 8) (pe_un (un_negO N1 hr3) (pv 8)))))))), ?_⟩
    obtain ⟨dx, fa, ta, xs, hx, _, hT, hA⟩ := id hR
    rcases ht with ht | ht
    · refine ⟨_, rfl, .inl ⟨t, _, rfl, ht, rfl, _, _, rfl, _, _, rfl, _, _, rfl, _, _, rfl, _, _, rfl, rfl, ?_⟩⟩
      have hi : i < xs.length := by rw [hA.length]; exact (List.getElem?_eq_some_iff.mp hm).1
      obtain ⟨z, hz, hC⟩ := hA.get (List.getElem?_eq_getElem hi) hm
      refine ⟨_, rfl, x, CR, dx, _, _, rfl, hx, R.cl, R.nT, rFl_t _ _ _, _, rfl, ta, xs, (i : Nat), _, rfl, rfl, hT, atI_nat (List.getElem?_eq_getElem hi), ?_⟩
      rw [hz]
      obtain ⟨dz, pl, hzz, _⟩ := hC.ex
      have hlt := hC.lt
      have fK := fun Q (q : Q (V.str (kName m.1))) => fld (Q := Q) CT hzz hlt (j := 0) rfl rfl q
      have fF := fun Q (q : Q (V.str m.2.1)) => fld (Q := Q) CT hzz hlt (j := 1) rfl rfl q
      refine ⟨_, rfl, fK _ ?_⟩
      refine ⟨rfl, _, rfl, ?_⟩
      have wS : ∀ sp : Spot, (slp sp).natAbs < 2 ^ 3000 := fun sp => by unfold slp; split <;> decide +kernel
      have hL : L = lnP m.1 a c bs (eqS g m.2.1) es := eL
      have diffB : (es.2 - bs.2).natAbs < 2 ^ 3000 := by
        have h1 : es.2.natAbs < 2 ^ 1000 := be
        have h2 : bs.2.natAbs < 2 ^ 1000 := bb
        have h3 : (es.2 - bs.2).natAbs < 2 ^ 1001 := by
          have e : (2 : Nat) ^ 1001 = 2 ^ 1000 + 2 ^ 1000 := by decide +kernel
          rw [e]
          generalize (2 : Nat) ^ 1000 = N at h1 h2
          omega
        exact Nat.lt_trans h3 (by decide +kernel)
      have diffS : (slp es - slp bs).natAbs < 2 ^ 3000 := by
        unfold slp
        split <;> split <;> decide +kernel
      have facts : (m.1 = 6 ∧ ∃ s, m.2.2.2 = [.str s, .int c]) ∨ (m.1 ≠ 6 ∧ decide (V.str (kName m.1) = V.str "step") = false ∧ (∃ j : Nat, (allNames m.1)[j]? = some "slope" ∧ (cVals m.1 m.2.1 pl m.2.2.2)[j]? = some (V.int a)) ∧ ∃ j : Nat, (allNames m.1)[j]? = some "height" ∧ (cVals m.1 m.2.1 pl m.2.2.2)[j]? = some (V.int c)) := by
        rcases hN with ⟨hk, s, hx2⟩ | ⟨hk, s, g2, hx2⟩ | ⟨hk, ha0, s, hx2⟩
        · exact .inr ⟨by rw [hk]; decide, by rw [hk]; decide +kernel, ⟨4, by rw [hk]; rfl, by rw [hx2]; rfl⟩, ⟨5, by rw [hk]; rfl, by rw [hx2]; rfl⟩⟩
        · exact .inr ⟨by rw [hk]; decide, by rw [hk]; decide +kernel, ⟨5, by rw [hk]; rfl, by rw [hx2]; rfl⟩, ⟨6, by rw [hk]; rfl, by rw [hx2]; rfl⟩⟩
        · exact .inl ⟨hk, s, hx2⟩
      rcases facts with ⟨hk, s, hx2⟩ | ⟨h6, hkk, ⟨j, hs, vs⟩, ⟨j2, hs2, vs2⟩⟩
      · rw [hk] at hzz
        rw [hx2] at hzz
        refine ite2 (fun _ => ?_) (fun c => absurd (decide_eq_true (by rw [hk]; rfl)) c)
        refine ⟨_, rfl, e, es, rfl, he, fun z1 H1 n1 hz1 s1 => ⟨_, rfl, b, bs, rfl, hb.same s1, fun z2 H2 n2 hz2 s2 => ?_⟩⟩
        refine rd_subS (hz1.same s2) hz2 fun z3 H3 n3 hz3 s3 => ?_
        have s123 := (s1.trans s2).trans s3
        refine ⟨_, rfl, fld CT (s123 _ _ hzz) (by decide) (j := 4) rfl rfl ?_⟩
        refine rd_mulI hz3 (cwBB diffS bc.w) (cwBB diffB bc.w) fun z4 H4 n4 hz4 s4 => ?_
        unfold lnP at hL
        rw [if_pos hk] at hL
        subst hL
        exact q z4 H4 (s123.free n4) hz4 (s123.trans s4)
      · refine iteB hkk ?_
        refine ⟨_, rfl, b, bs, rfl, hb, fun z1 H1 n1 hz1 s1 => ?_⟩
        refine ⟨_, rfl, fld CT (s1 _ _ hzz) hlt hs vs ?_⟩
        refine rd_mulI hz1 (cwBB (wS _) ba.w) (cwBB bb.w ba.w) fun z2 H2 n2 hz2 s2 => ?_
        have s12 := s1.trans s2
        refine ⟨_, rfl, fld CT (s12 _ _ hzz) hlt hs2 vs2 ?_⟩
        refine rd_addI hz2 fun z3 H3 n3 hz3 s3 => ?_
        have s123 := s12.trans s3
        refine ⟨_, rfl, _, rfl, fld CT (s123 _ _ hzz) hlt (j := 1) rfl rfl ?_⟩
        refine ⟨hg, _, rfl, ?_⟩
        unfold lnP at hL
        rw [if_neg h6] at hL
        unfold eqS at hL
        refine ite2 (fun e => ?_) (fun e => ?_)
        · rw [if_pos e] at hL
          subst hL
          exact ⟨_, rfl, q z3 H3 (s12.free n3) hz3 s123⟩
        · rw [if_neg e] at hL
          subst hL
          exact ⟨_, rfl, rd_neg hz3 fun z4 H4 n4 hz4 s4 => q z4 H4 (s123.free n4) hz4 (s123.trans s4)⟩
    · refine ⟨_, rfl, .inr ⟨t, _, rfl, ht, rfl, _, _, rfl, _, _, rfl, _, _, rfl, _, _, rfl, _, _, rfl, rfl, ?_⟩⟩
      have hi : i < xs.length := by rw [hA.length]; exact (List.getElem?_eq_some_iff.mp hm).1
      obtain ⟨z, hz, hC⟩ := hA.get (List.getElem?_eq_getElem hi) hm
      refine ⟨_, rfl, x, CR, dx, _, _, rfl, hx, R.cl, R.nT, rFl_t _ _ _, _, rfl, ta, xs, (i : Nat), _, rfl, rfl, hT, atI_nat (List.getElem?_eq_getElem hi), ?_⟩
      rw [hz]
      obtain ⟨dz, pl, hzz, _⟩ := hC.ex
      have hlt := hC.lt
      have fK := fun Q (q : Q (V.str (kName m.1))) => fld (Q := Q) CT hzz hlt (j := 0) rfl rfl q
      have fF := fun Q (q : Q (V.str m.2.1)) => fld (Q := Q) CT hzz hlt (j := 1) rfl rfl q
      refine ⟨_, rfl, fK _ ?_⟩
      refine ⟨rfl, _, rfl, ?_⟩
      have wS : ∀ sp : Spot, (slp sp).natAbs < 2 ^ 3000 := fun sp => by unfold slp; split <;> decide +kernel
      have hL : L = lnP m.1 a c bs (eqS g m.2.1) es := eL
      have diffB : (es.2 - bs.2).natAbs < 2 ^ 3000 := by
        have h1 : es.2.natAbs < 2 ^ 1000 := be
        have h2 : bs.2.natAbs < 2 ^ 1000 := bb
        have h3 : (es.2 - bs.2).natAbs < 2 ^ 1001 := by
          have e : (2 : Nat) ^ 1001 = 2 ^ 1000 + 2 ^ 1000 := by decide +kernel
          rw [e]
          generalize (2 : Nat) ^ 1000 = N at h1 h2
          omega
        exact Nat.lt_trans h3 (by decide +kernel)
      have diffS : (slp es - slp bs).natAbs < 2 ^ 3000 := by
        unfold slp
        split <;> split <;> decide +kernel
      have facts : (m.1 = 6 ∧ ∃ s, m.2.2.2 = [.str s, .int c]) ∨ (m.1 ≠ 6 ∧ decide (V.str (kName m.1) = V.str "step") = false ∧ (∃ j : Nat, (allNames m.1)[j]? = some "slope" ∧ (cVals m.1 m.2.1 pl m.2.2.2)[j]? = some (V.int a)) ∧ ∃ j : Nat, (allNames m.1)[j]? = some "height" ∧ (cVals m.1 m.2.1 pl m.2.2.2)[j]? = some (V.int c)) := by
        rcases hN with ⟨hk, s, hx2⟩ | ⟨hk, s, g2, hx2⟩ | ⟨hk, ha0, s, hx2⟩
        · exact .inr ⟨by rw [hk]; decide, by rw [hk]; decide +kernel, ⟨4, by rw [hk]; rfl, by rw [hx2]; rfl⟩, ⟨5, by rw [hk]; rfl, by rw [hx2]; rfl⟩⟩
        · exact .inr ⟨by rw [hk]; decide, by rw [hk]; decide +kernel, ⟨5, by rw [hk]; rfl, by rw [hx2]; rfl⟩, ⟨6, by rw [hk]; rfl, by rw [hx2]; rfl⟩⟩
        · exact .inl ⟨hk, s, hx2⟩
      rcases facts with ⟨hk, s, hx2⟩ | ⟨h6, hkk, ⟨j, hs, vs⟩, ⟨j2, hs2, vs2⟩⟩
      · rw [hk] at hzz
        rw [hx2] at hzz
        refine ite2 (fun _ => ?_) (fun c => absurd (decide_eq_true (by rw [hk]; rfl)) c)
        refine ⟨_, rfl, e, es, rfl, he, fun z1 H1 n1 hz1 s1 => ⟨_, rfl, b, bs, rfl, hb.same s1, fun z2 H2 n2 hz2 s2 => ?_⟩⟩
        refine rd_subS (hz1.same s2) hz2 fun z3 H3 n3 hz3 s3 => ?_
        have s123 := (s1.trans s2).trans s3
        refine ⟨_, rfl, fld CT (s123 _ _ hzz) (by decide) (j := 4) rfl rfl ?_⟩
        refine rd_mulI hz3 (cwBB diffS bc.w) (cwBB diffB bc.w) fun z4 H4 n4 hz4 s4 => ?_
        unfold lnP at hL
        rw [if_pos hk] at hL
        subst hL
        exact q z4 H4 (s123.free n4) hz4 (s123.trans s4)
      · refine iteB hkk ?_
        refine ⟨_, rfl, b, bs, rfl, hb, fun z1 H1 n1 hz1 s1 => ?_⟩
        refine ⟨_, rfl, fld CT (s1 _ _ hzz) hlt hs vs ?_⟩
        refine rd_mulI hz1 (cwBB (wS _) ba.w) (cwBB bb.w ba.w) fun z2 H2 n2 hz2 s2 => ?_
        have s12 := s1.trans s2
        refine ⟨_, rfl, fld CT (s12 _ _ hzz) hlt hs2 vs2 ?_⟩
        refine rd_addI hz2 fun z3 H3 n3 hz3 s3 => ?_
        have s123 := s12.trans s3
        refine ⟨_, rfl, _, rfl, fld CT (s123 _ _ hzz) hlt (j := 1) rfl rfl ?_⟩
        refine ⟨hg, _, rfl, ?_⟩
        unfold lnP at hL
        rw [if_neg h6] at hL
        unfold eqS at hL
        refine ite2 (fun e => ?_) (fun e => ?_)
        · rw [if_pos e] at hL
          subst hL
          exact ⟨_, rfl, q z3 H3 (s12.free n3) hz3 s123⟩
        · rw [if_neg e] at hL
          subst hL
          exact ⟨_, rfl, rd_neg hz3 fun z4 H4 n4 hz4 s4 => q z4 H4 (s123.free n4) hz4 (s123.trans s4)⟩
end
end OR

namespace OR
open PySem PySem.Spec PyProof.Rows L2
/-! ### stretches of x, hops that were read -/
theorem kFLs : ¬ (("first" : Str) = "last") := by decide +kernel
def sFl (a b : Int) : List (Str × V) := putF "last" (.int b) (putF "first" (.int a) [])
theorem sFl_f (a b : Int) : (sFl a b).lookup ("first" : Str) = some (.int a) := by
  unfold sFl
  rw [lookup_putF, if_neg kFLs, lookup_putF, if_pos rfl]
theorem sFl_l (a b : Int) : (sFl a b).lookup ("last" : Str) = some (.int b) := by
  unfold sFl
  rw [lookup_putF, if_pos rfl]
theorem sFl_no (a b : Int) {m : Str} (h1 : ¬ m = "first") (h2 : ¬ m = "last") : (sFl a b).lookup m = none := by
  unfold sFl
  rw [lookup_putF, if_neg h2, lookup_putF, if_neg h1]
  all_goals rfl
def IsS (C : Addr) (H : Hp) (x : Addr) (a b : Int) : Prop := ∃ dx, H x = some (.ins C dx (sFl a b))
theorem IsS.same {C : Addr} {H H' : Hp} {x : Addr} {a b : Int} (h : IsS C H x a b) (s : Same H H') : IsS C H' x a b := by
  obtain ⟨dx, e⟩ := h
  exact ⟨dx, s _ _ e⟩
structure STxt (K : PySem.W.Frag) (mg : Str → Option Value) (C : Addr) : Prop where
  cl : Cls K C
  nF : NoAttr K C "first"
  nL : NoAttr K C "last"
  mgC : mg "Stretch" = some (.ref C)
structure HTxt (K : PySem.W.Frag) (mg : Str → Option Value) (C : Addr) : Prop where
  cl : Cls K C
  no : ∀ n ∈ (["start", "begin", "goal", "end", "calls"] : List Str), NoAttr K C n
  mgC : mg "Hop" = some (.ref C)
def spSInit (C : Addr) : Sp := fun vs H Q _ => ∃ (p dx : Addr) (a b : Int), vs = [.ref p, .int a, .int b] ∧ H p = some (.ins C dx []) ∧ ∀ H', H' p = some (.ins C dx (sFl a b)) → (∀ c o, H c = some o → c ≠ p → H' c = some o) → Q .non H'
def spHInit (C : Addr) : Sp := fun vs H Q _ => ∃ (p dx : Addr) (a b c d e : V), vs = [.ref p, a, b, c, d, e] ∧ H p = some (.ins C dx []) ∧ ∀ fs H', H' p = some (.ins C dx fs) → (∀ c o, H c = some o → c ≠ p → H' c = some o) → Q .non H'
section
variable {P : Program} {w : World} {K : PySem.W.Frag} {mg : Str → Option Value} {base : Heap} {CS CH CL CP : Addr}
theorem scSI : FnScope ["self", "first", "last"] ["self", "first", "last"] (defScope sStretchInit) := ⟨rfl, rfl, rfl, by decide +kernel, rfl, by decide +kernel, by decide +kernel⟩
theorem ok_sinit {f : Addr} {fd : FuncData} (F : Fun K "__init__" "Stretch.__init__" sStretchInit f fd) (T : STxt K mg CS) : FnOk P w K mg base CX0 1 f fd ["self", "first", "last"] (spSInit CS) := by
  refine F.ok scSI (fun vs H Q E h => ?_) (fun cdv A outer s H vs Q E hr h => ?_)
  · obtain ⟨p, dx, a, b, rfl, _⟩ := h
    rfl
  · obtain ⟨p, dx, a, b, rfl, hp, q⟩ := h
    refine ⟨_, pss_cons (ps_fld (pv 0) (pv 1) rfl) (pss_one (ps_fld (pv 0) (pv 2) rfl)), ?_⟩
    refine ⟨_, rfl, _, rfl, p, CS, dx, [], rfl, hp, T.cl, T.nF, (by show 0 < 1000; decide), _, rfl, _, rfl, p, CS, dx, _, rfl, upd_same, T.cl, T.nL, (by show 1 < 1000; decide), ?_⟩
    refine q _ upd_same fun c o e n => ?_
    rw [upd_ne n, upd_ne n]
    exact e
theorem scHI : FnScope ["self", "start", "begin", "goal", "end", "calls"] ["self", "start", "begin", "goal", "end", "calls"] (defScope sHopInit) := ⟨rfl, rfl, rfl, by decide +kernel, rfl, by decide +kernel, by decide +kernel⟩
theorem ok_hinit {f : Addr} {fd : FuncData} (F : Fun K "__init__" "Hop.__init__" sHopInit f fd) (T : HTxt K mg CH) : FnOk P w K mg base CX0 1 f fd ["self", "start", "begin", "goal", "end", "calls"] (spHInit CH) := by
  refine F.ok scHI (fun vs H Q E h => ?_) (fun cdv A outer s H vs Q E hr h => ?_)
  · obtain ⟨p, dx, a, b, c, d, e, rfl, _⟩ := h
    rfl
  · obtain ⟨p, dx, a, b, c, d, e, rfl, hp, q⟩ := h
    refine ⟨_, pss_cons (ps_fld (pv 0) (pv 1) rfl) (pss_cons (ps_fld (pv 0) (pv 2) rfl) (pss_cons (ps_fld (pv 0) (pv 3) rfl) (pss_cons (ps_fld (pv 0) (pv 4) rfl) (pss_one (ps_fld (pv 0) (pv 5) rfl))))), ?_⟩
    have no : ∀ n ∈ (["start", "begin", "goal", "end", "calls"] : List Str), NoAttr K CH n := T.no
    refine ⟨_, rfl, _, rfl, p, CH, dx, [], rfl, hp, T.cl, no _ (by simp), (by show 0 < 1000; decide), _, rfl, _, rfl, p, CH, dx, _, rfl, upd_same, T.cl, no _ (by simp), (by show 1 < 1000; decide), _, rfl, _, rfl, p, CH, dx, _, rfl, upd_same, T.cl, no _ (by simp), (by show 2 < 1000; decide), _, rfl, _, rfl, p, CH, dx, _, rfl, upd_same, T.cl, no _ (by simp), (by show 3 < 1000; decide), _, rfl, _, rfl, p, CH, dx, _, rfl, upd_same, T.cl, no _ (by simp), (by show 4 < 1000; decide), ?_⟩
    refine q _ _ upd_same fun c o e n => ?_
    rw [upd_ne n, upd_ne n, upd_ne n, upd_ne n, upd_ne n]
    exact e
end
/-- a class that is made by its name; ini tells what the values of the arguments ask, got what is made -/
structure XMk (P : Program) (w : World) (K : PySem.W.Frag) (mg : Str → Option Value) (base : Heap) (C : Addr) (nm : Str) (ps : List Str) (sp : Sp) : Prop where
  made : ∃ f fd, Mk K C f ∧ FnOk P w K mg base CX0 1 f fd ps sp ∧ Binds K fd ps []
  mgC : mg nm = some (.ref C)
def tMkS (C : Addr) (t : TA) : TE := fun σ H Q => t σ H fun vs H1 => ∃ a b, vs = [.int a, .int b] ∧ ∀ x H', H1 x = none → IsS C H' x a b → Same H1 H' → Q (.ref x) H'
theorem pe_mkS {X : Cx} {C : Addr} {j : Nat} {e : Expr} {es : List Expr} {t : TA} {p pos : Pos} (M : XMk X.prog X.w X.K X.mg X.base C "Stretch" ["self", "first", "last"] (spSInit C)) (hr : Room j X.A) (hj : 2 ≤ j) (hg : Gl X "Stretch") (ha : PA X (e :: es) t)
    (he : starEach (e :: es) X.env = (false, eval e X.env) :: starEach es X.env := by rfl) (hpl : (backTo pos (starEach es X.env)).any (·.1) = false := by rfl) : PE X (.Call (.Name "Stretch" p) (e :: es) [] pos) (tMkS C t) := by
  obtain ⟨f, fd, mk, F, hb⟩ := M.made
  refine ⟨fun pins s σ H Q I h => ?_⟩
  refine wpAny_Call_Name_kw (ld_glob I hg M.mgC ?_ (by decide))
  refine PySem.W.callWith_K (h₀ := X.base) I.ok.mod.kin mk.kp (thn (ha.run pos pins s σ H _ I h) fun us s1 ⟨vs, H1, I1, r, q⟩ => ⟨I1.kIn, ?_⟩) he hpl
  obtain ⟨a, b, rfl, q⟩ := q
  refine run_make mk F (hr.mono hj) hb .nil pass0 I1 r fun x dx nx ndx nex => ?_
  refine ⟨x, dx, a, b, rfl, upd_same, fun H' hx hs => ⟨rfl, q x H' nx ⟨dx, hx⟩ fun c o e => ?_⟩⟩
  have ncx : c ≠ x := ne_of_none e nx
  refine hs c o ?_ ncx
  rw [upd_ne ncx, upd_ne (ne_of_none e ndx)]
  exact e
def tMkH (C : Addr) (t : TA) : TE := fun σ H Q => t σ H fun vs H1 => ∃ a b c d e, vs = [a, b, c, d, e] ∧ ∀ x dx fs H', H1 x = none → H' x = some (.ins C dx fs) → Same H1 H' → Q (.ref x) H'
theorem pe_mkH {X : Cx} {C : Addr} {j : Nat} {e : Expr} {es : List Expr} {t : TA} {p pos : Pos} (M : XMk X.prog X.w X.K X.mg X.base C "Hop" ["self", "start", "begin", "goal", "end", "calls"] (spHInit C)) (hr : Room j X.A) (hj : 2 ≤ j) (hg : Gl X "Hop") (ha : PA X (e :: es) t)
    (he : starEach (e :: es) X.env = (false, eval e X.env) :: starEach es X.env := by rfl) (hpl : (backTo pos (starEach es X.env)).any (·.1) = false := by rfl) : PE X (.Call (.Name "Hop" p) (e :: es) [] pos) (tMkH C t) := by
  obtain ⟨f, fd, mk, F, hb⟩ := M.made
  refine ⟨fun pins s σ H Q I h => ?_⟩
  refine wpAny_Call_Name_kw (ld_glob I hg M.mgC ?_ (by decide))
  refine PySem.W.callWith_K (h₀ := X.base) I.ok.mod.kin mk.kp (thn (ha.run pos pins s σ H _ I h) fun us s1 ⟨vs, H1, I1, r, q⟩ => ⟨I1.kIn, ?_⟩) he hpl
  obtain ⟨a, b, c, d, e, rfl, q⟩ := q
  refine run_make mk F (hr.mono hj) hb .nil pass0 I1 r fun x dx nx ndx nex => ?_
  refine ⟨x, dx, a, b, c, d, e, rfl, upd_same, fun fs H' hx hs => ⟨rfl, q x dx fs H' nx hx fun c o e => ?_⟩⟩
  have ncx : c ≠ x := ne_of_none e nx
  refine hs c o ?_ ncx
  rw [upd_ne ncx, upd_ne (ne_of_none e ndx)]
  exact e
/-! ### comparing lines over a stretch -/
def lv (L : Int × Int) (x : Int) : Int := L.1 * x + L.2
def SmL (L : Int × Int) (x : Int) : Prop := CMulW L.1 x
def naB (one two : Int × Int) (a b : Int) : Bool := decide (lv one a ≤ lv two a) && decide (lv one b ≤ lv two b)
def LnAt (CL : Addr) (H : Hp) (x : Addr) (L : Int × Int) : Prop := IsL CL H x L.1 L.2
def spNever (CS CL : Addr) : Sp := fun vs H Q _ => ∃ (s u v : Addr) (a b : Int) (L M : Int × Int), vs = [.ref s, .ref u, .ref v] ∧ IsS CS H s a b ∧ LnAt CL H u L ∧ LnAt CL H v M ∧ SmL L a ∧ SmL L b ∧ SmL M a ∧ SmL M b ∧ Q (.bl (naB L M a b)) H
def spAlways (CS CL : Addr) : Sp := fun vs H Q _ => ∃ (s u v : Addr) (a b : Int) (L M : Int × Int), vs = [.ref s, .ref u, .ref v] ∧ IsS CS H s a b ∧ LnAt CL H u L ∧ LnAt CL H v M ∧ SmL L a ∧ SmL L b ∧ SmL M a ∧ SmL M b ∧ Q (.bl (naB L M a b && naB M L a b)) H
def spSwept (CS CL CP : Addr) : Sp := fun vs H Q _ => ∃ (s u v p : Addr) (a b : Int) (L M : Int × Int) (l : List Row), vs = [.ref s, .ref u, .ref v, .ref p] ∧ IsS CS H s a b ∧ LnAt CL H u L ∧ LnAt CL H v M ∧ IsP CP H p l ∧ SmL L a ∧ SmL M b ∧ Q (.bl (hasB l (lv M b) && decide (V.int (rk l (lv M b) - rk l (lv L a)) = V.int (lv M b - lv L a)))) H
section
variable {P : Program} {w : World} {K : PySem.W.Frag} {mg : Str → Option Value} {base : Heap} {CS CH CL CP : Addr}
theorem scNev : FnScope ["self", "one", "other", "at_first"] ["self", "one", "other"] (defScope sStretchNeverAbove) := ⟨rfl, rfl, rfl, by decide +kernel, rfl, by decide +kernel, by decide +kernel⟩
theorem ok_never {f : Addr} {fd : FuncData} (F : Fun K "never_above" "Stretch.never_above" sStretchNeverAbove f fd) (T : STxt K mg CS) (VA : Cl P w K mg base 1 "value_at" ["line", "x"] (spValAt CL)) : FnOk P w K mg base CX0 2 f fd ["self", "one", "other"] (spNever CS CL) := by
  refine F.ok scNev (fun vs H Q E h => ?_) (fun cdv A outer s H vs Q E hr h => ?_)
  · obtain ⟨_, _, _, _, _, _, _, rfl, _⟩ := h
    rfl
  · obtain ⟨st, u, v, a, b, L, M, rfl, ⟨dx, hs⟩, hu, hv, l1, l2, m1, m2, q⟩ := h
    have nd := scNev.nd
    refine ⟨_, pss_cons (ps_set (i := 3) nd rfl (.inl rfl) (pe_cmpR op_le (pe_cl VA hr (by decide) (by rfl) (pa_cons (pv 1) (pa_cons (pe_fld (pv 0) rfl) pa_nil))) (pe_cl VA hr (by decide) (by rfl) (pa_cons (pv 2) (pa_cons (pe_fld (pv 0) rfl) pa_nil))) (by rfl)))
      (pss_one (ps_ret (pe_and (pv 3) (pe_one (pe_cmpR op_le (pe_cl VA hr (by decide) (by rfl) (pa_cons (pv 1) (pa_cons (pe_fld (pv 0) rfl) pa_nil))) (pe_cl VA hr (by decide) (by rfl) (pa_cons (pv 2) (pa_cons (pe_fld (pv 0) rfl) pa_nil))) (by rfl)))))), ?_⟩
    unfold naB at q
    refine ⟨_, rfl, _, rfl, st, CS, dx, _, _, rfl, hs, T.cl, T.nF, sFl_f a b, u, _, _, a, rfl, hu, l1, _, rfl, _, rfl, st, CS, dx, _, _, rfl, hs, T.cl, T.nF, sFl_f a b, v, _, _, a, rfl, hv, m1, _, _, rfl, rfl, _, rfl, _, rfl, ?_⟩
    cases e : decide (lv L a ≤ lv M a) with
    | false =>
      rw [e] at q
      exact iteB e q
    | true =>
      rw [e] at q
      refine ite2 (fun _ => ?_) (fun c => absurd e c)
      exact ⟨_, rfl, _, rfl, st, CS, dx, _, _, rfl, hs, T.cl, T.nL, sFl_l a b, u, _, _, b, rfl, hu, l2, _, rfl, _, rfl, st, CS, dx, _, _, rfl, hs, T.cl, T.nL, sFl_l a b, v, _, _, b, rfl, hv, m2, _, _, rfl, rfl, q⟩
theorem scAlw : FnScope ["self", "one", "other"] ["self", "one", "other"] (defScope sStretchAlwaysSame) := ⟨rfl, rfl, rfl, by decide +kernel, rfl, by decide +kernel, by decide +kernel⟩
theorem ok_always {f : Addr} {fd : FuncData} (F : Fun K "always_same" "Stretch.always_same" sStretchAlwaysSame f fd) (T : STxt K mg CS) (NV : Mt P w K mg base 2 CS "never_above" ["self", "one", "other"] (spNever CS CL)) : FnOk P w K mg base CX0 3 f fd ["self", "one", "other"] (spAlways CS CL) := by
  refine F.ok scAlw (fun vs H Q E h => ?_) (fun cdv A outer s H vs Q E hr h => ?_)
  · obtain ⟨_, _, _, _, _, _, _, rfl, _⟩ := h
    rfl
  · obtain ⟨st, u, v, a, b, L, M, rfl, hs, hu, hv, l1, l2, m1, m2, q⟩ := h
    refine ⟨_, pss_one (ps_ret (pe_and (pe_mt NV T.cl hr (by decide) (pv 0) (pa_cons (pv 1) (pa_cons (pv 2) pa_nil))) (pe_one (pe_mt NV T.cl hr (by decide) (pv 0) (pa_cons (pv 2) (pa_cons (pv 1) pa_nil)))))), ?_⟩
    obtain ⟨dx, hs0⟩ := id hs
    have no : (sFl a b).lookup ("never_above" : Str) = none := sFl_no _ _ (by decide +kernel) (by decide +kernel)
    refine ⟨_, rfl, st, dx, _, rfl, hs0, no, _, rfl, _, rfl, st, u, v, a, b, L, M, rfl, hs, hu, hv, l1, l2, m1, m2, _, rfl, ?_⟩
    cases e : naB L M a b with
    | false =>
      rw [e] at q
      exact iteF q
    | true =>
      rw [e] at q
      exact iteT ⟨_, rfl, st, dx, _, rfl, hs0, no, _, rfl, _, rfl, st, v, u, a, b, M, L, rfl, hs, hv, hu, m1, m2, l1, l2, q⟩
theorem scSwp : FnScope ["self", "low", "high", "places", "first", "last"] ["self", "low", "high", "places"] (defScope sStretchSweptWithin) := ⟨rfl, rfl, rfl, by decide +kernel, rfl, by decide +kernel, by decide +kernel⟩
theorem ok_swept {f : Addr} {fd : FuncData} (F : Fun K "swept_within" "Stretch.swept_within" sStretchSweptWithin f fd) (T : STxt K mg CS) (PT : PTxt K mg CP) (VA : Cl P w K mg base 1 "value_at" ["line", "x"] (spValAt CL)) (CON : Md P w K mg base 2 CP "__contains__" (spCon K CP)) (RK : Mt P w K mg base 2 CP "rank" ["self", "x"] (spRank CP)) : FnOk P w K mg base CX0 3 f fd ["self", "low", "high", "places"] (spSwept CS CL CP) := by
  refine F.ok scSwp (fun vs H Q E h => ?_) (fun cdv A outer s H vs Q E hr h => ?_)
  · obtain ⟨_, _, _, _, _, _, _, _, _, rfl, _⟩ := h
    rfl
  · obtain ⟨st, u, v, p, a, b, L, M, l, rfl, ⟨dx, hs⟩, hu, hv, hp, l1, m2, q⟩ := h
    have nd := scSwp.nd
    have hr2 : Room 2 _ := hr.mono (show 2 ≤ 2 by decide)
    refine ⟨_, pss_cons (ps_set (i := 4) nd rfl (.inl rfl) (pe_cl VA hr (by decide) (by rfl) (pa_cons (pv 1) (pa_cons (pe_fld (pv 0) rfl) pa_nil))))
      (pss_cons (ps_set (i := 5) nd rfl (.inl rfl) (pe_cl VA hr (by decide) (by rfl) (pa_cons (pv 2) (pa_cons (pe_fld (pv 0) rfl) pa_nil))))
      (pss_one (ps_ret (pe_and (pe_cmpR (op_inO CON hr2) (pv 5) (pv 3) (by rfl)) (pe_one (pe_cmpR op_eq (pe_op op_sub (pe_mt RK PT.cl hr (by decide) (pv 3) (pa_cons (pv 5) pa_nil)) (pe_mt RK PT.cl hr (by decide) (pv 3) (pa_cons (pv 4) pa_nil))) (pe_op op_sub (pv 5) (pv 4)) (by rfl))))))), ?_⟩
    obtain ⟨nf, dx2, t, fi, bb, MM, e1, _⟩ := id hp
    refine ⟨_, rfl, _, rfl, st, CS, dx, _, _, rfl, hs, T.cl, T.nF, sFl_f a b, u, _, _, a, rfl, hu, l1, _, rfl, _, rfl, st, CS, dx, _, _, rfl, hs, T.cl, T.nL, sFl_l a b, v, _, _, b, rfl, hv, m2, ?_⟩
    refine ⟨_, rfl, _, rfl, p, dx2, _, rfl, e1, p, l, _, rfl, hp, .inl ⟨_, rfl, _, rfl, _, rfl, ?_⟩⟩
    have no : (pFl t fi bb).lookup ("rank" : Str) = none := pFl_no _ _ _ (by decide +kernel) (by decide +kernel) (by decide +kernel)
    show if hasB l (lv M b) = true then _ else _
    cases e : hasB l (lv M b) with
    | false =>
      rw [e] at q
      exact iteF q
    | true =>
      rw [e] at q
      exact iteT ⟨_, rfl, p, dx2, _, rfl, e1, no, _, rfl, p, lv M b, l, rfl, hp, _, rfl, p, dx2, _, rfl, e1, no, _, rfl, p, lv L a, l, rfl, hp, _, _, rfl, rfl, _, rfl, _, rfl, _, _, rfl, rfl, rfl, q⟩
end
end OR

namespace OR
open PySem PySem.Spec PyProof.Rows L2
open TL (tl numL)
def NS (v : V) : Prop := v = .non ∨ ∃ s, v = .str s ∧ SmallS s
theorem NS.scal {v : V} {f : Str} (h : NS v) : L2.scal v (.str f) = true := by
  rcases h with e | ⟨s, e, _⟩ <;> subst e <;> rfl
def othV (m : CM) (v4 : V) : V := if m.1 = 4 then .non else if m.1 = 5 then v4 else .str m.2.1
theorem num_BB {a : Int} (h : Num a) : BB a := Nat.lt_trans h (by decide +kernel)
theorem numc_of {fs : List Str} {n : Int} {m : CM} (h : GoodM fs n m) (h4 : 4 ≤ m.1) (sm : SmallS m.2.1) : ∃ s v4 rest a c, m.2.2.2 = .str s :: v4 :: rest ∧ NumC m a c ∧ BB a ∧ BB c ∧ NS (othV m v4) := by
  obtain ⟨k, f, l, x⟩ := m
  have h7 := h.lt
  have wf := h.wf
  have e : k = 4 ∨ k = 5 ∨ k = 6 := by
    have h7 : k < 7 := h7
    have h4 : 4 ≤ k := h4
    omega
  rcases e with e | e | e <;> subst e
  · obtain ⟨s, a, b, e, _, ha, hb⟩ := id wf
    obtain rfl : x = _ := e
    exact ⟨s, _, _, a, b, rfl, .inl ⟨rfl, s, rfl⟩, num_BB ha, num_BB hb, .inl rfl⟩
  · obtain ⟨s, g, a, b, e, _, hg, _, ha, hb⟩ := id wf
    obtain rfl : x = _ := e
    exact ⟨s, _, _, a, b, rfl, .inr (.inl ⟨rfl, s, g, rfl⟩), num_BB ha, num_BB hb, .inr ⟨g, rfl, hg.small⟩⟩
  · obtain ⟨s, b, e, _, hb⟩ := id wf
    obtain rfl : x = _ := e
    exact ⟨s, _, _, 0, b, rfl, .inr (.inr ⟨rfl, rfl, s, rfl⟩), (by show (0 : Int).natAbs < 2 ^ 1000; exact Nat.two_pow_pos _), num_BB hb, .inr ⟨f, rfl, sm⟩⟩
theorem BB_small {n : Int} (h : n.natAbs < 10 ^ 40) : BB n := Nat.lt_trans h (by decide +kernel)
/-! ### reading hops -/
def spPlaceLine (K : PySem.W.Frag) (CL : Addr) : Sp := fun vs H Q _ => ∃ v : V, vs = [v] ∧ ((∃ n, v = .int n ∧ ∀ z H', H z = none → IsL CL H' z 0 n → Same H H' → Q (.ref z) H') ∨ (∃ (T : String) (b1 b2 : Bool), TyX K H v (.type T) ∧ kitB T "int" = some b1 ∧ kitB T "bool" = some b2 ∧ (b1 && !b2) = false ∧ Q .non H))
def SeqA (K : PySem.W.Frag) (H : Hp) (a : Addr) (xs : List V) : Prop := SqT K H a xs ∨ H a = some (.lst xs)
theorem SeqA.same {K : PySem.W.Frag} {H H' : Hp} {a : Addr} {xs : List V} (h : SeqA K H a xs) (s : Same H H') : SeqA K H' a xs := h.elim (fun e => .inl (sameT s e)) fun e => .inr (s _ _ e)
def NoSeq (K : PySem.W.Frag) (H : Hp) (v : V) : Prop := ∃ T : String, (∀ H', Same H H' → TyX K H' v (.type T)) ∧ kitB T "tuple" = some false ∧ kitB T "list" = some false
def spIsSeq (K : PySem.W.Frag) : Sp := fun vs H Q _ => ∃ (v : V) (k : Int), vs = [v, .int k] ∧ ((∃ a xs, v = .ref a ∧ SeqA K H a xs ∧ ∀ H', Same H H' → Q (.bl (decide ((xs.length : Int) = k))) H') ∨ (NoSeq K H v ∧ ∀ H', Same H H' → Q (.bl false) H'))
def spNames : Sp := fun vs H Q _ => ∃ v w : V, vs = [v, w] ∧ NS v ∧ NS w ∧ Q (.bl (decide (v = w))) H
section
variable {P : Program} {w : World} {K : PySem.W.Frag} {mg : Str → Option Value} {base : Heap} {CS CH CL CP : Addr}
theorem scPLn : FnScope ["value"] ["value"] (defScope pPlaceLine) := ⟨rfl, rfl, rfl, by decide +kernel, rfl, by decide +kernel, by decide +kernel⟩
theorem ok_placeline {f : Addr} {fd : FuncData} (F : Fun K "place_line" "place_line" pPlaceLine f fd) (M : LMk P w K mg base CL) (DI : Cl P w K mg base 1 "is_integer" ["value"] (spIsIntG K)) : FnOk P w K mg base CX0 3 f fd ["value"] (spPlaceLine K CL) := by
  refine F.ok scPLn (fun vs H Q E h => ?_) (fun cdv A outer s H vs Q E hr h => ?_)
  · obtain ⟨_, rfl, _⟩ := h
    rfl
  · obtain ⟨v, rfl, h⟩ := h
    refine ⟨_, pss_one (ps_ret (pe_ifExp (pt_val (pe_cl DI hr (by decide) (by rfl) (pa_cons (pv 0) pa_nil))) (pe_mkL M hr (by decide) (by rfl) (pa_cons pe_int (pa_cons (pv 0) pa_nil))) pe_non)), ?_⟩
    rcases h with ⟨n, rfl, q⟩ | ⟨T, b1, b2, hT, h1, h2, hb, q⟩
    · exact ⟨_, rfl, .int n, "int", true, false, rfl, .base (.int n), by decide +kernel, by decide +kernel, true, rfl, iteT ⟨_, rfl, 0, n, rfl, q⟩⟩
    · exact ⟨_, rfl, v, T, b1, b2, rfl, hT, h1, h2, _, rfl, iteB hb q⟩
theorem scISq : FnScope ["value", "many"] ["value", "many"] (defScope pIsSequence) := ⟨rfl, rfl, rfl, by decide +kernel, rfl, by decide +kernel, by decide +kernel⟩
theorem ok_isseq {f : Addr} {fd : FuncData} (F : Fun K "is_sequence" "is_sequence" pIsSequence f fd) (T : LTxt K mg CL) (zT : mg "tuple" = none) (zL : mg "list" = none) (zN : mg "len" = none) : FnOk P w K mg base CX0 1 f fd ["value", "many"] (spIsSeq K) := by
  refine F.ok scISq (fun vs H Q E h => ?_) (fun cdv A outer s H vs Q E hr h => ?_)
  · obtain ⟨_, _, rfl, _⟩ := h
    rfl
  · obtain ⟨v, k, rfl, h⟩ := h
    refine ⟨_, pss_one (ps_ret (pe_and (pe_callB call_isiT (by rfl) T.zIsi boot_isi (pa_cons (pv 0) (pa_cons (pe_tup (pa_cons (pe_bltn (v := .ty "tuple") (by rfl) zT bt_tup rfl) (pa_cons (pe_bltn (v := .ty "list") (by rfl) zL bt_list rfl) pa_nil))) pa_nil))) (pe_one (pe_cmpR op_eq (pe_callB call_len_seq (by rfl) zN PySem.boot_len (pa_cons (pv 0) pa_nil)) (pv 1) (by rfl))))), ?_⟩
    refine ⟨_, rfl, by show 2 ≤ sizeLine; decide, fun t nt => ?_⟩
    have S1 := same_lay (o := .tup [.ty "tuple", .ty "list"]) nt
    rcases h with ⟨a, xs, rfl, hS, q⟩ | ⟨⟨T, hT, h1, h2⟩, q⟩
    · have hS1 := hS.same S1
      have hty : ∃ T, TyX K (upd H t (.tup [.ty "tuple", .ty "list"])) (.ref a) (.type T) ∧ PySem.W.kitAny K (.type T) [.type "tuple", .type "list"] = some true := by
        rcases hS1 with e | e
        · exact ⟨"tuple", tyT e, kitAny_cons (kit_ty (b := "tuple") (r := true) (by decide +kernel)) (fun z => nomatch z) fun _ => rfl⟩
        · exact ⟨"list", .base (.lst e), kitAny_cons (kit_ty (b := "tuple") (r := false) (by decide +kernel)) (fun _ => kitAny_cons (kit_ty (b := "list") (r := true) (by decide +kernel)) (fun z => nomatch z) fun _ => rfl) fun z => nomatch z⟩
      obtain ⟨ty, hT, hk⟩ := hty
      refine ⟨.ref a, t, _, .type ty, [.type "tuple", .type "list"], true, rfl, upd_same, .cons (.ty "tuple") (.cons (.ty "list") .nil), hT, hk, true, rfl, iteT ?_⟩
      refine ⟨_, rfl, a, xs, rfl, hS1.elim .inr (fun e => .inl (.inl (.inl e))), _, rfl, rfl, ?_⟩
      have e : decide (V.int (xs.length : Int) = V.int k) = decide ((xs.length : Int) = k) := by simp
      show Q (.bl (decide (V.int (xs.length : Int) = V.int k))) _
      rw [e]
      exact q _ S1
    · refine ⟨v, t, _, .type T, [.type "tuple", .type "list"], false, rfl, upd_same, .cons (.ty "tuple") (.cons (.ty "list") .nil), hT _ S1, kitAny_cons (r := false) (kit_ty h1) (fun _ => kitAny_cons (kit_ty h2) (fun _ => rfl) (fun z => nomatch z)) (fun z => nomatch z), false, rfl, iteF (q _ S1)⟩
theorem scNms : FnScope ["value", "function"] ["value", "function"] (defScope pNames) := ⟨rfl, rfl, rfl, by decide +kernel, rfl, by decide +kernel, by decide +kernel⟩
theorem ok_names {f : Addr} {fd : FuncData} (F : Fun K "_names" "_names" pNames f fd) (T : LTxt K mg CL) (zS : mg "str" = none) : FnOk P w K mg base CX0 1 f fd ["value", "function"] spNames := by
  refine F.ok scNms (fun vs H Q E h => ?_) (fun cdv A outer s H vs Q E hr h => ?_)
  · obtain ⟨_, _, rfl, _⟩ := h
    rfl
  · obtain ⟨v, u, rfl, hv, hu, q⟩ := h
    refine ⟨_, pss_cons (ps_if (pt_cmp (pc_isN (pv 1)))
          (pss_one (ps_ret (pe_cmpR op_isN (pv 0) pe_non (by rfl))))
          pss_nil)
      (pss_one (ps_ret (pe_and (pe_callB call_isi (by rfl) T.zIsi boot_isi (pa_cons (pv 0) (pa_cons (pe_bltn (v := .ty "str") (by rfl) zS bt_str2 rfl) pa_nil))) (pe_one (pe_cmpR op_eq (pv 0) (pv 1) (by rfl)))))), ?_⟩
    refine ⟨_, rfl, _, rfl, ?_⟩
    rcases hu with e | ⟨s, e, _⟩ <;> subst e
    · exact iteT ⟨_, rfl, rfl, q⟩
    · refine iteF ?_
      rcases hv with e | ⟨t, e, _⟩ <;> subst e
      · exact ⟨_, rfl, .non, .ty "str", _, _, false, rfl, .ty "str", .base .non, kit_ty (by decide +kernel), false, rfl, iteF q⟩
      · exact ⟨_, rfl, .str t, .ty "str", _, _, true, rfl, .ty "str", .base (.str t), kit_ty (by decide +kernel), true, rfl, iteT ⟨_, rfl, _, rfl, rfl, q⟩⟩
end
/-! ### the calls of a hop -/
def CallAt (CL : Addr) (H : Hp) (v : V) (q : Int × Int) : Prop := ∃ t f lo hi, v = .ref t ∧ H t = some (.tup [f, .ref lo, .ref hi]) ∧ IsL CL H lo 0 q.1 ∧ IsL CL H hi 0 q.2
theorem CallAt.same {CL : Addr} {H H' : Hp} {v : V} {q : Int × Int} (h : CallAt CL H v q) (s : Same H H') : CallAt CL H' v q := by
  obtain ⟨t, f, lo, hi, e, h1, h2, h3⟩ := h
  exact ⟨t, f, lo, hi, e, s _ _ h1, h2.same s, h3.same s⟩
def stepM (sg : Str) (p q : Int) : List (Int × Int) := if sg ≠ ">=" ∧ p + 1 ≤ q then [(p, q)] else if sg ≠ "<=" ∧ q + 1 ≤ p then [(q, p)] else []
def signOf (x : List V) : Str := match x with | .str s :: _ => s | _ => ""
def upB (m : CM) (f g o : V) : Bool := (decide (signOf m.2.2.2 ≠ ">=") && (decide (f = o) && decide (g = .str m.2.1))) || (decide (signOf m.2.2.2 ≠ "<=") && (decide (f = .str m.2.1) && decide (g = o)))
def oth (m : CM) : V := match m.2.2.2 with | _ :: v4 :: _ => othV m v4 | _ => .non
def uprM (m : CM) (f g : V) (p : Int) : List (Int × Int) := if m.1 ≠ 4 ∧ m.1 ≠ 5 then [] else if upB m f g (oth m) = true then (told m.1 m.2.1 m.2.2.2).map fun _ => (p, p) else []
def spStepC (CS CL CP : Addr) (C : Nat → Addr) : Sp := fun vs H Q _ => ∃ (z u v s : Addr) (m : CM) (p q : Int), vs = [.ref z, .ref u, .ref v, .ref s] ∧ CRep CP C H (.ref z) m ∧ m.1 = 6 ∧ IsL CL H u 0 p ∧ IsL CL H v 0 q ∧ IsS CS H s 0 0 ∧
  ∀ r cs H', H r = none → H' r = some (.lst cs) → All2 (CallAt CL H') cs (stepM (signOf m.2.2.2) p q) → Same H H' → Q (.ref r) H'
def spUprC (CL CP : Addr) (C : Nat → Addr) : Sp := fun vs H Q _ => ∃ (z u : Addr) (m : CM) (f g : V) (p : Int), vs = [.ref z, f, g, .ref u] ∧ CRep CP C H (.ref z) m ∧ NS f ∧ NS g ∧ IsL CL H u 0 p ∧
  ∀ r cs H', H r = none → H' r = some (.lst cs) → All2 (CallAt CL H') cs (uprM m f g p) → Same H H' → Q (.ref r) H'
theorem nev0 (p q : Int) : naB (0, p) (0, q) 0 0 = decide (p ≤ q) := by
  show (decide ((0 : Int) * 0 + p ≤ 0 * 0 + q) && decide ((0 : Int) * 0 + p ≤ 0 * 0 + q)) = _
  simp
theorem sm00 (p : Int) : SmL (0, p) 0 := cwBB (show (0 : Int).natAbs < 2 ^ 3000 from Nat.two_pow_pos _) (show (0 : Int).natAbs < 2 ^ 3000 from Nat.two_pow_pos _)
section
variable {P : Program} {w : World} {K : PySem.W.Frag} {mg : Str → Option Value} {base : Heap} {CS CH CL CP : Addr} {C : Nat → Addr}
theorem scSC : FnScope ["clause", "begin", "end", "stretch"] ["clause", "begin", "end", "stretch"] (defScope pStepCalls) := ⟨rfl, rfl, rfl, by decide +kernel, rfl, by decide +kernel, by decide +kernel⟩
theorem ok_stepc {f : Addr} {fd : FuncData} (F : Fun K "_step_calls" "_step_calls" pStepCalls f fd) (CT : CTxt K mg C) (T : STxt K mg CS) (LT : LTxt K mg CL) (A1 : Md P w K mg base 3 CL (PySem.dunder (Operator.info .Add).2) (spLAdd CL)) (A2 : BinI K CL .Add) (NV : Mt P w K mg base 2 CS "never_above" ["self", "one", "other"] (spNever CS CL)) : FnOk P w K mg base CX0 4 f fd ["clause", "begin", "end", "stretch"] (spStepC CS CL CP C) := by
  refine F.ok scSC (fun vs H Q E h => ?_) (fun cdv A outer s H vs Q E hr h => ?_)
  · obtain ⟨_, _, _, _, _, _, _, rfl, _⟩ := h
    rfl
  · obtain ⟨z, u, v, st, m, p, q0, rfl, ⟨z', e, hC⟩, hk, hu, hv, hs, q⟩ := h
    injection e with e
    subst e
    have hr3 : Room 3 _ := hr.mono (show 3 ≤ 3 by decide)
    refine ⟨_, Evl.pss_cut (ps_if (PW.pt (pw_and (pt_cmpR op_ne (pe_fld (pv 0) rfl) pe_str (nomark _)) (pw_and1 (pt_val (pe_mt NV T.cl hr (by decide) (pv 3) (pa_cons (pe_op (op_binI A1 A2 LT.sf hr3) (pv 1) pe_int) (pa_cons (pv 2) pa_nil)))))))
          (pss_one (ps_ret (pe_lst (pa_cons (pe_tup (pa_cons (pe_fld (pv 0) rfl) (pa_cons (pv 1) (pa_cons (pv 2) pa_nil)))) pa_nil))))
          pss_nil)
      (pss_cons (ps_if (PW.pt (pw_and (pt_cmpR op_ne (pe_fld (pv 0) rfl) pe_str (nomark _)) (pw_and1 (pt_val (pe_mt NV T.cl hr (by decide) (pv 3) (pa_cons (pe_op (op_binI A1 A2 LT.sf hr3) (pv 2) pe_int) (pa_cons (pv 1) pa_nil)))))))
          (pss_one (ps_ret (pe_lst (pa_cons (pe_tup (pa_cons (pe_fld (pv 0) rfl) (pa_cons (pv 2) (pa_cons (pv 1) pa_nil)))) pa_nil))))
          pss_nil)
      (pss_one (ps_ret (pe_lst pa_nil)))), ?_⟩
    obtain ⟨dz, pl, hzz, _⟩ := hC.ex
    obtain ⟨ds, hs0⟩ := id hs
    have no : (sFl 0 0).lookup ("never_above" : Str) = none := sFl_no _ _ (by decide +kernel) (by decide +kernel)
    obtain ⟨sg, c, hx, _⟩ : ∃ sg c, m.2.2.2 = [.str sg, .int c] ∧ True := by
      have wf := hC.wf
      rw [hk] at wf
      obtain ⟨sg, c, e, _⟩ := wf
      exact ⟨sg, c, e, trivial⟩
    have hsg : signOf m.2.2.2 = sg := by rw [hx]; rfl
    rw [hsg] at q
    have fS : ∀ {G} (Q' : V → Prop), Same H G → Q' (.str sg) → ∃ a C' dx fs v', V.ref z = .ref a ∧ G a = some (.ins C' dx fs) ∧ Cls K C' ∧ NoAttr K C' ("sign" : Str) ∧ fs.lookup ("sign" : Str) = some v' ∧ Q' v' := fun Q' s q' => fld CT (s _ _ hzz) hC.lt (j := 3) (by rw [hk]; rfl) (by rw [hx]; rfl) q'
    have fF : ∀ {G} (Q' : V → Prop), Same H G → Q' (.str m.2.1) → ∃ a C' dx fs v', V.ref z = .ref a ∧ G a = some (.ins C' dx fs) ∧ Cls K C' ∧ NoAttr K C' ("function" : Str) ∧ fs.lookup ("function" : Str) = some v' ∧ Q' v' := fun Q' s q' => fld CT (s _ _ hzz) hC.lt (j := 1) rfl rfl q'
    have fin0 : ∀ {G}, Same H G → stepM sg p q0 = [] → ∀ r, G r = none → Q (.ref r) (upd G r (.lst [])) := fun s e r nr => by
      rw [e] at q
      exact q r [] _ (s.free nr) upd_same .nil (s.trans (same_lay nr))
    have fin1 : ∀ {G} {lo hi : Addr} {a b : Int}, Same H G → stepM sg p q0 = [(a, b)] → IsL CL G lo 0 a → IsL CL G hi 0 b → ∀ t, G t = none → ∀ r, (upd G t (.tup [.str m.2.1, .ref lo, .ref hi])) r = none → Q (.ref r) (upd (upd G t (.tup [.str m.2.1, .ref lo, .ref hi])) r (.lst [.ref t])) := fun {G lo hi a b} s e h1 h2 t nt r nr => by
      rw [e] at q
      have s1 := same_lay (o := .tup [.str m.2.1, .ref lo, .ref hi]) nt
      have s2 := s1.trans (same_lay (o := .lst [.ref t]) nr)
      exact q r [.ref t] _ (s.free (s1.free nr)) upd_same (.cons ⟨t, _, _, _, rfl, same_lay nr _ _ upd_same, h1.same s2, h2.same s2⟩ .nil) (s.trans s2)
    refine ⟨fun σ G => σ = [some (.ref z), some (.ref u), some (.ref v), some (.ref st)] ∧ Same H G ∧ ¬ (sg ≠ ">=" ∧ p + 1 ≤ q0), ?_, ?_⟩
    · refine ⟨_, rfl, fS _ (Same.refl _) ?_⟩
      refine ⟨rfl, _, rfl, ite2 (fun c1 => ?_) (fun c1 => ⟨rfl, Same.refl _, fun h => c1 (by simpa using h.1)⟩)⟩
      have n1 : sg ≠ ">=" := by simpa using c1
      refine ⟨_, rfl, st, ds, _, rfl, hs0, no, _, rfl, rd_addI hu fun w G nw hw s1 => ⟨_, rfl, st, w, v, 0, 0, (0, p + 1), (0, q0), rfl, hs.same s1, hw, hv.same s1, sm00 _, sm00 _, sm00 _, sm00 _, ?_⟩⟩
      rw [nev0]
      refine ⟨_, rfl, ite2 (fun c2 => ?_) (fun c2 => ⟨rfl, s1, fun h => c2 (decide_eq_true h.2)⟩)⟩
      have h2 : p + 1 ≤ q0 := of_decide_eq_true c2
      refine ⟨_, rfl, fF _ s1 ⟨_, rfl, _, rfl, by show 3 ≤ sizeLine; decide, fun t nt => ⟨by show 1 ≤ sizeLine; decide, fun r nr => ?_⟩⟩⟩
      exact fin1 s1 (if_pos ⟨n1, h2⟩) (hu.same s1) (hv.same s1) t nt r nr
    rintro σ G ⟨rfl, s0, hn⟩
    have emp : ∀ {G'}, Same H G' → ¬ (sg ≠ "<=" ∧ q0 + 1 ≤ p) → ∀ r, G' r = none → Q (.ref r) (upd G' r (.lst [])) := fun s h r nr => fin0 s (by
      unfold stepM
      rw [if_neg hn, if_neg h]) r nr
    refine ⟨_, rfl, fS _ s0 ?_⟩
    refine ⟨rfl, _, rfl, ite2 (fun c1 => ?_) (fun c1 => ⟨by show 0 ≤ sizeLine; decide, fun r nr => emp s0 (fun h => c1 (by simpa using h.1)) r nr⟩)⟩
    have n1 : sg ≠ "<=" := by simpa using c1
    refine ⟨_, rfl, st, ds, _, rfl, s0 _ _ hs0, no, _, rfl, rd_addI (hv.same s0) fun w G1 nw hw s1 => ⟨_, rfl, st, w, u, 0, 0, (0, q0 + 1), (0, p), rfl, hs.same (s0.trans s1), hw, hu.same (s0.trans s1), sm00 _, sm00 _, sm00 _, sm00 _, ?_⟩⟩
    rw [nev0]
    have s01 := s0.trans s1
    refine ⟨_, rfl, ite2 (fun c2 => ?_) (fun c2 => ⟨by show 0 ≤ sizeLine; decide, fun r nr => emp s01 (fun h => c2 (decide_eq_true h.2)) r nr⟩)⟩
    have h2 : q0 + 1 ≤ p := of_decide_eq_true c2
    refine ⟨_, rfl, fF _ s01 ⟨_, rfl, _, rfl, by show 3 ≤ sizeLine; decide, fun t nt => ⟨by show 1 ≤ sizeLine; decide, fun r nr => ?_⟩⟩⟩
    exact fin1 s01 (by unfold stepM; rw [if_neg hn, if_pos ⟨n1, h2⟩]) (hv.same s01) (hu.same s01) t nt r nr
theorem scUC : FnScope ["clause", "start", "goal", "place", "beside", "up", "down", "function"] ["clause", "start", "goal", "place"] (defScope pUprightCalls) := ⟨rfl, rfl, rfl, by decide +kernel, rfl, by decide +kernel, by decide +kernel⟩
theorem ok_uprc {f : Addr} {fd : FuncData} (F : Fun K "_upright_calls" "_upright_calls" pUprightCalls f fd) (CT : CTxt K mg C) (TO : ∀ i, i < 7 → Mt P w K mg base 1 (C i) "functions_told" ["self"] (spCTold CP C i)) (NA : Cl P w K mg base 1 "_names" ["value", "function"] spNames) : FnOk P w K mg base CX0 2 f fd ["clause", "start", "goal", "place"] (spUprC CL CP C) := by
  refine F.ok scUC (fun vs H Q E h => ?_) (fun cdv A outer s H vs Q E hr h => ?_)
  · obtain ⟨_, _, _, _, _, _, rfl, _⟩ := h
    rfl
  · obtain ⟨z, u, m, fv, gv, p, rfl, ⟨z', e, hC⟩, nf, ng, hu, q⟩ := h
    injection e with e
    subst e
    have nd := scUC.nd
    refine ⟨_, Evl.pss_cut (ps_if (PW.pt (pw_and (pt_cmpR op_ne (pe_fld (pv 0) rfl) pe_str (nomark _)) (pw_and1 (pt_cmpR op_ne (pe_fld (pv 0) rfl) pe_str (nomark _)))))
          (pss_one (ps_ret (pe_lst pa_nil)))
          pss_nil)
      (Evl.pss_cut (ps_set (i := 4) nd rfl (.inl rfl) (pe_ifExp (pt_cmpR op_eq (pe_fld (pv 0) rfl) pe_str (nomark _)) (pe_fld (pv 0) rfl) pe_non))
      (Evl.pss_cut (ps_set (i := 5) nd rfl (.inl rfl) (pe_and (pe_cmpR op_ne (pe_fld (pv 0) rfl) pe_str (by rfl)) (pe_and (pe_cl NA hr (by decide) (by rfl) (pa_cons (pv 1) (pa_cons (pv 4) pa_nil))) (pe_one (pe_cl NA hr (by decide) (by rfl) (pa_cons (pv 2) (pa_cons (pe_fld (pv 0) rfl) pa_nil)))))))
      (Evl.pss_cut (ps_set (i := 6) nd rfl (.inl rfl) (pe_and (pe_cmpR op_ne (pe_fld (pv 0) rfl) pe_str (by rfl)) (pe_and (pe_cl NA hr (by decide) (by rfl) (pa_cons (pv 1) (pa_cons (pe_fld (pv 0) rfl) pa_nil))) (pe_one (pe_cl NA hr (by decide) (by rfl) (pa_cons (pv 2) (pa_cons (pv 4) pa_nil)))))))
      (Evl.pss_cut (ps_if (PW.pt (pw_and (pt_not (pt_val (pv 5))) (pw_and1 (pt_not (pt_val (pv 6))))))
          (pss_one (ps_ret (pe_lst pa_nil)))
          pss_nil)
      (pss_one (ps_ret (pe_lc (own := [("function", 7)]) (g := (gName 7)) (tt := tYes) rfl nd (pi_tup (pe_mtF TO CT.cl hr (by decide) (pv 0))) (blkOk_by (N := ["clause", "start", "goal", "place", "beside", "up", "down", "function"]) (sc := defScope pUprightCalls) (by decide +kernel)) (fun _ _ _ _ _ => pg_name (i := 7) nd rfl (.inl rfl)) (fun _ _ _ _ _ => pts_nil) (fun _ _ _ _ _ => (pe_tup (pa_cons (pv 7) (pa_cons (pv 3) (pa_cons (pv 3) pa_nil)))))))))))), ?_⟩
    obtain ⟨dz, pl, hzz, _⟩ := hC.ex
    have h7 := hC.lt
    have fK : ∀ {G} (Q' : V → Prop), Same H G → Q' (.str (kName m.1)) → ∃ a C' dx fs v', V.ref z = .ref a ∧ G a = some (.ins C' dx fs) ∧ Cls K C' ∧ NoAttr K C' ("kind" : Str) ∧ fs.lookup ("kind" : Str) = some v' ∧ Q' v' := fun Q' s q' => fld CT (s _ _ hzz) hC.lt (j := 0) rfl rfl q'
    have fF : ∀ {G} (Q' : V → Prop), Same H G → Q' (.str m.2.1) → ∃ a C' dx fs v', V.ref z = .ref a ∧ G a = some (.ins C' dx fs) ∧ Cls K C' ∧ NoAttr K C' ("function" : Str) ∧ fs.lookup ("function" : Str) = some v' ∧ Q' v' := fun Q' s q' => fld CT (s _ _ hzz) hC.lt (j := 1) rfl rfl q'
    have isK : ∀ {k : Nat}, k < 7 → kName m.1 = kName k → m.1 = k := fun hk e => kName_inj h7 hk e
    have emp : ∀ {G'}, Same H G' → uprM m fv gv p = [] → ∀ r, G' r = none → Q (.ref r) (upd G' r (.lst [])) := fun s e r nr => by
      rw [e] at q
      exact q r [] _ (s.free nr) upd_same .nil (s.trans (same_lay nr))
    refine ⟨fun σ G => σ = [some (.ref z), some fv, some gv, some (.ref u), none, none, none, none] ∧ H = G ∧ (m.1 = 4 ∨ m.1 = 5), ?_, ?_⟩
    · refine ⟨_, rfl, fK _ (Same.refl _) ?_⟩
      refine ⟨rfl, _, rfl, ite2 (fun c1 => ?_) (fun c1 => ⟨rfl, rfl, .inl (isK (k := 4) (by decide) (show kName m.1 = "bound" by simpa using c1))⟩)⟩
      refine ⟨_, rfl, fK _ (Same.refl _) ?_⟩
      refine ⟨rfl, _, rfl, ite2 (fun c2 => ?_) (fun c2 => ⟨rfl, rfl, .inr (isK (k := 5) (by decide) (show kName m.1 = "pair" by simpa using c2))⟩)⟩
      refine ⟨by show 0 ≤ sizeLine; decide, fun r nr => emp (Same.refl _) ?_ r nr⟩
      unfold uprM
      rw [if_pos ⟨fun e => (by simpa using c1 : ¬ kName m.1 = "bound") (by rw [e]; rfl), fun e => (by simpa using c2 : ¬ kName m.1 = "pair") (by rw [e]; rfl)⟩]
    rintro σ _ ⟨rfl, rfl, hk⟩
    have hk' : ¬ (m.1 ≠ 4 ∧ m.1 ≠ 5) := fun h => hk.elim h.1 h.2
    obtain ⟨sg, hsg, ho, fS, fO⟩ : ∃ sg, signOf m.2.2.2 = sg ∧ NS (oth m) ∧ (∀ (Q' : V → Prop), Q' (.str sg) → ∃ a C' dx fs v', V.ref z = .ref a ∧ H a = some (.ins C' dx fs) ∧ Cls K C' ∧ NoAttr K C' ("sign" : Str) ∧ fs.lookup ("sign" : Str) = some v' ∧ Q' v') ∧
        (m.1 = 5 → ∀ (Q' : V → Prop), Q' (oth m) → ∃ a C' dx fs v', V.ref z = .ref a ∧ H a = some (.ins C' dx fs) ∧ Cls K C' ∧ NoAttr K C' ("other" : Str) ∧ fs.lookup ("other" : Str) = some v' ∧ Q' v') := by
      have wf := hC.wf
      rcases hk with hk | hk
      · rw [hk] at wf
        obtain ⟨sg, a, c, hx, _⟩ := wf
        refine ⟨sg, by rw [hx]; rfl, ?_, fun Q' q' => fld CT hzz h7 (j := 3) (by rw [hk]; rfl) (by rw [hx]; rfl) q', fun h => by omega⟩
        unfold oth othV
        rw [hx]
        exact .inl (if_pos hk)
      · rw [hk] at wf
        obtain ⟨sg, g2, a, c, hx, _, hg2, _⟩ := wf
        have eo : oth m = .str g2 := by
          unfold oth othV
          rw [hx]
          show (if m.1 = 4 then V.non else if m.1 = 5 then V.str g2 else V.str m.2.1) = V.str g2
          rw [if_neg (by omega), if_pos hk]
        refine ⟨sg, by rw [hx]; rfl, by rw [eo]; exact .inr ⟨g2, rfl, hg2.small⟩, fun Q' q' => fld CT hzz h7 (j := 3) (by rw [hk]; rfl) (by rw [hx]; rfl) q', fun _ Q' q' => fld CT hzz h7 (j := 4) (by rw [hk]; rfl) (by rw [hx, eo] at *; rfl) q'⟩
    -- beside
    refine ⟨fun σ G => σ = [some (.ref z), some fv, some gv, some (.ref u), some (oth m), none, none, none] ∧ H = G, ?_, ?_⟩
    · refine ⟨_, rfl, fK _ (Same.refl _) ?_⟩
      refine ⟨rfl, _, rfl, ite2 (fun c1 => ?_) (fun c1 => ?_)⟩
      · have h5 : m.1 = 5 := isK (k := 5) (by decide) (show kName m.1 = "pair" by simpa using c1)
        exact ⟨_, rfl, fO h5 _ ⟨rfl, rfl⟩⟩
      · have h4 : m.1 = 4 := by
          rcases hk with h | h
          · exact h
          · exact absurd (show decide (V.str (kName m.1) = V.str "pair") = true by rw [h]; decide +kernel) c1
        have eo : oth m = .non := by
          unfold oth othV
          split
          · exact if_pos h4
          · rfl
        rw [eo]
        exact ⟨rfl, rfl⟩
    rintro σ _ ⟨rfl, rfl⟩
    have nfn : NS (.str m.2.1) := .inr ⟨_, rfl, hC.w.small⟩
    -- up
    refine ⟨fun σ G => σ = [some (.ref z), some fv, some gv, some (.ref u), some (oth m), some (.bl (decide (sg ≠ ">=") && (decide (fv = oth m) && decide (gv = .str m.2.1)))), none, none] ∧ H = G, ?_, ?_⟩
    · refine ⟨_, rfl, fS _ ?_⟩
      have e1 : (!decide (V.str sg = V.str ">=")) = decide (sg ≠ ">=") := by simp
      refine ⟨rfl, _, rfl, ?_⟩
      show if (!decide (V.str sg = V.str ">=")) = true then _ else _
      rw [e1]
      cases ee : decide (sg ≠ ">=") with
      | false => exact iteF ⟨rfl, rfl⟩
      | true =>
        refine iteT ⟨_, rfl, _, rfl, fv, oth m, rfl, nf, ho, _, rfl, ?_⟩
        cases e2 : decide (fv = oth m) with
        | false => exact iteF ⟨rfl, rfl⟩
        | true => exact iteT ⟨_, rfl, _, rfl, fF _ (Same.refl _) ⟨gv, .str m.2.1, rfl, ng, nfn, rfl, rfl⟩⟩
    rintro σ _ ⟨rfl, rfl⟩
    -- down
    refine ⟨fun σ G => σ = [some (.ref z), some fv, some gv, some (.ref u), some (oth m), some (.bl (decide (sg ≠ ">=") && (decide (fv = oth m) && decide (gv = .str m.2.1)))), some (.bl (decide (sg ≠ "<=") && (decide (fv = .str m.2.1) && decide (gv = oth m)))), none] ∧ H = G, ?_, ?_⟩
    · refine ⟨_, rfl, fS _ ?_⟩
      have e1 : (!decide (V.str sg = V.str "<=")) = decide (sg ≠ "<=") := by simp
      refine ⟨rfl, _, rfl, ?_⟩
      show if (!decide (V.str sg = V.str "<=")) = true then _ else _
      rw [e1]
      cases ee : decide (sg ≠ "<=") with
      | false => exact iteF ⟨rfl, rfl⟩
      | true =>
        refine iteT ⟨_, rfl, _, rfl, fF _ (Same.refl _) ⟨fv, .str m.2.1, rfl, nf, nfn, _, rfl, ?_⟩⟩
        cases e2 : decide (fv = V.str m.2.1) with
        | false => exact iteF ⟨rfl, rfl⟩
        | true => exact iteT ⟨_, rfl, _, rfl, gv, oth m, rfl, ng, ho, rfl, rfl⟩
    rintro σ _ ⟨rfl, rfl⟩
    have eU : upB m fv gv (oth m) = ((decide (sg ≠ ">=") && (decide (fv = oth m) && decide (gv = .str m.2.1))) || (decide (sg ≠ "<=") && (decide (fv = .str m.2.1) && decide (gv = oth m)))) := by
      unfold upB
      rw [hsg]
    generalize (decide (sg ≠ ">=") && (decide (fv = oth m) && decide (gv = .str m.2.1))) = up at eU
    generalize (decide (sg ≠ "<=") && (decide (fv = .str m.2.1) && decide (gv = oth m))) = dn at eU
    have eM : uprM m fv gv p = if (up || dn) = true then (told m.1 m.2.1 m.2.2.2).map fun _ => (p, p) else [] := by
      unfold uprM
      rw [if_neg hk', eU]
    refine ⟨fun σ G => σ = [some (.ref z), some fv, some gv, some (.ref u), some (oth m), some (.bl up), some (.bl dn), none] ∧ H = G ∧ (up || dn) = true, ?_, ?_⟩
    · refine ⟨_, rfl, up, rfl, ?_⟩
      cases up with
      | true => exact iteF ⟨rfl, rfl, rfl⟩
      | false =>
        refine iteT ⟨_, rfl, dn, rfl, ?_⟩
        cases dn with
        | true => exact iteF ⟨rfl, rfl, rfl⟩
        | false => exact iteT ⟨by show 0 ≤ sizeLine; decide, fun r nr => emp (Same.refl _) (by rw [eM]; rfl) r nr⟩
    rintro σ _ ⟨rfl, rfl, hud⟩
    rw [if_pos hud] at eM
    rw [eM] at q
    refine ⟨m.1, h7, _, rfl, z, dz, _, rfl, hzz, cFl_no (noM _), z, m.2.1, m.2.2.1, m.2.2.2, rfl, hC, fun t nt => ?_⟩
    have s1 := same_lay (o := .tup (told m.1 m.2.1 m.2.2.2)) nt
    have hl2 : (told m.1 m.2.1 m.2.2.2).length ≤ 2 := by
      unfold told
      split <;> simp
    refine ⟨t, rfl, ⟨_, .inl (.inl upd_same)⟩, fun D nD => lc_tup (K := K) (a := t) (xs := told m.1 m.2.1 m.2.2.2) (fun i G => ∃ cs, G D = some (.lst cs) ∧ All2 (CallAt CL G) cs (((told m.1 m.2.1 m.2.2.2).take i).map fun _ => (p, p)) ∧ Same (upd H t (.tup (told m.1 m.2.1 m.2.2.2))) G)
      ⟨[], upd_same, .nil, same_lay nD⟩ (fun i G _ ⟨_, _, _, s⟩ => .inl (.inl (s _ _ upd_same))) ?_ ?_⟩
    · rintro i y G hy ⟨cs, hD, hA, s2⟩
      have lc := hA.length
      rw [List.length_map, List.length_take] at lc
      have s12 := s1.trans s2
      refine ⟨rfl, yesT ?_⟩
      refine ⟨_, rfl, _, rfl, _, rfl, by show 3 ≤ sizeLine; decide, fun tt ntt => ?_⟩
      have s3 := same_lay (o := .tup [y, .ref u, .ref u]) ntt
      refine ⟨cs, s3 _ _ hD, small1000 (by omega), cs ++ [.ref tt], upd_same, ?_, same_upd (s2.trans s3) nD⟩
      rw [List.take_add_one, hy, List.map_append]
      have k := kp_lst (u := .lst (cs ++ [.ref tt])) (s3 _ _ hD)
      have kc : ∀ {v q0}, CallAt CL G v q0 → CallAt CL (upd (upd G tt (.tup [y, .ref u, .ref u])) D (.lst (cs ++ [.ref tt]))) v q0 := fun ⟨t1, f1, lo, hi, e, h1, h2, h3⟩ => by
        obtain ⟨d2, h2⟩ := h2
        obtain ⟨d3, h3⟩ := h3
        exact ⟨t1, f1, lo, hi, e, k _ _ (s3 _ _ h1) (fun _ z => nomatch z) (fun _ z => nomatch z), ⟨d2, k _ _ (s3 _ _ h2) (fun _ z => nomatch z) (fun _ z => nomatch z)⟩, ⟨d3, k _ _ (s3 _ _ h3) (fun _ z => nomatch z) (fun _ z => nomatch z)⟩⟩
      refine (hA.imp fun _ _ h => kc h).append (.cons ?_ .nil)
      obtain ⟨du, hu0⟩ := hu
      have hu1 := k _ _ (s3 _ _ (s12 _ _ hu0)) (fun _ z => nomatch z) (fun _ z => nomatch z)
      exact ⟨tt, y, u, u, rfl, k _ _ upd_same (fun _ z => nomatch z) (fun _ z => nomatch z), ⟨du, hu1⟩, ⟨du, hu1⟩⟩
    · rintro G ⟨cs, hD, hA, s2⟩
      rw [List.take_of_length_le (Nat.le_refl _)] at hA
      exact q D cs G (s1.free nD) hD hA (s1.trans s2)
end
end OR

namespace OR
open PySem PySem.Spec PyProof.Rows L2
open TL (tl numL)
def rIxA (K : PySem.W.Frag) : R2 := fun x y H Q => ∃ p xs i v, x = .ref p ∧ y = .int i ∧ (SqL K H p xs ∨ SqT K H p xs) ∧ atI xs i = some v ∧ Q v H
theorem ix_any {X : Cx} (K : PySem.W.Frag) (hK : X.K = K) : IxR X (rIxA K) := by
  subst hK
  intro value slice pins s σ H x y v u Q I rx ry h hs
  obtain ⟨p, xs, i, z, hx, hy, hq | hq, he, q⟩ := h
  · exact ix_list value slice pins s σ H x y v u Q I rx ry ⟨p, xs, i, z, hx, hy, hq, he, q⟩ hs
  · exact ix_tup value slice pins s σ H x y v u Q I rx ry ⟨p, xs, i, z, hx, hy, hq, he, q⟩ hs
/-! ### any value read as a hop -/
def Sc (v : V) : Prop := (∃ n, v = .int n) ∨ (∃ s, v = .str s) ∨ (∃ b, v = .bl b) ∨ v = .non
theorem Sc.ty {K : PySem.W.Frag} {v : V} (h : Sc v) : (∃ n, v = .int n) ∨ ((∀ n, v ≠ .int n) ∧ ∃ (T : String) (b1 b2 : Bool), (∀ H, TyX K H v (.type T)) ∧ kitB T "int" = some b1 ∧ kitB T "bool" = some b2 ∧ (b1 && !b2) = false) := by
  rcases h with ⟨n, e⟩ | ⟨s, e⟩ | ⟨b, e⟩ | e <;> subst e
  · exact .inl ⟨n, rfl⟩
  · exact .inr ⟨(fun n z => nomatch z), "str", false, false, fun H => .base (.str s), by decide +kernel, by decide +kernel, rfl⟩
  · exact .inr ⟨(fun n z => nomatch z), "bool", true, true, fun H => .base (.bl b), by decide +kernel, by decide +kernel, rfl⟩
  · exact .inr ⟨(fun n z => nomatch z), "NoneType", false, false, fun H => .base .non, by decide +kernel, by decide +kernel, rfl⟩
def swB (l : List Row) (ps : List (Int × Int)) : Bool := !ps.isEmpty && ps.all fun r => inS l r.1 r.2
def hopB (m : CM) (f : V) (p : Int) (g : V) (q : Int) : Bool :=
  if m.1 = 6 then decide (f = .str m.2.1) && (decide (g = .str m.2.1) && swB m.2.2.1 (stepM (signOf m.2.2.2) p q)) else decide (p = q) && swB m.2.2.1 (uprM m f g p)
def readB (ms : List CM) (i f p g q : V) : Bool := match i, p, q with
  | .int i, .int p, .int q => if 0 ≤ i ∧ i < ms.length then (match ms[i.toNat]? with | some m => hopB m f p g q | none => false) else false
  | _, _, _ => false
theorem readB_int {ms : List CM} {i f p g q : V} (h : (∀ n, i ≠ .int n) ∨ (∀ n, p ≠ .int n) ∨ (∀ n, q ≠ .int n)) : readB ms i f p g q = false := by
  unfold readB
  split
  · rcases h with h | h | h <;> exact absurd rfl (h _)
  · rfl
def spReadHop (K : PySem.W.Frag) (CR CP CS CH CL fPL : Addr) (C : Nat → Addr) : Sp := fun vs H Q _ => ∃ (x s : Addr) (v : V) (fs : List Str) (n : Int) (ms : List CM), vs = [.ref x, v, .ref s, .ref fPL] ∧ IsR K CR CP C H x fs n ms ∧ IsS CS H s 0 0 ∧
  ((∃ a i f p g q, v = .ref a ∧ SeqA K H a [i, f, p, g, q] ∧ NS f ∧ NS g ∧ Sc i ∧ Sc p ∧ Sc q ∧ (readB ms i f p g q = true → ∀ x dx fs H', H' x = some (.ins CH dx fs) → Same H H' → Q (.ref x) H') ∧ (readB ms i f p g q = false → ∀ H', Same H H' → Q .non H')) ∨
   (∃ a xs, v = .ref a ∧ SeqA K H a xs ∧ xs.length ≠ 5 ∧ ∀ H', Same H H' → Q .non H') ∨ (NoSeq K H v ∧ ∀ H', Same H H' → Q .non H'))
def LnV (CL : Addr) (G : Hp) (b p : V) : Prop := (∃ n z, p = .int n ∧ b = .ref z ∧ IsL CL G z 0 n) ∨ ((∀ n, p ≠ .int n) ∧ b = .non)
theorem LnV.same {CL : Addr} {G G' : Hp} {b p : V} (h : LnV CL G b p) (s : Same G G') : LnV CL G' b p := by
  rcases h with ⟨n, z, e1, e2, e3⟩ | h
  · exact .inl ⟨n, z, e1, e2, e3.same s⟩
  · exact .inr h
theorem stepM_le {sg : Str} {p q : Int} : ∀ r ∈ stepM sg p q, r.1 ≤ r.2 := by
  unfold stepM
  split
  · rename_i h
    intro r hr
    rw [List.mem_singleton.mp hr]
    show p ≤ q
    omega
  · split
    · rename_i h
      intro r hr
      rw [List.mem_singleton.mp hr]
      show q ≤ p
      omega
    · intro r hr
      cases hr
theorem stepM_len {sg : Str} {p q : Int} : (stepM sg p q).length ≤ 2 := by
  unfold stepM
  split
  · simp
  · split <;> simp
theorem uprM_len {m : CM} {f g : V} {p : Int} : (uprM m f g p).length ≤ 2 := by
  unfold uprM
  split
  · simp
  · split
    · rw [List.length_map]
      unfold told
      split <;> simp
    · simp
theorem uprM_le {m : CM} {f g : V} {p : Int} : ∀ r ∈ uprM m f g p, r.1 ≤ r.2 := by
  unfold uprM
  split
  · intro r hr
    cases hr
  · split
    · intro r hr
      obtain ⟨_, _, e⟩ := List.mem_map.mp hr
      rw [← e]
      exact Int.le_refl _
    · intro r hr
      cases hr
theorem iteA {b : Bool} {A B : Prop} (h : b = true) (k : A) : if b = true then A else B := by
  subst h
  exact k
section
variable {P : Program} {w : World} {K : PySem.W.Frag} {mg : Str → Option Value} {base : Heap} {CS CH CL CP CR fPL : Addr} {C : Nat → Addr} {fdPL : FuncData}
abbrev rhN : List Str := ["rules", "value", "stretch", "reader", "index", "start", "_", "goal", "begin", "end", "clause", "calls", "low", "high"]
theorem scRH : FnScope rhN ["rules", "value", "stretch", "reader"] (defScope pReadHop) := ⟨rfl, rfl, rfl, by decide +kernel, rfl, by decide +kernel, by decide +kernel⟩
theorem ok_readhop {f : Addr} {fd : FuncData} (F : Fun K "read_hop" "read_hop" pReadHop f fd) (CT : CTxt K mg C) (R : RTxt K mg CR) (T : STxt K mg CS) (LT : LTxt K mg CL) (zN : mg "len" = none) (zA : mg "all" = none) (HM_ : XMk P w K mg base CH "Hop" ["self", "start", "begin", "goal", "end", "calls"] (spHInit CH))
    (ISQ : Cl P w K mg base 1 "is_sequence" ["value", "many"] (spIsSeq K)) (DI : Cl P w K mg base 1 "is_integer" ["value"] (spIsIntG K)) (PL : FnOk P w K mg base CX0 3 fPL fdPL ["value"] (spPlaceLine K CL)) (kPL : PySem.W.keepIn K (.ref fPL) = true) (bPL : Binds K fdPL ["value"] []) (NA : Cl P w K mg base 1 "_names" ["value", "function"] spNames)
    (STC : Cl P w K mg base 4 "_step_calls" ["clause", "begin", "end", "stretch"] (spStepC CS CL CP C)) (UPC : Cl P w K mg base 2 "_upright_calls" ["clause", "start", "goal", "place"] (spUprC CL CP C)) (AL : Mt P w K mg base 3 CS "always_same" ["self", "one", "other"] (spAlways CS CL)) (SW : Mt P w K mg base 3 CS "swept_within" ["self", "low", "high", "places"] (spSwept CS CL CP)) : FnOk P w K mg base CX0 5 f fd ["rules", "value", "stretch", "reader"] (spReadHop K CR CP CS CH CL fPL C) := by
  refine F.ok scRH (fun vs H Q E h => ?_) (fun cdv A outer s H vs Q E hr h => ?_)
  · obtain ⟨_, _, _, _, _, _, rfl, _⟩ := h
    rfl
  · obtain ⟨x, st, v, fs, n, ms, rfl, hR, hs, h⟩ := h
    have nd := scRH.nd
    have hr3 : Room 3 _ := hr.mono (show 3 ≤ 4 by decide)
    refine ⟨_, Evl.pss_cut (ps_if (pt_not (pt_val (pe_cl ISQ hr (by decide) (by rfl) (pa_cons (pv 1) (pa_cons pe_int pa_nil)))))
          (pss_one (ps_ret pe_non))
          pss_nil)
      (Evl.pss_cut (ps_asg (pv 1) (pg_or (pg_tup rfl (pgs_cons (pg_name (i := 4) nd rfl (.inl rfl)) (pgs_cons (pg_name (i := 5) nd rfl (.inl rfl)) (pgs_cons (pg_name (i := 6) nd rfl (.inl rfl)) (pgs_cons (pg_name (i := 7) nd rfl (.inl rfl)) (pgs_cons (pg_name (i := 6) nd rfl (.inl rfl)) pgs_nil)))))) (pg_unl rfl (pgs_cons (pg_name (i := 4) nd rfl (.inl rfl)) (pgs_cons (pg_name (i := 5) nd rfl (.inl rfl)) (pgs_cons (pg_name (i := 6) nd rfl (.inl rfl)) (pgs_cons (pg_name (i := 7) nd rfl (.inl rfl)) (pgs_cons (pg_name (i := 6) nd rfl (.inl rfl)) pgs_nil))))))))
      (Evl.pss_cut (ps_set (i := 8) nd rfl (.inl rfl) (pe_callL (i := 3) PL hr3 rfl (.inl rfl) kPL bPL .nil pass0 (pa_cons (pe_ix (ix_any K rfl) (pv 1) pe_int (fun _ _ => rfl)) pa_nil)))
      (Evl.pss_cut (ps_set (i := 9) nd rfl (.inl rfl) (pe_callL (i := 3) PL hr3 rfl (.inl rfl) kPL bPL .nil pass0 (pa_cons (pe_ix (ix_any K rfl) (pv 1) pe_int (fun _ _ => rfl)) pa_nil)))
      (Evl.pss_cut (ps_if (PW.pt (pw_or (pt_cmp (pc_isN (pv 8))) (pw_or (pt_cmp (pc_isN (pv 9))) (pw_or (pt_not (pt_val (pe_cl DI hr (by decide) (by rfl) (pa_cons (pv 4) pa_nil)))) (pw_or1 (pt_not (pt_chain op_le op_lt pe_int (pv 4) (pe_callB call_len_seq (by rfl) zN PySem.boot_len (pa_cons (pe_fld (pv 0) rfl) pa_nil)))))))))
          (pss_one (ps_ret pe_non))
          pss_nil)
      (pss_cons (ps_set (i := 10) nd rfl (.inr rfl) (pe_ix (ix_tupK K rfl) (pe_fld (pv 0) rfl) (pv 4) (fun _ _ => rfl)))
      (Evl.pss_cut (ps_if (pt_cmpR op_eq (pe_fld (pv 10) rfl) pe_str (nomark _))
          (Evl.pss_cut (ps_if (PW.pt (pw_or (pt_not (pt_val (pe_cl NA hr (by decide) (by rfl) (pa_cons (pv 5) (pa_cons (pe_fld (pv 10) rfl) pa_nil))))) (pw_or1 (pt_not (pt_val (pe_cl NA hr (by decide) (by rfl) (pa_cons (pv 7) (pa_cons (pe_fld (pv 10) rfl) pa_nil))))))))
              (pss_one (ps_ret pe_non))
              pss_nil)
          (pss_one (ps_set (i := 11) nd rfl (.inl rfl) (pe_cl STC hr (by decide) (by rfl) (pa_cons (pv 10) (pa_cons (pv 8) (pa_cons (pv 9) (pa_cons (pv 2) pa_nil))))))))
          (pss_cons (ps_set (i := 11) nd rfl (.inl rfl) (pe_cl UPC hr (by decide) (by rfl) (pa_cons (pv 10) (pa_cons (pv 5) (pa_cons (pv 7) (pa_cons (pv 8) pa_nil))))))
          (pss_one (ps_if (pt_not (pt_val (pe_mt AL T.cl hr (by decide) (pv 2) (pa_cons (pv 8) (pa_cons (pv 9) pa_nil)))))
              (pss_one (ps_ret pe_non))
              pss_nil))))
      (Evl.pss_cut (ps_if (PW.pt (pw_or (pt_not (pt_truth (pv 11) (by intro _; rfl))) (pw_or1 (pt_not (pt_val (pe_callB (cr_all rfl) (by rfl) zA bt_all (pa_cons (pe_lc (own := [("_", 6), ("low", 12), ("high", 13)]) (g := (gTup K 3 (gCons (gName 6) (gCons (gName 12) (gCons (gName 13) gNil))))) (tt := tYes) rfl nd (pi_list (pv 11)) (blkOk_by (N := rhN) (sc := defScope pReadHop) (by decide +kernel)) (fun _ _ _ _ _ => pg_tup rfl (pgs_cons (pg_name (i := 6) nd rfl (.inl rfl)) (pgs_cons (pg_name (i := 12) nd rfl (.inl rfl)) (pgs_cons (pg_name (i := 13) nd rfl (.inl rfl)) pgs_nil)))) (fun _ _ _ _ _ => pts_nil) (fun _ _ _ _ _ => (pe_mt SW T.cl hr (by decide) (pv 2) (pa_cons (pv 12) (pa_cons (pv 13) (pa_cons (pe_fldK K rfl (pv 10) rfl) pa_nil)))))) pa_nil)))))))
          (pss_one (ps_ret pe_non))
          pss_nil)
      (pss_one (ps_ret (pe_mkH HM_ hr (by decide) (by rfl) (pa_cons (pv 5) (pa_cons (pv 8) (pa_cons (pv 7) (pa_cons (pv 9) (pa_cons (pv 11) pa_nil))))))))))))))), ?_⟩
    obtain ⟨ds, hs0⟩ := id hs
    obtain ⟨dx, fa, ta, xs, hx, _, hT, hA⟩ := id hR
    have noA : (sFl 0 0).lookup ("always_same" : Str) = none := sFl_no _ _ (by decide +kernel) (by decide +kernel)
    have noS : (sFl 0 0).lookup ("swept_within" : Str) = none := sFl_no _ _ (by decide +kernel) (by decide +kernel)
    -- five parts
    refine ⟨fun σ G => ∃ a i f p g q, v = .ref a ∧ σ = [some (.ref x), some v, some (.ref st), some (.ref fPL), none, none, none, none, none, none, none, none, none, none] ∧ Same H G ∧ SeqA K H a [i, f, p, g, q] ∧ NS f ∧ NS g ∧ Sc i ∧ Sc p ∧ Sc q ∧ (readB ms i f p g q = true → ∀ x dx fs H', H' x = some (.ins CH dx fs) → Same H H' → Q (.ref x) H') ∧ (readB ms i f p g q = false → ∀ H', Same H H' → Q .non H'), ?_, ?_⟩
    · refine ⟨_, rfl, v, 5, rfl, ?_⟩
      rcases h with ⟨a, i, f, p, g, q, rfl, hS, r⟩ | ⟨a, ys, rfl, hS, hl, q⟩ | ⟨hN, q⟩
      · exact .inl ⟨a, _, rfl, hS, fun G s => ⟨_, rfl, iteB (by simp) ⟨a, i, f, p, g, q, rfl, rfl, s, hS, r⟩⟩⟩
      · exact .inl ⟨a, _, rfl, hS, fun G s => ⟨_, rfl, iteA (by rw [decide_eq_false (by omega)]; rfl) (q G s)⟩⟩
      · exact .inr ⟨hN, fun G s => ⟨_, rfl, iteT (q G s)⟩⟩
    clear h
    rintro σ G0 ⟨a, i, f, p, g, q, rfl, rfl, s0, hS, nf, ng, si, sp, sq, yes, no⟩
    have hS0 := hS.same s0
    refine ⟨fun σ G => σ = [some (.ref x), some (.ref a), some (.ref st), some (.ref fPL), some i, some f, some q, some g, none, none, none, none, none, none] ∧ G0 = G, ?_, ?_⟩
    · rcases hS0 with hS0 | hS0
      · exact ⟨_, rfl, .inl ⟨a, _, rfl, hS0, rfl, _, _, rfl, _, _, rfl, _, _, rfl, _, _, rfl, _, _, rfl, rfl, rfl, rfl⟩⟩
      · exact ⟨_, rfl, .inr ⟨a, _, rfl, .inl (.inl hS0), rfl, _, _, rfl, _, _, rfl, _, _, rfl, _, _, rfl, _, _, rfl, rfl, rfl, rfl⟩⟩
    rintro σ _ ⟨rfl, rfl⟩
    have hSS : ∀ {G}, Same H G → SqL K G a [i, f, p, g, q] ∨ SqT K G a [i, f, p, g, q] := fun s => (hS.same s).elim .inr fun e => .inl (.inl (.inl e))
    -- the two lines
    refine ⟨fun σ G => ∃ b8, σ = [some (.ref x), some (.ref a), some (.ref st), some (.ref fPL), some i, some f, some q, some g, some b8, none, none, none, none, none] ∧ Same H G ∧ LnV CL G b8 p, ?_, ?_⟩
    · refine ⟨rfl, _, rfl, a, _, 2, p, rfl, rfl, hSS s0, atI_nat (j := 2) rfl, p, rfl, ?_⟩
      rcases sp.ty (K := K) with ⟨n1, e⟩ | ⟨hn, T1, b1, b2, hT1, k1, k2, kb⟩
      · exact .inl ⟨n1, e, fun z G nz hz s1 => ⟨_, rfl, s0.trans s1, .inl ⟨n1, z, e, rfl, hz⟩⟩⟩
      · exact .inr ⟨T1, b1, b2, hT1 _, k1, k2, kb, _, rfl, s0, .inr ⟨hn, rfl⟩⟩
    rintro σ G1 ⟨b8, rfl, s1, l8⟩
    refine ⟨fun σ G => ∃ b9, σ = [some (.ref x), some (.ref a), some (.ref st), some (.ref fPL), some i, some f, some q, some g, some b8, some b9, none, none, none, none] ∧ Same H G ∧ LnV CL G b8 p ∧ LnV CL G b9 q, ?_, ?_⟩
    · refine ⟨rfl, _, rfl, a, _, 4, q, rfl, rfl, hSS s1, atI_nat (j := 4) rfl, q, rfl, ?_⟩
      rcases sq.ty (K := K) with ⟨n1, e⟩ | ⟨hn, T1, b1, b2, hT1, k1, k2, kb⟩
      · exact .inl ⟨n1, e, fun z G nz hz s2 => ⟨_, rfl, s1.trans s2, l8.same s2, .inl ⟨n1, z, e, rfl, hz⟩⟩⟩
      · exact .inr ⟨T1, b1, b2, hT1 _, k1, k2, kb, _, rfl, s1, l8, .inr ⟨hn, rfl⟩⟩
    clear l8
    rintro σ G2 ⟨b9, rfl, s2, l8, l9⟩
    -- all three are integers, and there is such a clause
    refine ⟨fun σ G => ∃ (k n1 n2 : Int) (z8 z9 : Addr), i = .int k ∧ p = .int n1 ∧ q = .int n2 ∧ 0 ≤ k ∧ k < ms.length ∧ σ = [some (.ref x), some (.ref a), some (.ref st), some (.ref fPL), some i, some f, some q, some g, some (.ref z8), some (.ref z9), none, none, none, none] ∧ G2 = G ∧ IsL CL G z8 0 n1 ∧ IsL CL G z9 0 n2, ?_, ?_⟩
    · rcases l8 with ⟨n1, z8, ep, rfl, h8⟩ | ⟨hn, rfl⟩
      · rcases l9 with ⟨n2, z9, eq, rfl, h9⟩ | ⟨hn, rfl⟩
        · refine ⟨_, rfl, _, rfl, iteF ⟨_, rfl, _, rfl, iteF ?_⟩⟩
          refine ⟨_, rfl, i, ?_⟩
          rcases si.ty (K := K) with ⟨k, e⟩ | ⟨hn, T1, b1, b2, hT1, k1, k2, kb⟩
          · refine ⟨"int", true, false, rfl, by rw [e]; exact .base (.int k), by decide +kernel, by decide +kernel, _, rfl, iteF ?_⟩
            subst e
            have lx : xs.length = ms.length := hA.length
            refine ⟨_, rfl, _, _, rfl, rfl, _, rfl, ite2 (fun c1 => ?_) (fun c1 => ?_)⟩
            · have c0 : 0 ≤ k := of_decide_eq_true c1
              refine ⟨_, rfl, x, CR, dx, _, _, rfl, s2 _ _ hx, R.cl, R.nT, rFl_t _ _ _, ta, xs, rfl, .inr (sameT s2 hT), _, _, rfl, rfl, _, rfl, ?_⟩
              by_cases cl : k < (xs.length : Int)
              · exact iteB (by rw [decide_eq_true cl]; rfl) ⟨k, n1, n2, z8, z9, rfl, ep, eq, c0, by omega, rfl, rfl, h8, h9⟩
              · refine iteA (by rw [decide_eq_false cl]; rfl) (no ?_ _ s2)
                subst ep eq
                show (if 0 ≤ k ∧ k < ms.length then _ else false) = false
                rw [if_neg (by omega)]
            · have c0 : ¬ 0 ≤ k := fun e => c1 (decide_eq_true e)
              refine ⟨_, rfl, iteT (no ?_ _ s2)⟩
              subst ep eq
              show (if 0 ≤ k ∧ k < ms.length then _ else false) = false
              rw [if_neg (by omega)]
          · exact ⟨T1, b1, b2, rfl, hT1 _, k1, k2, _, rfl, iteA (by rw [kb]; rfl) (no (readB_int (.inl hn)) _ s2)⟩
        · exact ⟨_, rfl, _, rfl, iteF ⟨_, rfl, _, rfl, iteT (no (readB_int (.inr (.inr hn))) _ s2)⟩⟩
      · exact ⟨_, rfl, _, rfl, iteT (no (readB_int (.inr (.inl hn))) _ s2)⟩
    clear l8 l9
    rintro σ _ ⟨k, n1, n2, z8, z9, rfl, rfl, rfl, k0, k1, rfl, rfl, h8, h9⟩
    have lx : xs.length = ms.length := hA.length
    have hkx : k.toNat < xs.length := by omega
    have hkm : k.toNat < ms.length := by omega
    obtain ⟨z, hz, hC⟩ := hA.get (List.getElem?_eq_getElem hkx) (List.getElem?_eq_getElem hkm)
    have hrb : readB ms (.int k) f (.int n1) g (.int n2) = hopB ms[k.toNat] f n1 g n2 := by
      show (if 0 ≤ k ∧ k < ms.length then (match ms[k.toNat]? with | some m => hopB m f n1 g n2 | none => false) else false) = _
      rw [if_pos ⟨k0, k1⟩, List.getElem?_eq_getElem hkm]
    rw [hrb] at yes no
    have hat : atI xs k = some (.ref z) := by
      have := atI_nat (xs := xs) (List.getElem?_eq_getElem hkx)
      rw [hz, Int.toNat_of_nonneg k0] at this
      exact this
    generalize ms[k.toNat] = m at hC hrb yes no
    obtain ⟨dz, pl, hzz, hpl⟩ := hC.ex
    have h7 := hC.lt
    refine ⟨_, rfl, x, CR, dx, _, _, rfl, s2 _ _ hx, R.cl, R.nT, rFl_t _ _ _, _, rfl, ta, xs, k, .ref z, rfl, rfl, sameT s2 hT, hat, ?_⟩
    have fF : ∀ {G} (Q' : V → Prop), Same H G → Q' (.str m.2.1) → ∃ a C' dx fs v', V.ref z = .ref a ∧ G a = some (.ins C' dx fs) ∧ Cls K C' ∧ NoAttr K C' ("function" : Str) ∧ fs.lookup ("function" : Str) = some v' ∧ Q' v' := fun Q' s q' => fld CT (s _ _ hzz) hC.lt (j := 1) rfl rfl q'
    have fK : ∀ {G} (Q' : V → Prop), Same H G → Q' (.str (kName m.1)) → ∃ a C' dx fs v', V.ref z = .ref a ∧ G a = some (.ins C' dx fs) ∧ Cls K C' ∧ NoAttr K C' ("kind" : Str) ∧ fs.lookup ("kind" : Str) = some v' ∧ Q' v' := fun Q' s q' => fld CT (s _ _ hzz) hC.lt (j := 0) rfl rfl q'
    have fP : ∀ {G} (Q' : V → Prop), Same H G → Q' (.ref pl) → ∃ a C' dx fs v', V.ref z = .ref a ∧ G a = some (.ins C' dx fs) ∧ Cls K C' ∧ NoAttr K C' ("places" : Str) ∧ fs.lookup ("places" : Str) = some v' ∧ Q' v' := fun Q' s q' => fld CT (s _ _ hzz) hC.lt (j := 2) rfl rfl q'
    have nfn : NS (.str m.2.1) := .inr ⟨_, rfl, hC.w.small⟩
    -- the calls
    refine ⟨fun σ G => ∃ (r : Addr) (cs : List V) (ps : List (Int × Int)), σ = [some (.ref x), some (.ref a), some (.ref st), some (.ref fPL), some (.int k), some f, some (.int n2), some g, some (.ref z8), some (.ref z9), some (.ref z), some (.ref r), none, none] ∧ Same H G ∧ G r = some (.lst cs) ∧ All2 (CallAt CL G) cs ps ∧ hopB m f n1 g n2 = swB m.2.2.1 ps ∧ (∀ q ∈ ps, q.1 ≤ q.2) ∧ ps.length ≤ 2, ?_, ?_⟩
    · refine ⟨_, rfl, fK _ s2 ?_⟩
      refine ⟨rfl, _, rfl, ite2 (fun c1 => ?_) (fun c1 => ?_)⟩
      · have h6 : m.1 = 6 := kName_inj (j := 6) h7 (by decide) (show kName m.1 = "step" by simpa using c1)
        have hh : hopB m f n1 g n2 = (decide (f = .str m.2.1) && (decide (g = .str m.2.1) && swB m.2.2.1 (stepM (signOf m.2.2.2) n1 n2))) := by
          unfold hopB
          rw [if_pos h6]
        refine ⟨fun σ G => σ = [some (.ref x), some (.ref a), some (.ref st), some (.ref fPL), some (.int k), some f, some (.int n2), some g, some (.ref z8), some (.ref z9), some (.ref z), none, none, none] ∧ G2 = G ∧ hopB m f n1 g n2 = swB m.2.2.1 (stepM (signOf m.2.2.2) n1 n2), ?_, ?_⟩
        · refine ⟨_, rfl, _, rfl, fF _ s2 ⟨f, .str m.2.1, rfl, nf, nfn, _, rfl, ?_⟩⟩
          cases e1 : decide (f = V.str m.2.1) with
          | false => exact iteT (no (by rw [hh, e1]; rfl) _ s2)
          | true =>
            refine iteF ⟨_, rfl, _, rfl, fF _ s2 ⟨g, .str m.2.1, rfl, ng, nfn, _, rfl, ?_⟩⟩
            cases e2 : decide (g = V.str m.2.1) with
            | false => exact iteT (no (by rw [hh, e1, e2]; rfl) _ s2)
            | true => exact iteF ⟨rfl, rfl, by rw [hh, e1, e2]; rfl⟩
        rintro σ _ ⟨rfl, rfl, hh2⟩
        refine ⟨_, rfl, _, rfl, _, rfl, _, rfl, z, z8, z9, st, m, n1, n2, rfl, ⟨z, rfl, hC.same s2⟩, h6, h8, h9, hs.same s2, fun r cs G3 nr hr3' hA3 s3 => ?_⟩
        exact ⟨r, cs, _, rfl, s2.trans s3, hr3', hA3, hh2, stepM_le, stepM_len⟩
      · have h6 : m.1 ≠ 6 := fun e => c1 (by rw [e]; decide +kernel)
        have hh : hopB m f n1 g n2 = (decide (n1 = n2) && swB m.2.2.1 (uprM m f g n1)) := by
          unfold hopB
          rw [if_neg h6]
        refine ⟨_, rfl, _, rfl, _, rfl, _, rfl, z, z8, m, f, g, n1, rfl, ⟨z, rfl, hC.same s2⟩, nf, ng, h8, fun r cs G3 nr hr3' hA3 s3 => ?_⟩
        have s03 := s2.trans s3
        refine ⟨_, rfl, st, ds, _, rfl, s03 _ _ hs0, noA, _, rfl, _, rfl, st, z8, z9, 0, 0, (0, n1), (0, n2), rfl, hs.same s03, h8.same s3, h9.same s3, sm00 _, sm00 _, sm00 _, sm00 _, ?_⟩
        rw [nev0, nev0]
        have e1 : (decide (n1 ≤ n2) && decide (n2 ≤ n1)) = decide (n1 = n2) := by
          rw [Bool.eq_iff_iff, Bool.and_eq_true, decide_eq_true_eq, decide_eq_true_eq, decide_eq_true_eq]
          omega
        rw [e1]
        refine ⟨_, rfl, ?_⟩
        cases e2 : decide (n1 = n2) with
        | false => exact iteT (no (by rw [hh, e2]; rfl) _ s03)
        | true =>
          exact iteF ⟨r, cs, _, rfl, s03, hr3', hA3, by rw [hh, e2]; rfl, uprM_le, uprM_len⟩
    rintro σ G3 ⟨r, cs, ps, rfl, s3, hr0, hA3, hh, hle, lps⟩
    refine ⟨fun σ G => σ = [some (.ref x), some (.ref a), some (.ref st), some (.ref fPL), some (.int k), some f, some (.int n2), some g, some (.ref z8), some (.ref z9), some (.ref z), some (.ref r), none, none] ∧ Same H G ∧ hopB m f n1 g n2 = true, ?_, ?_⟩
    · have lcp := hA3.length
      have eE : cs.isEmpty = ps.isEmpty := by
        cases cs <;> cases ps <;> first | rfl | (simp at lcp)
      refine ⟨_, rfl, !cs.isEmpty, .inl ⟨cs, .inl (.inl hr0), rfl⟩, ?_⟩
      rw [eE]
      cases he : ps.isEmpty with
      | true =>
        refine iteT (no ?_ _ s3)
        rw [hh]
        unfold swB
        rw [he]
        rfl
      | false =>
        refine iteF ?_
        refine ⟨_, rfl, r, rfl, ⟨_, .inl (.inl hr0)⟩, fun D nD => lc_list (K := K) (a := r) (xs := cs) (fun i G => G D = some (.lst (((ps.take i).map fun q => inS m.2.2.1 q.1 q.2).map V.bl)) ∧ Same G3 G)
          ⟨upd_same, same_lay nD⟩ (fun i G _ ⟨_, s⟩ => .inl (.inl (s _ _ hr0))) ?_ ?_⟩
        · rintro i y G hy ⟨hD, s5⟩
          obtain ⟨q0, hq0, hcall⟩ := hA3.getL hy
          obtain ⟨t, fq, lo, hi, rfl, h1, h2, h3⟩ := hcall.same s5
          have hil : i < ps.length := (List.getElem?_eq_some_iff.mp hq0).1
          have s35 := s3.trans s5
          refine ⟨t, _, rfl, .inl (.inl h1), rfl, _, _, rfl, _, _, rfl, _, _, rfl, rfl, rfl, yesT ?_⟩
          refine ⟨_, rfl, st, ds, _, rfl, s35 _ _ hs0, noS, _, rfl, _, rfl, _, rfl, fP _ s35 ⟨st, lo, hi, pl, 0, 0, (0, q0.1), (0, q0.2), m.2.2.1, rfl, hs.same s35, h2, h3, hpl.same s35, sm00 _, sm00 _, ?_⟩⟩
          have l1 : lv (0, q0.1) 0 = q0.1 := by show (0 : Int) * 0 + q0.1 = q0.1; omega
          have l2 : lv (0, q0.2) 0 = q0.2 := by show (0 : Int) * 0 + q0.2 = q0.2; omega
          rw [l1, l2, swept_eq hpl.nf (hle q0 (List.mem_of_getElem? hq0))]
          refine ⟨_, hD, small1000 (by rw [List.length_map, List.length_map, List.length_take]; omega), ?_, same_upd s5 nD⟩
          rw [upd_same, List.take_add_one, hq0, List.map_append, List.map_append]
          rfl
        · rintro G ⟨hD, s5⟩
          rw [lcp, List.take_of_length_le (Nat.le_refl _)] at hD
          refine ⟨D, _, rfl, .inl (.inl hD), _, rfl, ?_⟩
          have eA : (ps.map fun q => inS m.2.2.1 q.1 q.2).all id = ps.all fun r => inS m.2.2.1 r.1 r.2 := by rw [List.all_map]; rfl
          have ew : hopB m f n1 g n2 = ps.all fun r => inS m.2.2.1 r.1 r.2 := by
            rw [hh]
            unfold swB
            rw [he]
            rfl
          rw [eA, ← ew]
          cases e3 : hopB m f n1 g n2 with
          | false => exact iteT (no e3 _ (s3.trans s5))
          | true => exact iteF ⟨rfl, s3.trans s5, rfl⟩
    rintro σ G4 ⟨rfl, s4, hyes⟩
    refine ⟨_, rfl, _, rfl, _, rfl, _, rfl, _, rfl, _, _, _, _, _, rfl, fun xo dxo fso G5 nxo hxo s5 => ?_⟩
    exact yes hyes xo dxo fso G5 hxo (s4.trans s5)
end
end OR

namespace OR
open PySem PySem.Spec PyProof.Rows L2
open TL (tl numL)
/-! ### the cost of any value -/
def numA (m : CM) : Int := match m.1, m.2.2.2 with
  | 4, [_, .int a, _] => a
  | 5, [_, _, .int a, _] => a
  | _, _ => 0
def numH (m : CM) : Int := match m.1, m.2.2.2 with
  | 4, [_, _, .int c] => c
  | 5, [_, _, _, .int c] => c
  | 6, [_, .int c] => c
  | _, _ => 0
theorem num_of {m : CM} (h7 : m.1 < 7) (wf : WF m.1 m.2.1 m.2.2.2) (h4 : 4 ≤ m.1) : NumC m (numA m) (numH m) ∧ BB (numA m) ∧ BB (numH m) := by
  obtain ⟨k, f, l, x⟩ := m
  have e : k = 4 ∨ k = 5 ∨ k = 6 := by
    have h7 : k < 7 := h7
    have h4 : 4 ≤ k := h4
    omega
  rcases e with e | e | e <;> subst e
  · obtain ⟨s, a, b, e, _, ha, hb⟩ := id wf
    obtain rfl : x = _ := e
    exact ⟨.inl ⟨rfl, s, rfl⟩, num_BB ha, num_BB hb⟩
  · obtain ⟨s, g, a, b, e, _, hg, _, ha, hb⟩ := id wf
    obtain rfl : x = _ := e
    exact ⟨.inr (.inl ⟨rfl, s, g, rfl⟩), num_BB ha, num_BB hb⟩
  · obtain ⟨s, b, e, _, hb⟩ := id wf
    obtain rfl : x = _ := e
    exact ⟨.inr (.inr ⟨rfl, rfl, s, rfl⟩), (by show (0 : Int).natAbs < 2 ^ 1000; exact Nat.two_pow_pos _), num_BB hb⟩
def costM (m : CM) (f : V) (p : Int) (g : V) (q : Int) : V := if hopB m f p g q = true then .int (costI m.1 (numA m) (numH m) p (eqS g m.2.1) q) else .non
def costV (ms : List CM) (i f p g q : V) : V := match i, p, q with
  | .int i, .int p, .int q => if 0 ≤ i ∧ i < ms.length then (match ms[i.toNat]? with | some m => costM m f p g q | none => .non) else .non
  | _, _, _ => .non
theorem costV_no {ms : List CM} {i f p g q : V} (h : readB ms i f p g q = false) : costV ms i f p g q = .non := by
  unfold costV
  unfold readB at h
  split
  · rename_i k n1 n2
    dsimp only at h
    split
    · rename_i c
      rw [if_pos c] at h
      cases e : ms[k.toNat]? with
      | none => rfl
      | some m =>
        rw [e] at h
        show costM m f n1 g n2 = .non
        unfold costM
        have h : hopB m f n1 g n2 = false := h
        rw [h]
        rfl
    · rfl
  · rfl
theorem read_yes {ms : List CM} {i f p g q : V} (h : readB ms i f p g q = true) : ∃ (k : Nat) (n1 n2 : Int) (m : CM), i = .int (k : Nat) ∧ p = .int n1 ∧ q = .int n2 ∧ ms[k]? = some m ∧ hopB m f n1 g n2 = true ∧ costV ms i f p g q = costM m f n1 g n2 := by
  unfold readB at h
  split at h
  · rename_i k n1 n2
    split at h
    · rename_i c
      cases e : ms[k.toNat]? with
      | none => rw [e] at h; cases h
      | some m =>
        rw [e] at h
        refine ⟨k.toNat, n1, n2, m, by rw [Int.toNat_of_nonneg c.1], rfl, rfl, e, h, ?_⟩
        show (if 0 ≤ k ∧ k < ms.length then (match ms[k.toNat]? with | some m => costM m f n1 g n2 | none => .non) else .non) = _
        rw [if_pos c, e]
    · cases h
  · cases h
theorem hop_kind {m : CM} {f g : V} {p q : Int} (h7 : m.1 < 7) (h : hopB m f p g q = true) : 4 ≤ m.1 := by
  unfold hopB at h
  split at h
  · omega
  · refine Classical.byContradiction fun c => ?_
    unfold uprM at h
    rw [if_pos ⟨by omega, by omega⟩] at h
    simp [swB] at h
theorem hop_in {m : CM} {f g : V} {p q : Int} (h : hopB m f p g q = true) : ∃ r ∈ m.2.2.1, r.1 ≤ p ∧ p ≤ r.2 ∧ r.1 ≤ q ∧ q ≤ r.2 := by
  have one : ∀ {ps : List (Int × Int)}, swB m.2.2.1 ps = true → ∃ x ∈ ps, inS m.2.2.1 x.1 x.2 = true := fun {ps} h => by
    unfold swB at h
    rw [Bool.and_eq_true] at h
    cases ps with
    | nil => cases h.1
    | cons x r =>
      refine ⟨x, List.mem_cons_self, ?_⟩
      exact List.all_eq_true.mp h.2 x List.mem_cons_self
  unfold hopB at h
  split at h
  · rw [Bool.and_eq_true, Bool.and_eq_true] at h
    obtain ⟨x, hx, hi⟩ := one h.2.2
    obtain ⟨r, hr, h1, h2⟩ := (inS_iff _ _ _).mp hi
    unfold stepM at hx
    split at hx
    · rename_i c
      rw [List.mem_singleton.mp hx] at h1 h2
      exact ⟨r, hr, h1, by have : q ≤ r.2 := h2; omega, by have : r.1 ≤ p := h1; omega, h2⟩
    · split at hx
      · rename_i c
        rw [List.mem_singleton.mp hx] at h1 h2
        exact ⟨r, hr, by have : r.1 ≤ q := h1; omega, h2, h1, by have : p ≤ r.2 := h2; omega⟩
      · cases hx
  · rw [Bool.and_eq_true, decide_eq_true_eq] at h
    obtain ⟨x, hx, hi⟩ := one h.2
    obtain ⟨r, hr, h1, h2⟩ := (inS_iff _ _ _).mp hi
    have ex : x = (p, p) := by
      unfold uprM at hx
      split at hx
      · cases hx
      · split at hx
        · obtain ⟨_, _, e⟩ := List.mem_map.mp hx
          exact e.symm
        · cases hx
    subst ex
    have e := h.1
    exact ⟨r, hr, h1, h2, by rw [← e]; exact h1, by rw [← e]; exact h2⟩
/-- a value and what it costs -/
def HV (K : PySem.W.Frag) (H : Hp) (ms : List CM) (v r : V) : Prop :=
  (∃ a i f p g q, v = .ref a ∧ SeqA K H a [i, f, p, g, q] ∧ NS f ∧ NS g ∧ Sc i ∧ Sc p ∧ Sc q ∧ r = costV ms i f p g q) ∨ (∃ a xs, v = .ref a ∧ SeqA K H a xs ∧ xs.length ≠ 5 ∧ r = .non) ∨ (NoSeq K H v ∧ r = .non)
def spHopCost (K : PySem.W.Frag) (CR CP : Addr) (C : Nat → Addr) : Sp := fun vs H Q _ => ∃ (x : Addr) (v r : V) (fs : List Str) (n : Int) (ms : List CM), vs = [.ref x, v] ∧ IsR K CR CP C H x fs n ms ∧ n ≤ lastP ∧ (∀ m ∈ ms, GoodM fs n m) ∧ HV K H ms v r ∧ ∀ H', Same H H' → Q r H'
theorem HV.same {K : PySem.W.Frag} {H H' : Hp} {ms : List CM} {v r : V} (h : HV K H ms v r) (s : Same H H') : HV K H' ms v r := by
  rcases h with ⟨a, i, f, p, g, q, e, hS, h⟩ | ⟨a, xs, e, hS, h⟩ | ⟨⟨T, h1, h2⟩, h⟩
  · exact .inl ⟨a, i, f, p, g, q, e, hS.same s, h⟩
  · exact .inr (.inl ⟨a, xs, e, hS.same s, h⟩)
  · exact .inr (.inr ⟨⟨T, fun H2 s2 => h1 H2 (s.trans s2), h2⟩, h⟩)
section
variable {P : Program} {w : World} {K : PySem.W.Frag} {mg : Str → Option Value} {base : Heap} {CS CH CL CP CR fPL : Addr} {C : Nat → Addr} {fdPL : FuncData}
theorem scHCo : FnScope ["rules", "hop"] ["rules", "hop"] (defScope pHopCost) := ⟨rfl, rfl, rfl, by decide +kernel, rfl, by decide +kernel, by decide +kernel⟩
theorem ok_hopcost {f : Addr} {fd : FuncData} (F : Fun K "hop_cost" "hop_cost" pHopCost f fd) (SM : XMk P w K mg base CS "Stretch" ["self", "first", "last"] (spSInit CS)) (gPL : mg "place_line" = some (.ref fPL)) (RH : Cl P w K mg base 5 "read_hop" ["rules", "value", "stretch", "reader"] (spReadHop K CR CP CS CH CL fPL C)) (HL : Cl P w K mg base 5 "hop_line" ["rules", "hop"] (spHopLine K CR CP CL C)) (VA : Cl P w K mg base 1 "value_at" ["line", "x"] (spValAt CL)) : FnOk P w K mg base CX0 6 f fd ["rules", "hop"] (spHopCost K CR CP C) := by
  refine F.ok scHCo (fun vs H Q E h => ?_) (fun cdv A outer s H vs Q E hr h => ?_)
  · obtain ⟨_, _, _, _, _, _, rfl, _⟩ := h
    rfl
  · obtain ⟨x, v, r, fs, n, ms, rfl, hR, hn, hG, hV, q⟩ := h
    refine ⟨_, pss_cons (ps_if (pt_cmp (pc_isN (pe_cl RH hr (by decide) (by rfl) (pa_cons (pv 0) (pa_cons (pv 1) (pa_cons (pe_mkS SM hr (by decide) (by rfl) (pa_cons pe_int (pa_cons pe_int pa_nil))) (pa_cons (pe_glob (v := .ref fPL) (by rfl) gPL rfl) pa_nil)))))))
          (pss_one (ps_ret pe_non))
          pss_nil)
      (pss_one (ps_ret (pe_cl VA hr (by decide) (by rfl) (pa_cons (pe_cl HL hr (by decide) (by rfl) (pa_cons (pv 0) (pa_cons (pv 1) pa_nil))) (pa_cons pe_int pa_nil))))), ?_⟩
    refine ⟨_, rfl, _, rfl, 0, 0, rfl, fun st H1 nst hst s1 => ⟨x, st, v, fs, n, ms, rfl, hR.same s1, hst, ?_⟩⟩
    rcases hV.same s1 with ⟨a, i, f, p, g, q0, rfl, hS, nf, ng, si, sp, sq, er⟩ | ⟨a, xs, rfl, hS, hl, er⟩ | ⟨hN, er⟩
    · refine .inl ⟨a, i, f, p, g, q0, rfl, hS, nf, ng, si, sp, sq, fun hy xo dxo fso H2 hxo s2 => ?_, fun hno H2 s2 => ?_⟩
      · refine ⟨_, rfl, iteF ?_⟩
        have s12 := s1.trans s2
        obtain ⟨k, n1, n2, m, rfl, rfl, rfl, hm, hh, ec⟩ := read_yes hy
        have hGm := hG m (List.mem_of_getElem? hm)
        obtain ⟨hN, ba, bc⟩ := num_of hGm.lt hGm.wf (hop_kind hGm.lt hh)
        obtain ⟨rw_, hrw, r1, r2, r3, r4⟩ := hop_in hh
        have bd := hGm.bd rw_ hrw
        have eL : lastP = 10 ^ 30 := rfl
        have b40 : ∀ {y : Int}, 0 ≤ y → y ≤ n → BB y := fun h0 h1 => BB_small (Nat.lt_of_le_of_lt (show _ ≤ 10 ^ 30 by omega) (by decide))
        refine ⟨_, rfl, _, rfl, x, .ref a, fs, n, ms, ⟨k, f, (false, n1), g, (false, n2)⟩, lnP m.1 (numA m) (numH m) (false, n1) (eqS g m.2.1) (false, n2), rfl, hR.same s12, ⟨a, .int n1, .int n2, rfl, (hS.same s2).elim .inl fun e => .inr (.inl (.inl e)), rfl, rfl⟩, ⟨m, _, _, hm, hN, ba, bc, b40 (y := n1) (by omega) (by omega), b40 (y := n2) (by omega) (by omega), ng.scal, rfl⟩, fun z H3 nz hz s3 => ?_⟩
        have e0 : (lnP m.1 (numA m) (numH m) (false, n1) (eqS g m.2.1) (false, n2)).1 = 0 := by
          unfold lnP slp
          split
          · simp
          · split <;> simp
        refine ⟨z, _, _, 0, rfl, hz, by rw [e0]; exact sm00 0, ?_⟩
        rw [lnP_at]
        have e1 : plc (false, n1) 0 = n1 := by simp [plc, slp]
        have e2 : plc (false, n2) 0 = n2 := by simp [plc, slp]
        rw [e1, e2]
        have := q H3 (s12.trans s3)
        rw [er, ec] at this
        unfold costM at this
        rw [if_pos hh] at this
        exact this
      · rw [costV_no hno] at er
        exact ⟨_, rfl, iteT (by rw [← er]; exact q H2 (s1.trans s2))⟩
    · exact .inr (.inl ⟨a, xs, rfl, hS, hl, fun H2 s2 => ⟨_, rfl, iteT (by rw [← er]; exact q H2 (s1.trans s2))⟩⟩)
    · exact .inr (.inr ⟨hN, fun H2 s2 => ⟨_, rfl, iteT (by rw [← er]; exact q H2 (s1.trans s2))⟩⟩)
end
end OR

namespace OR
open PySem PySem.Spec PyProof.Rows L2
open TL (tl numL)
theorem SRep.fits {fs : List Str} {n : Int} {m : CM} (h : GoodM fs n m) : Fits fs n m := ⟨h.told, fun r hr => (h.bd r hr).2⟩
def spRulesOf (K : PySem.W.Frag) (CR CP : Addr) (C : Nat → Addr) : Sp := fun vs H Q _ => ∃ (p wp : Addr) (n : Int) (fs : List Str) (ms : List CM), vs = [.ref wp] ∧ WldT p H wp n fs ms ∧ ms.length ≤ 60 ∧ ∀ z H', H z = none → IsR K CR CP C H' z fs n ms → Same H H' → Q (.ref z) H'
theorem WldT.facts {p : Addr} {H : Hp} {wp : Addr} {n : Int} {fs : List Str} {ms : List CM} (h : WldT p H wp n fs ms) : GoodFs fs ∧ placeB n = true ∧ 0 ≤ n ∧ n ≤ lastP ∧ (∀ m ∈ ms, GoodM fs n m) := by
  obtain ⟨wf, an, ln, mute, great, free, td, ans, lts, xs, WX, htd, hA, _, _⟩ := h
  refine ⟨⟨WX.f0, Nat.le_trans WX.f2 (by decide), WX.fw.word (Nat.le_trans WX.f2 (by decide)), WX.fw.ne⟩, place_of WX.n0 WX.n1, WX.n0, WX.n1, fun m hm => ?_⟩
  obtain ⟨i, hi⟩ := List.getElem?_of_mem hm
  have hl := hA.length
  obtain ⟨b, hb, t, _, _, g⟩ := hA.getL (List.getElem?_eq_getElem (show i < xs.length by rw [hl]; exact (List.getElem?_eq_some_iff.mp hi).1))
  rw [hi] at hb
  cases hb
  exact g
def plB (n : Int) (v : V) : Bool := match v with | .int k => decide (0 ≤ k) && decide (k ≤ n) | _ => false
def ixB (n : Nat) (v : V) : Bool := match v with | .int k => decide (0 ≤ k) && decide (k < n) | _ => false
def spLIn (K : PySem.W.Frag) : Sp := fun vs H Q _ => ∃ (ra : Addr) (a b : Int) (M : List ARow), vs = [.ref ra, .int a, .int b] ∧ SqL K H ra (refs M) ∧ AtR H M ∧ M.length ≤ 20 ∧ ∀ H', Same H H' → Q (.bl (inS (rws M) a b)) H'
def spLPl : Sp := fun vs H Q _ => ∃ (p wp : Addr) (v : V) (n : Int) (fs : List Str) (ms : List CM), vs = [.ref wp, v] ∧ WldT p H wp n fs ms ∧ Sc v ∧ Q (.bl (plB n v)) H
def spLIx : Sp := fun vs H Q _ => ∃ (p wp : Addr) (v : V) (n : Int) (fs : List Str) (ms : List CM), vs = [.ref wp, v] ∧ WldT p H wp n fs ms ∧ Sc v ∧ Q (.bl (ixB ms.length v)) H
def spLStep : Sp := fun vs H Q _ => ∃ (t : Addr) (m : CM) (f g : V) (p q : Int), vs = [.ref t, f, .int p, g, .int q] ∧ SpT H t m ∧ m.1 = 6 ∧ m.2.2.1.length ≤ 20 ∧ WF m.1 m.2.1 m.2.2.2 ∧ NS f ∧ NS g ∧ BB p ∧ BB q ∧ ∀ H', Same H H' → Q (costM m f p g q) H'
section
variable {P : Program} {w : World} {K : PySem.W.Frag} {mg : Str → Option Value} {base : Heap} {CR CP CL : Addr} {C : Nat → Addr}
theorem scLIn : FnScope ["_law_rows", "_law_first", "_law_last", "_law_row"] ["_law_rows", "_law_first", "_law_last"] (defScope sIn) := ⟨rfl, rfl, rfl, by decide +kernel, rfl, by decide +kernel, by decide +kernel⟩
theorem ok_lin {f : Addr} {fd : FuncData} (F : Fun K "_law_in" "_law_in" sIn f fd) (zA : mg "any" = none) : FnOk P w K mg base CX0 1 f fd ["_law_rows", "_law_first", "_law_last"] (spLIn K) := by
  refine F.ok scLIn (fun vs H Q E h => ?_) (fun cdv A outer s H vs Q E hr h => ?_)
  · obtain ⟨_, _, _, _, rfl, _⟩ := h
    rfl
  · obtain ⟨ra, a, b, M, rfl, hS, hM, hl, q⟩ := h
    have nd := scLIn.nd
    have bt_any : bootBuiltins ("any" : Str) = some (.builtin "any") := by decide +kernel
    refine ⟨_, pss_one (ps_ret (pe_callB (cr_any rfl) (by rfl) zA bt_any (pa_cons (pe_lc (own := [("_law_row", 3)]) (g := (gName 3)) (tt := tYes) rfl nd (pi_list (pv 0)) (blkOk_by (N := ["_law_rows", "_law_first", "_law_last", "_law_row"]) (sc := defScope sIn) (by decide +kernel)) (fun _ _ _ _ _ => pg_name (i := 3) nd rfl (.inl rfl)) (fun _ _ _ _ _ => pts_nil) (fun _ _ _ _ _ => (pe_and (pe_cmpR op_le (pe_ix (ix_tupK K rfl) (pv 3) pe_int (fun _ _ => rfl)) (pv 1) (by rfl)) (pe_one (pe_cmpR op_le (pv 2) (pe_ix (ix_tupK K rfl) (pv 3) pe_int (fun _ _ => rfl)) (by rfl)))))) pa_nil))), ?_⟩
    refine ⟨_, rfl, ra, rfl, ⟨_, hS⟩, fun D nD => lc_list (K := K) (a := ra) (xs := refs M) (fun i G => G D = some (.lst ((((rws M).take i).map fun r => decide (r.1 ≤ a) && decide (b ≤ r.2)).map V.bl)) ∧ Same H G)
      ⟨upd_same, same_lay nD⟩ (fun i G _ ⟨_, s⟩ => s.seq hS) ?_ ?_⟩
    · rintro i y G hy ⟨hD, s⟩
      obtain ⟨z, hz, rfl⟩ : ∃ z, M[i]? = some z ∧ .ref z.1 = y := by
        unfold refs at hy
        rw [List.getElem?_map] at hy
        exact Option.map_eq_some_iff.mp hy
      have hil : i < M.length := (List.getElem?_eq_some_iff.mp hz).1
      have hzz := s _ _ (hM z (List.mem_of_getElem? hz))
      have hzr : (rws M)[i]? = some z.2 := by unfold rws; rw [List.getElem?_map, hz]; rfl
      have fin : ∀ b' : Bool, b' = (decide (z.2.1 ≤ a) && decide (b ≤ z.2.2)) → ∃ acc, G D = some (.lst acc) ∧ acc.length < sizeLine ∧ ((upd G D (.lst (acc ++ [V.bl b']))) D = some (.lst ((((rws M).take (i + 1)).map fun r => decide (r.1 ≤ a) && decide (b ≤ r.2)).map V.bl)) ∧ Same H (upd G D (.lst (acc ++ [V.bl b'])))) := fun b' e => by
        refine ⟨_, hD, small1000 (by rw [List.length_map, List.length_map, List.length_take, rws_len]; omega), ?_, same_upd s nD⟩
        rw [upd_same, List.take_add_one, hzr, List.map_append, List.map_append, e]
        rfl
      refine ⟨rfl, yesT ?_⟩
      refine ⟨_, rfl, z.1, _, 0, .int z.2.1, rfl, rfl, .inl (.inl hzz), atI_nat (j := 0) rfl, _, rfl, _, _, rfl, rfl, _, rfl, ?_⟩
      cases e1 : decide (z.2.1 ≤ a) with
      | false => exact iteF (fin _ (by rw [e1]; rfl))
      | true =>
        refine iteT ⟨_, rfl, _, rfl, z.1, _, 1, .int z.2.2, rfl, rfl, .inl (.inl hzz), atI_nat (j := 1) rfl, _, _, rfl, rfl, ?_⟩
        exact fin _ (by rw [e1]; rfl)
    · rintro G ⟨hD, s⟩
      rw [show (refs M).length = (rws M).length by rw [refs_len, rws_len], List.take_of_length_le (Nat.le_refl _)] at hD
      refine ⟨D, _, rfl, .inl (.inl hD), ?_⟩
      have e : ((rws M).map fun r => decide (r.1 ≤ a) && decide (b ≤ r.2)).any id = inS (rws M) a b := by
        unfold inS
        rw [List.any_map]
        rfl
      rw [e]
      exact q G s
theorem Sc.isi {v : V} (h : Sc v) : ∃ (T : String) (b1 b2 : Bool), (∀ H, TyX K H v (.type T)) ∧ kitB T "int" = some b1 ∧ kitB T "bool" = some b2 ∧ ((∃ n, v = .int n ∧ b1 = true ∧ b2 = false) ∨ ((∀ n, v ≠ .int n) ∧ (b1 && !b2) = false)) := by
  rcases h with ⟨n, e⟩ | ⟨s, e⟩ | ⟨b, e⟩ | e <;> subst e
  · exact ⟨"int", true, false, fun H => .base (.int n), by decide +kernel, by decide +kernel, .inl ⟨n, rfl, rfl, rfl⟩⟩
  · exact ⟨"str", false, false, fun H => .base (.str s), by decide +kernel, by decide +kernel, .inr ⟨(fun n z => nomatch z), rfl⟩⟩
  · exact ⟨"bool", true, true, fun H => .base (.bl b), by decide +kernel, by decide +kernel, .inr ⟨(fun n z => nomatch z), rfl⟩⟩
  · exact ⟨"NoneType", false, false, fun H => .base .non, by decide +kernel, by decide +kernel, .inr ⟨(fun n z => nomatch z), rfl⟩⟩
theorem plB_no {n : Int} {v : V} (h : ∀ k, v ≠ .int k) : plB n v = false := by
  unfold plB
  split
  · exact absurd rfl (h _)
  · rfl
theorem ixB_no {n : Nat} {v : V} (h : ∀ k, v ≠ .int k) : ixB n v = false := by
  unfold ixB
  split
  · exact absurd rfl (h _)
  · rfl
theorem scLPl : FnScope ["_law_world", "_law_value"] ["_law_world", "_law_value"] (defScope sLIsPlace) := ⟨rfl, rfl, rfl, by decide +kernel, rfl, by decide +kernel, by decide +kernel⟩
theorem ok_lpl {f : Addr} {fd : FuncData} (F : Fun K "_law_is_place" "_law_is_place" sLIsPlace f fd) (zI : mg "isinstance" = none) (zInt : mg "int" = none) (zB : mg "bool" = none) : FnOk P w K mg base CX0 1 f fd ["_law_world", "_law_value"] spLPl := by
  refine F.ok scLPl (fun vs H Q E h => ?_) (fun cdv A outer s H vs Q E hr h => ?_)
  · obtain ⟨_, _, _, _, _, _, rfl, _⟩ := h
    rfl
  · obtain ⟨p, wp, v, n, fs, ms, rfl, hW, hv, q⟩ := h
    have hu := hu_of hr
    refine ⟨_, pss_one (ps_ret (pe_and (pe_callB call_isi (by rfl) zI boot_isi (pa_cons (pv 1) (pa_cons (pe_bltn (v := .ty "int") (by rfl) zInt boot_intT rfl) pa_nil))) (pe_and (pe_not (pe_callB call_isi (by rfl) zI boot_isi (pa_cons (pv 1) (pa_cons (pe_bltn (v := .ty "bool") (by rfl) zB boot_boolT rfl) pa_nil)))) (pe_one (pe_chain op_le op_le pe_int (pv 1) (pe_dget hu (pv 0) pe_str (fun _ _ => rfl))))))), ?_⟩
    obtain ⟨wf, an, ln, mute, great, free, td, ans, lts, xs, WX, _⟩ := id hW
    obtain ⟨T, b1, b2, hT, k1, k2, hc⟩ := hv.isi (K := K)
    refine ⟨_, rfl, v, .ty "int", _, _, b1, rfl, .ty "int", hT _, kit_ty k1, b1, rfl, ?_⟩
    rcases hc with ⟨k, rfl, rfl, rfl⟩ | ⟨hn, hb⟩
    · refine iteT ⟨_, rfl, .int k, .ty "bool", _, _, false, rfl, .ty "bool", hT _, kit_ty k2, _, rfl, _, rfl, iteT ?_⟩
      refine ⟨_, rfl, _, _, rfl, rfl, _, rfl, ?_⟩
      have q : Q (.bl (decide (0 ≤ k) && decide (k ≤ n))) H := q
      cases e1 : decide ((0 : Int) ≤ k) with
      | false => rw [e1] at q; exact iteF q
      | true =>
        rw [e1] at q
        exact iteT ⟨_, rfl, wp, _, rfl, WX.at_ (j := 0) rfl rfl, _, _, rfl, rfl, q⟩
    · rw [plB_no hn] at q
      cases b1 with
      | false => exact iteF q
      | true =>
        cases b2 with
        | false => cases hb
        | true => exact iteT ⟨_, rfl, v, .ty "bool", _, _, true, rfl, .ty "bool", hT _, kit_ty k2, _, rfl, _, rfl, iteF q⟩
theorem scLIx : FnScope ["_law_world", "_law_value"] ["_law_world", "_law_value"] (defScope sIsIndex) := ⟨rfl, rfl, rfl, by decide +kernel, rfl, by decide +kernel, by decide +kernel⟩
theorem ok_lix {f : Addr} {fd : FuncData} (F : Fun K "_law_is_index" "_law_is_index" sIsIndex f fd) (zI : mg "isinstance" = none) (zInt : mg "int" = none) (zB : mg "bool" = none) (zN : mg "len" = none) : FnOk P w K mg base CX0 1 f fd ["_law_world", "_law_value"] spLIx := by
  refine F.ok scLIx (fun vs H Q E h => ?_) (fun cdv A outer s H vs Q E hr h => ?_)
  · obtain ⟨_, _, _, _, _, _, rfl, _⟩ := h
    rfl
  · obtain ⟨p, wp, v, n, fs, ms, rfl, hW, hv, q⟩ := h
    have hu := hu_of hr
    refine ⟨_, pss_one (ps_ret (pe_and (pe_callB call_isi (by rfl) zI boot_isi (pa_cons (pv 1) (pa_cons (pe_bltn (v := .ty "int") (by rfl) zInt boot_intT rfl) pa_nil))) (pe_and (pe_not (pe_callB call_isi (by rfl) zI boot_isi (pa_cons (pv 1) (pa_cons (pe_bltn (v := .ty "bool") (by rfl) zB boot_boolT rfl) pa_nil)))) (pe_one (pe_chain op_le op_lt pe_int (pv 1) (pe_callB call_len_seq (by rfl) zN PySem.boot_len (pa_cons (pe_dget hu (pv 0) pe_str (fun _ _ => rfl)) pa_nil))))))), ?_⟩
    obtain ⟨wf, an, ln, mute, great, free, td, ans, lts, xs, WX, htd, hA, _⟩ := id hW
    obtain ⟨T, b1, b2, hT, k1, k2, hc⟩ := hv.isi (K := K)
    refine ⟨_, rfl, v, .ty "int", _, _, b1, rfl, .ty "int", hT _, kit_ty k1, b1, rfl, ?_⟩
    rcases hc with ⟨k, rfl, rfl, rfl⟩ | ⟨hn, hb⟩
    · refine iteT ⟨_, rfl, .int k, .ty "bool", _, _, false, rfl, .ty "bool", hT _, kit_ty k2, _, rfl, _, rfl, iteT ?_⟩
      refine ⟨_, rfl, _, _, rfl, rfl, _, rfl, ?_⟩
      have q : Q (.bl (decide (0 ≤ k) && decide (k < (ms.length : Int)))) H := q
      rw [← hA.length] at q
      cases e1 : decide ((0 : Int) ≤ k) with
      | false => rw [e1] at q; exact iteF q
      | true =>
        rw [e1] at q
        exact iteT ⟨_, rfl, wp, _, rfl, WX.at_ (j := 7) rfl rfl, td, _, rfl, .inl (.inl (.inl htd)), _, _, rfl, rfl, q⟩
    · rw [ixB_no hn] at q
      cases b1 with
      | false => exact iteF q
      | true =>
        cases b2 with
        | false => cases hb
        | true => exact iteT ⟨_, rfl, v, .ty "bool", _, _, true, rfl, .ty "bool", hT _, kit_ty k2, _, rfl, _, rfl, iteF q⟩
end
end OR

namespace OR
open PySem PySem.Spec PyProof.Rows L2
open TL (tl numL)
theorem step_eq {l : List Row} {sg : Str} {p q : Int} (hs : isSign sg) : swB l (stepM sg p q) = (!decide (p = q) && (inS l (if p < q then p else q) (if p < q then q else p) && (decide (sg = "=") || decide (sg = if p < q then "<=" else ">=")))) := by
  have k1 : ¬ (("<=" : Str) = ">=") := by decide +kernel
  have k2 : ¬ (("=" : Str) = ">=") := by decide +kernel
  have k3 : ¬ (("=" : Str) = "<=") := by decide +kernel
  have k4 : ¬ ((">=" : Str) = "=") := by decide +kernel
  have k5 : ¬ (("<=" : Str) = "=") := by decide +kernel
  have one : ∀ a b, swB l [(a, b)] = inS l a b := fun a b => by simp [swB]
  have nil : swB l [] = false := rfl
  unfold stepM
  rcases Int.lt_trichotomy p q with h | h | h
  · have a1 : p + 1 ≤ q := by omega
    have a2 : ¬ q + 1 ≤ p := by omega
    have a3 : ¬ p = q := by omega
    rcases hs with e | e | e <;> subst e <;> simp [a1, a2, a3, h, one, nil, k1, k2, k3, k4, k5, Ne.symm k1, fun e => k2 (Eq.symm e), fun e => k3 (Eq.symm e), fun e => k1 (Eq.symm e)]
  · subst h
    have a1 : ¬ p + 1 ≤ p := by omega
    simp [a1, nil]
  · have a1 : ¬ p + 1 ≤ q := by omega
    have a2 : q + 1 ≤ p := by omega
    have a3 : ¬ p = q := by omega
    have a4 : ¬ p < q := by omega
    rcases hs with e | e | e <;> subst e <;> simp [a1, a2, a3, a4, one, nil, k1, k2, k3, k4, k5, Ne.symm k1, fun e => k2 (Eq.symm e), fun e => k3 (Eq.symm e), fun e => k1 (Eq.symm e)]
theorem in_dec {s : Str} {xs : List Str} : inV (.str s) (xs.map V.str) = decide (s ∈ xs) := by
  by_cases h : s ∈ xs
  · rw [in_strs h, decide_eq_true h]
  · rw [notin_strs h, decide_eq_false h]
theorem step_costM {m : CM} {f g : V} {p q : Int} (h6 : m.1 = 6) (hs : isSign (signOf m.2.2.2)) : costM m f p g q = if (decide (f = .str m.2.1) && (decide (g = .str m.2.1) && (!decide (p = q) && (inS m.2.2.1 (if p < q then p else q) (if p < q then q else p) && (decide (signOf m.2.2.2 = "=") || decide (signOf m.2.2.2 = if p < q then "<=" else ">=")))))) = true then .int (numH m * (q - p)) else .non := by
  unfold costM hopB costI
  rw [if_pos h6, if_pos h6, step_eq hs]
section
variable {P : Program} {w : World} {K : PySem.W.Frag} {mg : Str → Option Value} {base : Heap} {CR CP CL : Addr} {C : Nat → Addr}
theorem scLSt : FnScope ["_law_clause", "_law_f", "_law_p", "_law_g", "_law_q", "_law_low", "_law_high"] ["_law_clause", "_law_f", "_law_p", "_law_g", "_law_q"] (defScope sStepCost) := ⟨rfl, rfl, rfl, by decide +kernel, rfl, by decide +kernel, by decide +kernel⟩
theorem ok_lstep {f : Addr} {fd : FuncData} (F : Fun K "_law_step_cost" "_law_step_cost" sStepCost f fd) (LI : Cl P w K mg base 1 "_law_in" ["_law_rows", "_law_first", "_law_last"] (spLIn K)) : FnOk P w K mg base CX0 2 f fd ["_law_clause", "_law_f", "_law_p", "_law_g", "_law_q"] spLStep := by
  refine F.ok scLSt (fun vs H Q E h => ?_) (fun cdv A outer s H vs Q E hr h => ?_)
  · obtain ⟨_, _, _, _, _, _, rfl, _⟩ := h
    rfl
  · obtain ⟨t, m, fv, gv, p, q0, rfl, hT, h6, hl, wf, nf, ng, bp, bq, q⟩ := h
    have nd := scLSt.nd
    refine ⟨_, Evl.pss_cut (ps_asg (pe_ifExp (pt_cmpR op_lt (pv 2) (pv 4) (nomark _)) (pe_tup (pa_cons (pv 2) (pa_cons (pv 4) pa_nil))) (pe_tup (pa_cons (pv 4) (pa_cons (pv 2) pa_nil)))) (pg_tup rfl (pgs_cons (pg_name (i := 5) nd rfl (.inl rfl)) (pgs_cons (pg_name (i := 6) nd rfl (.inl rfl)) pgs_nil))))
      (Evl.pss_cut (ps_if (PW.pt (pw_or (pt_cmpR op_ne (pv 1) (pe_ix (ix_tupK K rfl) (pv 0) pe_int (fun _ _ => rfl)) (nomark _)) (pw_or (pt_cmpR op_ne (pv 3) (pe_ix (ix_tupK K rfl) (pv 0) pe_int (fun _ _ => rfl)) (nomark _)) (pw_or (pt_cmpR op_eq (pv 2) (pv 4) (nomark _)) (pw_or1 (pt_not (pt_val (pe_cl LI hr (by decide) (by rfl) (pa_cons (pe_ix (ix_tupK K rfl) (pv 0) pe_int (fun _ _ => rfl)) (pa_cons (pv 5) (pa_cons (pv 6) pa_nil)))))))))))
          (pss_one (ps_ret pe_non))
          pss_nil)
      (pss_cons (ps_if (pt_cmpR (op_notIn_seqK K rfl) (pe_ix (ix_tupK K rfl) (pv 0) pe_int (fun _ _ => rfl)) (pe_tup (pa_cons pe_str (pa_cons (pe_ifExp (pt_cmpR op_lt (pv 2) (pv 4) (nomark _)) pe_str pe_str) pa_nil))) (by rfl))
          (pss_one (ps_ret pe_non))
          pss_nil)
      (pss_one (ps_ret (pe_op op_mulW (pe_ix (ix_tupK K rfl) (pv 0) pe_int (fun _ _ => rfl)) (pe_op op_sub (pv 4) (pv 2))))))), ?_⟩
    obtain ⟨sg, c, hx, hsg, hc⟩ : ∃ sg c, m.2.2.2 = [.str sg, .int c] ∧ isSign sg ∧ Num c := by
      have wf' := wf
      rw [h6] at wf'
      obtain ⟨sg, c, e, h1, h2⟩ := wf'
      exact ⟨sg, c, e, h1, h2⟩
    have es : signOf m.2.2.2 = sg := by rw [hx]; rfl
    have en : numH m = c := by unfold numH; rw [h6, hx]; rfl
    have ec := step_costM (f := fv) (g := gv) (p := p) (q := q0) h6 (by rw [es]; exact hsg)
    rw [es, en] at ec
    rw [ec] at q
    obtain ⟨ra, M, ht, hra, hM, eM⟩ := id hT
    rw [hx] at ht
    have hS : ∀ {G}, Same H G → SqT K G t [.str (kName m.1), .str m.2.1, .ref ra, .str sg, .int c] := fun s => .inl (.inl (s _ _ ht))
    refine ⟨fun σ G => σ = [some (.ref t), some fv, some (.int p), some gv, some (.int q0), some (.int (if p < q0 then p else q0)), some (.int (if p < q0 then q0 else p))] ∧ Same H G, ?_, ?_⟩
    · refine ⟨_, rfl, _, rfl, _, _, rfl, rfl, _, rfl, ite2 (fun c1 => ?_) (fun c1 => ?_)⟩
      · have h1 : p < q0 := of_decide_eq_true c1
        rw [if_pos h1, if_pos h1]
        exact ⟨_, rfl, _, rfl, by show 2 ≤ sizeLine; decide, fun tq ntq => ⟨tq, _, rfl, .inl (.inl upd_same), rfl, _, _, rfl, _, _, rfl, rfl, rfl, same_lay ntq⟩⟩
      · have h1 : ¬ p < q0 := fun e => c1 (decide_eq_true e)
        rw [if_neg h1, if_neg h1]
        exact ⟨_, rfl, _, rfl, by show 2 ≤ sizeLine; decide, fun tq ntq => ⟨tq, _, rfl, .inl (.inl upd_same), rfl, _, _, rfl, _, _, rfl, rfl, rfl, same_lay ntq⟩⟩
    rintro σ G ⟨rfl, s0⟩
    generalize hlo : (if p < q0 then p else q0) = lo at q ⊢
    generalize hhi : (if p < q0 then q0 else p) = hi at q ⊢
    refine ⟨fun σ G => σ = [some (.ref t), some fv, some (.int p), some gv, some (.int q0), some (.int lo), some (.int hi)] ∧ Same H G ∧ decide (fv = .str m.2.1) = true ∧ decide (gv = .str m.2.1) = true ∧ decide (p = q0) = false ∧ inS m.2.2.1 lo hi = true, ?_, ?_⟩
    · refine ⟨_, rfl, _, rfl, t, _, 1, .str m.2.1, rfl, rfl, hS s0, atI_nat (j := 1) rfl, nf.scal, _, rfl, ?_⟩
      cases e1 : decide (fv = V.str m.2.1) with
      | false =>
        rw [e1] at q
        exact iteT (q G s0)
      | true =>
        refine iteF ⟨_, rfl, _, rfl, t, _, 1, .str m.2.1, rfl, rfl, hS s0, atI_nat (j := 1) rfl, ng.scal, _, rfl, ?_⟩
        cases e2 : decide (gv = V.str m.2.1) with
        | false =>
          rw [e1, e2] at q
          exact iteT (q G s0)
        | true =>
          refine iteF ⟨_, rfl, _, rfl, rfl, _, rfl, ?_⟩
          have e3 : decide (V.int p = V.int q0) = decide (p = q0) := by simp
          rw [e3]
          cases e4 : decide (p = q0) with
          | true =>
            rw [e1, e2, e4] at q
            exact iteT (q G s0)
          | false =>
            refine iteF ⟨_, rfl, t, _, 2, .ref ra, rfl, rfl, hS s0, atI_nat (j := 2) rfl, _, rfl, _, rfl, ra, lo, hi, M, rfl, .inl (.inl (s0 _ _ hra)), hM.same s0, by rw [← rws_len, eM]; exact hl, fun G2 s2 => ⟨_, rfl, ?_⟩⟩
            rw [eM]
            cases e5 : inS m.2.2.1 lo hi with
            | false =>
              rw [e1, e2, e4, e5] at q
              exact iteT (q G2 (s0.trans s2))
            | true => exact iteF ⟨rfl, s0.trans s2, rfl, rfl, rfl, rfl⟩
    rintro σ G2 ⟨rfl, s2, e1, e2, e4, e5⟩
    rw [e1, e2, e4, e5] at q
    have fin : ∀ (o : String) (G : Hp), Same H G → o = (if p < q0 then "<=" else ">=") → (inV (.str sg) [V.str "=", .str (Str.ofString o)] = true → Q (.int (c * (q0 - p))) G) ∧ (inV (.str sg) [V.str "=", .str (Str.ofString o)] = false → Q .non G) := fun o G s eo => by
      have ei : inV (V.str sg) [V.str "=", .str (Str.ofString o)] = (decide (sg = "=") || decide (sg = Str.ofString (if p < q0 then "<=" else ">="))) := by
        rw [← eo]
        have := in_dec (s := sg) (xs := ["=", Str.ofString o])
        rw [show ([V.str "=", .str (Str.ofString o)] : List V) = (["=", Str.ofString o] : List Str).map V.str from rfl, this]
        rw [Bool.eq_iff_iff, Bool.or_eq_true, decide_eq_true_eq, decide_eq_true_eq, decide_eq_true_eq]
        simp
      rw [ei]
      have q := q G s
      constructor
      · intro e
        rw [e] at q
        exact q
      · intro e
        rw [e] at q
        exact q
    refine ⟨_, rfl, t, _, 3, .str sg, rfl, rfl, hS s2, atI_nat (j := 3) rfl, _, rfl, _, rfl, _, _, rfl, rfl, _, rfl, ?_⟩
    have mul : CMulW c (q0 - p) := by
      refine cwBB (num_BB hc).w ?_
      have h1 : p.natAbs < 2 ^ 1000 := bp
      have h2 : q0.natAbs < 2 ^ 1000 := bq
      have h3 : (q0 - p).natAbs < 2 ^ 1001 := by
        have e : (2 : Nat) ^ 1001 = 2 ^ 1000 + 2 ^ 1000 := by decide +kernel
        rw [e]
        generalize (2 : Nat) ^ 1000 = N at h1 h2
        omega
      exact Nat.lt_trans h3 (by decide +kernel)
    refine ite2 (fun c1 => ?_) (fun c1 => ?_)
    · have h1 : p < q0 := of_decide_eq_true c1
      refine ⟨by show 2 ≤ sizeLine; decide, fun tt ntt => ?_⟩
      have s3 := s2.trans (same_lay (o := .tup [V.str "=", .str "<="]) ntt)
      obtain ⟨f1, f2⟩ := fin "<=" _ s3 (by rw [if_pos h1])
      refine ⟨tt, _, rfl, .inr (.inl (.inl upd_same)), rfl, rfl, _, rfl, ?_⟩
      cases e : inV (V.str sg) [V.str "=", .str "<="] with
      | true => exact iteF ⟨_, rfl, t, _, 4, .int c, rfl, rfl, hS s3, atI_nat (j := 4) rfl, _, rfl, _, rfl, _, _, rfl, rfl, _, _, rfl, rfl, mul, f1 e⟩
      | false => exact iteT (f2 e)
    · have h1 : ¬ p < q0 := fun e => c1 (decide_eq_true e)
      refine ⟨by show 2 ≤ sizeLine; decide, fun tt ntt => ?_⟩
      have s3 := s2.trans (same_lay (o := .tup [V.str "=", .str ">="]) ntt)
      obtain ⟨f1, f2⟩ := fin ">=" _ s3 (by rw [if_neg h1])
      refine ⟨tt, _, rfl, .inr (.inl (.inl upd_same)), rfl, rfl, _, rfl, ?_⟩
      cases e : inV (V.str sg) [V.str "=", .str ">="] with
      | true => exact iteF ⟨_, rfl, t, _, 4, .int c, rfl, rfl, hS s3, atI_nat (j := 4) rfl, _, rfl, _, rfl, _, _, rfl, rfl, _, _, rfl, rfl, mul, f1 e⟩
      | false => exact iteT (f2 e)
end
end OR

namespace OR
open PySem PySem.Spec PyProof.Rows L2
open TL (tl numL)
theorem NS.scal2 {v u : V} (h : NS v) (k : NS u) : L2.scal v u = true := by
  rcases h with e | ⟨s, e, _⟩ <;> rcases k with e' | ⟨s', e', _⟩ <;> subst e e' <;> rfl
theorem read_pl {fs : List Str} {n : Int} {ms : List CM} {i f p g q : V} (hG : ∀ m ∈ ms, GoodM fs n m) (h : readB ms i f p g q = true) : ixB ms.length i = true ∧ plB n p = true ∧ plB n q = true := by
  obtain ⟨k, n1, n2, m, rfl, rfl, rfl, hm, hh, _⟩ := read_yes h
  obtain ⟨r, hr, r1, r2, r3, r4⟩ := hop_in hh
  have bd := (hG m (List.mem_of_getElem? hm)).bd r hr
  have hk := (List.getElem?_eq_some_iff.mp hm).1
  refine ⟨?_, ?_, ?_⟩
  · show (decide ((0 : Int) ≤ (k : Nat)) && decide (((k : Nat) : Int) < ms.length)) = true
    rw [decide_eq_true (by omega), decide_eq_true (by omega)]
    rfl
  · show (decide (0 ≤ n1) && decide (n1 ≤ n)) = true
    rw [decide_eq_true (by omega), decide_eq_true (by omega)]
    rfl
  · show (decide (0 ≤ n2) && decide (n2 ≤ n)) = true
    rw [decide_eq_true (by omega), decide_eq_true (by omega)]
    rfl
theorem costV_no3 {fs : List Str} {n : Int} {ms : List CM} {i f p g q : V} (hG : ∀ m ∈ ms, GoodM fs n m) (h : ixB ms.length i = false ∨ plB n p = false ∨ plB n q = false) : costV ms i f p g q = .non := by
  refine costV_no ?_
  cases e : readB ms i f p g q with
  | false => rfl
  | true =>
    obtain ⟨a, b, c⟩ := read_pl hG e
    rcases h with h | h | h
    · rw [a] at h; cases h
    · rw [b] at h; cases h
    · rw [c] at h; cases h
theorem plB_yes {n : Int} {v : V} (h : plB n v = true) : ∃ k, v = .int k ∧ 0 ≤ k ∧ k ≤ n := by
  unfold plB at h
  split at h
  · rw [Bool.and_eq_true, decide_eq_true_eq, decide_eq_true_eq] at h
    exact ⟨_, rfl, h⟩
  · cases h
theorem ixB_yes {n : Nat} {v : V} (h : ixB n v = true) : ∃ k : Nat, v = .int (k : Nat) ∧ k < n := by
  unfold ixB at h
  split at h
  · rename_i k
    rw [Bool.and_eq_true, decide_eq_true_eq, decide_eq_true_eq] at h
    refine ⟨k.toNat, by rw [Int.toNat_of_nonneg h.1], by omega⟩
  · cases h
theorem costV_at {ms : List CM} {k : Nat} {m : CM} {f g : V} {p q : Int} (hm : ms[k]? = some m) : costV ms (.int (k : Nat)) f (.int p) g (.int q) = costM m f p g q := by
  have hk := (List.getElem?_eq_some_iff.mp hm).1
  show (if 0 ≤ ((k : Nat) : Int) ∧ ((k : Nat) : Int) < ms.length then (match ms[((k : Nat) : Int).toNat]? with | some m => costM m f p g q | none => .non) else .non) = _
  rw [if_pos ⟨by omega, by omega⟩, Int.toNat_natCast, hm]
/-- a bound or a pair, at one place -/
theorem upr_costM {m : CM} {f g : V} {p q : Int} (hk : m.1 = 4 ∨ m.1 = 5) (hs : isSign (signOf m.2.2.2)) (ho : oth m ≠ .str m.2.1) : costM m f p g q = if p = q ∧ inS m.2.2.1 p p = true then (if f = oth m ∧ g = .str m.2.1 ∧ (signOf m.2.2.2 = "<=" ∨ signOf m.2.2.2 = "=") then .int (numA m * p + numH m) else if f = .str m.2.1 ∧ g = oth m ∧ (signOf m.2.2.2 = ">=" ∨ signOf m.2.2.2 = "=") then .int (-(numA m * p + numH m)) else .non) else .non := by
  have h6 : m.1 ≠ 6 := by omega
  have hk' : ¬ (m.1 ≠ 4 ∧ m.1 ≠ 5) := by omega
  have k1 : ¬ (("<=" : Str) = ">=") := by decide +kernel
  have k2 : ¬ (("=" : Str) = ">=") := by decide +kernel
  have k3 : ¬ (("=" : Str) = "<=") := by decide +kernel
  have k4 : ¬ ((">=" : Str) = "=") := by decide +kernel
  have k5 : ¬ (("<=" : Str) = "=") := by decide +kernel
  have g1 : signOf m.2.2.2 ≠ ">=" ↔ (signOf m.2.2.2 = "<=" ∨ signOf m.2.2.2 = "=") := by
    rcases hs with e | e | e <;> rw [e] <;> simp [k1, k2, k3, k4, k5, Ne.symm k1, fun e => k1 (Eq.symm e), fun e => k2 (Eq.symm e), fun e => k3 (Eq.symm e)]
  have g2 : signOf m.2.2.2 ≠ "<=" ↔ (signOf m.2.2.2 = ">=" ∨ signOf m.2.2.2 = "=") := by
    rcases hs with e | e | e <;> rw [e] <;> simp [k1, k2, k3, k4, k5, Ne.symm k1, fun e => k1 (Eq.symm e), fun e => k2 (Eq.symm e), fun e => k3 (Eq.symm e)]
  have tne : (told m.1 m.2.1 m.2.2.2).map (fun _ => (p, p)) ≠ [] ∧ ∀ x ∈ (told m.1 m.2.1 m.2.2.2).map (fun _ => (p, p)), x = (p, p) := by
    constructor
    · unfold told
      split <;> simp
    · intro x hx
      obtain ⟨_, _, e⟩ := List.mem_map.mp hx
      exact e.symm
  have hsw : swB m.2.2.1 ((told m.1 m.2.1 m.2.2.2).map (fun _ => (p, p))) = inS m.2.2.1 p p := by
    obtain ⟨a, b⟩ := tne
    revert a b
    generalize (told m.1 m.2.1 m.2.2.2).map (fun _ => (p, p)) = L
    intro a b
    cases L with
    | nil => exact absurd rfl a
    | cons x r =>
      unfold swB
      show ((inS m.2.2.1 x.1 x.2) && r.all _) = _
      have ex := b x List.mem_cons_self
      rw [ex]
      cases e : inS m.2.2.1 p p with
      | false => rfl
      | true =>
        rw [Bool.true_and, List.all_eq_true]
        intro y hy
        rw [b y (List.mem_cons_of_mem _ hy)]
        exact e
  have hh : hopB m f p g q = (decide (p = q) && (if upB m f g (oth m) = true then inS m.2.2.1 p p else false)) := by
    unfold hopB uprM
    rw [if_neg h6, if_neg hk']
    congr 1
    split
    · exact hsw
    · rfl
  unfold costM
  rw [hh]
  unfold costI eqS
  rw [if_neg h6]
  have hu : upB m f g (oth m) = true ↔ (f = oth m ∧ g = .str m.2.1 ∧ (signOf m.2.2.2 = "<=" ∨ signOf m.2.2.2 = "=")) ∨ (f = .str m.2.1 ∧ g = oth m ∧ (signOf m.2.2.2 = ">=" ∨ signOf m.2.2.2 = "=")) := by
    unfold upB
    rw [Bool.or_eq_true, Bool.and_eq_true, Bool.and_eq_true, Bool.and_eq_true, Bool.and_eq_true, decide_eq_true_eq, decide_eq_true_eq, decide_eq_true_eq, decide_eq_true_eq, decide_eq_true_eq, decide_eq_true_eq, g1, g2]
    constructor
    · rintro (⟨a, b, c⟩ | ⟨a, b, c⟩)
      · exact .inl ⟨b, c, a⟩
      · exact .inr ⟨b, c, a⟩
    · rintro (⟨a, b, c⟩ | ⟨a, b, c⟩)
      · exact .inl ⟨c, a, b⟩
      · exact .inr ⟨c, a, b⟩
  by_cases c1 : p = q
  · by_cases c2 : inS m.2.2.1 p p = true
    · rw [decide_eq_true c1, Bool.true_and, if_pos (show p = q ∧ inS m.2.2.1 p p = true from ⟨c1, c2⟩)]
      by_cases d1 : (f = oth m ∧ g = .str m.2.1 ∧ (signOf m.2.2.2 = "<=" ∨ signOf m.2.2.2 = "="))
      · rw [if_pos (hu.mpr (.inl d1)), if_pos c2, if_pos d1, if_pos (decide_eq_true d1.2.1)]
      · by_cases d2 : (f = .str m.2.1 ∧ g = oth m ∧ (signOf m.2.2.2 = ">=" ∨ signOf m.2.2.2 = "="))
        · have ne : ¬ (decide (g = .str m.2.1) = true) := fun e => ho (by rw [← d2.2.1]; exact of_decide_eq_true e)
          rw [if_pos (hu.mpr (.inr d2)), if_pos c2, if_neg d1, if_pos d2, if_neg ne]
        · rw [if_neg (fun e => (hu.mp e).elim d1 d2), if_neg (by decide), if_neg d1, if_neg d2]
    · have e2 : inS m.2.2.1 p p = false := by simpa using c2
      rw [e2, if_neg (show ¬ (p = q ∧ false = true) from fun h => absurd h.2 (by decide))]
      rw [decide_eq_true c1]
      split
      · rfl
      · rfl
  · rw [decide_eq_false c1, if_neg (show ¬ (p = q ∧ inS m.2.2.1 p p = true) from fun h => c1 h.1)]
    rfl
theorem fac (m : CM) (wf : WF m.1 m.2.1 m.2.2.2) (hk : m.1 = 4 ∨ m.1 = 5) : isSign (signOf m.2.2.2) ∧ oth m ≠ .str m.2.1 := by
  obtain ⟨k, f, l, x⟩ := m
  rcases hk with e | e
  · obtain rfl : k = 4 := e
    obtain ⟨s, a, b, e, hs, _⟩ := id wf
    obtain rfl : x = _ := e
    exact ⟨hs, fun e => by cases (show V.non = V.str f from e)⟩
  · obtain rfl : k = 5 := e
    obtain ⟨s, g, a, b, e, hs, _, hg, _⟩ := id wf
    obtain rfl : x = _ := e
    exact ⟨hs, fun e => hg (V.str.inj (show V.str g = V.str f from e))⟩
theorem fac2 (m : CM) (ra : V) (wf : WF m.1 m.2.1 m.2.2.2) (hk : m.1 = 4 ∨ m.1 = 5) : atI (.str (kName m.1) :: .str m.2.1 :: ra :: m.2.2.2) (-2) = some (.int (numA m)) ∧ atI (.str (kName m.1) :: .str m.2.1 :: ra :: m.2.2.2) (-1) = some (.int (numH m)) ∧
    (m.1 = 4 → oth m = .non) ∧ (m.1 = 5 → atI (.str (kName m.1) :: .str m.2.1 :: ra :: m.2.2.2) 4 = some (oth m)) := by
  obtain ⟨k, f, l, x⟩ := m
  rcases hk with e | e
  · obtain rfl : k = 4 := e
    obtain ⟨s, a, b, e, hs, _⟩ := id wf
    obtain rfl : x = _ := e
    exact ⟨rfl, rfl, fun _ => rfl, fun h => absurd (show (4 : Nat) = 5 from h) (by decide)⟩
  · obtain rfl : k = 5 := e
    obtain ⟨s, g, a, b, e, hs, _, hg, _⟩ := id wf
    obtain rfl : x = _ := e
    exact ⟨rfl, rfl, fun h => absurd (show (5 : Nat) = 4 from h) (by decide), fun _ => atI_nat (j := 4) rfl⟩
theorem fac3 (m : CM) (wf : WF m.1 m.2.1 m.2.2.2) (hk : m.1 = 4 ∨ m.1 = 5) : NS (oth m) := by
  obtain ⟨k, f, l, x⟩ := m
  rcases hk with e | e
  · obtain rfl : k = 4 := e
    obtain ⟨s, a, b, e, hs, _⟩ := id wf
    obtain rfl : x = _ := e
    exact .inl rfl
  · obtain rfl : k = 5 := e
    obtain ⟨s, g, a, b, e, hs, hw, hg, _⟩ := id wf
    obtain rfl : x = _ := e
    exact .inr ⟨g, rfl, hw.small⟩
theorem fac4 (m : CM) (wf : WF m.1 m.2.1 m.2.2.2) (hk : m.1 = 4 ∨ m.1 = 5) : ∃ rest, m.2.2.2 = .str (signOf m.2.2.2) :: rest := by
  obtain ⟨k, f, l, x⟩ := m
  rcases hk with e | e
  · obtain rfl : k = 4 := e
    obtain ⟨s, a, b, e, hs, _⟩ := id wf
    obtain rfl : x = _ := e
    exact ⟨_, rfl⟩
  · obtain rfl : k = 5 := e
    obtain ⟨s, g, a, b, e, hs, hw, hg, _⟩ := id wf
    obtain rfl : x = _ := e
    exact ⟨_, rfl⟩
def spLHop (K : PySem.W.Frag) : Sp := fun vs H Q _ => ∃ (p wp : Addr) (v r : V) (n : Int) (fs : List Str) (ms : List CM), vs = [.ref wp, v] ∧ WldT p H wp n fs ms ∧ HV K H ms v r ∧ ∀ H', Same H H' → Q r H'
theorem WldT.same {p : Addr} {H H' : Hp} {wp : Addr} {n : Int} {fs : List Str} {ms : List CM} (h : WldT p H wp n fs ms) (s : Same H H') : WldT p H' wp n fs ms := by
  obtain ⟨a1, a2, a3, a4, a5, a6, a7, a8, a9, xs, h1, h2, h3, h4⟩ := h
  exact ⟨a1, a2, a3, a4, a5, a6, a7, a8, a9, xs, h1.same s, s _ _ h2, h3.imp fun _ _ e => e.same s, h4⟩
section
variable {P : Program} {w : World} {K : PySem.W.Frag} {mg : Str → Option Value} {base : Heap} {CR CP CL : Addr} {C : Nat → Addr}
abbrev lhN : List Str := ["_law_world", "_law_hop", "_law_index", "_law_f", "_law_p", "_law_g", "_law_q", "_law_clause", "_law_other", "_law_number"]
theorem scLH : FnScope lhN ["_law_world", "_law_hop"] (defScope sHopCost) := ⟨rfl, rfl, rfl, by decide +kernel, rfl, by decide +kernel, by decide +kernel⟩
theorem ok_lhop {f : Addr} {fd : FuncData} (F : Fun K "_law_hop_cost" "_law_hop_cost" sHopCost f fd) (zI : mg "isinstance" = none) (zT : mg "tuple" = none) (zL : mg "list" = none) (zN : mg "len" = none) (LX : Cl P w K mg base 1 "_law_is_index" ["_law_world", "_law_value"] spLIx) (LP : Cl P w K mg base 1 "_law_is_place" ["_law_world", "_law_value"] spLPl) (LS : Cl P w K mg base 2 "_law_step_cost" ["_law_clause", "_law_f", "_law_p", "_law_g", "_law_q"] spLStep) (LI : Cl P w K mg base 1 "_law_in" ["_law_rows", "_law_first", "_law_last"] (spLIn K)) : FnOk P w K mg base CX0 3 f fd ["_law_world", "_law_hop"] (spLHop K) := by
  refine F.ok scLH (fun vs H Q E h => ?_) (fun cdv A outer s H vs Q E hr h => ?_)
  · obtain ⟨_, _, _, _, _, _, _, rfl, _⟩ := h
    rfl
  · obtain ⟨p0, wp, v, r, n, fs, ms, rfl, hW, hV, q⟩ := h
    have nd := scLH.nd
    have hu := hu_of hr
    refine ⟨_, Evl.pss_cut (ps_if (PW.pt (pw_or (pt_not (pt_val (pe_callB call_isiT (by rfl) zI boot_isi (pa_cons (pv 1) (pa_cons (pe_tup (pa_cons (pe_bltn (v := .ty "list") (by rfl) zL bt_list rfl) (pa_cons (pe_bltn (v := .ty "tuple") (by rfl) zT bt_tup rfl) pa_nil))) pa_nil))))) (pw_or1 (pt_cmpR op_ne (pe_callB call_len_seq (by rfl) zN PySem.boot_len (pa_cons (pv 1) pa_nil)) pe_int (nomark _)))))
          (pss_one (ps_ret pe_non))
          pss_nil)
      (Evl.pss_cut (ps_asg (pv 1) (pg_or (pg_tup rfl (pgs_cons (pg_name (i := 2) nd rfl (.inl rfl)) (pgs_cons (pg_name (i := 3) nd rfl (.inl rfl)) (pgs_cons (pg_name (i := 4) nd rfl (.inl rfl)) (pgs_cons (pg_name (i := 5) nd rfl (.inl rfl)) (pgs_cons (pg_name (i := 6) nd rfl (.inl rfl)) pgs_nil)))))) (pg_unl rfl (pgs_cons (pg_name (i := 2) nd rfl (.inl rfl)) (pgs_cons (pg_name (i := 3) nd rfl (.inl rfl)) (pgs_cons (pg_name (i := 4) nd rfl (.inl rfl)) (pgs_cons (pg_name (i := 5) nd rfl (.inl rfl)) (pgs_cons (pg_name (i := 6) nd rfl (.inl rfl)) pgs_nil))))))))
      (Evl.pss_cut (ps_if (PW.pt (pw_or (pt_not (pt_val (pe_cl LX hr (by decide) (by rfl) (pa_cons (pv 0) (pa_cons (pv 2) pa_nil))))) (pw_or (pt_not (pt_val (pe_cl LP hr (by decide) (by rfl) (pa_cons (pv 0) (pa_cons (pv 4) pa_nil))))) (pw_or1 (pt_not (pt_val (pe_cl LP hr (by decide) (by rfl) (pa_cons (pv 0) (pa_cons (pv 6) pa_nil)))))))))
          (pss_one (ps_ret pe_non))
          pss_nil)
      (pss_cons (ps_set (i := 7) nd rfl (.inl rfl) (pe_ix (ix_listK K rfl) (pe_dget hu (pv 0) pe_str (fun _ _ => rfl)) (pv 2) (fun _ _ => rfl)))
      (Evl.pss_cut (ps_if (pt_cmpR op_eq (pe_ix (ix_tupK K rfl) (pv 7) pe_int (fun _ _ => rfl)) pe_str (nomark _))
          (pss_one (ps_ret (pe_cl LS hr (by decide) (by rfl) (pa_cons (pv 7) (pa_cons (pv 3) (pa_cons (pv 4) (pa_cons (pv 5) (pa_cons (pv 6) pa_nil))))))))
          pss_nil)
      (Evl.pss_cut (ps_if (PW.pt (pw_or (pt_cmpR (op_notIn_seqK K rfl) (pe_ix (ix_tupK K rfl) (pv 7) pe_int (fun _ _ => rfl)) (pe_tup (pa_cons pe_str (pa_cons pe_str pa_nil))) (by rfl)) (pw_or (pt_cmpR op_ne (pv 4) (pv 6) (nomark _)) (pw_or1 (pt_not (pt_val (pe_cl LI hr (by decide) (by rfl) (pa_cons (pe_ix (ix_tupK K rfl) (pv 7) pe_int (fun _ _ => rfl)) (pa_cons (pv 4) (pa_cons (pv 4) pa_nil))))))))))
          (pss_one (ps_ret pe_non))
          pss_nil)
      (Evl.pss_cut (ps_set (i := 8) nd rfl (.inl rfl) (pe_ifExp (pt_cmpR op_eq (pe_ix (ix_tupK K rfl) (pv 7) pe_int (fun _ _ => rfl)) pe_str (nomark _)) pe_non (pe_ix (ix_tupK K rfl) (pv 7) pe_int (fun _ _ => rfl))))
      (Evl.pss_cut (ps_set (i := 9) nd rfl (.inl rfl) (pe_op op_add (pe_op op_mulW (pe_ix (ix_tupK K rfl) (pv 7) (pe_un un_neg pe_int) (fun _ _ => rfl)) (pv 4)) (pe_ix (ix_tupK K rfl) (pv 7) (pe_un un_neg pe_int) (fun _ _ => rfl))))
      (Evl.pss_cut (ps_if (PW.pt (pw_and (pt_cmpR op_eq (pv 3) (pv 8) (nomark _)) (pw_and (pt_cmpR op_eq (pv 5) (pe_ix (ix_tupK K rfl) (pv 7) pe_int (fun _ _ => rfl)) (nomark _)) (pw_and1 (pt_cmpR (op_in_seqK K rfl) (pe_ix (ix_tupK K rfl) (pv 7) pe_int (fun _ _ => rfl)) (pe_tup (pa_cons pe_str (pa_cons pe_str pa_nil))) (by rfl))))))
          (pss_one (ps_ret (pv 9)))
          pss_nil)
      (Evl.pss_cut (ps_if (PW.pt (pw_and (pt_cmpR op_eq (pv 3) (pe_ix (ix_tupK K rfl) (pv 7) pe_int (fun _ _ => rfl)) (nomark _)) (pw_and (pt_cmpR op_eq (pv 5) (pv 8) (nomark _)) (pw_and1 (pt_cmpR (op_in_seqK K rfl) (pe_ix (ix_tupK K rfl) (pv 7) pe_int (fun _ _ => rfl)) (pe_tup (pa_cons pe_str (pa_cons pe_str pa_nil))) (by rfl))))))
          (pss_one (ps_ret (pe_un un_neg (pv 9))))
          pss_nil)
      (pss_one (ps_ret pe_non))))))))))), ?_⟩
    obtain ⟨good, pb, n0, n1, hG⟩ := hW.facts
    obtain ⟨wf, an, ln, mute, great, free, td, ans, lts, xs, WX, htd, hA, _⟩ := id hW
    -- a sequence of five
    refine ⟨fun σ G => ∃ a i f p g q, v = .ref a ∧ σ = [some (.ref wp), some v, none, none, none, none, none, none, none, none] ∧ Same H G ∧ SeqA K H a [i, f, p, g, q] ∧ NS f ∧ NS g ∧ Sc i ∧ Sc p ∧ Sc q ∧ r = costV ms i f p g q, ?_, ?_⟩
    · refine ⟨_, rfl, by show 2 ≤ sizeLine; decide, fun t nt => ?_⟩
      have S1 := same_lay (o := .tup [.ty "list", .ty "tuple"]) nt
      have isi : ∀ {a : Addr} {xs : List V}, SeqA K H a xs → ∃ T, TyX K (upd H t (.tup [.ty "list", .ty "tuple"])) (.ref a) (.type T) ∧ PySem.W.kitAny K (.type T) [.type "list", .type "tuple"] = some true := fun hS => by
        rcases hS.same S1 with e | e
        · exact ⟨"tuple", tyT e, kitAny_cons (kit_ty (b := "list") (r := false) (by decide +kernel)) (fun _ => kitAny_cons (kit_ty (b := "tuple") (r := true) (by decide +kernel)) (fun z => nomatch z) fun _ => rfl) fun z => nomatch z⟩
        · exact ⟨"list", .base (.lst e), kitAny_cons (kit_ty (b := "list") (r := true) (by decide +kernel)) (fun z => nomatch z) fun _ => rfl⟩
      rcases hV with ⟨a, i, f, p, g, q0, rfl, hS, nf, ng, si, sp, sq, er⟩ | ⟨a, ys, rfl, hS, hl, er⟩ | ⟨⟨T, hT, h1, h2⟩, er⟩
      · obtain ⟨ty, hT, hk⟩ := isi hS
        refine ⟨.ref a, t, _, .type ty, [.type "list", .type "tuple"], true, rfl, upd_same, .cons (.ty "list") (.cons (.ty "tuple") .nil), hT, hk, true, rfl, iteF ?_⟩
        exact ⟨_, rfl, a, _, rfl, (hS.same S1).elim .inr (fun e => .inl (.inl (.inl e))), rfl, _, rfl, iteB (by simp) ⟨a, i, f, p, g, q0, rfl, rfl, S1, hS, nf, ng, si, sp, sq, er⟩⟩
      · obtain ⟨ty, hT, hk⟩ := isi hS
        refine ⟨.ref a, t, _, .type ty, [.type "list", .type "tuple"], true, rfl, upd_same, .cons (.ty "list") (.cons (.ty "tuple") .nil), hT, hk, true, rfl, iteF ?_⟩
        refine ⟨_, rfl, a, _, rfl, (hS.same S1).elim .inr (fun e => .inl (.inl (.inl e))), rfl, _, rfl, iteA (by simp; omega) ?_⟩
        rw [er] at q
        exact q _ S1
      · rw [er] at q
        exact ⟨v, t, _, .type T, [.type "list", .type "tuple"], false, rfl, upd_same, .cons (.ty "list") (.cons (.ty "tuple") .nil), hT _ S1, kitAny_cons (r := false) (kit_ty h2) (fun _ => kitAny_cons (kit_ty h1) (fun _ => rfl) (fun z => nomatch z)) (fun z => nomatch z), false, rfl, iteT (q _ S1)⟩
    clear hV
    rintro σ G0 ⟨a, i, f, p, g, q0, rfl, rfl, s0, hS, nf, ng, si, sp, sq, er⟩
    rw [er] at q
    refine ⟨fun σ G => σ = [some (.ref wp), some (.ref a), some i, some f, some p, some g, some q0, none, none, none] ∧ G0 = G, ?_, ?_⟩
    · rcases hS.same s0 with hS0 | hS0
      · exact ⟨_, rfl, .inl ⟨a, _, rfl, hS0, rfl, _, _, rfl, _, _, rfl, _, _, rfl, _, _, rfl, _, _, rfl, rfl, rfl, rfl⟩⟩
      · exact ⟨_, rfl, .inr ⟨a, _, rfl, .inl (.inl hS0), rfl, _, _, rfl, _, _, rfl, _, _, rfl, _, _, rfl, _, _, rfl, rfl, rfl, rfl⟩⟩
    rintro σ _ ⟨rfl, rfl⟩
    -- an index and two places
    refine ⟨fun σ G => σ = [some (.ref wp), some (.ref a), some i, some f, some p, some g, some q0, none, none, none] ∧ G0 = G ∧ ixB ms.length i = true ∧ plB n p = true ∧ plB n q0 = true, ?_, ?_⟩
    · have W0 := hW.same s0
      refine ⟨_, rfl, _, rfl, p0, wp, i, n, fs, ms, rfl, W0, si, _, rfl, ?_⟩
      cases e1 : ixB ms.length i with
      | false =>
        rw [costV_no3 hG (.inl e1)] at q
        exact iteT (q _ s0)
      | true =>
        refine iteF ⟨_, rfl, _, rfl, p0, wp, p, n, fs, ms, rfl, W0, sp, _, rfl, ?_⟩
        cases e2 : plB n p with
        | false =>
          rw [costV_no3 hG (.inr (.inl e2))] at q
          exact iteT (q _ s0)
        | true =>
          refine iteF ⟨_, rfl, _, rfl, p0, wp, q0, n, fs, ms, rfl, W0, sq, _, rfl, ?_⟩
          cases e3 : plB n q0 with
          | false =>
            rw [costV_no3 hG (.inr (.inr e3))] at q
            exact iteT (q _ s0)
          | true => exact iteF ⟨rfl, rfl, rfl, rfl, rfl⟩
    rintro σ _ ⟨rfl, rfl, e1, e2, e3⟩
    obtain ⟨k, rfl, hk⟩ := ixB_yes e1
    obtain ⟨x1, rfl, p1, p2⟩ := plB_yes e2
    obtain ⟨x2, rfl, q1, q2⟩ := plB_yes e3
    have hkx : k < xs.length := by rw [hA.length]; exact hk
    obtain ⟨m, hm, t, ht, hT, hGm⟩ := hA.getL (List.getElem?_eq_getElem hkx)
    rw [costV_at hm] at q
    have h7 := hGm.lt
    have W0 := WX.same s0
    obtain ⟨ra, M, htt, hra, hM, eM⟩ := id hT
    have hSt : ∀ {G}, Same H G → SqT K G t (.str (kName m.1) :: .str m.2.1 :: .ref ra :: m.2.2.2) := fun s => .inl (.inl (s _ _ htt))
    have b40 : ∀ {y : Int}, 0 ≤ y → y ≤ n → BB y := fun {y} h0 h1 => by
      have eL : lastP = 10 ^ 30 := rfl
      exact BB_small (Nat.lt_of_le_of_lt (show y.natAbs ≤ 10 ^ 30 by omega) (by decide))
    have hle : m.2.2.1.length ≤ 20 := Nat.le_trans hGm.len (by decide)
    refine ⟨_, rfl, wp, _, rfl, W0.at_ (j := 7) rfl rfl, _, rfl, td, xs, (k : Nat), .ref t, rfl, rfl, .inl (.inl (s0 _ _ htd)), by rw [← ht]; exact atI_nat (List.getElem?_eq_getElem hkx), ?_⟩
    -- a step
    refine ⟨fun σ G => σ = [some (.ref wp), some (.ref a), some (.int (k : Nat)), some f, some (.int x1), some g, some (.int x2), some (.ref t), none, none] ∧ G0 = G ∧ m.1 ≠ 6, ?_, ?_⟩
    · refine ⟨_, rfl, t, _, 0, .str (kName m.1), rfl, rfl, hSt s0, atI_nat (j := 0) rfl, rfl, _, rfl, ite2 (fun c1 => ?_) (fun c1 => ⟨rfl, rfl, fun e => c1 (by rw [e]; decide +kernel)⟩)⟩
      have h6 : m.1 = 6 := kName_inj (j := 6) h7 (by decide) (show kName m.1 = "step" by simpa using c1)
      exact ⟨_, rfl, _, rfl, _, rfl, _, rfl, _, rfl, t, m, f, g, x1, x2, rfl, hT.same s0, h6, hle, hGm.wf, nf, ng, b40 p1 p2, b40 q1 q2, fun G s => q G (s0.trans s)⟩
    rintro σ _ ⟨rfl, rfl, h6⟩
    have non : ¬ (4 ≤ m.1) → costM m f x1 g x2 = .non := fun h => by
      unfold costM
      cases e : hopB m f x1 g x2 with
      | false => rfl
      | true => exact absurd (hop_kind h7 e) h
    have inbp : ∀ k, k < 7 → inV (.str (kName k)) [V.str "bound", .str "pair"] = decide (k = 4 ∨ k = 5) := fun k h => by
      rcases kinds7' h with e | e | e | e | e | e | e <;> subst e <;> decide +kernel
    -- a bound or a pair, at one place of its stretches
    refine ⟨fun σ G => σ = [some (.ref wp), some (.ref a), some (.int (k : Nat)), some f, some (.int x1), some g, some (.int x2), some (.ref t), none, none] ∧ Same H G ∧ (m.1 = 4 ∨ m.1 = 5) ∧ x1 = x2 ∧ inS m.2.2.1 x1 x1 = true, ?_, ?_⟩
    · refine ⟨_, rfl, t, _, 0, .str (kName m.1), rfl, rfl, hSt s0, atI_nat (j := 0) rfl, by show 2 ≤ sizeLine; decide, fun tt ntt => ?_⟩
      have s1 := s0.trans (same_lay (o := .tup [V.str "bound", .str "pair"]) ntt)
      refine ⟨tt, _, rfl, .inr (.inl (.inl upd_same)), rfl, rfl, _, rfl, ?_⟩
      rw [inbp _ h7]
      by_cases hk : m.1 = 4 ∨ m.1 = 5
      · obtain ⟨hsg, hot⟩ := fac m hGm.wf hk
        have ec := upr_costM (f := f) (g := g) (p := x1) (q := x2) hk hsg hot
        rw [decide_eq_true hk]
        refine iteF ⟨_, rfl, _, rfl, rfl, _, rfl, ?_⟩
        by_cases hx : x1 = x2
        · refine iteB (by simp [hx]) ?_
          refine ⟨_, rfl, t, _, 2, .ref ra, rfl, rfl, hSt s1, atI_nat (j := 2) rfl, _, rfl, _, rfl, ra, x1, x1, M, rfl, .inl (.inl (s1 _ _ hra)), hM.same s1, by rw [← rws_len, eM]; exact hle, fun G2 s2 => ⟨_, rfl, ?_⟩⟩
          rw [eM]
          cases e5 : inS m.2.2.1 x1 x1 with
          | false =>
            rw [ec, e5, if_neg (show ¬ (x1 = x2 ∧ false = true) from fun h => absurd h.2 (by decide))] at q
            exact iteT (q G2 (s1.trans s2))
          | true => exact iteF ⟨rfl, s1.trans s2, hk, hx, rfl⟩
        · rw [ec, if_neg (fun h => hx h.1)] at q
          exact iteA (by simp [hx]) (q _ s1)
      · rw [decide_eq_false hk]
        rw [non (by omega)] at q
        exact iteT (q _ s1)
    rintro σ G1 ⟨rfl, s1, hk, rfl, e5⟩
    obtain ⟨hsg, hot⟩ := fac m hGm.wf hk
    obtain ⟨x2', x1', fnum⟩ := fac2 m (.ref ra) hGm.wf hk
    rw [upr_costM hk hsg hot, if_pos ⟨rfl, e5⟩] at q
    obtain ⟨_, ba, bc⟩ := num_of h7 hGm.wf (by omega)
    have nfn : NS (.str m.2.1) := .inr ⟨_, rfl, (good.2.2.1 _ hGm.mem).small⟩
    have no_ : NS (oth m) := fac3 m hGm.wf hk
    -- the other function
    refine ⟨fun σ G => σ = [some (.ref wp), some (.ref a), some (.int (k : Nat)), some f, some (.int x1), some g, some (.int x1), some (.ref t), some (oth m), none] ∧ G1 = G, ?_, ?_⟩
    · refine ⟨_, rfl, t, _, 0, .str (kName m.1), rfl, rfl, hSt s1, atI_nat (j := 0) rfl, rfl, _, rfl, ite2 (fun c1 => ?_) (fun c1 => ?_)⟩
      · have h4 : m.1 = 4 := kName_inj (j := 4) h7 (by decide) (show kName m.1 = "bound" by simpa using c1)
        rw [(fnum.1 h4)]
        exact ⟨rfl, rfl⟩
      · have h5 : m.1 = 5 := hk.resolve_left fun e => c1 (by rw [e]; decide +kernel)
        exact ⟨_, rfl, t, _, 4, oth m, rfl, rfl, hSt s1, fnum.2 h5, rfl, rfl⟩
    rintro σ _ ⟨rfl, rfl⟩
    refine ⟨fun σ G => σ = [some (.ref wp), some (.ref a), some (.int (k : Nat)), some f, some (.int x1), some g, some (.int x1), some (.ref t), some (oth m), some (.int (numA m * x1 + numH m))] ∧ G1 = G, ?_, ?_⟩
    · exact ⟨_, rfl, 2, rfl, t, _, _, .int (numA m), rfl, rfl, hSt s1, x2', _, rfl, _, _, rfl, rfl, cwBB ba.w (b40 p1 p2).w, _, rfl, 1, rfl, t, _, _, .int (numH m), rfl, rfl, hSt s1, x1', _, _, rfl, rfl, rfl, rfl⟩
    rintro σ _ ⟨rfl, rfl⟩
    have at3 : ∃ rest, m.2.2.2 = .str (signOf m.2.2.2) :: rest := fac4 m hGm.wf hk
    obtain ⟨rest, hx⟩ := at3
    have a3 : atI (.str (kName m.1) :: .str m.2.1 :: .ref ra :: m.2.2.2) 3 = some (.str (signOf m.2.2.2)) := by
      rw [hx]
      exact atI_nat (j := 3) rfl
    have in2 : ∀ (u : String), inV (.str (signOf m.2.2.2)) [V.str (Str.ofString u), .str "="] = decide (signOf m.2.2.2 = Str.ofString u ∨ signOf m.2.2.2 = "=") := fun u => by
      rw [show ([V.str (Str.ofString u), .str "="] : List V) = ([Str.ofString u, "="] : List Str).map V.str from rfl, in_dec]
      simp
    -- upward
    refine ⟨fun σ G => σ = [some (.ref wp), some (.ref a), some (.int (k : Nat)), some f, some (.int x1), some g, some (.int x1), some (.ref t), some (oth m), some (.int (numA m * x1 + numH m))] ∧ Same H G ∧ ¬ (f = oth m ∧ g = .str m.2.1 ∧ (signOf m.2.2.2 = "<=" ∨ signOf m.2.2.2 = "=")), ?_, ?_⟩
    · refine ⟨_, rfl, _, rfl, nf.scal2 no_, _, rfl, ite2 (fun c1 => ?_) (fun c1 => ⟨rfl, s1, fun h => c1 (decide_eq_true h.1)⟩)⟩
      have d1 : f = oth m := of_decide_eq_true c1
      refine ⟨_, rfl, _, rfl, t, _, 1, .str m.2.1, rfl, rfl, hSt s1, atI_nat (j := 1) rfl, ng.scal, _, rfl, ite2 (fun c2 => ?_) (fun c2 => ⟨rfl, s1, fun h => c2 (decide_eq_true h.2.1)⟩)⟩
      have d2 : g = .str m.2.1 := of_decide_eq_true c2
      refine ⟨_, rfl, t, _, 3, .str (signOf m.2.2.2), rfl, rfl, hSt s1, a3, by show 2 ≤ sizeLine; decide, fun tt ntt => ?_⟩
      have s2 := s1.trans (same_lay (o := .tup [V.str "<=", .str "="]) ntt)
      refine ⟨tt, _, rfl, .inr (.inl (.inl upd_same)), rfl, rfl, _, rfl, ?_⟩
      have e := in2 "<="
      cases e6 : inV (.str (signOf m.2.2.2)) [V.str "<=", .str "="] with
      | false =>
        refine iteF ⟨rfl, s2, fun h => ?_⟩
        rw [e6] at e
        exact absurd h.2.2 (of_decide_eq_false e.symm)
      | true =>
        rw [e6] at e
        have q := q _ s2
        rw [if_pos ⟨d1, d2, of_decide_eq_true e.symm⟩] at q
        exact iteT ⟨_, rfl, q⟩
    rintro σ G2 ⟨rfl, s2, hn1⟩
    rw [if_neg hn1] at q
    refine ⟨fun σ G => σ = [some (.ref wp), some (.ref a), some (.int (k : Nat)), some f, some (.int x1), some g, some (.int x1), some (.ref t), some (oth m), some (.int (numA m * x1 + numH m))] ∧ Same H G ∧ ¬ (f = .str m.2.1 ∧ g = oth m ∧ (signOf m.2.2.2 = ">=" ∨ signOf m.2.2.2 = "=")), ?_, ?_⟩
    · refine ⟨_, rfl, _, rfl, t, _, 1, .str m.2.1, rfl, rfl, hSt s2, atI_nat (j := 1) rfl, nf.scal, _, rfl, ite2 (fun c1 => ?_) (fun c1 => ⟨rfl, s2, fun h => c1 (decide_eq_true h.1)⟩)⟩
      have d1 : f = .str m.2.1 := of_decide_eq_true c1
      refine ⟨_, rfl, _, rfl, ng.scal2 no_, _, rfl, ite2 (fun c2 => ?_) (fun c2 => ⟨rfl, s2, fun h => c2 (decide_eq_true h.2.1)⟩)⟩
      have d2 : g = oth m := of_decide_eq_true c2
      refine ⟨_, rfl, t, _, 3, .str (signOf m.2.2.2), rfl, rfl, hSt s2, a3, by show 2 ≤ sizeLine; decide, fun tt ntt => ?_⟩
      have s3 := s2.trans (same_lay (o := .tup [V.str ">=", .str "="]) ntt)
      refine ⟨tt, _, rfl, .inr (.inl (.inl upd_same)), rfl, rfl, _, rfl, ?_⟩
      have e := in2 ">="
      cases e6 : inV (.str (signOf m.2.2.2)) [V.str ">=", .str "="] with
      | false =>
        refine iteF ⟨rfl, s3, fun h => ?_⟩
        rw [e6] at e
        exact absurd h.2.2 (of_decide_eq_false e.symm)
      | true =>
        rw [e6] at e
        have q := q _ s3
        rw [if_pos ⟨d1, d2, of_decide_eq_true e.symm⟩] at q
        exact iteT ⟨_, rfl, _, rfl, q⟩
    rintro σ G3 ⟨rfl, s3, hn2⟩
    rw [if_neg hn2] at q
    exact q _ s3
end
end OR

namespace OR
open PySem PySem.Spec PyProof.Rows L2
open TL (tl numL)
def HB (K : PySem.W.Frag) (H : Hp) (v : V) : Prop := (∃ a i f p g q, v = .ref a ∧ SeqA K H a [i, f, p, g, q] ∧ NS f ∧ NS g ∧ Sc i ∧ Sc p ∧ Sc q) ∨ ∃ a xs, v = .ref a ∧ SeqA K H a xs ∧ xs.length ≠ 5
theorem HB.hv {K : PySem.W.Frag} {H : Hp} {v : V} (h : HB K H v) (ms : List CM) : ∃ r, HV K H ms v r ∧ L2.scal r r = true := by
  rcases h with ⟨a, i, f, p, g, q, e, hS, n1, n2, s1, s2, s3⟩ | ⟨a, xs, e, hS, hl⟩
  · refine ⟨_, .inl ⟨a, i, f, p, g, q, e, hS, n1, n2, s1, s2, s3, rfl⟩, ?_⟩
    cases er : readB ms i f p g q with
    | false => rw [costV_no er]; rfl
    | true =>
      obtain ⟨k, x1, x2, m, _, _, _, _, hh, ec⟩ := read_yes er
      rw [ec]
      unfold costM
      rw [if_pos hh]
      rfl
  · exact ⟨_, .inr (.inl ⟨a, xs, e, hS, hl, rfl⟩), rfl⟩
theorem HB.same {K : PySem.W.Frag} {H H' : Hp} {v : V} (h : HB K H v) (s : Same H H') : HB K H' v := by
  rcases h with ⟨a, i, f, p, g, q, e, hS, r⟩ | ⟨a, xs, e, hS, hl⟩
  · exact .inl ⟨a, i, f, p, g, q, e, hS.same s, r⟩
  · exact .inr ⟨a, xs, e, hS.same s, hl⟩
theorem HB.frm {K : PySem.W.Frag} {H H' : Hp} {v : V} {p0 : Addr} {k : Nat} (h : HB K H v) (F : Frm p0 H H') (P : Pen H p0 k) : HB K H' v := by
  have go : ∀ {a xs}, SeqA K H a xs → SeqA K H' a xs := fun h => h.elim (fun e => .inl (F.tup P e)) fun e => .inr (F.lst P e)
  rcases h with ⟨a, i, f, p, g, q, e, hS, r⟩ | ⟨a, xs, e, hS, hl⟩
  · exact .inl ⟨a, i, f, p, g, q, e, go hS, r⟩
  · exact .inr ⟨a, xs, e, go hS, hl⟩
def spHopOf : Sp := fun vs H Q _ => ∃ (p wp : Addr) (n : Int) (fs : List Str) (ms : List CM) (i k : Nat), vs = [.ref p, .ref wp, .int (i : Nat)] ∧ WldT p H wp n fs ms ∧ i < ms.length ∧ Pen H p k ∧ k ≤ 500000 ∧
  ∀ t f x1 g x2 H', H t = none → H' t = some (.tup [.int (i : Nat), f, .int x1, g, .int x2]) → NS f → NS g → 0 ≤ x1 → x1 ≤ n → 0 ≤ x2 → x2 ≤ n → Pen H' p (k + 5) → Frm p H H' → Q (.ref t) H'
def spBent (K : PySem.W.Frag) : Sp := fun vs H Q _ => ∃ (p wp t : Addr) (n : Int) (fs : List Str) (ms : List CM) (i k : Nat) (f g : V) (x1 x2 : Int), vs = [.ref p, .ref wp, .ref t] ∧ WldT p H wp n fs ms ∧ ms.length ≤ 100 ∧ Pen H p k ∧ k ≤ 500000 ∧ H t = some (.tup [.int (i : Nat), f, .int x1, g, .int x2]) ∧ NS f ∧ NS g ∧
  ∀ v H', HB K H' v → Pen H' p (k + 5) → Frm p H H' → Q v H'
section
variable {P : Program} {w : World} {K : PySem.W.Frag} {mg : Str → Option Value} {base : Heap} {CR CP CL : Addr} {C : Nat → Addr}
theorem scRO : FnScope ["_law_world", "_law_told"] ["_law_world"] (defScope sRulesOf) := ⟨rfl, rfl, rfl, by decide +kernel, rfl, by decide +kernel, by decide +kernel⟩
theorem ok_rulesof {f : Addr} {fd : FuncData} (F : Fun K "_law_rules_of" "_law_rules_of" sRulesOf f fd) (B : Bd mg) (RM : RMk P w K mg base CR CP C) (MO : Cl P w K mg base 6 "_law_made_of" ["_law_told"] (spMade CP C)) : FnOk P w K mg base CX0 7 f fd ["_law_world"] (spRulesOf K CR CP C) := by
  refine F.ok scRO (fun vs H Q E h => ?_) (fun cdv A outer s H vs Q E hr h => ?_)
  · obtain ⟨_, _, _, _, _, rfl, _⟩ := h
    rfl
  · obtain ⟨p, wp, n, fs, ms, rfl, W3, hl60, q⟩ := h
    have nd := scRO.nd
    have hu := hu_of hr
    refine ⟨_, pss_one (ps_ret (pe_mkR RM hr (by decide) (by rfl) (pa_cons (pe_callTy call_list_of (by rfl) B.list bt_list (pa_cons (pe_dget hu (pv 0) pe_str (fun _ _ => rfl)) pa_nil)) (pa_cons (pe_dget hu (pv 0) pe_str (fun _ _ => rfl)) (pa_cons (pe_lc (own := [("_law_told", 1)]) (g := (gName 1)) (tt := tYes) rfl nd (pi_list (pe_dget hu (pv 0) pe_str (fun _ _ => rfl))) (blkOk_by (N := ["_law_world", "_law_told"]) (sc := defScope sRulesOf) (by decide +kernel)) (fun _ _ _ _ _ => pg_name (i := 1) nd rfl (.inl rfl)) (fun _ _ _ _ _ => pts_nil) (fun _ _ _ _ _ => (pe_cl MO hr (by decide) (by rfl) (pa_cons (pv 1) pa_nil)))) pa_nil))))), ?_⟩
    obtain ⟨good, pb, n0, n1, hG⟩ := W3.facts
    obtain ⟨wf, an, ln, mute, great, free, td, ans, lts, xs, WX, htd, hA, _, _⟩ := id W3
    have wfs := good.2.2.1
    refine ⟨_, rfl, wp, _, rfl, WX.at_ (j := 1) rfl rfl, wf, _, rfl, .inl (.inl (.inl WX.f)), fun w2 nw2 => ?_⟩
    have s5 := same_lay (o := .lst (fs.map V.str)) nw2
    have W5 := WX.same s5
    refine ⟨_, rfl, wp, _, rfl, W5.at_ (j := 0) rfl rfl, _, rfl, wp, _, rfl, W5.at_ (j := 7) rfl rfl, td, rfl, ⟨_, .inl (.inl (s5 _ _ htd))⟩, fun mk nmk => ?_⟩
    refine lc_list (K := K) (a := td) (xs := xs) (fun i G => ∃ zs : List V, G mk = some (.lst zs) ∧ All2 (CRep CP C G) zs (ms.take i) ∧ Same (upd H w2 (.lst (fs.map V.str))) G)
      ⟨[], upd_same, .nil, same_lay nmk⟩ (fun i G _ ⟨_, _, _, s⟩ => .inl (.inl (s _ _ (s5 _ _ htd)))) ?_ ?_
    · rintro i y G hy ⟨zs, hz, hZ, s3⟩
      obtain ⟨m, hm, t, rfl, hT, hGm⟩ := hA.getL hy
      have hil : i < ms.length := (List.getElem?_eq_some_iff.mp hm).1
      have lz := hZ.length
      rw [List.length_take] at lz
      refine ⟨rfl, yesT ?_⟩
      refine ⟨_, rfl, t, m, fs, n, rfl, hT.same (s5.trans s3), hGm, wfs _ hGm.mem, n1, fun z G2 hC s4 => ?_⟩
      have s34 := s3.trans s4
      refine ⟨zs, s4 _ _ hz, small1000 (by omega), zs ++ [.ref z], upd_same, ?_, same_upd s34 nmk⟩
      rw [List.take_add_one, hm]
      have k := kp_lst (u := .lst (zs ++ [.ref z])) (s4 _ _ hz)
      exact (hZ.imp fun _ _ e => (mon_CRep.up s4 e).kp k).append (.cons (hC.kp k) .nil)
    rintro H4 ⟨zs, hmk, hZ, s34⟩
    rw [hA.length, List.take_of_length_le (Nat.le_refl _)] at hZ
    have fit : ∀ m ∈ ms, Fits fs n m := fun m hm => SRep.fits (hG m hm)
    have hw2 := s34 _ _ (upd_same (H := H) (a := w2) (o := .lst (fs.map V.str)))
    exact ⟨w2, mk, n, fs, zs, ms, rfl, .inl (.inl (.inl hw2)), good, pb, .inl (.inl (.inl hmk)), hZ, hl60, fit, fun rx H7 nrx hI7 s7 => q rx H7 (s5.free (s34.free nrx)) hI7 ((s5.trans s34).trans s7)⟩
theorem scHO : FnScope ["_law_pen", "_law_world", "_law_index", "_law_clause", "_law_row", "_law_p", "_law_q", "_law_f", "_law_g"] ["_law_pen", "_law_world", "_law_index"] (defScope sHopOf) := ⟨rfl, rfl, rfl, by decide +kernel, rfl, by decide +kernel, by decide +kernel⟩
theorem ok_hopof {f : Addr} {fd : FuncData} (F : Fun K "_law_hop_of" "_law_hop_of" sHopOf f fd) (D : Cl P w K mg base 1 "_law_draw" ["_law_pen", "_law_many"] spDraw) (PI : Cl P w K mg base 2 "_law_pick" ["_law_pen", "_law_options"] (spPick K)) : FnOk P w K mg base CX0 3 f fd ["_law_pen", "_law_world", "_law_index"] spHopOf := by
  refine F.ok scHO (fun vs H Q E h => ?_) (fun cdv A outer s H vs Q E hr h => ?_)
  · obtain ⟨_, _, _, _, _, _, _, rfl, _⟩ := h
    rfl
  · obtain ⟨p, wp, n, fs, ms, i, k, rfl, hW, hi, hP, hk, q⟩ := h
    have nd := scHO.nd
    have hu := hu_of hr
    refine ⟨_, pss_cons (ps_set (i := 3) nd rfl (.inl rfl) (pe_ix (ix_listK K rfl) (pe_dget hu (pv 1) pe_str (fun _ _ => rfl)) (pv 2) (fun _ _ => rfl)))
      (pss_cons (ps_set (i := 4) nd rfl (.inl rfl) (pe_cl PI hr (by decide) (by rfl) (pa_cons (pv 0) (pa_cons (pe_ix (ix_tupK K rfl) (pv 3) pe_int (fun _ _ => rfl)) pa_nil))))
      (pss_cons (ps_set (i := 5) nd rfl (.inl rfl) (pe_op op_add (pe_ix (ix_tupK K rfl) (pv 4) pe_int (fun _ _ => rfl)) (pe_cl D hr (by decide) (by rfl) (pa_cons (pv 0) (pa_cons (pe_op op_add (pe_op op_sub (pe_ix (ix_tupK K rfl) (pv 4) pe_int (fun _ _ => rfl)) (pe_ix (ix_tupK K rfl) (pv 4) pe_int (fun _ _ => rfl))) pe_int) pa_nil)))))
      (pss_cons (ps_set (i := 6) nd rfl (.inl rfl) (pe_op op_add (pe_ix (ix_tupK K rfl) (pv 4) pe_int (fun _ _ => rfl)) (pe_cl D hr (by decide) (by rfl) (pa_cons (pv 0) (pa_cons (pe_op op_add (pe_op op_sub (pe_ix (ix_tupK K rfl) (pv 4) pe_int (fun _ _ => rfl)) (pe_ix (ix_tupK K rfl) (pv 4) pe_int (fun _ _ => rfl))) pe_int) pa_nil)))))
      (pss_cons (ps_set (i := 7) nd rfl (.inl rfl) (pe_ix (ix_tupK K rfl) (pv 3) pe_int (fun _ _ => rfl)))
      (pss_cons (ps_if (pt_cmpR op_eq (pe_ix (ix_tupK K rfl) (pv 3) pe_int (fun _ _ => rfl)) pe_str (nomark _))
          (pss_one (ps_ret (pe_tup (pa_cons (pv 2) (pa_cons (pv 7) (pa_cons (pv 5) (pa_cons (pv 7) (pa_cons (pv 6) pa_nil))))))))
          pss_nil)
      (Evl.pss_cut (ps_set (i := 8) nd rfl (.inl rfl) (pe_ifExp (pt_cmpR op_eq (pe_ix (ix_tupK K rfl) (pv 3) pe_int (fun _ _ => rfl)) pe_str (nomark _)) (pe_ix (ix_tupK K rfl) (pv 3) pe_int (fun _ _ => rfl)) pe_non))
      (pss_one (ps_ret (pe_ifExp (pt_cmpR op_eq (pe_cl D hr (by decide) (by rfl) (pa_cons (pv 0) (pa_cons pe_int pa_nil))) pe_int (nomark _)) (pe_tup (pa_cons (pv 2) (pa_cons (pv 8) (pa_cons (pv 5) (pa_cons (pv 7) (pa_cons (pv 5) pa_nil)))))) (pe_tup (pa_cons (pv 2) (pa_cons (pv 7) (pa_cons (pv 5) (pa_cons (pv 8) (pa_cons (pv 5) pa_nil))))))))))))))), ?_⟩
    obtain ⟨good, pb, n0, n1, hG⟩ := hW.facts
    obtain ⟨wf, an, ln, mute, great, free, td, ans, lts, xs, WX, htd, hA, _⟩ := id hW
    have hix : i < xs.length := by rw [hA.length]; exact hi
    obtain ⟨m, hm, t, ht, hT, hGm⟩ := hA.getL (List.getElem?_eq_getElem hix)
    obtain ⟨ra, M, htt, hra, hM, eM⟩ := id hT
    have h7 := hGm.lt
    have smf : SmallS m.2.1 := (good.2.2.1 _ hGm.mem).small
    have nfn : NS (.str m.2.1) := .inr ⟨_, rfl, smf⟩
    have lM : M.length ≤ 6 := by rw [← rws_len, eM]; exact hGm.len
    have M0 : 0 < M.length := by
      rw [← rws_len, eM]
      exact List.length_pos_iff.mpr hGm.ne
    have tK : ∀ {G}, Frm p H G → SqT K G t (.str (kName m.1) :: .str m.2.1 :: .ref ra :: m.2.2.2) := fun F' => .inl (.inl (by
      obtain ⟨kvs, hp⟩ := hP.dict
      exact F' _ _ htt (ne_of htt hp (by intro z; cases z))))
    refine ⟨_, rfl, wp, _, rfl, WX.at_ (j := 7) rfl rfl, _, rfl, td, xs, (i : Nat), .ref t, rfl, rfl, .inl (.inl htd), by rw [← ht]; exact atI_nat (List.getElem?_eq_getElem hix), ?_⟩
    refine ⟨_, rfl, _, rfl, t, _, 2, .ref ra, rfl, rfl, tK (Frm.refl _ _), atI_nat (j := 2) rfl, p, ra, refs M, k, rfl, .inl (.inl hra), by rw [refs_len]; exact M0, by rw [refs_len]; omega, hP, by omega, fun v H1 hv P1 F1 => ?_⟩
    obtain ⟨z, hz, rfl⟩ : ∃ z ∈ M, V.ref z.1 = v := by
      unfold refs at hv
      obtain ⟨z, hz, e⟩ := List.mem_map.mp hv
      exact ⟨z, hz, e⟩
    have hzr : z.2 ∈ m.2.2.1 := by
      rw [← eM]
      unfold rws
      exact List.mem_map.mpr ⟨z, hz, rfl⟩
    have bd := hGm.bd z.2 hzr
    have ok := hGm.nf.ok z.2 hzr
    have zK : ∀ {G}, Frm p H G → SqT K G z.1 [.int z.2.1, .int z.2.2] := fun F' => .inl (.inl (by
      obtain ⟨kvs, hp⟩ := hP.dict
      exact F' _ _ (hM z hz) (ne_of (hM z hz) hp (by intro z; cases z))))
    have eL : lastP = 10 ^ 30 := rfl
    have b200 : (z.2.2 - z.2.1 + 1).natAbs < 2 ^ 200 := Nat.lt_of_le_of_lt (show (z.2.2 - z.2.1 + 1).natAbs ≤ 10 ^ 30 + 1 by omega) (by decide)
    refine ⟨_, rfl, z.1, _, 0, .int z.2.1, rfl, rfl, zK F1, atI_nat (j := 0) rfl, _, rfl, _, rfl, z.1, _, 1, .int z.2.2, rfl, rfl, zK F1, atI_nat (j := 1) rfl, _, rfl, z.1, _, 0, .int z.2.1, rfl, rfl, zK F1, atI_nat (j := 0) rfl, _, _, rfl, rfl, _, _, rfl, rfl, p, _, _, rfl, by show 0 < z.2.2 - z.2.1 + 1; omega, b200, P1, by omega, fun r1 H2 r10 r11 P2 F2 => ⟨_, _, rfl, rfl, ?_⟩⟩
    have F02 := F1.trans F2
    refine ⟨_, rfl, z.1, _, 0, .int z.2.1, rfl, rfl, zK F02, atI_nat (j := 0) rfl, _, rfl, _, rfl, z.1, _, 1, .int z.2.2, rfl, rfl, zK F02, atI_nat (j := 1) rfl, _, rfl, z.1, _, 0, .int z.2.1, rfl, rfl, zK F02, atI_nat (j := 0) rfl, _, _, rfl, rfl, _, _, rfl, rfl, p, _, _, rfl, by show 0 < z.2.2 - z.2.1 + 1; omega, b200, P2, by omega, fun r2 H3 r20 r21 P3 F3 => ⟨_, _, rfl, rfl, ?_⟩⟩
    have F03 := F02.trans F3
    refine ⟨_, rfl, t, _, 1, .str m.2.1, rfl, rfl, tK F03, atI_nat (j := 1) rfl, ?_⟩
    have fin : ∀ (f' g' : V) (y1 y2 : Int) (G : Hp) (tt : Addr), NS f' → NS g' → 0 ≤ y1 → y1 ≤ n → 0 ≤ y2 → y2 ≤ n → Pen G p (k + 5) → Frm p H G → G tt = none → Q (.ref tt) (upd G tt (.tup [.int (i : Nat), f', .int y1, g', .int y2])) := fun f' g' y1 y2 G tt a b c d e f2 PG FG ntt =>
      q tt f' y1 g' y2 _ (FG.free PG ntt) upd_same a b c d e f2 (PG.new ntt) (FG.trans (Frm.new ntt))
    have y10 : 0 ≤ z.2.1 + r1 := by omega
    have r11' : r1 < z.2.2 - z.2.1 + 1 := r11
    have r21' : r2 < z.2.2 - z.2.1 + 1 := r21
    have y1n : z.2.1 + r1 ≤ n := by omega
    have y20 : 0 ≤ z.2.1 + r2 := by omega
    have y2n : z.2.1 + r2 ≤ n := by omega
    refine ⟨_, rfl, t, _, 0, .str (kName m.1), rfl, rfl, tK F03, atI_nat (j := 0) rfl, rfl, _, rfl, ite2 (fun c1 => ?_) (fun c1 => ?_)⟩
    · exact ⟨_, rfl, _, rfl, _, rfl, _, rfl, _, rfl, by show 5 ≤ sizeLine; decide, fun tt ntt => fin _ _ _ _ _ tt nfn nfn y10 y1n y20 y2n (P3.mono (by omega)) F03 ntt⟩
    refine ⟨fun σ G => ∃ g', NS g' ∧ σ = [some (.ref p), some (.ref wp), some (.int (i : Nat)), some (.ref t), some (.ref z.1), some (.int (z.2.1 + r1)), some (.int (z.2.1 + r2)), some (.str m.2.1), some g'] ∧ H3 = G, ?_, ?_⟩
    · refine ⟨_, rfl, t, _, 0, .str (kName m.1), rfl, rfl, tK F03, atI_nat (j := 0) rfl, rfl, _, rfl, ite2 (fun c2 => ?_) (fun c2 => ⟨.non, .inl rfl, rfl, rfl⟩)⟩
      have h5 : m.1 = 5 := kName_inj (j := 5) h7 (by decide) (show kName m.1 = "pair" by simpa using c2)
      exact ⟨_, rfl, t, _, 4, oth m, rfl, rfl, tK F03, (fac2 m (.ref ra) hGm.wf (.inr h5)).2.2.2 h5, oth m, fac3 m hGm.wf (.inr h5), rfl, rfl⟩
    rintro σ _ ⟨g', ng', rfl, rfl⟩
    refine ⟨_, rfl, p, 2, _, rfl, by decide, by decide, P3, by omega, fun r G4 _ _ P4 F4 => ⟨rfl, _, rfl, ite2 (fun _ => ?_) (fun _ => ?_)⟩⟩
    · exact ⟨_, rfl, _, rfl, _, rfl, _, rfl, _, rfl, by show 5 ≤ sizeLine; decide, fun tt ntt => fin _ _ _ _ _ tt ng' nfn y10 y1n y10 y1n (P4.mono (by omega)) (F03.trans F4) ntt⟩
    · exact ⟨_, rfl, _, rfl, _, rfl, _, rfl, _, rfl, by show 5 ≤ sizeLine; decide, fun tt ntt => fin _ _ _ _ _ tt nfn ng' y10 y1n y10 y1n (P4.mono (by omega)) (F03.trans F4) ntt⟩
theorem scBe : FnScope ["_law_pen", "_law_world", "_law_hop", "_law_way", "_law_index", "_law_f", "_law_p", "_law_g", "_law_q", "_law_odd"] ["_law_pen", "_law_world", "_law_hop"] (defScope sBent) := ⟨rfl, rfl, rfl, by decide +kernel, rfl, by decide +kernel, by decide +kernel⟩
theorem ok_bent {f : Addr} {fd : FuncData} (F : Fun K "_law_bent" "_law_bent" sBent f fd) (B : Bd mg) (D : Cl P w K mg base 1 "_law_draw" ["_law_pen", "_law_many"] spDraw) : FnOk P w K mg base CX0 2 f fd ["_law_pen", "_law_world", "_law_hop"] (spBent K) := by
  refine F.ok scBe (fun vs H Q E h => ?_) (fun cdv A outer s H vs Q E hr h => ?_)
  · obtain ⟨_, _, _, _, _, _, _, _, _, _, _, _, rfl, _⟩ := h
    rfl
  · obtain ⟨p, wp, t, n, fs, ms, i, k, fv, gv, x1, x2, rfl, hW, lms, hP, hk, ht, nf, ng, q⟩ := h
    have nd := scBe.nd
    have hu := hu_of hr
    refine ⟨_, pss_cons (ps_set (i := 3) nd rfl (.inl rfl) (pe_cl D hr (by decide) (by rfl) (pa_cons (pv 0) (pa_cons pe_int pa_nil))))
      (pss_cons (ps_asg (pv 2) (pg_tup rfl (pgs_cons (pg_name (i := 4) nd rfl (.inl rfl)) (pgs_cons (pg_name (i := 5) nd rfl (.inl rfl)) (pgs_cons (pg_name (i := 6) nd rfl (.inl rfl)) (pgs_cons (pg_name (i := 7) nd rfl (.inl rfl)) (pgs_cons (pg_name (i := 8) nd rfl (.inl rfl)) pgs_nil)))))))
      (pss_cons (ps_set (i := 9) nd rfl (.inl rfl) (pe_lst (pa_cons (pe_tup (pa_cons (pe_op op_sub (pe_cl D hr (by decide) (by rfl) (pa_cons (pv 0) (pa_cons (pe_op op_add (pe_callB call_len_seq (by rfl) B.len PySem.boot_len (pa_cons (pe_dget hu (pv 1) pe_str (fun _ _ => rfl)) pa_nil)) pe_int) pa_nil))) pe_int) (pa_cons (pv 5) (pa_cons (pv 6) (pa_cons (pv 7) (pa_cons (pv 8) pa_nil)))))) (pa_cons (pe_tup (pa_cons (pv 4) (pa_cons (pv 7) (pa_cons (pv 6) (pa_cons (pv 5) (pa_cons (pv 8) pa_nil)))))) (pa_cons (pe_tup (pa_cons (pv 4) (pa_cons (pv 5) (pa_cons (pv 8) (pa_cons (pv 7) (pa_cons (pv 6) pa_nil)))))) (pa_cons (pe_tup (pa_cons (pv 4) (pa_cons (pv 5) (pa_cons (pe_op op_add (pv 6) pe_int) (pa_cons (pv 7) (pa_cons (pv 8) pa_nil)))))) (pa_cons (pe_tup (pa_cons (pv 4) (pa_cons (pv 5) (pa_cons (pv 6) (pa_cons (pv 7) (pa_cons (pe_op op_sub (pe_op op_add (pv 8) (pe_cl D hr (by decide) (by rfl) (pa_cons (pv 0) (pa_cons pe_int pa_nil)))) pe_int) pa_nil)))))) (pa_cons (pe_tup (pa_cons (pv 4) (pa_cons (pv 5) (pa_cons (pv 6) (pa_cons pe_non (pa_cons (pv 8) pa_nil)))))) (pa_cons (pe_tup (pa_cons (pv 4) (pa_cons (pv 5) (pa_cons (pv 6) (pa_cons (pv 7) pa_nil))))) (pa_cons (pe_tup (pa_cons (pv 4) (pa_cons (pv 5) (pa_cons (pv 6) (pa_cons (pv 7) (pa_cons (pv 8) (pa_cons pe_int pa_nil))))))) pa_nil))))))))))
      (pss_one (ps_ret (pe_ix (ix_listK K rfl) (pv 9) (pv 3) (fun _ _ => rfl)))))), ?_⟩
    obtain ⟨wf, an, ln, mute, great, free, td, ans, lts, xs, WX, htd, hA, _⟩ := id hW
    refine ⟨_, rfl, p, 8, _, rfl, by decide, by decide, hP, by omega, fun way H1 w0 w8 P1 F1 => ?_⟩
    obtain ⟨kvs, hp⟩ := hP.dict
    have ht1 := F1 _ _ ht (ne_of ht hp (by intro z; cases z))
    refine ⟨_, rfl, t, _, rfl, .inl (.inl ht1), rfl, _, _, rfl, _, _, rfl, _, _, rfl, _, _, rfl, _, _, rfl, rfl, ?_⟩
    have lx : xs.length = ms.length := hA.length
    refine ⟨_, rfl, _, rfl, wp, _, rfl, (WX.frm F1 hP).at_ (j := 7) rfl rfl, td, xs, rfl, .inl (.inl (.inl (F1.lst hP htd))), _, _, rfl, rfl, p, _, _, rfl, by show (0 : Int) < (xs.length : Int) + 2; omega, ?_, P1, by omega, fun r1 H2 _ _ P2 F2 => ⟨_, _, rfl, rfl, ?_⟩⟩
    · exact Nat.lt_of_le_of_lt (show ((xs.length : Int) + 2).natAbs ≤ 102 by omega) (by decide)
    refine ⟨_, rfl, _, rfl, _, rfl, _, rfl, by show 5 ≤ sizeLine; decide, fun t1 n1 => ?_⟩
    refine ⟨_, rfl, _, rfl, _, rfl, _, rfl, _, rfl, by show 5 ≤ sizeLine; decide, fun t2 n2 => ?_⟩
    refine ⟨_, rfl, _, rfl, _, rfl, _, rfl, _, rfl, by show 5 ≤ sizeLine; decide, fun t3 n3 => ?_⟩
    refine ⟨_, rfl, _, rfl, _, rfl, _, _, rfl, rfl, _, rfl, _, rfl, by show 5 ≤ sizeLine; decide, fun t4 n4 => ?_⟩
    have scI : ∀ n : Int, Sc (.int n) := fun n => .inl ⟨n, rfl⟩
    have b1 : HB K (upd H2 t1 (.tup [.int (r1 - 1), fv, .int x1, gv, .int x2])) (.ref t1) := .inl ⟨t1, _, _, _, _, _, rfl, .inl (.inl (.inl upd_same)), nf, ng, scI _, scI _, scI _⟩
    have P21 := P2.new (o := .tup [.int (r1 - 1), fv, .int x1, gv, .int x2]) n1
    have F21 := (F1.trans F2).trans (Frm.new (p := p) (o := .tup [.int (r1 - 1), fv, .int x1, gv, .int x2]) n1)
    generalize upd H2 t1 (.tup [.int (r1 - 1), fv, .int x1, gv, .int x2]) = G1 at *
    have s2 := same_lay (o := .tup [.int (i : Nat), gv, .int x1, fv, .int x2]) n2
    have b2 : HB K (upd G1 t2 (.tup [.int (i : Nat), gv, .int x1, fv, .int x2])) (.ref t2) := .inl ⟨t2, _, _, _, _, _, rfl, .inl (.inl (.inl upd_same)), ng, nf, scI _, scI _, scI _⟩
    have b1 := b1.same s2
    have P22 := P21.same' s2
    have F22 := F21.trans (frmS (p := p) s2)
    generalize upd G1 t2 (.tup [.int (i : Nat), gv, .int x1, fv, .int x2]) = G2 at *
    have s3 := same_lay (o := .tup [.int (i : Nat), fv, .int x2, gv, .int x1]) n3
    have b3 : HB K (upd G2 t3 (.tup [.int (i : Nat), fv, .int x2, gv, .int x1])) (.ref t3) := .inl ⟨t3, _, _, _, _, _, rfl, .inl (.inl (.inl upd_same)), nf, ng, scI _, scI _, scI _⟩
    have b1 := b1.same s3
    have b2 := b2.same s3
    have P23 := P22.same' s3
    have F23 := F22.trans (frmS (p := p) s3)
    generalize upd G2 t3 (.tup [.int (i : Nat), fv, .int x2, gv, .int x1]) = G3 at *
    have s4 := same_lay (o := .tup [.int (i : Nat), fv, .int (x1 + 1), gv, .int x2]) n4
    have b4 : HB K (upd G3 t4 (.tup [.int (i : Nat), fv, .int (x1 + 1), gv, .int x2])) (.ref t4) := .inl ⟨t4, _, _, _, _, _, rfl, .inl (.inl (.inl upd_same)), nf, ng, scI _, scI _, scI _⟩
    have b1 := b1.same s4
    have b2 := b2.same s4
    have b3 := b3.same s4
    have P24 := P23.same' s4
    have F24 := F23.trans (frmS (p := p) s4)
    refine ⟨_, rfl, _, rfl, _, rfl, _, rfl, _, rfl, _, rfl, p, 3, _, rfl, by decide, by decide, P24, by omega, fun r2 G5 _ _ P5 F5 => ⟨_, _, rfl, rfl, _, _, rfl, rfl, by show 5 ≤ sizeLine; decide, fun t5 n5 => ?_⟩⟩
    have b1 := b1.frm F5 P24
    have b2 := b2.frm F5 P24
    have b3 := b3.frm F5 P24
    have b4 := b4.frm F5 P24
    have F25 := F24.trans F5
    refine ⟨_, rfl, _, rfl, _, rfl, _, rfl, by show 5 ≤ sizeLine; decide, fun t6 n6 => ?_⟩
    refine ⟨_, rfl, _, rfl, _, rfl, _, rfl, by show 4 ≤ sizeLine; decide, fun t7 n7 => ?_⟩
    refine ⟨_, rfl, _, rfl, _, rfl, _, rfl, _, rfl, by show 6 ≤ sizeLine; decide, fun t8 n8 => ?_⟩
    refine ⟨by show 8 ≤ sizeLine; decide, fun l nl => ?_⟩
    have s5 := same_lay (o := .tup [.int (i : Nat), fv, .int x1, gv, .int (x2 + r2 - 1)]) n5
    have s6 := same_lay (o := .tup [.int (i : Nat), fv, .int x1, .non, .int x2]) n6
    have s7 := same_lay (o := .tup [.int (i : Nat), fv, .int x1, gv]) n7
    have s8 := same_lay (o := .tup [.int (i : Nat), fv, .int x1, gv, .int x2, .int 0]) n8
    have sl := same_lay (o := .lst [.ref t1, .ref t2, .ref t3, .ref t4, .ref t5, .ref t6, .ref t7, .ref t8]) nl
    have b8 : HB K _ (.ref t8) := HB.same (.inr ⟨t8, _, rfl, .inl (.inl (.inl upd_same)), by show (6 : Nat) ≠ 5; decide⟩) sl
    have b7 : HB K _ (.ref t7) := HB.same (.inr ⟨t7, _, rfl, .inl (.inl (.inl upd_same)), by show (4 : Nat) ≠ 5; decide⟩) (s8.trans sl)
    have b6 : HB K _ (.ref t6) := HB.same (.inl ⟨t6, _, _, _, _, _, rfl, .inl (.inl (.inl upd_same)), nf, .inl rfl, scI _, scI _, scI _⟩) ((s7.trans s8).trans sl)
    have b5 : HB K _ (.ref t5) := HB.same (.inl ⟨t5, _, _, _, _, _, rfl, .inl (.inl (.inl upd_same)), nf, ng, scI _, scI _, scI _⟩) (((s6.trans s7).trans s8).trans sl)
    have S := (((s5.trans s6).trans s7).trans s8).trans sl
    have all : ∀ v ∈ ([.ref t1, .ref t2, .ref t3, .ref t4, .ref t5, .ref t6, .ref t7, .ref t8] : List V), HB K _ v := fun v hv => by
      simp only [List.mem_cons, List.not_mem_nil, or_false] at hv
      rcases hv with e | e | e | e | e | e | e | e <;> subst e
      · exact b1.same S
      · exact b2.same S
      · exact b3.same S
      · exact b4.same S
      · exact b5
      · exact b6
      · exact b7
      · exact b8
    have w8' : way < 8 := w8
    have hw : way.toNat < ([.ref t1, .ref t2, .ref t3, .ref t4, .ref t5, .ref t6, .ref t7, .ref t8] : List V).length := by show way.toNat < 8; omega
    refine ⟨_, rfl, _, rfl, l, _, way, _, rfl, rfl, .inl (.inl upd_same), by have := atI_nat (List.getElem?_eq_getElem hw); rw [Int.toNat_of_nonneg w0] at this; exact this, ?_⟩
    exact q _ _ (all _ (List.getElem_mem hw)) ((P5.same' S).mono (by omega)) (F25.trans (frmS S))
end
end OR

namespace OR
open PySem PySem.Spec PyProof.Rows L2
open TL (tl numL)
def spLaw (K : PySem.W.Frag) : Sp := fun vs H Q _ => ∃ (a : Addr) (ns : List Int), vs = [.ref a] ∧ SqL K H a (ns.map V.int) ∧ ns.length ≤ 63 ∧ ∀ H', Q (.bl true) H'
/-- a value that is no hop, at heaps to come -/
def NH (K : PySem.W.Frag) (p : Addr) (H : Hp) (ms : List CM) (v : V) : Prop :=
  (∃ a xs, v = .ref a ∧ SeqA K H a xs ∧ (xs.length ≠ 5 ∨ ∃ i f q g r, xs = [i, f, q, g, r] ∧ NS f ∧ NS g ∧ Sc i ∧ Sc q ∧ Sc r ∧ readB ms i f q g r = false)) ∨ (∃ T : String, (∀ H', TyX K H' v (.type T)) ∧ kitB T "tuple" = some false ∧ kitB T "list" = some false) ∨ (∃ d, v = .ref d ∧ H d = some (.dK []) ∧ d ≠ p)
theorem NH.same {K : PySem.W.Frag} {p : Addr} {H H' : Hp} {ms : List CM} {v : V} (h : NH K p H ms v) (s : Same H H') : NH K p H' ms v := by
  rcases h with ⟨a, xs, e, hS, r⟩ | h | ⟨d, e, h, n⟩
  · exact .inl ⟨a, xs, e, hS.same s, r⟩
  · exact .inr (.inl h)
  · exact .inr (.inr ⟨d, e, s _ _ h, n⟩)
theorem NH.hv {K : PySem.W.Frag} {p : Addr} {H H' : Hp} {ms : List CM} {v : V} {k : Nat} (h : NH K p H ms v) (F : Frm p H H') (P : Pen H p k) : HV K H' ms v .non := by
  have go : ∀ {a xs}, SeqA K H a xs → SeqA K H' a xs := fun h => h.elim (fun e => .inl (F.tup P e)) fun e => .inr (F.lst P e)
  rcases h with ⟨a, xs, e, hS, r⟩ | ⟨T, h, k1, k2⟩ | ⟨d, e, h, n⟩
  · rcases r with hl | ⟨i, f, q, g, r, rfl, n1, n2, s1, s2, s3, hr⟩
    · exact .inr (.inl ⟨a, xs, e, go hS, hl, rfl⟩)
    · exact .inl ⟨a, i, f, q, g, r, e, go hS, n1, n2, s1, s2, s3, (costV_no hr).symm⟩
  · exact .inr (.inr ⟨⟨T, fun H2 _ => h H2, k1, k2⟩, rfl⟩)
  · subst e
    have hd := F _ _ h n
    exact .inr (.inr ⟨⟨"dict", fun H2 s => .base (.dK (s _ _ hd)), by decide +kernel, by decide +kernel⟩, rfl⟩)
section
variable {P : Program} {w : World} {K : PySem.W.Frag} {mg : Str → Option Value} {base : Heap} {C : Nat → Addr} {CP CR : Addr}
theorem scLaw : FnScope ["_law_script", "_law_pen", "_law_world", "_law_rules", "_law_index", "_law_turn", "_law_hop", "_law_made", "_law_far"] ["_law_script"] (defScope sLaw) := ⟨rfl, rfl, rfl, by decide +kernel, rfl, by decide +kernel, by decide +kernel⟩
theorem ok_law {f : Addr} {fd : FuncData} (F : Fun K "law" "law" sLaw f fd) (B : Bd mg) (N : Cl P w K mg base 1 "_law_pen_of" ["_law_script"] (spPen K)) (D : Cl P w K mg base 1 "_law_draw" ["_law_pen", "_law_many"] spDraw) (PI : Cl P w K mg base 2 "_law_pick" ["_law_pen", "_law_options"] (spPick K)) (WW : Cl P w K mg base 6 "_law_world_of" ["_law_pen", "_law_small", "_law_most"] spWorldOf) (RO : Cl P w K mg base 7 "_law_rules_of" ["_law_world"] (spRulesOf K CR CP C))
    (HO : Cl P w K mg base 3 "_law_hop_of" ["_law_pen", "_law_world", "_law_index"] spHopOf) (BE : Cl P w K mg base 2 "_law_bent" ["_law_pen", "_law_world", "_law_hop"] (spBent K)) (HC : Cl P w K mg base 6 "hop_cost" ["rules", "hop"] (spHopCost K CR CP C)) (LH : Cl P w K mg base 3 "_law_hop_cost" ["_law_world", "_law_hop"] (spLHop K)) : FnOk P w K mg base CX0 8 f fd ["_law_script"] (spLaw K) := by
  refine F.ok scLaw (fun vs H Q E h => ?_) (fun cdv A outer s H vs Q E hr h => ?_)
  · obtain ⟨a, ns, rfl, _⟩ := h
    rfl
  · obtain ⟨sc, ns, rfl, hS, hlen, q⟩ := h
    have nd := scLaw.nd
    have hu := hu_of hr
    refine ⟨_, pss_cons (ps_set (i := 1) nd rfl (.inl rfl) (pe_cl N hr (by decide) (by rfl) (pa_cons (pv 0) pa_nil)))
      (pss_cons (ps_set (i := 2) nd rfl (.inl rfl) (pe_cl WW hr (by decide) (by rfl) (pa_cons (pv 1) (pa_cons (pe_cmpR op_eq (pe_cl D hr (by decide) (by rfl) (pa_cons (pv 1) (pa_cons pe_int pa_nil))) pe_int (by rfl)) (pa_cons pe_int pa_nil)))))
      (pss_cons (ps_set (i := 3) nd rfl (.inl rfl) (pe_cl RO hr (by decide) (by rfl) (pa_cons (pv 2) pa_nil)))
      (Evl.pss_cut (ps_for PassesOwn.never rfl (pi_range1 (by rfl) B.range (pa_cons (pe_callB call_len_seq (by rfl) B.len PySem.boot_len (pa_cons (pe_dget hu (pv 2) pe_str (fun _ _ => rfl)) pa_nil)) pa_nil)) (pg_name (i := 4) nd rfl (.inl rfl))
          (pss_one (ps_for PassesOwn.never rfl (pi_range1 (by rfl) B.range (pa_cons pe_int pa_nil)) (pg_name (i := 5) nd rfl (.inl rfl))
              (pss_cons (ps_set (i := 6) nd rfl (.inl rfl) (pe_cl HO hr (by decide) (by rfl) (pa_cons (pv 1) (pa_cons (pv 2) (pa_cons (pv 4) pa_nil)))))
              (pss_one (ps_for PassesOwn.never rfl (pi_list (pe_lst (pa_cons (pv 6) (pa_cons (pe_cl BE hr (by decide) (by rfl) (pa_cons (pv 1) (pa_cons (pv 2) (pa_cons (pv 6) pa_nil)))) (pa_cons (pe_callTy call_list_of (by rfl) B.list bt_list (pa_cons (pv 6) pa_nil)) pa_nil))))) (pg_name (i := 7) nd rfl (.inl rfl))
                  (pss_one (ps_if (pt_cmpR op_ne (pe_cl HC hr (by decide) (by rfl) (pa_cons (pv 3) (pa_cons (pv 7) pa_nil))) (pe_cl LH hr (by decide) (by rfl) (pa_cons (pv 2) (pa_cons (pv 7) pa_nil))) (nomark _))
                      (pss_one (ps_ret pe_bl))
                      pss_nil))))))))
      (pss_cons (ps_set (i := 8) nd rfl (.inl rfl) (pe_cl PI hr (by decide) (by rfl) (pa_cons (pv 1) (pa_cons (pe_lst (pa_cons pe_non (pa_cons (pe_tup pa_nil) (pa_cons pe_int (pa_cons pe_str (pa_cons pe_dnewK (pa_cons pe_bl (pa_cons (pe_tup (pa_cons pe_int (pa_cons pe_non (pa_cons pe_int pa_nil)))) (pa_cons (pe_lst (pa_cons (pe_lst (pa_cons pe_int (pa_cons pe_non (pa_cons pe_int (pa_cons pe_non (pa_cons pe_int pa_nil)))))) pa_nil)) (pa_cons (pe_tup (pa_cons pe_str (pa_cons pe_non (pa_cons pe_int (pa_cons pe_non (pa_cons pe_int pa_nil)))))) (pa_cons (pe_tup (pa_cons pe_bl (pa_cons pe_non (pa_cons pe_int (pa_cons (pe_ix (ix_listK K rfl) (pe_dget hu (pv 2) pe_str (fun _ _ => rfl)) pe_int (fun _ _ => rfl)) (pa_cons pe_int pa_nil)))))) (pa_cons (pe_tup (pa_cons pe_int (pa_cons pe_non (pa_cons pe_str (pa_cons (pe_ix (ix_listK K rfl) (pe_dget hu (pv 2) pe_str (fun _ _ => rfl)) pe_int (fun _ _ => rfl)) (pa_cons pe_str pa_nil)))))) pa_nil)))))))))))) pa_nil))))
      (pss_one (ps_ret (pe_cmpR op_isN (pe_cl HC hr (by decide) (by rfl) (pa_cons (pv 3) (pa_cons (pv 8) pa_nil))) pe_non (by rfl)))))))), ?_⟩
    refine ⟨_, rfl, sc, ns, rfl, hS, hlen, fun p H1 np P0 S0 => ?_⟩
    refine ⟨_, rfl, _, rfl, p, 2, 0, rfl, by decide, by decide, P0, by decide, fun r H2 _ _ P2 F2 => ⟨rfl, p, _, 6, 1, rfl, by decide, by decide, P2, by decide, fun wp n fs ms H3 nwp W3 m0 m7 P3 F3 => ?_⟩⟩
    obtain ⟨good, pb, n0, n1, hG⟩ := W3.facts
    refine ⟨_, rfl, p, wp, n, fs, ms, rfl, W3, by omega, fun z H4 nz hR4 s4 => ?_⟩
    have P4 := P3.same' s4
    have W4 := W3.same s4
    have P4' := P4.mono (show _ ≤ 1000 by omega)
    obtain ⟨wf, an, ln, mute, great, free, td, ans, lts, xs0, WX4, htd4, hA4, _, _⟩ := id W4
    have lx : xs0.length = ms.length := hA4.length
    -- each clause
    refine ⟨fun σ G => (∃ s4 s5 s6 s7, σ = [some (.ref sc), some (.ref p), some (.ref wp), some (.ref z), s4, s5, s6, s7, none]) ∧ Pen G p 2000 ∧ Frm p H4 G, ?_, ?_⟩
    · refine ⟨_, rfl, wp, _, rfl, WX4.at_ (j := 7) rfl rfl, td, _, rfl, .inl (.inl (.inl htd4)), ms.length, by rw [lx], by omega, by omega, ?_⟩
      have e0 : ((ms.length : Nat) : Int).toNat = ms.length := by omega
      rw [e0]
      refine for_range (lo := 0) (n := ms.length) (fun i σ G => (∃ s4 s5 s6 s7, σ = [some (.ref sc), some (.ref p), some (.ref wp), some (.ref z), s4, s5, s6, s7, none]) ∧ Pen G p (1000 + 100 * i) ∧ Frm p H4 G) ⟨⟨_, _, _, _, rfl⟩, P4', Frm.refl _ _⟩ ?_ ?_
      · rintro i σ G hi ⟨⟨s4', s5', s6', s7', rfl⟩, PG, FG⟩
        refine ⟨3, rfl, by decide, by decide, for_range (lo := 0) (n := 3) (fun j σ G => (∃ s5 s6 s7, σ = [some (.ref sc), some (.ref p), some (.ref wp), some (.ref z), some (.int (0 + (i : Int))), s5, s6, s7, none]) ∧ Pen G p (1000 + 100 * i + 20 * j) ∧ Frm p H4 G) ⟨⟨_, _, _, rfl⟩, PG, FG⟩ ?_ ?_⟩
        · rintro j σ G1 hj ⟨⟨s5', s6', s7', rfl⟩, P1, F1⟩
          have W1 := W4.frm F1 P4
          refine ⟨_, rfl, _, rfl, _, rfl, p, wp, n, fs, ms, i, _, by rw [Int.zero_add]; rfl, W1, hi, P1, by omega, fun t fv x1 gv x2 G2 nt ht nf ng x10 x1n x20 x2n P2' F2' => ?_⟩
          have F12 := F1.trans F2'
          refine ⟨_, rfl, _, rfl, _, rfl, _, rfl, p, wp, t, n, fs, ms, i, _, fv, gv, x1, x2, rfl, W4.frm F12 P4, by omega, P2', by omega, ht, nf, ng, fun v2 G3 hv2 P3' F3' => ?_⟩
          have ht3 : G3 t = some (.tup [.int (i : Nat), fv, .int x1, gv, .int x2]) := by
            obtain ⟨kvs, hp⟩ := P2'.dict
            exact F3' _ _ ht (ne_of ht hp (by intro z; cases z))
          refine ⟨_, rfl, t, _, rfl, .inr (.inl (.inl ht3)), fun l3 nl3 => ⟨by show 3 ≤ sizeLine; decide, fun l nl => ?_⟩⟩
          have s3 := same_lay (o := .lst [.int (i : Nat), fv, .int x1, gv, .int x2]) nl3
          have sl := same_lay (o := .lst [.ref t, v2, .ref l3]) nl
          have S := s3.trans sl
          have hb : ∀ v ∈ ([.ref t, v2, .ref l3] : List V), HB K (upd (upd G3 l3 (.lst [.int (i : Nat), fv, .int x1, gv, .int x2])) l (.lst [.ref t, v2, .ref l3])) v := fun v hv => by
            simp only [List.mem_cons, List.not_mem_nil, or_false] at hv
            rcases hv with e | e | e <;> subst e
            · exact .inl ⟨t, _, _, _, _, _, rfl, .inl (.inl (.inl (S _ _ ht3))), nf, ng, .inl ⟨_, rfl⟩, .inl ⟨_, rfl⟩, .inl ⟨_, rfl⟩⟩
            · exact hv2.same S
            · exact HB.same (.inl ⟨l3, _, _, _, _, _, rfl, .inr upd_same, nf, ng, .inl ⟨_, rfl⟩, .inl ⟨_, rfl⟩, .inl ⟨_, rfl⟩⟩) sl
          have hl : (upd (upd G3 l3 (.lst [.int (i : Nat), fv, .int x1, gv, .int x2])) l (.lst [.ref t, v2, .ref l3])) l = some (.lst [.ref t, v2, .ref l3]) := upd_same
          have F13 := F12.trans (F3'.trans (frmS (p := p) S))
          have P13 := P3'.same' S
          generalize upd (upd G3 l3 (.lst [.int (i : Nat), fv, .int x1, gv, .int x2])) l (.lst [.ref t, v2, .ref l3]) = Gx at hb hl F13 P13
          refine ⟨l, rfl, ⟨_, .inl (.inl hl)⟩, for_list (K := K) (a := l) (xs := [.ref t, v2, .ref l3]) (fun _ σ G => (∃ s7, σ = [some (.ref sc), some (.ref p), some (.ref wp), some (.ref z), some (.int (0 + (i : Int))), some (.int (0 + (j : Int))), some (.ref t), s7, none]) ∧ Same Gx G) ⟨⟨_, rfl⟩, Same.refl _⟩ (fun _ σ G _ ⟨_, s⟩ => .inl (.inl (s _ _ hl))) ?_ ?_⟩
          · rintro c y σ G hy ⟨⟨s7'', rfl⟩, sG⟩
            obtain ⟨r0, hv, hsc⟩ := (hb y (List.mem_of_getElem? hy)).hv ms
            have hv := hv.same sG
            have FG' := F13.trans (frmS (p := p) sG)
            refine ⟨_, rfl, _, rfl, z, y, r0, fs, n, ms, rfl, hR4.kp (kp_frm FG' P4), n1, hG, hv, fun Ga sa => ?_⟩
            refine ⟨_, rfl, _, rfl, p, wp, y, r0, n, fs, ms, rfl, W4.frm (FG'.trans (frmS sa)) P4, hv.same sa, fun Gb sb => ?_⟩
            exact ⟨hsc, _, rfl, iteB (by simp) ⟨⟨_, rfl⟩, sG.trans (sa.trans sb)⟩⟩
          · rintro σ G ⟨⟨s7'', rfl⟩, sG⟩
            exact ⟨⟨_, _, _, rfl⟩, (P13.same' sG).mono (by omega), F13.trans (frmS sG)⟩
        · rintro σ G ⟨⟨s5', s6', s7', rfl⟩, P1, F1⟩
          exact ⟨⟨_, _, _, _, rfl⟩, P1.mono (by omega), F1⟩
      · rintro σ G ⟨h, P1, F1⟩
        exact ⟨h, P1.mono (by omega), F1⟩
    rintro σ G ⟨⟨s4', s5', s6', s7', rfl⟩, PG, FG⟩
    have WG := WX4.frm FG P4
    -- values that are no hops
    obtain ⟨f0, fr, hfs⟩ : ∃ f0 fr, fs = f0 :: fr := by
      cases fs with
      | nil => exact absurd good.1 (by show ¬ (1 ≤ 0); omega)
      | cons a b => exact ⟨a, b, rfl⟩
    have nf0 : NS (.str f0) := .inr ⟨f0, rfl, (good.2.2.1 f0 (by rw [hfs]; exact List.mem_cons_self)).small⟩
    have a0 : atI (fs.map V.str) 0 = some (.str f0) := by rw [hfs]; exact atI_nat (j := 0) rfl
    refine ⟨_, rfl, by show 0 ≤ sizeLine; decide, fun t0 nt0 => ?_⟩
    have s0 := same_lay (o := .tup []) nt0
    intro d nd2
    have s1 := same_lay (o := .dK []) nd2
    refine ⟨by show 3 ≤ sizeLine; decide, fun t3 nt3 => ?_⟩
    have s2 := same_lay (o := .tup [.int 0, .non, .int 0]) nt3
    refine ⟨by show 5 ≤ sizeLine; decide, fun li nli => ⟨by show 1 ≤ sizeLine; decide, fun lo nlo => ?_⟩⟩
    have s3 := same_lay (o := .lst [.int 0, .non, .int 0, .non, .int 0]) nli
    have s4' := same_lay (o := .lst [.ref li]) nlo
    refine ⟨by show 5 ≤ sizeLine; decide, fun t4 nt4 => ?_⟩
    have s5 := same_lay (o := .tup [.str "0", .non, .int 0, .non, .int 0]) nt4
    have s04 := ((((s0.trans s1).trans s2).trans s3).trans s4').trans s5
    have W5 := WG.same s04
    refine ⟨_, rfl, wp, _, rfl, W5.at_ (j := 1) rfl rfl, wf, _, 0, _, rfl, rfl, .inl (.inl W5.f), a0, by show 5 ≤ sizeLine; decide, fun t5 nt5 => ?_⟩
    have s6 := same_lay (o := .tup [.bl true, .non, .int 0, .str f0, .int 0]) nt5
    have W6 := W5.same s6
    refine ⟨_, rfl, wp, _, rfl, W6.at_ (j := 1) rfl rfl, wf, _, 0, _, rfl, rfl, .inl (.inl W6.f), a0, by show 5 ≤ sizeLine; decide, fun t6 nt6 => ⟨by show 11 ≤ sizeLine; decide, fun L nL => ?_⟩⟩
    have s7 := same_lay (o := .tup [.int 0, .non, .str "0", .str f0, .str "0"]) nt6
    have s8 := same_lay (o := .lst [.non, .ref t0, .int 3, .str "hop", .ref d, .bl true, .ref t3, .ref lo, .ref t4, .ref t5, .ref t6]) nL
    have base : ∀ {v : V} {T : String} {G}, (∀ H', TyX K H' v (.type T)) → kitB T "tuple" = some false → kitB T "list" = some false → NH K p G ms v := fun h a b => .inr (.inl ⟨_, h, a, b⟩)
    have short : ∀ {a : Addr} {xs : List V} {G}, SeqA K G a xs → xs.length ≠ 5 → NH K p G ms (.ref a) := fun h l => .inl ⟨_, _, rfl, h, .inl l⟩
    have five : ∀ {a : Addr} {i f p' q : V} {g : V} {G}, SeqA K G a [i, f, p', g, q] → NS f → NS g → Sc i → Sc p' → Sc q → readB ms i f p' g q = false → NH K p G ms (.ref a) := fun h a b c d e r => .inl ⟨_, _, rfl, h, .inr ⟨_, _, _, _, _, rfl, a, b, c, d, e, r⟩⟩
    have si0 : Sc (.int 0) := .inl ⟨0, rfl⟩
    have dp : d ≠ p := by
      obtain ⟨kvs, hp⟩ := (PG.same' s0).dict
      exact fun e => by rw [e, hp] at nd2; cases nd2
    have all : ∀ v ∈ ([.non, .ref t0, .int 3, .str "hop", .ref d, .bl true, .ref t3, .ref lo, .ref t4, .ref t5, .ref t6] : List V), NH K p _ ms v := fun v hv => by
      simp only [List.mem_cons, List.not_mem_nil, or_false] at hv
      rcases hv with e | e | e | e | e | e | e | e | e | e | e <;> subst e
      · exact base (T := "NoneType") (fun _ => .base .non) (by decide +kernel) (by decide +kernel)
      · exact NH.same (short (xs := []) (.inl (.inl (.inl upd_same))) (by show (0 : Nat) ≠ 5; decide)) (((((((s1.trans s2).trans s3).trans s4').trans s5).trans s6).trans s7).trans s8)
      · exact base (T := "int") (fun _ => .base (.int 3)) (by decide +kernel) (by decide +kernel)
      · exact base (T := "str") (fun _ => .base (.str "hop")) (by decide +kernel) (by decide +kernel)
      · exact .inr (.inr ⟨d, rfl, (((((((s2.trans s3).trans s4').trans s5).trans s6).trans s7).trans s8) _ _ upd_same), dp⟩)
      · exact base (T := "bool") (fun _ => .base (.bl true)) (by decide +kernel) (by decide +kernel)
      · exact NH.same (short (.inl (.inl (.inl upd_same))) (by show (3 : Nat) ≠ 5; decide)) (((((s3.trans s4').trans s5).trans s6).trans s7).trans s8)
      · exact NH.same (short (.inr upd_same) (by show (1 : Nat) ≠ 5; decide)) (((s5.trans s6).trans s7).trans s8)
      · exact NH.same (five (.inl (.inl (.inl upd_same))) (.inl rfl) (.inl rfl) (.inr (.inl ⟨_, rfl⟩)) si0 si0 rfl) ((s6.trans s7).trans s8)
      · exact NH.same (five (.inl (.inl (.inl upd_same))) (.inl rfl) nf0 (.inr (.inr (.inl ⟨_, rfl⟩))) si0 si0 rfl) (s7.trans s8)
      · exact NH.same (five (.inl (.inl (.inl upd_same))) (.inl rfl) nf0 si0 (.inr (.inl ⟨_, rfl⟩)) (.inr (.inl ⟨_, rfl⟩)) rfl) s8
    have S := ((s04.trans s6).trans s7).trans s8
    refine ⟨p, L, _, _, rfl, .inl (.inl upd_same), by show 0 < 11; decide, by show 11 ≤ 1000; decide, PG.same' S, by omega, fun v Gf hv Pf Ff => ?_⟩
    have hvf : HV K Gf ms v .non := (all v hv).hv Ff (PG.same' S)
    have Fz := FG.trans ((frmS (p := p) S).trans Ff)
    refine ⟨_, rfl, _, rfl, z, v, .non, fs, n, ms, rfl, hR4.kp (kp_frm Fz P4), n1, hG, hvf, fun Gl sl => ⟨rfl, ?_⟩⟩
    exact q _
end
end OR

namespace OR
open PySem PySem.Spec PyProof.Rows L2
/-! ### what the top has left -/
/-- an __init__ whose last parameter may be left out: then it is the empty tuple at t0 -/
structure MtD (K : PySem.W.Frag) (C : Addr) (m qual : Str) (st : Stmt) : Prop where
  ex : ∃ f fd t0, FunD K m qual (defArgs st) (defBody st) (defScope st) [.ref t0] [] f fd ∧ PySem.W.findIn K (.ref C) m = some (some (.ref f)) ∧ PySem.W.isFn K (.ref f) = true ∧ ∀ H : Hp, SqT K H t0 []
theorem mtD {K : PySem.W.Frag} {h : Heap} {C : Addr} {m qual : Str} {st : Stmt} {f T t0 : Addr} {oc cT : Value} {od an dT d0 : Option Addr} {osl sT s0 : Array (Option Value)} {kV doc pm cdv ct : Value} {nT n0 : Nat} (_X : K.In h)
    (a : PySem.W.findIn K (.ref C) m = some (some (.ref f))) (l : K.lookup f = some ⟨oc, od, .func (PySem.W.fnOf m qual (defArgs st) (defBody st) (defScope st) (.ref T) kV doc pm an cdv ct), osl⟩)
    (lT : K.lookup T = some ⟨cT, dT, .seq #[.ref t0] nT, sT⟩) (l0 : K.lookup t0 = some ⟨.type "tuple", d0, .seq #[] n0, s0⟩)
    (c : PySem.W.codeIn K cdv qual = true) (k : PySem.W.keepIn K (.ref f) = true) (i : PySem.W.isFn K (.ref f) = true) : MtD K C m qual st :=
  ⟨f, _, t0, ⟨⟨oc, od, .ref T, kV, doc, pm, an, cdv, ct, osl, rfl, l, c, .inr ⟨by simp, T, _, [.ref t0], nT, rfl, lT, rfl, .cons rfl .nil⟩, .inl rfl⟩, k⟩, a, i, fun H => .inr ⟨_, #[], n0, l0, rfl, rfl, Nat.zero_le _, .nil⟩⟩
structure PAt (K : PySem.W.Frag) (C : Addr) : Prop where
  aC : PySem.W.nsIn K mainGlobals "Places" = some (some (.ref C))
  pg : PySem.W.plainGet K C Str.empty = true
  hd : PySem.W.hasDictIn K C = true
  po : PySem.W.plainOver K C = true
  sa : PySem.W.findIn K (.ref C) "__setattr__" = some (some (.builtin "object.__setattr__"))
  mks : PySem.W.makesIn K C = true
  kc : PySem.W.keepIn K (.ref C) = true
  nS : PySem.W.findIn K (.ref C) "stretches" = some none
  nF : PySem.W.findIn K (.ref C) "_firsts" = some none
  nB : PySem.W.findIn K (.ref C) "_before" = some none
  ca : PySem.W.findIn K (.ref C) "__class__" = some (some (.builtin "object.__class__"))
  cn : PySem.W.specialIn K (.builtin "object.__class__") "__get__" = some (some (.builtin "getset_descriptor.__get__"))
  ct : PySem.W.takesIn K (.builtin "object.__class__") = some true
  cm : PySem.W.mroIn K C (.type "object") = some true
  ne : PySem.W.findIn K (.ref C) "__ne__" = some (some (.builtin "object.__ne__"))
  sT : PySem.W.subIn K (.type "tuple") (.ref C) = some false
  sL : PySem.W.subIn K (.type "list") (.ref C) = some false
  kPP : PySem.W.kitOne K (.ref C) (.ref C) = some true
  kT : PySem.W.kitOne K (.type "tuple") (.ref C) = some false
  kL : PySem.W.kitOne K (.type "list") (.ref C) = some false
  sf : PySem.W.selfFirst K C = true
structure ZAt (K : PySem.W.Frag) : Prop where
  isi : PySem.W.nsIn K mainGlobals "isinstance" = some none
  int : PySem.W.nsIn K mainGlobals "int" = some none
  bool : PySem.W.nsIn K mainGlobals "bool" = some none
  tup : PySem.W.nsIn K mainGlobals "tuple" = some none
  list : PySem.W.nsIn K mainGlobals "list" = some none
  len : PySem.W.nsIn K mainGlobals "len" = some none
  max : PySem.W.nsIn K mainGlobals "max" = some none
  min : PySem.W.nsIn K mainGlobals "min" = some none
  sorted : PySem.W.nsIn K mainGlobals "sorted" = some none
  enum : PySem.W.nsIn K mainGlobals "enumerate" = some none
  range : PySem.W.nsIn K mainGlobals "range" = some none
  set : PySem.W.nsIn K mainGlobals "set" = some none
  abs : PySem.W.nsIn K mainGlobals "abs" = some none
theorem lastP_lit : lastP = 1000000000000000000000000000000 := by decide
theorem lp_of {p : Program} {lv : List (Str × PySem.W.WData)} {mg : Str → Option Value} {h : Heap} (X : PySem.W.XL p lv mg h) (hm : (("LAST_PLACE" : Str), PySem.W.WData.int 1000000000000000000000000000000) ∈ lv) : ∃ t, mg "LAST_PLACE" = some (.int lastP t) := by
  obtain ⟨v, hv, hr⟩ := X.2.val _ hm
  cases hr with
  | int i t => exact ⟨t, by rw [lastP_lit]; exact hv⟩
/-- walk_of, told besides what the top's loose names read -/
theorem walk_ofX {l : PySem.W.OpenLaw} {n k : Nat} {q : Program} {loose : List Str} {XP : (Str → Option Value) → Heap → Prop} {YP : World → Heap → Prop} {d : DefRec} {K : Params → PySem.W.Frag} {CX : World → CXT} {sp : World → Sp} {x : Str}
    (hn : l.most = some n) (hn2 : n ≤ sizeLine) (hdf : d.params.defaults = []) (hr : Room k callerA) (hY : ∀ (w : World) (h : Heap), YP w h → (K w.params).In h)
    (F : ∀ (w : World) (mg : Str → Option Value) (fa : Addr) (h : Heap), (K w.params).In h → h.Ns mainGlobals mg → XP mg h → mg d.name = some (.ref fa) →
      ∃ fd : FuncData, (∀ (s : Shared) (u : Value), BindsTo s fd ⟨[u], []⟩ [(x, u)]) ∧ ∀ base : Heap, (K w.params).In base → base.Ns mainGlobals mg → FnOk l.prog w (K w.params) mg base (CX w) k fa fd [x] (sp w))
    (hsp : ∀ (w : World) (H : Hp) (a : Addr) (ns : List Int), ns.length ≤ n → Only H → SqL (K w.params) H a (ns.map V.int) → sp w [.ref a] H (fun v _ => v = .bl true) fun _ _ _ => False)
    (hCX : ∀ (w : World) (H : Hp) (s : Shared) (e : Value) (s' : Shared), CX w [] H s (fun _ _ _ => False) e s' → False) : PySem.W.WalkO q loose XP YP l.row.toRowW d [] (fun f vs => PySem.call f vs) := by
  refine Att.attach_call hn hdf fun w s₀ s₁ mg mb fa o pm cd doc a vs ns G Y ho hd hcd hmg hobj hints hlen hg => ?_
  have KX := hY w _ Y
  obtain ⟨fd, hb, hF⟩ := F w mg fa _ KX G.T.g G.X hmg
  exact law_call KX G.T.g G.T.b G.T.builtins G.T.nolimit hg hobj hints (Nat.le_trans hlen hn2) hr hF hb (fun H hO hS => hsp w H a ns hlen hO hS) fun H e s' => hCX w H s₁ e s'
theorem PAt.txt {K : PySem.W.Frag} {C : Addr} {h : Heap} {mg : Str → Option Value} (L : PAt K C) (X : K.In h) (G : h.Ns mainGlobals mg) (Z : ZAt K) (lp : ∃ t, mg "LAST_PLACE" = some (.int lastP t)) : PTxt K mg C :=
  ⟨⟨L.pg, L.hd, L.po, L.sa⟩, L.nS, L.nF, L.nB, PySem.W.mg_of X G L.aC, ⟨L.ca, L.cn, L.ct, L.cm⟩, L.kPP, PySem.W.mg_none_of X G Z.isi, PySem.W.mg_none_of X G Z.int, PySem.W.mg_none_of X G Z.bool, PySem.W.mg_none_of X G Z.tup, PySem.W.mg_none_of X G Z.list,
    PySem.W.mg_none_of X G Z.len, PySem.W.mg_none_of X G Z.max, PySem.W.mg_none_of X G Z.sorted, PySem.W.mg_none_of X G Z.enum, lp⟩
theorem pmk_of {P : Program} {w : World} {K : PySem.W.Frag} {mg : Str → Option Value} {base : Heap} {C : Addr} (T : PTxt K mg C) (L : PAt K C) (mI : MtD K C "__init__" "Places.__init__" sPlInit)
    (S : Cl P w K mg base 3 "_is_stretch" ["value"] spIsStretchP) (J : Cl P w K mg base 1 "_joined" ["stretches"] (spJoined K)) (B : Cl P w K mg base 1 "_counts_before" ["stretches"] (spCounts K)) : PMk' P w K mg base C := by
  obtain ⟨f, fd, t0, F, a, i, ht⟩ := mI.ex
  obtain ⟨ds, r1, b1⟩ := F.binds1 (ps := ["self", "stretches"]) 2 1 (by simp) rfl fun T kV doc pm an cdv ct us its hu hi => match us, its, hu, hi with | [u, v], [x], _, _ => ⟨_, rfl, rfl⟩
  obtain ⟨es, r2, b2⟩ := F.binds1 (ps := ["self", "stretches"]) 1 0 (by simp) rfl fun T kV doc pm an cdv ct us its hu hi => match us, its, hu, hi with | [u], [x], _, _ => ⟨_, rfl, rfl⟩
  cases r1
  obtain ⟨u, rfl, ru⟩ := r2.one
  cases (show u = Value.ref t0 from ru)
  exact ⟨T, f, fd, t0, ⟨L.mks, a, i, L.kc⟩, ok_plinit F T S J B, b1, b2, ht⟩
end OR

namespace OR
open PySem PySem.Spec PyProof.Rows L2
/-- a class of clauses behind the top -/
structure CAt (K : PySem.W.Frag) (C : Addr) (nm : Str) (ns : List Str) : Prop where
  aC : PySem.W.nsIn K mainGlobals nm = some (some (.ref C))
  pg : PySem.W.plainGet K C Str.empty = true
  hd : PySem.W.hasDictIn K C = true
  po : PySem.W.plainOver K C = true
  sa : PySem.W.findIn K (.ref C) "__setattr__" = some (some (.builtin "object.__setattr__"))
  mks : PySem.W.makesIn K C = true
  kc : PySem.W.keepIn K (.ref C) = true
  no : ∀ n ∈ ns, PySem.W.findIn K (.ref C) n = some none
  sf : PySem.W.selfFirst K C = true
  ca : PySem.W.findIn K (.ref C) "__class__" = some (some (.builtin "object.__class__"))
  cn : PySem.W.specialIn K (.builtin "object.__class__") "__get__" = some (some (.builtin "getset_descriptor.__get__"))
  ct : PySem.W.takesIn K (.builtin "object.__class__") = some true
  cm : PySem.W.mroIn K C (.type "object") = some true
  ne : PySem.W.findIn K (.ref C) "__ne__" = some (some (.builtin "object.__ne__"))
  kS : PySem.W.kitOne K (.type "str") (.ref C) = some false
  kT : PySem.W.kitOne K (.type "tuple") (.ref C) = some false
  nS : PySem.W.subIn K (.type "str") (.ref C) = some false
  nT : PySem.W.subIn K (.type "tuple") (.ref C) = some false
theorem fa0 {α : Type} {p : α → Prop} : ∀ x ∈ ([] : List α), p x := fun x h => by cases h
theorem fa1 {α : Type} {p : α → Prop} {a : α} {l : List α} (h : p a) (t : ∀ x ∈ l, p x) : ∀ x ∈ a :: l, p x := fun x hx => by
  rcases List.mem_cons.mp hx with e | e
  · subst e; exact h
  · exact t x e
def cf (c0 c1 c2 c3 c4 c5 c6 : Addr) : Nat → Addr
  | 0 => c0
  | 1 => c1
  | 2 => c2
  | 3 => c3
  | 4 => c4
  | 5 => c5
  | _ => c6
theorem all7 {p : Nat → Prop} (h0 : p 0) (h1 : p 1) (h2 : p 2) (h3 : p 3) (h4 : p 4) (h5 : p 5) (h6 : p 6) : ∀ i, i < 7 → p i := fun i h => by
  rcases kinds7' h with e | e | e | e | e | e | e <;> subst e <;> assumption
/-- which class is which -/
structure K7 (K : PySem.W.Frag) (c0 c1 c2 c3 c4 c5 c6 : Addr) : Prop where
  q00 : PySem.W.kitOne K (.ref c0) (.ref c0) = some true
  q01 : PySem.W.kitOne K (.ref c0) (.ref c1) = some false
  q02 : PySem.W.kitOne K (.ref c0) (.ref c2) = some false
  q03 : PySem.W.kitOne K (.ref c0) (.ref c3) = some false
  q04 : PySem.W.kitOne K (.ref c0) (.ref c4) = some false
  q05 : PySem.W.kitOne K (.ref c0) (.ref c5) = some false
  q06 : PySem.W.kitOne K (.ref c0) (.ref c6) = some false
  q10 : PySem.W.kitOne K (.ref c1) (.ref c0) = some false
  q11 : PySem.W.kitOne K (.ref c1) (.ref c1) = some true
  q12 : PySem.W.kitOne K (.ref c1) (.ref c2) = some false
  q13 : PySem.W.kitOne K (.ref c1) (.ref c3) = some false
  q14 : PySem.W.kitOne K (.ref c1) (.ref c4) = some false
  q15 : PySem.W.kitOne K (.ref c1) (.ref c5) = some false
  q16 : PySem.W.kitOne K (.ref c1) (.ref c6) = some false
  q20 : PySem.W.kitOne K (.ref c2) (.ref c0) = some false
  q21 : PySem.W.kitOne K (.ref c2) (.ref c1) = some false
  q22 : PySem.W.kitOne K (.ref c2) (.ref c2) = some true
  q23 : PySem.W.kitOne K (.ref c2) (.ref c3) = some false
  q24 : PySem.W.kitOne K (.ref c2) (.ref c4) = some false
  q25 : PySem.W.kitOne K (.ref c2) (.ref c5) = some false
  q26 : PySem.W.kitOne K (.ref c2) (.ref c6) = some false
  q30 : PySem.W.kitOne K (.ref c3) (.ref c0) = some false
  q31 : PySem.W.kitOne K (.ref c3) (.ref c1) = some false
  q32 : PySem.W.kitOne K (.ref c3) (.ref c2) = some false
  q33 : PySem.W.kitOne K (.ref c3) (.ref c3) = some true
  q34 : PySem.W.kitOne K (.ref c3) (.ref c4) = some false
  q35 : PySem.W.kitOne K (.ref c3) (.ref c5) = some false
  q36 : PySem.W.kitOne K (.ref c3) (.ref c6) = some false
  q40 : PySem.W.kitOne K (.ref c4) (.ref c0) = some false
  q41 : PySem.W.kitOne K (.ref c4) (.ref c1) = some false
  q42 : PySem.W.kitOne K (.ref c4) (.ref c2) = some false
  q43 : PySem.W.kitOne K (.ref c4) (.ref c3) = some false
  q44 : PySem.W.kitOne K (.ref c4) (.ref c4) = some true
  q45 : PySem.W.kitOne K (.ref c4) (.ref c5) = some false
  q46 : PySem.W.kitOne K (.ref c4) (.ref c6) = some false
  q50 : PySem.W.kitOne K (.ref c5) (.ref c0) = some false
  q51 : PySem.W.kitOne K (.ref c5) (.ref c1) = some false
  q52 : PySem.W.kitOne K (.ref c5) (.ref c2) = some false
  q53 : PySem.W.kitOne K (.ref c5) (.ref c3) = some false
  q54 : PySem.W.kitOne K (.ref c5) (.ref c4) = some false
  q55 : PySem.W.kitOne K (.ref c5) (.ref c5) = some true
  q56 : PySem.W.kitOne K (.ref c5) (.ref c6) = some false
  q60 : PySem.W.kitOne K (.ref c6) (.ref c0) = some false
  q61 : PySem.W.kitOne K (.ref c6) (.ref c1) = some false
  q62 : PySem.W.kitOne K (.ref c6) (.ref c2) = some false
  q63 : PySem.W.kitOne K (.ref c6) (.ref c3) = some false
  q64 : PySem.W.kitOne K (.ref c6) (.ref c4) = some false
  q65 : PySem.W.kitOne K (.ref c6) (.ref c5) = some false
  q66 : PySem.W.kitOne K (.ref c6) (.ref c6) = some true
  s01 : PySem.W.subIn K (.ref c0) (.ref c1) = some false
  s02 : PySem.W.subIn K (.ref c0) (.ref c2) = some false
  s03 : PySem.W.subIn K (.ref c0) (.ref c3) = some false
  s04 : PySem.W.subIn K (.ref c0) (.ref c4) = some false
  s05 : PySem.W.subIn K (.ref c0) (.ref c5) = some false
  s06 : PySem.W.subIn K (.ref c0) (.ref c6) = some false
  s10 : PySem.W.subIn K (.ref c1) (.ref c0) = some false
  s12 : PySem.W.subIn K (.ref c1) (.ref c2) = some false
  s13 : PySem.W.subIn K (.ref c1) (.ref c3) = some false
  s14 : PySem.W.subIn K (.ref c1) (.ref c4) = some false
  s15 : PySem.W.subIn K (.ref c1) (.ref c5) = some false
  s16 : PySem.W.subIn K (.ref c1) (.ref c6) = some false
  s20 : PySem.W.subIn K (.ref c2) (.ref c0) = some false
  s21 : PySem.W.subIn K (.ref c2) (.ref c1) = some false
  s23 : PySem.W.subIn K (.ref c2) (.ref c3) = some false
  s24 : PySem.W.subIn K (.ref c2) (.ref c4) = some false
  s25 : PySem.W.subIn K (.ref c2) (.ref c5) = some false
  s26 : PySem.W.subIn K (.ref c2) (.ref c6) = some false
  s30 : PySem.W.subIn K (.ref c3) (.ref c0) = some false
  s31 : PySem.W.subIn K (.ref c3) (.ref c1) = some false
  s32 : PySem.W.subIn K (.ref c3) (.ref c2) = some false
  s34 : PySem.W.subIn K (.ref c3) (.ref c4) = some false
  s35 : PySem.W.subIn K (.ref c3) (.ref c5) = some false
  s36 : PySem.W.subIn K (.ref c3) (.ref c6) = some false
  s40 : PySem.W.subIn K (.ref c4) (.ref c0) = some false
  s41 : PySem.W.subIn K (.ref c4) (.ref c1) = some false
  s42 : PySem.W.subIn K (.ref c4) (.ref c2) = some false
  s43 : PySem.W.subIn K (.ref c4) (.ref c3) = some false
  s45 : PySem.W.subIn K (.ref c4) (.ref c5) = some false
  s46 : PySem.W.subIn K (.ref c4) (.ref c6) = some false
  s50 : PySem.W.subIn K (.ref c5) (.ref c0) = some false
  s51 : PySem.W.subIn K (.ref c5) (.ref c1) = some false
  s52 : PySem.W.subIn K (.ref c5) (.ref c2) = some false
  s53 : PySem.W.subIn K (.ref c5) (.ref c3) = some false
  s54 : PySem.W.subIn K (.ref c5) (.ref c4) = some false
  s56 : PySem.W.subIn K (.ref c5) (.ref c6) = some false
  s60 : PySem.W.subIn K (.ref c6) (.ref c0) = some false
  s61 : PySem.W.subIn K (.ref c6) (.ref c1) = some false
  s62 : PySem.W.subIn K (.ref c6) (.ref c2) = some false
  s63 : PySem.W.subIn K (.ref c6) (.ref c3) = some false
  s64 : PySem.W.subIn K (.ref c6) (.ref c4) = some false
  s65 : PySem.W.subIn K (.ref c6) (.ref c5) = some false

theorem K7.kk {K : PySem.W.Frag} {c0 c1 c2 c3 c4 c5 c6 : Addr} (k : K7 K c0 c1 c2 c3 c4 c5 c6) : ∀ i, i < 7 → ∀ j, j < 7 → PySem.W.kitOne K (.ref (cf c0 c1 c2 c3 c4 c5 c6 i)) (.ref (cf c0 c1 c2 c3 c4 c5 c6 j)) = some (decide (i = j)) :=
  all7 (all7 k.q00 k.q01 k.q02 k.q03 k.q04 k.q05 k.q06) (all7 k.q10 k.q11 k.q12 k.q13 k.q14 k.q15 k.q16) (all7 k.q20 k.q21 k.q22 k.q23 k.q24 k.q25 k.q26) (all7 k.q30 k.q31 k.q32 k.q33 k.q34 k.q35 k.q36) (all7 k.q40 k.q41 k.q42 k.q43 k.q44 k.q45 k.q46) (all7 k.q50 k.q51 k.q52 k.q53 k.q54 k.q55 k.q56) (all7 k.q60 k.q61 k.q62 k.q63 k.q64 k.q65 k.q66)
theorem nf_of {K : PySem.W.Frag} {C : Addr} {v : Value} (h : PySem.W.subIn K v (.ref C) = some false) : PySem.W.notFirst K C v = true := by simp [PySem.W.notFirst, h]
theorem K7.cc {K : PySem.W.Frag} {c0 c1 c2 c3 c4 c5 c6 : Addr} (k : K7 K c0 c1 c2 c3 c4 c5 c6) : ∀ i, i < 7 → ∀ j, j < 7 → PySem.W.notFirst K (cf c0 c1 c2 c3 c4 c5 c6 i) (.ref (cf c0 c1 c2 c3 c4 c5 c6 j)) = true :=
  all7 (all7 nf_self (nf_of k.s10) (nf_of k.s20) (nf_of k.s30) (nf_of k.s40) (nf_of k.s50) (nf_of k.s60)) (all7 (nf_of k.s01) nf_self (nf_of k.s21) (nf_of k.s31) (nf_of k.s41) (nf_of k.s51) (nf_of k.s61)) (all7 (nf_of k.s02) (nf_of k.s12) nf_self (nf_of k.s32) (nf_of k.s42) (nf_of k.s52) (nf_of k.s62)) (all7 (nf_of k.s03) (nf_of k.s13) (nf_of k.s23) nf_self (nf_of k.s43) (nf_of k.s53) (nf_of k.s63)) (all7 (nf_of k.s04) (nf_of k.s14) (nf_of k.s24) (nf_of k.s34) nf_self (nf_of k.s54) (nf_of k.s64)) (all7 (nf_of k.s05) (nf_of k.s15) (nf_of k.s25) (nf_of k.s35) (nf_of k.s45) nf_self (nf_of k.s65)) (all7 (nf_of k.s06) (nf_of k.s16) (nf_of k.s26) (nf_of k.s36) (nf_of k.s46) (nf_of k.s56) nf_self)
/-- the class Rules behind the top -/
structure RAt (K : PySem.W.Frag) (C : Addr) : Prop where
  aC : PySem.W.nsIn K mainGlobals "Rules" = some (some (.ref C))
  pg : PySem.W.plainGet K C Str.empty = true
  hd : PySem.W.hasDictIn K C = true
  po : PySem.W.plainOver K C = true
  sa : PySem.W.findIn K (.ref C) "__setattr__" = some (some (.builtin "object.__setattr__"))
  mks : PySem.W.makesIn K C = true
  kc : PySem.W.keepIn K (.ref C) = true
  nF : PySem.W.findIn K (.ref C) "functions" = some none
  nL : PySem.W.findIn K (.ref C) "last" = some none
  nT : PySem.W.findIn K (.ref C) "told" = some none
  ca : PySem.W.findIn K (.ref C) "__class__" = some (some (.builtin "object.__class__"))
  cn : PySem.W.specialIn K (.builtin "object.__class__") "__get__" = some (some (.builtin "getset_descriptor.__get__"))
  ct : PySem.W.takesIn K (.builtin "object.__class__") = some true
  cm : PySem.W.mroIn K C (.type "object") = some true
  ne : PySem.W.findIn K (.ref C) "__ne__" = some (some (.builtin "object.__ne__"))
  kRR : PySem.W.kitOne K (.ref C) (.ref C) = some true
  kTup : PySem.W.kitOne K (.type "tuple") (.ref C) = some false
  kInt : PySem.W.kitOne K (.type "int") (.ref C) = some false
  nTup : PySem.W.subIn K (.type "tuple") (.ref C) = some false
  nInt : PySem.W.subIn K (.type "int") (.ref C) = some false
theorem RAt.txt {K : PySem.W.Frag} {C : Addr} {h : Heap} {mg : Str → Option Value} (L : RAt K C) (X : K.In h) (G : h.Ns mainGlobals mg) (few : ∃ t, PySem.W.nsIn K mainGlobals "MOST_FUNCTIONS" = some (some (.int 3 t))) (most : ∃ t, PySem.W.nsIn K mainGlobals "_MOST_CLAUSES" = some (some (.int 60 t))) : RTxt K mg C :=
  ⟨⟨L.pg, L.hd, L.po, L.sa⟩, L.nF, L.nL, L.nT, PySem.W.mg_of X G L.aC, ⟨L.ca, L.cn, L.ct, L.cm⟩, L.kRR, few.imp fun t e => PySem.W.mg_of X G e, most.imp fun t e => PySem.W.mg_of X G e⟩
/-- a tuple of texts at the top -/
structure TpAt (K : PySem.W.Frag) (nm : Str) (xs : List Str) : Prop where
  ex : ∃ ts, PySem.W.nsIn K mainGlobals nm = some (some (.ref ts)) ∧ ∀ H : Hp, SqT K H ts (xs.map V.str)
theorem tp3 {K : PySem.W.Frag} {h : Heap} {nm x y z : Str} {f : Addr} {tx ty tz : Nat} {d : Option Addr} {n : Nat} {s : Array (Option Value)} (_X : K.In h) (a : PySem.W.nsIn K mainGlobals nm = some (some (.ref f))) (l : K.lookup f = some ⟨.type "tuple", d, .seq #[.str x tx, .str y ty, .str z tz] n, s⟩) : TpAt K nm [x, y, z] :=
  ⟨f, a, fun H => .inr ⟨_, _, n, l, rfl, rfl, (by show 3 ≤ sizeLine; decide), .cons ⟨_, rfl⟩ (.cons ⟨_, rfl⟩ (.cons ⟨_, rfl⟩ .nil))⟩⟩
theorem tp2 {K : PySem.W.Frag} {h : Heap} {nm x y : Str} {f : Addr} {tx ty : Nat} {d : Option Addr} {n : Nat} {s : Array (Option Value)} (_X : K.In h) (a : PySem.W.nsIn K mainGlobals nm = some (some (.ref f))) (l : K.lookup f = some ⟨.type "tuple", d, .seq #[.str x tx, .str y ty] n, s⟩) : TpAt K nm [x, y] :=
  ⟨f, a, fun H => .inr ⟨_, _, n, l, rfl, rfl, (by show 2 ≤ sizeLine; decide), .cons ⟨_, rfl⟩ (.cons ⟨_, rfl⟩ .nil)⟩⟩
/-- the class Line behind the top -/
structure LAt (K : PySem.W.Frag) (C : Addr) : Prop where
  aC : PySem.W.nsIn K mainGlobals "Line" = some (some (.ref C))
  pg : PySem.W.plainGet K C Str.empty = true
  hd : PySem.W.hasDictIn K C = true
  po : PySem.W.plainOver K C = true
  sa : PySem.W.findIn K (.ref C) "__setattr__" = some (some (.builtin "object.__setattr__"))
  mks : PySem.W.makesIn K C = true
  kc : PySem.W.keepIn K (.ref C) = true
  nS : PySem.W.findIn K (.ref C) "slope" = some none
  nH : PySem.W.findIn K (.ref C) "height" = some none
  sf : PySem.W.selfFirst K C = true
  ca : PySem.W.findIn K (.ref C) "__class__" = some (some (.builtin "object.__class__"))
  cn : PySem.W.specialIn K (.builtin "object.__class__") "__get__" = some (some (.builtin "getset_descriptor.__get__"))
  ct : PySem.W.takesIn K (.builtin "object.__class__") = some true
  cm : PySem.W.mroIn K C (.type "object") = some true
  ne : PySem.W.findIn K (.ref C) "__ne__" = some (some (.builtin "object.__ne__"))
  nt : PySem.W.subIn K (.type "tuple") (.ref C) = some false
  kLL : PySem.W.kitOne K (.ref C) (.ref C) = some true
  kIL : PySem.W.kitOne K (.type "int") (.ref C) = some false
  kTL : PySem.W.kitOne K (.type "tuple") (.ref C) = some false
theorem LAt.txt {K : PySem.W.Frag} {C : Addr} {h : Heap} {mg : Str → Option Value} (L : LAt K C) (X : K.In h) (G : h.Ns mainGlobals mg) (Z : ZAt K) : LTxt K mg C :=
  ⟨⟨L.pg, L.hd, L.po, L.sa⟩, L.nS, L.nH, PySem.W.mg_of X G L.aC, L.sf, ⟨L.ca, L.cn, L.ct, L.cm⟩, L.kLL, L.kIL, L.kTL, PySem.W.mg_none_of X G Z.isi, PySem.W.mg_none_of X G Z.int, PySem.W.mg_none_of X G Z.bool⟩
/-- the facts for an int beside a line -/
theorem binI_of {K : PySem.W.Frag} {C g : Addr} {op : Operator} {h : Heap} {fo ro : Option Value} (_X : K.In h) (a : PySem.W.findIn K (.ref C) (PySem.dunderR op.info.2) = some (some (.ref g))) (b : PySem.W.findIn K (.type "int") (PySem.dunder op.info.2) = some fo)
    (c : PySem.W.findIn K (.type "int") (PySem.dunderR op.info.2) = some ro) (d : PySem.W.subIn K (.type "int") (.ref C) = some false) : BinI K C op := ⟨⟨_, a, .inr ⟨g, rfl⟩⟩, ⟨_, b⟩, ⟨_, c⟩, d⟩
theorem lmk_of {P : Program} {w : World} {K : PySem.W.Frag} {mg : Str → Option Value} {base : Heap} {C : Addr} (T : LTxt K mg C) (L : LAt K C) (mI : MtAt K C "__init__" "__init__" "Line.__init__" sLInit) : LMk P w K mg base C := ⟨T, by
    obtain ⟨f, fd, F, a, b, c⟩ := mI.ex
    exact ⟨f, fd, ⟨L.mks, a, b, L.kc⟩, ok_linit F T, F.binds fun _ _ _ _ _ _ us hl => match us, hl with | [_, _, _], _ => rfl⟩⟩
/-- a class with fields behind the top -/
structure XAt (K : PySem.W.Frag) (C : Addr) (nm : Str) (ns : List Str) : Prop where
  aC : PySem.W.nsIn K mainGlobals nm = some (some (.ref C))
  pg : PySem.W.plainGet K C Str.empty = true
  hd : PySem.W.hasDictIn K C = true
  po : PySem.W.plainOver K C = true
  sa : PySem.W.findIn K (.ref C) "__setattr__" = some (some (.builtin "object.__setattr__"))
  mks : PySem.W.makesIn K C = true
  kc : PySem.W.keepIn K (.ref C) = true
  no : ∀ n ∈ ns, PySem.W.findIn K (.ref C) n = some none
end OR

namespace OR
open PySem PySem.Spec PyProof.Rows L2
/-- what the proof reads of the heap behind the top -/
def K32 : Params → PySem.W.Frag := fun P =>
  (nat_lit 2, (⟨.none, none, .dict #[] 0, #[]⟩ : Obj)) ::
  (nat_lit 3, (⟨(.type "dict"), none, .dict #[⟨PyData.keyHash P "__name__", (.str "__name__" 165), (.str "law_openranges_k32_hop_costs" 1971)⟩, ⟨PyData.keyHash P "__doc__", (.str "__doc__" 166), .none⟩, ⟨PyData.keyHash P "__package__", (.str "__package__" 167), .none⟩, ⟨PyData.keyHash P "__loader__", (.str "__loader__" 168), (.builtin "__main__.__loader__#opaque")⟩, ⟨PyData.keyHash P "__spec__", (.str "__spec__" 169), .none⟩, ⟨PyData.keyHash P "__annotations__", (.str "__annotations__" 170), (.ref 6)⟩, ⟨PyData.keyHash P "__builtins__", (.str "__builtins__" 171), (.ref 4)⟩, ⟨PyData.keyHash P "__file__", (.str "__file__" 173), (.str "/claim/cut.py" 172)⟩, ⟨PyData.keyHash P "__cached__", (.str "__cached__" 174), .none⟩, ⟨PyData.keyHash P "_wall", (.str "_wall" 193), (.ref 21)⟩, ⟨PyData.keyHash P "RangesError", (.str "RangesError" 213), (.ref 31)⟩, ⟨PyData.keyHash P "BadStretch", (.str "BadStretch" 238), (.ref 51)⟩, ⟨PyData.keyHash P "BadText", (.str "BadText" 263), (.ref 70)⟩, ⟨PyData.keyHash P "BadWord", (.str "BadWord" 288), (.ref 89)⟩, ⟨PyData.keyHash P "SameFunction", (.str "SameFunction" 313), (.ref 108)⟩, ⟨PyData.keyHash P "BadSign", (.str "BadSign" 338), (.ref 127)⟩, ⟨PyData.keyHash P "BadFunctions", (.str "BadFunctions" 363), (.ref 146)⟩, ⟨PyData.keyHash P "Twice", (.str "Twice" 388), (.ref 165)⟩, ⟨PyData.keyHash P "TooMany", (.str "TooMany" 413), (.ref 184)⟩, ⟨PyData.keyHash P "NoFunction", (.str "NoFunction" 438), (.ref 203)⟩, ⟨PyData.keyHash P "NoPlace", (.str "NoPlace" 463), (.ref 222)⟩, ⟨PyData.keyHash P "NoClause", (.str "NoClause" 488), (.ref 241)⟩, ⟨PyData.keyHash P "LAST_PLACE", (.str "LAST_PLACE" 494), (.int 1000000000000000000000000000000 493)⟩, ⟨PyData.keyHash P "_BLOCK_DIGITS", (.str "_BLOCK_DIGITS" 496), (.int 60 495)⟩, ⟨PyData.keyHash P "_BLOCK", (.str "_BLOCK" 500), (.int 1000000000000000000000000000000000000000000000000000000000000 499)⟩, ⟨PyData.keyHash P "is_integer", (.str "is_integer" 507), (.ref 250)⟩, ⟨PyData.keyHash P "is_place", (.str "is_place" 514), (.ref 257)⟩, ⟨PyData.keyHash P "decimal", (.str "decimal" 525), (.ref 264)⟩, ⟨PyData.keyHash P "read_decimal", (.str "read_decimal" 536), (.ref 271)⟩, ⟨PyData.keyHash P "read_place", (.str "read_place" 544), (.ref 278)⟩, ⟨PyData.keyHash P "overlaps", (.str "overlaps" 559), (.ref 285)⟩, ⟨PyData.keyHash P "Places", (.str "Places" 755), (.ref 436)⟩, ⟨PyData.keyHash P "read_stretches", (.str "read_stretches" 768), (.ref 447)⟩, ⟨PyData.keyHash P "_is_stretch", (.str "_is_stretch" 777), (.ref 454)⟩, ⟨PyData.keyHash P "_joined", (.str "_joined" 783), (.ref 459)⟩, ⟨PyData.keyHash P "_counts_before", (.str "_counts_before" 794), (.ref 466)⟩, ⟨PyData.keyHash P "_how_many_upto", (.str "_how_many_upto" 805), (.ref 473)⟩, ⟨PyData.keyHash P "_common", (.str "_common" 811), (.ref 478)⟩, ⟨PyData.keyHash P "_gaps", (.str "_gaps" 822), (.ref 485)⟩, ⟨PyData.keyHash P "_stretch_text", (.str "_stretch_text" 830), (.ref 492)⟩, ⟨PyData.keyHash P "_read_stretch", (.str "_read_stretch" 842), (.ref 499)⟩, ⟨PyData.keyHash P "Line", (.str "Line" 972), (.ref 600)⟩, ⟨PyData.keyHash P "_rising_text", (.str "_rising_text" 979), (.ref 611)⟩, ⟨PyData.keyHash P "value_at", (.str "value_at" 987), (.ref 618)⟩, ⟨PyData.keyHash P "place_line", (.str "place_line" 996), (.ref 625)⟩, ⟨PyData.keyHash P "spot_line", (.str "spot_line" 1003), (.ref 632)⟩, ⟨PyData.keyHash P "is_string", (.str "is_string" 1011), (.ref 639)⟩, ⟨PyData.keyHash P "is_sequence", (.str "is_sequence" 1019), (.ref 646)⟩, ⟨PyData.keyHash P "Stretch", (.str "Stretch" 1099), (.ref 698)⟩, ⟨PyData.keyHash P "Hop", (.str "Hop" 1138), (.ref 719)⟩, ⟨PyData.keyHash P "hop_line", (.str "hop_line" 1153), (.ref 730)⟩, ⟨PyData.keyHash P "read_hop", (.str "read_hop" 1159), (.ref 735)⟩, ⟨PyData.keyHash P "_step_calls", (.str "_step_calls" 1169), (.ref 742)⟩, ⟨PyData.keyHash P "_upright_calls", (.str "_upright_calls" 1175), (.ref 747)⟩, ⟨PyData.keyHash P "_names", (.str "_names" 1183), (.ref 754)⟩, ⟨PyData.keyHash P "hop_cost", (.str "hop_cost" 1193), (.ref 761)⟩, ⟨PyData.keyHash P "_LETTERS", (.str "_LETTERS" 1197), (.str "abcdefghijklmnopqrstuvwxyz" 1196)⟩, ⟨PyData.keyHash P "_MOST_LETTERS", (.str "_MOST_LETTERS" 1199), (.int 8 1198)⟩, ⟨PyData.keyHash P "is_word", (.str "is_word" 1205), (.ref 766)⟩, ⟨PyData.keyHash P "check_word", (.str "check_word" 1212), (.ref 773)⟩, ⟨PyData.keyHash P "check_two_words", (.str "check_two_words" 1220), (.ref 780)⟩, ⟨PyData.keyHash P "check_sign", (.str "check_sign" 1228), (.ref 787)⟩, ⟨PyData.keyHash P "SIGNS", (.str "SIGNS" 1234), (.ref 788)⟩, ⟨PyData.keyHash P "WAYS", (.str "WAYS" 1237), (.ref 789)⟩, ⟨PyData.keyHash P "Answers", (.str "Answers" 1323), (.ref 855)⟩, ⟨PyData.keyHash P "Refuses", (.str "Refuses" 1409), (.ref 925)⟩, ⟨PyData.keyHash P "Needs", (.str "Needs" 1497), (.ref 995)⟩, ⟨PyData.keyHash P "Spreads", (.str "Spreads" 1585), (.ref 1065)⟩, ⟨PyData.keyHash P "Bound", (.str "Bound" 1685), (.ref 1142)⟩, ⟨PyData.keyHash P "Pair", (.str "Pair" 1788), (.ref 1219)⟩, ⟨PyData.keyHash P "Step", (.str "Step" 1878), (.ref 1289)⟩, ⟨PyData.keyHash P "is_clause", (.str "is_clause" 1885), (.ref 1300)⟩, ⟨PyData.keyHash P "_beginning", (.str "_beginning" 1892), (.ref 1307)⟩, ⟨PyData.keyHash P "_added_text", (.str "_added_text" 1900), (.ref 1314)⟩, ⟨PyData.keyHash P "MOST_FUNCTIONS", (.str "MOST_FUNCTIONS" 1904), (.int 3 1903)⟩, ⟨PyData.keyHash P "_MOST_CLAUSES", (.str "_MOST_CLAUSES" 1906), (.int 60 1905)⟩, ⟨PyData.keyHash P "Rules", (.str "Rules" 1950), (.ref 1338)⟩, ⟨PyData.keyHash P "check_fits", (.str "check_fits" 1961), (.ref 1349)⟩, ⟨PyData.keyHash P "_check_functions", (.str "_check_functions" 1970), (.ref 1356)⟩, ⟨PyData.keyHash P "_law_pen_of", (.str "_law_pen_of" 1979), (.ref 1363)⟩, ⟨PyData.keyHash P "_law_draw", (.str "_law_draw" 1992), (.ref 1370)⟩, ⟨PyData.keyHash P "_law_pick", (.str "_law_pick" 2000), (.ref 1377)⟩, ⟨PyData.keyHash P "_law_words_of", (.str "_law_words_of" 2006), (.ref 1382)⟩, ⟨PyData.keyHash P "_law_normal", (.str "_law_normal" 2012), (.ref 1387)⟩, ⟨PyData.keyHash P "_law_near", (.str "_law_near" 2021), (.ref 1394)⟩, ⟨PyData.keyHash P "_law_stretches", (.str "_law_stretches" 2034), (.ref 1401)⟩, ⟨PyData.keyHash P "_law_worth", (.str "_law_worth" 2040), (.ref 1406)⟩, ⟨PyData.keyHash P "_law_slope_of", (.str "_law_slope_of" 2049), (.ref 1413)⟩, ⟨PyData.keyHash P "_law_number_clause", (.str "_law_number_clause" 2055), (.ref 1418)⟩, ⟨PyData.keyHash P "_law_clause_of", (.str "_law_clause_of" 2061), (.ref 1423)⟩, ⟨PyData.keyHash P "_law_world_of", (.str "_law_world_of" 2078), (.ref 1430)⟩, ⟨PyData.keyHash P "_law_made_of", (.str "_law_made_of" 2088), (.ref 1437)⟩, ⟨PyData.keyHash P "_law_rules_of", (.str "_law_rules_of" 2094), (.ref 1442)⟩, ⟨PyData.keyHash P "_law_in", (.str "_law_in" 2100), (.ref 1447)⟩, ⟨PyData.keyHash P "_law_is_place", (.str "_law_is_place" 2108), (.ref 1454)⟩, ⟨PyData.keyHash P "_law_is_index", (.str "_law_is_index" 2116), (.ref 1461)⟩, ⟨PyData.keyHash P "_law_step_cost", (.str "_law_step_cost" 2129), (.ref 1468)⟩, ⟨PyData.keyHash P "_law_hop_cost", (.str "_law_hop_cost" 2145), (.ref 1475)⟩, ⟨PyData.keyHash P "_law_hop_of", (.str "_law_hop_of" 2160), (.ref 1482)⟩, ⟨PyData.keyHash P "_law_bent", (.str "_law_bent" 2176), (.ref 1489)⟩, ⟨PyData.keyHash P "law", (.str "law" 2191), (.ref 1496)⟩] 101, #[]⟩ : Obj)) ::
  (nat_lit 249, (⟨(.type "code"), none, .fields #[.str "is_integer" 501, .str "is_integer" 502, .str "/claim/cut.py" 503, .int 55 0, .int 1 0, .int 0 0, .int 0 0, .int 3 0, .ref 244, .bool true, .int 181 0, .ref 245, .none, .ref 246, .ref 247, .ref 248, .int 505 0, .int 55 0, .str "/claim/cut.py" 506], #[]⟩ : Obj)) ::
  (nat_lit 250, (⟨(.type "function"), none, .func (PySem.W.fnOf "is_integer" "is_integer" (defArgs sIsInt) (defBody sIsInt) (defScope sIsInt) .none .none .none (.str "openranges.integers" 489) none (.ref 249) .none), #[]⟩ : Obj)) ::
  (nat_lit 256, (⟨(.type "code"), none, .fields #[.str "is_place" 508, .str "is_place" 509, .str "/claim/cut.py" 510, .int 57 0, .int 1 0, .int 0 0, .int 0 0, .int 3 0, .ref 251, .bool true, .int 181 0, .ref 252, .none, .ref 253, .ref 254, .ref 255, .int 512 0, .int 57 0, .str "/claim/cut.py" 513], #[]⟩ : Obj)) ::
  (nat_lit 257, (⟨(.type "function"), none, .func (PySem.W.fnOf "is_place" "is_place" (defArgs sIsPlace) (defBody sIsPlace) (defScope sIsPlace) .none .none .none (.str "openranges.integers" 489) none (.ref 256) .none), #[]⟩ : Obj)) ::
  (nat_lit 293, (⟨(.type "tuple"), none, .seq #[] 0, #[]⟩ : Obj)) ::
  (nat_lit 294, (⟨(.type "tuple"), none, .seq #[.ref 293] 0, #[]⟩ : Obj)) ::
  (nat_lit 298, (⟨(.type "code"), none, .fields #[.str "__init__" 574, .str "Places.__init__" 575, .str "/claim/cut.py" 576, .int 98 0, .int 2 0, .int 0 0, .int 0 0, .int 3 0, .ref 295, .bool true, .int 181 0, .ref 296, .none, .none, .none, .ref 297, .int 577 0, .int 98 0, .str "/claim/cut.py" 578], #[]⟩ : Obj)) ::
  (nat_lit 299, (⟨(.type "function"), none, .func (PySem.W.fnOf "__init__" "Places.__init__" (defArgs sPlInit) (defBody sPlInit) (defScope sPlInit) (.ref 294) .none .none (.str "openranges.places" 560) none (.ref 298) .none), #[]⟩ : Obj)) ::
  (nat_lit 319, (⟨(.type "code"), none, .fields #[.str "__contains__" 595, .str "Places.__contains__" 596, .str "/claim/cut.py" 597, .int 112 0, .int 2 0, .int 0 0, .int 0 0, .int 3 0, .ref 314, .bool true, .int 181 0, .ref 315, .none, .ref 316, .ref 317, .ref 318, .int 601 0, .int 112 0, .str "/claim/cut.py" 602], #[]⟩ : Obj)) ::
  (nat_lit 320, (⟨(.type "function"), none, .func (PySem.W.fnOf "__contains__" "Places.__contains__" (defArgs sPlacesContains) (defBody sPlacesContains) (defScope sPlacesContains) .none .none .none (.str "openranges.places" 560) none (.ref 319) .none), #[]⟩ : Obj)) ::
  (nat_lit 375, (⟨(.type "code"), none, .fields #[.str "rank" 661, .str "Places.rank" 662, .str "/claim/cut.py" 663, .int 145 0, .int 2 0, .int 0 0, .int 0 0, .int 3 0, .ref 370, .bool true, .int 181 0, .ref 371, .none, .ref 372, .ref 373, .ref 374, .int 669 0, .int 145 0, .str "/claim/cut.py" 670], #[]⟩ : Obj)) ::
  (nat_lit 376, (⟨(.type "function"), none, .func (PySem.W.fnOf "rank" "Places.rank" (defArgs sPlacesRank) (defBody sPlacesRank) (defScope sPlacesRank) .none .none .none (.str "openranges.places" 560) none (.ref 375) .none), #[]⟩ : Obj)) ::
  (nat_lit 389, (⟨(.type "code"), none, .fields #[.str "greatest" 679, .str "Places.greatest" 680, .str "/claim/cut.py" 681, .int 155 0, .int 1 0, .int 0 0, .int 0 0, .int 3 0, .ref 384, .bool true, .int 181 0, .ref 385, .none, .ref 386, .ref 387, .ref 388, .int 683 0, .int 155 0, .str "/claim/cut.py" 684], #[]⟩ : Obj)) ::
  (nat_lit 390, (⟨(.type "function"), none, .func (PySem.W.fnOf "greatest" "Places.greatest" (defArgs sPlacesGreatest) (defBody sPlacesGreatest) (defScope sPlacesGreatest) .none .none .none (.str "openranges.places" 560) none (.ref 389) .none), #[]⟩ : Obj)) ::
  (nat_lit 432, (⟨(.type "classmethod"), (some 431), .fields #[.ref 430, .bool false], #[]⟩ : Obj)) ::
  (nat_lit 435, (⟨(.type "dict"), none, .dict #[⟨PyData.keyHash P "__module__", (.str "__module__" 569), (.str "openranges.places" 560)⟩, ⟨PyData.keyHash P "__firstlineno__", (.str "__firstlineno__" 573), (.int 96 572)⟩, ⟨PyData.keyHash P "__init__", (.str "__init__" 579), (.ref 299)⟩, ⟨PyData.keyHash P "__eq__", (.str "__eq__" 587), (.ref 306)⟩, ⟨PyData.keyHash P "__bool__", (.str "__bool__" 594), (.ref 313)⟩, ⟨PyData.keyHash P "__contains__", (.str "__contains__" 603), (.ref 320)⟩, ⟨PyData.keyHash P "__getitem__", (.str "__getitem__" 612), (.ref 327)⟩, ⟨PyData.keyHash P "__iter__", (.str "__iter__" 619), (.ref 334)⟩, ⟨PyData.keyHash P "__or__", (.str "__or__" 627), (.ref 341)⟩, ⟨PyData.keyHash P "__and__", (.str "__and__" 635), (.ref 348)⟩, ⟨PyData.keyHash P "__sub__", (.str "__sub__" 643), (.ref 355)⟩, ⟨PyData.keyHash P "__xor__", (.str "__xor__" 651), (.ref 362)⟩, ⟨PyData.keyHash P "size", (.str "size" 660), (.ref 369)⟩, ⟨PyData.keyHash P "rank", (.str "rank" 671), (.ref 376)⟩, ⟨PyData.keyHash P "least", (.str "least" 678), (.ref 383)⟩, ⟨PyData.keyHash P "greatest", (.str "greatest" 685), (.ref 390)⟩, ⟨PyData.keyHash P "within", (.str "within" 693), (.ref 397)⟩, ⟨PyData.keyHash P "shifted", (.str "shifted" 701), (.ref 404)⟩, ⟨PyData.keyHash P "mirrored", (.str "mirrored" 709), (.ref 411)⟩, ⟨PyData.keyHash P "inner", (.str "inner" 716), (.ref 418)⟩, ⟨PyData.keyHash P "text", (.str "text" 722), (.ref 423)⟩, ⟨PyData.keyHash P "read", (.str "read" 743), (.ref 432)⟩, ⟨PyData.keyHash P "__static_attributes__", (.str "__static_attributes__" 747), (.ref 434)⟩, ⟨PyData.keyHash P "__dict__", (.str "__dict__" 749), (.ref 437)⟩, ⟨PyData.keyHash P "__weakref__", (.str "__weakref__" 751), (.ref 438)⟩, ⟨PyData.keyHash P "__doc__", (.str "__doc__" 752), .none⟩, ⟨PyData.keyHash P "__hash__", (.str "__hash__" 753), .none⟩] 5, #[]⟩ : Obj)) ::
  (nat_lit 436, (⟨(.type "type"), none, .cls ⟨"Places", [.type "object"], [.ref 436, .type "object"], 435, "Places", true, [], [], false, none, false⟩, #[none, none, some (.str "Places" 562), some (.str "Places" 570), some (.builtin "object.__new__"), some (.bool true)]⟩ : Obj)) ::
  (nat_lit 453, (⟨(.type "code"), none, .fields #[.str "_is_stretch" 769, .str "_is_stretch" 770, .str "/claim/cut.py" 771, .int 193 0, .int 1 0, .int 0 0, .int 0 0, .int 3 0, .ref 448, .bool true, .int 181 0, .ref 449, .none, .ref 450, .ref 451, .ref 452, .int 775 0, .int 193 0, .str "/claim/cut.py" 776], #[]⟩ : Obj)) ::
  (nat_lit 454, (⟨(.type "function"), none, .func (PySem.W.fnOf "_is_stretch" "_is_stretch" (defArgs sIsStretch) (defBody sIsStretch) (defScope sIsStretch) .none .none .none (.str "openranges.places" 560) none (.ref 453) .none), #[]⟩ : Obj)) ::
  (nat_lit 458, (⟨(.type "code"), none, .fields #[.str "_joined" 778, .str "_joined" 779, .str "/claim/cut.py" 780, .int 198 0, .int 1 0, .int 0 0, .int 0 0, .int 3 0, .ref 455, .bool true, .int 181 0, .ref 456, .none, .none, .none, .ref 457, .int 781 0, .int 198 0, .str "/claim/cut.py" 782], #[]⟩ : Obj)) ::
  (nat_lit 459, (⟨(.type "function"), none, .func (PySem.W.fnOf "_joined" "_joined" (defArgs sJoined) (defBody sJoined) (defScope sJoined) .none .none .none (.str "openranges.places" 560) none (.ref 458) .none), #[]⟩ : Obj)) ::
  (nat_lit 465, (⟨(.type "code"), none, .fields #[.str "_counts_before" 784, .str "_counts_before" 785, .str "/claim/cut.py" 786, .int 206 0, .int 1 0, .int 0 0, .int 0 0, .int 3 0, .ref 460, .bool true, .int 181 0, .ref 461, .none, .ref 462, .ref 463, .ref 464, .int 792 0, .int 206 0, .str "/claim/cut.py" 793], #[]⟩ : Obj)) ::
  (nat_lit 466, (⟨(.type "function"), none, .func (PySem.W.fnOf "_counts_before" "_counts_before" (defArgs sCounts) (defBody sCounts) (defScope sCounts) .none .none .none (.str "openranges.places" 560) none (.ref 465) .none), #[]⟩ : Obj)) ::
  (nat_lit 472, (⟨(.type "code"), none, .fields #[.str "_how_many_upto" 795, .str "_how_many_upto" 796, .str "/claim/cut.py" 797, .int 213 0, .int 2 0, .int 0 0, .int 0 0, .int 3 0, .ref 467, .bool true, .int 181 0, .ref 468, .none, .ref 469, .ref 470, .ref 471, .int 803 0, .int 213 0, .str "/claim/cut.py" 804], #[]⟩ : Obj)) ::
  (nat_lit 473, (⟨(.type "function"), none, .func (PySem.W.fnOf "_how_many_upto" "_how_many_upto" (defArgs pHowManyUpto) (defBody pHowManyUpto) (defScope pHowManyUpto) .none .none .none (.str "openranges.places" 560) none (.ref 472) .none), #[]⟩ : Obj)) ::
  (nat_lit 512, (⟨(.type "code"), none, .fields #[.str "__init__" 857, .str "Line.__init__" 858, .str "/claim/cut.py" 859, .int 251 0, .int 3 0, .int 0 0, .int 0 0, .int 3 0, .ref 507, .bool true, .int 181 0, .ref 508, .none, .ref 509, .ref 510, .ref 511, .int 863 0, .int 251 0, .str "/claim/cut.py" 864], #[]⟩ : Obj)) ::
  (nat_lit 513, (⟨(.type "function"), none, .func (PySem.W.fnOf "__init__" "Line.__init__" (defArgs sLInit) (defBody sLInit) (defScope sLInit) .none .none .none (.str "openranges.lines" 843) none (.ref 512) .none), #[]⟩ : Obj)) ::
  (nat_lit 533, (⟨(.type "code"), none, .fields #[.str "__add__" 882, .str "Line.__add__" 883, .str "/claim/cut.py" 884, .int 261 0, .int 2 0, .int 0 0, .int 0 0, .int 3 0, .ref 528, .bool true, .int 181 0, .ref 529, .none, .ref 530, .ref 531, .ref 532, .int 887 0, .int 261 0, .str "/claim/cut.py" 888], #[]⟩ : Obj)) ::
  (nat_lit 534, (⟨(.type "function"), none, .func (PySem.W.fnOf "__add__" "Line.__add__" (defArgs sLineAdd) (defBody sLineAdd) (defScope sLineAdd) .none .none .none (.str "openranges.lines" 843) none (.ref 533) .none), #[]⟩ : Obj)) ::
  (nat_lit 547, (⟨(.type "code"), none, .fields #[.str "__neg__" 898, .str "Line.__neg__" 899, .str "/claim/cut.py" 900, .int 271 0, .int 1 0, .int 0 0, .int 0 0, .int 3 0, .ref 542, .bool true, .int 181 0, .ref 543, .none, .ref 544, .ref 545, .ref 546, .int 902 0, .int 271 0, .str "/claim/cut.py" 903], #[]⟩ : Obj)) ::
  (nat_lit 548, (⟨(.type "function"), none, .func (PySem.W.fnOf "__neg__" "Line.__neg__" (defArgs sLineNeg) (defBody sLineNeg) (defScope sLineNeg) .none .none .none (.str "openranges.lines" 843) none (.ref 547) .none), #[]⟩ : Obj)) ::
  (nat_lit 554, (⟨(.type "code"), none, .fields #[.str "__sub__" 905, .str "Line.__sub__" 906, .str "/claim/cut.py" 907, .int 274 0, .int 2 0, .int 0 0, .int 0 0, .int 3 0, .ref 549, .bool true, .int 181 0, .ref 550, .none, .ref 551, .ref 552, .ref 553, .int 910 0, .int 274 0, .str "/claim/cut.py" 911], #[]⟩ : Obj)) ::
  (nat_lit 555, (⟨(.type "function"), none, .func (PySem.W.fnOf "__sub__" "Line.__sub__" (defArgs sLineSub) (defBody sLineSub) (defScope sLineSub) .none .none .none (.str "openranges.lines" 843) none (.ref 554) .none), #[]⟩ : Obj)) ::
  (nat_lit 568, (⟨(.type "code"), none, .fields #[.str "__mul__" 921, .str "Line.__mul__" 922, .str "/claim/cut.py" 923, .int 282 0, .int 2 0, .int 0 0, .int 0 0, .int 3 0, .ref 563, .bool true, .int 181 0, .ref 564, .none, .ref 565, .ref 566, .ref 567, .int 926 0, .int 282 0, .str "/claim/cut.py" 927], #[]⟩ : Obj)) ::
  (nat_lit 569, (⟨(.type "function"), none, .func (PySem.W.fnOf "__mul__" "Line.__mul__" (defArgs sLineMul) (defBody sLineMul) (defScope sLineMul) .none .none .none (.str "openranges.lines" 843) none (.ref 568) .none), #[]⟩ : Obj)) ::
  (nat_lit 599, (⟨(.type "dict"), none, .dict #[⟨PyData.keyHash P "__module__", (.str "__module__" 852), (.str "openranges.lines" 843)⟩, ⟨PyData.keyHash P "__firstlineno__", (.str "__firstlineno__" 856), (.int 249 855)⟩, ⟨PyData.keyHash P "__init__", (.str "__init__" 865), (.ref 513)⟩, ⟨PyData.keyHash P "__call__", (.str "__call__" 873), (.ref 520)⟩, ⟨PyData.keyHash P "__eq__", (.str "__eq__" 881), (.ref 527)⟩, ⟨PyData.keyHash P "__add__", (.str "__add__" 889), (.ref 534)⟩, ⟨PyData.keyHash P "__radd__", (.str "__radd__" 897), (.ref 541)⟩, ⟨PyData.keyHash P "__neg__", (.str "__neg__" 904), (.ref 548)⟩, ⟨PyData.keyHash P "__sub__", (.str "__sub__" 912), (.ref 555)⟩, ⟨PyData.keyHash P "__rsub__", (.str "__rsub__" 920), (.ref 562)⟩, ⟨PyData.keyHash P "__mul__", (.str "__mul__" 928), (.ref 569)⟩, ⟨PyData.keyHash P "__rmul__", (.str "__rmul__" 936), (.ref 576)⟩, ⟨PyData.keyHash P "moved", (.str "moved" 944), (.ref 583)⟩, ⟨PyData.keyHash P "mirrored", (.str "mirrored" 952), (.ref 590)⟩, ⟨PyData.keyHash P "text", (.str "text" 961), (.ref 597)⟩, ⟨PyData.keyHash P "__static_attributes__", (.str "__static_attributes__" 964), (.ref 598)⟩, ⟨PyData.keyHash P "__dict__", (.str "__dict__" 966), (.ref 601)⟩, ⟨PyData.keyHash P "__weakref__", (.str "__weakref__" 968), (.ref 602)⟩, ⟨PyData.keyHash P "__doc__", (.str "__doc__" 969), .none⟩, ⟨PyData.keyHash P "__hash__", (.str "__hash__" 970), .none⟩] 5, #[]⟩ : Obj)) ::
  (nat_lit 600, (⟨(.type "type"), none, .cls ⟨"Line", [.type "object"], [.ref 600, .type "object"], 599, "Line", true, [], [], false, none, false⟩, #[none, none, some (.str "Line" 845), some (.str "Line" 853), some (.builtin "object.__new__"), some (.bool true)]⟩ : Obj)) ::
  (nat_lit 617, (⟨(.type "code"), none, .fields #[.str "value_at" 980, .str "value_at" 981, .str "/claim/cut.py" 982, .int 310 0, .int 2 0, .int 0 0, .int 0 0, .int 3 0, .ref 612, .bool true, .int 181 0, .ref 613, .none, .ref 614, .ref 615, .ref 616, .int 985 0, .int 310 0, .str "/claim/cut.py" 986], #[]⟩ : Obj)) ::
  (nat_lit 618, (⟨(.type "function"), none, .func (PySem.W.fnOf "value_at" "value_at" (defArgs pValueAt) (defBody pValueAt) (defScope pValueAt) .none .none .none (.str "openranges.lines" 843) none (.ref 617) .none), #[]⟩ : Obj)) ::
  (nat_lit 624, (⟨(.type "code"), none, .fields #[.str "place_line" 990, .str "place_line" 991, .str "/claim/cut.py" 992, .int 313 0, .int 1 0, .int 0 0, .int 0 0, .int 3 0, .ref 619, .bool true, .int 181 0, .ref 620, .none, .ref 621, .ref 622, .ref 623, .int 994 0, .int 313 0, .str "/claim/cut.py" 995], #[]⟩ : Obj)) ::
  (nat_lit 625, (⟨(.type "function"), none, .func (PySem.W.fnOf "place_line" "place_line" (defArgs pPlaceLine) (defBody pPlaceLine) (defScope pPlaceLine) .none .none .none (.str "openranges.spots" 988) none (.ref 624) .none), #[]⟩ : Obj)) ::
  (nat_lit 631, (⟨(.type "code"), none, .fields #[.str "spot_line" 997, .str "spot_line" 998, .str "/claim/cut.py" 999, .int 315 0, .int 1 0, .int 0 0, .int 0 0, .int 3 0, .ref 626, .bool true, .int 181 0, .ref 627, .none, .ref 628, .ref 629, .ref 630, .int 1001 0, .int 315 0, .str "/claim/cut.py" 1002], #[]⟩ : Obj)) ::
  (nat_lit 632, (⟨(.type "function"), none, .func (PySem.W.fnOf "spot_line" "spot_line" (defArgs pSpotLine) (defBody pSpotLine) (defScope pSpotLine) .none .none .none (.str "openranges.spots" 988) none (.ref 631) .none), #[]⟩ : Obj)) ::
  (nat_lit 638, (⟨(.type "code"), none, .fields #[.str "is_string" 1004, .str "is_string" 1005, .str "/claim/cut.py" 1006, .int 321 0, .int 2 0, .int 0 0, .int 0 0, .int 3 0, .ref 633, .bool true, .int 181 0, .ref 634, .none, .ref 635, .ref 636, .ref 637, .int 1009 0, .int 321 0, .str "/claim/cut.py" 1010], #[]⟩ : Obj)) ::
  (nat_lit 639, (⟨(.type "function"), none, .func (PySem.W.fnOf "is_string" "is_string" (defArgs pIsString) (defBody pIsString) (defScope pIsString) .none .none .none (.str "openranges.spots" 988) none (.ref 638) .none), #[]⟩ : Obj)) ::
  (nat_lit 645, (⟨(.type "code"), none, .fields #[.str "is_sequence" 1012, .str "is_sequence" 1013, .str "/claim/cut.py" 1014, .int 323 0, .int 2 0, .int 0 0, .int 0 0, .int 3 0, .ref 640, .bool true, .int 181 0, .ref 641, .none, .ref 642, .ref 643, .ref 644, .int 1017 0, .int 323 0, .str "/claim/cut.py" 1018], #[]⟩ : Obj)) ::
  (nat_lit 646, (⟨(.type "function"), none, .func (PySem.W.fnOf "is_sequence" "is_sequence" (defArgs pIsSequence) (defBody pIsSequence) (defScope pIsSequence) .none .none .none (.str "openranges.spots" 988) none (.ref 645) .none), #[]⟩ : Obj)) ::
  (nat_lit 659, (⟨(.type "code"), none, .fields #[.str "__init__" 1032, .str "Stretch.__init__" 1033, .str "/claim/cut.py" 1034, .int 327 0, .int 3 0, .int 0 0, .int 0 0, .int 3 0, .ref 654, .bool true, .int 181 0, .ref 655, .none, .ref 656, .ref 657, .ref 658, .int 1038 0, .int 327 0, .str "/claim/cut.py" 1039], #[]⟩ : Obj)) ::
  (nat_lit 660, (⟨(.type "function"), none, .func (PySem.W.fnOf "__init__" "Stretch.__init__" (defArgs sStretchInit) (defBody sStretchInit) (defScope sStretchInit) .none .none .none (.str "openranges.spots" 988) none (.ref 659) .none), #[]⟩ : Obj)) ::
  (nat_lit 666, (⟨(.type "code"), none, .fields #[.str "never_above" 1041, .str "Stretch.never_above" 1042, .str "/claim/cut.py" 1043, .int 331 0, .int 3 0, .int 0 0, .int 0 0, .int 3 0, .ref 661, .bool true, .int 181 0, .ref 662, .none, .ref 663, .ref 664, .ref 665, .int 1048 0, .int 331 0, .str "/claim/cut.py" 1049], #[]⟩ : Obj)) ::
  (nat_lit 667, (⟨(.type "function"), none, .func (PySem.W.fnOf "never_above" "Stretch.never_above" (defArgs sStretchNeverAbove) (defBody sStretchNeverAbove) (defScope sStretchNeverAbove) .none .none .none (.str "openranges.spots" 988) none (.ref 666) .none), #[]⟩ : Obj)) ::
  (nat_lit 673, (⟨(.type "code"), none, .fields #[.str "always_same" 1051, .str "Stretch.always_same" 1052, .str "/claim/cut.py" 1053, .int 335 0, .int 3 0, .int 0 0, .int 0 0, .int 3 0, .ref 668, .bool true, .int 181 0, .ref 669, .none, .ref 670, .ref 671, .ref 672, .int 1057 0, .int 335 0, .str "/claim/cut.py" 1058], #[]⟩ : Obj)) ::
  (nat_lit 674, (⟨(.type "function"), none, .func (PySem.W.fnOf "always_same" "Stretch.always_same" (defArgs sStretchAlwaysSame) (defBody sStretchAlwaysSame) (defScope sStretchAlwaysSame) .none .none .none (.str "openranges.spots" 988) none (.ref 673) .none), #[]⟩ : Obj)) ::
  (nat_lit 680, (⟨(.type "code"), none, .fields #[.str "swept_within" 1060, .str "Stretch.swept_within" 1061, .str "/claim/cut.py" 1062, .int 338 0, .int 4 0, .int 0 0, .int 0 0, .int 3 0, .ref 675, .bool true, .int 181 0, .ref 676, .none, .ref 677, .ref 678, .ref 679, .int 1069 0, .int 338 0, .str "/claim/cut.py" 1070], #[]⟩ : Obj)) ::
  (nat_lit 681, (⟨(.type "function"), none, .func (PySem.W.fnOf "swept_within" "Stretch.swept_within" (defArgs sStretchSweptWithin) (defBody sStretchSweptWithin) (defScope sStretchSweptWithin) .none .none .none (.str "openranges.spots" 988) none (.ref 680) .none), #[]⟩ : Obj)) ::
  (nat_lit 697, (⟨(.type "dict"), none, .dict #[⟨PyData.keyHash P "__module__", (.str "__module__" 1027), (.str "openranges.spots" 988)⟩, ⟨PyData.keyHash P "__firstlineno__", (.str "__firstlineno__" 1031), (.int 325 1030)⟩, ⟨PyData.keyHash P "__init__", (.str "__init__" 1040), (.ref 660)⟩, ⟨PyData.keyHash P "never_above", (.str "never_above" 1050), (.ref 667)⟩, ⟨PyData.keyHash P "always_same", (.str "always_same" 1059), (.ref 674)⟩, ⟨PyData.keyHash P "swept_within", (.str "swept_within" 1071), (.ref 681)⟩, ⟨PyData.keyHash P "covered", (.str "covered" 1081), (.ref 688)⟩, ⟨PyData.keyHash P "_turning", (.str "_turning" 1089), (.ref 695)⟩, ⟨PyData.keyHash P "__static_attributes__", (.str "__static_attributes__" 1092), (.ref 696)⟩, ⟨PyData.keyHash P "__dict__", (.str "__dict__" 1094), (.ref 699)⟩, ⟨PyData.keyHash P "__weakref__", (.str "__weakref__" 1096), (.ref 700)⟩, ⟨PyData.keyHash P "__doc__", (.str "__doc__" 1097), .none⟩] 4, #[]⟩ : Obj)) ::
  (nat_lit 698, (⟨(.type "type"), none, .cls ⟨"Stretch", [.type "object"], [.ref 698, .type "object"], 697, "Stretch", true, [], [], false, none, false⟩, #[none, none, some (.str "Stretch" 1020), some (.str "Stretch" 1028), some (.builtin "object.__new__"), some (.bool true)]⟩ : Obj)) ::
  (nat_lit 715, (⟨(.type "code"), none, .fields #[.str "__init__" 1114, .str "Hop.__init__" 1115, .str "/claim/cut.py" 1116, .int 351 0, .int 6 0, .int 0 0, .int 0 0, .int 3 0, .ref 710, .bool true, .int 181 0, .ref 711, .none, .ref 712, .ref 713, .ref 714, .int 1123 0, .int 351 0, .str "/claim/cut.py" 1124], #[]⟩ : Obj)) ::
  (nat_lit 716, (⟨(.type "function"), none, .func (PySem.W.fnOf "__init__" "Hop.__init__" (defArgs sHopInit) (defBody sHopInit) (defScope sHopInit) .none .none .none (.str "openranges.hops" 1100) none (.ref 715) .none), #[]⟩ : Obj)) ::
  (nat_lit 718, (⟨(.type "dict"), none, .dict #[⟨PyData.keyHash P "__module__", (.str "__module__" 1109), (.str "openranges.hops" 1100)⟩, ⟨PyData.keyHash P "__firstlineno__", (.str "__firstlineno__" 1113), (.int 349 1112)⟩, ⟨PyData.keyHash P "__init__", (.str "__init__" 1125), (.ref 716)⟩, ⟨PyData.keyHash P "__static_attributes__", (.str "__static_attributes__" 1131), (.ref 717)⟩, ⟨PyData.keyHash P "__dict__", (.str "__dict__" 1133), (.ref 720)⟩, ⟨PyData.keyHash P "__weakref__", (.str "__weakref__" 1135), (.ref 721)⟩, ⟨PyData.keyHash P "__doc__", (.str "__doc__" 1136), .none⟩] 4, #[]⟩ : Obj)) ::
  (nat_lit 719, (⟨(.type "type"), none, .cls ⟨"Hop", [.type "object"], [.ref 719, .type "object"], 718, "Hop", true, [], [], false, none, false⟩, #[none, none, some (.str "Hop" 1102), some (.str "Hop" 1110), some (.builtin "object.__new__"), some (.bool true)]⟩ : Obj)) ::
  (nat_lit 729, (⟨(.type "code"), none, .fields #[.str "hop_line" 1139, .str "hop_line" 1140, .str "/claim/cut.py" 1141, .int 357 0, .int 2 0, .int 0 0, .int 0 0, .int 3 0, .ref 724, .bool true, .int 181 0, .ref 725, .none, .ref 726, .ref 727, .ref 728, .int 1151 0, .int 357 0, .str "/claim/cut.py" 1152], #[]⟩ : Obj)) ::
  (nat_lit 730, (⟨(.type "function"), none, .func (PySem.W.fnOf "hop_line" "hop_line" (defArgs pHopLine) (defBody pHopLine) (defScope pHopLine) .none .none .none (.str "openranges.hops" 1100) none (.ref 729) .none), #[]⟩ : Obj)) ::
  (nat_lit 734, (⟨(.type "code"), none, .fields #[.str "read_hop" 1154, .str "read_hop" 1155, .str "/claim/cut.py" 1156, .int 364 0, .int 4 0, .int 0 0, .int 0 0, .int 3 0, .ref 731, .bool true, .int 181 0, .ref 732, .none, .none, .none, .ref 733, .int 1157 0, .int 364 0, .str "/claim/cut.py" 1158], #[]⟩ : Obj)) ::
  (nat_lit 735, (⟨(.type "function"), none, .func (PySem.W.fnOf "read_hop" "read_hop" (defArgs pReadHop) (defBody pReadHop) (defScope pReadHop) .none .none .none (.str "openranges.hops" 1100) none (.ref 734) .none), #[]⟩ : Obj)) ::
  (nat_lit 741, (⟨(.type "code"), none, .fields #[.str "_step_calls" 1160, .str "_step_calls" 1161, .str "/claim/cut.py" 1162, .int 384 0, .int 4 0, .int 0 0, .int 0 0, .int 3 0, .ref 736, .bool true, .int 181 0, .ref 737, .none, .ref 738, .ref 739, .ref 740, .int 1167 0, .int 384 0, .str "/claim/cut.py" 1168], #[]⟩ : Obj)) ::
  (nat_lit 742, (⟨(.type "function"), none, .func (PySem.W.fnOf "_step_calls" "_step_calls" (defArgs pStepCalls) (defBody pStepCalls) (defScope pStepCalls) .none .none .none (.str "openranges.hops" 1100) none (.ref 741) .none), #[]⟩ : Obj)) ::
  (nat_lit 746, (⟨(.type "code"), none, .fields #[.str "_upright_calls" 1170, .str "_upright_calls" 1171, .str "/claim/cut.py" 1172, .int 390 0, .int 4 0, .int 0 0, .int 0 0, .int 3 0, .ref 743, .bool true, .int 181 0, .ref 744, .none, .none, .none, .ref 745, .int 1173 0, .int 390 0, .str "/claim/cut.py" 1174], #[]⟩ : Obj)) ::
  (nat_lit 747, (⟨(.type "function"), none, .func (PySem.W.fnOf "_upright_calls" "_upright_calls" (defArgs pUprightCalls) (defBody pUprightCalls) (defScope pUprightCalls) .none .none .none (.str "openranges.hops" 1100) none (.ref 746) .none), #[]⟩ : Obj)) ::
  (nat_lit 753, (⟨(.type "code"), none, .fields #[.str "_names" 1176, .str "_names" 1177, .str "/claim/cut.py" 1178, .int 399 0, .int 2 0, .int 0 0, .int 0 0, .int 3 0, .ref 748, .bool true, .int 181 0, .ref 749, .none, .ref 750, .ref 751, .ref 752, .int 1181 0, .int 399 0, .str "/claim/cut.py" 1182], #[]⟩ : Obj)) ::
  (nat_lit 754, (⟨(.type "function"), none, .func (PySem.W.fnOf "_names" "_names" (defArgs pNames) (defBody pNames) (defScope pNames) .none .none .none (.str "openranges.hops" 1100) none (.ref 753) .none), #[]⟩ : Obj)) ::
  (nat_lit 760, (⟨(.type "code"), none, .fields #[.str "hop_cost" 1186, .str "hop_cost" 1187, .str "/claim/cut.py" 1188, .int 404 0, .int 2 0, .int 0 0, .int 0 0, .int 3 0, .ref 755, .bool true, .int 181 0, .ref 756, .none, .ref 757, .ref 758, .ref 759, .int 1191 0, .int 404 0, .str "/claim/cut.py" 1192], #[]⟩ : Obj)) ::
  (nat_lit 761, (⟨(.type "function"), none, .func (PySem.W.fnOf "hop_cost" "hop_cost" (defArgs pHopCost) (defBody pHopCost) (defScope pHopCost) .none .none .none (.str "openranges.ladders" 1184) none (.ref 760) .none), #[]⟩ : Obj)) ::
  (nat_lit 765, (⟨(.type "code"), none, .fields #[.str "is_word" 1200, .str "is_word" 1201, .str "/claim/cut.py" 1202, .int 411 0, .int 1 0, .int 0 0, .int 0 0, .int 3 0, .ref 762, .bool true, .int 181 0, .ref 763, .none, .none, .none, .ref 764, .int 1203 0, .int 411 0, .str "/claim/cut.py" 1204], #[]⟩ : Obj)) ::
  (nat_lit 766, (⟨(.type "function"), none, .func (PySem.W.fnOf "is_word" "is_word" (defArgs sIsWord) (defBody sIsWord) (defScope sIsWord) .none .none .none (.str "openranges.words" 1194) none (.ref 765) .none), #[]⟩ : Obj)) ::
  (nat_lit 772, (⟨(.type "code"), none, .fields #[.str "check_word" 1206, .str "check_word" 1207, .str "/claim/cut.py" 1208, .int 415 0, .int 1 0, .int 0 0, .int 0 0, .int 3 0, .ref 767, .bool true, .int 181 0, .ref 768, .none, .ref 769, .ref 770, .ref 771, .int 1210 0, .int 415 0, .str "/claim/cut.py" 1211], #[]⟩ : Obj)) ::
  (nat_lit 773, (⟨(.type "function"), none, .func (PySem.W.fnOf "check_word" "check_word" (defArgs sChkW) (defBody sChkW) (defScope sChkW) .none .none .none (.str "openranges.words" 1194) none (.ref 772) .none), #[]⟩ : Obj)) ::
  (nat_lit 779, (⟨(.type "code"), none, .fields #[.str "check_two_words" 1213, .str "check_two_words" 1214, .str "/claim/cut.py" 1215, .int 418 0, .int 2 0, .int 0 0, .int 0 0, .int 3 0, .ref 774, .bool true, .int 181 0, .ref 775, .none, .ref 776, .ref 777, .ref 778, .int 1218 0, .int 418 0, .str "/claim/cut.py" 1219], #[]⟩ : Obj)) ::
  (nat_lit 780, (⟨(.type "function"), none, .func (PySem.W.fnOf "check_two_words" "check_two_words" (defArgs sChkTwo) (defBody sChkTwo) (defScope sChkTwo) .none .none .none (.str "openranges.words" 1194) none (.ref 779) .none), #[]⟩ : Obj)) ::
  (nat_lit 786, (⟨(.type "code"), none, .fields #[.str "check_sign" 1221, .str "check_sign" 1222, .str "/claim/cut.py" 1223, .int 423 0, .int 2 0, .int 0 0, .int 0 0, .int 3 0, .ref 781, .bool true, .int 181 0, .ref 782, .none, .ref 783, .ref 784, .ref 785, .int 1226 0, .int 423 0, .str "/claim/cut.py" 1227], #[]⟩ : Obj)) ::
  (nat_lit 787, (⟨(.type "function"), none, .func (PySem.W.fnOf "check_sign" "check_sign" (defArgs sChkSign) (defBody sChkSign) (defScope sChkSign) .none .none .none (.str "openranges.words" 1194) none (.ref 786) .none), #[]⟩ : Obj)) ::
  (nat_lit 788, (⟨(.type "tuple"), none, .seq #[.str "<=" 1231, .str ">=" 1232, .str "=" 1233] 0, #[]⟩ : Obj)) ::
  (nat_lit 789, (⟨(.type "tuple"), none, .seq #[.str "up" 1235, .str "down" 1236] 0, #[]⟩ : Obj)) ::
  (nat_lit 802, (⟨(.type "code"), none, .fields #[.str "__init__" 1250, .str "Answers.__init__" 1251, .str "/claim/cut.py" 1252, .int 431 0, .int 3 0, .int 0 0, .int 0 0, .int 3 0, .ref 797, .bool true, .int 181 0, .ref 798, .none, .ref 799, .ref 800, .ref 801, .int 1256 0, .int 431 0, .str "/claim/cut.py" 1257], #[]⟩ : Obj)) ::
  (nat_lit 803, (⟨(.type "function"), none, .func (PySem.W.fnOf "__init__" "Answers.__init__" (defArgs sAnsInit) (defBody sAnsInit) (defScope sAnsInit) .none .none .none (.str "openranges.clauses" 1229) none (.ref 802) .none), #[]⟩ : Obj)) ::
  (nat_lit 816, (⟨(.type "code"), none, .fields #[.str "functions_told" 1267, .str "Answers.functions_told" 1268, .str "/claim/cut.py" 1269, .int 440 0, .int 1 0, .int 0 0, .int 0 0, .int 3 0, .ref 811, .bool true, .int 181 0, .ref 812, .none, .ref 813, .ref 814, .ref 815, .int 1271 0, .int 440 0, .str "/claim/cut.py" 1272], #[]⟩ : Obj)) ::
  (nat_lit 817, (⟨(.type "function"), none, .func (PySem.W.fnOf "functions_told" "Answers.functions_told" (defArgs sAnsTold) (defBody sAnsTold) (defScope sAnsTold) .none .none .none (.str "openranges.clauses" 1229) none (.ref 816) .none), #[]⟩ : Obj)) ::
  (nat_lit 854, (⟨(.type "dict"), none, .dict #[⟨PyData.keyHash P "__module__", (.str "__module__" 1245), (.str "openranges.clauses" 1229)⟩, ⟨PyData.keyHash P "__firstlineno__", (.str "__firstlineno__" 1249), (.int 429 1248)⟩, ⟨PyData.keyHash P "__init__", (.str "__init__" 1258), (.ref 803)⟩, ⟨PyData.keyHash P "__eq__", (.str "__eq__" 1266), (.ref 810)⟩, ⟨PyData.keyHash P "functions_told", (.str "functions_told" 1273), (.ref 817)⟩, ⟨PyData.keyHash P "negated", (.str "negated" 1280), (.ref 824)⟩, ⟨PyData.keyHash P "times", (.str "times" 1288), (.ref 831)⟩, ⟨PyData.keyHash P "moved", (.str "moved" 1296), (.ref 838)⟩, ⟨PyData.keyHash P "mirrored", (.str "mirrored" 1304), (.ref 845)⟩, ⟨PyData.keyHash P "text", (.str "text" 1311), (.ref 852)⟩, ⟨PyData.keyHash P "__static_attributes__", (.str "__static_attributes__" 1315), (.ref 853)⟩, ⟨PyData.keyHash P "__dict__", (.str "__dict__" 1317), (.ref 856)⟩, ⟨PyData.keyHash P "__weakref__", (.str "__weakref__" 1319), (.ref 857)⟩, ⟨PyData.keyHash P "__doc__", (.str "__doc__" 1320), .none⟩, ⟨PyData.keyHash P "__hash__", (.str "__hash__" 1321), .none⟩] 5, #[]⟩ : Obj)) ::
  (nat_lit 855, (⟨(.type "type"), none, .cls ⟨"Answers", [.type "object"], [.ref 855, .type "object"], 854, "Answers", true, [], [], false, none, false⟩, #[none, none, some (.str "Answers" 1238), some (.str "Answers" 1246), some (.builtin "object.__new__"), some (.bool true)]⟩ : Obj)) ::
  (nat_lit 872, (⟨(.type "code"), none, .fields #[.str "__init__" 1336, .str "Refuses.__init__" 1337, .str "/claim/cut.py" 1338, .int 459 0, .int 3 0, .int 0 0, .int 0 0, .int 3 0, .ref 867, .bool true, .int 181 0, .ref 868, .none, .ref 869, .ref 870, .ref 871, .int 1342 0, .int 459 0, .str "/claim/cut.py" 1343], #[]⟩ : Obj)) ::
  (nat_lit 873, (⟨(.type "function"), none, .func (PySem.W.fnOf "__init__" "Refuses.__init__" (defArgs sRefInit) (defBody sRefInit) (defScope sRefInit) .none .none .none (.str "openranges.clauses" 1229) none (.ref 872) .none), #[]⟩ : Obj)) ::
  (nat_lit 886, (⟨(.type "code"), none, .fields #[.str "functions_told" 1353, .str "Refuses.functions_told" 1354, .str "/claim/cut.py" 1355, .int 468 0, .int 1 0, .int 0 0, .int 0 0, .int 3 0, .ref 881, .bool true, .int 181 0, .ref 882, .none, .ref 883, .ref 884, .ref 885, .int 1357 0, .int 468 0, .str "/claim/cut.py" 1358], #[]⟩ : Obj)) ::
  (nat_lit 887, (⟨(.type "function"), none, .func (PySem.W.fnOf "functions_told" "Refuses.functions_told" (defArgs sRefTold) (defBody sRefTold) (defScope sRefTold) .none .none .none (.str "openranges.clauses" 1229) none (.ref 886) .none), #[]⟩ : Obj)) ::
  (nat_lit 924, (⟨(.type "dict"), none, .dict #[⟨PyData.keyHash P "__module__", (.str "__module__" 1331), (.str "openranges.clauses" 1229)⟩, ⟨PyData.keyHash P "__firstlineno__", (.str "__firstlineno__" 1335), (.int 457 1334)⟩, ⟨PyData.keyHash P "__init__", (.str "__init__" 1344), (.ref 873)⟩, ⟨PyData.keyHash P "__eq__", (.str "__eq__" 1352), (.ref 880)⟩, ⟨PyData.keyHash P "functions_told", (.str "functions_told" 1359), (.ref 887)⟩, ⟨PyData.keyHash P "negated", (.str "negated" 1366), (.ref 894)⟩, ⟨PyData.keyHash P "times", (.str "times" 1374), (.ref 901)⟩, ⟨PyData.keyHash P "moved", (.str "moved" 1382), (.ref 908)⟩, ⟨PyData.keyHash P "mirrored", (.str "mirrored" 1390), (.ref 915)⟩, ⟨PyData.keyHash P "text", (.str "text" 1397), (.ref 922)⟩, ⟨PyData.keyHash P "__static_attributes__", (.str "__static_attributes__" 1401), (.ref 923)⟩, ⟨PyData.keyHash P "__dict__", (.str "__dict__" 1403), (.ref 926)⟩, ⟨PyData.keyHash P "__weakref__", (.str "__weakref__" 1405), (.ref 927)⟩, ⟨PyData.keyHash P "__doc__", (.str "__doc__" 1406), .none⟩, ⟨PyData.keyHash P "__hash__", (.str "__hash__" 1407), .none⟩] 5, #[]⟩ : Obj)) ::
  (nat_lit 925, (⟨(.type "type"), none, .cls ⟨"Refuses", [.type "object"], [.ref 925, .type "object"], 924, "Refuses", true, [], [], false, none, false⟩, #[none, none, some (.str "Refuses" 1324), some (.str "Refuses" 1332), some (.builtin "object.__new__"), some (.bool true)]⟩ : Obj)) ::
  (nat_lit 942, (⟨(.type "code"), none, .fields #[.str "__init__" 1422, .str "Needs.__init__" 1423, .str "/claim/cut.py" 1424, .int 487 0, .int 4 0, .int 0 0, .int 0 0, .int 3 0, .ref 937, .bool true, .int 181 0, .ref 938, .none, .ref 939, .ref 940, .ref 941, .int 1429 0, .int 487 0, .str "/claim/cut.py" 1430], #[]⟩ : Obj)) ::
  (nat_lit 943, (⟨(.type "function"), none, .func (PySem.W.fnOf "__init__" "Needs.__init__" (defArgs sNeeInit) (defBody sNeeInit) (defScope sNeeInit) .none .none .none (.str "openranges.clauses" 1229) none (.ref 942) .none), #[]⟩ : Obj)) ::
  (nat_lit 956, (⟨(.type "code"), none, .fields #[.str "functions_told" 1440, .str "Needs.functions_told" 1441, .str "/claim/cut.py" 1442, .int 499 0, .int 1 0, .int 0 0, .int 0 0, .int 3 0, .ref 951, .bool true, .int 181 0, .ref 952, .none, .ref 953, .ref 954, .ref 955, .int 1444 0, .int 499 0, .str "/claim/cut.py" 1445], #[]⟩ : Obj)) ::
  (nat_lit 957, (⟨(.type "function"), none, .func (PySem.W.fnOf "functions_told" "Needs.functions_told" (defArgs sNeeTold) (defBody sNeeTold) (defScope sNeeTold) .none .none .none (.str "openranges.clauses" 1229) none (.ref 956) .none), #[]⟩ : Obj)) ::
  (nat_lit 994, (⟨(.type "dict"), none, .dict #[⟨PyData.keyHash P "__module__", (.str "__module__" 1417), (.str "openranges.clauses" 1229)⟩, ⟨PyData.keyHash P "__firstlineno__", (.str "__firstlineno__" 1421), (.int 485 1420)⟩, ⟨PyData.keyHash P "__init__", (.str "__init__" 1431), (.ref 943)⟩, ⟨PyData.keyHash P "__eq__", (.str "__eq__" 1439), (.ref 950)⟩, ⟨PyData.keyHash P "functions_told", (.str "functions_told" 1446), (.ref 957)⟩, ⟨PyData.keyHash P "negated", (.str "negated" 1453), (.ref 964)⟩, ⟨PyData.keyHash P "times", (.str "times" 1461), (.ref 971)⟩, ⟨PyData.keyHash P "moved", (.str "moved" 1469), (.ref 978)⟩, ⟨PyData.keyHash P "mirrored", (.str "mirrored" 1477), (.ref 985)⟩, ⟨PyData.keyHash P "text", (.str "text" 1484), (.ref 992)⟩, ⟨PyData.keyHash P "__static_attributes__", (.str "__static_attributes__" 1489), (.ref 993)⟩, ⟨PyData.keyHash P "__dict__", (.str "__dict__" 1491), (.ref 996)⟩, ⟨PyData.keyHash P "__weakref__", (.str "__weakref__" 1493), (.ref 997)⟩, ⟨PyData.keyHash P "__doc__", (.str "__doc__" 1494), .none⟩, ⟨PyData.keyHash P "__hash__", (.str "__hash__" 1495), .none⟩] 5, #[]⟩ : Obj)) ::
  (nat_lit 995, (⟨(.type "type"), none, .cls ⟨"Needs", [.type "object"], [.ref 995, .type "object"], 994, "Needs", true, [], [], false, none, false⟩, #[none, none, some (.str "Needs" 1410), some (.str "Needs" 1418), some (.builtin "object.__new__"), some (.bool true)]⟩ : Obj)) ::
  (nat_lit 1012, (⟨(.type "code"), none, .fields #[.str "__init__" 1510, .str "Spreads.__init__" 1511, .str "/claim/cut.py" 1512, .int 518 0, .int 4 0, .int 0 0, .int 0 0, .int 3 0, .ref 1007, .bool true, .int 181 0, .ref 1008, .none, .ref 1009, .ref 1010, .ref 1011, .int 1517 0, .int 518 0, .str "/claim/cut.py" 1518], #[]⟩ : Obj)) ::
  (nat_lit 1013, (⟨(.type "function"), none, .func (PySem.W.fnOf "__init__" "Spreads.__init__" (defArgs sSprInit) (defBody sSprInit) (defScope sSprInit) .none .none .none (.str "openranges.clauses" 1229) none (.ref 1012) .none), #[]⟩ : Obj)) ::
  (nat_lit 1026, (⟨(.type "code"), none, .fields #[.str "functions_told" 1528, .str "Spreads.functions_told" 1529, .str "/claim/cut.py" 1530, .int 531 0, .int 1 0, .int 0 0, .int 0 0, .int 3 0, .ref 1021, .bool true, .int 181 0, .ref 1022, .none, .ref 1023, .ref 1024, .ref 1025, .int 1532 0, .int 531 0, .str "/claim/cut.py" 1533], #[]⟩ : Obj)) ::
  (nat_lit 1027, (⟨(.type "function"), none, .func (PySem.W.fnOf "functions_told" "Spreads.functions_told" (defArgs sSprTold) (defBody sSprTold) (defScope sSprTold) .none .none .none (.str "openranges.clauses" 1229) none (.ref 1026) .none), #[]⟩ : Obj)) ::
  (nat_lit 1064, (⟨(.type "dict"), none, .dict #[⟨PyData.keyHash P "__module__", (.str "__module__" 1505), (.str "openranges.clauses" 1229)⟩, ⟨PyData.keyHash P "__firstlineno__", (.str "__firstlineno__" 1509), (.int 516 1508)⟩, ⟨PyData.keyHash P "__init__", (.str "__init__" 1519), (.ref 1013)⟩, ⟨PyData.keyHash P "__eq__", (.str "__eq__" 1527), (.ref 1020)⟩, ⟨PyData.keyHash P "functions_told", (.str "functions_told" 1534), (.ref 1027)⟩, ⟨PyData.keyHash P "negated", (.str "negated" 1541), (.ref 1034)⟩, ⟨PyData.keyHash P "times", (.str "times" 1549), (.ref 1041)⟩, ⟨PyData.keyHash P "moved", (.str "moved" 1557), (.ref 1048)⟩, ⟨PyData.keyHash P "mirrored", (.str "mirrored" 1565), (.ref 1055)⟩, ⟨PyData.keyHash P "text", (.str "text" 1572), (.ref 1062)⟩, ⟨PyData.keyHash P "__static_attributes__", (.str "__static_attributes__" 1577), (.ref 1063)⟩, ⟨PyData.keyHash P "__dict__", (.str "__dict__" 1579), (.ref 1066)⟩, ⟨PyData.keyHash P "__weakref__", (.str "__weakref__" 1581), (.ref 1067)⟩, ⟨PyData.keyHash P "__doc__", (.str "__doc__" 1582), .none⟩, ⟨PyData.keyHash P "__hash__", (.str "__hash__" 1583), .none⟩] 5, #[]⟩ : Obj)) ::
  (nat_lit 1065, (⟨(.type "type"), none, .cls ⟨"Spreads", [.type "object"], [.ref 1065, .type "object"], 1064, "Spreads", true, [], [], false, none, false⟩, #[none, none, some (.str "Spreads" 1498), some (.str "Spreads" 1506), some (.builtin "object.__new__"), some (.bool true)]⟩ : Obj)) ::
  (nat_lit 1082, (⟨(.type "code"), none, .fields #[.str "__init__" 1598, .str "Bound.__init__" 1599, .str "/claim/cut.py" 1600, .int 550 0, .int 6 0, .int 0 0, .int 0 0, .int 3 0, .ref 1077, .bool true, .int 181 0, .ref 1078, .none, .ref 1079, .ref 1080, .ref 1081, .int 1607 0, .int 550 0, .str "/claim/cut.py" 1608], #[]⟩ : Obj)) ::
  (nat_lit 1083, (⟨(.type "function"), none, .func (PySem.W.fnOf "__init__" "Bound.__init__" (defArgs sBouInit) (defBody sBouInit) (defScope sBouInit) .none .none .none (.str "openranges.clauses" 1229) none (.ref 1082) .none), #[]⟩ : Obj)) ::
  (nat_lit 1103, (⟨(.type "code"), none, .fields #[.str "functions_told" 1626, .str "Bound.functions_told" 1627, .str "/claim/cut.py" 1628, .int 569 0, .int 1 0, .int 0 0, .int 0 0, .int 3 0, .ref 1098, .bool true, .int 181 0, .ref 1099, .none, .ref 1100, .ref 1101, .ref 1102, .int 1630 0, .int 569 0, .str "/claim/cut.py" 1631], #[]⟩ : Obj)) ::
  (nat_lit 1104, (⟨(.type "function"), none, .func (PySem.W.fnOf "functions_told" "Bound.functions_told" (defArgs sBouTold) (defBody sBouTold) (defScope sBouTold) .none .none .none (.str "openranges.clauses" 1229) none (.ref 1103) .none), #[]⟩ : Obj)) ::
  (nat_lit 1141, (⟨(.type "dict"), none, .dict #[⟨PyData.keyHash P "__module__", (.str "__module__" 1593), (.str "openranges.clauses" 1229)⟩, ⟨PyData.keyHash P "__firstlineno__", (.str "__firstlineno__" 1597), (.int 548 1596)⟩, ⟨PyData.keyHash P "__init__", (.str "__init__" 1609), (.ref 1083)⟩, ⟨PyData.keyHash P "__eq__", (.str "__eq__" 1618), (.ref 1090)⟩, ⟨PyData.keyHash P "line", (.str "line" 1625), (.ref 1097)⟩, ⟨PyData.keyHash P "functions_told", (.str "functions_told" 1632), (.ref 1104)⟩, ⟨PyData.keyHash P "negated", (.str "negated" 1639), (.ref 1111)⟩, ⟨PyData.keyHash P "times", (.str "times" 1647), (.ref 1118)⟩, ⟨PyData.keyHash P "moved", (.str "moved" 1655), (.ref 1125)⟩, ⟨PyData.keyHash P "mirrored", (.str "mirrored" 1663), (.ref 1132)⟩, ⟨PyData.keyHash P "text", (.str "text" 1670), (.ref 1139)⟩, ⟨PyData.keyHash P "__static_attributes__", (.str "__static_attributes__" 1677), (.ref 1140)⟩, ⟨PyData.keyHash P "__dict__", (.str "__dict__" 1679), (.ref 1143)⟩, ⟨PyData.keyHash P "__weakref__", (.str "__weakref__" 1681), (.ref 1144)⟩, ⟨PyData.keyHash P "__doc__", (.str "__doc__" 1682), .none⟩, ⟨PyData.keyHash P "__hash__", (.str "__hash__" 1683), .none⟩] 5, #[]⟩ : Obj)) ::
  (nat_lit 1142, (⟨(.type "type"), none, .cls ⟨"Bound", [.type "object"], [.ref 1142, .type "object"], 1141, "Bound", true, [], [], false, none, false⟩, #[none, none, some (.str "Bound" 1586), some (.str "Bound" 1594), some (.builtin "object.__new__"), some (.bool true)]⟩ : Obj)) ::
  (nat_lit 1159, (⟨(.type "code"), none, .fields #[.str "__init__" 1698, .str "Pair.__init__" 1699, .str "/claim/cut.py" 1700, .int 588 0, .int 7 0, .int 0 0, .int 0 0, .int 3 0, .ref 1154, .bool true, .int 181 0, .ref 1155, .none, .ref 1156, .ref 1157, .ref 1158, .int 1708 0, .int 588 0, .str "/claim/cut.py" 1709], #[]⟩ : Obj)) ::
  (nat_lit 1160, (⟨(.type "function"), none, .func (PySem.W.fnOf "__init__" "Pair.__init__" (defArgs sPaiInit) (defBody sPaiInit) (defScope sPaiInit) .none .none .none (.str "openranges.clauses" 1229) none (.ref 1159) .none), #[]⟩ : Obj)) ::
  (nat_lit 1180, (⟨(.type "code"), none, .fields #[.str "functions_told" 1728, .str "Pair.functions_told" 1729, .str "/claim/cut.py" 1730, .int 609 0, .int 1 0, .int 0 0, .int 0 0, .int 3 0, .ref 1175, .bool true, .int 181 0, .ref 1176, .none, .ref 1177, .ref 1178, .ref 1179, .int 1732 0, .int 609 0, .str "/claim/cut.py" 1733], #[]⟩ : Obj)) ::
  (nat_lit 1181, (⟨(.type "function"), none, .func (PySem.W.fnOf "functions_told" "Pair.functions_told" (defArgs sPaiTold) (defBody sPaiTold) (defScope sPaiTold) .none .none .none (.str "openranges.clauses" 1229) none (.ref 1180) .none), #[]⟩ : Obj)) ::
  (nat_lit 1218, (⟨(.type "dict"), none, .dict #[⟨PyData.keyHash P "__module__", (.str "__module__" 1693), (.str "openranges.clauses" 1229)⟩, ⟨PyData.keyHash P "__firstlineno__", (.str "__firstlineno__" 1697), (.int 586 1696)⟩, ⟨PyData.keyHash P "__init__", (.str "__init__" 1710), (.ref 1160)⟩, ⟨PyData.keyHash P "__eq__", (.str "__eq__" 1720), (.ref 1167)⟩, ⟨PyData.keyHash P "line", (.str "line" 1727), (.ref 1174)⟩, ⟨PyData.keyHash P "functions_told", (.str "functions_told" 1734), (.ref 1181)⟩, ⟨PyData.keyHash P "negated", (.str "negated" 1741), (.ref 1188)⟩, ⟨PyData.keyHash P "times", (.str "times" 1749), (.ref 1195)⟩, ⟨PyData.keyHash P "moved", (.str "moved" 1757), (.ref 1202)⟩, ⟨PyData.keyHash P "mirrored", (.str "mirrored" 1765), (.ref 1209)⟩, ⟨PyData.keyHash P "text", (.str "text" 1772), (.ref 1216)⟩, ⟨PyData.keyHash P "__static_attributes__", (.str "__static_attributes__" 1780), (.ref 1217)⟩, ⟨PyData.keyHash P "__dict__", (.str "__dict__" 1782), (.ref 1220)⟩, ⟨PyData.keyHash P "__weakref__", (.str "__weakref__" 1784), (.ref 1221)⟩, ⟨PyData.keyHash P "__doc__", (.str "__doc__" 1785), .none⟩, ⟨PyData.keyHash P "__hash__", (.str "__hash__" 1786), .none⟩] 5, #[]⟩ : Obj)) ::
  (nat_lit 1219, (⟨(.type "type"), none, .cls ⟨"Pair", [.type "object"], [.ref 1219, .type "object"], 1218, "Pair", true, [], [], false, none, false⟩, #[none, none, some (.str "Pair" 1686), some (.str "Pair" 1694), some (.builtin "object.__new__"), some (.bool true)]⟩ : Obj)) ::
  (nat_lit 1236, (⟨(.type "code"), none, .fields #[.str "__init__" 1801, .str "Step.__init__" 1802, .str "/claim/cut.py" 1803, .int 628 0, .int 5 0, .int 0 0, .int 0 0, .int 3 0, .ref 1231, .bool true, .int 181 0, .ref 1232, .none, .ref 1233, .ref 1234, .ref 1235, .int 1809 0, .int 628 0, .str "/claim/cut.py" 1810], #[]⟩ : Obj)) ::
  (nat_lit 1237, (⟨(.type "function"), none, .func (PySem.W.fnOf "__init__" "Step.__init__" (defArgs sSteInit) (defBody sSteInit) (defScope sSteInit) .none .none .none (.str "openranges.clauses" 1229) none (.ref 1236) .none), #[]⟩ : Obj)) ::
  (nat_lit 1250, (⟨(.type "code"), none, .fields #[.str "functions_told" 1820, .str "Step.functions_told" 1821, .str "/claim/cut.py" 1822, .int 642 0, .int 1 0, .int 0 0, .int 0 0, .int 3 0, .ref 1245, .bool true, .int 181 0, .ref 1246, .none, .ref 1247, .ref 1248, .ref 1249, .int 1824 0, .int 642 0, .str "/claim/cut.py" 1825], #[]⟩ : Obj)) ::
  (nat_lit 1251, (⟨(.type "function"), none, .func (PySem.W.fnOf "functions_told" "Step.functions_told" (defArgs sSteTold) (defBody sSteTold) (defScope sSteTold) .none .none .none (.str "openranges.clauses" 1229) none (.ref 1250) .none), #[]⟩ : Obj)) ::
  (nat_lit 1288, (⟨(.type "dict"), none, .dict #[⟨PyData.keyHash P "__module__", (.str "__module__" 1796), (.str "openranges.clauses" 1229)⟩, ⟨PyData.keyHash P "__firstlineno__", (.str "__firstlineno__" 1800), (.int 626 1799)⟩, ⟨PyData.keyHash P "__init__", (.str "__init__" 1811), (.ref 1237)⟩, ⟨PyData.keyHash P "__eq__", (.str "__eq__" 1819), (.ref 1244)⟩, ⟨PyData.keyHash P "functions_told", (.str "functions_told" 1826), (.ref 1251)⟩, ⟨PyData.keyHash P "negated", (.str "negated" 1833), (.ref 1258)⟩, ⟨PyData.keyHash P "times", (.str "times" 1841), (.ref 1265)⟩, ⟨PyData.keyHash P "moved", (.str "moved" 1849), (.ref 1272)⟩, ⟨PyData.keyHash P "mirrored", (.str "mirrored" 1857), (.ref 1279)⟩, ⟨PyData.keyHash P "text", (.str "text" 1864), (.ref 1286)⟩, ⟨PyData.keyHash P "__static_attributes__", (.str "__static_attributes__" 1870), (.ref 1287)⟩, ⟨PyData.keyHash P "__dict__", (.str "__dict__" 1872), (.ref 1290)⟩, ⟨PyData.keyHash P "__weakref__", (.str "__weakref__" 1874), (.ref 1291)⟩, ⟨PyData.keyHash P "__doc__", (.str "__doc__" 1875), .none⟩, ⟨PyData.keyHash P "__hash__", (.str "__hash__" 1876), .none⟩] 5, #[]⟩ : Obj)) ::
  (nat_lit 1289, (⟨(.type "type"), none, .cls ⟨"Step", [.type "object"], [.ref 1289, .type "object"], 1288, "Step", true, [], [], false, none, false⟩, #[none, none, some (.str "Step" 1789), some (.str "Step" 1797), some (.builtin "object.__new__"), some (.bool true)]⟩ : Obj)) ::
  (nat_lit 1299, (⟨(.type "code"), none, .fields #[.str "is_clause" 1879, .str "is_clause" 1880, .str "/claim/cut.py" 1881, .int 659 0, .int 1 0, .int 0 0, .int 0 0, .int 3 0, .ref 1294, .bool true, .int 181 0, .ref 1295, .none, .ref 1296, .ref 1297, .ref 1298, .int 1883 0, .int 659 0, .str "/claim/cut.py" 1884], #[]⟩ : Obj)) ::
  (nat_lit 1300, (⟨(.type "function"), none, .func (PySem.W.fnOf "is_clause" "is_clause" (defArgs sIsClause) (defBody sIsClause) (defScope sIsClause) .none .none .none (.str "openranges.clauses" 1229) none (.ref 1299) .none), #[]⟩ : Obj)) ::
  (nat_lit 1327, (⟨(.type "code"), none, .fields #[.str "__init__" 1919, .str "Rules.__init__" 1920, .str "/claim/cut.py" 1921, .int 673 0, .int 4 0, .int 0 0, .int 0 0, .int 3 0, .ref 1322, .bool true, .int 181 0, .ref 1323, .none, .ref 1324, .ref 1325, .ref 1326, .int 1928 0, .int 673 0, .str "/claim/cut.py" 1929], #[]⟩ : Obj)) ::
  (nat_lit 1328, (⟨(.type "function"), none, .func (PySem.W.fnOf "__init__" "Rules.__init__" (defArgs sRuInit) (defBody sRuInit) (defScope sRuInit) .none .none .none (.str "openranges.rules" 1901) none (.ref 1327) .none), #[]⟩ : Obj)) ::
  (nat_lit 1337, (⟨(.type "dict"), none, .dict #[⟨PyData.keyHash P "__module__", (.str "__module__" 1914), (.str "openranges.rules" 1901)⟩, ⟨PyData.keyHash P "__firstlineno__", (.str "__firstlineno__" 1918), (.int 671 1917)⟩, ⟨PyData.keyHash P "__init__", (.str "__init__" 1930), (.ref 1328)⟩, ⟨PyData.keyHash P "__eq__", (.str "__eq__" 1938), (.ref 1335)⟩, ⟨PyData.keyHash P "__static_attributes__", (.str "__static_attributes__" 1942), (.ref 1336)⟩, ⟨PyData.keyHash P "__dict__", (.str "__dict__" 1944), (.ref 1339)⟩, ⟨PyData.keyHash P "__weakref__", (.str "__weakref__" 1946), (.ref 1340)⟩, ⟨PyData.keyHash P "__doc__", (.str "__doc__" 1947), .none⟩, ⟨PyData.keyHash P "__hash__", (.str "__hash__" 1948), .none⟩] 5, #[]⟩ : Obj)) ::
  (nat_lit 1338, (⟨(.type "type"), none, .cls ⟨"Rules", [.type "object"], [.ref 1338, .type "object"], 1337, "Rules", true, [], [], false, none, false⟩, #[none, none, some (.str "Rules" 1907), some (.str "Rules" 1915), some (.builtin "object.__new__"), some (.bool true)]⟩ : Obj)) ::
  (nat_lit 1348, (⟨(.type "code"), none, .fields #[.str "check_fits" 1951, .str "check_fits" 1952, .str "/claim/cut.py" 1953, .int 691 0, .int 3 0, .int 0 0, .int 0 0, .int 3 0, .ref 1343, .bool true, .int 181 0, .ref 1344, .none, .ref 1345, .ref 1346, .ref 1347, .int 1959 0, .int 691 0, .str "/claim/cut.py" 1960], #[]⟩ : Obj)) ::
  (nat_lit 1349, (⟨(.type "function"), none, .func (PySem.W.fnOf "check_fits" "check_fits" (defArgs sChkFits) (defBody sChkFits) (defScope sChkFits) .none .none .none (.str "openranges.rules" 1901) none (.ref 1348) .none), #[]⟩ : Obj)) ::
  (nat_lit 1355, (⟨(.type "code"), none, .fields #[.str "_check_functions" 1962, .str "_check_functions" 1963, .str "/claim/cut.py" 1964, .int 698 0, .int 1 0, .int 0 0, .int 0 0, .int 3 0, .ref 1350, .bool true, .int 181 0, .ref 1351, .none, .ref 1352, .ref 1353, .ref 1354, .int 1968 0, .int 698 0, .str "/claim/cut.py" 1969], #[]⟩ : Obj)) ::
  (nat_lit 1356, (⟨(.type "function"), none, .func (PySem.W.fnOf "_check_functions" "_check_functions" (defArgs sChkFuns) (defBody sChkFuns) (defScope sChkFuns) .none .none .none (.str "openranges.rules" 1901) none (.ref 1355) .none), #[]⟩ : Obj)) ::
  (nat_lit 1362, (⟨(.type "code"), none, .fields #[.str "_law_pen_of" 1973, .str "_law_pen_of" 1974, .str "/claim/cut.py" 1975, .int 706 0, .int 1 0, .int 0 0, .int 0 0, .int 3 0, .ref 1357, .bool true, .int 181 0, .ref 1358, .none, .ref 1359, .ref 1360, .ref 1361, .int 1977 0, .int 706 0, .str "/claim/cut.py" 1978], #[]⟩ : Obj)) ::
  (nat_lit 1363, (⟨(.type "function"), none, .func (PySem.W.fnOf "_law_pen_of" "_law_pen_of" (defArgs sPenOf) (defBody sPenOf) (defScope sPenOf) .none .none .none (.str "law_openranges_k32_hop_costs" 1971) none (.ref 1362) .none), #[]⟩ : Obj)) ::
  (nat_lit 1369, (⟨(.type "code"), none, .fields #[.str "_law_draw" 1980, .str "_law_draw" 1981, .str "/claim/cut.py" 1982, .int 708 0, .int 2 0, .int 0 0, .int 0 0, .int 3 0, .ref 1364, .bool true, .int 181 0, .ref 1365, .none, .ref 1366, .ref 1367, .ref 1368, .int 1990 0, .int 708 0, .str "/claim/cut.py" 1991], #[]⟩ : Obj)) ::
  (nat_lit 1370, (⟨(.type "function"), none, .func (PySem.W.fnOf "_law_draw" "_law_draw" (defArgs sDraw) (defBody sDraw) (defScope sDraw) .none .none .none (.str "law_openranges_k32_hop_costs" 1971) none (.ref 1369) .none), #[]⟩ : Obj)) ::
  (nat_lit 1376, (⟨(.type "code"), none, .fields #[.str "_law_pick" 1993, .str "_law_pick" 1994, .str "/claim/cut.py" 1995, .int 722 0, .int 2 0, .int 0 0, .int 0 0, .int 3 0, .ref 1371, .bool true, .int 181 0, .ref 1372, .none, .ref 1373, .ref 1374, .ref 1375, .int 1998 0, .int 722 0, .str "/claim/cut.py" 1999], #[]⟩ : Obj)) ::
  (nat_lit 1377, (⟨(.type "function"), none, .func (PySem.W.fnOf "_law_pick" "_law_pick" (defArgs sPick) (defBody sPick) (defScope sPick) .none .none .none (.str "law_openranges_k32_hop_costs" 1971) none (.ref 1376) .none), #[]⟩ : Obj)) ::
  (nat_lit 1381, (⟨(.type "code"), none, .fields #[.str "_law_words_of" 2001, .str "_law_words_of" 2002, .str "/claim/cut.py" 2003, .int 724 0, .int 2 0, .int 0 0, .int 0 0, .int 3 0, .ref 1378, .bool true, .int 181 0, .ref 1379, .none, .none, .none, .ref 1380, .int 2004 0, .int 724 0, .str "/claim/cut.py" 2005], #[]⟩ : Obj)) ::
  (nat_lit 1382, (⟨(.type "function"), none, .func (PySem.W.fnOf "_law_words_of" "_law_words_of" (defArgs sWordsOf) (defBody sWordsOf) (defScope sWordsOf) .none .none .none (.str "law_openranges_k32_hop_costs" 1971) none (.ref 1381) .none), #[]⟩ : Obj)) ::
  (nat_lit 1386, (⟨(.type "code"), none, .fields #[.str "_law_normal" 2007, .str "_law_normal" 2008, .str "/claim/cut.py" 2009, .int 730 0, .int 1 0, .int 0 0, .int 0 0, .int 3 0, .ref 1383, .bool true, .int 181 0, .ref 1384, .none, .none, .none, .ref 1385, .int 2010 0, .int 730 0, .str "/claim/cut.py" 2011], #[]⟩ : Obj)) ::
  (nat_lit 1387, (⟨(.type "function"), none, .func (PySem.W.fnOf "_law_normal" "_law_normal" (defArgs sNormal) (defBody sNormal) (defScope sNormal) .none .none .none (.str "law_openranges_k32_hop_costs" 1971) none (.ref 1386) .none), #[]⟩ : Obj)) ::
  (nat_lit 1393, (⟨(.type "code"), none, .fields #[.str "_law_near" 2013, .str "_law_near" 2014, .str "/claim/cut.py" 2015, .int 739 0, .int 2 0, .int 0 0, .int 0 0, .int 3 0, .ref 1388, .bool true, .int 181 0, .ref 1389, .none, .ref 1390, .ref 1391, .ref 1392, .int 2019 0, .int 739 0, .str "/claim/cut.py" 2020], #[]⟩ : Obj)) ::
  (nat_lit 1394, (⟨(.type "function"), none, .func (PySem.W.fnOf "_law_near" "_law_near" (defArgs sNear) (defBody sNear) (defScope sNear) .none .none .none (.str "law_openranges_k32_hop_costs" 1971) none (.ref 1393) .none), #[]⟩ : Obj)) ::
  (nat_lit 1400, (⟨(.type "code"), none, .fields #[.str "_law_stretches" 2022, .str "_law_stretches" 2023, .str "/claim/cut.py" 2024, .int 744 0, .int 3 0, .int 0 0, .int 0 0, .int 3 0, .ref 1395, .bool true, .int 181 0, .ref 1396, .none, .ref 1397, .ref 1398, .ref 1399, .int 2032 0, .int 744 0, .str "/claim/cut.py" 2033], #[]⟩ : Obj)) ::
  (nat_lit 1401, (⟨(.type "function"), none, .func (PySem.W.fnOf "_law_stretches" "_law_stretches" (defArgs sStretches) (defBody sStretches) (defScope sStretches) .none .none .none (.str "law_openranges_k32_hop_costs" 1971) none (.ref 1400) .none), #[]⟩ : Obj)) ::
  (nat_lit 1405, (⟨(.type "code"), none, .fields #[.str "_law_worth" 2035, .str "_law_worth" 2036, .str "/claim/cut.py" 2037, .int 754 0, .int 6 0, .int 0 0, .int 0 0, .int 3 0, .ref 1402, .bool true, .int 181 0, .ref 1403, .none, .none, .none, .ref 1404, .int 2038 0, .int 754 0, .str "/claim/cut.py" 2039], #[]⟩ : Obj)) ::
  (nat_lit 1406, (⟨(.type "function"), none, .func (PySem.W.fnOf "_law_worth" "_law_worth" (defArgs sWorth) (defBody sWorth) (defScope sWorth) .none .none .none (.str "law_openranges_k32_hop_costs" 1971) none (.ref 1405) .none), #[]⟩ : Obj)) ::
  (nat_lit 1412, (⟨(.type "code"), none, .fields #[.str "_law_slope_of" 2041, .str "_law_slope_of" 2042, .str "/claim/cut.py" 2043, .int 762 0, .int 2 0, .int 0 0, .int 0 0, .int 3 0, .ref 1407, .bool true, .int 181 0, .ref 1408, .none, .ref 1409, .ref 1410, .ref 1411, .int 2047 0, .int 762 0, .str "/claim/cut.py" 2048], #[]⟩ : Obj)) ::
  (nat_lit 1413, (⟨(.type "function"), none, .func (PySem.W.fnOf "_law_slope_of" "_law_slope_of" (defArgs sSlopeOf) (defBody sSlopeOf) (defScope sSlopeOf) .none .none .none (.str "law_openranges_k32_hop_costs" 1971) none (.ref 1412) .none), #[]⟩ : Obj)) ::
  (nat_lit 1417, (⟨(.type "code"), none, .fields #[.str "_law_number_clause" 2050, .str "_law_number_clause" 2051, .str "/claim/cut.py" 2052, .int 765 0, .int 6 0, .int 0 0, .int 0 0, .int 3 0, .ref 1414, .bool true, .int 181 0, .ref 1415, .none, .none, .none, .ref 1416, .int 2053 0, .int 765 0, .str "/claim/cut.py" 2054], #[]⟩ : Obj)) ::
  (nat_lit 1418, (⟨(.type "function"), none, .func (PySem.W.fnOf "_law_number_clause" "_law_number_clause" (defArgs sNumberClause) (defBody sNumberClause) (defScope sNumberClause) .none .none .none (.str "law_openranges_k32_hop_costs" 1971) none (.ref 1417) .none), #[]⟩ : Obj)) ::
  (nat_lit 1422, (⟨(.type "code"), none, .fields #[.str "_law_clause_of" 2056, .str "_law_clause_of" 2057, .str "/claim/cut.py" 2058, .int 784 0, .int 2 0, .int 0 0, .int 0 0, .int 3 0, .ref 1419, .bool true, .int 181 0, .ref 1420, .none, .none, .none, .ref 1421, .int 2059 0, .int 784 0, .str "/claim/cut.py" 2060], #[]⟩ : Obj)) ::
  (nat_lit 1423, (⟨(.type "function"), none, .func (PySem.W.fnOf "_law_clause_of" "_law_clause_of" (defArgs sClauseOf) (defBody sClauseOf) (defScope sClauseOf) .none .none .none (.str "law_openranges_k32_hop_costs" 1971) none (.ref 1422) .none), #[]⟩ : Obj)) ::
  (nat_lit 1429, (⟨(.type "code"), none, .fields #[.str "_law_world_of" 2062, .str "_law_world_of" 2063, .str "/claim/cut.py" 2064, .int 798 0, .int 3 0, .int 0 0, .int 0 0, .int 3 0, .ref 1424, .bool true, .int 181 0, .ref 1425, .none, .ref 1426, .ref 1427, .ref 1428, .int 2076 0, .int 798 0, .str "/claim/cut.py" 2077], #[]⟩ : Obj)) ::
  (nat_lit 1430, (⟨(.type "function"), none, .func (PySem.W.fnOf "_law_world_of" "_law_world_of" (defArgs sWorldOf) (defBody sWorldOf) (defScope sWorldOf) .none .none .none (.str "law_openranges_k32_hop_costs" 1971) none (.ref 1429) .none), #[]⟩ : Obj)) ::
  (nat_lit 1436, (⟨(.type "code"), none, .fields #[.str "_law_made_of" 2079, .str "_law_made_of" 2080, .str "/claim/cut.py" 2081, .int 819 0, .int 1 0, .int 0 0, .int 0 0, .int 3 0, .ref 1431, .bool true, .int 181 0, .ref 1432, .none, .ref 1433, .ref 1434, .ref 1435, .int 2086 0, .int 819 0, .str "/claim/cut.py" 2087], #[]⟩ : Obj)) ::
  (nat_lit 1437, (⟨(.type "function"), none, .func (PySem.W.fnOf "_law_made_of" "_law_made_of" (defArgs sMadeOf) (defBody sMadeOf) (defScope sMadeOf) .none .none .none (.str "law_openranges_k32_hop_costs" 1971) none (.ref 1436) .none), #[]⟩ : Obj)) ::
  (nat_lit 1441, (⟨(.type "code"), none, .fields #[.str "_law_rules_of" 2089, .str "_law_rules_of" 2090, .str "/claim/cut.py" 2091, .int 830 0, .int 1 0, .int 0 0, .int 0 0, .int 3 0, .ref 1438, .bool true, .int 181 0, .ref 1439, .none, .none, .none, .ref 1440, .int 2092 0, .int 830 0, .str "/claim/cut.py" 2093], #[]⟩ : Obj)) ::
  (nat_lit 1442, (⟨(.type "function"), none, .func (PySem.W.fnOf "_law_rules_of" "_law_rules_of" (defArgs sRulesOf) (defBody sRulesOf) (defScope sRulesOf) .none .none .none (.str "law_openranges_k32_hop_costs" 1971) none (.ref 1441) .none), #[]⟩ : Obj)) ::
  (nat_lit 1446, (⟨(.type "code"), none, .fields #[.str "_law_in" 2095, .str "_law_in" 2096, .str "/claim/cut.py" 2097, .int 832 0, .int 3 0, .int 0 0, .int 0 0, .int 3 0, .ref 1443, .bool true, .int 181 0, .ref 1444, .none, .none, .none, .ref 1445, .int 2098 0, .int 832 0, .str "/claim/cut.py" 2099], #[]⟩ : Obj)) ::
  (nat_lit 1447, (⟨(.type "function"), none, .func (PySem.W.fnOf "_law_in" "_law_in" (defArgs sIn) (defBody sIn) (defScope sIn) .none .none .none (.str "law_openranges_k32_hop_costs" 1971) none (.ref 1446) .none), #[]⟩ : Obj)) ::
  (nat_lit 1453, (⟨(.type "code"), none, .fields #[.str "_law_is_place" 2101, .str "_law_is_place" 2102, .str "/claim/cut.py" 2103, .int 834 0, .int 2 0, .int 0 0, .int 0 0, .int 3 0, .ref 1448, .bool true, .int 181 0, .ref 1449, .none, .ref 1450, .ref 1451, .ref 1452, .int 2106 0, .int 834 0, .str "/claim/cut.py" 2107], #[]⟩ : Obj)) ::
  (nat_lit 1454, (⟨(.type "function"), none, .func (PySem.W.fnOf "_law_is_place" "_law_is_place" (defArgs sLIsPlace) (defBody sLIsPlace) (defScope sLIsPlace) .none .none .none (.str "law_openranges_k32_hop_costs" 1971) none (.ref 1453) .none), #[]⟩ : Obj)) ::
  (nat_lit 1460, (⟨(.type "code"), none, .fields #[.str "_law_is_index" 2109, .str "_law_is_index" 2110, .str "/claim/cut.py" 2111, .int 836 0, .int 2 0, .int 0 0, .int 0 0, .int 3 0, .ref 1455, .bool true, .int 181 0, .ref 1456, .none, .ref 1457, .ref 1458, .ref 1459, .int 2114 0, .int 836 0, .str "/claim/cut.py" 2115], #[]⟩ : Obj)) ::
  (nat_lit 1461, (⟨(.type "function"), none, .func (PySem.W.fnOf "_law_is_index" "_law_is_index" (defArgs sIsIndex) (defBody sIsIndex) (defScope sIsIndex) .none .none .none (.str "law_openranges_k32_hop_costs" 1971) none (.ref 1460) .none), #[]⟩ : Obj)) ::
  (nat_lit 1467, (⟨(.type "code"), none, .fields #[.str "_law_step_cost" 2117, .str "_law_step_cost" 2118, .str "/claim/cut.py" 2119, .int 838 0, .int 5 0, .int 0 0, .int 0 0, .int 3 0, .ref 1462, .bool true, .int 181 0, .ref 1463, .none, .ref 1464, .ref 1465, .ref 1466, .int 2127 0, .int 838 0, .str "/claim/cut.py" 2128], #[]⟩ : Obj)) ::
  (nat_lit 1468, (⟨(.type "function"), none, .func (PySem.W.fnOf "_law_step_cost" "_law_step_cost" (defArgs sStepCost) (defBody sStepCost) (defScope sStepCost) .none .none .none (.str "law_openranges_k32_hop_costs" 1971) none (.ref 1467) .none), #[]⟩ : Obj)) ::
  (nat_lit 1474, (⟨(.type "code"), none, .fields #[.str "_law_hop_cost" 2130, .str "_law_hop_cost" 2131, .str "/claim/cut.py" 2132, .int 845 0, .int 2 0, .int 0 0, .int 0 0, .int 3 0, .ref 1469, .bool true, .int 181 0, .ref 1470, .none, .ref 1471, .ref 1472, .ref 1473, .int 2143 0, .int 845 0, .str "/claim/cut.py" 2144], #[]⟩ : Obj)) ::
  (nat_lit 1475, (⟨(.type "function"), none, .func (PySem.W.fnOf "_law_hop_cost" "_law_hop_cost" (defArgs sHopCost) (defBody sHopCost) (defScope sHopCost) .none .none .none (.str "law_openranges_k32_hop_costs" 1971) none (.ref 1474) .none), #[]⟩ : Obj)) ::
  (nat_lit 1481, (⟨(.type "code"), none, .fields #[.str "_law_hop_of" 2146, .str "_law_hop_of" 2147, .str "/claim/cut.py" 2148, .int 863 0, .int 3 0, .int 0 0, .int 0 0, .int 3 0, .ref 1476, .bool true, .int 181 0, .ref 1477, .none, .ref 1478, .ref 1479, .ref 1480, .int 2158 0, .int 863 0, .str "/claim/cut.py" 2159], #[]⟩ : Obj)) ::
  (nat_lit 1482, (⟨(.type "function"), none, .func (PySem.W.fnOf "_law_hop_of" "_law_hop_of" (defArgs sHopOf) (defBody sHopOf) (defScope sHopOf) .none .none .none (.str "law_openranges_k32_hop_costs" 1971) none (.ref 1481) .none), #[]⟩ : Obj)) ::
  (nat_lit 1488, (⟨(.type "code"), none, .fields #[.str "_law_bent" 2161, .str "_law_bent" 2162, .str "/claim/cut.py" 2163, .int 873 0, .int 3 0, .int 0 0, .int 0 0, .int 3 0, .ref 1483, .bool true, .int 181 0, .ref 1484, .none, .ref 1485, .ref 1486, .ref 1487, .int 2174 0, .int 873 0, .str "/claim/cut.py" 2175], #[]⟩ : Obj)) ::
  (nat_lit 1489, (⟨(.type "function"), none, .func (PySem.W.fnOf "_law_bent" "_law_bent" (defArgs sBent) (defBody sBent) (defScope sBent) .none .none .none (.str "law_openranges_k32_hop_costs" 1971) none (.ref 1488) .none), #[]⟩ : Obj)) ::
  (nat_lit 1495, (⟨(.type "code"), none, .fields #[.str "law" 2177, .str "law" 2178, .str "/claim/cut.py" 2179, .int 878 0, .int 1 0, .int 0 0, .int 0 0, .int 3 0, .ref 1490, .bool true, .int 181 0, .ref 1491, .none, .ref 1492, .ref 1493, .ref 1494, .int 2189 0, .int 878 0, .str "/claim/cut.py" 2190], #[]⟩ : Obj)) ::
  (nat_lit 1496, (⟨(.type "function"), none, .func (PySem.W.fnOf "law" "law" (defArgs sLaw) (defBody sLaw) (defScope sLaw) .none .none .none (.str "law_openranges_k32_hop_costs" 1971) none (.ref 1495) .none), #[]⟩ : Obj)) :: []
end OR

namespace OR
open PySem PySem.Spec PyProof.Rows L2
set_option maxHeartbeats 0 in
set_option maxHeartbeats 0 in
theorem all_mk {l : PySem.W.OpenLaw} {w : World} {K : PySem.W.Frag} {h : Heap} {mg : Str → Option Value} {fa CP CR CL CS CH c0 c1 c2 c3 c4 c5 c6 : Addr} (X : K.In h) (G : h.Ns mainGlobals mg) (hfa : mg "law" = some (.ref fa)) (L : PAt K CP) (LR : RAt K CR) (LL : LAt K CL) (LSM : XAt K CS "Stretch" ["first", "last"]) (LHM : XAt K CH "Hop" ["start", "begin", "goal", "end", "calls"]) (Z : ZAt K)
    (z_str : PySem.W.nsIn K mainGlobals "str" = some none) (z_all : PySem.W.nsIn K mainGlobals "all" = some none) (z_any : PySem.W.nsIn K mainGlobals "any" = some none) (lp : ∃ t, mg "LAST_PLACE" = some (.int lastP t))
    (let_ : ∃ t, PySem.W.nsIn K mainGlobals "_LETTERS" = some (some (.str "abcdefghijklmnopqrstuvwxyz" t))) (most : ∃ t, PySem.W.nsIn K mainGlobals "_MOST_LETTERS" = some (some (.int 8 t))) (tS : TpAt K "SIGNS" ["<=", ">=", "="]) (tW : TpAt K "WAYS" ["up", "down"])
    (mfun : ∃ t, PySem.W.nsIn K mainGlobals "MOST_FUNCTIONS" = some (some (.int 3 t))) (mcl : ∃ t, PySem.W.nsIn K mainGlobals "_MOST_CLAUSES" = some (some (.int 60 t)))
    (k0 : CAt K c0 "Answers" ["kind", "function", "places"]) (k1 : CAt K c1 "Refuses" ["kind", "function", "places"]) (k2 : CAt K c2 "Needs" ["kind", "function", "places", "other"]) (k3 : CAt K c3 "Spreads" ["kind", "function", "places", "way"]) (k4 : CAt K c4 "Bound" ["kind", "function", "places", "sign", "slope", "height"]) (k5 : CAt K c5 "Pair" ["kind", "function", "places", "sign", "other", "slope", "height"]) (k6 : CAt K c6 "Step" ["kind", "function", "places", "sign", "height"]) (k7 : K7 K c0 c1 c2 c3 c4 c5 c6)
    (mI : MtD K CP "__init__" "Places.__init__" sPlInit) (fDI : FnAt K "is_integer" sIsInt) (fDP : FnAt K "is_place" sIsPlace) (fDS : FnAt K "_is_stretch" sIsStretch) (fDJ : FnAt K "_joined" sJoined) (fDC : FnAt K "_counts_before" sCounts) (fDHow : FnAt K "_how_many_upto" pHowManyUpto) (hCON : MtAt K CP "__contains__" "__contains__" "Places.__contains__" sPlacesContains) (hRK : MtAt K CP "rank" "rank" "Places.rank" sPlacesRank) (hGRP : MtAt K CP "greatest" "greatest" "Places.greatest" sPlacesGreatest) (fIW : FnAt K "is_word" sIsWord) (fCW : FnAt K "check_word" sChkW) (fCT2 : FnAt K "check_two_words" sChkTwo) (fDSg : FnAt K "check_sign" sChkSign) (mI0 : MtAt K c0 "__init__" "__init__" "Answers.__init__" sAnsInit) (hmT0 : MtAt K c0 "functions_told" "functions_told" "Answers.functions_told" sAnsTold) (mI1 : MtAt K c1 "__init__" "__init__" "Refuses.__init__" sRefInit) (hmT1 : MtAt K c1 "functions_told" "functions_told" "Refuses.functions_told" sRefTold) (mI2 : MtAt K c2 "__init__" "__init__" "Needs.__init__" sNeeInit) (hmT2 : MtAt K c2 "functions_told" "functions_told" "Needs.functions_told" sNeeTold) (mI3 : MtAt K c3 "__init__" "__init__" "Spreads.__init__" sSprInit) (hmT3 : MtAt K c3 "functions_told" "functions_told" "Spreads.functions_told" sSprTold) (mI4 : MtAt K c4 "__init__" "__init__" "Bound.__init__" sBouInit) (hmT4 : MtAt K c4 "functions_told" "functions_told" "Bound.functions_told" sBouTold) (mI5 : MtAt K c5 "__init__" "__init__" "Pair.__init__" sPaiInit) (hmT5 : MtAt K c5 "functions_told" "functions_told" "Pair.functions_told" sPaiTold) (mI6 : MtAt K c6 "__init__" "__init__" "Step.__init__" sSteInit) (hmT6 : MtAt K c6 "functions_told" "functions_told" "Step.functions_told" sSteTold) (fIC : FnAt K "is_clause" sIsClause) (fKF : FnAt K "check_fits" sChkFits) (fCF : FnAt K "_check_functions" sChkFuns) (mIR : MtAt K CR "__init__" "__init__" "Rules.__init__" sRuInit) (fDPen : FnAt K "_law_pen_of" sPenOf) (fDDraw : FnAt K "_law_draw" sDraw) (fDPick : FnAt K "_law_pick" sPick) (fDWords : FnAt K "_law_words_of" sWordsOf) (fDNormal : FnAt K "_law_normal" sNormal) (fDNear : FnAt K "_law_near" sNear) (fDStr : FnAt K "_law_stretches" sStretches) (fDWorth : FnAt K "_law_worth" sWorth) (fDSlope : FnAt K "_law_slope_of" sSlopeOf) (fDNum : FnAt K "_law_number_clause" sNumberClause) (fDClause : FnAt K "_law_clause_of" sClauseOf) (fDWorld : FnAt K "_law_world_of" sWorldOf) (fDMade : FnAt K "_law_made_of" sMadeOf) (fDRules : FnAt K "_law_rules_of" sRulesOf) (mLI : MtAt K CL "__init__" "__init__" "Line.__init__" sLInit) (bA : BinI K CL .Add) (bM : BinI K CL .Mult) (hA1 : MtAt K CL "__add__" (PySem.dunder (Operator.info .Add).2) "Line.__add__" sLineAdd) (hN1 : MtAt K CL "__neg__" "__neg__" "Line.__neg__" sLineNeg) (hS1 : MtAt K CL "__sub__" (PySem.dunder (Operator.info .Sub).2) "Line.__sub__" sLineSub) (hU1 : MtAt K CL "__mul__" (PySem.dunder (Operator.info .Mult).2) "Line.__mul__" sLineMul) (fDIS : FnAt K "is_string" pIsString) (fDSL : FnAt K "spot_line" pSpotLine) (fDVA : FnAt K "value_at" pValueAt) (fDHL : FnAt K "hop_line" pHopLine) (mSM : MtAt K CS "__init__" "__init__" "Stretch.__init__" sStretchInit) (mHM : MtAt K CH "__init__" "__init__" "Hop.__init__" sHopInit) (hNV : MtAt K CS "never_above" "never_above" "Stretch.never_above" sStretchNeverAbove) (hAL : MtAt K CS "always_same" "always_same" "Stretch.always_same" sStretchAlwaysSame) (hSW : MtAt K CS "swept_within" "swept_within" "Stretch.swept_within" sStretchSweptWithin) (fPL0 : FnAt K "place_line" pPlaceLine) (fDSq : FnAt K "is_sequence" pIsSequence) (fDNa : FnAt K "_names" pNames) (fDSt : FnAt K "_step_calls" pStepCalls) (fDUp : FnAt K "_upright_calls" pUprightCalls) (fDRH : FnAt K "read_hop" pReadHop) (fDHC : FnAt K "hop_cost" pHopCost) (fDLIn : FnAt K "_law_in" sIn) (fDLPl : FnAt K "_law_is_place" sLIsPlace) (fDLIx : FnAt K "_law_is_index" sIsIndex) (fDLSt : FnAt K "_law_step_cost" sStepCost) (fDLHo : FnAt K "_law_hop_cost" sHopCost) (fDHO : FnAt K "_law_hop_of" sHopOf) (fDBe : FnAt K "_law_bent" sBent) (fLaw : FnAt K "law" sLaw) :
    ∃ fd : FuncData, (∀ (s : Shared) (v : Value), BindsTo s fd ⟨[v], []⟩ [("_law_script", v)]) ∧ ∀ base : Heap, K.In base → base.Ns mainGlobals mg → FnOk l.prog w K mg base CX0 8 fa fd ["_law_script"] (spLaw K) := by
  obtain ⟨f, fd, F, e⟩ := fLaw.ex
  have e := hfa.symm.trans (PySem.W.mg_of X G e)
  cases e
  refine ⟨fd, fun s v => ?_, fun base _ _ => ?_⟩
  · obtain ⟨oc, od, kV, doc, pm, an, cdv, ct, osl, rfl, _⟩ := F.ex
    exact .of_eq rfl
  have PT : PTxt K mg CP := L.txt X G Z lp
  have none : ∀ {x : Str}, PySem.W.nsIn K mainGlobals x = some none → mg x = none := fun z => PySem.W.mg_none_of X G z
  have BL : Bl mg := ⟨none Z.int, none Z.len, none Z.abs, none Z.list⟩
  have B : Bd mg := ⟨none Z.range, none Z.min, none Z.max, none Z.int, none Z.len, none Z.list, none Z.set, none Z.sorted⟩
  have RT : RTxt K mg CR := LR.txt X G mfun mcl
  obtain ⟨ts, gS, hS⟩ := tS.ex
  obtain ⟨tw, gW, hW⟩ := tW.ex
  have WT : WTxt K mg ts tw := ⟨none Z.isi, none z_str, none Z.len, none z_all, let_.imp fun t e => PySem.W.mg_of X G e, most.imp fun t e => PySem.W.mg_of X G e, PySem.W.mg_of X G gS, PySem.W.mg_of X G gW, hS, hW⟩
  let C : Nat → Addr := cf c0 c1 c2 c3 c4 c5 c6
  have CT : CTxt K mg C := ⟨all7 ⟨k0.pg, k0.hd, k0.po, k0.sa⟩ ⟨k1.pg, k1.hd, k1.po, k1.sa⟩ ⟨k2.pg, k2.hd, k2.po, k2.sa⟩ ⟨k3.pg, k3.hd, k3.po, k3.sa⟩ ⟨k4.pg, k4.hd, k4.po, k4.sa⟩ ⟨k5.pg, k5.hd, k5.po, k5.sa⟩ ⟨k6.pg, k6.hd, k6.po, k6.sa⟩, all7 k0.no k1.no k2.no k3.no k4.no k5.no k6.no, all7 ⟨k0.ca, k0.cn, k0.ct, k0.cm⟩ ⟨k1.ca, k1.cn, k1.ct, k1.cm⟩ ⟨k2.ca, k2.cn, k2.ct, k2.cm⟩ ⟨k3.ca, k3.cn, k3.ct, k3.cm⟩ ⟨k4.ca, k4.cn, k4.ct, k4.cm⟩ ⟨k5.ca, k5.cn, k5.ct, k5.cm⟩ ⟨k6.ca, k6.cn, k6.ct, k6.cm⟩, k7.kk, all7 (PySem.W.mg_of X G k0.aC) (PySem.W.mg_of X G k1.aC) (PySem.W.mg_of X G k2.aC) (PySem.W.mg_of X G k3.aC) (PySem.W.mg_of X G k4.aC) (PySem.W.mg_of X G k5.aC) (PySem.W.mg_of X G k6.aC), all7 k0.sf k1.sf k2.sf k3.sf k4.sf k5.sf k6.sf, all7 k0.ne k1.ne k2.ne k3.ne k4.ne k5.ne k6.ne, all7 k0.kS k1.kS k2.kS k3.kS k4.kS k5.kS k6.kS, all7 k0.kT k1.kT k2.kT k3.kT k4.kT k5.kT k6.kT⟩
  have LT : LTxt K mg CL := LL.txt X G Z
  have DI : Cl l.prog w K mg base 1 "is_integer" ["value"] (spIsIntG K) := cl_of fDI X G (fun _ _ _ _ _ _ us hl => match us, hl with | [_], _ => rfl) fun f fd F => ok_isintG F PT
  have DP : Cl l.prog w K mg base 2 "is_place" ["value"] (spIsPlace K) := cl_of fDP X G (fun _ _ _ _ _ _ us hl => match us, hl with | [_], _ => rfl) fun f fd F => ok_isplace F PT DI
  have DS : Cl l.prog w K mg base 3 "_is_stretch" ["value"] spIsStretchP := cl_of fDS X G (fun _ _ _ _ _ _ us hl => match us, hl with | [_], _ => rfl) fun f fd F => ok_isstretch F PT DP
  have DJ : Cl l.prog w K mg base 1 "_joined" ["stretches"] (spJoined K) := cl_of fDJ X G (fun _ _ _ _ _ _ us hl => match us, hl with | [_], _ => rfl) fun f fd F => ok_joined F PT
  have DC : Cl l.prog w K mg base 1 "_counts_before" ["stretches"] (spCounts K) := cl_of fDC X G (fun _ _ _ _ _ _ us hl => match us, hl with | [_], _ => rfl) fun f fd F => ok_counts F PT
  have PM : PMk' l.prog w K mg base CP := pmk_of PT L mI DS DJ DC
  have DHow : Cl l.prog w K mg base 1 "_how_many_upto" ["numbers", "x"] (spHow K) := cl_of fDHow X G (fun _ _ _ _ _ _ us hl => match us, hl with | [_, _], _ => rfl) fun f fd F => ok_how F PT
  have CON : Md l.prog w K mg base 2 CP "__contains__" (spCon K CP) := md_of hCON (ps := ["self", "x"]) (fun _ _ _ _ _ _ us hl => match us, hl with | [_, _], _ => rfl) fun f fd F => ok_con F PT DI DHow
  have RK : Mt l.prog w K mg base 2 CP "rank" ["self", "x"] (spRank CP) := mt_of hRK (ps := ["self", "x"]) (fun _ _ _ _ _ _ us hl => match us, hl with | [_, _], _ => rfl) fun f fd F => ok_rank F PT (none Z.min) DHow
  have GRP : Mt l.prog w K mg base 1 CP "greatest" ["self"] (spLeast CP greatV) := mt_of hGRP (ps := ["self"]) (fun _ _ _ _ _ _ us hl => match us, hl with | [_], _ => rfl) fun f fd F => ok_great F PT
  have IW : Cl l.prog w K mg base 1 "is_word" ["value"] spIsWord := cl_of fIW X G (fun _ _ _ _ _ _ us hl => match us, hl with | [_], _ => rfl) fun f fd F => ok_isword F WT
  have CW : Cl l.prog w K mg base 2 "check_word" ["value"] spChkW := cl_of fCW X G (fun _ _ _ _ _ _ us hl => match us, hl with | [_], _ => rfl) fun f fd F => ok_chkw F IW
  have CT2 : Cl l.prog w K mg base 3 "check_two_words" ["function", "other"] spChkTwo := cl_of fCT2 X G (fun _ _ _ _ _ _ us hl => match us, hl with | [_, _], _ => rfl) fun f fd F => ok_chktwo F CW
  have DSg : Cl l.prog w K mg base 1 "check_sign" ["value", "allowed"] (spChkS K) := cl_of fDSg X G (fun _ _ _ _ _ _ us hl => match us, hl with | [_, _], _ => rfl) fun f fd F => ok_chks F
  have M0 : CMk l.prog w K mg base C 0 ["self", "function", "places"] := ⟨by
    obtain ⟨f, fd, F, a, b, c⟩ := mI0.ex
    exact ⟨f, fd, ⟨k0.mks, a, b, k0.kc⟩, ok_AnsI F CT CW, F.binds (fun _ _ _ _ _ _ us hl => match us, hl with | [_, _, _], _ => rfl)⟩, CT.mgC 0 (by decide)⟩
  have mT0 : Mt l.prog w K mg base 1 c0 "functions_told" ["self"] (spCTold CP C 0) := mt_of hmT0 (ps := ["self"]) (fun _ _ _ _ _ _ us hl => match us, hl with | [_], _ => rfl) fun f fd F => ok_AnsF F CT
  have M1 : CMk l.prog w K mg base C 1 ["self", "function", "places"] := ⟨by
    obtain ⟨f, fd, F, a, b, c⟩ := mI1.ex
    exact ⟨f, fd, ⟨k1.mks, a, b, k1.kc⟩, ok_RefI F CT CW, F.binds (fun _ _ _ _ _ _ us hl => match us, hl with | [_, _, _], _ => rfl)⟩, CT.mgC 1 (by decide)⟩
  have mT1 : Mt l.prog w K mg base 1 c1 "functions_told" ["self"] (spCTold CP C 1) := mt_of hmT1 (ps := ["self"]) (fun _ _ _ _ _ _ us hl => match us, hl with | [_], _ => rfl) fun f fd F => ok_RefF F CT
  have M2 : CMk l.prog w K mg base C 2 ["self", "function", "places", "other"] := ⟨by
    obtain ⟨f, fd, F, a, b, c⟩ := mI2.ex
    exact ⟨f, fd, ⟨k2.mks, a, b, k2.kc⟩, ok_NeeI F CT CT2, F.binds (fun _ _ _ _ _ _ us hl => match us, hl with | [_, _, _, _], _ => rfl)⟩, CT.mgC 2 (by decide)⟩
  have mT2 : Mt l.prog w K mg base 1 c2 "functions_told" ["self"] (spCTold CP C 2) := mt_of hmT2 (ps := ["self"]) (fun _ _ _ _ _ _ us hl => match us, hl with | [_], _ => rfl) fun f fd F => ok_NeeF F CT
  have M3 : CMk l.prog w K mg base C 3 ["self", "function", "places", "way"] := ⟨by
    obtain ⟨f, fd, F, a, b, c⟩ := mI3.ex
    exact ⟨f, fd, ⟨k3.mks, a, b, k3.kc⟩, ok_SprI F CT CW DSg WT, F.binds (fun _ _ _ _ _ _ us hl => match us, hl with | [_, _, _, _], _ => rfl)⟩, CT.mgC 3 (by decide)⟩
  have mT3 : Mt l.prog w K mg base 1 c3 "functions_told" ["self"] (spCTold CP C 3) := mt_of hmT3 (ps := ["self"]) (fun _ _ _ _ _ _ us hl => match us, hl with | [_], _ => rfl) fun f fd F => ok_SprF F CT
  have M4 : CMk l.prog w K mg base C 4 ["self", "function", "places", "sign", "slope", "height"] := ⟨by
    obtain ⟨f, fd, F, a, b, c⟩ := mI4.ex
    exact ⟨f, fd, ⟨k4.mks, a, b, k4.kc⟩, ok_BouI F CT CW DSg WT, F.binds (fun _ _ _ _ _ _ us hl => match us, hl with | [_, _, _, _, _, _], _ => rfl)⟩, CT.mgC 4 (by decide)⟩
  have mT4 : Mt l.prog w K mg base 1 c4 "functions_told" ["self"] (spCTold CP C 4) := mt_of hmT4 (ps := ["self"]) (fun _ _ _ _ _ _ us hl => match us, hl with | [_], _ => rfl) fun f fd F => ok_BouF F CT
  have M5 : CMk l.prog w K mg base C 5 ["self", "function", "places", "sign", "other", "slope", "height"] := ⟨by
    obtain ⟨f, fd, F, a, b, c⟩ := mI5.ex
    exact ⟨f, fd, ⟨k5.mks, a, b, k5.kc⟩, ok_PaiI F CT CT2 DSg WT, F.binds (fun _ _ _ _ _ _ us hl => match us, hl with | [_, _, _, _, _, _, _], _ => rfl)⟩, CT.mgC 5 (by decide)⟩
  have mT5 : Mt l.prog w K mg base 1 c5 "functions_told" ["self"] (spCTold CP C 5) := mt_of hmT5 (ps := ["self"]) (fun _ _ _ _ _ _ us hl => match us, hl with | [_], _ => rfl) fun f fd F => ok_PaiF F CT
  have M6 : CMk l.prog w K mg base C 6 ["self", "function", "places", "sign", "height"] := ⟨by
    obtain ⟨f, fd, F, a, b, c⟩ := mI6.ex
    exact ⟨f, fd, ⟨k6.mks, a, b, k6.kc⟩, ok_SteI F CT CW DSg WT, F.binds (fun _ _ _ _ _ _ us hl => match us, hl with | [_, _, _, _, _], _ => rfl)⟩, CT.mgC 6 (by decide)⟩
  have mT6 : Mt l.prog w K mg base 1 c6 "functions_told" ["self"] (spCTold CP C 6) := mt_of hmT6 (ps := ["self"]) (fun _ _ _ _ _ _ us hl => match us, hl with | [_], _ => rfl) fun f fd F => ok_SteF F CT
  have TO : ∀ i, i < 7 → Mt l.prog w K mg base 1 (C i) "functions_told" ["self"] (spCTold CP C i) := all7 mT0 mT1 mT2 mT3 mT4 mT5 mT6
  have IC : Cl l.prog w K mg base 1 "is_clause" ["value"] (spIsClause CP C) := cl_of fIC X G (fun _ _ _ _ _ _ us hl => match us, hl with | [_], _ => rfl) fun f fd F => ok_isclause F CT PT
  have KF : Cl l.prog w K mg base 2 "check_fits" ["clause", "functions", "last"] (spFits K CP C) := cl_of fKF X G (fun _ _ _ _ _ _ us hl => match us, hl with | [_, _, _], _ => rfl) fun f fd F => ok_fits F CT PT TO GRP
  have CF : Cl l.prog w K mg base 3 "_check_functions" ["functions"] (spChkFuns K) := cl_of fCF X G (fun _ _ _ _ _ _ us hl => match us, hl with | [_], _ => rfl) fun f fd F => ok_chkfuns F PT RT CW
  have RM : RMk l.prog w K mg base CR CP C := ⟨by
    obtain ⟨f, fd, F, a, b, c⟩ := mIR.ex
    exact ⟨f, fd, ⟨LR.mks, a, b, LR.kc⟩, ok_ruinit F PT RT CF DP IC KF, F.binds (fun _ _ _ _ _ _ us hl => match us, hl with | [_, _, _, _], _ => rfl)⟩, RT.mgC⟩
  have DPen : Cl l.prog w K mg base 1 "_law_pen_of" ["_law_script"] (spPen K) := cl_of fDPen X G (fun _ _ _ _ _ _ us hl => match us, hl with | [_], _ => rfl) fun f fd F => ok_pen F BL
  have DDraw : Cl l.prog w K mg base 1 "_law_draw" ["_law_pen", "_law_many"] spDraw := cl_of fDDraw X G (fun _ _ _ _ _ _ us hl => match us, hl with | [_, _], _ => rfl) fun f fd F => ok_draw F BL
  have DPick : Cl l.prog w K mg base 2 "_law_pick" ["_law_pen", "_law_options"] (spPick K) := cl_of fDPick X G (fun _ _ _ _ _ _ us hl => match us, hl with | [_, _], _ => rfl) fun f fd F => ok_pick F BL DDraw
  have DPickS : Cl l.prog w K mg base 2 "_law_pick" ["_law_pen", "_law_options"] spPickS := cl_of fDPick X G (fun _ _ _ _ _ _ us hl => match us, hl with | [_, _], _ => rfl) fun f fd F => ok_pickS F BL DDraw
  have DWords : Cl l.prog w K mg base 3 "_law_words_of" ["_law_pen", "_law_many"] spWordsOf := cl_of fDWords X G (fun _ _ _ _ _ _ us hl => match us, hl with | [_, _], _ => rfl) fun f fd F => ok_words F B DPick DPickS
  have DNormal : Cl l.prog w K mg base 1 "_law_normal" ["_law_rows"] (spNormal K) := cl_of fDNormal X G (fun _ _ _ _ _ _ us hl => match us, hl with | [_], _ => rfl) fun f fd F => ok_normal F B
  have DNear : Cl l.prog w K mg base 3 "_law_near" ["_law_pen", "_law_world"] spNear := cl_of fDNear X G (fun _ _ _ _ _ _ us hl => match us, hl with | [_, _], _ => rfl) fun f fd F => ok_near F DDraw DPick
  have DStr : Cl l.prog w K mg base 4 "_law_stretches" ["_law_pen", "_law_world", "_law_most"] spStr := cl_of fDStr X G (fun _ _ _ _ _ _ us hl => match us, hl with | [_, _, _], _ => rfl) fun f fd F => ok_stretches F B DDraw DNear DNormal
  have DWorth : Cl l.prog w K mg base 3 "_law_worth" ["_law_pen", "_law_world", "_law_line", "_law_other", "_law_rows", "_law_sign"] (spWorth K) := cl_of fDWorth X G (fun _ _ _ _ _ _ us hl => match us, hl with | [_, _, _, _, _, _], _ => rfl) fun f fd F => ok_worth F B DPick
  have DSlope : Cl l.prog w K mg base 3 "_law_slope_of" ["_law_pen", "_law_world"] spSlope := cl_of fDSlope X G (fun _ _ _ _ _ _ us hl => match us, hl with | [_, _], _ => rfl) fun f fd F => ok_slope F DPick
  have DNum : Cl l.prog w K mg base 4 "_law_number_clause" ["_law_pen", "_law_world", "_law_kind", "_law_f", "_law_rows", "_law_sign"] spNumCl := cl_of fDNum X G (fun _ _ _ _ _ _ us hl => match us, hl with | [_, _, _, _, _, _], _ => rfl) fun f fd F => ok_numcl F DDraw DPick DSlope DWorth
  have DClause : Cl l.prog w K mg base 5 "_law_clause_of" ["_law_pen", "_law_world"] spClOf := cl_of fDClause X G (fun _ _ _ _ _ _ us hl => match us, hl with | [_, _], _ => rfl) fun f fd F => ok_clof F DPick DStr DNum
  have DWorld : Cl l.prog w K mg base 6 "_law_world_of" ["_law_pen", "_law_small", "_law_most"] spWorldOf := cl_of fDWorld X G (fun _ _ _ _ _ _ us hl => match us, hl with | [_, _, _], _ => rfl) fun f fd F => ok_world F B DDraw DPick DWords DStr DClause
  have DMade : Cl l.prog w K mg base 6 "_law_made_of" ["_law_told"] (spMade CP C) := cl_of fDMade X G (fun _ _ _ _ _ _ us hl => match us, hl with | [_], _ => rfl) fun f fd F => ok_made F B PM M0 M1 M2 M3 M4 M5 M6
  have DRules : Cl l.prog w K mg base 7 "_law_rules_of" ["_law_world"] (spRulesOf K CR CP C) := cl_of fDRules X G (fun _ _ _ _ _ _ us hl => match us, hl with | [_], _ => rfl) fun f fd F => ok_rulesof F B RM DMade
  have LM : LMk l.prog w K mg base CL := lmk_of LT LL mLI
  have DIi : Cl l.prog w K mg base 1 "is_integer" ["value"] spIsInt := cl_of fDI X G (fun _ _ _ _ _ _ us hl => match us, hl with | [_], _ => rfl) fun f fd F => ok_isint F LT
  have A1 : Md l.prog w K mg base 3 CL (PySem.dunder (Operator.info .Add).2) (spLAdd CL) := md_of hA1 (ps := ["self", "other"]) (fun _ _ _ _ _ _ us hl => match us, hl with | [_, _], _ => rfl) fun f fd F => ok_ladd F LM DIi
  have N1 : Md l.prog w K mg base 3 CL "__neg__" (spLNeg CL) := md_of hN1 (ps := ["self"]) (fun _ _ _ _ _ _ us hl => match us, hl with | [_], _ => rfl) fun f fd F => ok_lneg F LM
  have S1 : Md l.prog w K mg base 4 CL (PySem.dunder (Operator.info .Sub).2) (spLSub CL) := md_of hS1 (ps := ["self", "other"]) (fun _ _ _ _ _ _ us hl => match us, hl with | [_, _], _ => rfl) fun f fd F => ok_lsub F LM DIi A1 bA N1
  have U1 : Md l.prog w K mg base 3 CL (PySem.dunder (Operator.info .Mult).2) (spLMul CL) := md_of hU1 (ps := ["self", "other"]) (fun _ _ _ _ _ _ us hl => match us, hl with | [_, _], _ => rfl) fun f fd F => ok_lmul F LM DIi
  have DIS : Cl l.prog w K mg base 1 "is_string" ["value", "text"] (spStrIs K) := cl_of fDIS X G (fun _ _ _ _ _ _ us hl => match us, hl with | [_, _], _ => rfl) fun f fd F => ok_isstr F LT (none z_str)
  have DSL : Cl l.prog w K mg base 3 "spot_line" ["value"] (spSpotLine CL) := cl_of fDSL X G (fun _ _ _ _ _ _ us hl => match us, hl with | [_], _ => rfl) fun f fd F => ok_spotline F LM (none Z.tup) (none Z.list) (none Z.len) DI DIS
  have DVA : Cl l.prog w K mg base 1 "value_at" ["line", "x"] (spValAt CL) := cl_of fDVA X G (fun _ _ _ _ _ _ us hl => match us, hl with | [_, _], _ => rfl) fun f fd F => ok_valat F LT
  have DHL : Cl l.prog w K mg base 5 "hop_line" ["rules", "hop"] (spHopLine K CR CP CL C) := cl_of fDHL X G (fun _ _ _ _ _ _ us hl => match us, hl with | [_, _], _ => rfl) fun f fd F => ok_hopline F RT CT LT DSL A1 bA S1 U1 bM N1
  have ST : STxt K mg CS := ⟨⟨LSM.pg, LSM.hd, LSM.po, LSM.sa⟩, LSM.no _ (by simp), LSM.no _ (by simp), PySem.W.mg_of X G LSM.aC⟩
  have HT : HTxt K mg CH := ⟨⟨LHM.pg, LHM.hd, LHM.po, LHM.sa⟩, LHM.no, PySem.W.mg_of X G LHM.aC⟩
  have SM : XMk l.prog w K mg base CS "Stretch" ["self", "first", "last"] (spSInit CS) := ⟨by
    obtain ⟨f, fd, F, a, b, c⟩ := mSM.ex
    exact ⟨f, fd, ⟨LSM.mks, a, b, LSM.kc⟩, ok_sinit F ST, F.binds (fun _ _ _ _ _ _ us hl => match us, hl with | [_, _, _], _ => rfl)⟩, PySem.W.mg_of X G LSM.aC⟩
  have HM : XMk l.prog w K mg base CH "Hop" ["self", "start", "begin", "goal", "end", "calls"] (spHInit CH) := ⟨by
    obtain ⟨f, fd, F, a, b, c⟩ := mHM.ex
    exact ⟨f, fd, ⟨LHM.mks, a, b, LHM.kc⟩, ok_hinit F HT, F.binds (fun _ _ _ _ _ _ us hl => match us, hl with | [_, _, _, _, _, _], _ => rfl)⟩, PySem.W.mg_of X G LHM.aC⟩
  have NV : Mt l.prog w K mg base 2 CS "never_above" ["self", "one", "other"] (spNever CS CL) := mt_of hNV (ps := ["self", "one", "other"]) (fun _ _ _ _ _ _ us hl => match us, hl with | [_, _, _], _ => rfl) fun f fd F => ok_never F ST DVA
  have AL : Mt l.prog w K mg base 3 CS "always_same" ["self", "one", "other"] (spAlways CS CL) := mt_of hAL (ps := ["self", "one", "other"]) (fun _ _ _ _ _ _ us hl => match us, hl with | [_, _, _], _ => rfl) fun f fd F => ok_always F ST NV
  have SW : Mt l.prog w K mg base 3 CS "swept_within" ["self", "low", "high", "places"] (spSwept CS CL CP) := mt_of hSW (ps := ["self", "low", "high", "places"]) (fun _ _ _ _ _ _ us hl => match us, hl with | [_, _, _, _], _ => rfl) fun f fd F => ok_swept F ST PT DVA CON RK
  obtain ⟨fPL, fdPL, FPL, ePL⟩ := fPL0.ex
  have gPL : mg "place_line" = some (.ref fPL) := PySem.W.mg_of X G ePL
  have PLok : FnOk l.prog w K mg base CX0 3 fPL fdPL ["value"] (spPlaceLine K CL) := ok_placeline FPL LM DI
  have DSq : Cl l.prog w K mg base 1 "is_sequence" ["value", "many"] (spIsSeq K) := cl_of fDSq X G (fun _ _ _ _ _ _ us hl => match us, hl with | [_, _], _ => rfl) fun f fd F => ok_isseq F LT (none Z.tup) (none Z.list) (none Z.len)
  have DNa : Cl l.prog w K mg base 1 "_names" ["value", "function"] spNames := cl_of fDNa X G (fun _ _ _ _ _ _ us hl => match us, hl with | [_, _], _ => rfl) fun f fd F => ok_names F LT (none z_str)
  have DSt : Cl l.prog w K mg base 4 "_step_calls" ["clause", "begin", "end", "stretch"] (spStepC CS CL CP C) := cl_of fDSt X G (fun _ _ _ _ _ _ us hl => match us, hl with | [_, _, _, _], _ => rfl) fun f fd F => ok_stepc F CT ST LT A1 bA NV
  have DUp : Cl l.prog w K mg base 2 "_upright_calls" ["clause", "start", "goal", "place"] (spUprC CL CP C) := cl_of fDUp X G (fun _ _ _ _ _ _ us hl => match us, hl with | [_, _, _, _], _ => rfl) fun f fd F => ok_uprc F CT TO DNa
  have DRH : Cl l.prog w K mg base 5 "read_hop" ["rules", "value", "stretch", "reader"] (spReadHop K CR CP CS CH CL fPL C) := cl_of fDRH X G (fun _ _ _ _ _ _ us hl => match us, hl with | [_, _, _, _], _ => rfl) fun f fd F => ok_readhop F CT RT ST LT (none Z.len) (none z_all) HM DSq DI PLok FPL.kp (FPL.binds (fun _ _ _ _ _ _ us hl => match us, hl with | [_], _ => rfl)) DNa DSt DUp AL SW
  have DHC : Cl l.prog w K mg base 6 "hop_cost" ["rules", "hop"] (spHopCost K CR CP C) := cl_of fDHC X G (fun _ _ _ _ _ _ us hl => match us, hl with | [_, _], _ => rfl) fun f fd F => ok_hopcost F SM gPL DRH DHL DVA
  have DLIn : Cl l.prog w K mg base 1 "_law_in" ["_law_rows", "_law_first", "_law_last"] (spLIn K) := cl_of fDLIn X G (fun _ _ _ _ _ _ us hl => match us, hl with | [_, _, _], _ => rfl) fun f fd F => ok_lin F (none z_any)
  have DLPl : Cl l.prog w K mg base 1 "_law_is_place" ["_law_world", "_law_value"] spLPl := cl_of fDLPl X G (fun _ _ _ _ _ _ us hl => match us, hl with | [_, _], _ => rfl) fun f fd F => ok_lpl F (none Z.isi) (none Z.int) (none Z.bool)
  have DLIx : Cl l.prog w K mg base 1 "_law_is_index" ["_law_world", "_law_value"] spLIx := cl_of fDLIx X G (fun _ _ _ _ _ _ us hl => match us, hl with | [_, _], _ => rfl) fun f fd F => ok_lix F (none Z.isi) (none Z.int) (none Z.bool) (none Z.len)
  have DLSt : Cl l.prog w K mg base 2 "_law_step_cost" ["_law_clause", "_law_f", "_law_p", "_law_g", "_law_q"] spLStep := cl_of fDLSt X G (fun _ _ _ _ _ _ us hl => match us, hl with | [_, _, _, _, _], _ => rfl) fun f fd F => ok_lstep F DLIn
  have DLHo : Cl l.prog w K mg base 3 "_law_hop_cost" ["_law_world", "_law_hop"] (spLHop K) := cl_of fDLHo X G (fun _ _ _ _ _ _ us hl => match us, hl with | [_, _], _ => rfl) fun f fd F => ok_lhop F (none Z.isi) (none Z.tup) (none Z.list) (none Z.len) DLIx DLPl DLSt DLIn
  have DHO : Cl l.prog w K mg base 3 "_law_hop_of" ["_law_pen", "_law_world", "_law_index"] spHopOf := cl_of fDHO X G (fun _ _ _ _ _ _ us hl => match us, hl with | [_, _, _], _ => rfl) fun f fd F => ok_hopof F DDraw DPick
  have DBe : Cl l.prog w K mg base 2 "_law_bent" ["_law_pen", "_law_world", "_law_hop"] (spBent K) := cl_of fDBe X G (fun _ _ _ _ _ _ us hl => match us, hl with | [_, _, _], _ => rfl) fun f fd F => ok_bent F B DDraw
  exact ok_law F B DPen DDraw DPick DWorld DRules DHO DBe DHC DLHo
end OR
namespace PySem.W.Fast
def tw855346157040350132 : Nat := 0
theorem te855346157040350132 : True := trivial
def tw15931532972610742307 : Nat := 0
theorem te15931532972610742307 : True := trivial
def tw14981143265217507808 : Nat := 0
theorem te14981143265217507808 : True := trivial
def tw14103379810850218615 : Nat := 0
theorem te14103379810850218615 : True := trivial
end PySem.W.Fast
open PySem PySem.W PyProof.Rows
set_option maxRecDepth 100000 in
set_option maxHeartbeats 0 in
theorem PySem.Challenge.cw_openranges_k32_hop_costs_holds : PySem.Challenge.rw_openranges_k32_hop_costs.Holds := by
  w_on; o_law; o_head (kHook OR.K32 (nat_lit 2 :: nat_lit 3 :: nat_lit 249 :: nat_lit 250 :: nat_lit 256 :: nat_lit 257 :: nat_lit 293 :: nat_lit 294 :: nat_lit 298 :: nat_lit 299 :: nat_lit 319 :: nat_lit 320 :: nat_lit 375 :: nat_lit 376 :: nat_lit 389 :: nat_lit 390 :: nat_lit 432 :: nat_lit 435 :: nat_lit 436 :: nat_lit 453 :: nat_lit 454 :: nat_lit 458 :: nat_lit 459 :: nat_lit 465 :: nat_lit 466 :: nat_lit 472 :: nat_lit 473 :: nat_lit 512 :: nat_lit 513 :: nat_lit 533 :: nat_lit 534 :: nat_lit 547 :: nat_lit 548 :: nat_lit 554 :: nat_lit 555 :: nat_lit 568 :: nat_lit 569 :: nat_lit 599 :: nat_lit 600 :: nat_lit 617 :: nat_lit 618 :: nat_lit 624 :: nat_lit 625 :: nat_lit 631 :: nat_lit 632 :: nat_lit 638 :: nat_lit 639 :: nat_lit 645 :: nat_lit 646 :: nat_lit 659 :: nat_lit 660 :: nat_lit 666 :: nat_lit 667 :: nat_lit 673 :: nat_lit 674 :: nat_lit 680 :: nat_lit 681 :: nat_lit 697 :: nat_lit 698 :: nat_lit 715 :: nat_lit 716 :: nat_lit 718 :: nat_lit 719 :: nat_lit 729 :: nat_lit 730 :: nat_lit 734 :: nat_lit 735 :: nat_lit 741 :: nat_lit 742 :: nat_lit 746 :: nat_lit 747 :: nat_lit 753 :: nat_lit 754 :: nat_lit 760 :: nat_lit 761 :: nat_lit 765 :: nat_lit 766 :: nat_lit 772 :: nat_lit 773 :: nat_lit 779 :: nat_lit 780 :: nat_lit 786 :: nat_lit 787 :: nat_lit 788 :: nat_lit 789 :: nat_lit 802 :: nat_lit 803 :: nat_lit 816 :: nat_lit 817 :: nat_lit 854 :: nat_lit 855 :: nat_lit 872 :: nat_lit 873 :: nat_lit 886 :: nat_lit 887 :: nat_lit 924 :: nat_lit 925 :: nat_lit 942 :: nat_lit 943 :: nat_lit 956 :: nat_lit 957 :: nat_lit 994 :: nat_lit 995 :: nat_lit 1012 :: nat_lit 1013 :: nat_lit 1026 :: nat_lit 1027 :: nat_lit 1064 :: nat_lit 1065 :: nat_lit 1082 :: nat_lit 1083 :: nat_lit 1103 :: nat_lit 1104 :: nat_lit 1141 :: nat_lit 1142 :: nat_lit 1159 :: nat_lit 1160 :: nat_lit 1180 :: nat_lit 1181 :: nat_lit 1218 :: nat_lit 1219 :: nat_lit 1236 :: nat_lit 1237 :: nat_lit 1250 :: nat_lit 1251 :: nat_lit 1288 :: nat_lit 1289 :: nat_lit 1299 :: nat_lit 1300 :: nat_lit 1327 :: nat_lit 1328 :: nat_lit 1337 :: nat_lit 1338 :: nat_lit 1348 :: nat_lit 1349 :: nat_lit 1355 :: nat_lit 1356 :: nat_lit 1362 :: nat_lit 1363 :: nat_lit 1369 :: nat_lit 1370 :: nat_lit 1376 :: nat_lit 1377 :: nat_lit 1381 :: nat_lit 1382 :: nat_lit 1386 :: nat_lit 1387 :: nat_lit 1393 :: nat_lit 1394 :: nat_lit 1400 :: nat_lit 1401 :: nat_lit 1405 :: nat_lit 1406 :: nat_lit 1412 :: nat_lit 1413 :: nat_lit 1417 :: nat_lit 1418 :: nat_lit 1422 :: nat_lit 1423 :: nat_lit 1429 :: nat_lit 1430 :: nat_lit 1436 :: nat_lit 1437 :: nat_lit 1441 :: nat_lit 1442 :: nat_lit 1446 :: nat_lit 1447 :: nat_lit 1453 :: nat_lit 1454 :: nat_lit 1460 :: nat_lit 1461 :: nat_lit 1467 :: nat_lit 1468 :: nat_lit 1474 :: nat_lit 1475 :: nat_lit 1481 :: nat_lit 1482 :: nat_lit 1488 :: nat_lit 1489 :: nat_lit 1495 :: nat_lit 1496 :: []) (fun _ => by kernel_rfl)); (case hw => w_witness2)
  k_fill
  refine OR.walk_ofX (l := PySem.Challenge.rw_openranges_k32_hop_costs) (n := 63) (k := 8) (x := "_law_script") (CX := fun _ => L2.CX0) (sp := fun w => OR.spLaw _) rfl (by decide) rfl ⟨rfl, by decide, by decide⟩ (fun w h Y => PySem.W.kIn_of Y) ?F (fun _ _ a ns hl _ hS => ⟨a, ns, rfl, hS, hl, fun _ => rfl⟩) (fun _ _ _ _ _ h => h)
  case F =>
    intro w mg fa h KX G XL hmg
    refine' OR.all_mk KX G hmg ?L ?LR ?LL ?LSM ?LHM ?Z ?z_str ?z_all ?z_any ?lp ?let_ ?most ?tS ?tW ?mfun ?mcl ?k0 ?k1 ?k2 ?k3 ?k4 ?k5 ?k6 ?k7 ?mI ?fDI ?fDP ?fDS ?fDJ ?fDC ?fDHow ?hCON ?hRK ?hGRP ?fIW ?fCW ?fCT2 ?fDSg ?mI0 ?hmT0 ?mI1 ?hmT1 ?mI2 ?hmT2 ?mI3 ?hmT3 ?mI4 ?hmT4 ?mI5 ?hmT5 ?mI6 ?hmT6 ?fIC ?fKF ?fCF ?mIR ?fDPen ?fDDraw ?fDPick ?fDWords ?fDNormal ?fDNear ?fDStr ?fDWorth ?fDSlope ?fDNum ?fDClause ?fDWorld ?fDMade ?fDRules ?mLI ?bA ?bM ?hA1 ?hN1 ?hS1 ?hU1 ?fDIS ?fDSL ?fDVA ?fDHL ?mSM ?mHM ?hNV ?hAL ?hSW ?fPL0 ?fDSq ?fDNa ?fDSt ?fDUp ?fDRH ?fDHC ?fDLIn ?fDLPl ?fDLIx ?fDLSt ?fDLHo ?fDHO ?fDBe ?fLaw
    case lp => exact OR.lp_of XL (by first | exact List.Mem.head _ | exact .tail _ (.head _) | exact .tail _ (.tail _ (.head _)))
    all_goals try clear hmg XL
    case L =>
      refine' OR.PAt.mk ?aC ?pg ?hd ?po ?sa ?mks ?kc ?nS ?nF ?nB ?ca ?cn ?ct ?cm ?ne ?sT ?sL ?kPP ?kT ?kL ?sf
      (case aC => k_is); (case pg => k_is); (case hd => k_is); (case po => k_is); (case sa => k_is); (case mks => k_is); (case kc => k_is); (case nS => k_is); (case nF => k_is); (case nB => k_is); (case ca => k_is); (case cn => k_is); (case ct => k_is); (case cm => k_is); (case ne => k_is); (case sT => k_is); (case sL => k_is); (case kPP => kit_is); (case kT => kit_is); (case kL => kit_is); (case sf => k_is)
    case LR =>
      refine' OR.RAt.mk ?aC ?pg ?hd ?po ?sa ?mks ?kc ?nF ?nL ?nT ?ca ?cn ?ct ?cm ?ne ?kRR ?kTup ?kInt ?nTup ?nInt
      (case aC => k_is); (case pg => k_is); (case hd => k_is); (case po => k_is); (case sa => k_is); (case mks => k_is); (case kc => k_is); (case nF => k_is); (case nL => k_is); (case nT => k_is); (case ca => k_is); (case cn => k_is); (case ct => k_is); (case cm => k_is); (case ne => k_is); (case kRR => kit_is); (case kTup => kit_is); (case kInt => kit_is); (case nTup => k_is); (case nInt => k_is)
    case LL =>
      refine' OR.LAt.mk ?aC ?pg ?hd ?po ?sa ?mks ?kc ?nS ?nH ?sf ?ca ?cn ?ct ?cm ?ne ?nt ?kLL ?kIL ?kTL
      (case aC => k_is); (case pg => k_is); (case hd => k_is); (case po => k_is); (case sa => k_is); (case mks => k_is); (case kc => k_is); (case nS => k_is); (case nH => k_is); (case sf => k_is); (case ca => k_is); (case cn => k_is); (case ct => k_is); (case cm => k_is); (case ne => k_is); (case nt => k_is); (case kLL => kit_is); (case kIL => kit_is); (case kTL => kit_is)
    case LSM =>
      refine' OR.XAt.mk ?aC ?pg ?hd ?po ?sa ?mks ?kc ?no
      (case aC => k_is); (case pg => k_is); (case hd => k_is); (case po => k_is); (case sa => k_is); (case mks => k_is); (case kc => k_is); (case no => refine' OR.fa1 ?n0 (OR.fa1 ?n1 (OR.fa0)); (case n0 => k_is); (case n1 => k_is))
    case LHM =>
      refine' OR.XAt.mk ?aC ?pg ?hd ?po ?sa ?mks ?kc ?no
      (case aC => k_is); (case pg => k_is); (case hd => k_is); (case po => k_is); (case sa => k_is); (case mks => k_is); (case kc => k_is); (case no => refine' OR.fa1 ?n0 (OR.fa1 ?n1 (OR.fa1 ?n2 (OR.fa1 ?n3 (OR.fa1 ?n4 (OR.fa0))))); (case n0 => k_is); (case n1 => k_is); (case n2 => k_is); (case n3 => k_is); (case n4 => k_is))
    case Z =>
      refine' OR.ZAt.mk ?isi ?int ?bool ?tup ?list ?len ?max ?min ?sorted ?enum ?range ?set ?abs
      (case isi => k_is); (case int => k_is); (case bool => k_is); (case tup => k_is); (case list => k_is); (case len => k_is); (case max => k_is); (case min => k_is); (case sorted => k_is); (case enum => k_is); (case range => k_is); (case set => k_is); (case abs => k_is)
    case z_str => k_is
    case z_all => k_is
    case z_any => k_is

    case let_ => exact ⟨_, by k_is⟩
    case most => exact ⟨_, by k_is⟩
    case mfun => exact ⟨_, by k_is⟩
    case mcl => exact ⟨_, by k_is⟩
    case tS => refine' OR.tp3 KX ?a ?l; (case a => k_is); (case l => k_is)
    case tW => refine' OR.tp2 KX ?a ?l; (case a => k_is); (case l => k_is)
    case k0 =>
      refine' OR.CAt.mk ?aC ?pg ?hd ?po ?sa ?mks ?kc ?no ?sf ?ca ?cn ?ct ?cm ?ne ?kS ?kT ?nS ?nT
      (case aC => k_is); (case pg => k_is); (case hd => k_is); (case po => k_is); (case sa => k_is); (case mks => k_is); (case kc => k_is); (case no => refine' OR.fa1 ?n0 (OR.fa1 ?n1 (OR.fa1 ?n2 (OR.fa0))); (case n0 => k_is); (case n1 => k_is); (case n2 => k_is)); (case sf => k_is); (case ca => k_is); (case cn => k_is); (case ct => k_is); (case cm => k_is); (case ne => k_is); (case kS => kit_is); (case kT => kit_is); (case nS => k_is); (case nT => k_is)
    case k1 =>
      refine' OR.CAt.mk ?aC ?pg ?hd ?po ?sa ?mks ?kc ?no ?sf ?ca ?cn ?ct ?cm ?ne ?kS ?kT ?nS ?nT
      (case aC => k_is); (case pg => k_is); (case hd => k_is); (case po => k_is); (case sa => k_is); (case mks => k_is); (case kc => k_is); (case no => refine' OR.fa1 ?n0 (OR.fa1 ?n1 (OR.fa1 ?n2 (OR.fa0))); (case n0 => k_is); (case n1 => k_is); (case n2 => k_is)); (case sf => k_is); (case ca => k_is); (case cn => k_is); (case ct => k_is); (case cm => k_is); (case ne => k_is); (case kS => kit_is); (case kT => kit_is); (case nS => k_is); (case nT => k_is)
    case k2 =>
      refine' OR.CAt.mk ?aC ?pg ?hd ?po ?sa ?mks ?kc ?no ?sf ?ca ?cn ?ct ?cm ?ne ?kS ?kT ?nS ?nT
      (case aC => k_is); (case pg => k_is); (case hd => k_is); (case po => k_is); (case sa => k_is); (case mks => k_is); (case kc => k_is); (case no => refine' OR.fa1 ?n0 (OR.fa1 ?n1 (OR.fa1 ?n2 (OR.fa1 ?n3 (OR.fa0)))); (case n0 => k_is); (case n1 => k_is); (case n2 => k_is); (case n3 => k_is)); (case sf => k_is); (case ca => k_is); (case cn => k_is); (case ct => k_is); (case cm => k_is); (case ne => k_is); (case kS => kit_is); (case kT => kit_is); (case nS => k_is); (case nT => k_is)
    case k3 =>
      refine' OR.CAt.mk ?aC ?pg ?hd ?po ?sa ?mks ?kc ?no ?sf ?ca ?cn ?ct ?cm ?ne ?kS ?kT ?nS ?nT
      (case aC => k_is); (case pg => k_is); (case hd => k_is); (case po => k_is); (case sa => k_is); (case mks => k_is); (case kc => k_is); (case no => refine' OR.fa1 ?n0 (OR.fa1 ?n1 (OR.fa1 ?n2 (OR.fa1 ?n3 (OR.fa0)))); (case n0 => k_is); (case n1 => k_is); (case n2 => k_is); (case n3 => k_is)); (case sf => k_is); (case ca => k_is); (case cn => k_is); (case ct => k_is); (case cm => k_is); (case ne => k_is); (case kS => kit_is); (case kT => kit_is); (case nS => k_is); (case nT => k_is)
    case k4 =>
      refine' OR.CAt.mk ?aC ?pg ?hd ?po ?sa ?mks ?kc ?no ?sf ?ca ?cn ?ct ?cm ?ne ?kS ?kT ?nS ?nT
      (case aC => k_is); (case pg => k_is); (case hd => k_is); (case po => k_is); (case sa => k_is); (case mks => k_is); (case kc => k_is); (case no => refine' OR.fa1 ?n0 (OR.fa1 ?n1 (OR.fa1 ?n2 (OR.fa1 ?n3 (OR.fa1 ?n4 (OR.fa1 ?n5 (OR.fa0)))))); (case n0 => k_is); (case n1 => k_is); (case n2 => k_is); (case n3 => k_is); (case n4 => k_is); (case n5 => k_is)); (case sf => k_is); (case ca => k_is); (case cn => k_is); (case ct => k_is); (case cm => k_is); (case ne => k_is); (case kS => kit_is); (case kT => kit_is); (case nS => k_is); (case nT => k_is)
    case k5 =>
      refine' OR.CAt.mk ?aC ?pg ?hd ?po ?sa ?mks ?kc ?no ?sf ?ca ?cn ?ct ?cm ?ne ?kS ?kT ?nS ?nT
      (case aC => k_is); (case pg => k_is); (case hd => k_is); (case po => k_is); (case sa => k_is); (case mks => k_is); (case kc => k_is); (case no => refine' OR.fa1 ?n0 (OR.fa1 ?n1 (OR.fa1 ?n2 (OR.fa1 ?n3 (OR.fa1 ?n4 (OR.fa1 ?n5 (OR.fa1 ?n6 (OR.fa0))))))); (case n0 => k_is); (case n1 => k_is); (case n2 => k_is); (case n3 => k_is); (case n4 => k_is); (case n5 => k_is); (case n6 => k_is)); (case sf => k_is); (case ca => k_is); (case cn => k_is); (case ct => k_is); (case cm => k_is); (case ne => k_is); (case kS => kit_is); (case kT => kit_is); (case nS => k_is); (case nT => k_is)
    case k6 =>
      refine' OR.CAt.mk ?aC ?pg ?hd ?po ?sa ?mks ?kc ?no ?sf ?ca ?cn ?ct ?cm ?ne ?kS ?kT ?nS ?nT
      (case aC => k_is); (case pg => k_is); (case hd => k_is); (case po => k_is); (case sa => k_is); (case mks => k_is); (case kc => k_is); (case no => refine' OR.fa1 ?n0 (OR.fa1 ?n1 (OR.fa1 ?n2 (OR.fa1 ?n3 (OR.fa1 ?n4 (OR.fa0))))); (case n0 => k_is); (case n1 => k_is); (case n2 => k_is); (case n3 => k_is); (case n4 => k_is)); (case sf => k_is); (case ca => k_is); (case cn => k_is); (case ct => k_is); (case cm => k_is); (case ne => k_is); (case kS => kit_is); (case kT => kit_is); (case nS => k_is); (case nT => k_is)
    case k7 =>
      refine' OR.K7.mk ?q00 ?q01 ?q02 ?q03 ?q04 ?q05 ?q06 ?q10 ?q11 ?q12 ?q13 ?q14 ?q15 ?q16 ?q20 ?q21 ?q22 ?q23 ?q24 ?q25 ?q26 ?q30 ?q31 ?q32 ?q33 ?q34 ?q35 ?q36 ?q40 ?q41 ?q42 ?q43 ?q44 ?q45 ?q46 ?q50 ?q51 ?q52 ?q53 ?q54 ?q55 ?q56 ?q60 ?q61 ?q62 ?q63 ?q64 ?q65 ?q66 ?s01 ?s02 ?s03 ?s04 ?s05 ?s06 ?s10 ?s12 ?s13 ?s14 ?s15 ?s16 ?s20 ?s21 ?s23 ?s24 ?s25 ?s26 ?s30 ?s31 ?s32 ?s34 ?s35 ?s36 ?s40 ?s41 ?s42 ?s43 ?s45 ?s46 ?s50 ?s51 ?s52 ?s53 ?s54 ?s56 ?s60 ?s61 ?s62 ?s63 ?s64 ?s65
      (case q00 => kit_is); (case q01 => kit_is); (case q02 => kit_is); (case q03 => kit_is); (case q04 => kit_is); (case q05 => kit_is); (case q06 => kit_is); (case q10 => kit_is); (case q11 => kit_is); (case q12 => kit_is); (case q13 => kit_is); (case q14 => kit_is); (case q15 => kit_is); (case q16 => kit_is); (case q20 => kit_is); (case q21 => kit_is); (case q22 => kit_is); (case q23 => kit_is); (case q24 => kit_is); (case q25 => kit_is); (case q26 => kit_is); (case q30 => kit_is); (case q31 => kit_is); (case q32 => kit_is); (case q33 => kit_is); (case q34 => kit_is); (case q35 => kit_is); (case q36 => kit_is); (case q40 => kit_is); (case q41 => kit_is); (case q42 => kit_is); (case q43 => kit_is); (case q44 => kit_is); (case q45 => kit_is); (case q46 => kit_is); (case q50 => kit_is); (case q51 => kit_is); (case q52 => kit_is); (case q53 => kit_is); (case q54 => kit_is); (case q55 => kit_is); (case q56 => kit_is); (case q60 => kit_is); (case q61 => kit_is); (case q62 => kit_is); (case q63 => kit_is); (case q64 => kit_is); (case q65 => kit_is); (case q66 => kit_is)
      (case s01 => k_is); (case s02 => k_is); (case s03 => k_is); (case s04 => k_is); (case s05 => k_is); (case s06 => k_is); (case s10 => k_is); (case s12 => k_is); (case s13 => k_is); (case s14 => k_is); (case s15 => k_is); (case s16 => k_is); (case s20 => k_is); (case s21 => k_is); (case s23 => k_is); (case s24 => k_is); (case s25 => k_is); (case s26 => k_is); (case s30 => k_is); (case s31 => k_is); (case s32 => k_is); (case s34 => k_is); (case s35 => k_is); (case s36 => k_is); (case s40 => k_is); (case s41 => k_is); (case s42 => k_is); (case s43 => k_is); (case s45 => k_is); (case s46 => k_is); (case s50 => k_is); (case s51 => k_is); (case s52 => k_is); (case s53 => k_is); (case s54 => k_is); (case s56 => k_is); (case s60 => k_is); (case s61 => k_is); (case s62 => k_is); (case s63 => k_is); (case s64 => k_is); (case s65 => k_is)
    case mI => refine' OR.mtD KX ?a ?l ?lT ?l0 ?c ?k ?i; (case a => k_is); (case l => k_is); (case lT => k_is); (case l0 => k_is); (case c => k_is); (case k => k_is); (case i => k_is)
    case fDI => refine' OR.fnAt KX ?a ?l ?c ?k; (case a => k_is); (case l => k_is); (case c => k_is); (case k => k_is)
    case fDP => refine' OR.fnAt KX ?a ?l ?c ?k; (case a => k_is); (case l => k_is); (case c => k_is); (case k => k_is)
    case fDS => refine' OR.fnAt KX ?a ?l ?c ?k; (case a => k_is); (case l => k_is); (case c => k_is); (case k => k_is)
    case fDJ => refine' OR.fnAt KX ?a ?l ?c ?k; (case a => k_is); (case l => k_is); (case c => k_is); (case k => k_is)
    case fDC => refine' OR.fnAt KX ?a ?l ?c ?k; (case a => k_is); (case l => k_is); (case c => k_is); (case k => k_is)
    case fDHow => refine' OR.fnAt KX ?a ?l ?c ?k; (case a => k_is); (case l => k_is); (case c => k_is); (case k => k_is)
    case hCON => refine' OR.mtAt KX ?a ?l ?c ?k ?i ?nn; (case a => k_is); (case l => k_is); (case c => k_is); (case k => k_is); (case i => k_is); (case nn => k_is)
    case hRK => refine' OR.mtAt KX ?a ?l ?c ?k ?i ?nn; (case a => k_is); (case l => k_is); (case c => k_is); (case k => k_is); (case i => k_is); (case nn => k_is)
    case hGRP => refine' OR.mtAt KX ?a ?l ?c ?k ?i ?nn; (case a => k_is); (case l => k_is); (case c => k_is); (case k => k_is); (case i => k_is); (case nn => k_is)
    case fIW => refine' OR.fnAt KX ?a ?l ?c ?k; (case a => k_is); (case l => k_is); (case c => k_is); (case k => k_is)
    case fCW => refine' OR.fnAt KX ?a ?l ?c ?k; (case a => k_is); (case l => k_is); (case c => k_is); (case k => k_is)
    case fCT2 => refine' OR.fnAt KX ?a ?l ?c ?k; (case a => k_is); (case l => k_is); (case c => k_is); (case k => k_is)
    case fDSg => refine' OR.fnAt KX ?a ?l ?c ?k; (case a => k_is); (case l => k_is); (case c => k_is); (case k => k_is)
    case mI0 => refine' OR.mtAt KX ?a ?l ?c ?k ?i ?nn; (case a => k_is); (case l => k_is); (case c => k_is); (case k => k_is); (case i => k_is); (case nn => k_is)
    case hmT0 => refine' OR.mtAt KX ?a ?l ?c ?k ?i ?nn; (case a => k_is); (case l => k_is); (case c => k_is); (case k => k_is); (case i => k_is); (case nn => k_is)
    case mI1 => refine' OR.mtAt KX ?a ?l ?c ?k ?i ?nn; (case a => k_is); (case l => k_is); (case c => k_is); (case k => k_is); (case i => k_is); (case nn => k_is)
    case hmT1 => refine' OR.mtAt KX ?a ?l ?c ?k ?i ?nn; (case a => k_is); (case l => k_is); (case c => k_is); (case k => k_is); (case i => k_is); (case nn => k_is)
    case mI2 => refine' OR.mtAt KX ?a ?l ?c ?k ?i ?nn; (case a => k_is); (case l => k_is); (case c => k_is); (case k => k_is); (case i => k_is); (case nn => k_is)
    case hmT2 => refine' OR.mtAt KX ?a ?l ?c ?k ?i ?nn; (case a => k_is); (case l => k_is); (case c => k_is); (case k => k_is); (case i => k_is); (case nn => k_is)
    case mI3 => refine' OR.mtAt KX ?a ?l ?c ?k ?i ?nn; (case a => k_is); (case l => k_is); (case c => k_is); (case k => k_is); (case i => k_is); (case nn => k_is)
    case hmT3 => refine' OR.mtAt KX ?a ?l ?c ?k ?i ?nn; (case a => k_is); (case l => k_is); (case c => k_is); (case k => k_is); (case i => k_is); (case nn => k_is)
    case mI4 => refine' OR.mtAt KX ?a ?l ?c ?k ?i ?nn; (case a => k_is); (case l => k_is); (case c => k_is); (case k => k_is); (case i => k_is); (case nn => k_is)
    case hmT4 => refine' OR.mtAt KX ?a ?l ?c ?k ?i ?nn; (case a => k_is); (case l => k_is); (case c => k_is); (case k => k_is); (case i => k_is); (case nn => k_is)
    case mI5 => refine' OR.mtAt KX ?a ?l ?c ?k ?i ?nn; (case a => k_is); (case l => k_is); (case c => k_is); (case k => k_is); (case i => k_is); (case nn => k_is)
    case hmT5 => refine' OR.mtAt KX ?a ?l ?c ?k ?i ?nn; (case a => k_is); (case l => k_is); (case c => k_is); (case k => k_is); (case i => k_is); (case nn => k_is)
    case mI6 => refine' OR.mtAt KX ?a ?l ?c ?k ?i ?nn; (case a => k_is); (case l => k_is); (case c => k_is); (case k => k_is); (case i => k_is); (case nn => k_is)
    case hmT6 => refine' OR.mtAt KX ?a ?l ?c ?k ?i ?nn; (case a => k_is); (case l => k_is); (case c => k_is); (case k => k_is); (case i => k_is); (case nn => k_is)
    case fIC => refine' OR.fnAt KX ?a ?l ?c ?k; (case a => k_is); (case l => k_is); (case c => k_is); (case k => k_is)
    case fKF => refine' OR.fnAt KX ?a ?l ?c ?k; (case a => k_is); (case l => k_is); (case c => k_is); (case k => k_is)
    case fCF => refine' OR.fnAt KX ?a ?l ?c ?k; (case a => k_is); (case l => k_is); (case c => k_is); (case k => k_is)
    case mIR => refine' OR.mtAt KX ?a ?l ?c ?k ?i ?nn; (case a => k_is); (case l => k_is); (case c => k_is); (case k => k_is); (case i => k_is); (case nn => k_is)
    case fDPen => refine' OR.fnAt KX ?a ?l ?c ?k; (case a => k_is); (case l => k_is); (case c => k_is); (case k => k_is)
    case fDDraw => refine' OR.fnAt KX ?a ?l ?c ?k; (case a => k_is); (case l => k_is); (case c => k_is); (case k => k_is)
    case fDPick => refine' OR.fnAt KX ?a ?l ?c ?k; (case a => k_is); (case l => k_is); (case c => k_is); (case k => k_is)
    case fDWords => refine' OR.fnAt KX ?a ?l ?c ?k; (case a => k_is); (case l => k_is); (case c => k_is); (case k => k_is)
    case fDNormal => refine' OR.fnAt KX ?a ?l ?c ?k; (case a => k_is); (case l => k_is); (case c => k_is); (case k => k_is)
    case fDNear => refine' OR.fnAt KX ?a ?l ?c ?k; (case a => k_is); (case l => k_is); (case c => k_is); (case k => k_is)
    case fDStr => refine' OR.fnAt KX ?a ?l ?c ?k; (case a => k_is); (case l => k_is); (case c => k_is); (case k => k_is)
    case fDWorth => refine' OR.fnAt KX ?a ?l ?c ?k; (case a => k_is); (case l => k_is); (case c => k_is); (case k => k_is)
    case fDSlope => refine' OR.fnAt KX ?a ?l ?c ?k; (case a => k_is); (case l => k_is); (case c => k_is); (case k => k_is)
    case fDNum => refine' OR.fnAt KX ?a ?l ?c ?k; (case a => k_is); (case l => k_is); (case c => k_is); (case k => k_is)
    case fDClause => refine' OR.fnAt KX ?a ?l ?c ?k; (case a => k_is); (case l => k_is); (case c => k_is); (case k => k_is)
    case fDWorld => refine' OR.fnAt KX ?a ?l ?c ?k; (case a => k_is); (case l => k_is); (case c => k_is); (case k => k_is)
    case fDMade => refine' OR.fnAt KX ?a ?l ?c ?k; (case a => k_is); (case l => k_is); (case c => k_is); (case k => k_is)
    case fDRules => refine' OR.fnAt KX ?a ?l ?c ?k; (case a => k_is); (case l => k_is); (case c => k_is); (case k => k_is)
    case mLI => refine' OR.mtAt KX ?a ?l ?c ?k ?i ?nn; (case a => k_is); (case l => k_is); (case c => k_is); (case k => k_is); (case i => k_is); (case nn => k_is)
    case bA => refine' OR.binI_of KX ?a ?b ?c ?d; (case a => k_is); (case b => k_is); (case c => k_is); (case d => k_is)
    case bM => refine' OR.binI_of KX ?a ?b ?c ?d; (case a => k_is); (case b => k_is); (case c => k_is); (case d => k_is)
    case hA1 => refine' OR.mtAt KX ?a ?l ?c ?k ?i ?nn; (case a => k_is); (case l => k_is); (case c => k_is); (case k => k_is); (case i => k_is); (case nn => k_is)
    case hN1 => refine' OR.mtAt KX ?a ?l ?c ?k ?i ?nn; (case a => k_is); (case l => k_is); (case c => k_is); (case k => k_is); (case i => k_is); (case nn => k_is)
    case hS1 => refine' OR.mtAt KX ?a ?l ?c ?k ?i ?nn; (case a => k_is); (case l => k_is); (case c => k_is); (case k => k_is); (case i => k_is); (case nn => k_is)
    case hU1 => refine' OR.mtAt KX ?a ?l ?c ?k ?i ?nn; (case a => k_is); (case l => k_is); (case c => k_is); (case k => k_is); (case i => k_is); (case nn => k_is)
    case fDIS => refine' OR.fnAt KX ?a ?l ?c ?k; (case a => k_is); (case l => k_is); (case c => k_is); (case k => k_is)
    case fDSL => refine' OR.fnAt KX ?a ?l ?c ?k; (case a => k_is); (case l => k_is); (case c => k_is); (case k => k_is)
    case fDVA => refine' OR.fnAt KX ?a ?l ?c ?k; (case a => k_is); (case l => k_is); (case c => k_is); (case k => k_is)
    case fDHL => refine' OR.fnAt KX ?a ?l ?c ?k; (case a => k_is); (case l => k_is); (case c => k_is); (case k => k_is)
    case mSM => refine' OR.mtAt KX ?a ?l ?c ?k ?i ?nn; (case a => k_is); (case l => k_is); (case c => k_is); (case k => k_is); (case i => k_is); (case nn => k_is)
    case mHM => refine' OR.mtAt KX ?a ?l ?c ?k ?i ?nn; (case a => k_is); (case l => k_is); (case c => k_is); (case k => k_is); (case i => k_is); (case nn => k_is)
    case hNV => refine' OR.mtAt KX ?a ?l ?c ?k ?i ?nn; (case a => k_is); (case l => k_is); (case c => k_is); (case k => k_is); (case i => k_is); (case nn => k_is)
    case hAL => refine' OR.mtAt KX ?a ?l ?c ?k ?i ?nn; (case a => k_is); (case l => k_is); (case c => k_is); (case k => k_is); (case i => k_is); (case nn => k_is)
    case hSW => refine' OR.mtAt KX ?a ?l ?c ?k ?i ?nn; (case a => k_is); (case l => k_is); (case c => k_is); (case k => k_is); (case i => k_is); (case nn => k_is)
    case fPL0 => refine' OR.fnAt KX ?a ?l ?c ?k; (case a => k_is); (case l => k_is); (case c => k_is); (case k => k_is)
    case fDSq => refine' OR.fnAt KX ?a ?l ?c ?k; (case a => k_is); (case l => k_is); (case c => k_is); (case k => k_is)
    case fDNa => refine' OR.fnAt KX ?a ?l ?c ?k; (case a => k_is); (case l => k_is); (case c => k_is); (case k => k_is)
    case fDSt => refine' OR.fnAt KX ?a ?l ?c ?k; (case a => k_is); (case l => k_is); (case c => k_is); (case k => k_is)
    case fDUp => refine' OR.fnAt KX ?a ?l ?c ?k; (case a => k_is); (case l => k_is); (case c => k_is); (case k => k_is)
    case fDRH => refine' OR.fnAt KX ?a ?l ?c ?k; (case a => k_is); (case l => k_is); (case c => k_is); (case k => k_is)
    case fDHC => refine' OR.fnAt KX ?a ?l ?c ?k; (case a => k_is); (case l => k_is); (case c => k_is); (case k => k_is)
    case fDLIn => refine' OR.fnAt KX ?a ?l ?c ?k; (case a => k_is); (case l => k_is); (case c => k_is); (case k => k_is)
    case fDLPl => refine' OR.fnAt KX ?a ?l ?c ?k; (case a => k_is); (case l => k_is); (case c => k_is); (case k => k_is)
    case fDLIx => refine' OR.fnAt KX ?a ?l ?c ?k; (case a => k_is); (case l => k_is); (case c => k_is); (case k => k_is)
    case fDLSt => refine' OR.fnAt KX ?a ?l ?c ?k; (case a => k_is); (case l => k_is); (case c => k_is); (case k => k_is)
    case fDLHo => refine' OR.fnAt KX ?a ?l ?c ?k; (case a => k_is); (case l => k_is); (case c => k_is); (case k => k_is)
    case fDHO => refine' OR.fnAt KX ?a ?l ?c ?k; (case a => k_is); (case l => k_is); (case c => k_is); (case k => k_is)
    case fDBe => refine' OR.fnAt KX ?a ?l ?c ?k; (case a => k_is); (case l => k_is); (case c => k_is); (case k => k_is)
    case fLaw => refine' OR.fnAt KX ?a ?l ?c ?k; (case a => k_is); (case l => k_is); (case c => k_is); (case k => k_is)

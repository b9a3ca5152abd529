import PyProof.Rows.All
import Wide.All
import OpenK.AllK
import Wide.FinOn
import HandS.ForMost
import HandS.Wide
import HandS.IsInst
import HandS.TupAny
import HandS.TupLe
import HandS.Star
import HandS.Evl
import HandS.SortRule
import HandS.NoneIn
import HandS.Defaults
import HandS.TupSets
import HandS.Keys
import HandS.Small
import KE.KOpsOwn
import HandS.SlotsOwn
import KE.RegKIsAll
import PyProof.Draws
import HandS.ForExc
import HandS.Text
import HandS.FStr
import HandS.StrMore
import HandS.MapJoin
import HandS.Style
import HandS.Records
import HandS.Rev
import HandS.Flow
import HandS.WideBits
import HandS.CallLocal
import HandS.Codes
import HandS.ExcField
import HandS.ExcInit
import HandS.ExcIs
import HandS.ExcOwn
import KE.KExcIs
import PySem.Challenge.RW_openranges_k12_clauses_turned
set_option Elab.async false
set_option linter.all false
set_option maxRecDepth 100000
namespace OR
open PySem PySem.Spec PyProof.Rows L2
def top (i : Nat) : Stmt := PySem.Challenge.pw_openranges_k12_clauses_turned.main.body.getD i (.Pass ⟨0, 0, 0, 0⟩)
abbrev sIsInt : Stmt := top 5
abbrev sIsPlace : Stmt := top 6
abbrev sDec : Stmt := top 7
abbrev sRise : Stmt := top 12
abbrev sIsWord : Stmt := top 25
abbrev sChkW : Stmt := top 26
abbrev sChkTwo : Stmt := top 27
abbrev sChkSign : Stmt := top 28
abbrev sBegin : Stmt := top 41
abbrev sAdded : Stmt := top 42
abbrev sIsStretch : Stmt := top 48
abbrev sJoined : Stmt := top 49
abbrev sCounts : Stmt := top 50
abbrev sSText : Stmt := top 55
abbrev sRStr : Stmt := top 56
abbrev sRPl : Stmt := top 9
abbrev sRDec : Stmt := top 8
abbrev sPen : Stmt := top 58
abbrev sDraw : Stmt := top 59
abbrev sPick : Stmt := top 60
abbrev sShuffled : Stmt := top 61
abbrev sWords : Stmt := top 62
abbrev sSpot : Stmt := top 63
abbrev sDrawn : Stmt := top 64
abbrev sMerged : Stmt := top 65
abbrev sWhole : Stmt := top 66
abbrev sLine : Stmt := top 67
abbrev sSpec : Stmt := top 68
abbrev sClause : Stmt := top 69
abbrev sParts : Stmt := top 70
abbrev sWithN : Stmt := top 71
abbrev sNumbers : Stmt := top 72
abbrev sOfNum : Stmt := top 74
abbrev sLaw : Stmt := top 80
abbrev sLInit : Stmt := inClass (top 11) 0
abbrev sLEq : Stmt := inClass (top 11) 2
abbrev sLText : Stmt := inClass (top 11) 12
abbrev sPlInit : Stmt := inClass (top 46) 0
abbrev sPlEq : Stmt := inClass (top 46) 1
abbrev sPlBool : Stmt := inClass (top 46) 2
abbrev sPlText : Stmt := inClass (top 46) 18
abbrev sAnsInit : Stmt := inClass (top 34) 0
abbrev sAnsEq : Stmt := inClass (top 34) 1
abbrev sAnsTold : Stmt := inClass (top 34) 2
abbrev sAnsTxt : Stmt := inClass (top 34) 7
abbrev sRefInit : Stmt := inClass (top 35) 0
abbrev sRefEq : Stmt := inClass (top 35) 1
abbrev sRefTold : Stmt := inClass (top 35) 2
abbrev sRefTxt : Stmt := inClass (top 35) 7
abbrev sNeeInit : Stmt := inClass (top 36) 0
abbrev sNeeEq : Stmt := inClass (top 36) 1
abbrev sNeeTold : Stmt := inClass (top 36) 2
abbrev sNeeTxt : Stmt := inClass (top 36) 7
abbrev sSprInit : Stmt := inClass (top 37) 0
abbrev sSprEq : Stmt := inClass (top 37) 1
abbrev sSprTold : Stmt := inClass (top 37) 2
abbrev sSprTxt : Stmt := inClass (top 37) 7
abbrev sBouInit : Stmt := inClass (top 38) 0
abbrev sBouEq : Stmt := inClass (top 38) 1
abbrev sBouLine : Stmt := inClass (top 38) 2
abbrev sBouTold : Stmt := inClass (top 38) 3
abbrev sBouTxt : Stmt := inClass (top 38) 8
abbrev sPaiInit : Stmt := inClass (top 39) 0
abbrev sPaiEq : Stmt := inClass (top 39) 1
abbrev sPaiLine : Stmt := inClass (top 39) 2
abbrev sPaiTold : Stmt := inClass (top 39) 3
abbrev sPaiTxt : Stmt := inClass (top 39) 8
abbrev sSteInit : Stmt := inClass (top 40) 0
abbrev sSteEq : Stmt := inClass (top 40) 1
abbrev sSteTold : Stmt := inClass (top 40) 2
abbrev sSteTxt : Stmt := inClass (top 40) 7
abbrev pWall : Stmt := top 0
abbrev sLineCall : Stmt := inClass (top 11) 1
abbrev sLineAdd : Stmt := inClass (top 11) 3
abbrev sLineRadd : Stmt := inClass (top 11) 4
abbrev sLineNeg : Stmt := inClass (top 11) 5
abbrev sLineSub : Stmt := inClass (top 11) 6
abbrev sLineRsub : Stmt := inClass (top 11) 7
abbrev sLineMul : Stmt := inClass (top 11) 8
abbrev sLineRmul : Stmt := inClass (top 11) 9
abbrev sLineMoved : Stmt := inClass (top 11) 10
abbrev sLineMirrored : Stmt := inClass (top 11) 11
abbrev sBadStretchInit : Stmt := inClass (top 15) 0
abbrev sBadTextInit : Stmt := inClass (top 16) 0
abbrev sBadWordInit : Stmt := inClass (top 17) 0
abbrev sSameFunctionInit : Stmt := inClass (top 18) 0
abbrev sBadSignInit : Stmt := inClass (top 19) 0
abbrev sBadFactorInit : Stmt := inClass (top 20) 0
abbrev sNoPlaceInit : Stmt := inClass (top 21) 0
abbrev pCheckFactor : Stmt := top 29
abbrev sAnsNeg : Stmt := inClass (top 34) 3
abbrev sAnsTim : Stmt := inClass (top 34) 4
abbrev sAnsMov : Stmt := inClass (top 34) 5
abbrev sAnsMir : Stmt := inClass (top 34) 6
abbrev sRefNeg : Stmt := inClass (top 35) 3
abbrev sRefTim : Stmt := inClass (top 35) 4
abbrev sRefMov : Stmt := inClass (top 35) 5
abbrev sRefMir : Stmt := inClass (top 35) 6
abbrev sNeeNeg : Stmt := inClass (top 36) 3
abbrev sNeeTim : Stmt := inClass (top 36) 4
abbrev sNeeMov : Stmt := inClass (top 36) 5
abbrev sNeeMir : Stmt := inClass (top 36) 6
abbrev sSprNeg : Stmt := inClass (top 37) 3
abbrev sSprTim : Stmt := inClass (top 37) 4
abbrev sSprMov : Stmt := inClass (top 37) 5
abbrev sSprMir : Stmt := inClass (top 37) 6
abbrev sBouNeg : Stmt := inClass (top 38) 4
abbrev sBouTim : Stmt := inClass (top 38) 5
abbrev sBouMov : Stmt := inClass (top 38) 6
abbrev sBouMir : Stmt := inClass (top 38) 7
abbrev sPaiNeg : Stmt := inClass (top 39) 4
abbrev sPaiTim : Stmt := inClass (top 39) 5
abbrev sPaiMov : Stmt := inClass (top 39) 6
abbrev sPaiMir : Stmt := inClass (top 39) 7
abbrev sSteNeg : Stmt := inClass (top 40) 3
abbrev sSteTim : Stmt := inClass (top 40) 4
abbrev sSteMov : Stmt := inClass (top 40) 5
abbrev sSteMir : Stmt := inClass (top 40) 6
abbrev pOverlaps : Stmt := top 44
abbrev sPlacesContains : Stmt := inClass (top 46) 3
abbrev sPlacesGetitem : Stmt := inClass (top 46) 4
abbrev sPlacesIter : Stmt := inClass (top 46) 5
abbrev sPlacesOr : Stmt := inClass (top 46) 6
abbrev sPlacesAnd : Stmt := inClass (top 46) 7
abbrev sPlacesSub : Stmt := inClass (top 46) 8
abbrev sPlacesXor : Stmt := inClass (top 46) 9
abbrev sPlacesSize : Stmt := inClass (top 46) 10
abbrev sPlacesRank : Stmt := inClass (top 46) 11
abbrev sPlacesLeast : Stmt := inClass (top 46) 12
abbrev sPlacesGreatest : Stmt := inClass (top 46) 13
abbrev sPlacesWithin : Stmt := inClass (top 46) 14
abbrev sPlacesShifted : Stmt := inClass (top 46) 15
abbrev sPlacesMirrored : Stmt := inClass (top 46) 16
abbrev sPlacesInner : Stmt := inClass (top 46) 17
abbrev sPlacesRead : Stmt := inClass (top 46) 19
abbrev sRStrs : Stmt := top 47
abbrev pHowManyUpto : Stmt := top 51
abbrev pCommon : Stmt := top 52
abbrev pGaps : Stmt := top 53
abbrev pCutToPlaces : Stmt := top 54
abbrev sWithNumbers : Stmt := top 71
abbrev sTurnedSign : Stmt := top 73
abbrev sIsOfNumbers : Stmt := top 74
abbrev sNegated : Stmt := top 75
abbrev sTimes : Stmt := top 76
abbrev sMoved : Stmt := top 77
abbrev sMirrored : Stmt := top 78
abbrev sRefused : Stmt := top 79
end OR

namespace OR
open PySem PySem.Spec PyProof.Rows L2
/-! ### the pen: a dict of the cells, how many have begun, what is left of the last one -/
theorem kBC : ¬ ((Sum.inr ("begun" : Str) : Key) = Sum.inr ("cells" : Str)) := by decide +kernel
theorem kLC : ¬ ((Sum.inr ("left" : Str) : Key) = Sum.inr ("cells" : Str)) := by decide +kernel
theorem kLB : ¬ ((Sum.inr ("left" : Str) : Key) = Sum.inr ("begun" : Str)) := by decide +kernel
def penK (c : Addr) (k l : Int) : List (Key × V) := [(.inr ("cells" : Str), .ref c), (.inr ("begun" : Str), .int k), (.inr ("left" : Str), .int l)]
theorem pen_cells (c : Addr) (k l : Int) : valV (penK c k l) (.inr ("cells" : Str)) = some (.ref c) := valV_pos rfl
theorem pen_begun (c : Addr) (k l : Int) : valV (penK c k l) (.inr ("begun" : Str)) = some (.int k) :=
  (valV_neg (fun e => kBC e.symm)).trans (valV_pos rfl)
theorem pen_left (c : Addr) (k l : Int) : valV (penK c k l) (.inr ("left" : Str)) = some (.int l) :=
  (valV_neg (fun e => kLC e.symm)).trans ((valV_neg (fun e => kLB e.symm)).trans (valV_pos rfl))
theorem pen_put_left (c : Addr) (k l y : Int) : putK (penK c k l) (.inr ("left" : Str)) (.int y) = penK c k y := by
  have h1 : ¬ ((Sum.inr ("cells" : Str) : Key) = Sum.inr ("left" : Str)) := fun e => kLC e.symm
  have h2 : ¬ ((Sum.inr ("begun" : Str) : Key) = Sum.inr ("left" : Str)) := fun e => kLB e.symm
  unfold putK penK
  simp only [List.any_cons, List.any_nil, List.map_cons, List.map_nil, h1, h2, decide_true, decide_false, Bool.or_false, Bool.false_or, if_true, if_false]
theorem pen_put_begun (c : Addr) (k l y : Int) : putK (penK c k l) (.inr ("begun" : Str)) (.int y) = penK c y l := by
  have h1 : ¬ ((Sum.inr ("cells" : Str) : Key) = Sum.inr ("begun" : Str)) := fun e => kBC e.symm
  have h2 : ¬ ((Sum.inr ("left" : Str) : Key) = Sum.inr ("begun" : Str)) := kLB
  unfold putK penK
  simp only [List.any_cons, List.any_nil, List.map_cons, List.map_nil, h1, h2, decide_true, decide_false, Bool.or_false, Bool.false_or, Bool.or_true, if_true, if_false]
/-- a pen at p after at most n draws -/
def Pen (H : Hp) (p : Addr) (n : Nat) : Prop := ∃ (c : Addr) (ns : List Int) (k l : Int), H p = some (.dK (penK c k l)) ∧ H c = some (.lst (ns.map V.int)) ∧ ns.length ≤ 63 ∧ 0 ≤ k ∧ k ≤ n ∧ 0 ≤ l
/-- where the pen at p keeps its cells -/
def cellsAt (H : Hp) (p c : Addr) : Prop := ∃ k l, H p = some (.dK (penK c k l))
theorem penK_inj {c c' : Addr} {k l k' l' : Int} (h : penK c k l = penK c' k' l') : c = c' := by
  unfold penK at h
  injection h with h1 _
  injection h1 with _ h2
  injection h2
theorem cellsAt.inj {H : Hp} {p c : Addr} {k l : Int} {c' : Addr} (h : cellsAt H p c) (e : H p = some (.dK (penK c' k l))) : c = c' := by
  obtain ⟨k', l', e'⟩ := h
  rw [e] at e'
  injection e' with e'
  injection e' with e'
  exact (penK_inj e').symm
/-- all but what stands at p is as it was, and the pen there has the same cells -/
structure Frm (p : Addr) (H H' : Hp) : Prop where
  at_ : ∀ b o, H b = some o → b ≠ p → H' b = some o
  ce : ∀ c, cellsAt H p c → cellsAt H' p c
instance {p : Addr} {H H' : Hp} : CoeFun (Frm p H H') (fun _ => ∀ b o, H b = some o → b ≠ p → H' b = some o) := ⟨Frm.at_⟩
theorem Frm.refl (p : Addr) (H : Hp) : Frm p H H := ⟨fun _ _ h _ => h, fun _ h => h⟩
theorem Frm.trans {p : Addr} {H H1 H2 : Hp} (a : Frm p H H1) (b : Frm p H1 H2) : Frm p H H2 := ⟨fun c o h n => b c o (a c o h n) n, fun c h => b.ce c (a.ce c h)⟩
theorem Frm.pen {p c : Addr} {H : Hp} {k l k' l' : Int} (h : H p = some (.dK (penK c k l))) : Frm p H (upd H p (.dK (penK c k' l'))) :=
  ⟨fun b x e n => by rw [upd_ne n]; exact e, fun c' h' => by rw [h'.inj h]; exact ⟨k', l', upd_same⟩⟩
theorem Frm.new {p q : Addr} {H : Hp} {o : HO} (h : H q = none) : Frm p H (upd H q o) :=
  ⟨fun b x e _ => by rw [upd_ne (ne_of_none e h)]; exact e, fun c ⟨k, l, e⟩ => ⟨k, l, by rw [upd_ne (ne_of_none e h)]; exact e⟩⟩
/-- a list that is not the pen's cells is changed -/
theorem Pen.put {H : Hp} {p c a : Addr} {n : Nat} {xs : List V} {o : HO} (P : Pen H p n) (hc : cellsAt H p c) (h : H a = some (.lst xs)) (n1 : c ≠ a) : Pen (upd H a o) p n := by
  obtain ⟨c', ns, k, l, h1, h2, h3⟩ := P
  obtain rfl := hc.inj h1
  exact ⟨c, ns, k, l, by rw [upd_ne (ne_of h1 h (by intro z; cases z))]; exact h1, by rw [upd_ne n1]; exact h2, h3⟩
theorem Pen.cells {H : Hp} {p : Addr} {n : Nat} (P : Pen H p n) : ∃ c, cellsAt H p c ∧ H c ≠ none := by
  obtain ⟨c, ns, k, l, h1, h2, _⟩ := P
  exact ⟨c, ⟨k, l, h1⟩, by rw [h2]; exact fun z => nomatch z⟩
theorem Pen.dict {H : Hp} {p : Addr} {n : Nat} (P : Pen H p n) : ∃ kvs, H p = some (.dK kvs) := by
  obtain ⟨c, ns, k, l, h1, _⟩ := P
  exact ⟨_, h1⟩
/-- what stands at a list, a tuple or an object is not the pen -/
theorem Frm.lst {H H' : Hp} {p a : Addr} {n : Nat} {xs : List V} (f : Frm p H H') (P : Pen H p n) (h : H a = some (.lst xs)) : H' a = some (.lst xs) := by
  obtain ⟨kvs, hp⟩ := P.dict
  exact f _ _ h (ne_of h hp (by intro z; cases z))
theorem Pen.mono {H : Hp} {p : Addr} {n m : Nat} (P : Pen H p n) (h : n ≤ m) : Pen H p m := by
  obtain ⟨c, ns, k, l, h1, h2, h3, h4, h5, h6⟩ := P
  exact ⟨c, ns, k, l, h1, h2, h3, h4, by omega, h6⟩
theorem Pen.new {H : Hp} {p q : Addr} {n : Nat} {o : HO} (P : Pen H p n) (h : H q = none) : Pen (upd H q o) p n := by
  obtain ⟨c, ns, k, l, h1, h2, h3, h4, h5, h6⟩ := P
  exact ⟨c, ns, k, l, by rw [upd_ne (ne_of_none h1 h)]; exact h1, by rw [upd_ne (ne_of_none h2 h)]; exact h2, h3, h4, h5, h6⟩
/-! ### the promises -/
/-- a draw: some number below m -/
def spDraw : Sp := fun vs H Q _ => ∃ (p : Addr) (m : Int) (n : Nat), vs = [.ref p, .int m] ∧ 0 < m ∧ m.natAbs < 2 ^ 200 ∧ Pen H p n ∧ n ≤ 1000000 ∧
  ∀ (r : Int) (H' : Hp), 0 ≤ r → r < m → Pen H' p (n + 1) → Frm p H H' → Q (.int r) H'
/-- a def that lets nothing out, as it is called by its name -/
structure Cl (P : Program) (w : World) (K : PySem.W.Frag) (mg : Str → Option Value) (base : Heap) (k : Nat) (x : Str) (ps : List Str) (sp : Sp) : Prop where
  ex : ∃ (f : Addr) (fd : FuncData), FnOk P w K mg base CX0 k f fd ps sp ∧ mg x = some (.ref f) ∧ PySem.W.keepIn K (.ref f) = true ∧ Binds K fd ps []
theorem pe_cl {X : Cx} {k j : Nat} {x : Str} {ps : List Str} {sp : Sp} {e : Expr} {es : List Expr} {t : TA} {p pos : Pos} (c : Cl X.prog X.w X.K X.mg X.base k x ps sp) (hr : Room j X.A) (hk : k ≤ j) (hg : Gl X x) (ha : PA X (e :: es) t)
    (hdb : (x == ("__debug__" : Str)) = false := by decide) (he : starEach (e :: es) X.env = (false, eval e X.env) :: starEach es X.env := by rfl) (hpl : (backTo pos (starEach es X.env)).any (·.1) = false := by rfl) :
    PE X (.Call (.Name x p) (e :: es) [] pos) (tCall sp [] E0 t) := by
  obtain ⟨f, fd, F, hm, hkp, hb⟩ := c.ex
  exact pe_call F (hr.mono hk) hg hm hkp hb .nil pass0 ha hdb he hpl
theorem Frm.seq {K : PySem.W.Frag} {H H' : Hp} {p a : Addr} {n : Nat} {xs : List V} (f : Frm p H H') (P : Pen H p n) (h : SqL K H a xs) : SqL K H' a xs := by
  obtain ⟨c, ns, k, l, hp, _⟩ := P
  rcases h with (h | ⟨o, h⟩) | h
  · exact .inl (.inl (f _ _ h (ne_of h hp (by intro z; cases z))))
  · exact .inl (.inr ⟨o, f _ _ h (ne_of h hp (by intro z; cases z))⟩)
  · exact .inr h
theorem Frm.tup {K : PySem.W.Frag} {H H' : Hp} {p a : Addr} {n : Nat} {xs : List V} (f : Frm p H H') (P : Pen H p n) (h : SqT K H a xs) : SqT K H' a xs := by
  obtain ⟨c, ns, k, l, hp, _⟩ := P
  rcases h with (h | ⟨o, h⟩) | h
  · exact .inl (.inl (f _ _ h (ne_of h hp (by intro z; cases z))))
  · exact .inl (.inr ⟨o, f _ _ h (ne_of h hp (by intro z; cases z))⟩)
  · exact .inr h
/-- an item of a list that is not empty -/
def spPick (K : PySem.W.Frag) : Sp := fun vs H Q _ => ∃ (p a : Addr) (xs : List V) (n : Nat), vs = [.ref p, .ref a] ∧ SqL K H a xs ∧ 0 < xs.length ∧ xs.length ≤ 1000 ∧ Pen H p n ∧ n ≤ 1000000 ∧
  ∀ (v : V) (H' : Hp), v ∈ xs → Pen H' p (n + 1) → Frm p H H' → Q v H'
/-- some number, not too great -/
def spWhole : Sp := fun vs H Q _ => ∃ (p : Addr) (n : Nat), vs = [.ref p] ∧ Pen H p n ∧ n ≤ 900000 ∧
  ∀ (r : Int) (H' : Hp), -(10 ^ 30) < r → r < 10 ^ 30 → Pen H' p (n + 3) → Frm p H H' → Q (.int r) H'
/-- the pen, made of the script -/
def spPen (K : PySem.W.Frag) : Sp := fun vs H Q _ => ∃ (a : Addr) (ns : List Int), vs = [.ref a] ∧ SqL K H a (ns.map V.int) ∧ ns.length ≤ 63 ∧
  ∀ (p : Addr) (H' : Hp), H p = none → Pen H' p 0 → Same H H' → Q (.ref p) H'
structure Bl (mg : Str → Option Value) : Prop where
  int : mg "int" = none
  len : mg "len" = none
  abs : mg "abs" = none
  list : mg "list" = none
theorem dg {H : Hp} {p : Addr} {kvs : List (Key × V)} {x : Str} {v : V} (h : H p = some (.dK kvs)) (e : valV kvs (.inr x) = some v) : DGet H p (.str x) (some v) := e ▸ DGet.k (k := .inr x) h
theorem dp {H : Hp} {p : Addr} {kvs kvs' : List (Key × V)} {x : Str} {v : V} (h : H p = some (.dK kvs)) (e : putK kvs (.inr x) v = kvs') (hl : kvs.length < sizeLine) : DPut H p (.str x) v (upd H p (.dK kvs')) := e ▸ DPut.k (k := .inr x) h hl
theorem pen_small (c : Addr) (k l : Int) : (penK c k l).length < sizeLine := by show 3 < sizeLine; decide
theorem mod_bd (a b : Int) (h : 0 < b) : 0 ≤ a % b ∧ a % b < b := ⟨Int.emod_nonneg a (by omega), Int.emod_lt_of_pos a h⟩
theorem boot_absO : bootBuiltins ("abs" : Str) = some (.builtin "abs") := by decide +kernel
section
variable {P : Program} {w : World} {K : PySem.W.Frag} {mg : Str → Option Value} {base : Heap}
theorem scDraw : FnScope ["_law_pen_here", "_law_many", "_law_digit", "_law_k", "_law_size", "_law_cell", "_law_mix"] ["_law_pen_here", "_law_many"] (defScope sDraw) := ⟨rfl, rfl, rfl, by decide +kernel, rfl, by decide +kernel, by decide +kernel⟩
theorem div200 {m : Int} (h : 0 < m) (h2 : m.natAbs < 2 ^ 200) (i : Int) : CDivW i m := wide_div h h2 (by decide) (by decide)
theorem ok_draw {f : Addr} {fd : FuncData} (F : Fun K "_law_draw" "_law_draw" sDraw f fd) (B : Bl mg) : FnOk P w K mg base CX0 1 f fd ["_law_pen_here", "_law_many"] spDraw := by
  refine F.ok scDraw (fun vs H Q E h => ?_) (fun cdv A outer s H vs Q E hr h => ?_)
  · obtain ⟨p, m, n, rfl, _⟩ := h
    rfl
  · obtain ⟨p, m, n, rfl, hm, hmb, ⟨c, ns, k, l, hp, hc, hns, hk0, hkn, hl⟩, hn, q⟩ := h
    have hu := hu_of hr
    have ncp : c ≠ p := ne_of hc hp (by intro z; cases z)
    have nd := scDraw.nd
    refine ⟨_, pss_cons (ps_if (pt_cmpR op_gt (pe_dget hu (pv 0) pe_str (fun _ _ => rfl)) pe_int (nomark _))
        (pss_cons (ps_set (i := 2) nd rfl (.inl rfl) (pe_op op_mod (pe_callTy call_int1 (by rfl) B.int boot_int (pa_cons (pe_dget hu (pv 0) pe_str (fun _ _ => rfl)) pa_nil)) (pv 1)))
        (pss_cons (ps_dput hu (pv 0) pe_str (pe_op op_fdivW (pe_dget hu (pv 0) pe_str (fun _ _ => rfl)) (pv 1)) rfl)
        (pss_one (ps_ret (pv 2))))) pss_nil)
      (pss_cons (ps_par (i := 3) (j := 4) rfl nd rfl rfl (by decide) rfl rfl (pa_cons (pe_dget hu (pv 0) pe_str (fun _ _ => rfl)) (pa_cons (pe_callB call_len_seq (by rfl) B.len PySem.boot_len (pa_cons (pe_dget hu (pv 0) pe_str (fun _ _ => rfl)) pa_nil)) pa_nil)) rfl)
      (pss_cons (ps_dput hu (pv 0) pe_str (pe_op op_add (pv 3) pe_int) rfl)
      (Evl.pss_cut (ps_set (i := 5) nd rfl (.inl rfl) (pe_ifExp (pt_cmpR op_gt (pv 4) pe_int (nomark _))
          (pe_ix ix_list (pe_dget hu (pv 0) pe_str (fun _ _ => rfl)) (pe_op op_mod (pe_callTy call_int1 (by rfl) B.int boot_int (pa_cons (pv 3) pa_nil)) (pv 4)) (fun _ _ => rfl))
          (pe_op op_add (pe_op op_mul pe_int (pv 3)) pe_int)))
      (Evl.pss_cut (ps_if (PW.pt (pw_and (pt_cmpR op_lt (pv 3) (pv 4) (nomark _)) (pw_and1 (pt_cmpR op_ge (pe_callB call_abs (by rfl) B.abs boot_absO (pa_cons (pv 5) pa_nil)) (pe_op op_pow pe_int pe_int) (nomark _)))))
        (pss_cons (ps_dput hu (pv 0) pe_str (pe_op op_fdivW (pe_op op_sub (pe_callB call_abs (by rfl) B.abs boot_absO (pa_cons (pv 5) pa_nil)) (pe_op op_pow pe_int pe_int)) (pv 1)) rfl)
        (pss_one (ps_ret (pe_op op_mod (pe_callTy call_int1 (by rfl) B.int boot_int (pa_cons (pe_op op_sub (pe_callB call_abs (by rfl) B.abs boot_absO (pa_cons (pv 5) pa_nil)) (pe_op op_pow pe_int pe_int)) pa_nil)) (pv 1))))) pss_nil)
      (pss_cons (ps_set (i := 6) nd rfl (.inl rfl) (pe_op op_mod (pe_callTy call_int1 (by rfl) B.int boot_int (pa_cons
          (pe_op op_add (pe_op op_add (pe_op op_add (pe_op op_mul (pe_op op_mod (pe_callTy call_int1 (by rfl) B.int boot_int (pa_cons (pv 5) pa_nil)) pe_int) pe_int) (pe_op op_mul (pe_op op_mul pe_int (pv 3)) (pv 3))) (pe_op op_mul pe_int (pv 3))) pe_int) pa_nil)) pe_int))
      (pss_cons (ps_set (i := 6) nd rfl (.inl rfl) (pe_op op_mod (pe_callTy call_int1 (by rfl) B.int boot_int (pa_cons
          (pe_op op_add (pe_op op_add (pe_op op_mul (pv 6) (pv 6)) (pe_op op_mul pe_int (pv 6))) (pe_op op_mul pe_int (pv 3))) pa_nil)) pe_int))
      (pss_one (ps_ret (pe_op op_mod (pe_callTy call_int1 (by rfl) B.int boot_int (pa_cons (pe_op op_fdiv (pe_op op_mod (pe_callTy call_int1 (by rfl) B.int boot_int (pa_cons (pe_op op_mul (pv 6) (pe_op op_add (pv 6) pe_int)) pa_nil)) pe_int) pe_int) pa_nil)) (pv 1)))))))))), ?_⟩
    -- if pen['left'] > 0
    have dL : DGet H p (.str "left") (some (.int l)) := dg hp (pen_left c k l)
    have dB : DGet H p (.str "begun") (some (.int k)) := dg hp (pen_begun c k l)
    have dC : DGet H p (.str "cells") (some (.ref c)) := dg hp (pen_cells c k l)
    refine ⟨_, rfl, p, .int l, rfl, dL, _, _, rfl, rfl, _, rfl, ite2 (fun e => ?_) (fun e => ?_)⟩
    · have hl1 : 0 < l := of_decide_eq_true e
      refine ⟨_, rfl, p, .int l, rfl, dL, .inl ⟨l, rfl, _, rfl, l, m, rfl, rfl, hm, ?_⟩⟩
      refine ⟨_, rfl, p, .int l, rfl, dL, _, rfl, l, m, rfl, rfl, div200 hm hmb l, _, rfl, p, _, rfl, dp hp (pen_put_left c k l _) (pen_small c k l), _, rfl, ?_⟩
      refine q (l % m) _ (mod_bd l m hm).1 (mod_bd l m hm).2 ⟨c, ns, k, l / m, upd_same, by rw [upd_ne ncp]; exact hc, hns, hk0, by omega, Int.ediv_nonneg hl (by omega)⟩ (Frm.pen hp)
    · -- k, size = pen['begun'], len(pen['cells'])
      have hcL : SqL K H c (ns.map V.int) := .inl (.inl hc)
      refine ⟨_, rfl, p, .int k, rfl, dB, _, rfl, p, .ref c, rfl, dC, c, _, rfl, .inl hcL, _, _, rfl, ?_⟩
      refine ⟨_, rfl, _, _, rfl, rfl, _, rfl, p, _, rfl, dp hp (pen_put_begun c k l _) (pen_small c k l), ?_⟩
      -- cell = ..
      have hl0 : l = 0 := by
        have : ¬ (0 < l) := fun z => e (decide_eq_true z)
        omega
      have hp1 : (upd H p (.dK (penK c (k + 1) l))) p = some (.dK (penK c (k + 1) l)) := upd_same
      have hc1 : (upd H p (.dK (penK c (k + 1) l))) c = some (.lst (ns.map V.int)) := by rw [upd_ne ncp]; exact hc
      have dC1 := dg (x := "cells") hp1 (pen_cells c (k + 1) l)
      have hcL1 : SqL K (upd H p (.dK (penK c (k + 1) l))) c (ns.map V.int) := .inl (.inl hc1)
      have fin : ∀ (r y : Int), 0 ≤ r → r < m → 0 ≤ y → ∀ H', H' = upd H p (.dK (penK c (k + 1) y)) → Q (.int r) H' := fun r y h0 h1 hy H' e => by
        subst e
        exact q r _ h0 h1 ⟨c, ns, k + 1, y, upd_same, by rw [upd_ne ncp]; exact hc, hns, by omega, by omega, hy⟩ (Frm.pen hp)
      refine ⟨fun σ' H' => ∃ cell : Int, σ' = [some (.ref p), some (.int m), none, some (.int k), some (.int ((ns.map V.int).length : Int)), some (.int cell), none] ∧ H' = upd H p (.dK (penK c (k + 1) l)), ?_, ?_⟩
      · refine ⟨_, rfl, _, _, rfl, rfl, _, rfl, ite2 (fun e2 => ?_) (fun e2 => ?_)⟩
        · have hsz : (0 : Int) < ((ns.map V.int).length : Int) := of_decide_eq_true e2
          have hb := mod_bd k _ hsz
          have hj : (k % ((ns.map V.int).length : Int)).toNat < ns.length := by
            rw [List.length_map] at hb ⊢
            omega
          refine ⟨_, rfl, p, _, rfl, dC1, _, rfl, .inl ⟨k, rfl, _, rfl, k, _, rfl, rfl, hsz, c, ns.map V.int, _, .int ns[(k % ((ns.map V.int).length : Int)).toNat], rfl, rfl, hcL1, ?_, ?_⟩⟩
          · have := atI_nat (xs := ns.map V.int) (j := (k % ((ns.map V.int).length : Int)).toNat) (v := .int ns[(k % ((ns.map V.int).length : Int)).toNat]) (by rw [List.getElem?_map, List.getElem?_eq_getElem hj]; rfl)
            rw [Int.toNat_of_nonneg hb.1] at this
            exact this
          · exact ⟨_, rfl, rfl⟩
        · refine ⟨_, rfl, _, _, rfl, rfl, .inl ⟨by decide, by decide⟩, _, _, rfl, rfl, ?_⟩
          exact ⟨_, rfl, rfl⟩
      · rintro σ' H' ⟨cell, rfl, rfl⟩
        refine ⟨fun σ' H' => σ' = [some (.ref p), some (.int m), none, some (.int k), some (.int ((ns.map V.int).length : Int)), some (.int cell), none] ∧ H' = upd H p (.dK (penK c (k + 1) l)), ?_, ?_⟩
        · have hpow : CPow 10 18 := ⟨by decide, by decide, by decide⟩
          refine ⟨_, rfl, _, rfl, _, _, rfl, rfl, _, rfl, ite2 (fun e2 => ?_) (fun e2 => ?_)⟩
          · refine ⟨_, rfl, cell, rfl, _, _, rfl, rfl, hpow, _, _, rfl, rfl, _, rfl, ite2 (fun e3 => ?_) (fun e3 => ?_)⟩
            · have hge := of_decide_eq_true e3
              refine ⟨_, rfl, cell, rfl, _, _, rfl, rfl, hpow, _, _, rfl, rfl, _, rfl, _, _, rfl, rfl, div200 hm hmb _, _, rfl, p, _, rfl, dp hp1 (pen_put_left c (k + 1) l _) (pen_small c _ l), ?_⟩
              refine ⟨_, rfl, cell, rfl, _, _, rfl, rfl, hpow, _, _, rfl, rfl, .inl ⟨_, rfl, _, rfl, _, _, rfl, rfl, hm, ?_⟩⟩
              refine fin _ (((if cell < 0 then -cell else cell) - 10 ^ (18 : Int).toNat) / m) (mod_bd _ m hm).1 (mod_bd _ m hm).2 (Int.ediv_nonneg ?_ (by omega)) _ ?_
              · show (0 : Int) ≤ (if cell < 0 then -cell else cell) - 10 ^ (18 : Int).toNat
                have : (10 : Int) ^ (18 : Int).toNat ≤ (if cell < 0 then -cell else cell) := hge
                omega
              · rw [upd_upd]
            · exact ⟨rfl, rfl⟩
          · exact iteF ⟨rfl, rfl⟩
        · rintro σ' H' ⟨rfl, rfl⟩
          -- mix
          refine ⟨_, rfl, .inl ⟨_, rfl, _, _, rfl, rfl, (by show (0 : Int) < 4294966769; decide), _, _, rfl, rfl, .inr ⟨by decide, by decide⟩, _, rfl, _, _, rfl, rfl, .inl ⟨by decide, by decide⟩, _, rfl, _, _, rfl, rfl, .inl ?_, _, _, rfl, rfl, _, rfl, _, _, rfl, rfl, .inl ⟨by decide, by decide⟩, _, _, rfl, rfl, _, _, rfl, rfl, .inl ⟨_, rfl, _, _, rfl, rfl, (by show (0 : Int) < 4294966813; decide), ?_⟩⟩⟩
          · constructor <;> omega
          -- mix again
          generalize hM : (cell % 4294966769 * 43313 + 31699 * k * k + 613 * k + 41) % 4294966813 = M
          have hMb : 0 ≤ M ∧ M < 4294966813 := hM ▸ mod_bd _ _ (by decide)
          refine ⟨_, rfl, _, rfl, _, _, rfl, rfl, .inl (by constructor <;> omega), _, rfl, _, _, rfl, rfl, .inl ⟨by decide, by decide⟩, _, _, rfl, rfl, _, rfl, _, _, rfl, rfl, .inl ⟨by decide, by decide⟩, _, _, rfl, rfl, .inl ⟨_, rfl, _, _, rfl, rfl, (by show (0 : Int) < 4294966787; decide), ?_⟩⟩
          generalize hM2 : (M * M + 40961 * M + 17 * k) % 4294966787 = M2
          have hMb2 : 0 ≤ M2 ∧ M2 < 4294966787 := hM2 ▸ mod_bd _ _ (by decide)
          refine ⟨_, rfl, _, rfl, _, _, rfl, rfl, _, _, rfl, rfl, .inl (by constructor <;> omega), .inl ⟨_, rfl, _, _, rfl, rfl, (by show (0 : Int) < 4294966661; decide), _, _, rfl, rfl, ⟨by decide, by decide⟩, .inl ⟨_, rfl, _, rfl, _, _, rfl, rfl, hm, ?_⟩⟩⟩
          exact fin _ l (mod_bd _ m hm).1 (mod_bd _ m hm).2 hl _ rfl
theorem scPick : FnScope ["_law_pen_here", "_law_items"] ["_law_pen_here", "_law_items"] (defScope sPick) := ⟨rfl, rfl, rfl, by decide +kernel, rfl, by decide +kernel, by decide +kernel⟩
theorem ok_pick {f : Addr} {fd : FuncData} (F : Fun K "_law_pick" "_law_pick" sPick f fd) (B : Bl mg) (D : Cl P w K mg base 1 "_law_draw" ["_law_pen_here", "_law_many"] spDraw) : FnOk P w K mg base CX0 2 f fd ["_law_pen_here", "_law_items"] (spPick K) := by
  refine F.ok scPick (fun vs H Q E h => ?_) (fun cdv A outer s H vs Q E hr h => ?_)
  · obtain ⟨p, a, xs, n, rfl, _⟩ := h
    rfl
  · obtain ⟨p, a, xs, n, rfl, hS, h0, h1, hP, hn, q⟩ := h
    refine ⟨_, pss_one (ps_ret (pe_ix ix_list (pv 1) (pe_cl D hr (by decide) (by rfl) (pa_cons (pv 0) (pa_cons (pe_callB call_len_seq (by rfl) B.len PySem.boot_len (pa_cons (pv 1) pa_nil)) pa_nil))) (fun _ _ => rfl))), ?_⟩
    refine ⟨_, rfl, _, rfl, _, rfl, a, xs, rfl, .inl hS, p, xs.length, n, rfl, by omega, ?_, hP, hn, fun r H' hr0 hr1 hP' hF => ?_⟩
    · have : xs.length < 2 ^ 200 := Nat.lt_of_le_of_lt h1 (by decide)
      simpa using this
    · have hj : r.toNat < xs.length := by omega
      refine ⟨a, xs, r, xs[r.toNat], rfl, rfl, hF.seq hP hS, ?_, q _ _ (List.getElem_mem hj) hP' hF⟩
      have := atI_nat (xs := xs) (j := r.toNat) (v := xs[r.toNat]) (List.getElem?_eq_getElem hj)
      rw [Int.toNat_of_nonneg hr0] at this
      exact this
theorem scPen : FnScope ["_law_script"] ["_law_script"] (defScope sPen) := ⟨rfl, rfl, rfl, by decide +kernel, rfl, by decide +kernel, by decide +kernel⟩
theorem cut63 (ns : List Int) : cutV (ns.map V.int) none (some 63) = (ns.take 63).map V.int := by
  unfold cutV
  rw [HT.sIx_none, show HT.sIx (ns.map V.int).length (ns.map V.int).length (some 63) = min 63 (ns.map V.int).length from HT.sIx_nat _ _ 63, List.drop_zero, Nat.sub_zero, List.map_take]
  rcases Nat.le_total 63 (ns.map V.int).length with h | h
  · rw [Nat.min_eq_left h]
  · rw [Nat.min_eq_right h, List.take_of_length_le (Nat.le_refl _), List.take_of_length_le h]
theorem ok_pen {f : Addr} {fd : FuncData} (F : Fun K "_law_pen" "_law_pen" sPen f fd) (B : Bl mg) : FnOk P w K mg base CX0 1 f fd ["_law_script"] (spPen K) := by
  refine F.ok scPen (fun vs H Q E h => ?_) (fun cdv A outer s H vs Q E hr h => ?_)
  · obtain ⟨a, ns, rfl, _⟩ := h
    rfl
  · obtain ⟨a, ns, rfl, hS, hlen, q⟩ := h
    refine ⟨_, pss_one (ps_ret (pe_disp (pps_cons pe_str (pe_callTy call_list_of (by rfl) B.list (by decide +kernel) (pa_cons (pe_slice sl_list (pv 0) po_none (po_some pe_int)) pa_nil)) (pps_cons pe_str pe_int (pps_cons pe_str pe_int pps_nil))) rfl rfl (by simp) (by decide))), ?_⟩
    intro p hp
    have s1 : Same H (upd H p (.dK [])) := fun b o e => by rw [upd_ne (ne_of_none e hp)]; exact e
    refine ⟨_, rfl, _, rfl, a, _, rfl, s1.seq hS, fun x hx => ?_⟩
    refine ⟨x, _, rfl, .inl (.inl (.inl upd_same)), fun c hc => ?_⟩
    have npx : p ≠ x := ne_of_none upd_same hx
    have npc : p ≠ c := by
      intro e
      subst e
      rw [upd_ne npx, upd_same] at hc
      cases hc
    have a1 : putK ([] : List (Key × V)) (.inr ("cells" : Str)) (.ref c) = [(.inr ("cells" : Str), .ref c)] := putK_new _ valV_nil
    have a2 : putK ([(.inr ("cells" : Str), .ref c)] : List (Key × V)) (.inr ("begun" : Str)) (.int 0) = [(.inr ("cells" : Str), .ref c), (.inr ("begun" : Str), .int 0)] := putK_new _ ((valV_neg (fun e => kBC e.symm)).trans valV_nil)
    have a3 : putK ([(.inr ("cells" : Str), .ref c), (.inr ("begun" : Str), .int 0)] : List (Key × V)) (.inr ("left" : Str)) (.int 0) = penK c 0 0 := putK_new _ ((valV_neg (fun e => kLC e.symm)).trans ((valV_neg (fun e => kLB e.symm)).trans valV_nil))
    have e3 : mergeK [] (penK c 0 0) = penK c 0 0 := by
      show putK (putK (putK ([] : List (Key × V)) (.inr ("cells" : Str)) (.ref c)) (.inr ("begun" : Str)) (.int 0)) (.inr ("left" : Str)) (.int 0) = penK c 0 0
      rw [a1, a2, a3]
    refine ⟨by rw [upd_ne npc, upd_ne npx, upd_same], penK c 0 0, rfl, by show 3 ≤ 15; decide, ?_⟩
    rw [e3]
    refine q p _ hp ⟨c, ns.take 63, 0, 0, upd_same, ?_, by rw [List.length_take]; omega, by omega, by omega, by omega⟩ fun b o e => ?_
    · rw [upd_ne npc.symm, upd_same, cut63]
    · have h1 := s1 b o e
      have nbx : b ≠ x := ne_of_none h1 hx
      have h2 : (upd (upd H p (.dK [])) x (.lst (cutV (ns.map V.int) none (some 63)))) b = some o := by rw [upd_ne nbx]; exact h1
      rw [upd_ne (ne_of_none e hp), upd_ne (ne_of_none h2 hc)]
      exact h2
end
end OR

namespace OR
open PySem PySem.Spec PyProof.Rows L2
section
variable {P : Program} {w : World} {K : PySem.W.Frag} {mg : Str → Option Value} {base : Heap}
theorem scWhole : FnScope ["_law_pen_here", "_law_size"] ["_law_pen_here"] (defScope sWhole) := ⟨rfl, rfl, rfl, by decide +kernel, rfl, by decide +kernel, by decide +kernel⟩
theorem ok_whole {f : Addr} {fd : FuncData} (F : Fun K "_law_whole" "_law_whole" sWhole f fd) (D : Cl P w K mg base 1 "_law_draw" ["_law_pen_here", "_law_many"] spDraw) (C : Cl P w K mg base 2 "_law_pick" ["_law_pen_here", "_law_items"] (spPick K)) :
    FnOk P w K mg base CX0 3 f fd ["_law_pen_here"] spWhole := by
  refine F.ok scWhole (fun vs H Q E h => ?_) (fun cdv A outer s H vs Q E hr h => ?_)
  · obtain ⟨p, n, rfl, _⟩ := h
    rfl
  · obtain ⟨p, n, rfl, hP, hn, q⟩ := h
    refine ⟨_, pss_cons (ps_set (i := 1) scWhole.nd rfl (.inl rfl) (pe_cl C hr (by decide) (by rfl) (pa_cons (pv 0) (pa_cons (pe_lst (pa_cons pe_int (pa_cons pe_int (pa_cons pe_int (pa_cons (pe_op op_pow pe_int pe_int) (pa_cons (pe_op op_pow pe_int pe_int) pa_nil)))))) pa_nil))))
      (pss_one (ps_ret (pe_op op_mul (pe_cl D hr (by decide) (by rfl) (pa_cons (pv 0) (pa_cons (pv 1) pa_nil))) (pe_cl C hr (by decide) (by rfl) (pa_cons (pv 0) (pa_cons (pe_lst (pa_cons pe_int (pa_cons pe_int (pa_cons (pe_un un_neg pe_int) pa_nil)))) pa_nil)))))), ?_⟩
    refine ⟨_, rfl, _, _, rfl, rfl, ⟨by decide, by decide, by decide⟩, _, _, rfl, rfl, ⟨by decide, by decide, by decide⟩, by show 5 ≤ sizeLine; decide, fun a ha => ?_⟩
    have P1 := hP.new (o := .lst [.int 3, .int 10, .int 100, .int (10 ^ (6 : Int).toNat), .int (10 ^ (30 : Int).toNat)]) ha
    refine ⟨p, a, _, n, rfl, .inl (.inl upd_same), by show 0 < 5; decide, by show 5 ≤ 1000; decide, P1, by omega, fun v H2 hv P2 F2 => ?_⟩
    obtain ⟨m, rfl, hm0, hm1⟩ : ∃ m : Int, v = .int m ∧ 0 < m ∧ m ≤ 10 ^ 30 := by
      simp only [List.mem_cons, List.not_mem_nil, or_false] at hv
      rcases hv with e | e | e | e | e <;> subst e <;> exact ⟨_, rfl, by decide, by decide⟩
    have hmb : m.natAbs < 2 ^ 200 := by
      have : m.natAbs ≤ 10 ^ 30 := by omega
      exact Nat.lt_of_le_of_lt this (by decide)
    refine ⟨_, rfl, _, rfl, p, m, n + 1, rfl, hm0, hmb, P2, by omega, fun r H3 hr0 hr1 P3 F3 => ?_⟩
    refine ⟨_, rfl, _, rfl, by show 3 ≤ sizeLine; decide, fun b hb => ?_⟩
    refine ⟨p, b, _, n + 2, rfl, .inl (.inl upd_same), by show 0 < 3; decide, by show 3 ≤ 1000; decide, P3.new hb, by omega, fun v H4 hv P4 F4 => ?_⟩
    obtain ⟨s, rfl, hs⟩ : ∃ s : Int, v = .int s ∧ (s = 1 ∨ s = -1) := by
      simp only [List.mem_cons, List.not_mem_nil, or_false] at hv
      rcases hv with e | e | e <;> subst e
      · exact ⟨_, rfl, .inl rfl⟩
      · exact ⟨_, rfl, .inl rfl⟩
      · exact ⟨_, rfl, .inr rfl⟩
    refine ⟨r, s, rfl, rfl, .inr (by constructor <;> omega), q _ _ ?_ ?_ P4 ((((Frm.new ha).trans F2).trans F3).trans ((Frm.new hb).trans F4))⟩
    · rcases hs with rfl | rfl <;> omega
    · rcases hs with rfl | rfl <;> omega
end
end OR

namespace OR
open PySem PySem.Spec PyProof.Rows L2
/-! ### own classes: double-underscore methods behind the signs -/
/-- a method of the class at C, called with its object and arguments by position -/
structure Md (P : Program) (w : World) (K : PySem.W.Frag) (mg : Str → Option Value) (base : Heap) (k : Nat) (C : Addr) (m : Str) (sp : Sp) : Prop where
  ex : ∃ f, FnR P w K mg base CX0 k f sp ∧ PySem.W.findIn K (.ref C) m = some (some (.ref f)) ∧ PySem.W.isFn K (.ref f) = true ∧ PySem.W.fnIn K f = true
theorem fnR_of {P : Program} {w : World} {K : PySem.W.Frag} {mg : Str → Option Value} {base : Heap} {k : Nat} {f : Addr} {fd : FuncData} {ps : List Str} {sp : Sp} (F : FnOk P w K mg base CX0 k f fd ps sp) (hb : Binds K fd ps []) : FnR P w K mg base CX0 k f sp :=
  (F.raw hb .nil).imp fun vs H Q E h => by rw [List.append_nil]; exact h
section
variable {X : Cx} {n : Nat} {C : Addr} {sp : Sp}
def rBinS (C : Addr) (sp : Sp) : R2 := fun x y H Q => ∃ a b dx dy fs gs, x = .ref a ∧ y = .ref b ∧ H a = some (.ins C dx fs) ∧ H b = some (.ins C dy gs) ∧ sp [x, y] H Q E0
theorem op_binS {op : Operator} (m : Md X.prog X.w X.K X.mg X.base n C (PySem.dunder op.info.2) sp) (sf : PySem.W.selfFirst X.K C = true) (hr : Room n X.A) : OpR X (binaryOp op) (rBinS C sp) := by
  intro pins s σ H x y v u Q I rx ry h
  obtain ⟨f, F, hs, hf, _⟩ := m.ex
  obtain ⟨a, b, dx, dy, fs, gs, rfl, rfl, ha, hb, q⟩ := h
  cases (show v = Value.ref a from rx)
  cases (show u = Value.ref b from ry)
  obtain ⟨mA, J, _⟩ := ins_get I.hok ha
  obtain ⟨mB, J', _⟩ := ins_get I.hok hb
  obtain ⟨od, J, _⟩ := J.look
  obtain ⟨od', J', _⟩ := J'.look
  obtain ⟨m, hF⟩ := I.fr
  refine PySem.W.binop_K hF I.ok.mod.kin J J'.type sf hs hf ?_
  refine wpAny_mono (wpAny_call (run_fnR (us := [.ref a, .ref b]) (vs := [.ref a, .ref b]) F hr pass0 I (.cons rfl (.cons rfl .nil)) q)) (fun w s' z => ?_) fun _ _ x => x
  obtain ⟨z', H', I', rz, qz⟩ := z
  exact SlX.cmpback rz ⟨z', H', I', rz, qz⟩
/-- what + and the like ask of the class for an int on the right -/
structure BinI (K : PySem.W.Frag) (C : Addr) (op : Operator) : Prop where
  rc : ∃ rc, PySem.W.findIn K (.ref C) (PySem.dunderR op.info.2) = some rc ∧ (rc = none ∨ ∃ g : Addr, rc = some (.ref g))
  fo : ∃ fo, PySem.W.findIn K (.type "int") (PySem.dunder op.info.2) = some fo
  ro : ∃ ro, PySem.W.findIn K (.type "int") (PySem.dunderR op.info.2) = some ro
  sub : PySem.W.subIn K (.type "int") (.ref C) = some false
def rBinI (C : Addr) (sp : Sp) : R2 := fun x y H Q => ∃ a dx fs i, x = .ref a ∧ y = .int i ∧ H a = some (.ins C dx fs) ∧ sp [x, y] H Q E0
theorem op_binI {op : Operator} (m : Md X.prog X.w X.K X.mg X.base n C (PySem.dunder op.info.2) sp) (b : BinI X.K C op) (sf : PySem.W.selfFirst X.K C = true) (hr : Room n X.A) : OpR X (binaryOp op) (rBinI C sp) := by
  intro pins s σ H x y v u Q I rx ry h
  obtain ⟨f, F, hs, hf, _⟩ := m.ex
  obtain ⟨a, dx, fs, i, rfl, rfl, ha, q⟩ := h
  cases (show v = Value.ref a from rx)
  obtain ⟨t, rfl⟩ := (show ∃ t, u = Value.int i t from ry)
  obtain ⟨mA, J, _⟩ := ins_get I.hok ha
  obtain ⟨od, J, _⟩ := J.look
  obtain ⟨m, hF⟩ := I.fr
  obtain ⟨rc, hrc, hp⟩ := b.rc
  obtain ⟨fo, h1⟩ := b.fo
  obtain ⟨ro, h2⟩ := b.ro
  refine PySem.W.ksp_binT (T := "int") hF I.ok.mod.kin J rfl sf hs hf hrc hp h1 h2 b.sub ?_
  refine wpAny_mono (wpAny_call (run_fnR (us := [.ref a, .int i t]) (vs := [.ref a, .int i]) F hr pass0 I (.cons rfl (.cons ⟨t, rfl⟩ .nil)) q)) (fun w s' z => ?_) fun _ _ x => x
  obtain ⟨z', H', I', rz, qz⟩ := z
  exact SlX.cmpback rz ⟨z', H', I', rz, qz⟩
def rNegO (C : Addr) (sp : Sp) : V → Hp → VK → Prop := fun x H Q => ∃ a dx fs, x = .ref a ∧ H a = some (.ins C dx fs) ∧ sp [x] H Q E0
theorem un_negO (m : Md X.prog X.w X.K X.mg X.base n C "__neg__" sp) (hr : Room n X.A) : UnR X (unaryOp .USub) (rNegO C sp) := by
  intro pins s σ H x v Q I rx h
  obtain ⟨f, F, hs, hf, _⟩ := m.ex
  obtain ⟨a, dx, fs, rfl, ha, q⟩ := h
  cases (show v = Value.ref a from rx)
  obtain ⟨mA, J, _⟩ := ins_get I.hok ha
  obtain ⟨od, J, _⟩ := J.look
  obtain ⟨m, hF⟩ := I.fr
  refine PySem.W.ksp_neg hF I.ok.mod.kin J hs hf ?_
  refine wpAny_mono (wpAny_call (run_fnR (us := [.ref a]) (vs := [.ref a]) F hr pass0 I (.cons rfl .nil) q)) (fun w s' z => ?_) fun _ _ x => x
  exact z
end
/-- a reading may ask for more -/
theorem pe_imp {X : Cx} {e : Expr} {t t' : TE} (h : PE X e t) (i : ∀ σ H Q, t' σ H Q → t σ H Q) : PE X e t' := ⟨fun pins s σ H Q I q => h.run pins s σ H Q I (i σ H Q q)⟩
structure FnAt (K : PySem.W.Frag) (x : Str) (st : Stmt) : Prop where
  ex : ∃ f fd, Fun K x x st f fd ∧ PySem.W.nsIn K mainGlobals x = some (some (.ref f))
theorem fnAt {K : PySem.W.Frag} {h : Heap} {x : Str} {st : Stmt} {f : Addr} {oc : Value} {od an : Option Addr} {osl : Array (Option Value)} {kV doc pm cdv ct : Value} (_X : K.In h)
    (a : PySem.W.nsIn K mainGlobals x = some (some (.ref f))) (l : K.lookup f = some ⟨oc, od, .func (PySem.W.fnOf x x (defArgs st) (defBody st) (defScope st) .none kV doc pm an cdv ct), osl⟩)
    (c : PySem.W.codeIn K cdv x = true) (k : PySem.W.keepIn K (.ref f) = true) : FnAt K x st := ⟨f, _, fun_mk l c k, a⟩
structure MtAt (K : PySem.W.Frag) (C : Addr) (m m' qual : Str) (st : Stmt) : Prop where
  ex : ∃ f fd, Fun K m qual st f fd ∧ PySem.W.findIn K (.ref C) m' = some (some (.ref f)) ∧ PySem.W.isFn K (.ref f) = true ∧ PySem.W.fnIn K f = true
theorem mtAt {K : PySem.W.Frag} {h : Heap} {C : Addr} {m m' qual : Str} {st : Stmt} {f : Addr} {oc : Value} {od an : Option Addr} {osl : Array (Option Value)} {kV doc pm cdv ct : Value} (_X : K.In h)
    (a : PySem.W.findIn K (.ref C) m' = some (some (.ref f))) (l : K.lookup f = some ⟨oc, od, .func (PySem.W.fnOf m qual (defArgs st) (defBody st) (defScope st) .none kV doc pm an cdv ct), osl⟩)
    (c : PySem.W.codeIn K cdv qual = true) (k : PySem.W.keepIn K (.ref f) = true) (i : PySem.W.isFn K (.ref f) = true) (n : PySem.W.fnIn K f = true) : MtAt K C m m' qual st := ⟨f, _, fun_mk l c k, a, i, n⟩
section
variable {P : Program} {w : World} {K : PySem.W.Frag} {mg : Str → Option Value} {base h : Heap}
theorem cl_of {x : Str} {st : Stmt} {k : Nat} {ps : List Str} {sp : Sp} (a : FnAt K x st) (X : K.In h) (G : h.Ns mainGlobals mg)
    (hb : ∀ (kV doc pm : Value) (an : Option Addr) (cdv ct : Value) (us : List Value), us.length = ps.length → bindArgs (PySem.W.fnOf x x (defArgs st) (defBody st) (defScope st) .none kV doc pm an cdv ct) ⟨us, []⟩ = pure (ps.zip us))
    (ok : ∀ f fd, Fun K x x st f fd → FnOk P w K mg base CX0 k f fd ps sp) : Cl P w K mg base k x ps sp := by
  obtain ⟨f, fd, F, e⟩ := a.ex
  exact ⟨f, fd, ok f fd F, PySem.W.mg_of X G e, F.kp, F.binds hb⟩
theorem md_of {C : Addr} {m m' qual : Str} {st : Stmt} {k : Nat} {ps : List Str} {sp : Sp} (a : MtAt K C m m' qual st)
    (hb : ∀ (kV doc pm : Value) (an : Option Addr) (cdv ct : Value) (us : List Value), us.length = ps.length → bindArgs (PySem.W.fnOf m qual (defArgs st) (defBody st) (defScope st) .none kV doc pm an cdv ct) ⟨us, []⟩ = pure (ps.zip us))
    (ok : ∀ f fd, Fun K m qual st f fd → FnOk P w K mg base CX0 k f fd ps sp) : Md P w K mg base k C m' sp := by
  obtain ⟨f, fd, F, e, i, n⟩ := a.ex
  exact ⟨f, fnR_of (ok f fd F) (F.binds hb), e, i, n⟩
end
end OR

namespace OR
open PySem PySem.Spec PyProof.Rows L2
open AutoSeq1 (wpAny_loadPart')
/-! ### enumerate of a tuple -/
section
variable {prog : Program} {w : World} {A : Around} {E : Value → Shared → Prop} {s : Shared}
theorem nextOf_tup_item {it t : Addr} {i : Nat} {items : Array Value} {x : Value} {Q : Value → Shared → Prop} (hit : s.heap.IsTupleIter it t i) (ht : s.heap.IsTuple t items) (hx : items[i]? = some x)
    (hQ : ∀ h', h'.IsTupleIter it t (i + 1) → Heap.SameBut it s.heap h' → Q x { s with heap := h' }) : wpAny (model prog w) A (Builtin.SmallTypes.nextOf (.ref it)) Q E s := by
  obtain ⟨o, ho, hc, hd⟩ := id hit
  obtain ⟨ol, hol, _, nl, hdl⟩ := ht
  unfold Builtin.SmallTypes.nextOf
  refine wpAny_bind (wpAny_callSpecial?_slot (name := Str.ofString "__next__") hit.typeIs F.slot_tuple_iterator_next (wpAny_call_entry F.slot_tuple_iterator_next hit.typeIs F.entry_tuple_iterator_next ?_ (F.args_tuple_iterator_next_1 _)))
  show wpAny _ _ (field (.ref it) 0 >>= _) _ _ s
  refine wpAny_bind (wpAny_field ho hd (x := .ref t) rfl ?_)
  show wpAny _ _ (if (Value.ref t == Value.none) = true then _ else _) _ _ s
  rw [if_neg (show ¬ ((Value.ref t == Value.none) = true) by exact Bool.false_ne_true)]
  show wpAny _ _ (field (.ref it) 1 >>= _) _ _ s
  refine wpAny_bind (wpAny_field ho hd (x := .int i 0) rfl ?_)
  show wpAny _ _ (seqItems? (.ref t) >>= _) _ _ s
  refine wpAny_bind (wpAny_seqItems hol hdl ?_)
  simp only [Int.toNat_natCast, hx]
  refine wpAny_bind (wpAny_setField ho hd (by simp) (wpAny_pure ⟨x, rfl, wpAny_pure (hQ _ ⟨_, Heap.get?_update_self _ ho (Obj.isFreed_of_fields (Obj.data_mapFields hd _)), (Obj.cls_mapFields ..).trans hc, by
    rw [Obj.data_mapFields hd]; simp [rawInt]⟩ (Heap.SameBut.update ..))⟩))
theorem nextOf_tup_end {it t : Addr} {i : Nat} {items : Array Value} {Q : Value → Shared → Prop} (hh : A.handled = none) (hit : s.heap.IsTupleIter it t i) (ht : s.heap.IsTuple t items) (hx : items[i]? = none)
    (hE : ∀ h' e, Heap.ExtBut it s.heap h' → (∃ o, h'.get? e = some o ∧ o.cls = .type "StopIteration") → E (.ref e) { s with heap := h' }) : wpAny (model prog w) A (Builtin.SmallTypes.nextOf (.ref it)) Q E s := by
  obtain ⟨o, ho, hc, hd⟩ := id hit
  obtain ⟨ol, hol, _, nl, hdl⟩ := ht
  unfold Builtin.SmallTypes.nextOf
  refine wpAny_bind (wpAny_callSpecial?_slot (name := Str.ofString "__next__") hit.typeIs F.slot_tuple_iterator_next (wpAny_call_entry F.slot_tuple_iterator_next hit.typeIs F.entry_tuple_iterator_next ?_ (F.args_tuple_iterator_next_1 _)))
  show wpAny _ _ (field (.ref it) 0 >>= _) _ _ s
  refine wpAny_bind (wpAny_field ho hd (x := .ref t) rfl ?_)
  show wpAny _ _ (if (Value.ref t == Value.none) = true then _ else _) _ _ s
  rw [if_neg (show ¬ ((Value.ref t == Value.none) = true) by exact Bool.false_ne_true)]
  show wpAny _ _ (field (.ref it) 1 >>= _) _ _ s
  refine wpAny_bind (wpAny_field ho hd (x := .int i 0) rfl ?_)
  show wpAny _ _ (seqItems? (.ref t) >>= _) _ _ s
  refine wpAny_bind (wpAny_seqItems hol hdl ?_)
  simp only [Int.toNat_natCast, hx]
  refine wpAny_bind (wpAny_rule (wpAny_bind (wpAny_setField ho hd (by simp) ?_)))
  show wpAny _ _ (newExc (.type "StopIteration") [] >>= _) _ _ _
  refine wpAny_bind ?_
  simp only [newExc, newTuple]
  refine wpAny_bind (wpAny_newObj_type ?_ (by size_fits))
  refine wpAny_bind (m := firstArgMember _ _) (wpAny_of_eq (a := Value.none) (by first | rfl | (simp only [firstArgMember]; rfl)) ?_)
  refine wpAny_newObj_type ?_ (by size_fits)
  simp only [raiseNew]
  refine wpAny_bind (wpAny_handled ?_)
  first | rw [show A.in1.handled = none from hh] | rw [hh]
  refine wpAny_bind (wpAny_pure (wpAny_throw ?_))
  exact hE _ _ (((Heap.SameBut.update ..).extBut.push _).push _) ⟨_, Heap.get?_push_size _ rfl, rfl⟩
theorem draws_tup (hh : A.handled = none) (it t : Addr) (hne : t ≠ it) (items : Array Value) :
    Draws prog w A it [it, t] items.size (fun i v => items[i]? = some v) (fun i h => h.IsTupleIter it t i ∧ h.IsTuple t items) where
  live := fun _ _ st => let ⟨o, ho, _⟩ := st.1; ⟨o, ho⟩
  frame := fun _ _ _ st hk => ⟨let ⟨o, ho, r⟩ := st.1; ⟨o, hk it (by simp) o ho, r⟩, let ⟨o, ho, r⟩ := st.2; ⟨o, hk t (by simp) o ho, r⟩⟩
  item := fun i s Q E hi st hQ => by
    refine nextOf_tup_item st.1 st.2 (x := items[i]) (by simp [hi]) fun h' hit' hs' => ?_
    exact hQ _ h' s.toks (by simp [hi]) ⟨hit', st.2.extBut hs'.extBut hne⟩ hs'
  done := fun s Q E st hE => nextOf_tup_end hh st.1 st.2 (by simp) hE
theorem meets_enum_tup (l : Addr) (items : Array Value) (n : Nat) (dct : Option Addr) (sl : Array (Option Value)) :
    Meets (Builtin.«enumerate.__new__» ⟨[.type "enumerate", .ref l], []⟩) (fun _ R s => s.heap.get? l = some { cls := .type "tuple", dict := dct, data := .seq items n, slots := sl } ∧
      R (.ok (.ret (.ref (s.heap.push { cls := .type "tuple_iterator", data := .fields #[.ref l, .int 0 0] }).objs.size)))
        { s with heap := (s.heap.push { cls := .type "tuple_iterator", data := .fields #[.ref l, .int 0 0] }).push { cls := .type "enumerate", data := .fields #[.none, .bool false, .ref s.heap.objs.size, rawInt 0, .none, .none] } }) :=
  .of_wp fun prog w A R s h => by
    obtain ⟨hp, g, d, tk, os⟩ := s
    obtain ⟨hl, h⟩ := h
    have hsub := sub_enumerate
    have hL : Heap.IsTuple (Shared.heap ⟨hp, g, d, tk, os⟩) l items := ⟨_, hl, rfl, n, rfl⟩
    wp_walk using wpAny_loadPart' hl
    refine wpAny_stack_any fun st => wpAny_pure ?_
    split
    · rename_i c _ _ _ _ _
      cases (c == Value.type "enumerate")
      · wp_walk using wpAny_loadPart' hl, wpAny_pyIter_tuple hL
        exact ⟨_, rfl, h⟩
      · wp_walk using wpAny_loadPart' hl, wpAny_pyIter_tuple hL
        exact ⟨_, rfl, h⟩
    · wp_walk using wpAny_loadPart' hl, wpAny_pyIter_tuple hL
      exact ⟨_, rfl, h⟩
theorem call_enum_tup {l : Addr} {items : Array Value} {Q : Value → Shared → Prop} (hL : s.heap.IsTuple l items)
    (h : ∀ h', IsEnum h' (s.heap.objs.size + 1) s.heap.objs.size 0 .none → h'.IsTupleIter s.heap.objs.size l 0 → h'.objs.size = s.heap.objs.size + 2 →
      (∀ b o, s.heap.get? b = some o → h'.get? b = some o) → Q (.ref (s.heap.objs.size + 1)) { s with heap := h' }) :
    wpAny (model prog w) A (call (.type "enumerate") [.ref l]) Q E s := by
  obtain ⟨⟨c, dct, dt, sl⟩, hl, hc, n, hd⟩ := hL
  replace hc : c = .type "tuple" := hc
  replace hd : dt = .seq items n := hd
  subst hc hd
  refine callType_new F.called_enumerate (by decide) (F.typeCall_enumerate_1 _) (F.newCall_enumerate_1 _) (fun obj => F.args_object_init_2 obj _) F.entry_enumerate_new (meets_enum_tup l items n dct sl) ⟨hl, ?_⟩
  have hz : (s.heap.push { cls := .type "tuple_iterator", data := .fields #[.ref l, .int 0 0] }).objs.size = s.heap.objs.size + 1 := Heap.size_push ..
  show _ ∧ _
  rw [hz]
  have he : IsEnum ((s.heap.push { cls := .type "tuple_iterator", data := .fields #[.ref l, .int 0 0] }).push
      { cls := .type "enumerate", data := .fields #[.none, .bool false, .ref s.heap.objs.size, rawInt 0, .none, .none] }) (s.heap.objs.size + 1) s.heap.objs.size 0 .none := by
    have := Heap.get?_push_size (s.heap.push { cls := .type "tuple_iterator", data := .fields #[.ref l, .int 0 0] })
      (o := { cls := .type "enumerate", data := .fields #[.none, .bool false, .ref s.heap.objs.size, rawInt 0, .none, .none] }) rfl
    rw [hz] at this; exact this
  refine ⟨⟨_, he, rfl⟩, h _ he ⟨_, Heap.get?_push_of_some _ (Heap.get?_push_size _ rfl), rfl, rfl⟩ (by rw [Heap.size_push, hz]) fun b o x => Heap.get?_push_of_some _ (Heap.get?_push_of_some _ x)⟩
end
/-- the tuple at a as it stands at each turn, each item in a new pair -/
def IteT (K : PySem.W.Frag) (a : Addr) : It :=
  ⟨fun i H => ∃ (xs : List V) (x : V), SqT K H a xs ∧ xs[i]? = some x, fun i H v H' => ∃ T x, v = .ref T ∧ H T = none ∧ H' = upd H T (.tup [.int (i : Nat), x]) ∧ ∀ xs, SqT K H a xs → xs[i]? = some x, fun i H => ∃ xs : List V, SqT K H a xs ∧ xs.length ≤ i⟩
theorem turn_enumT {P : Program} {w : World} {K : PySem.W.Frag} {elts : List Expr} {kk : Nat} {tpos : Pos} (a e it : Addr) (hai : a ≠ it) (hea : e ≠ a) :
    Turn P w K (.Tuple elts kk tpos) (IteT K a) [e, it] e (fun i h => (∃ old, IsEnum h e it ((i : Nat) : Int) old) ∧ h.IsTupleIter it a i ∧ e ≠ it) where
  mem := by simp
  obj := fun i h st b hb => by
    obtain ⟨⟨old, he⟩, ⟨o, ho, hc, hd⟩, _⟩ := st
    have e' : b = e ∨ b = it := by simpa using hb
    rcases e' with z | z
    · rw [z]; exact ⟨_, he, fun v q => nomatch q⟩
    · rw [z]; exact ⟨o, ho, fun v q => by rw [hd] at q; cases q⟩
  keep := fun i h h' st k => by
    obtain ⟨⟨old, he⟩, ⟨o, ho, r⟩, hne⟩ := st
    exact ⟨⟨old, k e (by simp) _ he⟩, ⟨o, k it (by simp) o ho, r⟩, hne⟩
  item := by
    intro X hP hw hK hc i pins s σ H E I hf st hg
    subst hP hw hK
    obtain ⟨⟨old, he⟩, hit, hne⟩ := st
    obtain ⟨xs, x, hq, hx⟩ := hg
    obtain ⟨its, rv, p, hz⟩ := I.tuple hq
    obtain ⟨u, hu, ru⟩ := rv.get hx
    have hel : e < s.heap.objs.size := Heap.lt_size he
    have hil : it < s.heap.objs.size := by obtain ⟨_, q, _⟩ := hit; exact Heap.lt_size q
    have hD := draws_tup (prog := X.prog) (w := X.w) (A := X.A.in1) (I.ok.hd hc) it a hai its.toArray
    have hlt : i < its.toArray.size := by
      have := (List.getElem?_eq_some_iff.mp hu).1
      simpa using this
    refine wpAny_pyNext_enum_itemD hD he ⟨hit, show s.heap.IsTuple a its.toArray from p⟩ hlt hne (by simp [hne, hea]) fun y h' tk hy ho hst' hT hsz hk => ?_
    obtain rfl : y = u := by
      have h1 : its[i]? = some y := by simpa using hy
      rw [hu] at h1
      exact (Option.some.inj h1).symm
    refine ⟨_, rfl, wpAny_letOwnedTupleGo_enum (s := { s with heap := h', toks := tk + 1 }) ho fun h'' he' sb => ?_⟩
    have hT2 : h''.get? s.heap.objs.size = some { cls := .type "tuple", data := .seq #[.int i tk, y] } := (sb.2 _ (Nat.ne_of_gt hel)).trans hT
    have new : ObjOk X.prog X.w (upd H s.heap.objs.size (.tup [.int (i : Nat), x])) h'' s.heap.objs.size (.tup [.int (i : Nat), x]) :=
      ⟨by show 2 ≤ sizeLine; decide, [.int i tk, y], .cons ⟨_, rfl⟩ (.cons ru .nil), ⟨_, hT2, rfl, _, rfl⟩⟩
    have I1 : Inv X pins σ (upd H s.heap.objs.size (.tup [.int (i : Nat), x])) { s with heap := h'', toks := tk + 1 } :=
      I.turnedNew (ch := [e, it]) (fun b ob hb q => (sb.2 b (fun z => hb (by simp [z]))).trans (hk b ob (fun z => hb (by simp [z])) (fun z => hb (by simp [z])) q)) hf (Nat.le_refl _) new
    refine ⟨.ref s.heap.objs.size, _, I1, rfl, ⟨_, x, rfl, I.hok.fresh (Nat.le_refl _), rfl, fun ys hy => by rw [I.tuple_inj hy hq]; exact hx⟩, ⟨⟨y, ?_⟩, ?_, hne⟩, fun b hb => ?_⟩
    · have e1 : ((i + 1 : Nat) : Int) = (i : Int) + 1 := by omega
      rw [e1]; exact he'
    · obtain ⟨o, ho', r⟩ := hst'.1
      exact ⟨o, (sb.2 it (Ne.symm hne)).trans ho', r⟩
    · have hb' : b < s.heap.objs.size := by
        have e' : b = e ∨ b = it := by simpa using hb
        rcases e' with z | z
        · rw [z]; exact hel
        · rw [z]; exact hil
      rw [upd_ne (Nat.ne_of_lt hb')]
      exact (hf b hb).1
  done := by
    intro X hP hw hK hc i pins s σ H E I hf st hg
    subst hP hw hK
    obtain ⟨⟨old, he⟩, hit, hne⟩ := st
    obtain ⟨xs, hq, hx⟩ := hg
    obtain ⟨its, rv, p, hz⟩ := I.tuple hq
    obtain ⟨f0, f1, f2, f3, f4, f5⟩ := hf it (by simp)
    have hl := rv.length
    have hT : s.TypeIs (.ref e) "enumerate" := ⟨_, he, rfl⟩
    unfold pyNext
    refine wpAny_bind (wpAny_attempt (wpAny_callSpecial?_slot (name := Str.ofString "__next__") hT F.slot_enumerate_next (wpAny_call_entry F.slot_enumerate_next hT F.entry_enumerate_next ?_ (F.args_enumerate_next_1 _))))
    show wpAny _ _ (field (.ref e) 2 >>= _) _ _ _
    refine wpAny_bind (wpAny_field he rfl (x := .ref it) rfl ?_)
    refine wpAny_bind (nextOf_tup_end (I.ok.hd hc) hit (show s.heap.IsTuple a its.toArray from p) (by simp; omega) fun h' x he' hx' => ?_)
    obtain ⟨o, ho, hc'⟩ := hx'
    refine wpAny_bind (wpAny_isInstance (T := "StopIteration") (b := true) ⟨o, ho, hc'⟩ isSubtype_stop ?_)
    exact wpAny_pure ⟨rfl, I.turned (t' := s.toks) (fun b o hb q => he' b o hb q) f0 f1 f3 f4 f5⟩
  self := fun A i s Q E st h => let ⟨⟨_, he⟩, _⟩ := st; wpAny_pyIter_enum he h
def iEnumT (K : PySem.W.Frag) (ta : TA) : TI := fun σ H R => ta σ H fun vs H1 => ∃ a xs, vs = [.ref a] ∧ SqT K H1 a xs ∧ R (IteT K a) H1
theorem pi_enumT {X : Cx} {e : Expr} {ta : TA} {p pos tpos : Pos} {elts : List Expr} {kk : Nat} (hg : Gl X "enumerate") (hm : X.mg "enumerate" = none) (ha : PA X [e] ta) (hs : starEach [e] X.env = [(false, eval e X.env)] := by rfl) :
    PI X (.Tuple elts kk tpos) (.Call (.Name "enumerate" p) [e] [] pos) (iEnumT X.K ta) := by
  refine ⟨fun pins s σ H R I h => ?_⟩
  refine Call_ (ld_blt I hg hm boot_enumerate (PyProof.Rows.callWith_type1 (thn (ha.run pos pins s σ H _ I h) fun us s1 ⟨vs, H1, I1, r1, q1⟩ => ?_) hs rfl))
  obtain ⟨a, xs, ex, hq, q⟩ := q1
  subst ex
  cases r1 with
  | cons r rr =>
    cases rr
    cases r
    obtain ⟨its, rv, p', hz⟩ := I1.tuple hq
    have pt : s1.heap.IsTuple a its.toArray := p'
    have hal : a < s1.heap.objs.size := by obtain ⟨o, ho, _⟩ := pt; exact Heap.lt_size ho
    refine call_enum_tup pt fun h' he hit hsz hk => wpAny_pyIter_enum he ?_
    have I2 : Inv X pins σ H1 { s1 with heap := h' } := I1.kept (t' := s1.toks) hk
    refine ⟨s1.heap.objs.size + 1, [s1.heap.objs.size + 1, s1.heap.objs.size], _, _, H1, rfl, I2, turn_enumT a (s1.heap.objs.size + 1) s1.heap.objs.size (Nat.ne_of_lt hal) (Nat.ne_of_gt (Nat.lt_succ_of_lt hal)), ⟨⟨.none, he⟩, hit, Nat.succ_ne_self _⟩, fun b hb => ?_, q⟩
    have e' : b = s1.heap.objs.size + 1 ∨ b = s1.heap.objs.size := by simpa using hb
    have hle : s1.heap.objs.size ≤ b := by
      rcases e' with z | z
      · rw [z]; exact Nat.le_add_right _ _
      · rw [z]; exact Nat.le_refl _
    exact I1.fpOk hle (I1.hok.fresh hle)
/-- either reading of what is walked -/
theorem pi_or {X : Cx} {tg iter : Expr} {w1 w2 : TI} (h1 : PI X tg iter w1) (h2 : PI X tg iter w2) : PI X tg iter (fun σ H R => w1 σ H R ∨ w2 σ H R) :=
  ⟨fun pins s σ H R I q => q.elim (h1.run pins s σ H R I) (h2.run pins s σ H R I)⟩
theorem pg_or {X : Cx} {tg : Expr} {g1 g2 : TG} (h1 : PG X tg g1) (h2 : PG X tg g2) : PG X tg (fun v σ H Q => g1 v σ H Q ∨ g2 v σ H Q) :=
  ⟨fun pins s σ H x v Q I r q => q.elim (h1.run pins s σ H x v Q I r) (h2.run pins s σ H x v Q I r)⟩
end OR

namespace OR
abbrev Row := Int × Int
def mem (l : List Row) (x : Int) : Prop := ∃ r ∈ l, r.1 ≤ x ∧ x ≤ r.2
theorem mem_nil (x : Int) : ¬ mem [] x := fun ⟨_, h, _⟩ => nomatch h
theorem mem_cons {r : Row} {l : List Row} {x : Int} : mem (r :: l) x ↔ (r.1 ≤ x ∧ x ≤ r.2) ∨ mem l x := by
  constructor
  · rintro ⟨q, hq, h⟩
    rcases List.mem_cons.mp hq with e | e
    · subst e
      exact .inl h
    · exact .inr ⟨q, e, h⟩
  · rintro (h | ⟨q, hq, h⟩)
    · exact ⟨r, List.mem_cons_self, h⟩
    · exact ⟨q, List.mem_cons_of_mem _ hq, h⟩
theorem mem_append {l m : List Row} {x : Int} : mem (l ++ m) x ↔ mem l x ∨ mem m x := by
  constructor
  · rintro ⟨q, hq, h⟩
    rcases List.mem_append.mp hq with e | e
    · exact .inl ⟨q, e, h⟩
    · exact .inr ⟨q, e, h⟩
  · rintro (⟨q, hq, h⟩ | ⟨q, hq, h⟩)
    · exact ⟨q, List.mem_append_left _ hq, h⟩
    · exact ⟨q, List.mem_append_right _ hq, h⟩
theorem mem_same {l m : List Row} (h : ∀ r, r ∈ l ↔ r ∈ m) (x : Int) : mem l x ↔ mem m x :=
  ⟨fun ⟨q, hq, k⟩ => ⟨q, (h q).mp hq, k⟩, fun ⟨q, hq, k⟩ => ⟨q, (h q).mpr hq, k⟩⟩
theorem mem_reverse {l : List Row} {x : Int} : mem l.reverse x ↔ mem l x := mem_same (fun _ => List.mem_reverse) x
/-- the one form: in order, with a gap between any two -/
structure Nf (l : List Row) : Prop where
  ok : ∀ r ∈ l, r.1 ≤ r.2
  gap : l.Pairwise fun r s => r.2 + 1 < s.1
theorem Nf.nil : Nf [] := ⟨fun _ h => (nomatch h), .nil⟩
theorem Nf.tail {r : Row} {l : List Row} (h : Nf (r :: l)) : Nf l := ⟨fun q hq => h.ok q (List.mem_cons_of_mem _ hq), (List.pairwise_cons.mp h.gap).2⟩
theorem Nf.head {r : Row} {l : List Row} (h : Nf (r :: l)) : r.1 ≤ r.2 := h.ok r List.mem_cons_self
theorem Nf.behind {r : Row} {l : List Row} (h : Nf (r :: l)) {x : Int} (m : mem l x) : r.2 + 1 < x := by
  obtain ⟨q, hq, h1, _⟩ := m
  have := (List.pairwise_cons.mp h.gap).1 q hq
  omega
/-- the one form is told by its places -/
theorem Nf.unique : ∀ {l m : List Row}, Nf l → Nf m → (∀ x, mem l x ↔ mem m x) → l = m
  | [], [], _, _, _ => rfl
  | [], s :: m, _, hm, h => absurd ((h s.1).mpr (mem_cons.mpr (.inl ⟨Int.le_refl _, hm.head⟩))) (mem_nil _)
  | r :: l, [], hl, _, h => absurd ((h r.1).mp (mem_cons.mpr (.inl ⟨Int.le_refl _, hl.head⟩))) (mem_nil _)
  | r :: l, s :: m, hl, hm, h => by
    have lr := hl.head
    have ls := hm.head
    have least : ∀ {x}, mem (r :: l) x → r.1 ≤ x := fun {x} hx => by
      rcases mem_cons.mp hx with k | k
      · exact k.1
      · have := hl.behind k; omega
    have least' : ∀ {x}, mem (s :: m) x → s.1 ≤ x := fun {x} hx => by
      rcases mem_cons.mp hx with k | k
      · exact k.1
      · have := hm.behind k; omega
    have e1 : r.1 = s.1 := by
      have a := least ((h s.1).mpr (mem_cons.mpr (.inl ⟨Int.le_refl _, ls⟩)))
      have b := least' ((h r.1).mp (mem_cons.mpr (.inl ⟨Int.le_refl _, lr⟩)))
      omega
    have nr : ¬ mem (r :: l) (r.2 + 1) := fun k => by
      rcases mem_cons.mp k with k | k
      · omega
      · have := hl.behind k; omega
    have ns : ¬ mem (s :: m) (s.2 + 1) := fun k => by
      rcases mem_cons.mp k with k | k
      · omega
      · have := hm.behind k; omega
    have e2 : r.2 = s.2 := by
      rcases Int.lt_trichotomy r.2 s.2 with k | k | k
      · exact absurd ((h _).mpr (mem_cons.mpr (.inl ⟨by omega, by omega⟩))) nr
      · exact k
      · exact absurd ((h _).mp (mem_cons.mpr (.inl ⟨by omega, by omega⟩))) ns
    have e : r = s := Prod.ext e1 e2
    subst e
    congr 1
    refine Nf.unique hl.tail hm.tail fun x => ⟨fun k => ?_, fun k => ?_⟩
    · have b := hl.behind k
      rcases mem_cons.mp ((h x).mp (mem_cons.mpr (.inr k))) with z | z
      · omega
      · exact z
    · have b := hm.behind k
      rcases mem_cons.mp ((h x).mpr (mem_cons.mpr (.inr k))) with z | z
      · omega
      · exact z
/-- a row more behind rows in one form, which are written backwards -/
def jstep : List Row → Row → List Row
  | [], r => [r]
  | q :: t, r => if r.1 ≤ q.2 + 1 then (q.1, if r.2 > q.2 then r.2 else q.2) :: t else r :: q :: t
def jfold (l : List Row) : List Row := l.foldl jstep []
/-- what the fold keeps: acc stands backwards -/
structure Jn (acc : List Row) (done : List Row) (b : Int) : Prop where
  nf : Nf acc.reverse
  up : ∀ q ∈ acc, q.1 ≤ b
  me : ∀ x, mem acc x ↔ mem done x
theorem nf_snoc {l : List Row} {r : Row} (h : Nf l) (hr : r.1 ≤ r.2) (hg : ∀ q ∈ l, q.2 + 1 < r.1) : Nf (l ++ [r]) := by
  refine ⟨fun q hq => ?_, List.pairwise_append.mpr ⟨h.gap, List.pairwise_singleton _ _, fun a ha b hb => ?_⟩⟩
  · rcases List.mem_append.mp hq with k | k
    · exact h.ok q k
    · rw [List.mem_singleton.mp k]; exact hr
  · rw [List.mem_singleton.mp hb]; exact hg a ha
theorem nf_unsnoc {l : List Row} {r : Row} (h : Nf (l ++ [r])) : Nf l ∧ r.1 ≤ r.2 ∧ ∀ q ∈ l, q.2 + 1 < r.1 := by
  have g := List.pairwise_append.mp h.gap
  exact ⟨⟨fun q hq => h.ok q (List.mem_append_left _ hq), g.1⟩, h.ok r (List.mem_append_right _ (List.mem_singleton.mpr rfl)), fun q hq => g.2.2 q hq r (List.mem_singleton.mpr rfl)⟩
theorem Jn.step {acc done : List Row} {b : Int} {r : Row} (h : Jn acc done b) (hb : b ≤ r.1) (hr : r.1 ≤ r.2) : Jn (jstep acc r) (done ++ [r]) r.1 := by
  have tailm : ∀ x, mem [r] x ↔ (r.1 ≤ x ∧ x ≤ r.2) := fun x => by
    rw [mem_cons]
    exact ⟨fun k => k.elim id fun z => absurd z (mem_nil _), .inl⟩
  cases acc with
  | nil =>
    refine ⟨nf_snoc Nf.nil hr (fun _ z => nomatch z), fun q hq => ?_, fun x => ?_⟩
    · rw [List.mem_singleton.mp hq]; exact Int.le_refl _
    · rw [mem_append, ← h.me x]
      exact ⟨.inr, fun k => k.elim (fun z => absurd z (mem_nil _)) id⟩
  | cons q t =>
    have n := h.nf
    rw [List.reverse_cons] at n
    obtain ⟨nt, hq, gq⟩ := nf_unsnoc n
    have hqr : q.1 ≤ r.1 := Int.le_trans (h.up q List.mem_cons_self) hb
    show Jn (if r.1 ≤ q.2 + 1 then (q.1, if r.2 > q.2 then r.2 else q.2) :: t else r :: q :: t) (done ++ [r]) r.1
    by_cases c : r.1 ≤ q.2 + 1
    · rw [if_pos c]
      refine ⟨?_, fun z hz => ?_, fun x => ?_⟩
      · rw [List.reverse_cons]
        refine nf_snoc nt ?_ fun z hz => gq z hz
        show q.1 ≤ (if r.2 > q.2 then r.2 else q.2)
        split <;> omega
      · rcases List.mem_cons.mp hz with e | e
        · subst e; exact hqr
        · exact Int.le_trans (h.up z (List.mem_cons_of_mem _ e)) hb
      · rw [mem_append, ← h.me x, mem_cons, mem_cons, tailm]
        show ((q.1 ≤ x ∧ x ≤ (if r.2 > q.2 then r.2 else q.2)) ∨ mem t x) ↔ _
        constructor
        · rintro (⟨k1, k2⟩ | k)
          · by_cases hx : x ≤ q.2
            · exact .inl (.inl ⟨k1, hx⟩)
            · split at k2
              · exact .inr ⟨by omega, k2⟩
              · omega
          · exact .inl (.inr k)
        · rintro ((⟨k1, k2⟩ | k) | ⟨k1, k2⟩)
          · refine .inl ⟨k1, ?_⟩
            split <;> omega
          · exact .inr k
          · refine .inl ⟨by omega, ?_⟩
            split <;> omega
    · rw [if_neg c]
      refine ⟨?_, fun z hz => ?_, fun x => ?_⟩
      · rw [List.reverse_cons, List.reverse_cons]
        refine nf_snoc n hr fun z hz => ?_
        rcases List.mem_append.mp hz with k | k
        · have := gq z k; omega
        · rw [List.mem_singleton.mp k]; omega
      · rcases List.mem_cons.mp hz with e | e
        · subst e; exact Int.le_refl _
        · exact Int.le_trans (h.up z e) hb
      · rw [mem_append, ← h.me x, mem_cons, tailm]
        exact ⟨fun k => k.elim .inr .inl, fun k => k.elim .inr .inl⟩
theorem Jn.nil (b : Int) : Jn [] [] b := ⟨Nf.nil, fun _ h => (nomatch h), fun _ => Iff.rfl⟩
/-- the fold over rows that ascend -/
theorem jfold_go : ∀ (l acc done : List Row) (b : Int), Jn acc done b → (∀ r ∈ l, r.1 ≤ r.2) → (∀ r ∈ l, b ≤ r.1) → l.Pairwise (fun r s => r.1 ≤ s.1) → ∃ b', Jn (l.foldl jstep acc) (done ++ l) b'
  | [], acc, done, b, h, _, _, _ => ⟨b, by rw [List.append_nil]; exact h⟩
  | r :: l, acc, done, b, h, ho, hb, hs => by
    have p := List.pairwise_cons.mp hs
    obtain ⟨b', h'⟩ := jfold_go l (jstep acc r) (done ++ [r]) r.1 (h.step (hb r List.mem_cons_self) (ho r List.mem_cons_self)) (fun q hq => ho q (List.mem_cons_of_mem _ hq)) (fun q hq => p.1 q hq) p.2
    exact ⟨b', by rw [List.append_assoc] at h'; exact h'⟩
theorem jfold_ok {l : List Row} (ho : ∀ r ∈ l, r.1 ≤ r.2) (hs : l.Pairwise (fun r s => r.1 ≤ s.1)) : Nf (jfold l).reverse ∧ ∀ x, mem (jfold l).reverse x ↔ mem l x := by
  cases l with
  | nil => exact ⟨Nf.nil, fun _ => Iff.rfl⟩
  | cons r l =>
    have p := List.pairwise_cons.mp hs
    obtain ⟨b', h⟩ := jfold_go (r :: l) [] [] r.1 (Jn.nil _) ho (fun q hq => by
      rcases List.mem_cons.mp hq with e | e
      · subst e; exact Int.le_refl _
      · exact p.1 q e) hs
    exact ⟨h.nf, fun x => by rw [mem_reverse]; exact h.me x⟩
end OR

namespace OR
open PySem PySem.Spec PyProof.Rows L2
/-! ### the code of Places -/
def lastP : Int := 10 ^ 30
def placeB (n : Int) : Bool := decide (0 ≤ n) && decide (n ≤ lastP)
def okRow (r : Row) : Bool := placeB r.1 && (placeB r.2 && decide (r.1 ≤ r.2))
structure PTxt (K : PySem.W.Frag) (mg : Str → Option Value) (C : Addr) : Prop where
  cl : Cls K C
  nS : NoAttr K C "stretches"
  nF : NoAttr K C "_firsts"
  nB : NoAttr K C "_before"
  mgC : mg "Places" = some (.ref C)
  isi : SlX.SIsi K C
  kPP : PySem.W.kitOne K (.ref C) (.ref C) = some true
  zIsi : mg "isinstance" = none
  zInt : mg "int" = none
  zBool : mg "bool" = none
  zTup : mg "tuple" = none
  zList : mg "list" = none
  zLen : mg "len" = none
  zMax : mg "max" = none
  zSort : mg "sorted" = none
  zEnum : mg "enumerate" = none
  last : ∃ t, mg "LAST_PLACE" = some (.int lastP t)
theorem bt_isi : bootBuiltins ("isinstance" : Str) = some (.builtin "isinstance") := by decide +kernel
theorem bt_int : bootBuiltins ("int" : Str) = some (.type "int") := by decide +kernel
theorem bt_bool : bootBuiltins ("bool" : Str) = some (.type "bool") := by decide +kernel
theorem bt_tup : bootBuiltins ("tuple" : Str) = some (.type "tuple") := by decide +kernel
theorem bt_list : bootBuiltins ("list" : Str) = some (.type "list") := by decide +kernel
theorem bt_max : bootBuiltins ("max" : Str) = some (.builtin "max") := by decide +kernel
theorem bt_min : bootBuiltins ("min" : Str) = some (.builtin "min") := by decide +kernel
theorem bt_sorted : bootBuiltins ("sorted" : Str) = some (.builtin "sorted") := by decide +kernel
/-- any value whose type is known -/
def spIsIntG (K : PySem.W.Frag) : Sp := fun vs H Q _ => ∃ (x : V) (T : String) (b1 b2 : Bool), vs = [x] ∧ TyX K H x (.type T) ∧ kitB T "int" = some b1 ∧ kitB T "bool" = some b2 ∧ Q (.bl (b1 && !b2)) H
def spIsPlace (K : PySem.W.Frag) : Sp := fun vs H Q _ => ∃ x, vs = [x] ∧ ((∃ n, x = .int n ∧ Q (.bl (placeB n)) H) ∨ ∃ (T : String) (b1 b2 : Bool), TyX K H x (.type T) ∧ kitB T "int" = some b1 ∧ kitB T "bool" = some b2 ∧ (b1 && !b2) = false ∧ Q (.bl false) H)
/-- a pair of integers, a tuple or a list -/
def PairAt (H : Hp) (a : Addr) (r : Row) : Prop := H a = some (.tup [.int r.1, .int r.2]) ∨ H a = some (.lst [.int r.1, .int r.2])
def spIsStretchP : Sp := fun vs H Q _ => ∃ a r, vs = [.ref a] ∧ PairAt H a r ∧ ∀ H', Same H H' → Q (.bl (okRow r)) H'
section
variable {P : Program} {w : World} {K : PySem.W.Frag} {mg : Str → Option Value} {base : Heap}
theorem scIsI : FnScope ["value"] ["value"] (defScope sIsInt) := ⟨rfl, rfl, rfl, by decide +kernel, rfl, by decide +kernel, by decide +kernel⟩
theorem ok_isintG {f C : Addr} {fd : FuncData} (F : Fun K "is_integer" "is_integer" sIsInt f fd) (T : PTxt K mg C) : FnOk P w K mg base CX0 1 f fd ["value"] (spIsIntG K) := by
  refine F.ok scIsI (fun vs H Q E h => ?_) (fun cdv A outer s H vs Q E hr h => ?_)
  · obtain ⟨x, _, _, _, rfl, _⟩ := h
    rfl
  · obtain ⟨x, ty, b1, b2, rfl, hT, h1, h2, q⟩ := h
    refine ⟨_, pss_one (ps_ret (pe_and (pe_callB call_isi (by rfl) T.zIsi bt_isi (pa_cons (pv 0) (pa_cons (pe_bltn (v := .ty "int") (by rfl) T.zInt bt_int rfl) pa_nil)))
      (pe_one (pe_not (pe_callB call_isi (by rfl) T.zIsi bt_isi (pa_cons (pv 0) (pa_cons (pe_bltn (v := .ty "bool") (by rfl) T.zBool bt_bool rfl) pa_nil))))))), ?_⟩
    refine ⟨_, rfl, x, .ty "int", _, _, b1, rfl, .ty "int", hT, kit_ty h1, b1, rfl, ?_⟩
    cases b1 with
    | true => exact iteT ⟨_, rfl, x, .ty "bool", _, _, b2, rfl, .ty "bool", hT, kit_ty h2, b2, rfl, q⟩
    | false => exact iteF q
theorem scIsP : FnScope ["value"] ["value"] (defScope sIsPlace) := ⟨rfl, rfl, rfl, by decide +kernel, rfl, by decide +kernel, by decide +kernel⟩
theorem ok_isplace {f C : Addr} {fd : FuncData} (F : Fun K "is_place" "is_place" sIsPlace f fd) (T : PTxt K mg C) (I : Cl P w K mg base 1 "is_integer" ["value"] (spIsIntG K)) : FnOk P w K mg base CX0 2 f fd ["value"] (spIsPlace K) := by
  refine F.ok scIsP (fun vs H Q E h => ?_) (fun cdv A outer s H vs Q E hr h => ?_)
  · obtain ⟨x, rfl, _⟩ := h
    rfl
  · obtain ⟨x, rfl, h⟩ := h
    obtain ⟨tl, hl⟩ := T.last
    refine ⟨_, pss_one (ps_ret (pe_and (pe_cl I hr (by decide) (by rfl) (pa_cons (pv 0) pa_nil)) (pe_one (pe_chain op_le op_le pe_int (pv 0) (pe_glob (v := .int lastP) (by rfl) hl ⟨tl, rfl⟩))))), ?_⟩
    rcases h with ⟨n, rfl, q⟩ | ⟨ty, b1, b2, hT, h1, h2, hb, q⟩
    · refine ⟨_, rfl, .int n, "int", true, false, rfl, .base (.int n), by decide +kernel, by decide +kernel, true, rfl, iteT ?_⟩
      refine ⟨_, rfl, _, _, rfl, rfl, _, rfl, ?_⟩
      unfold placeB at q
      cases e : decide ((0 : Int) ≤ n) with
      | true =>
        rw [e] at q
        exact iteT ⟨_, _, rfl, rfl, q⟩
      | false =>
        rw [e] at q
        exact iteF q
    · exact ⟨_, rfl, x, ty, b1, b2, rfl, hT, h1, h2, _, rfl, by rw [hb]; exact iteF q⟩
theorem scIsS : FnScope ["value", "first", "last"] ["value"] (defScope sIsStretch) := ⟨rfl, rfl, rfl, by decide +kernel, rfl, by decide +kernel, by decide +kernel⟩
theorem ok_isstretch {f C : Addr} {fd : FuncData} (F : Fun K "_is_stretch" "_is_stretch" sIsStretch f fd) (T : PTxt K mg C) (I : Cl P w K mg base 2 "is_place" ["value"] (spIsPlace K)) : FnOk P w K mg base CX0 3 f fd ["value"] spIsStretchP := by
  refine F.ok scIsS (fun vs H Q E h => ?_) (fun cdv A outer s H vs Q E hr h => ?_)
  · obtain ⟨a, r, rfl, _⟩ := h
    rfl
  · obtain ⟨a, r, rfl, hp, q⟩ := h
    have nd := scIsS.nd
    refine ⟨_, pss_cons (ps_if (PW.pt (pw_or (pt_not (pt_val (pe_callB call_isiT (by rfl) T.zIsi bt_isi (pa_cons (pv 0) (pa_cons (pe_tup (pa_cons (pe_bltn (v := .ty "tuple") (by rfl) T.zTup bt_tup rfl) (pa_cons (pe_bltn (v := .ty "list") (by rfl) T.zList bt_list rfl) pa_nil))) pa_nil)))))
        (pw_or1 (pt_cmpR op_ne (pe_callB call_len_seq (by rfl) T.zLen PySem.boot_len (pa_cons (pv 0) pa_nil)) pe_int (nomark _))))) (pss_one (ps_ret pe_bl)) pss_nil)
      (pss_cons (ps_asg (pv 0) (pg_or (pg_tup rfl (pgs_cons (pg_name (i := 1) nd rfl (.inl rfl)) (pgs_cons (pg_name (i := 2) nd rfl (.inl rfl)) pgs_nil))) (pg_unl rfl (pgs_cons (pg_name (i := 1) nd rfl (.inl rfl)) (pgs_cons (pg_name (i := 2) nd rfl (.inl rfl)) pgs_nil)))))
      (pss_one (ps_ret (pe_and (pe_cl I hr (by decide) (by rfl) (pa_cons (pv 1) pa_nil)) (pe_and (pe_cl I hr (by decide) (by rfl) (pa_cons (pv 2) pa_nil)) (pe_one (pe_cmpR op_le (pv 1) (pv 2) (nomark _)))))))), ?_⟩
    refine ⟨_, rfl, by show 2 ≤ sizeLine; decide, fun t ht => ?_⟩
    have S1 : Same H (upd H t (.tup [.ty "tuple", .ty "list"])) := fun b o e => by rw [upd_ne (ne_of_none e ht)]; exact e
    have hp1 : PairAt (upd H t (.tup [.ty "tuple", .ty "list"])) a r := hp.elim (fun e => .inl (S1 _ _ e)) fun e => .inr (S1 _ _ e)
    have hseq : SqL K (upd H t (.tup [.ty "tuple", .ty "list"])) a [.int r.1, .int r.2] ∨ SqT K (upd H t (.tup [.ty "tuple", .ty "list"])) a [.int r.1, .int r.2] := hp1.elim (fun e => .inr (.inl (.inl e))) fun e => .inl (.inl (.inl e))
    have hty : ∃ T, TyX K (upd H t (.tup [.ty "tuple", .ty "list"])) (.ref a) (.type T) ∧ PySem.W.kitAny K (.type T) [.type "tuple", .type "list"] = some true := by
      rcases hp1 with e | e
      · exact ⟨"tuple", .base (.tup e), kitAny_cons (kit_ty (b := "tuple") (r := true) (by decide +kernel)) (fun z => nomatch z) fun _ => rfl⟩
      · exact ⟨"list", .base (.lst e), kitAny_cons (kit_ty (b := "tuple") (r := false) (by decide +kernel)) (fun _ => kitAny_cons (kit_ty (b := "list") (r := true) (by decide +kernel)) (fun z => nomatch z) fun _ => rfl) fun z => nomatch z⟩
    obtain ⟨ty, hT, hk⟩ := hty
    refine ⟨.ref a, t, _, .type ty, [.type "tuple", .type "list"], true, rfl, upd_same, .cons (.ty "tuple") (.cons (.ty "list") .nil), hT, hk, true, rfl, iteF ?_⟩
    refine ⟨_, rfl, a, _, rfl, hseq, rfl, _, rfl, iteNS rfl ?_⟩
    have fin : ∀ (Q' : Prop), (Q (.bl (okRow r)) (upd H t (.tup [.ty "tuple", .ty "list"])) → Q') → Q' := fun Q' k => k (q _ S1)
    have tail : ∀ σ : L2.St, σ = [some (.ref a), some (.int r.1), some (.int r.2)] → (tRet (tAndV (tCall (spIsPlace K) [] E0 (tCons (tVar 1) tNil)) (tAndV (tCall (spIsPlace K) [] E0 (tCons (tVar 2) tNil)) (tOp (rI0 fun i j => .bl (decide (i ≤ j))) (tVar 1) (tVar 2))))) { nx := fun _ H' => Q .non H', rt := Q } σ (upd H t (.tup [.ty "tuple", .ty "list"])) := by
      intro σ e
      subst e
      refine ⟨_, rfl, _, rfl, .inl ⟨r.1, rfl, _, rfl, ?_⟩⟩
      have q1 := q _ S1
      unfold okRow at q1
      cases e1 : placeB r.1 with
      | false => rw [e1] at q1; exact iteF q1
      | true =>
        rw [e1] at q1
        refine iteT ⟨_, rfl, _, rfl, .inl ⟨r.2, rfl, _, rfl, ?_⟩⟩
        cases e2 : placeB r.2 with
        | false => rw [e2] at q1; exact iteF q1
        | true =>
          rw [e2] at q1
          exact iteT ⟨_, rfl, _, rfl, _, _, rfl, rfl, q1⟩
    rcases hp1 with e | e
    · exact ⟨_, rfl, .inl ⟨a, _, rfl, .inl (.inl e), rfl, _, _, rfl, _, _, rfl, rfl, tail _ rfl⟩⟩
    · exact ⟨_, rfl, .inr ⟨a, _, rfl, .inl (.inl e), rfl, _, _, rfl, _, _, rfl, rfl, tail _ rfl⟩⟩
end
end OR

namespace OR
open PySem PySem.Spec PyProof.Rows L2
/-- all but what stands at p is as it was -/
def Fre (p : Addr) (H H' : Hp) : Prop := ∀ b o, H b = some o → b ≠ p → H' b = some o
theorem Fre.refl (p : Addr) (H : Hp) : Fre p H H := fun _ _ h _ => h
theorem Fre.trans {p : Addr} {H H1 H2 : Hp} (a : Fre p H H1) (b : Fre p H1 H2) : Fre p H H2 := fun c o h n => b c o (a c o h n) n
theorem Fre.put {p : Addr} {H : Hp} {o : HO} : Fre p H (upd H p o) := fun b x e n => by rw [upd_ne n]; exact e
/-! ### rows of pairs in the heap -/
abbrev ARow := Addr × Row
def refs (L : List ARow) : List V := L.map fun p => V.ref p.1
def rws (L : List ARow) : List Row := L.map (·.2)
def AtR (H : Hp) (L : List ARow) : Prop := ∀ p ∈ L, H p.1 = some (.tup [.int p.2.1, .int p.2.2])
def PairsAt (H : Hp) (L : List ARow) : Prop := ∀ p ∈ L, PairAt H p.1 p.2
theorem AtR.same {H H' : Hp} {L : List ARow} (h : AtR H L) (s : Same H H') : AtR H' L := fun p hp => s _ _ (h p hp)
theorem PairsAt.same {H H' : Hp} {L : List ARow} (h : PairsAt H L) (s : Same H H') : PairsAt H' L := fun p hp => (h p hp).elim (fun e => .inl (s _ _ e)) fun e => .inr (s _ _ e)
theorem AtR.pairs {H : Hp} {L : List ARow} (h : AtR H L) : PairsAt H L := fun p hp => .inl (h p hp)
theorem refs_len (L : List ARow) : (refs L).length = L.length := List.length_map ..
theorem rws_len (L : List ARow) : (rws L).length = L.length := List.length_map ..
theorem refs_snoc (L : List ARow) (p : ARow) : refs (L ++ [p]) = refs L ++ [.ref p.1] := by unfold refs; rw [List.map_append]; rfl
theorem rws_snoc (L : List ARow) (p : ARow) : rws (L ++ [p]) = rws L ++ [p.2] := by unfold rws; rw [List.map_append]; rfl
theorem refs_get {L : List ARow} {i : Nat} {v : V} (h : (refs L)[i]? = some v) : ∃ p, L[i]? = some p ∧ p ∈ L ∧ v = .ref p.1 := by
  unfold refs at h
  rw [List.getElem?_map] at h
  cases e : L[i]? with
  | none => rw [e] at h; cases h
  | some p => rw [e] at h; exact ⟨p, rfl, List.mem_of_getElem? e, (Option.some.inj h).symm⟩
theorem rws_get {L : List ARow} {i : Nat} {p : ARow} (h : L[i]? = some p) : (rws L)[i]? = some p.2 := by
  unfold rws
  rw [List.getElem?_map, h]
  rfl
theorem mem_rws {L : List ARow} {r : Row} : r ∈ rws L ↔ ∃ a, (a, r) ∈ L := by
  unfold rws
  rw [List.mem_map]
  exact ⟨fun ⟨p, hp, e⟩ => ⟨p.1, by rw [← e]; exact hp⟩, fun ⟨a, h⟩ => ⟨(a, r), h, rfl⟩⟩
/-- what a reference to a pair is worth -/
def kOf (H : Hp) : V → Int × Int
  | .ref a => match H a with
    | some (.tup [.int x, .int y]) => (x, y)
    | _ => (0, 0)
  | _ => (0, 0)
theorem kOf_at {H : Hp} {a : Addr} {x y : Int} (h : H a = some (.tup [.int x, .int y])) : kOf H (.ref a) = (x, y) := by
  show (match H a with
    | some (.tup [.int x, .int y]) => (x, y)
    | _ => (0, 0)) = (x, y)
  rw [h]
def adr : V → Addr
  | .ref a => a
  | _ => 0
/-- an arrangement of references is one of rows -/
theorem refs_perm {H : Hp} {M : List ARow} {ys : List V} (hM : AtR H M) (hp : ys.Perm (refs M)) : ∃ S : List ARow, ys = refs S ∧ AtR H S ∧ (∀ r, r ∈ rws S ↔ r ∈ rws M) ∧ S.length = M.length ∧ rws S = ys.map (kOf H) := by
  have each : ∀ y ∈ ys, ∃ p ∈ M, y = .ref p.1 ∧ kOf H y = p.2 := fun y hy => by
    have := hp.mem_iff.mp hy
    unfold refs at this
    obtain ⟨p, hpM, e⟩ := List.mem_map.mp this
    subst e
    exact ⟨p, hpM, rfl, kOf_at (hM p hpM)⟩
  have back : ∀ p ∈ M, V.ref p.1 ∈ ys := fun p hpM => hp.mem_iff.mpr (List.mem_map.mpr ⟨p, hpM, rfl⟩)
  refine ⟨ys.map fun y => (adr y, kOf H y), ?_, ?_, fun r => ?_, ?_, ?_⟩
  · unfold refs
    rw [List.map_map]
    refine Eq.trans (List.map_id ys).symm (List.map_congr_left fun y hy => ?_)
    obtain ⟨p, _, rfl, _⟩ := each y hy
    rfl
  · intro q hq
    obtain ⟨y, hy, e⟩ := List.mem_map.mp hq
    obtain ⟨p, hpM, rfl, k⟩ := each y hy
    subst e
    show H p.1 = some (.tup [.int (kOf H (.ref p.1)).1, .int (kOf H (.ref p.1)).2])
    rw [k]
    exact hM p hpM
  · unfold rws
    rw [List.map_map, List.mem_map, List.mem_map]
    constructor
    · rintro ⟨y, hy, e⟩
      obtain ⟨p, hpM, rfl, k⟩ := each y hy
      exact ⟨p, hpM, by rw [← e]; exact k.symm⟩
    · rintro ⟨p, hpM, e⟩
      exact ⟨.ref p.1, back p hpM, by rw [← e]; exact kOf_at (hM p hpM)⟩
  · rw [List.length_map, hp.length_eq, refs_len]
  · unfold rws
    rw [List.map_map]
    rfl
theorem jstep_len : ∀ (acc : List Row) (r : Row), (jstep acc r).length ≤ acc.length + 1
  | [], r => Nat.le_refl _
  | q :: t, r => by
    show (if r.1 ≤ q.2 + 1 then (q.1, if r.2 > q.2 then r.2 else q.2) :: t else r :: q :: t).length ≤ _
    split
    · exact Nat.le_succ _
    · exact Nat.le_refl _
theorem jfold_len : ∀ (l acc : List Row), (l.foldl jstep acc).length ≤ acc.length + l.length
  | [], acc => Nat.le_refl _
  | r :: l, acc => by
    have h1 := jfold_len l (jstep acc r)
    have h2 := jstep_len acc r
    show (l.foldl jstep (jstep acc r)).length ≤ _
    rw [List.length_cons]
    omega
theorem ixN_last (n : Nat) : ixN (n + 1) (-1) = some n := by
  unfold ixN
  rw [if_neg (by omega), if_pos (by omega)]
  congr 1
  omega
theorem set_last (xs : List V) (v u : V) : (xs ++ [v]).set xs.length u = xs ++ [u] := by
  rw [List.set_append_right _ _ (Nat.le_refl _), Nat.sub_self]
  rfl
def rTupOf (K : PySem.W.Frag) : List V → Hp → VK → Prop := fun xs H Q => ∃ p ys, xs = [.ref p] ∧ ((SqL K H p ys ∧ ∀ l, H l = none → Q (.ref l) (upd H l (.tup ys))) ∨ (SqT K H p ys ∧ Q (.ref p) H))
theorem call_tupOf {X : Cx} (K : PySem.W.Frag) (h : X.K = K) : CallR X (.type "tuple") (rTupOf K) := by
  subst h
  exact call_tuple_of
theorem yesT {σ : L2.St} {H : Hp} {A B : Hp → Prop} (h : A H) : tYes σ H (fun b H3 => if b = true then A H3 else B H3) := by
  show if true = true then A H else B H
  rw [if_pos rfl]
  exact h
theorem same_upd {H H' : Hp} {b : Addr} {u : HO} (s : Same H H') (h : H b = none) : Same H (upd H' b u) := fun c v e => by rw [upd_ne (ne_of_none e h)]; exact s c v e
theorem same_lay {H : Hp} {q : Addr} {o : HO} (h : H q = none) : Same H (upd H q o) := fun b x e => by rw [upd_ne (ne_of_none e h)]; exact e
theorem sameT {K : PySem.W.Frag} {H H' : Hp} {a : Addr} {xs : List V} (e : Same H H') (h : SqT K H a xs) : SqT K H' a xs := by
  rcases h with (h | ⟨o, h⟩) | h
  · exact .inl (.inl (e _ _ h))
  · exact .inl (.inr ⟨o, e _ _ h⟩)
  · exact .inr h
def spJoined (K : PySem.W.Frag) : Sp := fun vs H Q _ => ∃ (a : Addr) (L : List ARow), vs = [.ref a] ∧ (SqL K H a (refs L) ∨ SqT K H a (refs L)) ∧ L.length ≤ 1000 ∧ PairsAt H L ∧ (∀ r ∈ rws L, r.1 ≤ r.2) ∧
  ∀ (t : Addr) (M : List ARow) (H' : Hp), Same H H' → H t = none → H' t = some (.tup (refs M)) → AtR H' M → Nf (rws M) → (∀ x, mem (rws M) x ↔ mem (rws L) x) → M.length ≤ L.length → Q (.ref t) H'
section
variable {P : Program} {w : World} {K : PySem.W.Frag} {mg : Str → Option Value} {base : Heap}
theorem scJ : FnScope ["stretches", "rows", "first", "last", "stretch"] ["stretches"] (defScope sJoined) := ⟨rfl, rfl, rfl, by decide +kernel, rfl, by decide +kernel, by decide +kernel⟩
theorem small_l {n : Nat} (h : n ≤ 1000) : n ≤ sizeLine := Nat.le_of_lt (small1000 h)
theorem ok_joined {f C : Addr} {fd : FuncData} (F : Fun K "_joined" "_joined" sJoined f fd) (T : PTxt K mg C) : FnOk P w K mg base CX0 1 f fd ["stretches"] (spJoined K) := by
  refine F.ok scJ (fun vs H Q E h => ?_) (fun cdv A outer s H vs Q E hr h => ?_)
  · obtain ⟨a, L, rfl, _⟩ := h
    rfl
  · obtain ⟨a, L, rfl, hS, hlen, hP, hok, q⟩ := h
    have nd := scJ.nd
    refine ⟨_, pss_cons (ps_set (i := 1) nd rfl (.inl rfl) (pe_lst pa_nil))
      (pss_cons (ps_for PassesOwn.never rfl (pi_list (pe_callB cr_sortedPO (by rfl) T.zSort bt_sorted (pa_cons
            (pe_lc (own := [("stretch", 4)]) (g := gName 4) (tt := tYes) rfl nd (pi_or (pi_list (pv 0)) (pi_tup (pv 0))) (blkOk_by (N := ["stretches", "rows", "first", "last", "stretch"]) (sc := defScope sJoined) (by decide +kernel))
              (fun _ _ _ _ _ => pg_name (i := 4) nd rfl (.inl rfl)) (fun _ _ _ _ _ => pts_nil) (fun _ _ _ _ _ => pe_callTy (call_tupOf K rfl) (by rfl) T.zTup bt_tup (pa_cons (pv 4) pa_nil))) pa_nil)))
          (pg_tup rfl (pgs_cons (pg_name (i := 2) nd rfl (.inl rfl)) (pgs_cons (pg_name (i := 3) nd rfl (.inl rfl)) pgs_nil)))
        (pss_one (ps_if (PW.pt (pw_and (pt_truth (pv 1) (by intro _; rfl)) (pw_and1 (pt_cmpR op_le (pv 2) (pe_op op_add (pe_ix ix_tup (pe_ix ix_list (pv 1) (pe_un un_neg pe_int) (fun _ _ => rfl)) pe_int (fun _ _ => rfl)) pe_int) (nomark _)))))
          (pss_one (ps_asg (pe_tup (pa_cons (pe_ix ix_tup (pe_ix ix_list (pv 1) (pe_un un_neg pe_int) (fun _ _ => rfl)) pe_int (fun _ _ => rfl))
              (pa_cons (pe_callB (call_max2 rfl) (by rfl) T.zMax bt_max (pa_cons (pe_ix ix_tup (pe_ix ix_list (pv 1) (pe_un un_neg pe_int) (fun _ _ => rfl)) pe_int (fun _ _ => rfl)) (pa_cons (pv 3) pa_nil))) pa_nil)))
            (pg_sub (pv 1) (pe_un un_neg pe_int) set_list)))
          (pss_one (ps_expr (pe_bm PySem.F.plainAttrs_list PySem.F.slot_list_append PySem.F.type_list_append mt_append (pv 1) (pa_cons (pe_tup (pa_cons (pv 2) (pa_cons (pv 3) pa_nil))) pa_nil)))))))
      (pss_one (ps_ret (pe_callTy call_tuple_of (by rfl) T.zTup bt_tup (pa_cons (pv 1) pa_nil))))), ?_⟩
    refine ⟨Nat.zero_le _, fun o no => ?_⟩
    have S1 : Same H (upd H o (.lst [])) := fun b u e => by rw [upd_ne (ne_of_none e no)]; exact e
    rcases hS with hS | hS
    · refine .inl ⟨_, rfl, a, rfl, ⟨_, S1.seq hS⟩, fun D hD => lc_list (K := K) (a := a) (xs := refs L) (fun i H2 => ∃ M : List ARow, H2 D = some (.lst (refs M)) ∧ AtR H2 M ∧ rws M = (rws L).take i ∧ Same (upd H o (.lst [])) H2)
        ⟨[], upd_same, (fun _ z => nomatch z), rfl, same_lay hD⟩ (fun i H2 _ ⟨_, _, _, _, s⟩ => s.seq (S1.seq hS)) ?_ ?_⟩
      · intro i x H2 hx hI
        obtain ⟨M, hD2, hM, eM, s2⟩ := hI
        obtain ⟨p, hp, hpL, rfl⟩ := refs_get hx
        have hil : i < L.length := (List.getElem?_eq_some_iff.mp hp).1
        have hlM : M.length = i := by
          rw [← rws_len M, eM, List.length_take, rws_len]
          omega
        have e1 : (rws L).take (i + 1) = (rws L).take i ++ [p.2] := by rw [List.take_add_one, rws_get hp]; rfl
        have nDp : ∀ q ∈ M, q.1 ≠ D := fun q hq => ne_of (hM q hq) hD2 (by intro z; cases z)
        refine ⟨rfl, yesT ?_⟩
        refine ⟨_, rfl, p.1, [.int p.2.1, .int p.2.2], rfl, ?_⟩
        rcases hP p hpL with e | e
        · have e3 := s2 _ _ (S1 _ _ e)
          refine .inr ⟨.inl (.inl e3), refs M, hD2, small1000 (by rw [refs_len, hlM]; omega), M ++ [p], ?_, ?_, ?_, same_upd s2 hD⟩
          · rw [upd_same, refs_snoc]
          · intro q hq
            rcases List.mem_append.mp hq with k | k
            · rw [upd_ne (nDp q k)]; exact hM q k
            · rw [List.mem_singleton.mp k, upd_ne (ne_of e3 hD2 (by intro z; cases z))]; exact e3
          · rw [rws_snoc, eM, e1]
        · have e3 := s2 _ _ (S1 _ _ e)
          refine .inl ⟨.inl (.inl e3), fun l hl => ?_⟩
          have nDl : D ≠ l := ne_of_none hD2 hl
          have s3 := same_lay (o := .tup [.int p.2.1, .int p.2.2]) hl
          refine ⟨refs M, s3 _ _ hD2, small1000 (by rw [refs_len, hlM]; omega), M ++ [(l, p.2)], ?_, ?_, ?_, same_upd (s2.trans s3) hD⟩
          · rw [upd_same, refs_snoc]
          · intro q hq
            rcases List.mem_append.mp hq with k | k
            · rw [upd_ne (nDp q k)]; exact s3 _ _ (hM q k)
            · rw [List.mem_singleton.mp k, upd_ne nDl.symm, upd_same]
          · rw [rws_snoc, eM, e1]
      · intro H2 hI
        obtain ⟨M, hD2, hM, eM, s2⟩ := hI
        rw [refs_len, List.take_of_length_le (by rw [rws_len]; exact Nat.le_refl _)] at eM
        have no2 : H2 o = some (.lst []) := s2 _ _ upd_same
        have lM : M.length = L.length := by rw [← rws_len M, eM, rws_len]
        -- sorted
        refine ⟨D, refs M, kOf H2, rfl, .inl (.inl hD2), fun y hy => ?_, fun ys p hs hb np => ?_⟩
        · unfold refs at hy
          obtain ⟨z, hz, rfl⟩ := List.mem_map.mp hy
          exact ⟨z.1, rfl, by rw [kOf_at (hM z hz)]; exact hM z hz⟩
        obtain ⟨S, rfl, hSA, hSm, hSl, hSk⟩ := refs_perm hM hb.perm
        have hso : (rws S).Pairwise fun r s => r.1 ≤ s.1 := by
          rw [hSk]
          refine List.pairwise_map.mpr (hs.imp fun {x y} hxy => ?_)
          have := SrtO.lexB_no.mp hxy
          omega
        have hSok : ∀ r ∈ rws S, r.1 ≤ r.2 := fun r hr => hok r (by rw [← eM]; exact (hSm r).mp hr)
        obtain ⟨hnf, hme⟩ := jfold_ok hSok hso
        have s3 := same_lay (o := .lst (refs S)) np
        have nop : o ≠ p := ne_of_none no2 np
        refine ⟨p, rfl, ⟨_, .inl (.inl upd_same)⟩, for_list (K := K) (a := p) (xs := refs S) (fun i σ H' => ∃ f l, ∃ A : List ARow, σ = [some (.ref a), some (.ref o), f, l, none] ∧ H' o = some (.lst (refs A)) ∧ AtR H' A ∧ rws A = (((rws S).take i).foldl jstep []).reverse ∧ Fre o (upd H2 p (.lst (refs S))) H' ∧ A.length ≤ i)
          ⟨none, none, [], rfl, by rw [upd_ne nop]; exact no2, (fun _ z => nomatch z), rfl, Fre.refl _ _, Nat.le_refl _⟩ (fun i σ H' _ ⟨_, _, _, _, _, _, _, fr, _⟩ => .inl (.inl (fr _ _ upd_same nop.symm))) ?_ ?_⟩
        · rintro i y σ H' hy ⟨f, l, A, rfl, hoA, hA, eA, fr, hAl⟩
          obtain ⟨z, hz, hzS, rfl⟩ := refs_get hy
          have hil : i < S.length := (List.getElem?_eq_some_iff.mp hz).1
          have ez : H' z.1 = some (.tup [.int z.2.1, .int z.2.2]) := fr _ _ (s3 _ _ (hSA z hzS)) (ne_of (hSA z hzS) no2 (by intro q; cases q))
          have e1 : ((rws S).take (i + 1)).foldl jstep [] = jstep (((rws S).take i).foldl jstep []) z.2 := by
            rw [List.take_add_one, rws_get hz, List.foldl_append]
            rfl
          have nAo : ∀ q ∈ A, q.1 ≠ o := fun q hq => ne_of (hA q hq) hoA (by intro w; cases w)
          refine ⟨z.1, _, rfl, .inl (.inl ez), rfl, _, _, rfl, _, _, rfl, rfl, ?_⟩
          refine ⟨_, rfl, !(refs A).isEmpty, .inl ⟨refs A, .inl (.inl hoA), rfl⟩, ?_⟩
          -- the row goes to the end
          have app : ∀ (hj : jstep (((rws S).take i).foldl jstep []) z.2 = z.2 :: ((rws S).take i).foldl jstep []) (T : Addr), H' T = none →
              ∃ f' l', ∃ A' : List ARow, [some (V.ref a), some (.ref o), some (.int z.2.1), some (.int z.2.2), none] = [some (.ref a), some (.ref o), f', l', none] ∧ (upd (upd H' T (.tup [.int z.2.1, .int z.2.2])) o (.lst (refs A ++ [.ref T]))) o = some (.lst (refs A')) ∧ AtR (upd (upd H' T (.tup [.int z.2.1, .int z.2.2])) o (.lst (refs A ++ [.ref T]))) A' ∧
                rws A' = (((rws S).take (i + 1)).foldl jstep []).reverse ∧ Fre o (upd H2 p (.lst (refs S))) (upd (upd H' T (.tup [.int z.2.1, .int z.2.2])) o (.lst (refs A ++ [.ref T]))) ∧ A'.length ≤ i + 1 := by
            intro hj Tn hT
            have s4 := same_lay (o := .tup [.int z.2.1, .int z.2.2]) hT
            have noT : Tn ≠ o := by
              intro e
              rw [e] at hT
              rw [hT] at hoA
              cases hoA
            refine ⟨_, _, A ++ [(Tn, z.2)], rfl, by rw [upd_same, refs_snoc], ?_, ?_, (fr.trans (fun b u e _ => s4 b u e)).trans Fre.put, by rw [List.length_append]; exact Nat.succ_le_succ hAl⟩
            · intro q hq
              rcases List.mem_append.mp hq with k | k
              · rw [upd_ne (nAo q k)]; exact s4 _ _ (hA q k)
              · rw [List.mem_singleton.mp k, upd_ne noT, upd_same]
            · rw [rws_snoc, eA, e1, hj, List.reverse_cons]
          have alen : (refs A).length < sizeLine := small1000 (by rw [refs_len]; omega)
          have two : 2 ≤ sizeLine := by decide
          cases hacc : ((rws S).take i).foldl jstep [] with
          | nil =>
            have eA0 : A = [] := by
              rw [hacc] at eA
              exact List.map_eq_nil_iff.mp eA
            refine ite2 (fun k => ?_) (fun _ => iteF ?_)
            · rw [eA0] at k
              exact absurd k (by decide)
            · refine ⟨_, rfl, .inl ⟨rfl, _, .inl (.inl hoA)⟩, _, rfl, _, rfl, two, fun Tn hT => ?_⟩
              refine ⟨o, refs A, _, rfl, rfl, same_lay hT _ _ hoA, alen, ?_⟩
              exact app (by rw [hacc]; rfl) Tn hT
          | cons q0 t0 =>
            have eA1 : rws A = t0.reverse ++ [q0] := by rw [eA, hacc, List.reverse_cons]
            obtain ⟨B, A2, rfl, eB, eA2⟩ := List.map_eq_append_iff.mp eA1
            obtain ⟨⟨aq, q1⟩, A3, rfl, eq1, eA3⟩ := List.map_eq_cons_iff.mp eA2
            obtain rfl := List.map_eq_nil_iff.mp eA3
            obtain rfl : q1 = q0 := eq1
            have haq : H' aq = some (.tup [.int q1.1, .int q1.2]) := hA (aq, q1) (List.mem_append_right _ (List.mem_singleton.mpr rfl))
            rw [refs_snoc] at hoA
            have hSo : SqL K H' o (refs B ++ [.ref aq]) := .inl (.inl hoA)
            have hSq : SqT K H' aq [.int q1.1, .int q1.2] := .inl (.inl haq)
            have g0 : atI [V.int q1.1, .int q1.2] 0 = some (.int q1.1) := atI_nat (j := 0) rfl
            have g1 : atI [V.int q1.1, .int q1.2] 1 = some (.int q1.2) := atI_nat (j := 1) rfl
            have gl : atI (refs B ++ [V.ref aq]) (-1) = some (.ref aq) := atI_last _ _
            refine ite2 (fun _ => ?_) (fun k => ?_)
            · refine ⟨_, rfl, _, rfl, 1, rfl, o, _, -1, _, rfl, rfl, hSo, gl, aq, _, 1, _, rfl, rfl, hSq, g1, _, _, rfl, rfl, _, _, rfl, rfl, _, rfl, ite2 (fun c => ?_) (fun c => ?_)⟩
              · have hc : z.2.1 ≤ q1.2 + 1 := of_decide_eq_true c
                refine ⟨_, rfl, 1, rfl, o, _, -1, _, rfl, rfl, hSo, gl, aq, _, 0, _, rfl, rfl, hSq, g0, _, rfl, 1, rfl, o, _, -1, _, rfl, rfl, hSo, gl, aq, _, 1, _, rfl, rfl, hSq, g1, _, rfl, _, _, rfl, two, fun Tn hT => ?_⟩
                have s4 := same_lay (o := .tup [.int q1.1, .int (if z.2.2 > q1.2 then z.2.2 else q1.2)]) hT
                have noT : Tn ≠ o := by
                  intro e
                  rw [e] at hT
                  rw [hT] at hoA
                  cases hoA
                have ixe : ixN (refs B ++ [V.ref aq]).length (-1) = some (refs B).length := by
                  rw [List.length_append]
                  exact ixN_last _
                refine ⟨_, rfl, 1, rfl, o, _, -1, _, rfl, rfl, s4 _ _ hoA, ixe, ?_⟩
                refine ⟨_, _, B ++ [(Tn, (q1.1, if z.2.2 > q1.2 then z.2.2 else q1.2))], rfl, by rw [upd_same, set_last, refs_snoc], ?_, ?_, (fr.trans (fun b u e _ => s4 b u e)).trans Fre.put, ?_⟩
                · intro q hq
                  rcases List.mem_append.mp hq with k | k
                  · rw [upd_ne (nAo q (List.mem_append_left _ k))]; exact s4 _ _ (hA q (List.mem_append_left _ k))
                  · rw [List.mem_singleton.mp k, upd_ne noT, upd_same]
                · rw [rws_snoc, e1, hacc]
                  show rws B ++ [(q1.1, if z.2.2 > q1.2 then z.2.2 else q1.2)] = (if z.2.1 ≤ q1.2 + 1 then (q1.1, if z.2.2 > q1.2 then z.2.2 else q1.2) :: t0 else z.2 :: q1 :: t0).reverse
                  rw [if_pos hc, List.reverse_cons]
                  exact congrArg (· ++ [(q1.1, if z.2.2 > q1.2 then z.2.2 else q1.2)]) eB
                · rw [List.length_append] at hAl ⊢
                  exact Nat.le_succ_of_le hAl
              · have hc : ¬ z.2.1 ≤ q1.2 + 1 := fun w => c (decide_eq_true w)
                refine ⟨_, rfl, .inl ⟨rfl, _, .inl (.inl hoA)⟩, _, rfl, _, rfl, two, fun Tn hT => ?_⟩
                refine ⟨o, _, _, rfl, rfl, same_lay hT _ _ hoA, by rw [← refs_snoc]; exact alen, ?_⟩
                rw [← refs_snoc]
                refine app ?_ Tn hT
                rw [hacc]
                show (if z.2.1 ≤ q1.2 + 1 then (q1.1, if z.2.2 > q1.2 then z.2.2 else q1.2) :: t0 else z.2 :: q1 :: t0) = z.2 :: q1 :: t0
                rw [if_neg hc]
            · exfalso
              apply k
              rw [refs_snoc]
              simp
        · rintro σ H' ⟨f, l, A, rfl, hoA, hA, eA, fr, hAl⟩
          rw [refs_len, List.take_of_length_le (by rw [rws_len]; exact Nat.le_refl _)] at eA
          have eN : rws A = (jfold (rws S)).reverse := eA
          refine ⟨_, rfl, o, refs A, rfl, .inl ⟨.inl (.inl hoA), fun t ht => ?_⟩⟩
          have s5 := same_lay (o := .tup (refs A)) ht
          have s6 : Same H H' := fun b u e => fr b u (s3 b u (s2 b u (S1 b u e))) (ne_of_none e no)
          refine q t A _ (s6.trans s5) (s6.free ht) upd_same (hA.same s5) (by rw [eN]; exact hnf) (fun x => ?_) ?_
          · rw [eN, hme x, ← eM]
            exact mem_same hSm x
          · rw [refs_len] at hAl
            omega
    · refine .inr ⟨_, rfl, a, rfl, ⟨_, sameT S1 hS⟩, fun D hD => lc_tup (K := K) (a := a) (xs := refs L) (fun i H2 => ∃ M : List ARow, H2 D = some (.lst (refs M)) ∧ AtR H2 M ∧ rws M = (rws L).take i ∧ Same (upd H o (.lst [])) H2)
        ⟨[], upd_same, (fun _ z => nomatch z), rfl, same_lay hD⟩ (fun i H2 _ ⟨_, _, _, _, s⟩ => sameT s (sameT S1 hS)) ?_ ?_⟩
      · intro i x H2 hx hI
        obtain ⟨M, hD2, hM, eM, s2⟩ := hI
        obtain ⟨p, hp, hpL, rfl⟩ := refs_get hx
        have hil : i < L.length := (List.getElem?_eq_some_iff.mp hp).1
        have hlM : M.length = i := by
          rw [← rws_len M, eM, List.length_take, rws_len]
          omega
        have e1 : (rws L).take (i + 1) = (rws L).take i ++ [p.2] := by rw [List.take_add_one, rws_get hp]; rfl
        have nDp : ∀ q ∈ M, q.1 ≠ D := fun q hq => ne_of (hM q hq) hD2 (by intro z; cases z)
        refine ⟨rfl, yesT ?_⟩
        refine ⟨_, rfl, p.1, [.int p.2.1, .int p.2.2], rfl, ?_⟩
        rcases hP p hpL with e | e
        · have e3 := s2 _ _ (S1 _ _ e)
          refine .inr ⟨.inl (.inl e3), refs M, hD2, small1000 (by rw [refs_len, hlM]; omega), M ++ [p], ?_, ?_, ?_, same_upd s2 hD⟩
          · rw [upd_same, refs_snoc]
          · intro q hq
            rcases List.mem_append.mp hq with k | k
            · rw [upd_ne (nDp q k)]; exact hM q k
            · rw [List.mem_singleton.mp k, upd_ne (ne_of e3 hD2 (by intro z; cases z))]; exact e3
          · rw [rws_snoc, eM, e1]
        · have e3 := s2 _ _ (S1 _ _ e)
          refine .inl ⟨.inl (.inl e3), fun l hl => ?_⟩
          have nDl : D ≠ l := ne_of_none hD2 hl
          have s3 := same_lay (o := .tup [.int p.2.1, .int p.2.2]) hl
          refine ⟨refs M, s3 _ _ hD2, small1000 (by rw [refs_len, hlM]; omega), M ++ [(l, p.2)], ?_, ?_, ?_, same_upd (s2.trans s3) hD⟩
          · rw [upd_same, refs_snoc]
          · intro q hq
            rcases List.mem_append.mp hq with k | k
            · rw [upd_ne (nDp q k)]; exact s3 _ _ (hM q k)
            · rw [List.mem_singleton.mp k, upd_ne nDl.symm, upd_same]
          · rw [rws_snoc, eM, e1]
      · intro H2 hI
        obtain ⟨M, hD2, hM, eM, s2⟩ := hI
        rw [refs_len, List.take_of_length_le (by rw [rws_len]; exact Nat.le_refl _)] at eM
        have no2 : H2 o = some (.lst []) := s2 _ _ upd_same
        have lM : M.length = L.length := by rw [← rws_len M, eM, rws_len]
        -- sorted
        refine ⟨D, refs M, kOf H2, rfl, .inl (.inl hD2), fun y hy => ?_, fun ys p hs hb np => ?_⟩
        · unfold refs at hy
          obtain ⟨z, hz, rfl⟩ := List.mem_map.mp hy
          exact ⟨z.1, rfl, by rw [kOf_at (hM z hz)]; exact hM z hz⟩
        obtain ⟨S, rfl, hSA, hSm, hSl, hSk⟩ := refs_perm hM hb.perm
        have hso : (rws S).Pairwise fun r s => r.1 ≤ s.1 := by
          rw [hSk]
          refine List.pairwise_map.mpr (hs.imp fun {x y} hxy => ?_)
          have := SrtO.lexB_no.mp hxy
          omega
        have hSok : ∀ r ∈ rws S, r.1 ≤ r.2 := fun r hr => hok r (by rw [← eM]; exact (hSm r).mp hr)
        obtain ⟨hnf, hme⟩ := jfold_ok hSok hso
        have s3 := same_lay (o := .lst (refs S)) np
        have nop : o ≠ p := ne_of_none no2 np
        refine ⟨p, rfl, ⟨_, .inl (.inl upd_same)⟩, for_list (K := K) (a := p) (xs := refs S) (fun i σ H' => ∃ f l, ∃ A : List ARow, σ = [some (.ref a), some (.ref o), f, l, none] ∧ H' o = some (.lst (refs A)) ∧ AtR H' A ∧ rws A = (((rws S).take i).foldl jstep []).reverse ∧ Fre o (upd H2 p (.lst (refs S))) H' ∧ A.length ≤ i)
          ⟨none, none, [], rfl, by rw [upd_ne nop]; exact no2, (fun _ z => nomatch z), rfl, Fre.refl _ _, Nat.le_refl _⟩ (fun i σ H' _ ⟨_, _, _, _, _, _, _, fr, _⟩ => .inl (.inl (fr _ _ upd_same nop.symm))) ?_ ?_⟩
        · rintro i y σ H' hy ⟨f, l, A, rfl, hoA, hA, eA, fr, hAl⟩
          obtain ⟨z, hz, hzS, rfl⟩ := refs_get hy
          have hil : i < S.length := (List.getElem?_eq_some_iff.mp hz).1
          have ez : H' z.1 = some (.tup [.int z.2.1, .int z.2.2]) := fr _ _ (s3 _ _ (hSA z hzS)) (ne_of (hSA z hzS) no2 (by intro q; cases q))
          have e1 : ((rws S).take (i + 1)).foldl jstep [] = jstep (((rws S).take i).foldl jstep []) z.2 := by
            rw [List.take_add_one, rws_get hz, List.foldl_append]
            rfl
          have nAo : ∀ q ∈ A, q.1 ≠ o := fun q hq => ne_of (hA q hq) hoA (by intro w; cases w)
          refine ⟨z.1, _, rfl, .inl (.inl ez), rfl, _, _, rfl, _, _, rfl, rfl, ?_⟩
          refine ⟨_, rfl, !(refs A).isEmpty, .inl ⟨refs A, .inl (.inl hoA), rfl⟩, ?_⟩
          -- the row goes to the end
          have app : ∀ (hj : jstep (((rws S).take i).foldl jstep []) z.2 = z.2 :: ((rws S).take i).foldl jstep []) (T : Addr), H' T = none →
              ∃ f' l', ∃ A' : List ARow, [some (V.ref a), some (.ref o), some (.int z.2.1), some (.int z.2.2), none] = [some (.ref a), some (.ref o), f', l', none] ∧ (upd (upd H' T (.tup [.int z.2.1, .int z.2.2])) o (.lst (refs A ++ [.ref T]))) o = some (.lst (refs A')) ∧ AtR (upd (upd H' T (.tup [.int z.2.1, .int z.2.2])) o (.lst (refs A ++ [.ref T]))) A' ∧
                rws A' = (((rws S).take (i + 1)).foldl jstep []).reverse ∧ Fre o (upd H2 p (.lst (refs S))) (upd (upd H' T (.tup [.int z.2.1, .int z.2.2])) o (.lst (refs A ++ [.ref T]))) ∧ A'.length ≤ i + 1 := by
            intro hj Tn hT
            have s4 := same_lay (o := .tup [.int z.2.1, .int z.2.2]) hT
            have noT : Tn ≠ o := by
              intro e
              rw [e] at hT
              rw [hT] at hoA
              cases hoA
            refine ⟨_, _, A ++ [(Tn, z.2)], rfl, by rw [upd_same, refs_snoc], ?_, ?_, (fr.trans (fun b u e _ => s4 b u e)).trans Fre.put, by rw [List.length_append]; exact Nat.succ_le_succ hAl⟩
            · intro q hq
              rcases List.mem_append.mp hq with k | k
              · rw [upd_ne (nAo q k)]; exact s4 _ _ (hA q k)
              · rw [List.mem_singleton.mp k, upd_ne noT, upd_same]
            · rw [rws_snoc, eA, e1, hj, List.reverse_cons]
          have alen : (refs A).length < sizeLine := small1000 (by rw [refs_len]; omega)
          have two : 2 ≤ sizeLine := by decide
          cases hacc : ((rws S).take i).foldl jstep [] with
          | nil =>
            have eA0 : A = [] := by
              rw [hacc] at eA
              exact List.map_eq_nil_iff.mp eA
            refine ite2 (fun k => ?_) (fun _ => iteF ?_)
            · rw [eA0] at k
              exact absurd k (by decide)
            · refine ⟨_, rfl, .inl ⟨rfl, _, .inl (.inl hoA)⟩, _, rfl, _, rfl, two, fun Tn hT => ?_⟩
              refine ⟨o, refs A, _, rfl, rfl, same_lay hT _ _ hoA, alen, ?_⟩
              exact app (by rw [hacc]; rfl) Tn hT
          | cons q0 t0 =>
            have eA1 : rws A = t0.reverse ++ [q0] := by rw [eA, hacc, List.reverse_cons]
            obtain ⟨B, A2, rfl, eB, eA2⟩ := List.map_eq_append_iff.mp eA1
            obtain ⟨⟨aq, q1⟩, A3, rfl, eq1, eA3⟩ := List.map_eq_cons_iff.mp eA2
            obtain rfl := List.map_eq_nil_iff.mp eA3
            obtain rfl : q1 = q0 := eq1
            have haq : H' aq = some (.tup [.int q1.1, .int q1.2]) := hA (aq, q1) (List.mem_append_right _ (List.mem_singleton.mpr rfl))
            rw [refs_snoc] at hoA
            have hSo : SqL K H' o (refs B ++ [.ref aq]) := .inl (.inl hoA)
            have hSq : SqT K H' aq [.int q1.1, .int q1.2] := .inl (.inl haq)
            have g0 : atI [V.int q1.1, .int q1.2] 0 = some (.int q1.1) := atI_nat (j := 0) rfl
            have g1 : atI [V.int q1.1, .int q1.2] 1 = some (.int q1.2) := atI_nat (j := 1) rfl
            have gl : atI (refs B ++ [V.ref aq]) (-1) = some (.ref aq) := atI_last _ _
            refine ite2 (fun _ => ?_) (fun k => ?_)
            · refine ⟨_, rfl, _, rfl, 1, rfl, o, _, -1, _, rfl, rfl, hSo, gl, aq, _, 1, _, rfl, rfl, hSq, g1, _, _, rfl, rfl, _, _, rfl, rfl, _, rfl, ite2 (fun c => ?_) (fun c => ?_)⟩
              · have hc : z.2.1 ≤ q1.2 + 1 := of_decide_eq_true c
                refine ⟨_, rfl, 1, rfl, o, _, -1, _, rfl, rfl, hSo, gl, aq, _, 0, _, rfl, rfl, hSq, g0, _, rfl, 1, rfl, o, _, -1, _, rfl, rfl, hSo, gl, aq, _, 1, _, rfl, rfl, hSq, g1, _, rfl, _, _, rfl, two, fun Tn hT => ?_⟩
                have s4 := same_lay (o := .tup [.int q1.1, .int (if z.2.2 > q1.2 then z.2.2 else q1.2)]) hT
                have noT : Tn ≠ o := by
                  intro e
                  rw [e] at hT
                  rw [hT] at hoA
                  cases hoA
                have ixe : ixN (refs B ++ [V.ref aq]).length (-1) = some (refs B).length := by
                  rw [List.length_append]
                  exact ixN_last _
                refine ⟨_, rfl, 1, rfl, o, _, -1, _, rfl, rfl, s4 _ _ hoA, ixe, ?_⟩
                refine ⟨_, _, B ++ [(Tn, (q1.1, if z.2.2 > q1.2 then z.2.2 else q1.2))], rfl, by rw [upd_same, set_last, refs_snoc], ?_, ?_, (fr.trans (fun b u e _ => s4 b u e)).trans Fre.put, ?_⟩
                · intro q hq
                  rcases List.mem_append.mp hq with k | k
                  · rw [upd_ne (nAo q (List.mem_append_left _ k))]; exact s4 _ _ (hA q (List.mem_append_left _ k))
                  · rw [List.mem_singleton.mp k, upd_ne noT, upd_same]
                · rw [rws_snoc, e1, hacc]
                  show rws B ++ [(q1.1, if z.2.2 > q1.2 then z.2.2 else q1.2)] = (if z.2.1 ≤ q1.2 + 1 then (q1.1, if z.2.2 > q1.2 then z.2.2 else q1.2) :: t0 else z.2 :: q1 :: t0).reverse
                  rw [if_pos hc, List.reverse_cons]
                  exact congrArg (· ++ [(q1.1, if z.2.2 > q1.2 then z.2.2 else q1.2)]) eB
                · rw [List.length_append] at hAl ⊢
                  exact Nat.le_succ_of_le hAl
              · have hc : ¬ z.2.1 ≤ q1.2 + 1 := fun w => c (decide_eq_true w)
                refine ⟨_, rfl, .inl ⟨rfl, _, .inl (.inl hoA)⟩, _, rfl, _, rfl, two, fun Tn hT => ?_⟩
                refine ⟨o, _, _, rfl, rfl, same_lay hT _ _ hoA, by rw [← refs_snoc]; exact alen, ?_⟩
                rw [← refs_snoc]
                refine app ?_ Tn hT
                rw [hacc]
                show (if z.2.1 ≤ q1.2 + 1 then (q1.1, if z.2.2 > q1.2 then z.2.2 else q1.2) :: t0 else z.2 :: q1 :: t0) = z.2 :: q1 :: t0
                rw [if_neg hc]
            · exfalso
              apply k
              rw [refs_snoc]
              simp
        · rintro σ H' ⟨f, l, A, rfl, hoA, hA, eA, fr, hAl⟩
          rw [refs_len, List.take_of_length_le (by rw [rws_len]; exact Nat.le_refl _)] at eA
          have eN : rws A = (jfold (rws S)).reverse := eA
          refine ⟨_, rfl, o, refs A, rfl, .inl ⟨.inl (.inl hoA), fun t ht => ?_⟩⟩
          have s5 := same_lay (o := .tup (refs A)) ht
          have s6 : Same H H' := fun b u e => fr b u (s3 b u (s2 b u (S1 b u e))) (ne_of_none e no)
          refine q t A _ (s6.trans s5) (s6.free ht) upd_same (hA.same s5) (by rw [eN]; exact hnf) (fun x => ?_) ?_
          · rw [eN, hme x, ← eM]
            exact mem_same hSm x
          · rw [refs_len] at hAl
            omega
end
end OR

namespace OR
open PySem PySem.Spec PyProof.Rows L2
/-! ### counts before, and __init__ -/
def tot (l : List Row) : Int := l.foldl (fun t r => t + r.2 - r.1 + 1) 0
def befs (l : List Row) : List Int := (List.range l.length).map fun j => tot (l.take j)
theorem tot_snoc (l : List Row) (r : Row) : tot (l ++ [r]) = tot l + r.2 - r.1 + 1 := by
  unfold tot
  rw [List.foldl_append]
  rfl
def spCounts (K : PySem.W.Frag) : Sp := fun vs H Q _ => ∃ (t : Addr) (M : List ARow), vs = [.ref t] ∧ H t = some (.tup (refs M)) ∧ AtR H M ∧ M.length ≤ 1000 ∧
  ∀ (b : Addr) (H' : Hp), Same H H' → H b = none → H' b = some (.tup ((befs (rws M)).map V.int)) → Q (.ref b) H'
/-- an instance of Places with these rows -/
theorem kFS : ¬ (("_firsts" : Str) = "stretches") := by decide +kernel
theorem kBS : ¬ (("_before" : Str) = "stretches") := by decide +kernel
theorem kBF : ¬ (("_before" : Str) = "_firsts") := by decide +kernel
def pFl (t f b : Addr) : List (Str × V) := putF "_before" (.ref b) (putF "_firsts" (.ref f) (putF "stretches" (.ref t) []))
theorem pFl_s (t f b : Addr) : (pFl t f b).lookup ("stretches" : Str) = some (.ref t) := by
  unfold pFl
  rw [lookup_putF, if_neg (fun e => kBS e.symm), lookup_putF, if_neg (fun e => kFS e.symm), lookup_putF, if_pos rfl]
theorem pFl_f (t f b : Addr) : (pFl t f b).lookup ("_firsts" : Str) = some (.ref f) := by
  unfold pFl
  rw [lookup_putF, if_neg (fun e => kBF e.symm), lookup_putF, if_pos rfl]
theorem pFl_b (t f b : Addr) : (pFl t f b).lookup ("_before" : Str) = some (.ref b) := by
  unfold pFl
  rw [lookup_putF, if_pos rfl]
theorem pFl_no (t f b : Addr) {m : Str} (h1 : ¬ m = "_before") (h2 : ¬ m = "_firsts") (h3 : ¬ m = "stretches") : (pFl t f b).lookup m = none := by
  unfold pFl
  rw [lookup_putF, if_neg h1, lookup_putF, if_neg h2, lookup_putF, if_neg h3]
  rfl
structure IsP (C : Addr) (H : Hp) (x : Addr) (l : List Row) : Prop where
  nf : Nf l
  ex : ∃ (dx t f b : Addr) (M : List ARow), H x = some (.ins C dx (pFl t f b)) ∧ H t = some (.tup (refs M)) ∧ AtR H M ∧ rws M = l ∧ H f = some (.tup (l.map fun r => V.int r.1)) ∧ H b = some (.tup ((befs l).map V.int)) ∧ M.length ≤ 1000
theorem IsP.same {C : Addr} {H H' : Hp} {x : Addr} {l : List Row} (h : IsP C H x l) (s : Same H H') : IsP C H' x l := by
  obtain ⟨nf, dx, t, f, b, M, h1, h2, h3, h4, h5, h6, h7⟩ := h
  exact ⟨nf, dx, t, f, b, M, s _ _ h1, s _ _ h2, h3.same s, h4, s _ _ h5, s _ _ h6, h7⟩
/-- enumerate, turn by turn -/
theorem for_enum {K : PySem.W.Frag} {a : Addr} {xs : List V} {g : TG} {tb : TS} {D : Ends} {σ : L2.St} {H : Hp} (Pv : Nat → L2.St → Hp → Prop) (h0 : Pv 0 σ H) (hl : ∀ i σ H, i ≤ xs.length → Pv i σ H → SqL K H a xs)
    (hs : ∀ i x σ H T, xs[i]? = some x → Pv i σ H → H T = none → g (.ref T) σ (upd H T (.tup [.int (i : Nat), x])) fun σ2 H2 => tb { D with nx := Pv (i + 1), ct := Pv (i + 1), bk := D.nx } σ2 H2) (hd : ∀ σ H, Pv xs.length σ H → D.nx σ H) :
    ∃ W : Nat → Nat → L2.St → Hp → Prop, (∃ m, W 0 m σ H) ∧ ∀ i m σ H, W i m σ H →
      ((Ite K a).stop i H ∧ D.nx σ H) ∨ ((Ite K a).go i H ∧ ∃ N : L2.St → Hp → Prop, (∀ σ' H', N σ' H' → ∃ m', m' < m ∧ W (i + 1) m' σ' H') ∧ ∀ x H', (Ite K a).yld i H x H' → g x σ H' fun σ2 H2 => tb { D with nx := N, ct := N, bk := D.nx } σ2 H2) := by
  refine ⟨fun i m σ H => m = xs.length - i ∧ i ≤ xs.length ∧ Pv i σ H, ⟨xs.length, by simp, Nat.zero_le _, h0⟩, ?_⟩
  rintro i m σ H ⟨rfl, hi, p⟩
  have q := hl i σ H hi p
  by_cases hlt : i < xs.length
  · refine .inr ⟨⟨xs, xs[i], q, by simp [hlt]⟩, Pv (i + 1), fun σ' H' p' => ⟨xs.length - (i + 1), by omega, rfl, hlt, p'⟩, fun v H' y => ?_⟩
    obtain ⟨T, x, rfl, hT, rfl, hx⟩ := y
    exact hs i x σ H T (hx xs q) p hT
  · obtain rfl : i = xs.length := by omega
    exact .inl ⟨⟨xs, q, Nat.le_refl _⟩, hd σ H p⟩
theorem for_enumT {K : PySem.W.Frag} {a : Addr} {xs : List V} {g : TG} {tb : TS} {D : Ends} {σ : L2.St} {H : Hp} (Pv : Nat → L2.St → Hp → Prop) (h0 : Pv 0 σ H) (hl : ∀ i σ H, i ≤ xs.length → Pv i σ H → SqT K H a xs)
    (hs : ∀ i x σ H T, xs[i]? = some x → Pv i σ H → H T = none → g (.ref T) σ (upd H T (.tup [.int (i : Nat), x])) fun σ2 H2 => tb { D with nx := Pv (i + 1), ct := Pv (i + 1), bk := D.nx } σ2 H2) (hd : ∀ σ H, Pv xs.length σ H → D.nx σ H) :
    ∃ W : Nat → Nat → L2.St → Hp → Prop, (∃ m, W 0 m σ H) ∧ ∀ i m σ H, W i m σ H →
      ((IteT K a).stop i H ∧ D.nx σ H) ∨ ((IteT K a).go i H ∧ ∃ N : L2.St → Hp → Prop, (∀ σ' H', N σ' H' → ∃ m', m' < m ∧ W (i + 1) m' σ' H') ∧ ∀ x H', (IteT K a).yld i H x H' → g x σ H' fun σ2 H2 => tb { D with nx := N, ct := N, bk := D.nx } σ2 H2) := by
  refine ⟨fun i m σ H => m = xs.length - i ∧ i ≤ xs.length ∧ Pv i σ H, ⟨xs.length, by simp, Nat.zero_le _, h0⟩, ?_⟩
  rintro i m σ H ⟨rfl, hi, p⟩
  have q := hl i σ H hi p
  by_cases hlt : i < xs.length
  · refine .inr ⟨⟨xs, xs[i], q, by simp [hlt]⟩, Pv (i + 1), fun σ' H' p' => ⟨xs.length - (i + 1), by omega, rfl, hlt, p'⟩, fun v H' y => ?_⟩
    obtain ⟨T, x, rfl, hT, rfl, hx⟩ := y
    exact hs i x σ H T (hx xs q) p hT
  · obtain rfl : i = xs.length := by omega
    exact .inl ⟨⟨xs, q, Nat.le_refl _⟩, hd σ H p⟩
def spPlInit (K : PySem.W.Frag) (C : Addr) : Sp := fun vs H Q _ => ∃ (x dx a : Addr) (L : List ARow), vs = [.ref x, .ref a] ∧ H x = some (.ins C dx []) ∧ (SqL K H a (refs L) ∨ SqT K H a (refs L)) ∧ L.length ≤ 1000 ∧ PairsAt H L ∧ (∀ r ∈ rws L, okRow r = true) ∧
  ∀ (l : List Row) (H' : Hp), (∀ c o, H c = some o → c ≠ x → H' c = some o) → IsP C H' x l → (∀ z, mem l z ↔ mem (rws L) z) → l.length ≤ L.length → Q .non H'
theorem okRow_le {r : Row} (h : okRow r = true) : r.1 ≤ r.2 := by
  unfold okRow at h
  simp only [Bool.and_eq_true, decide_eq_true_eq] at h
  exact h.2.2
section
variable {P : Program} {w : World} {K : PySem.W.Frag} {mg : Str → Option Value} {base : Heap}
theorem scC : FnScope ["stretches", "counts", "total", "first", "last"] ["stretches"] (defScope sCounts) := ⟨rfl, rfl, rfl, by decide +kernel, rfl, by decide +kernel, by decide +kernel⟩
theorem ok_counts {f C : Addr} {fd : FuncData} (F : Fun K "_counts_before" "_counts_before" sCounts f fd) (T : PTxt K mg C) : FnOk P w K mg base CX0 1 f fd ["stretches"] (spCounts K) := by
  refine F.ok scC (fun vs H Q E h => ?_) (fun cdv A outer s H vs Q E hr h => ?_)
  · obtain ⟨t, M, rfl, _⟩ := h
    rfl
  · obtain ⟨t, M, rfl, ht, hM, hlen, q⟩ := h
    have nd := scC.nd
    refine ⟨_, pss_cons (ps_set (i := 1) nd rfl (.inl rfl) (pe_lst pa_nil))
      (pss_cons (ps_set (i := 2) nd rfl (.inl rfl) pe_int)
      (pss_cons (ps_for PassesOwn.never rfl (pi_tup (pv 0)) (pg_tup rfl (pgs_cons (pg_name (i := 3) nd rfl (.inl rfl)) (pgs_cons (pg_name (i := 4) nd rfl (.inl rfl)) pgs_nil)))
        (pss_cons (ps_expr (pe_bm PySem.F.plainAttrs_list PySem.F.slot_list_append PySem.F.type_list_append mt_append (pv 1) (pa_cons (pv 2) pa_nil)))
        (pss_one (ps_set (i := 2) nd rfl (.inl rfl) (pe_op op_add (pe_op op_sub (pe_op op_add (pv 2) (pv 4)) (pv 3)) pe_int)))))
      (pss_one (ps_ret (pe_callTy call_tuple_of (by rfl) T.zTup bt_tup (pa_cons (pv 1) pa_nil)))))), ?_⟩
    refine ⟨Nat.zero_le _, fun o no => ?_⟩
    have s1 := same_lay (o := .lst []) no
    refine ⟨_, rfl, t, rfl, ⟨_, .inl (.inl (s1 _ _ ht))⟩, for_tup (K := K) (a := t) (xs := refs M) (fun i σ H' => ∃ f l, σ = [some (.ref t), some (.ref o), some (.int (tot ((rws M).take i))), f, l] ∧ H' o = some (.lst (((List.range i).map fun j => tot ((rws M).take j)).map V.int)) ∧ Fre o (upd H o (.lst [])) H')
      ⟨none, none, rfl, upd_same, Fre.refl _ _⟩ (fun i σ H' _ ⟨_, _, _, _, fr⟩ => .inl (.inl (fr _ _ (s1 _ _ ht) (ne_of_none ht no)))) ?_ ?_⟩
    · rintro i y σ H' hy ⟨f, l, rfl, ho, fr⟩
      obtain ⟨z, hz, hzM, rfl⟩ := refs_get hy
      have hil : i < M.length := (List.getElem?_eq_some_iff.mp hz).1
      have ez : H' z.1 = some (.tup [.int z.2.1, .int z.2.2]) := fr _ _ (s1 _ _ (hM z hzM)) (ne_of_none (hM z hzM) no)
      refine ⟨z.1, _, rfl, .inl (.inl ez), rfl, _, _, rfl, _, _, rfl, rfl, ?_⟩
      refine ⟨_, rfl, .inl ⟨rfl, _, .inl (.inl ho)⟩, _, rfl, o, _, _, rfl, rfl, ho, small1000 (by rw [List.length_map, List.length_map, List.length_range]; omega), ?_⟩
      refine ⟨_, rfl, _, rfl, _, _, rfl, rfl, _, rfl, _, _, rfl, rfl, _, _, rfl, rfl, ?_⟩
      have e1 : (rws M).take (i + 1) = (rws M).take i ++ [z.2] := by rw [List.take_add_one, rws_get hz]; rfl
      refine ⟨some (.int z.2.1), some (.int z.2.2), ?_, ?_, fr.trans Fre.put⟩
      · rw [e1, tot_snoc]
        rfl
      · rw [upd_same, List.range_succ, List.map_append, List.map_append]
        rfl
    · rintro σ H' ⟨f, l, rfl, ho, fr⟩
      refine ⟨_, rfl, o, _, rfl, .inl ⟨.inl (.inl ho), fun b hb => ?_⟩⟩
      have s2 := same_lay (o := .tup (((List.range (refs M).length).map fun j => tot ((rws M).take j)).map V.int)) hb
      have s3 : Same H H' := fun c u e => fr c u (s1 c u e) (ne_of_none e no)
      refine q b _ (s3.trans s2) (s3.free hb) ?_
      rw [upd_same]
      unfold befs
      rw [rws_len, refs_len]
theorem scPI : FnScope ["self", "stretches", "index", "stretch", "first", "_"] ["self", "stretches"] (defScope sPlInit) := ⟨rfl, rfl, rfl, by decide +kernel, rfl, by decide +kernel, by decide +kernel⟩
theorem ok_plinit {f C : Addr} {fd : FuncData} {dvs : List V} (F : FunD K "__init__" "Places.__init__" (defArgs sPlInit) (defBody sPlInit) (defScope sPlInit) dvs [] f fd) (T : PTxt K mg C) (S : Cl P w K mg base 3 "_is_stretch" ["value"] spIsStretchP)
    (J : Cl P w K mg base 1 "_joined" ["stretches"] (spJoined K)) (B : Cl P w K mg base 1 "_counts_before" ["stretches"] (spCounts K)) : FnOk P w K mg base CX0 4 f fd ["self", "stretches"] (spPlInit K C) := by
  refine F.ok scPI (fun vs H Q E h => ?_) (fun cdv A outer s H vs Q E hr h => ?_)
  · obtain ⟨x, dx, a, L, rfl, _⟩ := h
    rfl
  · obtain ⟨x, dx, a, L, rfl, hx, hS, hlen, hP, hok, q⟩ := h
    have nd := scPI.nd
    have hb := PSs.nox (X := cxOf CX0 P w K mg base ["self", "stretches", "index", "stretch", "first", "_"] "Places.__init__" (defScope sPlInit) f cdv A outer s H E) (st := defBody sPlInit) (pss_cons (ps_for PassesOwn.never rfl (pi_or (pi_enum (by rfl) T.zEnum (pa_cons (pv 1) pa_nil)) (pi_enumT (by rfl) T.zEnum (pa_cons (pv 1) pa_nil)))
          (pg_tup rfl (pgs_cons (pg_name (i := 2) nd rfl (.inl rfl)) (pgs_cons (pg_name (i := 3) nd rfl (.inl rfl)) pgs_nil)))
        (pss_one (ps_if (pt_not (pt_val (pe_cl S hr (by decide) (by rfl) (pa_cons (pv 3) pa_nil)))) (pss_one ps_never) pss_nil)))
      (pss_cons (ps_fld (pv 0) (pe_cl J hr (by decide) (by rfl) (pa_cons (pv 1) pa_nil)) rfl)
      (pss_cons (ps_fld (pv 0) (pe_callTy call_tuple_of (by rfl) T.zTup bt_tup (pa_cons
          (pe_lc (own := [("first", 4), ("_", 5)]) (g := gTup K 2 (gCons (gName 4) (gCons (gName 5) gNil))) (tt := tYes) rfl nd (pi_tup (pe_fld (pv 0) rfl)) (blkOk_by (N := ["self", "stretches", "index", "stretch", "first", "_"]) (sc := defScope sPlInit) (by decide +kernel))
            (fun _ _ _ _ _ => pg_tup rfl (pgs_cons (pg_name (i := 4) nd rfl (.inl rfl)) (pgs_cons (pg_name (i := 5) nd rfl (.inl rfl)) pgs_nil))) (fun _ _ _ _ _ => pts_nil) (fun _ _ _ _ _ => pv 4)) pa_nil)) rfl)
      (pss_one (ps_fld (pv 0) (pe_cl B hr (by decide) (by rfl) (pa_cons (pe_fld (pv 0) rfl) pa_nil)) rfl)))))
    refine ⟨_, hb, ?_⟩
    clear hb
    -- what follows the loop
    have after : ∀ (σ : L2.St) (H1 : Hp) (i1 s1 : Option V), σ = [some (.ref x), some (.ref a), i1, s1, none, none] → Same H H1 → (tSeq (sFld K (tVar 0) (tCall (spJoined K) [] E0 (tCons (tVar 1) tNil)) "stretches")
        (tSeq (sFld K (tVar 0) (tCB (fun xs H Q => ∃ p ys, xs = [V.ref p] ∧ ((SqL K H p ys ∧ ∀ l, H l = none → Q (.ref l) (upd H l (.tup ys))) ∨ (SqT K H p ys ∧ Q (.ref p) H))) (tCons (tLc (iTup K (tFld K (tVar 0) "stretches")) (gTup K 2 (gCons (gName 4) (gCons (gName 5) gNil))) tYes (tVar 4) [4, 5]) tNil)) "_firsts")
        (sFld K (tVar 0) (tCall (spCounts K) [] E0 (tCons (tFld K (tVar 0) "stretches") tNil)) "_before"))) { nx := fun _ H' => Q .non H', rt := Q } σ H1 := by
      rintro σ H1 i1 s1 rfl S1
      have hS1 : SqL K H1 a (refs L) ∨ SqT K H1 a (refs L) := hS.elim (fun e => .inl (S1.seq e)) fun e => .inr (sameT S1 e)
      refine ⟨_, rfl, a, L, rfl, hS1, hlen, hP.same S1, fun r hr => okRow_le (hok r hr), fun t M H2 S2 nt ht hM hnf hme hlM => ?_⟩
      have hx2 := S2 _ _ (S1 _ _ hx)
      refine ⟨_, rfl, x, C, dx, [], rfl, hx2, T.cl, T.nS, (by show 0 < 1000; decide), ?_⟩
      have ntx : t ≠ x := ne_of ht hx2 (by intro z; cases z)
      have nMx : ∀ p ∈ M, p.1 ≠ x := fun p hp => ne_of (hM p hp) hx2 (by intro z; cases z)
      -- firsts
      generalize hH3 : upd H2 x (.ins C dx (putF "stretches" (.ref t) [])) = H3
      have hx3 : H3 x = some (.ins C dx (putF "stretches" (.ref t) [])) := by rw [← hH3, upd_same]
      have ht3 : H3 t = some (.tup (refs M)) := by rw [← hH3, upd_ne ntx]; exact ht
      have hM3 : AtR H3 M := fun p hp => by rw [← hH3, upd_ne (nMx p hp)]; exact hM p hp
      have f3 : ∀ c o, H c = some o → c ≠ x → H3 c = some o := fun c o e n => by rw [← hH3, upd_ne n]; exact S2 _ _ (S1 _ _ e)
      have lk : (putF "stretches" (V.ref t) []).lookup ("stretches" : Str) = some (V.ref t) := by rw [lookup_putF, if_pos rfl]
      refine ⟨_, rfl, x, C, dx, _, _, rfl, hx3, T.cl, T.nS, lk, t, rfl, ⟨_, .inl (.inl ht3)⟩, fun D hD => lc_tup (K := K) (a := t) (xs := refs M) (fun i H4 => H4 D = some (.lst ((rws M).take i |>.map fun r => V.int r.1)) ∧ Same H3 H4)
        ⟨upd_same, same_lay hD⟩ (fun i H4 _ ⟨_, s⟩ => .inl (.inl (s _ _ ht3))) ?_ ?_⟩
      · rintro i y H4 hy ⟨hD4, s4⟩
        obtain ⟨z, hz, hzM, rfl⟩ := refs_get hy
        have hil : i < M.length := (List.getElem?_eq_some_iff.mp hz).1
        have ez := s4 _ _ (hM3 z hzM)
        refine ⟨z.1, _, rfl, .inl (.inl ez), rfl, _, _, rfl, _, _, rfl, rfl, rfl, yesT ?_⟩
        refine ⟨_, rfl, _, hD4, small1000 (by rw [List.length_map, List.length_take]; omega), ?_, same_upd s4 hD⟩
        have e1 : (rws M).take (i + 1) = (rws M).take i ++ [z.2] := by rw [List.take_add_one, rws_get hz]; rfl
        rw [upd_same, e1, List.map_append]
        rfl
      · rintro H4 ⟨hD4, s4⟩
        rw [refs_len, List.take_of_length_le (by rw [rws_len]; exact Nat.le_refl _)] at hD4
        refine ⟨D, _, rfl, .inl ⟨.inl (.inl hD4), fun f nf => ?_⟩⟩
        have s5 := same_lay (o := .tup ((rws M).map fun r => V.int r.1)) nf
        have s35 := s4.trans s5
        have hx5 := s35 _ _ hx3
        refine ⟨_, rfl, x, C, dx, _, rfl, hx5, T.cl, T.nF, (by show 1 < 1000; decide), ?_⟩
        have nfx : f ≠ x := by
          intro e
          rw [e] at nf
          rw [s4 _ _ hx3] at nf
          cases nf
        generalize hH6 : upd (upd H4 f (.tup ((rws M).map fun r => V.int r.1))) x (.ins C dx (putF "_firsts" (.ref f) (putF "stretches" (.ref t) []))) = H6
        have hx6 : H6 x = some (.ins C dx (putF "_firsts" (.ref f) (putF "stretches" (.ref t) []))) := by rw [← hH6, upd_same]
        have ht6 : H6 t = some (.tup (refs M)) := by rw [← hH6, upd_ne ntx]; exact s35 _ _ ht3
        have hM6 : AtR H6 M := fun p hp => by rw [← hH6, upd_ne (nMx p hp)]; exact s35 _ _ (hM3 p hp)
        have hf6 : H6 f = some (.tup ((rws M).map fun r => V.int r.1)) := by rw [← hH6, upd_ne nfx, upd_same]
        have f6 : ∀ c o, H c = some o → c ≠ x → H6 c = some o := fun c o e n => by rw [← hH6, upd_ne n]; exact s35 _ _ (f3 c o e n)
        have lk6 : (putF "_firsts" (V.ref f) (putF "stretches" (V.ref t) [])).lookup ("stretches" : Str) = some (V.ref t) := by
          rw [lookup_putF, if_neg (fun e => kFS e.symm), lookup_putF, if_pos rfl]
        refine ⟨_, rfl, x, C, dx, _, _, rfl, hx6, T.cl, T.nS, lk6, t, M, rfl, ht6, hM6, Nat.le_trans hlM hlen, fun b H7 s7 nb hb => ?_⟩
        have hx7 := s7 _ _ hx6
        refine ⟨_, rfl, x, C, dx, _, rfl, hx7, T.cl, T.nB, (by show 2 < 1000; decide), ?_⟩
        have nbx : b ≠ x := ne_of hb hx7 (by intro z; cases z)
        refine q (rws M) _ (fun c o e n => by rw [upd_ne n]; exact s7 _ _ (f6 c o e n)) ⟨hnf, dx, t, f, b, M, upd_same, ?_, fun p hp => ?_, rfl, ?_, ?_, Nat.le_trans hlM hlen⟩ hme (by rw [rws_len]; exact hlM)
        · rw [upd_ne ntx]; exact s7 _ _ ht6
        · rw [upd_ne (nMx p hp)]; exact s7 _ _ (hM6 p hp)
        · rw [upd_ne nfx]; exact s7 _ _ hf6
        · rw [upd_ne nbx]; exact hb
    rcases hS with hS' | hS'
    · refine .inl ⟨_, rfl, a, refs L, rfl, hS', for_enum (K := K) (a := a) (xs := refs L) (fun i σ H' => ∃ i1 s1, σ = [some (.ref x), some (.ref a), i1, s1, none, none] ∧ Same H H')
        ⟨none, none, rfl, Same.refl _⟩ (fun i σ H' _ ⟨_, _, _, s⟩ => s.seq hS') ?_ ?_⟩
      · rintro i y σ H' Tn hy ⟨i1, s1, rfl, S1⟩ hT
        obtain ⟨z, hz, hzL, rfl⟩ := refs_get hy
        have s2 := same_lay (o := .tup [.int (i : Nat), .ref z.1]) hT
        have pz := (hP.same (S1.trans s2)) z hzL
        have okz : okRow z.2 = true := hok z.2 (mem_rws.mpr ⟨z.1, hzL⟩)
        refine ⟨Tn, _, rfl, .inl (.inl upd_same), rfl, _, _, rfl, _, _, rfl, rfl, ?_⟩
        refine ⟨_, rfl, z.1, z.2, rfl, pz, fun H'' S3 => ⟨_, rfl, ?_⟩⟩
        rw [okz]
        exact iteF ⟨_, _, rfl, (S1.trans s2).trans S3⟩
      · rintro σ H' ⟨i1, s1, rfl, S1⟩
        exact after _ _ i1 s1 rfl S1
    · refine .inr ⟨_, rfl, a, refs L, rfl, hS', for_enumT (K := K) (a := a) (xs := refs L) (fun i σ H' => ∃ i1 s1, σ = [some (.ref x), some (.ref a), i1, s1, none, none] ∧ Same H H')
        ⟨none, none, rfl, Same.refl _⟩ (fun i σ H' _ ⟨_, _, _, s⟩ => sameT s hS') ?_ ?_⟩
      · rintro i y σ H' Tn hy ⟨i1, s1, rfl, S1⟩ hT
        obtain ⟨z, hz, hzL, rfl⟩ := refs_get hy
        have s2 := same_lay (o := .tup [.int (i : Nat), .ref z.1]) hT
        have pz := (hP.same (S1.trans s2)) z hzL
        have okz : okRow z.2 = true := hok z.2 (mem_rws.mpr ⟨z.1, hzL⟩)
        refine ⟨Tn, _, rfl, .inl (.inl upd_same), rfl, _, _, rfl, _, _, rfl, rfl, ?_⟩
        refine ⟨_, rfl, z.1, z.2, rfl, pz, fun H'' S3 => ⟨_, rfl, ?_⟩⟩
        rw [okz]
        exact iteF ⟨_, _, rfl, (S1.trans s2).trans S3⟩
      · rintro σ H' ⟨i1, s1, rfl, S1⟩
        exact after _ _ i1 s1 rfl S1
end
end OR

namespace OR
open PySem PySem.Spec PyProof.Rows L2
/-! ### deep data made of rows -/
def rowD (r : Row) : PyData := .tuple [.int r.1, .int r.2]
theorem dp_row {K : PySem.W.Frag} {H : Hp} {a : Addr} {r : Row} (h : H a = some (.tup [.int r.1, .int r.2])) : Dp K H (.ref a) (rowD r) := .tup (.inl (.inl h)) (.cons (.int _) (.cons (.int _) .nil))
theorem dp_rows {K : PySem.W.Frag} {H : Hp} : ∀ {L : List ARow}, AtR H L → DpAll K H (refs L) ((rws L).map rowD)
  | [], _ => .nil
  | p :: L, h => .cons (dp_row (h p List.mem_cons_self)) (dp_rows fun q hq => h q (List.mem_cons_of_mem _ hq))
theorem lay_rows : ∀ l : List Row, PyData.canLayAll0 (l.map rowD) = true
  | [] => rfl
  | r :: l => by
    show (PyData.canLay0 (rowD r) && PyData.canLayAll0 (l.map rowD)) = true
    rw [lay_rows l]
    rfl
theorem dep_rows : ∀ l : List Row, PyData.depthAll (l.map rowD) ≤ 1
  | [] => Nat.zero_le _
  | r :: l => by
    show max (PyData.depth (rowD r)) (PyData.depthAll (l.map rowD)) ≤ 1
    have := dep_rows l
    have e : PyData.depth (rowD r) = 1 := rfl
    omega
theorem shp_tup (l : List Row) : SeqAt.shaped (.tuple (l.map rowD)) = true := by
  unfold SeqAt.shaped
  rw [show PyData.canLay0 (.tuple (l.map rowD)) = true from lay_rows l, Bool.true_and]
  refine decide_eq_true ?_
  show PyData.depthAll (l.map rowD) + 1 ≤ 64
  have := dep_rows l
  omega
theorem shp_lst (l : List Row) : SeqAt.shaped (.list (l.map rowD)) = true := by
  unfold SeqAt.shaped
  rw [show PyData.canLay0 (.list (l.map rowD)) = true from lay_rows l, Bool.true_and]
  refine decide_eq_true ?_
  show PyData.depthAll (l.map rowD) + 1 ≤ 64
  have := dep_rows l
  omega
theorem eqv_row (r s : Row) : PyData.eqv (rowD r) (rowD s) = decide (r = s) := by
  show ((r.1 == s.1) && ((r.2 == s.2) && true)) = decide (r = s)
  rw [Bool.and_true]
  by_cases h : r = s
  · subst h
    simp
  · rw [decide_eq_false h]
    by_cases h1 : r.1 = s.1
    · have h2 : r.2 ≠ s.2 := fun e => h (Prod.ext h1 e)
      simp [h2]
    · simp [h1]
theorem eqv_rows : ∀ l m : List Row, PyData.eqvAll (l.map rowD) (m.map rowD) = decide (l = m)
  | [], [] => by simp [PyData.eqvAll]
  | [], _ :: _ => by simp [PyData.eqvAll]
  | _ :: _, [] => by simp [PyData.eqvAll]
  | r :: l, s :: m => by
    show (PyData.eqv (rowD r) (rowD s) && PyData.eqvAll (l.map rowD) (m.map rowD)) = decide (r :: l = s :: m)
    rw [eqv_row, eqv_rows l m]
    by_cases h1 : r = s
    · by_cases h2 : l = m
      · simp [h1, h2]
      · simp [h1, h2]
    · simp [h1]
theorem AtR.frm {H H' : Hp} {L : List ARow} {p : Addr} {n : Nat} (h : AtR H L) (f : Frm p H H') (P : Pen H p n) : AtR H' L := fun q hq => by
  obtain ⟨c, ns, k, l, hp, _⟩ := P
  exact f _ _ (h q hq) (ne_of (h q hq) hp (by intro z; cases z))
theorem Frm.free {p q : Addr} {H H' : Hp} {n : Nat} (f : Frm p H H') (P : Pen H' p n) (h : H' q = none) : H q = none := by
  obtain ⟨c, ns, k, l, hp, _⟩ := P
  cases e : H q with
  | none => rfl
  | some o =>
    by_cases ep : q = p
    · rw [ep, hp] at h
      cases h
    · rw [f q o e ep] at h
      cases h
theorem frmS {p : Addr} {H H' : Hp} (s : Same H H') : Frm p H H' := ⟨fun b o e _ => s b o e, fun c ⟨k, l, e⟩ => ⟨k, l, s _ _ e⟩⟩
theorem Pen.same' {H H' : Hp} {p : Addr} {n : Nat} (P : Pen H p n) (s : Same H H') : Pen H' p n := by
  obtain ⟨c, ns, k, l, h1, h2, h⟩ := P
  exact ⟨c, ns, k, l, s _ _ h1, s _ _ h2, h⟩
/-! ### the law's drawing of rows -/
def spSpot : Sp := fun vs H Q _ => ∃ (p : Addr) (n : Nat), vs = [.ref p] ∧ Pen H p n ∧ n ≤ 900000 ∧ ∀ (r : Int) (H' : Hp), placeB r = true → Pen H' p (n + 2) → Frm p H H' → Q (.int r) H'
def spDrawn : Sp := fun vs H Q _ => ∃ (p : Addr) (m n : Nat), vs = [.ref p, .int m] ∧ m ≤ 20 ∧ Pen H p n ∧ n ≤ 700000 ∧
  ∀ (a : Addr) (L : List ARow) (H' : Hp), H a = none → H' a = some (.lst (refs L)) → AtR H' L → (∀ r ∈ rws L, okRow r = true) → L.length ≤ m → Pen H' p (n + 1000) → Frm p H H' → Q (.ref a) H'
theorem place_of {r : Int} (h0 : 0 ≤ r) (h1 : r ≤ lastP) : placeB r = true := by
  unfold placeB
  rw [decide_eq_true h0, decide_eq_true h1]
  rfl
theorem place_iff {r : Int} (h : placeB r = true) : 0 ≤ r ∧ r ≤ lastP := by
  unfold placeB at h
  simp only [Bool.and_eq_true, decide_eq_true_eq] at h
  exact h
theorem okRow_of {a b : Int} (h0 : 0 ≤ a) (h1 : a ≤ b) (h2 : b ≤ lastP) : okRow (a, b) = true := by
  unfold okRow
  rw [place_of (r := a) h0 (Int.le_trans h1 h2), place_of (r := b) (Int.le_trans h0 h1) h2, Bool.true_and, Bool.true_and]
  exact decide_eq_true h1
theorem okRow_iff {r : Row} (h : okRow r = true) : 0 ≤ r.1 ∧ r.1 ≤ r.2 ∧ r.2 ≤ lastP := by
  unfold okRow at h
  rw [Bool.and_eq_true, Bool.and_eq_true, decide_eq_true_eq] at h
  exact ⟨(place_iff h.1).1, h.2.2, (place_iff h.2.1).2⟩
structure Bd (mg : Str → Option Value) : Prop where
  range : mg "range" = none
  min : mg "min" = none
  max : mg "max" = none
  int : mg "int" = none
  len : mg "len" = none
  list : mg "list" = none
  set : mg "set" = none
  sorted : mg "sorted" = none
section
variable {P : Program} {w : World} {K : PySem.W.Frag} {mg : Str → Option Value} {base : Heap}
theorem scSpot : FnScope ["_law_pen_here", "_law_way"] ["_law_pen_here"] (defScope sSpot) := ⟨rfl, rfl, rfl, by decide +kernel, rfl, by decide +kernel, by decide +kernel⟩
theorem ok_spot {f : Addr} {fd : FuncData} (F : Fun K "_law_spot" "_law_spot" sSpot f fd) (D : Cl P w K mg base 1 "_law_draw" ["_law_pen_here", "_law_many"] spDraw) : FnOk P w K mg base CX0 2 f fd ["_law_pen_here"] spSpot := by
  refine F.ok scSpot (fun vs H Q E h => ?_) (fun cdv A outer s H vs Q E hr h => ?_)
  · obtain ⟨p, n, rfl, _⟩ := h
    rfl
  · obtain ⟨p, n, rfl, hP, hn, q⟩ := h
    have nd := scSpot.nd
    refine ⟨_, pss_cons (ps_set (i := 1) nd rfl (.inl rfl) (pe_cl D hr (by decide) (by rfl) (pa_cons (pv 0) (pa_cons pe_int pa_nil))))
      (pss_cons (ps_if (pt_cmpR op_lt (pv 1) pe_int (nomark _)) (pss_one (ps_ret (pe_cl D hr (by decide) (by rfl) (pa_cons (pv 0) (pa_cons (pe_ix ix_list (pe_lst (pa_cons pe_int (pa_cons pe_int pa_nil))) (pv 1) (fun _ _ => rfl)) pa_nil))))) pss_nil)
      (pss_cons (ps_if (pt_cmpR op_eq (pv 1) pe_int (nomark _)) (pss_one (ps_ret (pe_cl D hr (by decide) (by rfl) (pa_cons (pv 0) (pa_cons (pe_op op_add (pe_op op_pow pe_int pe_int) pe_int) pa_nil))))) pss_nil)
      (pss_one (ps_ret (pe_ifExp (pt_cmpR op_eq (pv 1) pe_int (nomark _)) (pe_op op_sub (pe_op op_pow pe_int pe_int) (pe_cl D hr (by decide) (by rfl) (pa_cons (pv 0) (pa_cons pe_int pa_nil))))
        (pe_op op_add (pe_op op_pow pe_int pe_int) (pe_cl D hr (by decide) (by rfl) (pa_cons (pv 0) (pa_cons pe_int pa_nil))))))))), ?_⟩
    have hpow : CPow 10 30 := ⟨by decide, by decide, by decide⟩
    have hpow15 : CPow 10 15 := ⟨by decide, by decide, by decide⟩
    have eL : lastP = 10 ^ 30 := rfl
    refine ⟨_, rfl, p, 5, n, rfl, by decide, by decide, hP, by omega, fun way H1 w0 w5 P1 F1 => ?_⟩
    refine ⟨_, rfl, _, _, rfl, rfl, _, rfl, ite2 (fun c => ?_) (fun _ => ?_)⟩
    · have hw : way < 2 := of_decide_eq_true c
      refine ⟨_, rfl, by show 2 ≤ sizeLine; decide, fun l hl => ?_⟩
      obtain ⟨m, hm, hm0, hm1⟩ : ∃ m : Int, atI [V.int 9, V.int 60] way = some (.int m) ∧ 0 < m ∧ m ≤ 60 := by
        have : way = 0 ∨ way = 1 := by omega
        rcases this with e | e <;> subst e
        · exact ⟨9, atI_nat (j := 0) rfl, by decide, by decide⟩
        · exact ⟨60, atI_nat (j := 1) rfl, by decide, by decide⟩
      have hmb : m.natAbs < 2 ^ 200 := Nat.lt_of_le_of_lt (show m.natAbs ≤ 60 by omega) (by decide)
      refine ⟨_, rfl, l, _, way, _, rfl, rfl, .inl (.inl upd_same), hm, p, m, n + 1, rfl, hm0, hmb, P1.new hl, by omega, fun r H2 r0 r1 P2 F2 => ?_⟩
      exact q r H2 (place_of r0 (by rw [eL]; omega)) P2 (F1.trans ((Frm.new hl).trans F2))
    refine ⟨_, rfl, rfl, _, rfl, ite2 (fun _ => ?_) (fun _ => ?_)⟩
    · refine ⟨_, rfl, _, _, rfl, rfl, hpow, _, _, rfl, rfl, p, _, n + 1, rfl, by decide, by decide, P1, by omega, fun r H2 r0 r1 P2 F2 => ?_⟩
      have r1' : r < 10 ^ 30 + 1 := r1
      exact q r H2 (place_of r0 (by rw [eL]; omega)) P2 (F1.trans F2)
    refine ⟨_, rfl, rfl, _, rfl, ite2 (fun _ => ?_) (fun _ => ?_)⟩
    · refine ⟨_, _, rfl, rfl, hpow, _, rfl, p, 9, n + 1, rfl, by decide, by decide, P1, by omega, fun r H2 r0 r1 P2 F2 => ⟨_, _, rfl, rfl, ?_⟩⟩
      refine q _ H2 (place_of ?_ ?_) P2 (F1.trans F2)
      · show (0 : Int) ≤ 10 ^ 30 - r
        omega
      · show (10 : Int) ^ 30 - r ≤ 10 ^ 30
        omega
    · refine ⟨_, _, rfl, rfl, hpow15, _, rfl, p, 99, n + 1, rfl, by decide, by decide, P1, by omega, fun r H2 r0 r1 P2 F2 => ⟨_, _, rfl, rfl, ?_⟩⟩
      refine q _ H2 (place_of ?_ ?_) P2 (F1.trans F2)
      · show (0 : Int) ≤ 10 ^ 15 + r
        omega
      · show (10 : Int) ^ 15 + r ≤ 10 ^ 30
        omega
theorem scDn : FnScope ["_law_pen_here", "_law_most", "_law_found", "_law_k", "_law_first", "_law_size"] ["_law_pen_here", "_law_most"] (defScope sDrawn) := ⟨rfl, rfl, rfl, by decide +kernel, rfl, by decide +kernel, by decide +kernel⟩
theorem ok_drawn {f : Addr} {fd : FuncData} (F : Fun K "_law_drawn" "_law_drawn" sDrawn f fd) (B : Bd mg) (D : Cl P w K mg base 1 "_law_draw" ["_law_pen_here", "_law_many"] spDraw) (C : Cl P w K mg base 2 "_law_pick" ["_law_pen_here", "_law_items"] (spPick K))
    (S : Cl P w K mg base 2 "_law_spot" ["_law_pen_here"] spSpot) : FnOk P w K mg base CX0 3 f fd ["_law_pen_here", "_law_most"] spDrawn := by
  refine F.ok scDn (fun vs H Q E h => ?_) (fun cdv A outer s H vs Q E hr h => ?_)
  · obtain ⟨p, m, n, rfl, _⟩ := h
    rfl
  · obtain ⟨p, m, n, rfl, hm, hP, hn, q⟩ := h
    have nd := scDn.nd
    have hu64 : (A.deeper (envOfC "_law_drawn" (defScope sDrawn) s.heap.objs.size f cdv)).units + 64 < cLine := hr.units
    refine ⟨_, pss_cons (ps_set (i := 2) nd rfl (.inl rfl) (pe_lst pa_nil))
      (pss_cons (ps_for PassesOwn.never rfl (pi_range1 (by rfl) B.range (pa_cons (pe_cl D hr (by decide) (by rfl) (pa_cons (pv 0) (pa_cons (pe_op op_add (pv 1) pe_int) pa_nil))) pa_nil)) (pg_name (i := 3) nd rfl (.inl rfl))
        (pss_cons (ps_set (i := 4) nd rfl (.inl rfl) (pe_cl S hr (by decide) (by rfl) (pa_cons (pv 0) pa_nil)))
        (Evl.pss_cut (ps_if (PW.pt (pw_and (pt_cmpR (op_neD hu64) (pv 2) (pe_lst pa_nil) (nomark _)) (pw_and1 (pt_cmpR op_eq (pe_cl D hr (by decide) (by rfl) (pa_cons (pv 0) (pa_cons pe_int pa_nil))) pe_int (nomark _)))))
          (pss_one (ps_set (i := 4) nd rfl (.inl rfl) (pe_callB (call_min2 rfl) (by rfl) B.min bt_min (pa_cons (pe_op op_pow pe_int pe_int) (pa_cons (pe_callTy call_int1 (by rfl) B.int bt_int (pa_cons
            (pe_op op_add (pe_ix ix_tup (pe_cl C hr (by decide) (by rfl) (pa_cons (pv 0) (pa_cons (pv 2) pa_nil))) pe_int (fun _ _ => rfl)) (pe_cl C hr (by decide) (by rfl) (pa_cons (pv 0) (pa_cons (pe_lst (pa_cons pe_int (pa_cons pe_int (pa_cons pe_int (pa_cons pe_int (pa_cons pe_int pa_nil)))))) pa_nil)))) pa_nil)) pa_nil))))) pss_nil)
        (pss_cons (ps_set (i := 5) nd rfl (.inl rfl) (pe_cl C hr (by decide) (by rfl) (pa_cons (pv 0) (pa_cons (pe_lst (pa_cons pe_int (pa_cons pe_int (pa_cons pe_int (pa_cons pe_int (pa_cons (pe_cl D hr (by decide) (by rfl) (pa_cons (pv 0) (pa_cons pe_int pa_nil)))
            (pa_cons (pe_cl D hr (by decide) (by rfl) (pa_cons (pv 0) (pa_cons (pe_op op_pow pe_int pe_int) pa_nil))) pa_nil))))))) pa_nil))))
        (pss_one (ps_expr (pe_bm PySem.F.plainAttrs_list PySem.F.slot_list_append PySem.F.type_list_append mt_append (pv 2) (pa_cons (pe_tup (pa_cons (pv 4) (pa_cons (pe_callB (call_min2 rfl) (by rfl) B.min bt_min (pa_cons (pe_op op_pow pe_int pe_int)
            (pa_cons (pe_callTy call_int1 (by rfl) B.int bt_int (pa_cons (pe_op op_add (pv 4) (pv 5)) pa_nil)) pa_nil))) pa_nil))) pa_nil))))))))
      (pss_one (ps_ret (pv 2)))), ?_⟩
    have hpow : CPow 10 30 := ⟨by decide, by decide, by decide⟩
    have eL : lastP = 10 ^ 30 := rfl
    obtain ⟨c0, hc0, hcn⟩ := hP.cells
    refine ⟨Nat.zero_le _, fun a0 na => ?_⟩
    have nca0 : c0 ≠ a0 := fun e => hcn (by rw [e]; exact na)
    have P0 := hP.new (o := .lst []) na
    refine ⟨_, rfl, _, rfl, _, _, rfl, rfl, p, _, n, rfl, by omega, Nat.lt_of_le_of_lt (show ((m : Int) + 1).natAbs ≤ 21 by omega) (by decide), P0, by omega, fun r H1 r0 r1 P1 F1 => ?_⟩
    have a1 : H1 a0 = some (.lst []) := F1.lst P0 upd_same
    refine ⟨r, rfl, by omega, by omega, for_range (n := r.toNat) (fun i σ H' => ∃ s3 s4 s5, ∃ L : List ARow, σ = [some (.ref p), some (.int m), some (.ref a0), s3, s4, s5] ∧ H' a0 = some (.lst (refs L)) ∧ AtR H' L ∧ (∀ r ∈ rws L, okRow r = true) ∧ L.length = i ∧ Pen H' p (n + 1 + 20 * i) ∧ Frm p H H')
      ⟨none, none, none, [], rfl, a1, (fun _ z => nomatch z), (fun _ z => nomatch z), rfl, P1, (Frm.new na).trans F1⟩ ?_ ?_⟩
    · rintro i σ H' hi ⟨s3, s4, s5, L, rfl, ha, hA, hok, hlen, hPn, hF⟩
      have hi20 : i < 20 := by omega
      -- first
      refine ⟨_, rfl, p, _, rfl, hPn, by omega, fun fst H2 hf P2 F2 => ?_⟩
      have ha2 : H2 a0 = some (.lst (refs L)) := F2.lst hPn ha
      have hA2 := hA.frm F2 hPn
      have hF2 := hF.trans F2
      refine ⟨fun σ'' H'' => ∃ fst : Int, σ'' = [some (.ref p), some (.int m), some (.ref a0), some (.int (0 + i)), some (.int fst), s5] ∧ placeB fst = true ∧ H'' a0 = some (.lst (refs L)) ∧ AtR H'' L ∧ Pen H'' p (n + 1 + 20 * i + 5) ∧ Frm p H H'', ?_, ?_⟩
      · refine ⟨_, rfl, Nat.zero_le _, fun e he => ?_⟩
        have se := same_lay (o := .lst []) he
        have ha3 := se _ _ ha2
        have hA3 := hA2.same se
        have P3 := P2.same' se
        have hF3 := hF2.trans (frmS se)
        refine ⟨.list ((rws L).map rowD), .list [], .lst (.inl (.inl ha3)) (dp_rows hA3), .lst (.inl (.inl upd_same)) .nil, shp_lst _, rfl, _, rfl, ?_⟩
        refine ite2 (fun hne => ?_) (fun _ => iteF ⟨fst, rfl, hf, ha3, hA3, P3.mono (by omega), hF3⟩)
        have hL0 : 0 < L.length := by
          cases L with
          | nil => exact absurd hne (by decide)
          | cons _ _ => exact Nat.succ_pos _
        refine ⟨_, rfl, p, 2, _, rfl, by decide, by decide, P3, by omega, fun c H4 _ _ P4 F4 => ?_⟩
        have ha4 : H4 a0 = some (.lst (refs L)) := F4.lst P3 ha3
        have hA4 := hA3.frm F4 P3
        have hF4 := hF3.trans F4
        refine ⟨rfl, _, rfl, ite2 (fun _ => ?_) (fun _ => ⟨fst, rfl, hf, ha4, hA4, P4.mono (by omega), hF4⟩)⟩
        refine ⟨_, _, rfl, rfl, hpow, _, rfl, _, rfl, p, a0, refs L, _, rfl, .inl (.inl ha4), by rw [refs_len]; exact hL0, by rw [refs_len]; omega, P4, by omega, fun v H5 hv P5 F5 => ?_⟩
        obtain ⟨z, hz, rfl⟩ := List.mem_map.mp hv
        have ha5 : H5 a0 = some (.lst (refs L)) := F5.lst P4 ha4
        have hA5 := hA4.frm F5 P4
        have okz := okRow_iff (hok z.2 (mem_rws.mpr ⟨z.1, hz⟩))
        refine ⟨z.1, _, 1, .int z.2.2, rfl, rfl, .inl (.inl (hA5 z hz)), atI_nat (j := 1) rfl, _, rfl, by show 5 ≤ sizeLine; decide, fun l2 hl2 => ?_⟩
        refine ⟨p, l2, _, _, rfl, .inl (.inl upd_same), by show 0 < 5; decide, by show 5 ≤ 1000; decide, P5.new hl2, by omega, fun v2 H6 hv2 P6 F6 => ?_⟩
        obtain ⟨j, rfl, hj0, hj1⟩ : ∃ j : Int, v2 = .int j ∧ 0 ≤ j ∧ j ≤ 3 := by
          simp only [List.mem_cons, List.not_mem_nil, or_false] at hv2
          rcases hv2 with e | e | e | e | e <;> subst e <;> exact ⟨_, rfl, by decide, by decide⟩
        have s2 := same_lay (o := .lst [.int 0, .int 1, .int 1, .int 2, .int 3]) hl2
        have ha6 : H6 a0 = some (.lst (refs L)) := F6.lst (P5.new hl2) (s2 _ _ ha5)
        refine ⟨_, _, rfl, rfl, .inl ⟨_, rfl, _, _, rfl, ?_⟩⟩
        refine ⟨_, rfl, place_of ?_ ?_, ha6, (hA5.same s2).frm F6 (P5.new hl2), P6.mono (by omega), ((hF4.trans F5).trans (frmS s2)).trans F6⟩
        · show (0 : Int) ≤ (if z.2.2 + j < 10 ^ 30 then z.2.2 + j else 10 ^ 30)
          split <;> omega
        · show (if z.2.2 + j < 10 ^ 30 then z.2.2 + j else 10 ^ 30) ≤ (10 : Int) ^ 30
          split <;> omega
      clear hf ha2 hA2 hF2 F2 P2
      rintro σ'' H3 ⟨fst, rfl, hf, ha3, hA3, P3, hF3⟩
      -- size
      refine ⟨_, rfl, _, rfl, p, 9, _, rfl, by decide, by decide, P3, by omega, fun r1 H4 h10 _ P4 F4 => ?_⟩
      refine ⟨_, rfl, _, _, rfl, rfl, hpow, p, _, _, rfl, by decide, by decide, P4, by omega, fun r2 H5 h20 _ P5 F5 => ?_⟩
      refine ⟨by show 6 ≤ sizeLine; decide, fun l hl => ?_⟩
      refine ⟨p, l, _, _, rfl, .inl (.inl upd_same), by show 0 < 6; decide, by show 6 ≤ 1000; decide, P5.new hl, by omega, fun v H6 hv P6 F6 => ?_⟩
      obtain ⟨sz, rfl, hsz⟩ : ∃ sz : Int, v = .int sz ∧ 0 ≤ sz := by
        simp only [List.mem_cons, List.not_mem_nil, or_false] at hv
        rcases hv with e | e | e | e | e | e <;> subst e <;> exact ⟨_, rfl, by omega⟩
      have sl := same_lay (o := .lst [.int 0, .int 0, .int 1, .int 2, .int r1, .int r2]) hl
      have FF : Frm p H3 H6 := ((F4.trans F5).trans (frmS sl)).trans F6
      have ha6 : H6 a0 = some (.lst (refs L)) := FF.lst P3 ha3
      have hA6 := hA3.frm FF P3
      have hf2 := place_iff hf
      have hfe : fst ≤ 10 ^ 30 := hf2.2
      refine ⟨_, rfl, .inl ⟨rfl, _, .inl (.inl ha6)⟩, _, rfl, _, _, rfl, rfl, hpow, _, rfl, _, rfl, _, _, rfl, rfl, .inl ⟨_, rfl, _, _, rfl, by show 2 ≤ sizeLine; decide, fun T hT => ?_⟩⟩
      have sT := same_lay (o := .tup [.int fst, .int (if fst + sz < 10 ^ (30 : Int).toNat then fst + sz else 10 ^ (30 : Int).toNat)]) hT
      have nTa : T ≠ a0 := by
        intro e
        rw [e, ha6] at hT
        cases hT
      refine ⟨a0, _, _, rfl, rfl, sT _ _ ha6, small1000 (by rw [refs_len]; omega), ?_⟩
      have nLa : ∀ q ∈ L, q.1 ≠ a0 := fun q hq => ne_of (hA6 q hq) ha6 (by intro z; cases z)
      refine ⟨_, _, _, L ++ [(T, (fst, if fst + sz < 10 ^ (30 : Int).toNat then fst + sz else 10 ^ (30 : Int).toNat))], rfl, by rw [upd_same, refs_snoc], ?_, ?_, by rw [List.length_append, hlen]; rfl, ?_, ?_⟩
      · intro q hq
        rcases List.mem_append.mp hq with k | k
        · rw [upd_ne (nLa q k)]; exact sT _ _ (hA6 q k)
        · rw [List.mem_singleton.mp k, upd_ne nTa, upd_same]
      · intro x hx
        rw [rws_snoc] at hx
        rcases List.mem_append.mp hx with k | k
        · exact hok x k
        · rw [List.mem_singleton.mp k]
          refine okRow_of hf2.1 ?_ ?_
          · show fst ≤ (if fst + sz < 10 ^ 30 then fst + sz else 10 ^ 30)
            split <;> omega
          · show (if fst + sz < 10 ^ 30 then fst + sz else 10 ^ 30) ≤ (10 : Int) ^ 30
            split <;> omega
      · exact ((P6.same' sT).put (((hF3.trans FF).trans (frmS sT)).ce c0 hc0) (sT _ _ ha6) nca0).mono (by omega)
      · refine ⟨fun b o e nb => ?_, fun c hc => ?_⟩
        · rw [upd_ne (ne_of_none e na)]
          exact sT _ _ (FF _ _ (hF3 _ _ e nb) nb)
        · obtain ⟨k, l', e⟩ := ((hF3.trans FF).trans (frmS sT)).ce c hc
          exact ⟨k, l', by rw [upd_ne (ne_of e (sT _ _ ha6) (by intro z; cases z))]; exact e⟩
    · rintro σ H' ⟨s3, s4, s5, L, rfl, ha, hA, hok, hl, hPn, hF⟩
      exact ⟨_, rfl, q a0 L H' na ha hA hok (by omega) (hPn.mono (by omega)) hF⟩
end
end OR

namespace OR
open PySem PySem.Spec PyProof.Rows L2
/-! ### the law's own merging -/
theorem bt_set : bootBuiltins ("set" : Str) = some (.type "set") := by decide +kernel
theorem ok_of_mem {l m : List Row} (hn : Nf m) (h : ∀ x, mem m x ↔ mem l x) (hl : ∀ r ∈ l, okRow r = true) : ∀ r ∈ m, okRow r = true := fun r hr => by
  have hle := hn.ok r hr
  obtain ⟨q1, hq1, a1, b1⟩ := (h r.1).mp ⟨r, hr, Int.le_refl _, hle⟩
  obtain ⟨q2, hq2, a2, b2⟩ := (h r.2).mp ⟨r, hr, hle, Int.le_refl _⟩
  have o1 := okRow_iff (hl q1 hq1)
  have o2 := okRow_iff (hl q2 hq2)
  exact okRow_of (a := r.1) (b := r.2) (by omega) hle (by omega)
theorem call_setO {X : Cx} (K : PySem.W.Frag) (P : Program) (w : World) (hK : X.K = K) (hP : X.prog = P) (hw : X.w = w) (hc : X.calm = true) (hu : X.A.units + 64 < cLine) : CallR X (.type "set") (rSetOfT K P w) := by
  subst hK hP hw
  exact cr_setOfT hc hu
def spMerged (K : PySem.W.Frag) : Sp := fun vs H Q _ => ∃ (a : Addr) (L : List ARow), vs = [.ref a] ∧ SqL K H a (refs L) ∧ AtR H L ∧ (∀ r ∈ rws L, okRow r = true) ∧ L.length < 64 ∧
  ∀ (o : Addr) (M : List ARow) (H' : Hp), Same H H' → H o = none → H' o = some (.lst (refs M)) → AtR H' M → Nf (rws M) → (∀ x, mem (rws M) x ↔ mem (rws L) x) → M.length < 64 → M.length ≤ L.length → Q (.ref o) H'
theorem nodup_le {α : Type} : ∀ {l m : List α}, l.Nodup → (∀ x ∈ l, x ∈ m) → l.length ≤ m.length
  | [], _, _, _ => Nat.zero_le _
  | x :: l, m, h, s => by
    obtain ⟨h1, h2⟩ := List.nodup_cons.mp h
    obtain ⟨a, b, rfl⟩ := List.append_of_mem (s x List.mem_cons_self)
    have k : l.length ≤ (a ++ b).length := nodup_le h2 fun y hy => by
      have hy2 := s y (List.mem_cons_of_mem _ hy)
      rcases List.mem_append.mp hy2 with c | c
      · exact List.mem_append_left _ c
      · rcases List.mem_cons.mp c with e | c
        · exact absurd (e ▸ hy) h1
        · exact List.mem_append_right _ c
    rw [List.length_append] at k
    rw [List.length_append, List.length_cons, List.length_cons]
    omega
/-- an arrangement of some of the rows, as lists of integers -/
def ilist (L : List ARow) : List (Addr × List Int) := L.map fun p => (p.1, [p.2.1, p.2.2])
theorem refs_ilist (L : List ARow) : (ilist L).map (fun p => V.ref p.1) = refs L := by
  unfold ilist refs
  rw [List.map_map]
  rfl
theorem of_ilist : ∀ {L' : List (Addr × List Int)} {L : List ARow}, (∀ q ∈ L', q ∈ ilist L) → ∃ S : List ARow, L' = ilist S ∧ ∀ p ∈ S, p ∈ L
  | [], _, _ => ⟨[], rfl, fun _ z => nomatch z⟩
  | q :: L', L, h => by
    obtain ⟨S, e, hS⟩ := of_ilist (L' := L') (L := L) fun z hz => h z (List.mem_cons_of_mem _ hz)
    have hq := h q List.mem_cons_self
    unfold ilist at hq
    obtain ⟨p, hp, rfl⟩ := List.mem_map.mp hq
    refine ⟨p :: S, by rw [e]; rfl, fun z hz => ?_⟩
    rcases List.mem_cons.mp hz with k | k
    · rw [k]; exact hp
    · exact hS z k
theorem bd_row {r : Row} (h : okRow r = true) : TS.Bd (lastP + 1) [r.1, r.2] := fun m hm => by
  have o := okRow_iff h
  simp only [List.mem_cons, List.not_mem_nil, or_false] at hm
  rcases hm with rfl | rfl <;> constructor <;> omega
section
variable {P : Program} {w : World} {K : PySem.W.Frag} {mg : Str → Option Value} {base : Heap}
theorem scMg : FnScope ["_law_rows", "_law_found", "_law_first", "_law_last", "_law_before"] ["_law_rows"] (defScope sMerged) := ⟨rfl, rfl, rfl, by decide +kernel, rfl, by decide +kernel, by decide +kernel⟩
theorem ok_merged {f : Addr} {fd : FuncData} (F : Fun K "_law_merged" "_law_merged" sMerged f fd) (B : Bd mg) : FnOk P w K mg base CX0 1 f fd ["_law_rows"] (spMerged K) := by
  refine F.ok scMg (fun vs H Q E h => ?_) (fun cdv A outer s H vs Q E hr h => ?_)
  · obtain ⟨a, L, rfl, _⟩ := h
    rfl
  · obtain ⟨a, L, rfl, hS, hA0, hok, hlen, q⟩ := h
    have nd := scMg.nd
    have hu64 : (A.deeper (envOfC "_law_merged" (defScope sMerged) s.heap.objs.size f cdv)).units + 64 < cLine := hr.units
    refine ⟨_, pss_cons (ps_set (i := 1) nd rfl (.inl rfl) (pe_lst pa_nil))
      (pss_cons (ps_for PassesOwn.never rfl (pi_list (pe_callB (cr_sortedT rfl) (by rfl) B.sorted bt_sorted (pa_cons (pe_callTy (call_setO K P w rfl rfl rfl rfl hu64) (by rfl) B.set bt_set (pa_cons (pv 0) pa_nil)) pa_nil)))
          (pg_tup rfl (pgs_cons (pg_name (i := 2) nd rfl (.inl rfl)) (pgs_cons (pg_name (i := 3) nd rfl (.inl rfl)) pgs_nil)))
        (pss_one (ps_if (PW.pt (pw_and (pt_cmpR (op_neD hu64) (pv 1) (pe_lst pa_nil) (nomark _)) (pw_and1 (pt_cmpR op_le (pv 2) (pe_op op_add (pe_ix ix_tup (pe_ix ix_list (pv 1) (pe_un un_neg pe_int) (fun _ _ => rfl)) pe_int (fun _ _ => rfl)) pe_int) (nomark _)))))
          (pss_cons (ps_set (i := 4) nd rfl (.inl rfl) (pe_bm0 PySem.F.plainAttrs_list PySem.F.slot_list_pop PySem.F.type_list_pop mt_pop (pv 1)))
          (pss_one (ps_expr (pe_bm PySem.F.plainAttrs_list PySem.F.slot_list_append PySem.F.type_list_append mt_append (pv 1) (pa_cons (pe_tup (pa_cons (pe_ix ix_tup (pv 4) pe_int (fun _ _ => rfl))
              (pa_cons (pe_callB (call_max2 rfl) (by rfl) B.max bt_max (pa_cons (pe_callTy call_int1 (by rfl) B.int bt_int (pa_cons (pe_ix ix_tup (pv 4) pe_int (fun _ _ => rfl)) pa_nil)) (pa_cons (pe_callTy call_int1 (by rfl) B.int bt_int (pa_cons (pv 3) pa_nil)) pa_nil))) pa_nil))) pa_nil)))))
          (pss_one (ps_expr (pe_bm PySem.F.plainAttrs_list PySem.F.slot_list_append PySem.F.type_list_append mt_append (pv 1) (pa_cons (pe_tup (pa_cons (pv 2) (pa_cons (pv 3) pa_nil))) pa_nil)))))))
      (pss_one (ps_ret (pv 1)))), ?_⟩
    refine ⟨Nat.zero_le _, fun o no => ?_⟩
    have S1 := same_lay (o := .lst []) no
    have hA1 := hA0.same S1
    refine ⟨_, rfl, a, ilist L, rfl, by rw [refs_ilist]; exact S1.seq hS, fun p hp => ?_, by unfold ilist; rw [List.length_map]; exact hlen, fun u L1 nu h1 h2 => ?_⟩
    · unfold ilist at hp
      obtain ⟨z, hz, rfl⟩ := List.mem_map.mp hp
      exact .inl (.inl (hA1 z hz))
    have S2 := S1.trans (same_lay (o := SetTO P w u L1) nu)
    have hA2 := hA0.same S2
    obtain ⟨Z, rfl, hZ⟩ := of_ilist h1
    refine ⟨u, ilist Z, 2, lastP + 1, rfl, upd_same, fun p hp => ?_, by decide, fun p hp => ?_, fun L' d hperm hnd hlt hsort nd2 => ?_⟩
    · unfold ilist at hp
      obtain ⟨z, hz, rfl⟩ := List.mem_map.mp hp
      exact .inl (.inl (hA2 z (hZ z hz)))
    · unfold ilist at hp
      obtain ⟨z, hz, rfl⟩ := List.mem_map.mp hp
      exact ⟨rfl, bd_row (hok z.2 (mem_rws.mpr ⟨z.1, hZ z hz⟩))⟩
    obtain ⟨S, rfl, hSL⟩ := of_ilist (L := L) fun y hy => h1 y (hperm.mem_iff.mp hy)
    have S3 := S2.trans (same_lay (o := .lst ((ilist S).map fun q => V.ref q.1)) nd2)
    have hSA : AtR (upd (upd (upd H o (.lst [])) u (SetTO P w u (ilist Z))) d (.lst ((ilist S).map fun q => V.ref q.1))) S := fun p hp => S3 _ _ (hA0 p (hSL p hp))
    have hSlen : S.length < 64 := by
      unfold ilist at hlt
      rw [List.length_map] at hlt
      exact hlt
    have hSL2 : S.length ≤ L.length := by
      have k := nodup_le (l := (ilist S).map (·.2)) (m := (ilist L).map (·.2)) hnd fun y hy => by
        obtain ⟨p, hp, rfl⟩ := List.mem_map.mp hy
        unfold ilist at hp
        obtain ⟨z, hz, rfl⟩ := List.mem_map.mp hp
        exact List.mem_map.mpr ⟨_, by unfold ilist; exact List.mem_map.mpr ⟨z, hSL z hz, rfl⟩, rfl⟩
      unfold ilist at k
      rw [List.length_map, List.length_map, List.length_map, List.length_map] at k
      exact k
    have hSm : ∀ r, r ∈ rws S ↔ r ∈ rws L := fun r => by
      constructor
      · intro hr
        obtain ⟨a', ha'⟩ := mem_rws.mp hr
        exact mem_rws.mpr ⟨a', hSL _ ha'⟩
      · intro hr
        obtain ⟨a', ha'⟩ := mem_rws.mp hr
        have k1 := h2 (a', [r.1, r.2]) (by unfold ilist; exact List.mem_map.mpr ⟨(a', r), ha', rfl⟩)
        obtain ⟨y, hy, e⟩ := List.mem_map.mp k1
        have hy2 := hperm.mem_iff.mpr hy
        unfold ilist at hy2
        obtain ⟨z, hz, rfl⟩ := List.mem_map.mp hy2
        injection e with e1 e2
        injection e2 with e2 _
        exact mem_rws.mpr ⟨z.1, by rw [← Prod.ext e1 e2]; exact hz⟩
    have hso : (rws S).Pairwise fun r s => r.1 ≤ s.1 := by
      unfold ilist at hsort
      have := List.pairwise_map.mp hsort
      unfold rws
      refine List.pairwise_map.mpr (List.Pairwise.imp_of_mem (fun {x y} hx hy hxy => ?_) this)
      exact code_first (bd_row (hok x.2 ((hSm x.2).mp (mem_rws.mpr ⟨x.1, hx⟩)))) (bd_row (hok y.2 ((hSm y.2).mp (mem_rws.mpr ⟨y.1, hy⟩)))) hxy
    have hSok : ∀ r ∈ rws S, r.1 ≤ r.2 := fun r hr => okRow_le (hok r ((hSm r).mp hr))
    obtain ⟨hnf, hme⟩ := jfold_ok hSok hso
    rw [refs_ilist] at S3 hSA ⊢
    generalize hH5 : upd (upd (upd H o (.lst [])) u (SetTO P w u (ilist Z))) d (.lst (refs S)) = H5
    rw [hH5] at S3 hSA
    have nuo : o ≠ u := ne_of_none upd_same nu
    have nod : o ≠ d := by
      intro e
      rw [← e, upd_ne nuo, upd_same] at nd2
      cases nd2
    have ho5 : H5 o = some (.lst []) := by rw [← hH5, upd_ne nod, upd_ne nuo, upd_same]
    have hd5 : H5 d = some (.lst (refs S)) := by rw [← hH5, upd_same]
    have two : 2 ≤ sizeLine := by decide
    refine ⟨d, rfl, ⟨_, .inl (.inl hd5)⟩, for_list (K := K) (a := d) (xs := refs S) (fun i σ H' => ∃ f l b, ∃ A : List ARow, σ = [some (.ref a), some (.ref o), f, l, b] ∧ H' o = some (.lst (refs A)) ∧ AtR H' A ∧ rws A = (((rws S).take i).foldl jstep []).reverse ∧ Fre o H5 H' ∧ A.length ≤ i)
      ⟨none, none, none, [], rfl, ho5, (fun _ z => nomatch z), rfl, Fre.refl _ _, Nat.le_refl _⟩ (fun i σ H' _ ⟨_, _, _, _, _, _, _, _, fr, _⟩ => .inl (.inl (fr _ _ hd5 nod.symm))) ?_ ?_⟩
    · rintro i y σ H' hy ⟨f, l, b, A, rfl, hoA, hA, eA, fr, hAl⟩
      obtain ⟨z, hz, hzS, rfl⟩ := refs_get hy
      have hil : i < S.length := (List.getElem?_eq_some_iff.mp hz).1
      have ez : H' z.1 = some (.tup [.int z.2.1, .int z.2.2]) := fr _ _ (hSA z hzS) (ne_of (hSA z hzS) ho5 (by intro q; cases q))
      have e1 : ((rws S).take (i + 1)).foldl jstep [] = jstep (((rws S).take i).foldl jstep []) z.2 := by
        rw [List.take_add_one, rws_get hz, List.foldl_append]
        rfl
      have nAo : ∀ q ∈ A, q.1 ≠ o := fun q hq => ne_of (hA q hq) hoA (by intro w; cases w)
      refine ⟨z.1, _, rfl, .inl (.inl ez), rfl, _, _, rfl, _, _, rfl, rfl, ?_⟩
      -- found != []
      refine ⟨_, rfl, Nat.zero_le _, fun v hv => ?_⟩
      have sv := same_lay (o := .lst []) hv
      have hoV := sv _ _ hoA
      have hAV := hA.same sv
      have frV : Fre o H5 (upd H' v (.lst [])) := fr.trans fun b u e _ => sv b u e
      refine ⟨.list ((rws A).map rowD), .list [], .lst (.inl (.inl hoV)) (dp_rows hAV), .lst (.inl (.inl upd_same)) .nil, shp_lst _, rfl, _, rfl, ?_⟩
      generalize hHv : upd H' v (.lst []) = Hv
      rw [hHv] at hoV hAV frV
      have nAv : ∀ q ∈ A, q.1 ≠ o := nAo
      have alen : (refs A).length < sizeLine := small1000 (by rw [refs_len]; omega)
      have app : ∀ (b' : Option V) (_ : jstep (((rws S).take i).foldl jstep []) z.2 = z.2 :: ((rws S).take i).foldl jstep []) (T : Addr), Hv T = none →
          ∃ f' l' b'', ∃ A' : List ARow, [some (V.ref a), some (.ref o), some (.int z.2.1), some (.int z.2.2), b'] = [some (.ref a), some (.ref o), f', l', b''] ∧ (upd (upd Hv T (.tup [.int z.2.1, .int z.2.2])) o (.lst (refs A ++ [.ref T]))) o = some (.lst (refs A')) ∧ AtR (upd (upd Hv T (.tup [.int z.2.1, .int z.2.2])) o (.lst (refs A ++ [.ref T]))) A' ∧
            rws A' = (((rws S).take (i + 1)).foldl jstep []).reverse ∧ Fre o H5 (upd (upd Hv T (.tup [.int z.2.1, .int z.2.2])) o (.lst (refs A ++ [.ref T]))) ∧ A'.length ≤ i + 1 := by
        intro b' hj Tn hT
        have s4 := same_lay (o := .tup [.int z.2.1, .int z.2.2]) hT
        have noT : Tn ≠ o := by
          intro e
          rw [e, hoV] at hT
          cases hT
        refine ⟨_, _, _, A ++ [(Tn, z.2)], rfl, by rw [upd_same, refs_snoc], ?_, ?_, (frV.trans (fun b u e _ => s4 b u e)).trans Fre.put, by rw [List.length_append]; exact Nat.succ_le_succ hAl⟩
        · intro q hq
          rcases List.mem_append.mp hq with k | k
          · rw [upd_ne (nAo q k)]; exact s4 _ _ (hAV q k)
          · rw [List.mem_singleton.mp k, upd_ne noT, upd_same]
        · rw [rws_snoc, eA, e1, hj, List.reverse_cons]
      cases hacc : ((rws S).take i).foldl jstep [] with
      | nil =>
        have eA0 : A = [] := by
          rw [hacc] at eA
          exact List.map_eq_nil_iff.mp eA
        refine ite2 (fun k => ?_) (fun _ => iteF ?_)
        · rw [eA0] at k
          exact absurd k (by decide)
        · refine ⟨_, rfl, .inl ⟨rfl, _, .inl (.inl hoV)⟩, _, rfl, _, rfl, two, fun Tn hT => ?_⟩
          refine ⟨o, refs A, _, rfl, rfl, same_lay hT _ _ hoV, alen, ?_⟩
          exact app b (by rw [hacc]; rfl) Tn hT
      | cons q0 t0 =>
        have eA1 : rws A = t0.reverse ++ [q0] := by rw [eA, hacc, List.reverse_cons]
        obtain ⟨B', A2, rfl, eB, eA2⟩ := List.map_eq_append_iff.mp eA1
        obtain ⟨⟨aq, q1⟩, A3, rfl, eq1, eA3⟩ := List.map_eq_cons_iff.mp eA2
        obtain rfl := List.map_eq_nil_iff.mp eA3
        obtain rfl : q1 = q0 := eq1
        have haq : Hv aq = some (.tup [.int q1.1, .int q1.2]) := hAV (aq, q1) (List.mem_append_right _ (List.mem_singleton.mpr rfl))
        have hoW := hoV
        rw [refs_snoc] at hoV
        have hSo : SqL K Hv o (refs B' ++ [.ref aq]) := .inl (.inl hoV)
        have hSq : SqT K Hv aq [.int q1.1, .int q1.2] := .inl (.inl haq)
        have g0 : atI [V.int q1.1, .int q1.2] 0 = some (.int q1.1) := atI_nat (j := 0) rfl
        have g1 : atI [V.int q1.1, .int q1.2] 1 = some (.int q1.2) := atI_nat (j := 1) rfl
        have gl : atI (refs B' ++ [V.ref aq]) (-1) = some (.ref aq) := atI_last _ _
        refine ite2 (fun _ => ?_) (fun k => ?_)
        · refine ⟨_, rfl, _, rfl, 1, rfl, o, _, -1, _, rfl, rfl, hSo, gl, aq, _, 1, _, rfl, rfl, hSq, g1, _, _, rfl, rfl, _, _, rfl, rfl, _, rfl, ite2 (fun c => ?_) (fun c => ?_)⟩
          · have hc : z.2.1 ≤ q1.2 + 1 := of_decide_eq_true c
            -- before = found.pop()
            refine ⟨_, rfl, .inl ⟨rfl, _, .inl (.inl hoV)⟩, o, _, .ref aq, rfl, rfl, hoV, ?_, ?_⟩
            · rw [List.length_append, List.getElem?_append_right (by simp)]
              simp
            rw [List.dropLast_concat]
            have nqo : aq ≠ o := ne_of haq hoV (by intro w; cases w)
            have haq2 : (upd Hv o (.lst (refs B'))) aq = some (.tup [.int q1.1, .int q1.2]) := by rw [upd_ne nqo]; exact haq
            have hSq2 : SqT K (upd Hv o (.lst (refs B'))) aq [.int q1.1, .int q1.2] := .inl (.inl haq2)
            refine ⟨_, rfl, .inl ⟨rfl, _, .inl (.inl upd_same)⟩, _, rfl, aq, _, 0, _, rfl, rfl, hSq2, g0, _, rfl, aq, _, 1, _, rfl, rfl, hSq2, g1, .inl ⟨_, rfl, _, rfl, .inl ⟨_, rfl, _, _, rfl, two, fun Tn hT => ?_⟩⟩⟩
            have s4 := same_lay (o := .tup [.int q1.1, .int (if z.2.2 > q1.2 then z.2.2 else q1.2)]) hT
            have noT : Tn ≠ o := by
              intro e
              rw [e, upd_same] at hT
              cases hT
            refine ⟨o, _, _, rfl, rfl, s4 _ _ upd_same, small1000 (by rw [refs_len]; rw [List.length_append] at hAl; omega), ?_⟩
            refine ⟨_, _, _, B' ++ [(Tn, (q1.1, if z.2.2 > q1.2 then z.2.2 else q1.2))], rfl, by rw [upd_same, refs_snoc], ?_, ?_, ((frV.trans Fre.put).trans (fun b u e _ => s4 b u e)).trans Fre.put, ?_⟩
            · intro q hq
              rcases List.mem_append.mp hq with k | k
              · have nq := nAo q (List.mem_append_left _ k)
                rw [upd_ne nq]
                refine s4 _ _ ?_
                rw [upd_ne nq]
                exact hAV q (List.mem_append_left _ k)
              · rw [List.mem_singleton.mp k, upd_ne noT, upd_same]
            · rw [rws_snoc, e1, hacc]
              show rws B' ++ [(q1.1, if z.2.2 > q1.2 then z.2.2 else q1.2)] = (if z.2.1 ≤ q1.2 + 1 then (q1.1, if z.2.2 > q1.2 then z.2.2 else q1.2) :: t0 else z.2 :: q1 :: t0).reverse
              rw [if_pos hc, List.reverse_cons]
              exact congrArg (· ++ [(q1.1, if z.2.2 > q1.2 then z.2.2 else q1.2)]) eB
            · rw [List.length_append] at hAl ⊢
              exact Nat.le_succ_of_le hAl
          · have hc : ¬ z.2.1 ≤ q1.2 + 1 := fun w => c (decide_eq_true w)
            refine ⟨_, rfl, .inl ⟨rfl, _, .inl (.inl hoV)⟩, _, rfl, _, rfl, two, fun Tn hT => ?_⟩
            refine ⟨o, _, _, rfl, rfl, same_lay hT _ _ hoV, by rw [← refs_snoc]; exact alen, ?_⟩
            rw [← refs_snoc]
            refine app b ?_ Tn hT
            rw [hacc]
            show (if z.2.1 ≤ q1.2 + 1 then (q1.1, if z.2.2 > q1.2 then z.2.2 else q1.2) :: t0 else z.2 :: q1 :: t0) = z.2 :: q1 :: t0
            rw [if_neg hc]
        · exfalso
          apply k
          show (!PyData.eqvAll ((rws (B' ++ [(aq, q1)])).map rowD) []) = true
          rw [rws_snoc, List.map_append]
          cases (rws B').map rowD <;> rfl
    · rintro σ H' ⟨f, l, b, A, rfl, hoA, hA, eA, fr, hAl⟩
      rw [refs_len, List.take_of_length_le (by rw [rws_len]; exact Nat.le_refl _)] at eA
      have eN : rws A = (jfold (rws S)).reverse := eA
      have s6 : Same H H' := fun b u e => fr b u (S3 b u e) (ne_of_none e no)
      refine ⟨_, rfl, q o A H' s6 no hoA hA (by rw [eN]; exact hnf) (fun x => ?_) ?_ ?_⟩
      · rw [eN, hme x]
        exact mem_same hSm x
      · rw [refs_len] at hAl
        omega
      · rw [refs_len] at hAl
        omega
end
end OR

namespace OR
open PySem PySem.Spec PyProof.Rows L2
/-! ### own ==, !=, bool -/
section
variable {prog : Program} {w : World} {A : Around} {E : Value → Shared → Prop} {s : Shared} {K : PySem.W.Frag} {x C L f : Addr} {h₀ : Heap} {m : Str → Option Value} {ox : Obj} {od : Option Obj} {b tb : Value}
theorem ifBound_ne {M : Model} {args : List Value} {Q : Option Value → Shared → Prop} (X : K.In s.heap) (I : PySem.W.InstAt s.heap x ox C od) (hs : PySem.W.findIn K (.ref C) "__ne__" = some (some (.builtin "object.__ne__")))
    (h : wpAny M A (call (.builtin "object.__ne__") (.ref x :: args)) (fun v => Q (some v)) E s) : wpAny M A (callSpecialIfBound? (.ref x) "__ne__" args) Q E s := by
  simp only [callSpecialIfBound?, bindSpecialIfBound?]
  refine wpAny_holding (wpAny_bind (wpAny_bind (wpAny_bind (I.type.here ((PySem.W.looks_findIn X hs).here ?_)))))
  simp only [PySem.F.cmp_object.ne.bind]
  refine wpAny_bind (wpAny_askSetting (wpAny_ite ?_))
  have fin : wpAny M A (call (.builtin "object.__ne__") ([.ref x] ++ args) >>= fun v => pure (some v)) Q E s := wpAny_bind (wpAny_mono h (fun v s' h' => wpAny_pure h') fun _ _ h' => h')
  split
  · exact wpAny_bind (wpAny_pure (wpAny_pure fin))
  · exact wpAny_tryCatch (wpAny_bind (wpAny_pure (wpAny_pure fin)))
theorem check_ne {M : Model} {Q : Unit → Shared → Prop} (X : K.In s.heap) (I : PySem.W.InstAt s.heap x ox C od) (hm : PySem.W.mroIn K C (.type "object") = some true) (hq : Q () s) :
    wpAny M A (PySem.checkBuiltinCall "object.__ne__" ⟨[.ref x, b], []⟩) Q E s := by
  have hsig : ∃ sig, Manifest.signature? "object.__ne__" = sig := ⟨_, rfl⟩
  obtain ⟨sig, hsig⟩ := hsig
  have ha := PySem.F.cmpArgs_ne (.ref x) b
  unfold argsOk at ha
  simp only [PySem.checkBuiltinCall, PySem.F.cmpKind_ne, PySem.F.cmpSplit_ne]
  refine wpAny_bind (m := PySem.isInstance _ _) ?_
  unfold PySem.isInstance
  refine wpAny_bind (I.type.here ((PySem.W.looks_mroIn X hm).here ?_))
  rw [hsig] at ha ⊢
  cases sig with
  | none => exact wpAny_pure hq
  | some sg =>
    have h2 : Bind.checkArgs "object.__ne__" sg ⟨[.ref x, b], []⟩ = pure () := ha
    show wpAny M A (Bind.checkArgs "object.__ne__" sg ⟨[.ref x, b], []⟩) Q E _
    rw [h2]; exact wpAny_pure hq
/-- x != b by the own == of x -/
theorem ne_K {Q : Value → Shared → Prop} (hu : A.units + 1 < cLine) (F : PyProof.Rows.Fr h₀ L s.heap m) (X₀ : K.In h₀) (I : PySem.W.InstAt s.heap x ox C od) (hb : PySem.W.Looks (model prog w) s.heap (typeOf b) tb) (hn : PySem.W.notFirst K C tb = true)
    (h1 : PySem.W.findIn K (.ref C) "__ne__" = some (some (.builtin "object.__ne__"))) (hm : PySem.W.mroIn K C (.type "object") = some true) (hs : PySem.W.findIn K (.ref C) "__eq__" = some (some (.ref f))) (hf : PySem.W.isFn K (.ref f) = true)
    (h : wpAny (model prog w) A.in1 (call (.ref f) [.ref x, b]) (fun v s' => ∃ k, v = .bool k ∧ Q (.bool (!k)) s') E s) : wpAny (model prog w) A (richCompare .NotEq (.ref x) b) Q E s := by
  have X := X₀.keeps F.keep
  have entry : wpAny (model prog w) A.in1 (Builtin.«object.__ne__» ⟨[.ref x, b], []⟩) (fun r s' => ∃ k, r = .done (.ret (.bool (!k))) ∧ Q (.bool (!k)) s') E s := by
    unfold Builtin.«object.__ne__»
    refine wpAny_bind (m := PySem.slotArgs "__ne__" 1 _) (wpAny_pure ?_)
    refine wpAny_bind (wpAny_cRoomFor hu ?_)
    refine wpAny_bind (m := callSpecialIfBound? (.ref x) (Str.ofString "__eq__") [b]) (PySem.W.ifBound_K X I hs hf (wpAny_mono h (fun r s' hr => ?_) fun _ _ e => e))
    obtain ⟨k, rfl, hq⟩ := hr
    refine wpAny_bind (m := truthy (.bool k)) (wpAny_truthy_bool ?_)
    exact wpAny_pure ⟨k, rfl, hq⟩
  have one : wpAny (model prog w) A (tryCompare (.ref x) "__ne__" b) (fun r s' => ∃ v, r = some v ∧ Q v s') E s := by
    unfold tryCompare
    refine wpAny_bind (ifBound_ne X I h1 (wpAny_call (codeAny_call_builtin PySem.F.cmp_object.ne.plain PySem.F.cmpEntry_ne (check_ne X I hm (wpAny_mono entry (fun r s' z => ?_) fun _ _ e => e)))))
    obtain ⟨k, rfl, hq⟩ := z
    exact wpAny_pure ⟨_, rfl, hq⟩
  unfold richCompare
  simp only [oneThing_ref]
  refine wpAny_holding (wpAny_bind (wpAny_cRoomFor (by omega) ?_))
  refine wpAny_bind (I.type.here (wpAny_bind (hb.here ?_)))
  split
  · rename_i q
    have e : PySem.W.subIn K tb (.ref C) = some false := by
      rcases Bool.or_eq_true_iff.mp hn with e | e
      · rw [beq_iff_eq.mp e] at q; simp at q
      · exact beq_iff_eq.mp e
    refine wpAny_bind ((PySem.W.looks_subIn X e).here ?_)
    simp only [Bool.false_eq_true, if_false]
    refine wpAny_bind (wpAny_mono one (fun r s' z => ?_) fun _ _ e => e)
    obtain ⟨v, rfl, hq⟩ := z
    exact wpAny_pure hq
  · refine wpAny_bind (wpAny_pure ?_)
    simp only [Bool.false_eq_true, if_false]
    refine wpAny_bind (wpAny_mono one (fun r s' z => ?_) fun _ _ e => e)
    obtain ⟨v, rfl, hq⟩ := z
    exact wpAny_pure hq
theorem bool_truth {v : Value} {Q : Value → Shared → Prop} (h : wpAny (model prog w) A.in1.in1 (truthy v) (fun b s' => Q (.bool b) s') E s) : wpAny (model prog w) A (call (.type "bool") [v]) Q E s := by
  refine PySem.callType_codes (T := "bool") (Bi := Builtin.«object.__init__») (Q₁ := fun r s₁ => ∃ b, r = Value.bool b ∧ Q r s₁) PySem.F.called_bool (PySem.F.typeCall_bool_1 _) PySem.F.entry_object_init ?_ ?_
  · refine codeAny_of_tree ?_
    show wpAny _ A.in1.in1 (do checkBuiltinCall "bool.__new__" ⟨[.type "bool", v], []⟩; again (.builtin "bool.__new__" ⟨[.type "bool", v], []⟩)) _ _ s
    refine wpAny_bind (wpAny_of_eq (PySem.F.newCall_bool_1 _) (wpAny_pure ⟨plainId_quiet (by decide +kernel) _, codeAny_builtin PySem.F.entry_bool_new ?_⟩))
    rw [Around.under_plainId (by decide +kernel) _]
    unfold Builtin.«bool.__new__»
    refine wpAny_bind (wpAny_of_eq (a := true) (by first | rfl | kernel_rfl | (unfold isType; rw [isSubtype_type]; kernel_rfl)) ?_)
    refine PySem.W.KFB.if_not rfl ?_
    refine wpAny_bind (wpAny_of_eq (a := true) PySem.F.conv_sub_bool ?_)
    refine PySem.W.KFB.if_not rfl ?_
    refine wpAny_bind (wpAny_of_eq (a := [v]) rfl ?_)
    refine wpAny_bind (wpAny_mono h (fun b s' hq => ?_) fun _ _ e => e)
    exact wpAny_pure ⟨b, rfl, hq⟩
  · rintro obj s₁ ⟨b, rfl, hq⟩
    exact ⟨rfl, PySem.F.args_object_init_2 _ _, object_init_meets PySem.F.called_bool.init.lookup PySem.F.called_bool.made (by decide) prog w A.in1 _ s₁ ⟨rfl, rfl, hq⟩⟩
end
section
variable {X : Cx} {n : Nat} {C : Addr} {sp : Sp}
/-- what stands on the right: an instance of the class, or a value of a type that is no class below -/
def RightOf (K : PySem.W.Frag) (C : Addr) (H : Hp) (y : V) : Prop := ∃ tb, TyX K H y tb ∧ PySem.W.notFirst K C tb = true
/-- x == y by the own == of x -/
def rEqO (K : PySem.W.Frag) (C : Addr) (sp : Sp) : R2 := fun x y H Q => ∃ a dx fs, x = .ref a ∧ H a = some (.ins C dx fs) ∧ RightOf K C H y ∧ sp [x, y] H Q E0
theorem op_eqO (K : PySem.W.Frag) (hK : X.K = K) (m : Md X.prog X.w X.K X.mg X.base n C "__eq__" sp) (hr : Room n X.A) : OpR X (compareOp .Eq) (rEqO K C sp) := by
  subst hK
  intro pins s σ H x y v u Q I rx ry h
  obtain ⟨f, F, hs, hf, _⟩ := m.ex
  obtain ⟨a, dx, fs, rfl, ha, ⟨tb, hy, hn⟩, q⟩ := h
  cases (show v = Value.ref a from rx)
  obtain ⟨mA, J, _⟩ := ins_get I.hok ha
  obtain ⟨od, J, _⟩ := J.look
  obtain ⟨Pk, hk, hp, _⟩ := kit_of I ry hy
  obtain ⟨m, hF⟩ := I.fr
  refine PySem.W.cmp_K (op := .Eq) (tb := tb) hr.units0 hF I.ok.mod.kin J (hk.ty _ _ I.kIn hp) hn hs hf ?_
  refine wpAny_mono (wpAny_call (run_fnR (us := [.ref a, u]) (vs := [.ref a, y]) F hr pass0 I (.cons rfl (.cons ry .nil)) q)) (fun w s' z => ?_) fun _ _ x => x
  obtain ⟨z', H', I', rz, qz⟩ := z
  exact SlX.cmpback rz ⟨z', H', I', rz, qz⟩
/-- x != y by the own == of x -/
def rNeO (K : PySem.W.Frag) (C : Addr) (sp : Sp) : R2 := fun x y H Q => ∃ a dx fs, x = .ref a ∧ H a = some (.ins C dx fs) ∧ RightOf K C H y ∧ sp [x, y] H (fun z H' => ∃ k, z = .bl k ∧ Q (.bl (!k)) H') E0
theorem op_neO (K : PySem.W.Frag) (hK : X.K = K) (m : Md X.prog X.w X.K X.mg X.base n C "__eq__" sp) (h1 : PySem.W.findIn X.K (.ref C) "__ne__" = some (some (.builtin "object.__ne__"))) (hm : PySem.W.mroIn X.K C (.type "object") = some true) (hr : Room (n + 1) X.A) : OpR X (compareOp .NotEq) (rNeO K C sp) := by
  subst hK
  intro pins s σ H x y v u Q I rx ry h
  obtain ⟨f, F, hs, hf, _⟩ := m.ex
  obtain ⟨a, dx, fs, rfl, ha, ⟨tb, hy, hn⟩, q⟩ := h
  cases (show v = Value.ref a from rx)
  obtain ⟨mA, J, _⟩ := ins_get I.hok ha
  obtain ⟨od, J, _⟩ := J.look
  obtain ⟨Pk, hk, hp, _⟩ := kit_of I ry hy
  obtain ⟨m, hF⟩ := I.fr
  refine ne_K (tb := tb) (by have := hr.units; omega) hF I.ok.mod.kin J (hk.ty _ _ I.kIn hp) hn h1 hm hs hf ?_
  refine wpAny_mono (wpAny_call (SlX.run_at (us := [.ref a, u]) (ws := [.ref a, y]) F hr.in1 I.env0.in1 pass0 I (.cons rfl (.cons ry .nil)) q)) (fun w s' z => ?_) fun _ _ x => x
  obtain ⟨z', H', I', rz, k, ek, qz⟩ := z
  subst ek
  cases (show w = Value.bool k from rz)
  exact ⟨k, rfl, .bl (!k), H', I', rfl, qz⟩
/-- the truth of x by its own bool -/
def rTruO (C : Addr) (sp : Sp) : V → Hp → (Bool → Hp → Prop) → Prop := fun x H Q => ∃ a dx fs, x = .ref a ∧ H a = some (.ins C dx fs) ∧ sp [x] H (fun z H' => ∃ k, z = .bl k ∧ Q k H') E0
theorem tru_own (m : Md X.prog X.w X.K X.mg X.base n C "__bool__" sp) (hr : Room n X.A) : TruR X (rTruO C sp) := by
  intro pins s σ H x v Q I rx h
  obtain ⟨f, F, hs, hf, _⟩ := m.ex
  obtain ⟨a, dx, fs, rfl, ha, q⟩ := h
  cases (show v = Value.ref a from rx)
  obtain ⟨mA, J, _⟩ := ins_get I.hok ha
  obtain ⟨od, J, _⟩ := J.look
  obtain ⟨m, hF⟩ := I.fr
  refine PySem.W.truthy_K hF I.ok.mod.kin J hs hf ?_
  refine wpAny_mono (wpAny_call (run_fnR (us := [.ref a]) (vs := [.ref a]) F hr pass0 I (.cons rfl .nil) q)) (fun w s' z => ?_) fun _ _ x => x
  obtain ⟨z', H', I', rz, k, ek, qz⟩ := z
  subst ek
  cases (show w = Value.bool k from rz)
  exact ⟨H', I', qz⟩
/-- bool(x) by its own bool -/
def rBoolO (C : Addr) (sp : Sp) : List V → Hp → VK → Prop := fun xs H Q => ∃ a dx fs, xs = [.ref a] ∧ H a = some (.ins C dx fs) ∧ sp xs H (fun z H' => ∃ k, z = .bl k ∧ Q z H') E0
theorem call_boolO (m : Md X.prog X.w X.K X.mg X.base n C "__bool__" sp) (hr : Room (n + 2) X.A) : CallR X (.type "bool") (rBoolO C sp) := by
  intro pins s σ H xs us Q I r h
  obtain ⟨f, F, hs, hf, _⟩ := m.ex
  obtain ⟨a, dx, fs, rfl, ha, q⟩ := h
  obtain ⟨u, rfl, ru⟩ := r.one
  cases (show u = Value.ref a from ru)
  obtain ⟨mA, J, _⟩ := ins_get I.hok ha
  obtain ⟨od, J, _⟩ := J.look
  obtain ⟨m, hF⟩ := I.fr
  have hr2 : Room n X.A.in1.in1 := (show Room (n + 1) X.A.in1 from Room.in1 hr).in1
  refine bool_truth (PySem.W.truthy_K hF I.ok.mod.kin J hs hf ?_)
  refine wpAny_mono (wpAny_call (SlX.run_at (us := [.ref a]) (ws := [.ref a]) F hr2 I.env0.in1.in1 pass0 I (.cons rfl .nil) q)) (fun w s' z => ?_) fun _ _ x => x
  obtain ⟨z', H', I', rz, k, ek, qz⟩ := z
  subst ek
  cases (show w = Value.bool k from rz)
  exact ⟨.bl k, H', I', rfl, qz⟩
/-- bool(a tuple) -/
theorem call_boolT (K : PySem.W.Frag) (hK : X.K = K) : CallR X (.type "bool") (fun xs H Q => ∃ (a : Addr) (zs : List V), xs = [.ref a] ∧ SqT K H a zs ∧ Q (.bl (!zs.isEmpty)) H) := by
  subst hK
  intro pins s σ H xs us Q I r h
  obtain ⟨a, zs, rfl, hq, q⟩ := h
  obtain rfl := Vals.ref1 r
  obtain ⟨its, rv, pl, hz⟩ := I.tuple hq
  have hl := line63
  have hlen := rv.length
  exact bool_truth (truthy_tuple pl (by simp only [List.size_toArray]; omega) ⟨.bl (!zs.isEmpty), H, I.tok _, by rw [isEmpty_of rv]; rfl, q⟩)
end
end OR

namespace OR
open PySem PySem.Spec PyProof.Rows L2
/-! ### Places: made, compared, its truth -/
structure PMk' (P : Program) (w : World) (K : PySem.W.Frag) (mg : Str → Option Value) (base : Heap) (C : Addr) : Prop where
  T : PTxt K mg C
  made : ∃ f fd t0, Mk K C f ∧ FnOk P w K mg base CX0 4 f fd ["self", "stretches"] (spPlInit K C) ∧ Binds K fd ["self", "stretches"] [] ∧ Binds K fd ["self", "stretches"] [.ref t0] ∧ ∀ H : Hp, SqT K H t0 []
def tMkP (K : PySem.W.Frag) (C : Addr) (t : TA) : TE := fun σ H Q => t σ H fun vs H1 => ∃ (a : Addr) (L : List ARow), vs = [.ref a] ∧ (SqL K H1 a (refs L) ∨ SqT K H1 a (refs L)) ∧ L.length ≤ 1000 ∧ PairsAt H1 L ∧ (∀ r ∈ rws L, okRow r = true) ∧
  ∀ (x : Addr) (l : List Row) (H' : Hp), H1 x = none → IsP C H' x l → (∀ z, mem l z ↔ mem (rws L) z) → l.length ≤ L.length → Same H1 H' → Q (.ref x) H'
def tMkP0 (C : Addr) : TE := fun σ H Q => ∀ (x : Addr) (H' : Hp), H x = none → IsP C H' x [] → Same H H' → Q (.ref x) H'
theorem made_same {C x dx : Addr} {H H' : Hp} (nx : H x = none) (ndx : H dx = none) (hs : ∀ c o, (upd (upd H dx (.own x)) x (.ins C dx [])) c = some o → c ≠ x → H' c = some o) : Same H H' := fun c o e => by
  have ncx : c ≠ x := ne_of_none e nx
  refine hs c o ?_ ncx
  rw [upd_ne ncx, upd_ne (ne_of_none e ndx)]
  exact e
theorem pe_mkP {X : Cx} (K : PySem.W.Frag) (hK : X.K = K) {C : Addr} {j : Nat} {e : Expr} {es : List Expr} {t : TA} {p pos : Pos} (M : PMk' X.prog X.w X.K X.mg X.base C) (hr : Room j X.A) (hj : 5 ≤ j) (hg : Gl X "Places") (ha : PA X (e :: es) t)
    (he : starEach (e :: es) X.env = (false, eval e X.env) :: starEach es X.env := by rfl) (hpl : (backTo pos (starEach es X.env)).any (·.1) = false := by rfl) : PE X (.Call (.Name "Places" p) (e :: es) [] pos) (tMkP K C t) := by
  subst hK
  obtain ⟨f, fd, t0, mk, F, hb, _⟩ := M.made
  refine ⟨fun pins s σ H Q I h => ?_⟩
  refine wpAny_Call_Name_kw (ld_glob I hg M.T.mgC ?_ (by decide))
  refine PySem.W.callWith_K (h₀ := X.base) I.ok.mod.kin mk.kp (thn (ha.run pos pins s σ H _ I h) fun us s1 ⟨vs, H1, I1, r, q⟩ => ⟨I1.kIn, ?_⟩) he hpl
  obtain ⟨a, L, rfl, hS, hlen, hP, hok, q⟩ := q
  refine run_make mk F (hr.mono hj) hb .nil pass0 I1 r fun x dx nx ndx nex => ?_
  have S1 : Same H1 (upd (upd H1 dx (.own x)) x (.ins C dx [])) := fun c o e => by rw [upd_ne (ne_of_none e nx), upd_ne (ne_of_none e ndx)]; exact e
  exact ⟨x, dx, a, L, rfl, upd_same, hS.elim (fun e => .inl (S1.seq e)) (fun e => .inr (sameT S1 e)), hlen, hP.same S1, hok, fun l H' hs hp hme hle => ⟨rfl, q x l H' nx hp hme hle (made_same nx ndx hs)⟩⟩
theorem pe_mkP0 {X : Cx} {C : Addr} {j : Nat} {p pos : Pos} (M : PMk' X.prog X.w X.K X.mg X.base C) (hr : Room j X.A) (hj : 5 ≤ j) (hg : Gl X "Places") : PE X (.Call (.Name "Places" p) [] [] pos) (tMkP0 C) := by
  obtain ⟨f, fd, t0, mk, F, _, hb, ht⟩ := M.made
  refine ⟨fun pins s σ H Q I q => ?_⟩
  refine wpAny_Call_Name_kw (ld_glob I hg M.T.mgC ?_ (by decide))
  refine PySem.W.callWith_K0 I.kIn mk.kp (run_make (us := []) (vs := []) (dvs := [.ref t0]) mk F (hr.mono hj) hb (.cons rfl .nil) pass0 I .nil fun x dx nx ndx nex => ?_)
  refine ⟨x, dx, t0, [], rfl, upd_same, .inr (ht _), Nat.zero_le _, (fun _ z => nomatch z), (fun _ z => nomatch z), fun l H' hs hp hme _ => ⟨rfl, ?_⟩⟩
  have el : l = [] := Nf.unique hp.nf Nf.nil hme
  subst el
  exact q x H' nx hp (made_same nx ndx hs)
def spPlEq (K : PySem.W.Frag) (C : Addr) : Sp := fun vs H Q _ => ∃ x l y, vs = [.ref x, y] ∧ IsP C H x l ∧ ((∃ b m, y = .ref b ∧ IsP C H b m ∧ Q (.bl (decide (l = m))) H) ∨ (∃ T : String, TyX K H y (.type T) ∧ PySem.W.kitOne K (.type T) (.ref C) = some false ∧ Q (.bl false) H))
def spPlBool (C : Addr) : Sp := fun vs H Q _ => ∃ x l, vs = [.ref x] ∧ IsP C H x l ∧ Q (.bl (!l.isEmpty)) H
section
variable {P : Program} {w : World} {K : PySem.W.Frag} {mg : Str → Option Value} {base : Heap}
theorem tyP {C : Addr} (T : PTxt K mg C) {H : Hp} {x dx : Addr} {fs : List (Str × V)} (hx : H x = some (.ins C dx fs)) : TyX K H (.ref x) (.ref C) := .base (.ins hx T.cl T.isi.ca T.isi.cn T.isi.ct T.isi.cm)
theorem scEq : FnScope ["self", "other"] ["self", "other"] (defScope sPlEq) := ⟨rfl, rfl, rfl, by decide +kernel, rfl, by decide +kernel, by decide +kernel⟩
theorem ok_pleq {f C : Addr} {fd : FuncData} (F : Fun K "__eq__" "Places.__eq__" sPlEq f fd) (T : PTxt K mg C) : FnOk P w K mg base CX0 1 f fd ["self", "other"] (spPlEq K C) := by
  refine F.ok scEq (fun vs H Q E h => ?_) (fun cdv A outer s H vs Q E hr h => ?_)
  · obtain ⟨x, l, y, rfl, _⟩ := h
    rfl
  · obtain ⟨x, l, y, rfl, ⟨_, dx, t, fi, b, M, hx, ht, hM, rfl, _⟩, h⟩ := h
    have hu64 : (A.deeper (envOfC "Places.__eq__" (defScope sPlEq) s.heap.objs.size f cdv)).units + 64 < cLine := hr.units
    refine ⟨_, pss_one (ps_ret (pe_and (pe_callB call_isi (by rfl) T.zIsi bt_isi (pa_cons (pv 1) (pa_cons (pe_glob (v := .ref C) (by rfl) T.mgC rfl) pa_nil)))
      (pe_one (pe_cmpR (op_eqD hu64) (pe_fld (pv 0) rfl) (pe_fld (pv 1) rfl) (nomark _))))), ?_⟩
    rcases h with ⟨y, m, rfl, ⟨_, dy, t2, f2, b2, M2, hy, ht2, hM2, rfl, _⟩, q⟩ | ⟨ty, hT, hk, q⟩
    · refine ⟨_, rfl, .ref y, .ref C, _, _, true, rfl, .own C, tyP T hy, T.kPP, true, rfl, iteT ?_⟩
      refine ⟨_, rfl, x, C, dx, _, _, rfl, hx, T.cl, T.nS, pFl_s _ _ _, _, rfl, y, C, dy, _, _, rfl, hy, T.cl, T.nS, pFl_s _ _ _, .tuple ((rws M).map rowD), .tuple ((rws M2).map rowD), .tup (.inl (.inl ht)) (dp_rows hM), .tup (.inl (.inl ht2)) (dp_rows hM2), shp_tup _, shp_tup _, ?_⟩
      have e : PyData.eqv (.tuple ((rws M).map rowD)) (.tuple ((rws M2).map rowD)) = decide (rws M = rws M2) := eqv_rows _ _
      rw [e]
      exact q
    · exact ⟨_, rfl, y, .ref C, _, _, false, rfl, .own C, hT, hk, false, rfl, iteF q⟩
theorem scBo : FnScope ["self"] ["self"] (defScope sPlBool) := ⟨rfl, rfl, rfl, by decide +kernel, rfl, by decide +kernel, by decide +kernel⟩
theorem ok_plbool {f C : Addr} {fd : FuncData} (F : Fun K "__bool__" "Places.__bool__" sPlBool f fd) (T : PTxt K mg C) : FnOk P w K mg base CX0 1 f fd ["self"] (spPlBool C) := by
  refine F.ok scBo (fun vs H Q E h => ?_) (fun cdv A outer s H vs Q E hr h => ?_)
  · obtain ⟨x, l, rfl, _⟩ := h
    rfl
  · obtain ⟨x, l, rfl, ⟨_, dx, t, fi, b, M, hx, ht, hM, rfl, _⟩, q⟩ := h
    refine ⟨_, pss_one (ps_ret (pe_callTy (call_boolT K rfl) (by rfl) T.zBool bt_bool (pa_cons (pe_fld (pv 0) rfl) pa_nil))), ?_⟩
    refine ⟨_, rfl, x, C, dx, _, _, rfl, hx, T.cl, T.nS, pFl_s _ _ _, t, refs M, rfl, .inl (.inl ht), ?_⟩
    have e : (refs M).isEmpty = (rws M).isEmpty := by cases M <;> rfl
    rw [e]
    exact q
end
end OR

namespace OR
open PySem PySem.Spec PyProof.Rows L2
def mx (x y : Int) : Int := if y > x then y else x
def mn (x y : Int) : Int := if y < x then y else x
theorem mx_ok (x y : Int) : x ≤ mx x y ∧ y ≤ mx x y ∧ (mx x y = x ∨ mx x y = y) := by
  unfold mx
  split <;> omega
theorem mn_ok (x y : Int) : mn x y ≤ x ∧ mn x y ≤ y ∧ (mn x y = x ∨ mn x y = y) := by
  unfold mn
  split <;> omega
structure IsQ (C : Addr) (H : Hp) (x : Addr) (l : List Row) : Prop where
  is : IsP C H x l
  ok : ∀ r ∈ l, okRow r = true
theorem IsQ.same {C : Addr} {H H' : Hp} {x : Addr} {l : List Row} (h : IsQ C H x l) (s : Same H H') : IsQ C H' x l := ⟨h.is.same s, h.ok⟩
theorem okq {l n : List Row} {C : Addr} {H : Hp} {x : Addr} (h : IsP C H x n) (me : ∀ z, mem n z ↔ mem l z) (ok : ∀ r ∈ l, okRow r = true) : IsQ C H x n := ⟨h, ok_of_mem h.nf me ok⟩
def cutR (l : List Row) : List Row := (l.filter fun r => decide (0 ≤ r.2) && decide (r.1 ≤ lastP)).map fun r => (mx r.1 0, mn r.2 lastP)
theorem cutR_snoc (l : List Row) (r : Row) : cutR (l ++ [r]) = cutR l ++ (if 0 ≤ r.2 ∧ r.1 ≤ lastP then [(mx r.1 0, mn r.2 lastP)] else []) := by
  unfold cutR
  rw [List.filter_append, List.map_append]
  congr 1
  by_cases h : 0 ≤ r.2 ∧ r.1 ≤ lastP
  · rw [if_pos h, List.filter_cons_of_pos (by simp [h.1, h.2])]
    rfl
  · rw [if_neg h, List.filter_cons_of_neg (by simpa using h)]
    rfl
theorem cutR_ok {l : List Row} (h : ∀ r ∈ l, r.1 ≤ r.2) : ∀ q ∈ cutR l, okRow q = true := fun q hq => by
  obtain ⟨r, hr, rfl⟩ := List.mem_map.mp hq
  obtain ⟨hm, hc⟩ := List.mem_filter.mp hr
  rw [Bool.and_eq_true, decide_eq_true_eq, decide_eq_true_eq] at hc
  have h1 := mx_ok r.1 0
  have h2 := mn_ok r.2 lastP
  have h3 := h r hm
  have h4 : 0 ≤ lastP := by decide
  exact okRow_of (by omega) (by omega) (by omega)
theorem cutR_mem (l : List Row) (z : Int) : mem (cutR l) z ↔ (mem l z ∧ 0 ≤ z ∧ z ≤ lastP) := by
  constructor
  · rintro ⟨q, hq, h1, h2⟩
    obtain ⟨r, hr, rfl⟩ := List.mem_map.mp hq
    obtain ⟨hm, _⟩ := List.mem_filter.mp hr
    have k1 := mx_ok r.1 0
    have k2 := mn_ok r.2 lastP
    dsimp only at h1 h2
    exact ⟨⟨r, hm, by omega, by omega⟩, by omega, by omega⟩
  · rintro ⟨⟨r, hm, h1, h2⟩, h3, h4⟩
    have k1 := mx_ok r.1 0
    have k2 := mn_ok r.2 lastP
    refine ⟨(mx r.1 0, mn r.2 lastP), List.mem_map.mpr ⟨r, List.mem_filter.mpr ⟨hm, ?_⟩, rfl⟩, ?_, ?_⟩
    · rw [Bool.and_eq_true, decide_eq_true_eq, decide_eq_true_eq]
      omega
    · dsimp only
      omega
    · dsimp only
      omega
theorem cutR_len (l : List Row) : (cutR l).length ≤ l.length := by
  unfold cutR
  rw [List.length_map]
  exact List.length_filter_le _ _
def spCutTo (K : PySem.W.Frag) : Sp := fun vs H Q _ => ∃ (a : Addr) (L : List ARow), vs = [.ref a] ∧ SqL K H a (refs L) ∧ AtR H L ∧ L.length ≤ 1000 ∧
  ∀ (o : Addr) (N : List ARow) (H' : Hp), H o = none → H' o = some (.lst (refs N)) → AtR H' N → rws N = cutR (rws L) → Same H H' → Q (.ref o) H'
/-- a set of places turned by a number -/
def spMove (C : Addr) (f : Int → Int → Int) : Sp := fun vs H Q _ => ∃ x d l, vs = [.ref x, .int d] ∧ IsQ C H x l ∧ l.length ≤ 1000 ∧
  ∀ (z : Addr) (n : List Row) (H' : Hp), H z = none → IsQ C H' z n → (∀ t, mem n t ↔ (mem l (f t d) ∧ 0 ≤ t ∧ t ≤ lastP)) → n.length ≤ l.length → Same H H' → Q (.ref z) H'
def spInner (C : Addr) : Sp := fun vs H Q _ => ∃ x l, vs = [.ref x] ∧ IsQ C H x l ∧ l.length ≤ 1000 ∧
  ∀ (z : Addr) (n : List Row) (H' : Hp), H z = none → IsQ C H' z n → (∀ t, mem n t ↔ (mem l t ∧ mem l (t + 1))) → n.length ≤ l.length → Same H H' → Q (.ref z) H'
def spSize (C : Addr) : Sp := fun vs H Q _ => ∃ x l, vs = [.ref x] ∧ IsP C H x l ∧ Q (.int (tot l)) H
theorem call_tupO {X : Cx} (K : PySem.W.Frag) (h : X.K = K) : CallR X (.type "tuple") (rTupOf K) := call_tupOf K h
section
variable {P : Program} {w : World} {K : PySem.W.Frag} {mg : Str → Option Value} {base : Heap}
theorem scCT : FnScope ["pairs", "first", "last"] ["pairs"] (defScope pCutToPlaces) := ⟨rfl, rfl, rfl, by decide +kernel, rfl, by decide +kernel, by decide +kernel⟩
theorem ok_cutto {f C : Addr} {fd : FuncData} (F : Fun K "_cut_to_places" "_cut_to_places" pCutToPlaces f fd) (T : PTxt K mg C) (zMin : mg "min" = none) : FnOk P w K mg base CX0 1 f fd ["pairs"] (spCutTo K) := by
  refine F.ok scCT (fun vs H Q E h => ?_) (fun cdv A outer s H vs Q E hr h => ?_)
  · obtain ⟨a, L, rfl, _⟩ := h
    rfl
  · obtain ⟨a, L, rfl, hS, hL, hlen, q⟩ := h
    obtain ⟨tl, hl⟩ := T.last
    have nd := scCT.nd
    refine ⟨_, pss_one (ps_ret (pe_lc (own := [("first", 1), ("last", 2)]) (g := gTup K 2 (gCons (gName 1) (gCons (gName 2) gNil))) rfl nd (pi_list (pv 0)) (blkOk_by (N := ["pairs", "first", "last"]) (sc := defScope pCutToPlaces) (by decide +kernel))
        (fun _ _ _ _ _ => pg_tup rfl (pgs_cons (pg_name (i := 1) nd rfl (.inl rfl)) (pgs_cons (pg_name (i := 2) nd rfl (.inl rfl)) pgs_nil)))
        (fun _ _ _ _ _ => pts_one (PW.pt (pw_and (pt_cmpR op_ge (pv 2) pe_int (nomark _)) (pw_and1 (pt_cmpR op_le (pv 1) (pe_glob (v := .int lastP) (by rfl) hl ⟨tl, rfl⟩) (nomark _))))))
        (fun _ _ _ _ _ => pe_tup (pa_cons (pe_callB (call_max2 rfl) (by rfl) T.zMax bt_max (pa_cons (pv 1) (pa_cons pe_int pa_nil))) (pa_cons (pe_callB (call_min2 rfl) (by rfl) zMin bt_min (pa_cons (pv 2) (pa_cons (pe_glob (v := .int lastP) (by rfl) hl ⟨tl, rfl⟩) pa_nil))) pa_nil))))), ?_⟩
    refine ⟨_, rfl, a, rfl, ⟨_, hS⟩, fun D hD => lc_list (K := K) (a := a) (xs := refs L) (fun i H2 => ∃ N : List ARow, H2 D = some (.lst (refs N)) ∧ AtR H2 N ∧ rws N = cutR ((rws L).take i) ∧ Same H H2 ∧ N.length ≤ i)
        ⟨[], upd_same, (fun _ z => nomatch z), rfl, same_lay hD, Nat.le_refl _⟩ (fun i H2 _ ⟨_, _, _, _, s, _⟩ => s.seq hS) ?_ ?_⟩
    · rintro i y H2 hy ⟨N, hD2, hN, eN, s2, lN⟩
      obtain ⟨z, hz, hzL, rfl⟩ := refs_get hy
      have hil : i < L.length := (List.getElem?_eq_some_iff.mp hz).1
      have ez := s2 _ _ (hL z hzL)
      have e1 : (rws L).take (i + 1) = (rws L).take i ++ [z.2] := by rw [List.take_add_one, rws_get hz]; rfl
      have nND : ∀ q ∈ N, q.1 ≠ D := fun q hq => ne_of (hN q hq) hD2 (by intro w; cases w)
      have skip : ¬ (0 ≤ z.2.2 ∧ z.2.1 ≤ lastP) → ∃ N' : List ARow, H2 D = some (.lst (refs N')) ∧ AtR H2 N' ∧ rws N' = cutR ((rws L).take (i + 1)) ∧ Same H H2 ∧ N'.length ≤ i + 1 := fun c => ⟨N, hD2, hN, by rw [e1, cutR_snoc, if_neg c, List.append_nil]; exact eN, s2, Nat.le_succ_of_le lN⟩
      refine ⟨z.1, _, rfl, .inl (.inl ez), rfl, _, _, rfl, _, _, rfl, rfl, rfl, ?_⟩
      refine ⟨_, rfl, _, _, rfl, rfl, _, rfl, ite2 (fun c1 => ?_) (fun c1 => ?_)⟩
      · have k1 : 0 ≤ z.2.2 := of_decide_eq_true c1
        refine ⟨_, rfl, _, _, rfl, rfl, _, rfl, ?_⟩
        cases c2 : decide (z.2.1 ≤ lastP) with
        | false =>
          have k2 : ¬ z.2.1 ≤ lastP := of_decide_eq_false c2
          exact iteF (skip fun k => k2 k.2)
        | true =>
          have k2 : z.2.1 ≤ lastP := of_decide_eq_true c2
          refine iteT ?_
          refine ⟨_, rfl, _, _, rfl, _, rfl, _, _, rfl, (by show 2 ≤ sizeLine; decide), fun T' hT => ?_⟩
          have s4 := same_lay (o := .tup [.int (mx z.2.1 0), .int (mn z.2.2 lastP)]) hT
          have nTD : T' ≠ D := (ne_of_none hD2 hT).symm
          refine ⟨refs N, s4 _ _ hD2, small1000 (by rw [refs_len]; omega), N ++ [(T', (mx z.2.1 0, mn z.2.2 lastP))], ?_, fun q hq => ?_, ?_, same_upd (s2.trans s4) hD, by rw [List.length_append]; exact Nat.succ_le_succ lN⟩
          · rw [upd_same, refs_snoc]
          · rcases List.mem_append.mp hq with k | k
            · rw [upd_ne (nND q k)]
              exact s4 _ _ (hN q k)
            · rw [List.mem_singleton.mp k, upd_ne nTD]
              exact upd_same
          · rw [rws_snoc, eN, e1, cutR_snoc, if_pos ⟨k1, k2⟩]
      · have k1 : ¬ 0 ≤ z.2.2 := fun k => c1 (decide_eq_true k)
        exact iteF (skip fun k => k1 k.1)
    · rintro H2 ⟨N, hD2, hN, eN, s2, lN⟩
      rw [refs_len, List.take_of_length_le (by rw [rws_len]; exact Nat.le_refl _)] at eN
      exact q D N H2 hD hD2 hN eN s2
theorem scSf : FnScope ["self", "by", "first", "last"] ["self", "by"] (defScope sPlacesShifted) := ⟨rfl, rfl, rfl, by decide +kernel, rfl, by decide +kernel, by decide +kernel⟩
theorem map_snoc {f : Row → Row} {l : List Row} {i : Nat} {r : Row} (h : l[i]? = some r) : (l.take (i + 1)).map f = (l.take i).map f ++ [f r] := by
  rw [List.take_add_one, h, List.map_append]
  rfl
/-- what comes of the moved rows -/
theorem moved_of {C : Addr} {H H' : Hp} {x z : Addr} {l n : List Row} {f : Row → Row} {g : Int → Int} (hx : IsQ C H x l) (hz : IsP C H' z n) (hf : ∀ r t, r.1 ≤ r.2 → (((f r).1 ≤ t ∧ t ≤ (f r).2) ↔ (r.1 ≤ g t ∧ g t ≤ r.2)))
    (me : ∀ t, mem n t ↔ mem (cutR (l.map f)) t) (ok : ∀ q ∈ cutR (l.map f), okRow q = true) : IsQ C H' z n ∧ ∀ t, mem n t ↔ (mem l (g t) ∧ 0 ≤ t ∧ t ≤ lastP) := by
  refine ⟨okq hz me ok, fun t => ?_⟩
  rw [me t, cutR_mem]
  have e : mem (l.map f) t ↔ mem l (g t) := by
    constructor
    · rintro ⟨q, hq, h⟩
      obtain ⟨r, hr, rfl⟩ := List.mem_map.mp hq
      exact ⟨r, hr, (hf r t (okRow_le (hx.ok r hr))).mp h⟩
    · rintro ⟨r, hr, h⟩
      exact ⟨f r, List.mem_map.mpr ⟨r, hr, rfl⟩, (hf r t (okRow_le (hx.ok r hr))).mpr h⟩
  rw [e]
theorem ok_shift {f C : Addr} {fd : FuncData} (F : Fun K "shifted" "Places.shifted" sPlacesShifted f fd) (M : PMk' P w K mg base C) (CT : Cl P w K mg base 1 "_cut_to_places" ["pairs"] (spCutTo K)) : FnOk P w K mg base CX0 6 f fd ["self", "by"] (spMove C fun t d => t - d) := by
  have T := M.T
  refine F.ok scSf (fun vs H Q E h => ?_) (fun cdv A outer s H vs Q E hr h => ?_)
  · obtain ⟨x, d, l, rfl, _⟩ := h
    rfl
  · obtain ⟨x, d, l, rfl, hx, hlen, q⟩ := h
    obtain ⟨⟨nf1, dx, t1, f1, b1, L, hx1, ht1, hL, rfl, _⟩, okl⟩ := id hx
    rw [rws_len] at hlen
    have nd := scSf.nd
    refine ⟨_, pss_one (ps_ret (pe_mkP K rfl M hr (by decide) (by rfl) (pa_cons (pe_cl CT hr (by decide) (by rfl) (pa_cons
        (pe_lc (own := [("first", 2), ("last", 3)]) (g := gTup K 2 (gCons (gName 2) (gCons (gName 3) gNil))) (tt := tYes) rfl nd (pi_tup (pe_fld (pv 0) rfl)) (blkOk_by (N := ["self", "by", "first", "last"]) (sc := defScope sPlacesShifted) (by decide +kernel))
          (fun _ _ _ _ _ => pg_tup rfl (pgs_cons (pg_name (i := 2) nd rfl (.inl rfl)) (pgs_cons (pg_name (i := 3) nd rfl (.inl rfl)) pgs_nil))) (fun _ _ _ _ _ => pts_nil)
          (fun _ _ _ _ _ => pe_tup (pa_cons (pe_op op_add (pv 2) (pv 1)) (pa_cons (pe_op op_add (pv 3) (pv 1)) pa_nil)))) pa_nil)) pa_nil))), ?_⟩
    refine ⟨_, rfl, x, C, dx, _, _, rfl, hx1, T.cl, T.nS, pFl_s _ _ _, t1, rfl, ⟨_, .inl (.inl ht1)⟩, fun D hD => lc_tup (K := K) (a := t1) (xs := refs L) (fun i H2 => ∃ N : List ARow, H2 D = some (.lst (refs N)) ∧ AtR H2 N ∧ rws N = ((rws L).take i).map (fun r => (r.1 + d, r.2 + d)) ∧ Same H H2 ∧ N.length ≤ i)
        ⟨[], upd_same, (fun _ z => nomatch z), rfl, same_lay hD, Nat.le_refl _⟩ (fun i H2 _ ⟨_, _, _, _, s, _⟩ => sameT s (.inl (.inl ht1))) ?_ ?_⟩
    · rintro i y H2 hy ⟨N, hD2, hN, eN, s2, lN⟩
      obtain ⟨z, hz, hzL, rfl⟩ := refs_get hy
      have hil : i < L.length := (List.getElem?_eq_some_iff.mp hz).1
      have ez := s2 _ _ (hL z hzL)
      have nND : ∀ q ∈ N, q.1 ≠ D := fun q hq => ne_of (hN q hq) hD2 (by intro w; cases w)
      refine ⟨z.1, _, rfl, .inl (.inl ez), rfl, _, _, rfl, _, _, rfl, rfl, rfl, yesT ?_⟩
      refine ⟨_, rfl, _, rfl, _, _, rfl, rfl, _, rfl, _, rfl, _, _, rfl, rfl, (by show 2 ≤ sizeLine; decide), fun T' hT => ?_⟩
      have s4 := same_lay (o := .tup [.int (z.2.1 + d), .int (z.2.2 + d)]) hT
      have nTD : T' ≠ D := (ne_of_none hD2 hT).symm
      refine ⟨refs N, s4 _ _ hD2, small1000 (by rw [refs_len]; omega), N ++ [(T', (z.2.1 + d, z.2.2 + d))], ?_, fun q hq => ?_, ?_, same_upd (s2.trans s4) hD, by rw [List.length_append]; exact Nat.succ_le_succ lN⟩
      · rw [upd_same, refs_snoc]
      · rcases List.mem_append.mp hq with k | k
        · rw [upd_ne (nND q k)]
          exact s4 _ _ (hN q k)
        · rw [List.mem_singleton.mp k, upd_ne nTD]
          exact upd_same
      · rw [rws_snoc, eN, map_snoc (rws_get hz)]
    · rintro H2 ⟨N, hD2, hN, eN, s2, lN⟩
      rw [refs_len, List.take_of_length_le (by rw [rws_len]; exact Nat.le_refl _)] at eN
      rw [refs_len] at lN
      refine ⟨D, N, rfl, .inl (.inl hD2), hN, by omega, fun o G H3 no ho hG eG s3 => ?_⟩
      have ok : ∀ q ∈ cutR (rws N), okRow q = true := cutR_ok fun r hr => by
        rw [eN] at hr
        obtain ⟨r', hr', rfl⟩ := List.mem_map.mp hr
        have := okRow_le (okl r' hr')
        dsimp only
        omega
      have lG : G.length ≤ N.length := by
        have := cutR_len (rws N)
        rw [← eG, rws_len, rws_len] at this
        exact this
      refine ⟨o, G, rfl, .inl (.inl (.inl ho)), by omega, hG.pairs, by rw [eG]; exact ok, fun z n H' nz hz me le s4 => ?_⟩
      rw [eG, eN] at me
      rw [eN] at ok
      obtain ⟨hq, hm⟩ := moved_of (g := fun t => t - d) hx hz (fun r t _ => by dsimp only; omega) me ok
      exact q z n H' ((s2.trans s3).free nz) hq hm (by rw [rws_len]; omega) ((s2.trans s3).trans s4)
theorem scMi : FnScope ["self", "last", "start", "end"] ["self", "last"] (defScope sPlacesMirrored) := ⟨rfl, rfl, rfl, by decide +kernel, rfl, by decide +kernel, by decide +kernel⟩
theorem ok_mirror {f C : Addr} {fd : FuncData} (F : Fun K "mirrored" "Places.mirrored" sPlacesMirrored f fd) (M : PMk' P w K mg base C) (CT : Cl P w K mg base 1 "_cut_to_places" ["pairs"] (spCutTo K)) : FnOk P w K mg base CX0 6 f fd ["self", "last"] (spMove C fun t d => d - t) := by
  have T := M.T
  refine F.ok scMi (fun vs H Q E h => ?_) (fun cdv A outer s H vs Q E hr h => ?_)
  · obtain ⟨x, d, l, rfl, _⟩ := h
    rfl
  · obtain ⟨x, d, l, rfl, hx, hlen, q⟩ := h
    obtain ⟨⟨nf1, dx, t1, f1, b1, L, hx1, ht1, hL, rfl, _⟩, okl⟩ := id hx
    rw [rws_len] at hlen
    have nd := scMi.nd
    refine ⟨_, pss_one (ps_ret (pe_mkP K rfl M hr (by decide) (by rfl) (pa_cons (pe_cl CT hr (by decide) (by rfl) (pa_cons
        (pe_lc (own := [("start", 2), ("end", 3)]) (g := gTup K 2 (gCons (gName 2) (gCons (gName 3) gNil))) (tt := tYes) rfl nd (pi_tup (pe_fld (pv 0) rfl)) (blkOk_by (N := ["self", "last", "start", "end"]) (sc := defScope sPlacesMirrored) (by decide +kernel))
          (fun _ _ _ _ _ => pg_tup rfl (pgs_cons (pg_name (i := 2) nd rfl (.inl rfl)) (pgs_cons (pg_name (i := 3) nd rfl (.inl rfl)) pgs_nil))) (fun _ _ _ _ _ => pts_nil)
          (fun _ _ _ _ _ => pe_tup (pa_cons (pe_op op_sub (pv 1) (pv 3)) (pa_cons (pe_op op_sub (pv 1) (pv 2)) pa_nil)))) pa_nil)) pa_nil))), ?_⟩
    refine ⟨_, rfl, x, C, dx, _, _, rfl, hx1, T.cl, T.nS, pFl_s _ _ _, t1, rfl, ⟨_, .inl (.inl ht1)⟩, fun D hD => lc_tup (K := K) (a := t1) (xs := refs L) (fun i H2 => ∃ N : List ARow, H2 D = some (.lst (refs N)) ∧ AtR H2 N ∧ rws N = ((rws L).take i).map (fun r => (d - r.2, d - r.1)) ∧ Same H H2 ∧ N.length ≤ i)
        ⟨[], upd_same, (fun _ z => nomatch z), rfl, same_lay hD, Nat.le_refl _⟩ (fun i H2 _ ⟨_, _, _, _, s, _⟩ => sameT s (.inl (.inl ht1))) ?_ ?_⟩
    · rintro i y H2 hy ⟨N, hD2, hN, eN, s2, lN⟩
      obtain ⟨z, hz, hzL, rfl⟩ := refs_get hy
      have hil : i < L.length := (List.getElem?_eq_some_iff.mp hz).1
      have ez := s2 _ _ (hL z hzL)
      have nND : ∀ q ∈ N, q.1 ≠ D := fun q hq => ne_of (hN q hq) hD2 (by intro w; cases w)
      refine ⟨z.1, _, rfl, .inl (.inl ez), rfl, _, _, rfl, _, _, rfl, rfl, rfl, yesT ?_⟩
      refine ⟨_, rfl, _, rfl, _, _, rfl, rfl, _, rfl, _, rfl, _, _, rfl, rfl, (by show 2 ≤ sizeLine; decide), fun T' hT => ?_⟩
      have s4 := same_lay (o := .tup [.int (d - z.2.2), .int (d - z.2.1)]) hT
      have nTD : T' ≠ D := (ne_of_none hD2 hT).symm
      refine ⟨refs N, s4 _ _ hD2, small1000 (by rw [refs_len]; omega), N ++ [(T', (d - z.2.2, d - z.2.1))], ?_, fun q hq => ?_, ?_, same_upd (s2.trans s4) hD, by rw [List.length_append]; exact Nat.succ_le_succ lN⟩
      · rw [upd_same, refs_snoc]
      · rcases List.mem_append.mp hq with k | k
        · rw [upd_ne (nND q k)]
          exact s4 _ _ (hN q k)
        · rw [List.mem_singleton.mp k, upd_ne nTD]
          exact upd_same
      · rw [rws_snoc, eN, map_snoc (rws_get hz)]
    · rintro H2 ⟨N, hD2, hN, eN, s2, lN⟩
      rw [refs_len, List.take_of_length_le (by rw [rws_len]; exact Nat.le_refl _)] at eN
      rw [refs_len] at lN
      refine ⟨D, N, rfl, .inl (.inl hD2), hN, by omega, fun o G H3 no ho hG eG s3 => ?_⟩
      have ok : ∀ q ∈ cutR (rws N), okRow q = true := cutR_ok fun r hr => by
        rw [eN] at hr
        obtain ⟨r', hr', rfl⟩ := List.mem_map.mp hr
        have := okRow_le (okl r' hr')
        dsimp only
        omega
      have lG : G.length ≤ N.length := by
        have := cutR_len (rws N)
        rw [← eG, rws_len, rws_len] at this
        exact this
      refine ⟨o, G, rfl, .inl (.inl (.inl ho)), by omega, hG.pairs, by rw [eG]; exact ok, fun z n H' nz hz me le s4 => ?_⟩
      rw [eG, eN] at me
      rw [eN] at ok
      obtain ⟨hq, hm⟩ := moved_of (g := fun t => d - t) hx hz (fun r t _ => by dsimp only; omega) me ok
      exact q z n H' ((s2.trans s3).free nz) hq hm (by rw [rws_len]; omega) ((s2.trans s3).trans s4)
end
end OR

namespace OR
open PySem PySem.Spec PyProof.Rows L2
/-! ### xs[::-1] of a list of one item -/
section
variable {X : Cx} {e k : Expr} {te tk : TE} {pos p2 : Pos}
def tRev1 (K : PySem.W.Frag) (te tk : TE) : TE := fun σ H Q => te σ H fun x H1 => tk σ H1 fun y H2 => ∃ (a : Addr) (z : V), x = .ref a ∧ y = .int (-1) ∧ SqL K H2 a [z] ∧ ∀ q, H2 q = none → Q (.ref q) (upd H2 q (.lst [z]))
theorem pick1 (w : Value) : slicePick #[w] none none (some (-1)) = #[w] := by with_unfolding_all rfl
theorem pe_rev1 (he : PE X e te) (hk : PE X k tk) : PE X (.Subscript e (.Slice none none (some k) p2) pos) (tRev1 X.K te tk) := by
  refine ⟨fun pins s σ H Q I h => ?_⟩
  refine Subscript_ (thn (he.run pins s σ H _ I h) fun v s1 ⟨x, H1, I1, r1, q1⟩ => ?_)
  refine wpAny_Slice ?_
  rw [evalPart_none]
  refine wpAny_pure (wpAny_pure ?_)
  rw [evalPart_some]
  refine thn (hk.run pins s1 σ H1 _ I1 q1) fun u s2 ⟨y, H2, I2, r2, a, z, ex, ey, hL, q2⟩ => ?_
  subst ex
  subst ey
  obtain ⟨t, rfl⟩ := r2
  cases r1
  have I4 : Inv X pins σ H2 { s2 with heap := s2.heap.push { cls := .type "slice", data := .fields #[.none, .none, .int (-1) t] } } := I2.kept (t' := s2.toks) fun b ob q => Heap.get?_push_of_some _ q
  obtain ⟨its, r, ht, hz⟩ := I4.list hL
  obtain ⟨w, rfl, rw⟩ := r.one
  show wpAny (model X.prog X.w) X.A (subscriptTail e (.Slice none none (some k) p2) (.ref a) (.ref s2.heap.objs.size)) (EP X pins σ Q) X.xe { s2 with heap := s2.heap.push { cls := .type "slice", data := .fields #[.none, .none, .int (-1) t] } }
  refine tail_any (ops := [.ref a, .ref s2.heap.objs.size]) ht.isList.typeIs slot_list_getitem.lookup ?_ (by with_unfolding_all rfl)
  refine wpAny_getItem_list_slice (lo := none) (hi := none) (st := some (-1)) ht.isList (Heap.IsSliceOf.new ..) .none .none (.int _ _) (by decide) ?_ (by show 1 ≤ sizeLine; decide)
  rw [pick1]
  refine ⟨.ref _, _, I4.laid (t' := s2.toks) (o := .lst [z]) (fun b ob q => Heap.get?_push_of_some _ q) (Nat.le_refl _) ?_, rfl, q2 _ (I4.hok.fresh (Nat.le_refl _))⟩
  exact ⟨by show 1 ≤ sizeLine; decide, _, 0, r, Heap.get?_push_size _ rfl⟩
end
/-! ### a line as it stands -/
theorem kSH : ¬ (("slope" : Str) = "height") := by decide +kernel
def lFl (a b : Int) : List (Str × V) := putF "height" (.int b) (putF "slope" (.int a) [])
theorem lFl_slope (a b : Int) : (lFl a b).lookup ("slope" : Str) = some (.int a) := by
  unfold lFl
  rw [lookup_putF, if_neg kSH, lookup_putF, if_pos rfl]
theorem lFl_height (a b : Int) : (lFl a b).lookup ("height" : Str) = some (.int b) := by
  unfold lFl
  rw [lookup_putF, if_pos rfl]
theorem lFl_no (a b : Int) {m : Str} (h1 : ¬ m = "height") (h2 : ¬ m = "slope") : (lFl a b).lookup m = none := by
  unfold lFl
  rw [lookup_putF, if_neg h1, lookup_putF, if_neg h2]
  all_goals rfl
def IsL (C : Addr) (H : Hp) (x : Addr) (a b : Int) : Prop := ∃ dx, H x = some (.ins C dx (lFl a b))
theorem IsL.same {C : Addr} {H H' : Hp} {x : Addr} {a b : Int} (h : IsL C H x a b) (s : Same H H') : IsL C H' x a b := by
  obtain ⟨dx, e⟩ := h
  exact ⟨dx, s _ _ e⟩
theorem IsL.frm {C : Addr} {H H' : Hp} {x p : Addr} {a b : Int} {n : Nat} (h : IsL C H x a b) (s : Frm p H H') (P : Pen H p n) : IsL C H' x a b := by
  obtain ⟨dx, e⟩ := h
  obtain ⟨c, ns, k, l, hp, _⟩ := P
  exact ⟨dx, s _ _ e (ne_of e hp (by intro z; cases z))⟩
/-- what the text says of the class Line -/
structure LTxt (K : PySem.W.Frag) (mg : Str → Option Value) (C : Addr) : Prop where
  cl : Cls K C
  nS : NoAttr K C "slope"
  nH : NoAttr K C "height"
  mgC : mg "Line" = some (.ref C)
  sf : PySem.W.selfFirst K C = true
  isi : SlX.SIsi K C
  kLL : PySem.W.kitOne K (.ref C) (.ref C) = some true
  kIL : PySem.W.kitOne K (.type "int") (.ref C) = some false
  kTL : PySem.W.kitOne K (.type "tuple") (.ref C) = some false
  zIsi : mg "isinstance" = none
  zInt : mg "int" = none
  zBool : mg "bool" = none
def spLInit (C : Addr) : Sp := fun vs H Q _ => ∃ (p dx : Addr) (a b : Int), vs = [.ref p, .int a, .int b] ∧ H p = some (.ins C dx []) ∧ ∀ H', H' p = some (.ins C dx (lFl a b)) → (∀ c o, H c = some o → c ≠ p → H' c = some o) → Q .non H'
/-- == of a line and a line, or a line and a tuple -/
def spLEq (K : PySem.W.Frag) (C : Addr) : Sp := fun vs H Q _ => ∃ (x : Addr) (a b : Int) (y : V), vs = [.ref x, y] ∧ IsL C H x a b ∧ ((∃ (u : Addr) (c d : Int), y = .ref u ∧ IsL C H u c d ∧ Q (.bl (decide (a = c ∧ b = d))) H) ∨ (TyX K H y (.type "tuple") ∧ Q (.bl false) H))
section
variable {P : Program} {w : World} {K : PySem.W.Frag} {mg : Str → Option Value} {base : Heap}
theorem scLI : FnScope ["self", "slope", "height"] ["self", "slope", "height"] (defScope sLInit) := ⟨rfl, rfl, rfl, by decide +kernel, rfl, by decide +kernel, by decide +kernel⟩
theorem ok_linit {f C : Addr} {fd : FuncData} (F : Fun K "__init__" "Line.__init__" sLInit f fd) (T : LTxt K mg C) : FnOk P w K mg base CX0 1 f fd ["self", "slope", "height"] (spLInit C) := by
  refine F.ok scLI (fun vs H Q E h => ?_) (fun cdv A outer s H vs Q E hr h => ?_)
  · obtain ⟨p, dx, a, b, rfl, _⟩ := h
    rfl
  · obtain ⟨p, dx, a, b, rfl, hp, q⟩ := h
    refine ⟨_, pss_cons (ps_fld (pv 0) (pv 1) rfl) (pss_one (ps_fld (pv 0) (pv 2) rfl)), ?_⟩
    refine ⟨_, rfl, _, rfl, p, C, dx, [], rfl, hp, T.cl, T.nS, (by show 0 < 1000; decide), _, rfl, _, rfl, p, C, dx, _, rfl, upd_same, T.cl, T.nH, (by show 1 < 1000; decide), ?_⟩
    refine q _ upd_same fun c o e n => ?_
    rw [upd_ne n, upd_ne n]
    exact e
/-- Line(a, b) -/
def tMkL (C : Addr) (t : TA) : TE := fun σ H Q => t σ H fun vs H1 => ∃ a b, vs = [.int a, .int b] ∧ ∀ x H', H1 x = none → IsL C H' x a b → Same H1 H' → Q (.ref x) H'
end
/-- the class Line as it is made -/
structure LMk (P : Program) (w : World) (K : PySem.W.Frag) (mg : Str → Option Value) (base : Heap) (C : Addr) : Prop where
  T : LTxt K mg C
  made : ∃ f fd, Mk K C f ∧ FnOk P w K mg base CX0 1 f fd ["self", "slope", "height"] (spLInit C) ∧ Binds K fd ["self", "slope", "height"] []
theorem pe_mkL {X : Cx} {C : Addr} {j : Nat} {e : Expr} {es : List Expr} {t : TA} {p pos : Pos} (M : LMk X.prog X.w X.K X.mg X.base C) (hr : Room j X.A) (hj : 2 ≤ j) (hg : Gl X "Line") (ha : PA X (e :: es) t)
    (he : starEach (e :: es) X.env = (false, eval e X.env) :: starEach es X.env := by rfl) (hpl : (backTo pos (starEach es X.env)).any (·.1) = false := by rfl) : PE X (.Call (.Name "Line" p) (e :: es) [] pos) (tMkL C t) := by
  obtain ⟨f, fd, mk, F, hb⟩ := M.made
  refine ⟨fun pins s σ H Q I h => ?_⟩
  refine wpAny_Call_Name_kw (ld_glob I hg M.T.mgC ?_ (by decide))
  refine PySem.W.callWith_K (h₀ := X.base) I.ok.mod.kin mk.kp (thn (ha.run pos pins s σ H _ I h) fun us s1 ⟨vs, H1, I1, r, q⟩ => ⟨I1.kIn, ?_⟩) he hpl
  obtain ⟨a, b, rfl, q⟩ := q
  refine run_make mk F (hr.mono hj) hb .nil pass0 I1 r fun x dx nx ndx nex => ?_
  refine ⟨x, dx, a, b, rfl, upd_same, fun H' hx hs => ⟨rfl, q x H' nx ⟨dx, hx⟩ fun c o e => ?_⟩⟩
  have ncx : c ≠ x := ne_of_none e nx
  refine hs c o ?_ ncx
  rw [upd_ne ncx, upd_ne (ne_of_none e ndx)]
  exact e
section
variable {P : Program} {w : World} {K : PySem.W.Frag} {mg : Str → Option Value} {base : Heap}
theorem tyL {C : Addr} (T : LTxt K mg C) {H : Hp} {x dx : Addr} {fs : List (Str × V)} (hx : H x = some (.ins C dx fs)) : TyX K H (.ref x) (.ref C) := .base (.ins hx T.cl T.isi.ca T.isi.cn T.isi.ct T.isi.cm)
theorem scLEq : FnScope ["self", "other"] ["self", "other"] (defScope sLEq) := ⟨rfl, rfl, rfl, by decide +kernel, rfl, by decide +kernel, by decide +kernel⟩
theorem ok_leq {f C : Addr} {fd : FuncData} (F : Fun K "__eq__" "Line.__eq__" sLEq f fd) (T : LTxt K mg C) : FnOk P w K mg base CX0 1 f fd ["self", "other"] (spLEq K C) := by
  refine F.ok scLEq (fun vs H Q E h => ?_) (fun cdv A outer s H vs Q E hr h => ?_)
  · obtain ⟨x, a, b, y, rfl, _⟩ := h; rfl
  · obtain ⟨x, a, b, y, rfl, ⟨dx, hx⟩, h⟩ := h
    refine ⟨_, pss_one (ps_ret (pe_and (pe_callB call_isi (by rfl) T.zIsi bt_isi (pa_cons (pv 1) (pa_cons (pe_glob (v := .ref C) (by rfl) T.mgC rfl) pa_nil)))
      (pe_and (pe_cmpR op_eq (pe_fld (pv 0) rfl) (pe_fld (pv 1) rfl) (nomark _)) (pe_one (pe_cmpR op_eq (pe_fld (pv 0) rfl) (pe_fld (pv 1) rfl) (nomark _)))))), ?_⟩
    rcases h with ⟨u, c, d, rfl, ⟨du, hu⟩, q⟩ | ⟨ty, q⟩
    · refine ⟨_, rfl, .ref u, .ref C, _, _, true, rfl, .own C, tyL T hu, T.kLL, true, rfl, iteT ?_⟩
      refine ⟨_, rfl, x, C, dx, _, _, rfl, hx, T.cl, T.nS, lFl_slope a b, _, rfl, u, C, du, _, _, rfl, hu, T.cl, T.nS, lFl_slope c d, rfl, _, rfl, ite2 (fun e => ?_) (fun e => ?_)⟩
      · have e1 : a = c := by have := of_decide_eq_true e; cases this; rfl
        refine ⟨_, rfl, x, C, dx, _, _, rfl, hx, T.cl, T.nH, lFl_height a b, _, rfl, u, C, du, _, _, rfl, hu, T.cl, T.nH, lFl_height c d, rfl, ?_⟩
        have : decide (V.int b = V.int d) = decide (a = c ∧ b = d) := by
          by_cases h : b = d <;> simp [h, e1]
        rw [this]; exact q
      · have e1 : ¬ a = c := fun z => e (decide_eq_true (by rw [z]))
        have : decide (a = c ∧ b = d) = false := by
          simp [e1]
        rw [this] at q; exact q
    · exact ⟨_, rfl, y, .ref C, _, _, false, rfl, .own C, ty, T.kTL, false, rfl, iteF q⟩
end

end OR

namespace OR
open PySem PySem.Spec PyProof.Rows L2
open TL (tl numL)
theorem boot_strT : bootBuiltins ("str" : Str) = some (.type "str") := by decide +kernel
theorem sz1 {n : Nat} (h : n ≤ 20000) : n ≤ sizeLine := Nat.le_trans h (by decide)
/-! ### words, signs -/
def letters : Str := "abcdefghijklmnopqrstuvwxyz"
structure Word (s : Str) : Prop where
  pos : 1 ≤ s.length
  len : s.length ≤ 8
  az : ∀ c ∈ tl s, 97 ≤ c ∧ c ≤ 122
theorem az_in {c : Nat} (h0 : 97 ≤ c) (h1 : c ≤ 122) : c ∈ tl letters := by
  have e : tl letters = (List.range 26).map (· + 97) := by decide +kernel
  rw [e]
  exact List.mem_map.mpr ⟨c - 97, List.mem_range.mpr (by omega), by omega⟩
structure WTxt (K : PySem.W.Frag) (mg : Str → Option Value) (ts tw : Addr) : Prop where
  zIsi : mg "isinstance" = none
  zStr : mg "str" = none
  zLen : mg "len" = none
  zAll : mg "all" = none
  let_ : ∃ t, mg "_LETTERS" = some (.str letters t)
  most : ∃ t, mg "_MOST_LETTERS" = some (.int 8 t)
  gS : mg "SIGNS" = some (.ref ts)
  gW : mg "WAYS" = some (.ref tw)
  hS : ∀ H : Hp, SqT K H ts [.str ("<=" : Str), .str (">=" : Str), .str ("=" : Str)]
  hW : ∀ H : Hp, SqT K H tw [.str ("up" : Str), .str ("down" : Str)]
def spIsWord : Sp := fun vs H Q _ => ∃ s : Str, vs = [.str s] ∧ Word s ∧ ∀ H', Same H H' → Q (.bl true) H'
def spChkW : Sp := fun vs H Q _ => ∃ s : Str, vs = [.str s] ∧ Word s ∧ ∀ H', Same H H' → Q .non H'
def spChkTwo : Sp := fun vs H Q _ => ∃ s t : Str, vs = [.str s, .str t] ∧ Word s ∧ Word t ∧ s ≠ t ∧ ∀ H', Same H H' → Q .non H'
def isSign (s : Str) : Prop := s = "<=" ∨ s = ">=" ∨ s = "="
def isWay (s : Str) : Prop := s = "up" ∨ s = "down"
def spChkS (K : PySem.W.Frag) : Sp := fun vs H Q _ => ∃ (s : Str) (a : Addr) (xs : List Str), vs = [.str s, .ref a] ∧ SqT K H a (xs.map V.str) ∧ s ∈ xs ∧ Q .non H
theorem bt_all : bootBuiltins ("all" : Str) = some (.builtin "all") := by decide +kernel
theorem lc_str {x : Str} {g : TG} {tt : TT} {te : TE} {vs : List Nat} {σ : L2.St} {H1 : Hp} {D : Addr} {Qd : Hp → Prop} (Pv : Nat → Hp → Prop) (h0 : Pv 0 (upd H1 D (.lst [])))
    (hs : ∀ i c H, (tl x)[i]? = some c → Pv i H → g (.str ⟨#[c]⟩) (wipe σ vs) H fun σ2 H2 => wipe σ2 vs = wipe σ vs ∧ tt σ2 H2 fun b H3 =>
      if b = true then te σ2 H3 fun y H4 => ∃ acc, H4 D = some (.lst acc) ∧ acc.length < sizeLine ∧ Pv (i + 1) (upd H4 D (.lst (acc ++ [y]))) else Pv (i + 1) H3) (hd : ∀ H, Pv x.length H → Qd H) :
    ∃ W : Nat → Nat → Hp → Prop, (∃ m, W 0 m (upd H1 D (.lst []))) ∧ ∀ i m H, W i m H →
      ((Its x).stop i H ∧ Qd H) ∨ ((Its x).go i H ∧ ∃ Nx : Hp → Prop, (∀ H', Nx H' → ∃ m', m' < m ∧ W (i + 1) m' H') ∧ ∀ y H', (Its x).yld i H y H' → g y (wipe σ vs) H' fun σ2 H2 => wipe σ2 vs = wipe σ vs ∧ tt σ2 H2 fun b H3 =>
        if b = true then te σ2 H3 fun y H4 => ∃ acc, H4 D = some (.lst acc) ∧ acc.length < sizeLine ∧ Nx (upd H4 D (.lst (acc ++ [y]))) else Nx H3) := by
  have hl : x.length = x.cps.size := rfl
  refine ⟨fun i m H => m = x.length - i ∧ i ≤ x.length ∧ Pv i H, ⟨x.length, by simp, Nat.zero_le _, h0⟩, ?_⟩
  rintro i m H ⟨rfl, hi, p⟩
  by_cases hlt : i < x.length
  · refine .inr ⟨hlt, Pv (i + 1), fun H' p' => ⟨x.length - (i + 1), by omega, rfl, hlt, p'⟩, fun y H' hy => ?_⟩
    obtain ⟨e, c, hc, e2⟩ := hy
    subst e e2
    refine hs i c _ ?_ p
    show x.cps.toList[i]? = some c
    rw [Array.getElem?_toList]
    exact hc
  · have e : i = x.length := by omega
    subst e
    exact .inl ⟨Nat.le_refl _, hd H p⟩
section
variable {P : Program} {w : World} {K : PySem.W.Frag} {mg : Str → Option Value} {base : Heap} {ts tw : Addr}
theorem scIW : FnScope ["value", "letter"] ["value"] (defScope sIsWord) := ⟨rfl, rfl, rfl, by decide +kernel, rfl, by decide +kernel, by decide +kernel⟩
theorem ok_isword {f : Addr} {fd : FuncData} (F : Fun K "is_word" "is_word" sIsWord f fd) (T : WTxt K mg ts tw) : FnOk P w K mg base CX0 1 f fd ["value"] spIsWord := by
  obtain ⟨t1, hl⟩ := T.let_
  obtain ⟨t2, hm⟩ := T.most
  refine F.ok scIW (fun vs H Q E h => ?_) (fun cdv A outer s H vs Q E hr h => ?_)
  · obtain ⟨s, rfl, _⟩ := h
    rfl
  · obtain ⟨x, rfl, hw, q⟩ := h
    have nd := scIW.nd
    refine ⟨_, pss_cons (ps_if (PW.pt (pw_or (pt_not (pt_val (pe_callB call_isi (by rfl) T.zIsi bt_isi (pa_cons (pv 0) (pa_cons (pe_bltn (v := .ty "str") (by rfl) T.zStr boot_strT rfl) pa_nil)))))
          (pw_or1 (pt_not (pt_chain op_le op_le pe_int (pe_callB call_len_str (by rfl) T.zLen PySem.boot_len (pa_cons (pv 0) pa_nil)) (pe_glob (v := .int 8) (by rfl) hm ⟨_, rfl⟩)))))) (pss_one (ps_ret pe_bl)) pss_nil)
      (pss_one (ps_ret (pe_callB (cr_all rfl) (by rfl) T.zAll bt_all (pa_cons
        (pe_lc (own := [("letter", 1)]) (g := gName 1) (tt := tYes) rfl nd (pi_str (pv 0)) (blkOk_by (N := ["value", "letter"]) (sc := defScope sIsWord) (by decide +kernel))
          (fun _ _ _ _ _ => pg_name (i := 1) nd rfl (.inl rfl)) (fun _ _ _ _ _ => pts_nil) (fun _ _ _ _ _ => pe_cmpR op_in_sign (pv 1) (pe_glob (v := .str letters) (by rfl) hl ⟨_, rfl⟩) (by rfl))) pa_nil)))), ?_⟩
    have hp := hw.pos
    have hq := hw.len
    refine ⟨_, rfl, _, .ty "str", _, _, true, rfl, .ty "str", .base (.str _), kit_ty (by decide +kernel), _, rfl, iteF ?_⟩
    refine ⟨_, rfl, x, rfl, sz1 (by omega), _, _, rfl, rfl, _, rfl, ite2 (fun _ => ?_) (fun z => absurd (decide_eq_true (show (1 : Int) ≤ (x.length : Nat) by omega)) z)⟩
    refine ⟨_, _, rfl, rfl, _, rfl, ite2 (fun z => ?_) (fun _ => ?_)⟩
    · exfalso
      have h8 : decide (((x.length : Nat) : Int) ≤ 8) = true := decide_eq_true (by omega)
      rw [h8] at z
      exact absurd z (by decide)
    · refine ⟨_, rfl, x, rfl, fun D hD => lc_str (x := x) (fun i G => G D = some (.lst ((List.replicate i true).map V.bl)) ∧ Same H G) ⟨upd_same, same_lay hD⟩ ?_ ?_⟩
      · rintro i c G hc ⟨hd, s⟩
        have hz := hw.az c (List.mem_of_getElem? hc)
        have hi : i < x.length := by
          have := (List.getElem?_eq_some_iff.mp hc).1
          rw [TL.len_tl]
          exact this
        refine ⟨rfl, yesT ?_⟩
        refine ⟨_, rfl, c, letters, rfl, rfl, _, hd, small1000 (by rw [List.length_map, List.length_replicate]; omega), ?_, same_upd s hD⟩
        rw [upd_same, List.replicate_succ', List.map_append, show decide (c ∈ letters.cps.toList) = true from decide_eq_true (az_in hz.1 hz.2)]
        rfl
      · rintro G ⟨hd, s⟩
        refine ⟨D, _, rfl, .inl (.inl hd), ?_⟩
        have e : (List.replicate x.length true).all id = true := by
          rw [List.all_eq_true]
          intro b hb
          exact (List.mem_replicate.mp hb).2
        rw [e]
        exact q G s
theorem scKW : FnScope ["value"] ["value"] (defScope sChkW) := ⟨rfl, rfl, rfl, by decide +kernel, rfl, by decide +kernel, by decide +kernel⟩
theorem ok_chkw {f : Addr} {fd : FuncData} (F : Fun K "check_word" "check_word" sChkW f fd) (IW : Cl P w K mg base 1 "is_word" ["value"] spIsWord) : FnOk P w K mg base CX0 2 f fd ["value"] spChkW := by
  refine F.ok scKW (fun vs H Q E h => ?_) (fun cdv A outer s H vs Q E hr h => ?_)
  · obtain ⟨s, rfl, _⟩ := h
    rfl
  · obtain ⟨x, rfl, hw, q⟩ := h
    refine ⟨_, pss_one (ps_if (pt_not (pt_val (pe_cl IW hr (by decide) (by rfl) (pa_cons (pv 0) pa_nil)))) (pss_one ps_never) pss_nil), ?_⟩
    exact ⟨_, rfl, x, rfl, hw, fun H' s => ⟨_, rfl, iteF (q H' s)⟩⟩
theorem scKT : FnScope ["function", "other"] ["function", "other"] (defScope sChkTwo) := ⟨rfl, rfl, rfl, by decide +kernel, rfl, by decide +kernel, by decide +kernel⟩
theorem ok_chktwo {f : Addr} {fd : FuncData} (F : Fun K "check_two_words" "check_two_words" sChkTwo f fd) (CW : Cl P w K mg base 2 "check_word" ["value"] spChkW) : FnOk P w K mg base CX0 3 f fd ["function", "other"] spChkTwo := by
  refine F.ok scKT (fun vs H Q E h => ?_) (fun cdv A outer s H vs Q E hr h => ?_)
  · obtain ⟨s, t, rfl, _⟩ := h
    rfl
  · obtain ⟨x, y, rfl, hx, hy, ne, q⟩ := h
    refine ⟨_, pss_cons (ps_expr (pe_cl CW hr (by decide) (by rfl) (pa_cons (pv 0) pa_nil))) (pss_cons (ps_expr (pe_cl CW hr (by decide) (by rfl) (pa_cons (pv 1) pa_nil))) (pss_one (ps_if (pt_cmpR op_eq (pv 0) (pv 1) (nomark _)) (pss_one ps_never) pss_nil))), ?_⟩
    refine ⟨_, rfl, x, rfl, hx, fun H1 s1 => ⟨_, rfl, y, rfl, hy, fun H2 s2 => ⟨_, rfl, _, rfl, rfl, _, rfl, ite2 (fun z => absurd (V.str.inj (of_decide_eq_true z)) ne) (fun _ => q H2 (s1.trans s2))⟩⟩⟩
theorem scKS : FnScope ["value", "allowed"] ["value", "allowed"] (defScope sChkSign) := ⟨rfl, rfl, rfl, by decide +kernel, rfl, by decide +kernel, by decide +kernel⟩
theorem op_notIn_seqK {X : Cx} (K : PySem.W.Frag) (hK : X.K = K) : OpR X (compareOp .NotIn) (rIn K true) := by
  subst hK
  exact op_notIn_seq
theorem in_strs {s : Str} {xs : List Str} (h : s ∈ xs) : inV (.str s) (xs.map V.str) = true := by
  unfold inV
  rw [List.any_eq_true]
  exact ⟨.str s, List.mem_map.mpr ⟨s, h, rfl⟩, by simp [eqV]⟩
theorem notin_strs {s : Str} {xs : List Str} (h : s ∉ xs) : inV (.str s) (xs.map V.str) = false := by
  unfold inV
  rw [List.any_eq_false]
  intro v hv
  obtain ⟨t, ht, rfl⟩ := List.mem_map.mp hv
  have : t ≠ s := fun e => h (e ▸ ht)
  simp [eqV, this]
theorem flat_strs (xs : List Str) : (xs.map V.str).all flatV = true := by
  rw [List.all_eq_true]
  intro v hv
  obtain ⟨t, ht, rfl⟩ := List.mem_map.mp hv
  rfl
theorem ok_chks {f : Addr} {fd : FuncData} (F : Fun K "check_sign" "check_sign" sChkSign f fd) : FnOk P w K mg base CX0 1 f fd ["value", "allowed"] (spChkS K) := by
  refine F.ok scKS (fun vs H Q E h => ?_) (fun cdv A outer s H vs Q E hr h => ?_)
  · obtain ⟨s, a, xs, rfl, _⟩ := h
    rfl
  · obtain ⟨x, a, xs, rfl, hS, hx, q⟩ := h
    refine ⟨_, pss_one (ps_if (pt_cmpR (op_notIn_seqK K rfl) (pv 0) (pv 1) (by rfl)) (pss_one ps_never) pss_nil), ?_⟩
    refine ⟨_, rfl, _, rfl, a, _, rfl, .inr hS, rfl, flat_strs xs, _, rfl, ?_⟩
    rw [in_strs hx]
    exact iteF q
end
end OR

namespace OR
open PySem PySem.Spec PyProof.Rows L2
open TL (tl numL)
theorem nf_self {K : PySem.W.Frag} {C : Addr} : PySem.W.notFirst K C (.ref C) = true := by simp [PySem.W.notFirst]
theorem ne_q {K : PySem.W.Frag} {mg : Str → Option Value} {C : Addr} (T : PTxt K mg C) {H : Hp} {x y : Addr} {l m : List Row} {Q : VK} (hx : IsP C H x l) (hy : IsP C H y m) (k : Q (.bl (!decide (l = m))) H) : rNeO K C (spPlEq K C) (.ref x) (.ref y) H Q := by
  obtain ⟨_, dx, _, _, _, _, e1, _⟩ := id hx
  obtain ⟨_, dy, _, _, _, _, e2, _⟩ := id hy
  exact ⟨x, dx, _, rfl, e1, ⟨.ref C, tyP T e2, nf_self⟩, x, l, .ref y, rfl, hx, .inl ⟨y, m, rfl, hy, _, rfl, k⟩⟩
theorem eq_q {K : PySem.W.Frag} {mg : Str → Option Value} {C : Addr} (T : PTxt K mg C) {H : Hp} {x y : Addr} {l m : List Row} {Q : VK} (hx : IsP C H x l) (hy : IsP C H y m) (k : Q (.bl (decide (l = m))) H) : rEqO K C (spPlEq K C) (.ref x) (.ref y) H Q := by
  obtain ⟨_, dx, _, _, _, _, e1, _⟩ := id hx
  obtain ⟨_, dy, _, _, _, _, e2, _⟩ := id hy
  exact ⟨x, dx, _, rfl, e1, ⟨.ref C, tyP T e2, nf_self⟩, x, l, .ref y, rfl, hx, .inl ⟨y, m, rfl, hy, k⟩⟩
structure Mt (P : Program) (w : World) (K : PySem.W.Frag) (mg : Str → Option Value) (base : Heap) (k : Nat) (C : Addr) (m : Str) (ps : List Str) (sp : Sp) : Prop where
  ex : ∃ (f : Addr) (fd : FuncData), Meth K C m f ∧ FnOk P w K mg base CX0 k f fd ps sp ∧ Binds K fd ps []
theorem pe_mt {X : Cx} {k j : Nat} {C : Addr} {m : Str} {ps : List Str} {sp : Sp} {o e : Expr} {es : List Expr} {ta : TE} {t : TA} {apos pos : Pos} {pl : Sem Bool} (M : Mt X.prog X.w X.K X.mg X.base k C m ps sp) (c : Cls X.K C) (hr : Room j X.A) (hk : k ≤ j) (he : PE X o ta) (ha : PA X (e :: es) t)
    (hst : starEach (e :: es) X.env = (false, eval e X.env) :: starEach es X.env := by rfl) (hpl : (backTo pos (starEach es X.env)).any (·.1) = false := by rfl)
    (ht : eval (.Call (.Attribute o m apos) (e :: es) [] pos) X.env = (do
      let ov ← eval o X.env
      standAt apos.atName
      let (f, first) ← holding [ov] (getMethod ov m pl)
      callWith pos f first (backTo pos (starEach (e :: es) X.env)) (backToKw pos (keywordEach [] X.env))) := by rfl) : PE X (.Call (.Attribute o m apos) (e :: es) [] pos) (tMeth C m sp [] E0 ta t) := by
  obtain ⟨f, fd, hm, F, hb⟩ := M.ex
  exact pe_meth he c hm F (hr.mono hk) hb .nil pass0 ha hst hpl ht
theorem mt_of {P : Program} {w : World} {K : PySem.W.Frag} {mg : Str → Option Value} {base : Heap} {C : Addr} {m m' qual : Str} {st : Stmt} {k : Nat} {ps : List Str} {sp : Sp} (a : MtAt K C m m' qual st)
    (hb : ∀ (kV doc pm : Value) (an : Option Addr) (cdv ct : Value) (us : List Value), us.length = ps.length → bindArgs (PySem.W.fnOf m qual (defArgs st) (defBody st) (defScope st) .none kV doc pm an cdv ct) ⟨us, []⟩ = pure (ps.zip us))
    (ok : ∀ f fd, Fun K m qual st f fd → FnOk P w K mg base CX0 k f fd ps sp) : Mt P w K mg base k C m' ps sp := by
  obtain ⟨f, fd, F, e, i, n⟩ := a.ex
  exact ⟨f, fd, ⟨e, i, F.kp⟩, ok f fd F, F.binds hb⟩
theorem pe_mt0 {X : Cx} {k j : Nat} {C : Addr} {m : Str} {ps : List Str} {sp : Sp} {o : Expr} {ta : TE} {apos pos : Pos} {pl : Sem Bool} (M : Mt X.prog X.w X.K X.mg X.base k C m ps sp) (c : Cls X.K C) (hr : Room j X.A) (hk : k ≤ j) (he : PE X o ta)
    (ht : eval (.Call (.Attribute o m apos) [] [] pos) X.env = (do
      let ov ← eval o X.env
      standAt apos.atName
      let (f, first) ← holding [ov] (getMethod ov m pl)
      callWith pos f first (backTo pos (starEach [] X.env)) (backToKw pos (keywordEach [] X.env))) := by rfl) : PE X (.Call (.Attribute o m apos) [] [] pos) (tMeth C m sp [] E0 ta tNil) := by
  obtain ⟨f, fd, hm, F, hb⟩ := M.ex
  exact pe_meth0 he c hm F (hr.mono hk) hb .nil pass0 ht
theorem pe_fldK {X : Cx} {e : Expr} {f : Str} {pos : Pos} {ta : TE} (K : PySem.W.Frag) (hK : X.K = K) (he : PE X e ta) (hb : attributeBase e f X.env (eval e X.env) = eval e X.env) : PE X (.Attribute e f pos) (tFld K ta f) := by
  subst hK
  exact pe_fld he hb
/-! ### clauses as they stand -/
def kName : Nat → Str
  | 0 => "answers"
  | 1 => "refuses"
  | 2 => "needs"
  | 3 => "spreads"
  | 4 => "bound"
  | 5 => "pair"
  | _ => "step"
def clsName : Nat → Str
  | 0 => "Answers"
  | 1 => "Refuses"
  | 2 => "Needs"
  | 3 => "Spreads"
  | 4 => "Bound"
  | 5 => "Pair"
  | _ => "Step"
def xNames : Nat → List Str
  | 0 => []
  | 1 => []
  | 2 => ["other"]
  | 3 => ["way"]
  | 4 => ["sign", "slope", "height"]
  | 5 => ["sign", "other", "slope", "height"]
  | _ => ["sign", "height"]
def allNames (i : Nat) : List Str := "kind" :: "function" :: "places" :: xNames i
def cVals (i : Nat) (f : Str) (pl : Addr) (x : List V) : List V := .str (kName i) :: .str f :: .ref pl :: x
def putAll : List (Str × V) → List (Str × V) → List (Str × V)
  | [], acc => acc
  | (n, v) :: r, acc => putAll r (putF n v acc)
def cFl (i : Nat) (f : Str) (pl : Addr) (x : List V) : List (Str × V) := putAll ((allNames i).zip (cVals i f pl x)) []
theorem nodup_all : ∀ i, (allNames i).Nodup
  | 0 => by decide +kernel
  | 1 => by decide +kernel
  | 2 => by decide +kernel
  | 3 => by decide +kernel
  | 4 => by decide +kernel
  | 5 => by decide +kernel
  | _ + 6 => by
    show ("kind" :: "function" :: "places" :: ["sign", "height"] : List Str).Nodup
    decide +kernel
theorem lookup_none {m : Str} : ∀ {l : List (Str × V)}, (∀ p ∈ l, p.1 ≠ m) → l.lookup m = none
  | [], _ => rfl
  | (n, v) :: r, h => by
    have h1 : (m == n) = false := beq_eq_false_iff_ne.mpr fun e => h (n, v) List.mem_cons_self e.symm
    rw [List.lookup_cons, h1]
    exact lookup_none fun p hp => h p (List.mem_cons_of_mem _ hp)
theorem putAll_lookup {m : Str} : ∀ (l acc : List (Str × V)), (l.map (·.1)).Nodup → (putAll l acc).lookup m = ((l.lookup m).or (acc.lookup m))
  | [], acc, _ => by simp [putAll]
  | (n, v) :: r, acc, h => by
    rw [List.map_cons, List.nodup_cons] at h
    show (putAll r (putF n v acc)).lookup m = _
    rw [putAll_lookup r _ h.2, lookup_putF, List.lookup_cons]
    by_cases e : m = n
    · subst e
      rw [if_pos rfl, lookup_none (l := r) (fun p hp ep => h.1 (List.mem_map.mpr ⟨p, hp, ep⟩))]
      simp
    · rw [if_neg e, beq_eq_false_iff_ne.mpr e]
theorem zip_lookup {n : Str} {v : V} : ∀ {ns : List Str} {vs : List V} {j : Nat}, ns.Nodup → ns[j]? = some n → vs[j]? = some v → (ns.zip vs).lookup n = some v
  | [], _, _, _, h, _ => by simp at h
  | _ :: _, [], _, _, _, h => by simp at h
  | a :: ns, b :: vs, 0, _, h1, h2 => by
    have e1 : a = n := Option.some.inj h1
    have e2 : b = v := Option.some.inj h2
    subst e1 e2
    rw [List.zip_cons_cons, List.lookup_cons, beq_self_eq_true]
  | a :: ns, b :: vs, j + 1, hd, h1, h2 => by
    have hd' := List.nodup_cons.mp hd
    have hm : n ∈ ns := List.mem_of_getElem? (show ns[j]? = some n from h1)
    have ne : n ≠ a := fun e => hd'.1 (e ▸ hm)
    rw [List.zip_cons_cons, List.lookup_cons, beq_eq_false_iff_ne.mpr ne]
    exact zip_lookup hd'.2 (show ns[j]? = some n from h1) (show vs[j]? = some v from h2)
theorem zip_fst_sub {ns : List Str} {vs : List V} : ∀ {p : Str × V}, p ∈ ns.zip vs → p.1 ∈ ns := fun h => (List.of_mem_zip h).1
theorem zip_nodup : ∀ {ns : List Str} {vs : List V}, ns.Nodup → ((ns.zip vs).map (·.1)).Nodup
  | [], _, _ => by simp
  | _ :: _, [], _ => by simp
  | a :: ns, b :: vs, h => by
    have h' := List.nodup_cons.mp h
    rw [List.zip_cons_cons, List.map_cons, List.nodup_cons]
    refine ⟨fun hm => ?_, zip_nodup h'.2⟩
    obtain ⟨p, hp, e⟩ := List.mem_map.mp hm
    have e2 : p.1 = a := e
    exact h'.1 (by rw [← e2]; exact zip_fst_sub hp)
theorem cFl_at {i j : Nat} {f n : Str} {pl : Addr} {x : List V} {v : V} (hn : (allNames i)[j]? = some n) (hv : (cVals i f pl x)[j]? = some v) : (cFl i f pl x).lookup n = some v := by
  unfold cFl
  rw [putAll_lookup _ _ (zip_nodup (nodup_all i)), zip_lookup (nodup_all i) hn hv]
  rfl
theorem cFl_no {i : Nat} {f n : Str} {pl : Addr} {x : List V} (hn : n ∉ allNames i) : (cFl i f pl x).lookup n = none := by
  unfold cFl
  rw [putAll_lookup _ _ (zip_nodup (nodup_all i)), lookup_none (l := (allNames i).zip (cVals i f pl x)) (m := n) (fun p hp e => hn (by rw [← e]; exact zip_fst_sub hp))]
  rfl
def Num (a : Int) : Prop := a.natAbs < 10 ^ 40
def WF : Nat → Str → List V → Prop
  | 0, _, x => x = []
  | 1, _, x => x = []
  | 2, f, x => ∃ g, x = [.str g] ∧ Word g ∧ g ≠ f
  | 3, _, x => ∃ w, x = [.str w] ∧ isWay w
  | 4, _, x => ∃ s a b, x = [.str s, .int a, .int b] ∧ isSign s ∧ Num a ∧ Num b
  | 5, f, x => ∃ s g a b, x = [.str s, .str g, .int a, .int b] ∧ isSign s ∧ Word g ∧ g ≠ f ∧ Num a ∧ Num b
  | _, _, x => ∃ s b, x = [.str s, .int b] ∧ isSign s ∧ Num b
structure IsC (CP : Addr) (C : Nat → Addr) (H : Hp) (z : Addr) (i : Nat) (f : Str) (l : List Row) (x : List V) : Prop where
  ex : ∃ dx pl, H z = some (.ins (C i) dx (cFl i f pl x)) ∧ IsP CP H pl l
  lt : i < 7
  w : Word f
  wf : WF i f x
  ok : ∀ r ∈ l, okRow r = true
  len : l.length ≤ 20
theorem IsC.same {CP : Addr} {C : Nat → Addr} {H H' : Hp} {z : Addr} {i : Nat} {f : Str} {l : List Row} {x : List V} (h : IsC CP C H z i f l x) (s : Same H H') : IsC CP C H' z i f l x := by
  obtain ⟨⟨dx, pl, e, hp⟩, a, b, c, d, g⟩ := h
  exact ⟨⟨dx, pl, s _ _ e, hp.same s⟩, a, b, c, d, g⟩
def ceq (i : Nat) (f : Str) (l : List Row) (x : List V) (j : Nat) (g : Str) (m : List Row) (u : List V) : Bool := decide (i = j ∧ f = g ∧ l = m ∧ x = u)
structure CTxt (K : PySem.W.Frag) (mg : Str → Option Value) (C : Nat → Addr) : Prop where
  cl : ∀ i, i < 7 → Cls K (C i)
  no : ∀ i, i < 7 → ∀ n ∈ allNames i, NoAttr K (C i) n
  isi : ∀ i, i < 7 → SlX.SIsi K (C i)
  kk : ∀ i, i < 7 → ∀ j, j < 7 → PySem.W.kitOne K (.ref (C i)) (.ref (C j)) = some (decide (i = j))
  mgC : ∀ i, i < 7 → mg (clsName i) = some (.ref (C i))
  sf : ∀ i, i < 7 → PySem.W.selfFirst K (C i) = true
  ne : ∀ i, i < 7 → PySem.W.findIn K (.ref (C i)) "__ne__" = some (some (.builtin "object.__ne__"))
  kS : ∀ i, i < 7 → PySem.W.kitOne K (.type "str") (.ref (C i)) = some false
  kT : ∀ i, i < 7 → PySem.W.kitOne K (.type "tuple") (.ref (C i)) = some false
section
variable {P : Program} {w : World} {K : PySem.W.Frag} {mg : Str → Option Value} {base : Heap} {C : Nat → Addr} {CP : Addr}
theorem tyC (T : CTxt K mg C) {H : Hp} {z dx : Addr} {i : Nat} {fs : List (Str × V)} (hi : i < 7) (hz : H z = some (.ins (C i) dx fs)) : TyX K H (.ref z) (.ref (C i)) := .base (.ins hz (T.cl i hi) (T.isi i hi).ca (T.isi i hi).cn (T.isi i hi).ct (T.isi i hi).cm)
/-- a field is read -/
theorem fld (T : CTxt K mg C) {H : Hp} {z dx pl : Addr} {i j : Nat} {f n : Str} {x : List V} {v : V} {Q : V → Prop} (hz : H z = some (.ins (C i) dx (cFl i f pl x))) (hi : i < 7) (hn : (allNames i)[j]? = some n) (hv : (cVals i f pl x)[j]? = some v) (q : Q v) :
    ∃ a C' dx fs v', V.ref z = .ref a ∧ H a = some (.ins C' dx fs) ∧ Cls K C' ∧ NoAttr K C' n ∧ fs.lookup n = some v' ∧ Q v' :=
  ⟨z, C i, dx, _, v, rfl, hz, T.cl i hi, T.no i hi n (List.mem_of_getElem? hn), cFl_at hn hv, q⟩
def spCInit (C : Nat → Addr) (i : Nat) : Sp := fun vs H Q _ => ∃ (p dx : Addr) (f : Str) (pl : Addr) (x : List V), vs = .ref p :: .str f :: .ref pl :: x ∧ Word f ∧ WF i f x ∧ H p = some (.ins (C i) dx []) ∧
  ∀ H', H' p = some (.ins (C i) dx (cFl i f pl x)) → (∀ c o, H c = some o → c ≠ p → H' c = some o) → Q .non H'
def spCEq (K : PySem.W.Frag) (CP : Addr) (C : Nat → Addr) (i : Nat) : Sp := fun vs H Q _ => ∃ (a : Addr) (y : V) (f : Str) (l : List Row) (x : List V), vs = [.ref a, y] ∧ IsC CP C H a i f l x ∧
  ((∃ b j g m u, y = .ref b ∧ IsC CP C H b j g m u ∧ Q (.bl (ceq i f l x j g m u)) H) ∨ (∃ T : String, TyX K H y (.type T) ∧ PySem.W.kitOne K (.type T) (.ref (C i)) = some false ∧ Q (.bl false) H))
def told : Nat → Str → List V → List V
  | 2, f, [g] => [.str f, g]
  | 5, f, [_, g, _, _] => [.str f, g]
  | _, f, _ => [.str f]
def spCTold (CP : Addr) (C : Nat → Addr) (i : Nat) : Sp := fun vs H Q _ => ∃ (z : Addr) (f : Str) (l : List Row) (x : List V), vs = [.ref z] ∧ IsC CP C H z i f l x ∧ ∀ t, H t = none → Q (.ref t) (upd H t (.tup (told i f x)))
def spCLine (CP CL : Addr) (C : Nat → Addr) (i : Nat) : Sp := fun vs H Q _ => ∃ (z : Addr) (f : Str) (l : List Row) (x : List V) (a b : Int), vs = [.ref z] ∧ IsC CP C H z i f l x ∧ ((∃ s, x = [.str s, .int a, .int b]) ∨ (∃ s g, x = [.str s, .str g, .int a, .int b])) ∧ ∀ y H', H y = none → IsL CL H' y a b → Same H H' → Q (.ref y) H'
end
end OR

namespace OR
open PySem PySem.Spec PyProof.Rows L2
open TL (tl numL)
theorem sign_in {s : Str} (h : isSign s) : s ∈ (["<=", ">=", "="] : List Str) := by
  rcases h with e | e | e <;> subst e <;> simp
theorem way_in {s : Str} (h : isWay s) : s ∈ (["up", "down"] : List Str) := by
  rcases h with e | e <;> subst e <;> simp
section
variable {P : Program} {w : World} {K : PySem.W.Frag} {mg : Str → Option Value} {base : Heap} {C : Nat → Addr} {CP : Addr} {ts tw : Addr}
theorem scAnsI : FnScope ["self", "function", "places"] ["self", "function", "places"] (defScope sAnsInit) := ⟨rfl, rfl, rfl, by decide +kernel, rfl, by decide +kernel, by decide +kernel⟩
theorem ok_AnsI {f : Addr} {fd : FuncData} (F : Fun K "__init__" "Answers.__init__" sAnsInit f fd) (T : CTxt K mg C) (CW : Cl P w K mg base 2 "check_word" ["value"] spChkW) : FnOk P w K mg base CX0 4 f fd ["self", "function", "places"] (spCInit C 0) := by
  refine F.ok scAnsI (fun vs H Q E h => ?_) (fun cdv A outer s0 H vs Q E hr h => ?_)
  · obtain ⟨p, dx, f', pl, x, rfl, _, rfl, _⟩ := h
    rfl
  · obtain ⟨p, dx, f', pl, x, rfl, hw, rfl, hp, q⟩ := h
    have hi : 0 < 7 := by decide
    refine ⟨_, pss_cons (ps_expr (pe_cl CW hr (by decide) (by rfl) (pa_cons (pv 1) pa_nil)))
      (pss_cons (ps_fld (pv 0) pe_str rfl)
      (pss_cons (ps_fld (pv 0) (pv 1) rfl)
      (pss_one (ps_fld (pv 0) (pv 2) rfl)))), ?_⟩
    refine ⟨_, rfl, f', rfl, hw, fun H1 S1 => ⟨_, rfl, p, C 0, dx, [], rfl, S1 _ _ hp, T.cl 0 hi, T.no 0 hi _ (List.mem_of_getElem? (i := 0) rfl), (by show 0 < 1000; decide), _, rfl, _, rfl, p, C 0, dx, _, rfl, upd_same, T.cl 0 hi, T.no 0 hi _ (List.mem_of_getElem? (i := 1) rfl), (by show 1 < 1000; decide), _, rfl, _, rfl, p, C 0, dx, _, rfl, upd_same, T.cl 0 hi, T.no 0 hi _ (List.mem_of_getElem? (i := 2) rfl), (by show 2 < 1000; decide), ?_⟩⟩
    refine q _ upd_same fun c o e n => ?_
    simp only [upd_ne n]
    exact S1 _ _ e
theorem scRefI : FnScope ["self", "function", "places"] ["self", "function", "places"] (defScope sRefInit) := ⟨rfl, rfl, rfl, by decide +kernel, rfl, by decide +kernel, by decide +kernel⟩
theorem ok_RefI {f : Addr} {fd : FuncData} (F : Fun K "__init__" "Refuses.__init__" sRefInit f fd) (T : CTxt K mg C) (CW : Cl P w K mg base 2 "check_word" ["value"] spChkW) : FnOk P w K mg base CX0 4 f fd ["self", "function", "places"] (spCInit C 1) := by
  refine F.ok scRefI (fun vs H Q E h => ?_) (fun cdv A outer s0 H vs Q E hr h => ?_)
  · obtain ⟨p, dx, f', pl, x, rfl, _, rfl, _⟩ := h
    rfl
  · obtain ⟨p, dx, f', pl, x, rfl, hw, rfl, hp, q⟩ := h
    have hi : 1 < 7 := by decide
    refine ⟨_, pss_cons (ps_expr (pe_cl CW hr (by decide) (by rfl) (pa_cons (pv 1) pa_nil)))
      (pss_cons (ps_fld (pv 0) pe_str rfl)
      (pss_cons (ps_fld (pv 0) (pv 1) rfl)
      (pss_one (ps_fld (pv 0) (pv 2) rfl)))), ?_⟩
    refine ⟨_, rfl, f', rfl, hw, fun H1 S1 => ⟨_, rfl, p, C 1, dx, [], rfl, S1 _ _ hp, T.cl 1 hi, T.no 1 hi _ (List.mem_of_getElem? (i := 0) rfl), (by show 0 < 1000; decide), _, rfl, _, rfl, p, C 1, dx, _, rfl, upd_same, T.cl 1 hi, T.no 1 hi _ (List.mem_of_getElem? (i := 1) rfl), (by show 1 < 1000; decide), _, rfl, _, rfl, p, C 1, dx, _, rfl, upd_same, T.cl 1 hi, T.no 1 hi _ (List.mem_of_getElem? (i := 2) rfl), (by show 2 < 1000; decide), ?_⟩⟩
    refine q _ upd_same fun c o e n => ?_
    simp only [upd_ne n]
    exact S1 _ _ e
theorem scNeeI : FnScope ["self", "function", "places", "other"] ["self", "function", "places", "other"] (defScope sNeeInit) := ⟨rfl, rfl, rfl, by decide +kernel, rfl, by decide +kernel, by decide +kernel⟩
theorem ok_NeeI {f : Addr} {fd : FuncData} (F : Fun K "__init__" "Needs.__init__" sNeeInit f fd) (T : CTxt K mg C) (CT : Cl P w K mg base 3 "check_two_words" ["function", "other"] spChkTwo) : FnOk P w K mg base CX0 4 f fd ["self", "function", "places", "other"] (spCInit C 2) := by
  refine F.ok scNeeI (fun vs H Q E h => ?_) (fun cdv A outer s0 H vs Q E hr h => ?_)
  · obtain ⟨p, dx, f', pl, x, rfl, _, ⟨g, rfl, hg, ng⟩, _⟩ := h
    rfl
  · obtain ⟨p, dx, f', pl, x, rfl, hw, ⟨g, rfl, hg, ng⟩, hp, q⟩ := h
    have hi : 2 < 7 := by decide
    refine ⟨_, pss_cons (ps_expr (pe_cl CT hr (by decide) (by rfl) (pa_cons (pv 1) (pa_cons (pv 3) pa_nil))))
      (pss_cons (ps_fld (pv 0) pe_str rfl)
      (pss_cons (ps_fld (pv 0) (pv 1) rfl)
      (pss_cons (ps_fld (pv 0) (pv 2) rfl)
      (pss_one (ps_fld (pv 0) (pv 3) rfl))))), ?_⟩
    refine ⟨_, rfl, _, rfl, f', g, rfl, hw, hg, ng.symm, fun H1 S1 => ⟨_, rfl, p, C 2, dx, [], rfl, S1 _ _ hp, T.cl 2 hi, T.no 2 hi _ (List.mem_of_getElem? (i := 0) rfl), (by show 0 < 1000; decide), _, rfl, _, rfl, p, C 2, dx, _, rfl, upd_same, T.cl 2 hi, T.no 2 hi _ (List.mem_of_getElem? (i := 1) rfl), (by show 1 < 1000; decide), _, rfl, _, rfl, p, C 2, dx, _, rfl, upd_same, T.cl 2 hi, T.no 2 hi _ (List.mem_of_getElem? (i := 2) rfl), (by show 2 < 1000; decide), _, rfl, _, rfl, p, C 2, dx, _, rfl, upd_same, T.cl 2 hi, T.no 2 hi _ (List.mem_of_getElem? (i := 3) rfl), (by show 3 < 1000; decide), ?_⟩⟩
    refine q _ upd_same fun c o e n => ?_
    simp only [upd_ne n]
    exact S1 _ _ e
theorem scSprI : FnScope ["self", "function", "places", "way"] ["self", "function", "places", "way"] (defScope sSprInit) := ⟨rfl, rfl, rfl, by decide +kernel, rfl, by decide +kernel, by decide +kernel⟩
theorem ok_SprI {f : Addr} {fd : FuncData} (F : Fun K "__init__" "Spreads.__init__" sSprInit f fd) (T : CTxt K mg C) (CW : Cl P w K mg base 2 "check_word" ["value"] spChkW) (CS : Cl P w K mg base 1 "check_sign" ["value", "allowed"] (spChkS K)) (WT : WTxt K mg ts tw) : FnOk P w K mg base CX0 4 f fd ["self", "function", "places", "way"] (spCInit C 3) := by
  refine F.ok scSprI (fun vs H Q E h => ?_) (fun cdv A outer s0 H vs Q E hr h => ?_)
  · obtain ⟨p, dx, f', pl, x, rfl, _, ⟨w, rfl, hs⟩, _⟩ := h
    rfl
  · obtain ⟨p, dx, f', pl, x, rfl, hw, ⟨w, rfl, hs⟩, hp, q⟩ := h
    have hi : 3 < 7 := by decide
    refine ⟨_, pss_cons (ps_expr (pe_cl CW hr (by decide) (by rfl) (pa_cons (pv 1) pa_nil)))
      (pss_cons (ps_expr (pe_cl CS hr (by decide) (by rfl) (pa_cons (pv 3) (pa_cons (pe_glob (v := .ref tw) (by rfl) WT.gW rfl) pa_nil))))
      (pss_cons (ps_fld (pv 0) pe_str rfl)
      (pss_cons (ps_fld (pv 0) (pv 1) rfl)
      (pss_cons (ps_fld (pv 0) (pv 2) rfl)
      (pss_one (ps_fld (pv 0) (pv 3) rfl)))))), ?_⟩
    refine ⟨_, rfl, f', rfl, hw, fun H1 S1 => ⟨_, rfl, w, tw, ["up", "down"], rfl, WT.hW _, way_in hs, _, rfl, p, C 3, dx, [], rfl, S1 _ _ hp, T.cl 3 hi, T.no 3 hi _ (List.mem_of_getElem? (i := 0) rfl), (by show 0 < 1000; decide), _, rfl, _, rfl, p, C 3, dx, _, rfl, upd_same, T.cl 3 hi, T.no 3 hi _ (List.mem_of_getElem? (i := 1) rfl), (by show 1 < 1000; decide), _, rfl, _, rfl, p, C 3, dx, _, rfl, upd_same, T.cl 3 hi, T.no 3 hi _ (List.mem_of_getElem? (i := 2) rfl), (by show 2 < 1000; decide), _, rfl, _, rfl, p, C 3, dx, _, rfl, upd_same, T.cl 3 hi, T.no 3 hi _ (List.mem_of_getElem? (i := 3) rfl), (by show 3 < 1000; decide), ?_⟩⟩
    refine q _ upd_same fun c o e n => ?_
    simp only [upd_ne n]
    exact S1 _ _ e
theorem scBouI : FnScope ["self", "function", "places", "sign", "slope", "height"] ["self", "function", "places", "sign", "slope", "height"] (defScope sBouInit) := ⟨rfl, rfl, rfl, by decide +kernel, rfl, by decide +kernel, by decide +kernel⟩
theorem ok_BouI {f : Addr} {fd : FuncData} (F : Fun K "__init__" "Bound.__init__" sBouInit f fd) (T : CTxt K mg C) (CW : Cl P w K mg base 2 "check_word" ["value"] spChkW) (CS : Cl P w K mg base 1 "check_sign" ["value", "allowed"] (spChkS K)) (WT : WTxt K mg ts tw) : FnOk P w K mg base CX0 4 f fd ["self", "function", "places", "sign", "slope", "height"] (spCInit C 4) := by
  refine F.ok scBouI (fun vs H Q E h => ?_) (fun cdv A outer s0 H vs Q E hr h => ?_)
  · obtain ⟨p, dx, f', pl, x, rfl, _, ⟨s, a, b, rfl, hs, na, nb⟩, _⟩ := h
    rfl
  · obtain ⟨p, dx, f', pl, x, rfl, hw, ⟨s, a, b, rfl, hs, na, nb⟩, hp, q⟩ := h
    have hi : 4 < 7 := by decide
    refine ⟨_, pss_cons (ps_expr (pe_cl CW hr (by decide) (by rfl) (pa_cons (pv 1) pa_nil)))
      (pss_cons (ps_expr (pe_cl CS hr (by decide) (by rfl) (pa_cons (pv 3) (pa_cons (pe_glob (v := .ref ts) (by rfl) WT.gS rfl) pa_nil))))
      (pss_cons (ps_fld (pv 0) pe_str rfl)
      (pss_cons (ps_fld (pv 0) (pv 1) rfl)
      (pss_cons (ps_fld (pv 0) (pv 2) rfl)
      (pss_cons (ps_fld (pv 0) (pv 3) rfl)
      (pss_cons (ps_fld (pv 0) (pv 4) rfl)
      (pss_one (ps_fld (pv 0) (pv 5) rfl)))))))), ?_⟩
    refine ⟨_, rfl, f', rfl, hw, fun H1 S1 => ⟨_, rfl, s, ts, ["<=", ">=", "="], rfl, WT.hS _, sign_in hs, _, rfl, p, C 4, dx, [], rfl, S1 _ _ hp, T.cl 4 hi, T.no 4 hi _ (List.mem_of_getElem? (i := 0) rfl), (by show 0 < 1000; decide), _, rfl, _, rfl, p, C 4, dx, _, rfl, upd_same, T.cl 4 hi, T.no 4 hi _ (List.mem_of_getElem? (i := 1) rfl), (by show 1 < 1000; decide), _, rfl, _, rfl, p, C 4, dx, _, rfl, upd_same, T.cl 4 hi, T.no 4 hi _ (List.mem_of_getElem? (i := 2) rfl), (by show 2 < 1000; decide), _, rfl, _, rfl, p, C 4, dx, _, rfl, upd_same, T.cl 4 hi, T.no 4 hi _ (List.mem_of_getElem? (i := 3) rfl), (by show 3 < 1000; decide), _, rfl, _, rfl, p, C 4, dx, _, rfl, upd_same, T.cl 4 hi, T.no 4 hi _ (List.mem_of_getElem? (i := 4) rfl), (by show 4 < 1000; decide), _, rfl, _, rfl, p, C 4, dx, _, rfl, upd_same, T.cl 4 hi, T.no 4 hi _ (List.mem_of_getElem? (i := 5) rfl), (by show 5 < 1000; decide), ?_⟩⟩
    refine q _ upd_same fun c o e n => ?_
    simp only [upd_ne n]
    exact S1 _ _ e
theorem scPaiI : FnScope ["self", "function", "places", "sign", "other", "slope", "height"] ["self", "function", "places", "sign", "other", "slope", "height"] (defScope sPaiInit) := ⟨rfl, rfl, rfl, by decide +kernel, rfl, by decide +kernel, by decide +kernel⟩
theorem ok_PaiI {f : Addr} {fd : FuncData} (F : Fun K "__init__" "Pair.__init__" sPaiInit f fd) (T : CTxt K mg C) (CT : Cl P w K mg base 3 "check_two_words" ["function", "other"] spChkTwo) (CS : Cl P w K mg base 1 "check_sign" ["value", "allowed"] (spChkS K)) (WT : WTxt K mg ts tw) : FnOk P w K mg base CX0 4 f fd ["self", "function", "places", "sign", "other", "slope", "height"] (spCInit C 5) := by
  refine F.ok scPaiI (fun vs H Q E h => ?_) (fun cdv A outer s0 H vs Q E hr h => ?_)
  · obtain ⟨p, dx, f', pl, x, rfl, _, ⟨s, g, a, b, rfl, hs, hg, ng, na, nb⟩, _⟩ := h
    rfl
  · obtain ⟨p, dx, f', pl, x, rfl, hw, ⟨s, g, a, b, rfl, hs, hg, ng, na, nb⟩, hp, q⟩ := h
    have hi : 5 < 7 := by decide
    refine ⟨_, pss_cons (ps_expr (pe_cl CT hr (by decide) (by rfl) (pa_cons (pv 1) (pa_cons (pv 4) pa_nil))))
      (pss_cons (ps_expr (pe_cl CS hr (by decide) (by rfl) (pa_cons (pv 3) (pa_cons (pe_glob (v := .ref ts) (by rfl) WT.gS rfl) pa_nil))))
      (pss_cons (ps_fld (pv 0) pe_str rfl)
      (pss_cons (ps_fld (pv 0) (pv 1) rfl)
      (pss_cons (ps_fld (pv 0) (pv 2) rfl)
      (pss_cons (ps_fld (pv 0) (pv 3) rfl)
      (pss_cons (ps_fld (pv 0) (pv 4) rfl)
      (pss_cons (ps_fld (pv 0) (pv 5) rfl)
      (pss_one (ps_fld (pv 0) (pv 6) rfl))))))))), ?_⟩
    refine ⟨_, rfl, _, rfl, f', g, rfl, hw, hg, ng.symm, fun H1 S1 => ⟨_, rfl, s, ts, ["<=", ">=", "="], rfl, WT.hS _, sign_in hs, _, rfl, p, C 5, dx, [], rfl, S1 _ _ hp, T.cl 5 hi, T.no 5 hi _ (List.mem_of_getElem? (i := 0) rfl), (by show 0 < 1000; decide), _, rfl, _, rfl, p, C 5, dx, _, rfl, upd_same, T.cl 5 hi, T.no 5 hi _ (List.mem_of_getElem? (i := 1) rfl), (by show 1 < 1000; decide), _, rfl, _, rfl, p, C 5, dx, _, rfl, upd_same, T.cl 5 hi, T.no 5 hi _ (List.mem_of_getElem? (i := 2) rfl), (by show 2 < 1000; decide), _, rfl, _, rfl, p, C 5, dx, _, rfl, upd_same, T.cl 5 hi, T.no 5 hi _ (List.mem_of_getElem? (i := 3) rfl), (by show 3 < 1000; decide), _, rfl, _, rfl, p, C 5, dx, _, rfl, upd_same, T.cl 5 hi, T.no 5 hi _ (List.mem_of_getElem? (i := 4) rfl), (by show 4 < 1000; decide), _, rfl, _, rfl, p, C 5, dx, _, rfl, upd_same, T.cl 5 hi, T.no 5 hi _ (List.mem_of_getElem? (i := 5) rfl), (by show 5 < 1000; decide), _, rfl, _, rfl, p, C 5, dx, _, rfl, upd_same, T.cl 5 hi, T.no 5 hi _ (List.mem_of_getElem? (i := 6) rfl), (by show 6 < 1000; decide), ?_⟩⟩
    refine q _ upd_same fun c o e n => ?_
    simp only [upd_ne n]
    exact S1 _ _ e
theorem scSteI : FnScope ["self", "function", "places", "sign", "height"] ["self", "function", "places", "sign", "height"] (defScope sSteInit) := ⟨rfl, rfl, rfl, by decide +kernel, rfl, by decide +kernel, by decide +kernel⟩
theorem ok_SteI {f : Addr} {fd : FuncData} (F : Fun K "__init__" "Step.__init__" sSteInit f fd) (T : CTxt K mg C) (CW : Cl P w K mg base 2 "check_word" ["value"] spChkW) (CS : Cl P w K mg base 1 "check_sign" ["value", "allowed"] (spChkS K)) (WT : WTxt K mg ts tw) : FnOk P w K mg base CX0 4 f fd ["self", "function", "places", "sign", "height"] (spCInit C 6) := by
  refine F.ok scSteI (fun vs H Q E h => ?_) (fun cdv A outer s0 H vs Q E hr h => ?_)
  · obtain ⟨p, dx, f', pl, x, rfl, _, ⟨s, b, rfl, hs, nb⟩, _⟩ := h
    rfl
  · obtain ⟨p, dx, f', pl, x, rfl, hw, ⟨s, b, rfl, hs, nb⟩, hp, q⟩ := h
    have hi : 6 < 7 := by decide
    refine ⟨_, pss_cons (ps_expr (pe_cl CW hr (by decide) (by rfl) (pa_cons (pv 1) pa_nil)))
      (pss_cons (ps_expr (pe_cl CS hr (by decide) (by rfl) (pa_cons (pv 3) (pa_cons (pe_glob (v := .ref ts) (by rfl) WT.gS rfl) pa_nil))))
      (pss_cons (ps_fld (pv 0) pe_str rfl)
      (pss_cons (ps_fld (pv 0) (pv 1) rfl)
      (pss_cons (ps_fld (pv 0) (pv 2) rfl)
      (pss_cons (ps_fld (pv 0) (pv 3) rfl)
      (pss_one (ps_fld (pv 0) (pv 4) rfl))))))), ?_⟩
    refine ⟨_, rfl, f', rfl, hw, fun H1 S1 => ⟨_, rfl, s, ts, ["<=", ">=", "="], rfl, WT.hS _, sign_in hs, _, rfl, p, C 6, dx, [], rfl, S1 _ _ hp, T.cl 6 hi, T.no 6 hi _ (List.mem_of_getElem? (i := 0) rfl), (by show 0 < 1000; decide), _, rfl, _, rfl, p, C 6, dx, _, rfl, upd_same, T.cl 6 hi, T.no 6 hi _ (List.mem_of_getElem? (i := 1) rfl), (by show 1 < 1000; decide), _, rfl, _, rfl, p, C 6, dx, _, rfl, upd_same, T.cl 6 hi, T.no 6 hi _ (List.mem_of_getElem? (i := 2) rfl), (by show 2 < 1000; decide), _, rfl, _, rfl, p, C 6, dx, _, rfl, upd_same, T.cl 6 hi, T.no 6 hi _ (List.mem_of_getElem? (i := 3) rfl), (by show 3 < 1000; decide), _, rfl, _, rfl, p, C 6, dx, _, rfl, upd_same, T.cl 6 hi, T.no 6 hi _ (List.mem_of_getElem? (i := 4) rfl), (by show 4 < 1000; decide), ?_⟩⟩
    refine q _ upd_same fun c o e n => ?_
    simp only [upd_ne n]
    exact S1 _ _ e
end
end OR

namespace OR
open PySem PySem.Spec PyProof.Rows L2
open TL (tl numL)
section
variable {P : Program} {w : World} {K : PySem.W.Frag} {mg : Str → Option Value} {base : Heap} {C : Nat → Addr} {CP : Addr} {ts tw : Addr}
theorem scAnsE : FnScope ["self", "other"] ["self", "other"] (defScope sAnsEq) := ⟨rfl, rfl, rfl, by decide +kernel, rfl, by decide +kernel, by decide +kernel⟩
theorem ok_AnsE {f : Addr} {fd : FuncData} (F : Fun K "__eq__" "Answers.__eq__" sAnsEq f fd) (T : CTxt K mg C) (PT : PTxt K mg CP) (EQ : Md P w K mg base 1 CP "__eq__" (spPlEq K CP)) : FnOk P w K mg base CX0 2 f fd ["self", "other"] (spCEq K CP C 0) := by
  refine F.ok scAnsE (fun vs H Q E h => ?_) (fun cdv A outer s0 H vs Q E hr h => ?_)
  · obtain ⟨p, y, f1, l, x, rfl, _⟩ := h
    rfl
  · obtain ⟨p, y, f1, l, x, rfl, hA, h⟩ := h
    have hi : 0 < 7 := by decide
    have nd := scAnsE.nd
    refine ⟨_, pss_one (ps_ret (pe_and (pe_callB call_isi (by rfl) PT.zIsi bt_isi (pa_cons (pv 1) (pa_cons (pe_glob (v := .ref (C 0)) (by rfl) (T.mgC 0 hi) rfl) pa_nil))) (pe_and (pe_cmpR op_eq (pe_fld (pv 0) rfl) (pe_fld (pv 1) rfl) (nomark _)) (pe_one (pe_cmpR (op_eqO K rfl EQ (hr.mono (by decide))) (pe_fld (pv 0) rfl) (pe_fld (pv 1) rfl) (nomark _)))))), ?_⟩
    obtain ⟨⟨dx, pl, hz, hp⟩, _, _, wf, _, _⟩ := hA
    rcases h with ⟨z2, j, f2, m, u, rfl, hB, q⟩ | ⟨Ty, hT, hk, q⟩
    · by_cases e : j = 0
      · subst e
        obtain ⟨⟨dy, pm, hy, hpm⟩, _, _, wf2, _, _⟩ := hB
        cases (show x = [] from wf)
        cases (show u = [] from wf2)
        have key : ceq 0 f1 l [] 0 f2 m [] = decide (f1 = f2 ∧ l = m) := by
          unfold ceq
          exact decide_eq_decide.mpr (by simp)
        rw [key] at q
        have no : ¬ (f1 = f2 ∧ l = m) → Q (.bl false) H := fun h => by
          rw [decide_eq_false h] at q
          exact q
        clear key
        refine ⟨_, rfl, .ref z2, .ref (C 0), _, _, true, rfl, .own (C 0), tyC T hi hy, T.kk 0 hi 0 hi, _, rfl, iteT ?_⟩
        refine ⟨_, rfl, fld T hz hi (j := 1) rfl rfl ⟨_, rfl, fld T hy hi (j := 1) rfl rfl ⟨rfl, _, rfl, ite2 (fun e1 => ?_) (fun e1 => (no fun z => e1 (decide_eq_true (by rw [z.1]))))⟩⟩⟩
        have E_function := V.str.inj (of_decide_eq_true e1)
        exact ⟨_, rfl, fld T hz hi (j := 2) rfl rfl ⟨_, rfl, fld T hy hi (j := 2) rfl rfl (eq_q PT hp hpm (by rw [show decide (f1 = f2 ∧ l = m) = decide (l = m) from decide_eq_decide.mpr ⟨fun z => z.2, fun zz => ⟨E_function, zz⟩⟩] at q; exact q))⟩⟩
      · have kf : PySem.W.kitOne K (.ref (C j)) (.ref (C 0)) = some false := by
          rw [T.kk j hB.lt 0 hi, decide_eq_false e]
        rw [show ceq 0 f1 l x j f2 m u = false from decide_eq_false fun z => e z.1.symm] at q
        obtain ⟨dy, pm, hy, _⟩ := hB.ex
        exact ⟨_, rfl, .ref z2, .ref (C 0), _, _, false, rfl, .own (C 0), tyC T hB.lt hy, kf, _, rfl, iteF q⟩
    · exact ⟨_, rfl, y, .ref (C 0), _, _, false, rfl, .own (C 0), hT, hk, _, rfl, iteF q⟩
theorem scRefE : FnScope ["self", "other"] ["self", "other"] (defScope sRefEq) := ⟨rfl, rfl, rfl, by decide +kernel, rfl, by decide +kernel, by decide +kernel⟩
theorem ok_RefE {f : Addr} {fd : FuncData} (F : Fun K "__eq__" "Refuses.__eq__" sRefEq f fd) (T : CTxt K mg C) (PT : PTxt K mg CP) (EQ : Md P w K mg base 1 CP "__eq__" (spPlEq K CP)) : FnOk P w K mg base CX0 2 f fd ["self", "other"] (spCEq K CP C 1) := by
  refine F.ok scRefE (fun vs H Q E h => ?_) (fun cdv A outer s0 H vs Q E hr h => ?_)
  · obtain ⟨p, y, f1, l, x, rfl, _⟩ := h
    rfl
  · obtain ⟨p, y, f1, l, x, rfl, hA, h⟩ := h
    have hi : 1 < 7 := by decide
    have nd := scRefE.nd
    refine ⟨_, pss_one (ps_ret (pe_and (pe_callB call_isi (by rfl) PT.zIsi bt_isi (pa_cons (pv 1) (pa_cons (pe_glob (v := .ref (C 1)) (by rfl) (T.mgC 1 hi) rfl) pa_nil))) (pe_and (pe_cmpR op_eq (pe_fld (pv 0) rfl) (pe_fld (pv 1) rfl) (nomark _)) (pe_one (pe_cmpR (op_eqO K rfl EQ (hr.mono (by decide))) (pe_fld (pv 0) rfl) (pe_fld (pv 1) rfl) (nomark _)))))), ?_⟩
    obtain ⟨⟨dx, pl, hz, hp⟩, _, _, wf, _, _⟩ := hA
    rcases h with ⟨z2, j, f2, m, u, rfl, hB, q⟩ | ⟨Ty, hT, hk, q⟩
    · by_cases e : j = 1
      · subst e
        obtain ⟨⟨dy, pm, hy, hpm⟩, _, _, wf2, _, _⟩ := hB
        cases (show x = [] from wf)
        cases (show u = [] from wf2)
        have key : ceq 1 f1 l [] 1 f2 m [] = decide (f1 = f2 ∧ l = m) := by
          unfold ceq
          exact decide_eq_decide.mpr (by simp)
        rw [key] at q
        have no : ¬ (f1 = f2 ∧ l = m) → Q (.bl false) H := fun h => by
          rw [decide_eq_false h] at q
          exact q
        clear key
        refine ⟨_, rfl, .ref z2, .ref (C 1), _, _, true, rfl, .own (C 1), tyC T hi hy, T.kk 1 hi 1 hi, _, rfl, iteT ?_⟩
        refine ⟨_, rfl, fld T hz hi (j := 1) rfl rfl ⟨_, rfl, fld T hy hi (j := 1) rfl rfl ⟨rfl, _, rfl, ite2 (fun e1 => ?_) (fun e1 => (no fun z => e1 (decide_eq_true (by rw [z.1]))))⟩⟩⟩
        have E_function := V.str.inj (of_decide_eq_true e1)
        exact ⟨_, rfl, fld T hz hi (j := 2) rfl rfl ⟨_, rfl, fld T hy hi (j := 2) rfl rfl (eq_q PT hp hpm (by rw [show decide (f1 = f2 ∧ l = m) = decide (l = m) from decide_eq_decide.mpr ⟨fun z => z.2, fun zz => ⟨E_function, zz⟩⟩] at q; exact q))⟩⟩
      · have kf : PySem.W.kitOne K (.ref (C j)) (.ref (C 1)) = some false := by
          rw [T.kk j hB.lt 1 hi, decide_eq_false e]
        rw [show ceq 1 f1 l x j f2 m u = false from decide_eq_false fun z => e z.1.symm] at q
        obtain ⟨dy, pm, hy, _⟩ := hB.ex
        exact ⟨_, rfl, .ref z2, .ref (C 1), _, _, false, rfl, .own (C 1), tyC T hB.lt hy, kf, _, rfl, iteF q⟩
    · exact ⟨_, rfl, y, .ref (C 1), _, _, false, rfl, .own (C 1), hT, hk, _, rfl, iteF q⟩
theorem scNeeE : FnScope ["self", "other"] ["self", "other"] (defScope sNeeEq) := ⟨rfl, rfl, rfl, by decide +kernel, rfl, by decide +kernel, by decide +kernel⟩
theorem ok_NeeE {f : Addr} {fd : FuncData} (F : Fun K "__eq__" "Needs.__eq__" sNeeEq f fd) (T : CTxt K mg C) (PT : PTxt K mg CP) (EQ : Md P w K mg base 1 CP "__eq__" (spPlEq K CP)) : FnOk P w K mg base CX0 2 f fd ["self", "other"] (spCEq K CP C 2) := by
  refine F.ok scNeeE (fun vs H Q E h => ?_) (fun cdv A outer s0 H vs Q E hr h => ?_)
  · obtain ⟨p, y, f1, l, x, rfl, _⟩ := h
    rfl
  · obtain ⟨p, y, f1, l, x, rfl, hA, h⟩ := h
    have hi : 2 < 7 := by decide
    have nd := scNeeE.nd
    refine ⟨_, pss_cons (ps_if (pt_not (pt_val (pe_callB call_isi (by rfl) PT.zIsi bt_isi (pa_cons (pv 1) (pa_cons (pe_glob (v := .ref (C 2)) (by rfl) (T.mgC 2 hi) rfl) pa_nil))))) (pss_one (ps_ret pe_bl)) pss_nil)
      (pss_one (ps_ret (pe_and (pe_cmpR op_eq (pe_fld (pv 0) rfl) (pe_fld (pv 1) rfl) (nomark _)) (pe_and (pe_cmpR (op_eqO K rfl EQ (hr.mono (by decide))) (pe_fld (pv 0) rfl) (pe_fld (pv 1) rfl) (nomark _)) (pe_one (pe_cmpR op_eq (pe_fld (pv 0) rfl) (pe_fld (pv 1) rfl) (nomark _))))))), ?_⟩
    obtain ⟨⟨dx, pl, hz, hp⟩, _, _, wf, _, _⟩ := hA
    rcases h with ⟨z2, j, f2, m, u, rfl, hB, q⟩ | ⟨Ty, hT, hk, q⟩
    · by_cases e : j = 2
      · subst e
        obtain ⟨⟨dy, pm, hy, hpm⟩, _, _, wf2, _, _⟩ := hB
        obtain ⟨g, rfl, hg, ng⟩ := wf
        obtain ⟨g', rfl, _, _⟩ := wf2
        have key : ceq 2 f1 l [.str g] 2 f2 m [.str g'] = decide (f1 = f2 ∧ l = m ∧ g = g') := by
          unfold ceq
          exact decide_eq_decide.mpr (by simp)
        rw [key] at q
        have no : ¬ (f1 = f2 ∧ l = m ∧ g = g') → Q (.bl false) H := fun h => by
          rw [decide_eq_false h] at q
          exact q
        clear key
        refine ⟨_, rfl, .ref z2, .ref (C 2), _, _, true, rfl, .own (C 2), tyC T hi hy, T.kk 2 hi 2 hi, _, rfl, iteF ?_⟩
        refine ⟨_, rfl, fld T hz hi (j := 1) rfl rfl ⟨_, rfl, fld T hy hi (j := 1) rfl rfl ⟨rfl, _, rfl, ite2 (fun e1 => ?_) (fun e1 => (no fun z => e1 (decide_eq_true (by rw [z.1]))))⟩⟩⟩
        have E_function := V.str.inj (of_decide_eq_true e1)
        refine ⟨_, rfl, fld T hz hi (j := 2) rfl rfl ⟨_, rfl, fld T hy hi (j := 2) rfl rfl (eq_q PT hp hpm ⟨_, rfl, ite2 (fun e2 => ?_) (fun e2 => no fun z => e2 (decide_eq_true z.2.1))⟩)⟩⟩
        have E_places : l = m := of_decide_eq_true e2
        exact ⟨_, rfl, fld T hz hi (j := 3) rfl rfl ⟨_, rfl, fld T hy hi (j := 3) rfl rfl ⟨rfl, (by rw [show decide (f1 = f2 ∧ l = m ∧ g = g') = decide (V.str g = V.str g') from decide_eq_decide.mpr ⟨fun z => by rw [z.2.2], fun zz => ⟨E_function, E_places, V.str.inj zz⟩⟩] at q; exact q)⟩⟩⟩
      · have kf : PySem.W.kitOne K (.ref (C j)) (.ref (C 2)) = some false := by
          rw [T.kk j hB.lt 2 hi, decide_eq_false e]
        rw [show ceq 2 f1 l x j f2 m u = false from decide_eq_false fun z => e z.1.symm] at q
        obtain ⟨dy, pm, hy, _⟩ := hB.ex
        exact ⟨_, rfl, .ref z2, .ref (C 2), _, _, false, rfl, .own (C 2), tyC T hB.lt hy, kf, _, rfl, iteT q⟩
    · exact ⟨_, rfl, y, .ref (C 2), _, _, false, rfl, .own (C 2), hT, hk, _, rfl, iteT q⟩
theorem scSprE : FnScope ["self", "other"] ["self", "other"] (defScope sSprEq) := ⟨rfl, rfl, rfl, by decide +kernel, rfl, by decide +kernel, by decide +kernel⟩
theorem ok_SprE {f : Addr} {fd : FuncData} (F : Fun K "__eq__" "Spreads.__eq__" sSprEq f fd) (T : CTxt K mg C) (PT : PTxt K mg CP) (EQ : Md P w K mg base 1 CP "__eq__" (spPlEq K CP)) : FnOk P w K mg base CX0 2 f fd ["self", "other"] (spCEq K CP C 3) := by
  refine F.ok scSprE (fun vs H Q E h => ?_) (fun cdv A outer s0 H vs Q E hr h => ?_)
  · obtain ⟨p, y, f1, l, x, rfl, _⟩ := h
    rfl
  · obtain ⟨p, y, f1, l, x, rfl, hA, h⟩ := h
    have hi : 3 < 7 := by decide
    have nd := scSprE.nd
    refine ⟨_, pss_cons (ps_if (pt_not (pt_val (pe_callB call_isi (by rfl) PT.zIsi bt_isi (pa_cons (pv 1) (pa_cons (pe_glob (v := .ref (C 3)) (by rfl) (T.mgC 3 hi) rfl) pa_nil))))) (pss_one (ps_ret pe_bl)) pss_nil)
      (pss_one (ps_ret (pe_and (pe_cmpR op_eq (pe_fld (pv 0) rfl) (pe_fld (pv 1) rfl) (nomark _)) (pe_and (pe_cmpR (op_eqO K rfl EQ (hr.mono (by decide))) (pe_fld (pv 0) rfl) (pe_fld (pv 1) rfl) (nomark _)) (pe_one (pe_cmpR op_eq (pe_fld (pv 0) rfl) (pe_fld (pv 1) rfl) (nomark _))))))), ?_⟩
    obtain ⟨⟨dx, pl, hz, hp⟩, _, _, wf, _, _⟩ := hA
    rcases h with ⟨z2, j, f2, m, u, rfl, hB, q⟩ | ⟨Ty, hT, hk, q⟩
    · by_cases e : j = 3
      · subst e
        obtain ⟨⟨dy, pm, hy, hpm⟩, _, _, wf2, _, _⟩ := hB
        obtain ⟨w, rfl, hs⟩ := wf
        obtain ⟨w', rfl, _⟩ := wf2
        have key : ceq 3 f1 l [.str w] 3 f2 m [.str w'] = decide (f1 = f2 ∧ l = m ∧ w = w') := by
          unfold ceq
          exact decide_eq_decide.mpr (by simp)
        rw [key] at q
        have no : ¬ (f1 = f2 ∧ l = m ∧ w = w') → Q (.bl false) H := fun h => by
          rw [decide_eq_false h] at q
          exact q
        clear key
        refine ⟨_, rfl, .ref z2, .ref (C 3), _, _, true, rfl, .own (C 3), tyC T hi hy, T.kk 3 hi 3 hi, _, rfl, iteF ?_⟩
        refine ⟨_, rfl, fld T hz hi (j := 1) rfl rfl ⟨_, rfl, fld T hy hi (j := 1) rfl rfl ⟨rfl, _, rfl, ite2 (fun e1 => ?_) (fun e1 => (no fun z => e1 (decide_eq_true (by rw [z.1]))))⟩⟩⟩
        have E_function := V.str.inj (of_decide_eq_true e1)
        refine ⟨_, rfl, fld T hz hi (j := 2) rfl rfl ⟨_, rfl, fld T hy hi (j := 2) rfl rfl (eq_q PT hp hpm ⟨_, rfl, ite2 (fun e2 => ?_) (fun e2 => no fun z => e2 (decide_eq_true z.2.1))⟩)⟩⟩
        have E_places : l = m := of_decide_eq_true e2
        exact ⟨_, rfl, fld T hz hi (j := 3) rfl rfl ⟨_, rfl, fld T hy hi (j := 3) rfl rfl ⟨rfl, (by rw [show decide (f1 = f2 ∧ l = m ∧ w = w') = decide (V.str w = V.str w') from decide_eq_decide.mpr ⟨fun z => by rw [z.2.2], fun zz => ⟨E_function, E_places, V.str.inj zz⟩⟩] at q; exact q)⟩⟩⟩
      · have kf : PySem.W.kitOne K (.ref (C j)) (.ref (C 3)) = some false := by
          rw [T.kk j hB.lt 3 hi, decide_eq_false e]
        rw [show ceq 3 f1 l x j f2 m u = false from decide_eq_false fun z => e z.1.symm] at q
        obtain ⟨dy, pm, hy, _⟩ := hB.ex
        exact ⟨_, rfl, .ref z2, .ref (C 3), _, _, false, rfl, .own (C 3), tyC T hB.lt hy, kf, _, rfl, iteT q⟩
    · exact ⟨_, rfl, y, .ref (C 3), _, _, false, rfl, .own (C 3), hT, hk, _, rfl, iteT q⟩
theorem scBouE : FnScope ["self", "other", "same_line"] ["self", "other"] (defScope sBouEq) := ⟨rfl, rfl, rfl, by decide +kernel, rfl, by decide +kernel, by decide +kernel⟩
theorem ok_BouE {f : Addr} {fd : FuncData} (F : Fun K "__eq__" "Bound.__eq__" sBouEq f fd) (T : CTxt K mg C) (PT : PTxt K mg CP) (EQ : Md P w K mg base 1 CP "__eq__" (spPlEq K CP)) : FnOk P w K mg base CX0 2 f fd ["self", "other"] (spCEq K CP C 4) := by
  refine F.ok scBouE (fun vs H Q E h => ?_) (fun cdv A outer s0 H vs Q E hr h => ?_)
  · obtain ⟨p, y, f1, l, x, rfl, _⟩ := h
    rfl
  · obtain ⟨p, y, f1, l, x, rfl, hA, h⟩ := h
    have hi : 4 < 7 := by decide
    have nd := scBouE.nd
    refine ⟨_, pss_cons (ps_if (PW.pt (pw_or (pt_not (pt_val (pe_callB call_isi (by rfl) PT.zIsi bt_isi (pa_cons (pv 1) (pa_cons (pe_glob (v := .ref (C 4)) (by rfl) (T.mgC 4 hi) rfl) pa_nil))))) (pw_or1 (pt_cmpR op_ne (pe_fld (pv 0) rfl) (pe_fld (pv 1) rfl) (nomark _))))) (pss_one (ps_ret pe_bl)) pss_nil)
      (Evl.pss_cut (ps_set (i := 2) nd rfl (.inl rfl) (pe_and (pe_cmpR op_eq (pe_fld (pv 0) rfl) (pe_fld (pv 1) rfl) (nomark _)) (pe_one (pe_cmpR op_eq (pe_fld (pv 0) rfl) (pe_fld (pv 1) rfl) (nomark _)))))
      (pss_one (ps_ret (pe_and (pv 2) (pe_and (pe_cmpR op_eq (pe_fld (pv 0) rfl) (pe_fld (pv 1) rfl) (nomark _)) (pe_one (pe_cmpR (op_eqO K rfl EQ (hr.mono (by decide))) (pe_fld (pv 0) rfl) (pe_fld (pv 1) rfl) (nomark _)))))))), ?_⟩
    obtain ⟨⟨dx, pl, hz, hp⟩, _, _, wf, _, _⟩ := hA
    rcases h with ⟨z2, j, f2, m, u, rfl, hB, q⟩ | ⟨Ty, hT, hk, q⟩
    · by_cases e : j = 4
      · subst e
        obtain ⟨⟨dy, pm, hy, hpm⟩, _, _, wf2, _, _⟩ := hB
        obtain ⟨s, a, b, rfl, hs, na, nb⟩ := wf
        obtain ⟨s', a', b', rfl, _, _, _⟩ := wf2
        have key : ceq 4 f1 l [.str s, .int a, .int b] 4 f2 m [.str s', .int a', .int b'] = decide (f1 = f2 ∧ l = m ∧ s = s' ∧ a = a' ∧ b = b') := by
          unfold ceq
          exact decide_eq_decide.mpr (by simp)
        rw [key] at q
        have no : ¬ (f1 = f2 ∧ l = m ∧ s = s' ∧ a = a' ∧ b = b') → Q (.bl false) H := fun h => by
          rw [decide_eq_false h] at q
          exact q
        clear key
        refine ⟨_, rfl, .ref z2, .ref (C 4), _, _, true, rfl, .own (C 4), tyC T hi hy, T.kk 4 hi 4 hi, _, rfl, iteF ?_⟩
        refine ⟨_, rfl, fld T hz hi (j := 3) rfl rfl ⟨_, rfl, fld T hy hi (j := 3) rfl rfl ⟨rfl, _, rfl, ?_⟩⟩⟩
        by_cases e0 : V.str s = V.str s'
        · have E_sign := V.str.inj e0
          refine iteNS e0 ?_
          refine ⟨fun σ' H' => σ' = [some (V.ref p), some (.ref z2), some (.bl (decide (a = a' ∧ b = b')))] ∧ H' = H, ?_, ?_⟩
          · refine ⟨_, rfl, fld T hz hi (j := 4) rfl rfl ⟨_, rfl, fld T hy hi (j := 4) rfl rfl ⟨rfl, _, rfl, ite2 (fun e1 => ?_) (fun e1 => ?_)⟩⟩⟩
            · refine ⟨_, rfl, fld T hz hi (j := 5) rfl rfl ⟨_, rfl, fld T hy hi (j := 5) rfl rfl ⟨rfl, ?_, rfl⟩⟩⟩
              rw [show decide (a = a' ∧ b = b') = decide (V.int b = V.int b') from decide_eq_decide.mpr ⟨fun z => by rw [z.2], fun zz => ⟨V.int.inj (of_decide_eq_true e1), V.int.inj zz⟩⟩]
              rfl
            · refine ⟨?_, rfl⟩
              rw [decide_eq_false (fun z : a = a' ∧ b = b' => e1 (decide_eq_true (by rw [z.1])))]
              rfl
          rintro σ' H' ⟨rfl, rfl⟩
          refine ⟨_, rfl, _, rfl, ite2 (fun e1 => ?_) (fun e1 => no fun z => e1 (decide_eq_true ⟨z.2.2.2.1, z.2.2.2.2⟩))⟩
          obtain ⟨E_slope, E_height⟩ := of_decide_eq_true e1
          refine ⟨_, rfl, fld T hz hi (j := 1) rfl rfl ⟨_, rfl, fld T hy hi (j := 1) rfl rfl ⟨rfl, _, rfl, ite2 (fun e2 => ?_) (fun e2 => (no fun z => e2 (decide_eq_true (by rw [z.1]))))⟩⟩⟩
          have E_function := V.str.inj (of_decide_eq_true e2)
          exact ⟨_, rfl, fld T hz hi (j := 2) rfl rfl ⟨_, rfl, fld T hy hi (j := 2) rfl rfl (eq_q PT hp hpm (by rw [show decide (f1 = f2 ∧ l = m ∧ s = s' ∧ a = a' ∧ b = b') = decide (l = m) from decide_eq_decide.mpr ⟨fun z => z.2.1, fun zz => ⟨E_function, zz, E_sign, E_slope, E_height⟩⟩] at q; exact q))⟩⟩
        · rw [decide_eq_false e0]
          exact iteT (no fun z => e0 (by rw [z.2.2.1]))
      · have kf : PySem.W.kitOne K (.ref (C j)) (.ref (C 4)) = some false := by
          rw [T.kk j hB.lt 4 hi, decide_eq_false e]
        rw [show ceq 4 f1 l x j f2 m u = false from decide_eq_false fun z => e z.1.symm] at q
        obtain ⟨dy, pm, hy, _⟩ := hB.ex
        exact ⟨_, rfl, .ref z2, .ref (C 4), _, _, false, rfl, .own (C 4), tyC T hB.lt hy, kf, _, rfl, iteT q⟩
    · exact ⟨_, rfl, y, .ref (C 4), _, _, false, rfl, .own (C 4), hT, hk, _, rfl, iteT q⟩
theorem scPaiE : FnScope ["self", "other", "same_functions", "same_line"] ["self", "other"] (defScope sPaiEq) := ⟨rfl, rfl, rfl, by decide +kernel, rfl, by decide +kernel, by decide +kernel⟩
theorem ok_PaiE {f : Addr} {fd : FuncData} (F : Fun K "__eq__" "Pair.__eq__" sPaiEq f fd) (T : CTxt K mg C) (PT : PTxt K mg CP) (EQ : Md P w K mg base 1 CP "__eq__" (spPlEq K CP)) : FnOk P w K mg base CX0 2 f fd ["self", "other"] (spCEq K CP C 5) := by
  refine F.ok scPaiE (fun vs H Q E h => ?_) (fun cdv A outer s0 H vs Q E hr h => ?_)
  · obtain ⟨p, y, f1, l, x, rfl, _⟩ := h
    rfl
  · obtain ⟨p, y, f1, l, x, rfl, hA, h⟩ := h
    have hi : 5 < 7 := by decide
    have nd := scPaiE.nd
    refine ⟨_, pss_cons (ps_if (PW.pt (pw_or (pt_not (pt_val (pe_callB call_isi (by rfl) PT.zIsi bt_isi (pa_cons (pv 1) (pa_cons (pe_glob (v := .ref (C 5)) (by rfl) (T.mgC 5 hi) rfl) pa_nil))))) (pw_or1 (pt_cmpR op_ne (pe_fld (pv 0) rfl) (pe_fld (pv 1) rfl) (nomark _))))) (pss_one (ps_ret pe_bl)) pss_nil)
      (Evl.pss_cut (ps_set (i := 2) nd rfl (.inl rfl) (pe_and (pe_cmpR op_eq (pe_fld (pv 0) rfl) (pe_fld (pv 1) rfl) (nomark _)) (pe_one (pe_cmpR op_eq (pe_fld (pv 0) rfl) (pe_fld (pv 1) rfl) (nomark _)))))
      (Evl.pss_cut (ps_set (i := 3) nd rfl (.inl rfl) (pe_and (pe_cmpR op_eq (pe_fld (pv 0) rfl) (pe_fld (pv 1) rfl) (nomark _)) (pe_one (pe_cmpR op_eq (pe_fld (pv 0) rfl) (pe_fld (pv 1) rfl) (nomark _)))))
      (pss_one (ps_ret (pe_and (pv 2) (pe_and (pv 3) (pe_one (pe_cmpR (op_eqO K rfl EQ (hr.mono (by decide))) (pe_fld (pv 0) rfl) (pe_fld (pv 1) rfl) (nomark _))))))))), ?_⟩
    obtain ⟨⟨dx, pl, hz, hp⟩, _, _, wf, _, _⟩ := hA
    rcases h with ⟨z2, j, f2, m, u, rfl, hB, q⟩ | ⟨Ty, hT, hk, q⟩
    · by_cases e : j = 5
      · subst e
        obtain ⟨⟨dy, pm, hy, hpm⟩, _, _, wf2, _, _⟩ := hB
        obtain ⟨s, g, a, b, rfl, hs, hg, ng, na, nb⟩ := wf
        obtain ⟨s', g', a', b', rfl, _, _, _, _, _⟩ := wf2
        have key : ceq 5 f1 l [.str s, .str g, .int a, .int b] 5 f2 m [.str s', .str g', .int a', .int b'] = decide (f1 = f2 ∧ l = m ∧ s = s' ∧ g = g' ∧ a = a' ∧ b = b') := by
          unfold ceq
          exact decide_eq_decide.mpr (by simp)
        rw [key] at q
        have no : ¬ (f1 = f2 ∧ l = m ∧ s = s' ∧ g = g' ∧ a = a' ∧ b = b') → Q (.bl false) H := fun h => by
          rw [decide_eq_false h] at q
          exact q
        clear key
        refine ⟨_, rfl, .ref z2, .ref (C 5), _, _, true, rfl, .own (C 5), tyC T hi hy, T.kk 5 hi 5 hi, _, rfl, iteF ?_⟩
        refine ⟨_, rfl, fld T hz hi (j := 3) rfl rfl ⟨_, rfl, fld T hy hi (j := 3) rfl rfl ⟨rfl, _, rfl, ?_⟩⟩⟩
        by_cases e0 : V.str s = V.str s'
        · have E_sign := V.str.inj e0
          refine iteNS e0 ?_
          refine ⟨fun σ' H' => σ' = [some (V.ref p), some (.ref z2), some (.bl (decide (f1 = f2 ∧ g = g'))), none] ∧ H' = H, ?_, ?_⟩
          · refine ⟨_, rfl, fld T hz hi (j := 1) rfl rfl ⟨_, rfl, fld T hy hi (j := 1) rfl rfl ⟨rfl, _, rfl, ite2 (fun e1 => ?_) (fun e1 => ?_)⟩⟩⟩
            · refine ⟨_, rfl, fld T hz hi (j := 4) rfl rfl ⟨_, rfl, fld T hy hi (j := 4) rfl rfl ⟨rfl, ?_, rfl⟩⟩⟩
              rw [show decide (f1 = f2 ∧ g = g') = decide (V.str g = V.str g') from decide_eq_decide.mpr ⟨fun z => by rw [z.2], fun zz => ⟨V.str.inj (of_decide_eq_true e1), V.str.inj zz⟩⟩]
              rfl
            · refine ⟨?_, rfl⟩
              rw [decide_eq_false (fun z : f1 = f2 ∧ g = g' => e1 (decide_eq_true (by rw [z.1])))]
              rfl
          rintro σ' H' ⟨rfl, rfl⟩
          refine ⟨fun σ' H'' => σ' = [some (V.ref p), some (.ref z2), some (.bl (decide (f1 = f2 ∧ g = g'))), some (.bl (decide (a = a' ∧ b = b')))] ∧ H'' = H', ?_, ?_⟩
          · refine ⟨_, rfl, fld T hz hi (j := 5) rfl rfl ⟨_, rfl, fld T hy hi (j := 5) rfl rfl ⟨rfl, _, rfl, ite2 (fun e1 => ?_) (fun e1 => ?_)⟩⟩⟩
            · refine ⟨_, rfl, fld T hz hi (j := 6) rfl rfl ⟨_, rfl, fld T hy hi (j := 6) rfl rfl ⟨rfl, ?_, rfl⟩⟩⟩
              rw [show decide (a = a' ∧ b = b') = decide (V.int b = V.int b') from decide_eq_decide.mpr ⟨fun z => by rw [z.2], fun zz => ⟨V.int.inj (of_decide_eq_true e1), V.int.inj zz⟩⟩]
              rfl
            · refine ⟨?_, rfl⟩
              rw [decide_eq_false (fun z : a = a' ∧ b = b' => e1 (decide_eq_true (by rw [z.1])))]
              rfl
          rintro σ' H' ⟨rfl, rfl⟩
          refine ⟨_, rfl, _, rfl, ite2 (fun e1 => ?_) (fun e1 => no fun z => e1 (decide_eq_true ⟨z.1, z.2.2.2.1⟩))⟩
          obtain ⟨E_function, E_other⟩ := of_decide_eq_true e1
          refine ⟨_, rfl, _, rfl, ite2 (fun e2 => ?_) (fun e2 => no fun z => e2 (decide_eq_true ⟨z.2.2.2.2.1, z.2.2.2.2.2⟩))⟩
          obtain ⟨E_slope, E_height⟩ := of_decide_eq_true e2
          exact ⟨_, rfl, fld T hz hi (j := 2) rfl rfl ⟨_, rfl, fld T hy hi (j := 2) rfl rfl (eq_q PT hp hpm (by rw [show decide (f1 = f2 ∧ l = m ∧ s = s' ∧ g = g' ∧ a = a' ∧ b = b') = decide (l = m) from decide_eq_decide.mpr ⟨fun z => z.2.1, fun zz => ⟨E_function, zz, E_sign, E_other, E_slope, E_height⟩⟩] at q; exact q))⟩⟩
        · rw [decide_eq_false e0]
          exact iteT (no fun z => e0 (by rw [z.2.2.1]))
      · have kf : PySem.W.kitOne K (.ref (C j)) (.ref (C 5)) = some false := by
          rw [T.kk j hB.lt 5 hi, decide_eq_false e]
        rw [show ceq 5 f1 l x j f2 m u = false from decide_eq_false fun z => e z.1.symm] at q
        obtain ⟨dy, pm, hy, _⟩ := hB.ex
        exact ⟨_, rfl, .ref z2, .ref (C 5), _, _, false, rfl, .own (C 5), tyC T hB.lt hy, kf, _, rfl, iteT q⟩
    · exact ⟨_, rfl, y, .ref (C 5), _, _, false, rfl, .own (C 5), hT, hk, _, rfl, iteT q⟩
theorem scSteE : FnScope ["self", "other"] ["self", "other"] (defScope sSteEq) := ⟨rfl, rfl, rfl, by decide +kernel, rfl, by decide +kernel, by decide +kernel⟩
theorem ok_SteE {f : Addr} {fd : FuncData} (F : Fun K "__eq__" "Step.__eq__" sSteEq f fd) (T : CTxt K mg C) (PT : PTxt K mg CP) (EQ : Md P w K mg base 1 CP "__eq__" (spPlEq K CP)) : FnOk P w K mg base CX0 2 f fd ["self", "other"] (spCEq K CP C 6) := by
  refine F.ok scSteE (fun vs H Q E h => ?_) (fun cdv A outer s0 H vs Q E hr h => ?_)
  · obtain ⟨p, y, f1, l, x, rfl, _⟩ := h
    rfl
  · obtain ⟨p, y, f1, l, x, rfl, hA, h⟩ := h
    have hi : 6 < 7 := by decide
    have nd := scSteE.nd
    refine ⟨_, pss_cons (ps_if (PW.pt (pw_or (pt_not (pt_val (pe_callB call_isi (by rfl) PT.zIsi bt_isi (pa_cons (pv 1) (pa_cons (pe_glob (v := .ref (C 6)) (by rfl) (T.mgC 6 hi) rfl) pa_nil))))) (pw_or1 (pt_cmpR op_ne (pe_fld (pv 0) rfl) (pe_fld (pv 1) rfl) (nomark _))))) (pss_one (ps_ret pe_bl)) pss_nil)
      (pss_one (ps_ret (pe_and (pe_cmpR op_eq (pe_fld (pv 0) rfl) (pe_fld (pv 1) rfl) (nomark _)) (pe_and (pe_cmpR (op_eqO K rfl EQ (hr.mono (by decide))) (pe_fld (pv 0) rfl) (pe_fld (pv 1) rfl) (nomark _)) (pe_one (pe_cmpR op_eq (pe_fld (pv 0) rfl) (pe_fld (pv 1) rfl) (nomark _))))))), ?_⟩
    obtain ⟨⟨dx, pl, hz, hp⟩, _, _, wf, _, _⟩ := hA
    rcases h with ⟨z2, j, f2, m, u, rfl, hB, q⟩ | ⟨Ty, hT, hk, q⟩
    · by_cases e : j = 6
      · subst e
        obtain ⟨⟨dy, pm, hy, hpm⟩, _, _, wf2, _, _⟩ := hB
        obtain ⟨s, b, rfl, hs, nb⟩ := wf
        obtain ⟨s', b', rfl, _, _⟩ := wf2
        have key : ceq 6 f1 l [.str s, .int b] 6 f2 m [.str s', .int b'] = decide (f1 = f2 ∧ l = m ∧ s = s' ∧ b = b') := by
          unfold ceq
          exact decide_eq_decide.mpr (by simp)
        rw [key] at q
        have no : ¬ (f1 = f2 ∧ l = m ∧ s = s' ∧ b = b') → Q (.bl false) H := fun h => by
          rw [decide_eq_false h] at q
          exact q
        clear key
        refine ⟨_, rfl, .ref z2, .ref (C 6), _, _, true, rfl, .own (C 6), tyC T hi hy, T.kk 6 hi 6 hi, _, rfl, iteF ?_⟩
        refine ⟨_, rfl, fld T hz hi (j := 3) rfl rfl ⟨_, rfl, fld T hy hi (j := 3) rfl rfl ⟨rfl, _, rfl, ?_⟩⟩⟩
        by_cases e0 : V.str s = V.str s'
        · have E_sign := V.str.inj e0
          refine iteNS e0 ?_
          refine ⟨_, rfl, fld T hz hi (j := 1) rfl rfl ⟨_, rfl, fld T hy hi (j := 1) rfl rfl ⟨rfl, _, rfl, ite2 (fun e1 => ?_) (fun e1 => (no fun z => e1 (decide_eq_true (by rw [z.1]))))⟩⟩⟩
          have E_function := V.str.inj (of_decide_eq_true e1)
          refine ⟨_, rfl, fld T hz hi (j := 2) rfl rfl ⟨_, rfl, fld T hy hi (j := 2) rfl rfl (eq_q PT hp hpm ⟨_, rfl, ite2 (fun e2 => ?_) (fun e2 => no fun z => e2 (decide_eq_true z.2.1))⟩)⟩⟩
          have E_places : l = m := of_decide_eq_true e2
          exact ⟨_, rfl, fld T hz hi (j := 4) rfl rfl ⟨_, rfl, fld T hy hi (j := 4) rfl rfl ⟨rfl, (by rw [show decide (f1 = f2 ∧ l = m ∧ s = s' ∧ b = b') = decide (V.int b = V.int b') from decide_eq_decide.mpr ⟨fun z => by rw [z.2.2.2], fun zz => ⟨E_function, E_places, E_sign, V.int.inj zz⟩⟩] at q; exact q)⟩⟩⟩
        · rw [decide_eq_false e0]
          exact iteT (no fun z => e0 (by rw [z.2.2.1]))
      · have kf : PySem.W.kitOne K (.ref (C j)) (.ref (C 6)) = some false := by
          rw [T.kk j hB.lt 6 hi, decide_eq_false e]
        rw [show ceq 6 f1 l x j f2 m u = false from decide_eq_false fun z => e z.1.symm] at q
        obtain ⟨dy, pm, hy, _⟩ := hB.ex
        exact ⟨_, rfl, .ref z2, .ref (C 6), _, _, false, rfl, .own (C 6), tyC T hB.lt hy, kf, _, rfl, iteT q⟩
    · exact ⟨_, rfl, y, .ref (C 6), _, _, false, rfl, .own (C 6), hT, hk, _, rfl, iteT q⟩
end
end OR

namespace OR
open PySem PySem.Spec PyProof.Rows L2
open TL (tl numL)
/-! ### lists of texts -/
def SmallS (w : Str) : Prop := ∀ c ∈ tl w, c < 200
theorem strOk_of {w : Str} (h : SmallS w) : PyData.strOk w = true := by
  unfold PyData.strOk
  rw [← Array.all_toList, List.all_eq_true]
  intro c hc
  have := h c hc
  exact decide_eq_true (by omega)
theorem lay_strs : ∀ {ws : List Str}, (∀ w ∈ ws, SmallS w) → PyData.canLayAll0 (ws.map PyData.str) = true
  | [], _ => rfl
  | w :: r, h => by
    show (PyData.strOk w && PyData.canLayAll0 (r.map PyData.str)) = true
    rw [lay_strs fun x hx => h x (List.mem_cons_of_mem _ hx), Bool.and_true]
    exact strOk_of (h w List.mem_cons_self)
theorem dep_strs : ∀ ws : List Str, PyData.depthAll (ws.map PyData.str) = 0
  | [] => rfl
  | w :: r => by
    show max (PyData.depth (.str w)) (PyData.depthAll (r.map PyData.str)) = 0
    rw [dep_strs r]
    rfl
theorem shp_strs {ws : List Str} (h : ∀ w ∈ ws, SmallS w) : SeqAt.shaped (.list (ws.map PyData.str)) = true := by
  unfold SeqAt.shaped
  rw [show PyData.canLay0 (.list (ws.map PyData.str)) = true from lay_strs h, Bool.true_and]
  refine decide_eq_true ?_
  show PyData.depthAll (ws.map PyData.str) + 1 ≤ 64
  rw [dep_strs]
  decide
theorem dp_strs {K : PySem.W.Frag} {H : Hp} : ∀ ws : List Str, DpAll K H (ws.map V.str) (ws.map PyData.str)
  | [] => .nil
  | w :: r => .cons (.str w) (dp_strs r)
def lenAt (l : Addr) (H : Hp) : Nat := match H l with
  | some (.lst xs) => xs.length
  | _ => 0
theorem lenAt_of {l : Addr} {H : Hp} {xs : List V} (h : H l = some (.lst xs)) : lenAt l H = xs.length := by
  unfold lenAt
  rw [h]
theorem ixN_in {n : Nat} {r : Int} (h0 : 0 ≤ r) (h1 : r < n) : ixN n r = some r.toNat := by
  unfold ixN
  rw [if_pos h0, if_pos h1]
theorem erase_permS : ∀ (L : List Str) (k : Nat) (h : k < L.length), (L[k] :: L.eraseIdx k).Perm L
  | p :: L, 0, _ => List.Perm.refl _
  | p :: L, k + 1, h => by
    have ih := erase_permS L k (Nat.lt_of_succ_lt_succ h)
    exact (List.Perm.swap p _ _).trans (ih.cons p)
theorem map_erase : ∀ (L : List Str) (k : Nat), (L.map V.str).eraseIdx k = (L.eraseIdx k).map V.str
  | [], _ => rfl
  | _ :: _, 0 => rfl
  | p :: L, k + 1 => by
    show V.str p :: (L.map V.str).eraseIdx k = V.str p :: (L.eraseIdx k).map V.str
    rw [map_erase L k]
def spShufS (K : PySem.W.Frag) : Sp := fun vs H Q _ => ∃ (p a : Addr) (L : List Str) (n : Nat), vs = [.ref p, .ref a] ∧ SqL K H a (L.map V.str) ∧ (∀ w ∈ L, SmallS w) ∧ L.length ≤ 100 ∧ Pen H p n ∧ n ≤ 800000 ∧
  ∀ (o : Addr) (M : List Str) (H' : Hp), H o = none → H' o = some (.lst (M.map V.str)) → M.Perm L → Pen H' p (n + 300) → Frm p H H' → Q (.ref o) H'
section
variable {P : Program} {w : World} {K : PySem.W.Frag} {mg : Str → Option Value} {base : Heap}
theorem scSh : FnScope ["_law_pen_here", "_law_items", "_law_left", "_law_found"] ["_law_pen_here", "_law_items"] (defScope sShuffled) := ⟨rfl, rfl, rfl, by decide +kernel, rfl, by decide +kernel, by decide +kernel⟩
theorem ok_shufs {f : Addr} {fd : FuncData} (F : Fun K "_law_shuffled" "_law_shuffled" sShuffled f fd) (B : Bd mg) (D : Cl P w K mg base 1 "_law_draw" ["_law_pen_here", "_law_many"] spDraw) : FnOk P w K mg base CX0 2 f fd ["_law_pen_here", "_law_items"] (spShufS K) := by
  refine F.ok scSh (fun vs H Q E h => ?_) (fun cdv A outer s H vs Q E hr h => ?_)
  · obtain ⟨p, a, L, n, rfl, _⟩ := h
    rfl
  · obtain ⟨p, a, L, n, rfl, hS, hsm, hlen, hP, hn, q⟩ := h
    have nd := scSh.nd
    have hu64 : (A.deeper (envOfC "_law_shuffled" (defScope sShuffled) s.heap.objs.size f cdv)).units + 64 < cLine := hr.units
    obtain ⟨c0, hc0, hcn⟩ := hP.cells
    refine ⟨_, pss_cons (ps_par (i := 2) (j := 3) rfl nd rfl rfl (by decide) rfl rfl (pa_cons (pe_callTy call_list_of (by rfl) B.list bt_list (pa_cons (pv 1) pa_nil)) (pa_cons (pe_lst pa_nil) pa_nil)) rfl)
      (pss_cons (ps_while PassesOwn.never (pt_cmpR (op_neD hu64) (pv 2) (pe_lst pa_nil) (nomark _))
        (pss_one (ps_expr (pe_bm PySem.F.plainAttrs_list PySem.F.slot_list_append PySem.F.type_list_append mt_append (pv 3) (pa_cons
          (pe_bm PySem.F.plainAttrs_list PySem.F.slot_list_pop PySem.F.type_list_pop mt_popAt (pv 2) (pa_cons (pe_cl D hr (by decide) (by rfl) (pa_cons (pv 0) (pa_cons (pe_callB call_len_seq (by rfl) B.len PySem.boot_len (pa_cons (pv 2) pa_nil)) pa_nil))) pa_nil)) pa_nil)))))
      (pss_one (ps_ret (pv 3)))), ?_⟩
    refine ⟨_, rfl, a, _, rfl, .inl hS, fun l nl => ?_⟩
    have s1 := same_lay (o := .lst (L.map V.str)) nl
    refine ⟨Nat.zero_le _, fun o no => ⟨_, _, rfl, ?_⟩⟩
    have s2 := s1.trans (same_lay (o := .lst []) no)
    have nlo : l ≠ o := ne_of_none upd_same no
    have no0 : H o = none := s1.free no
    have ncl : c0 ≠ l := fun e => hcn (by rw [e]; exact nl)
    have nco : c0 ≠ o := fun e => hcn (by rw [e]; exact no0)
    refine while_by (fun σ H' => ∃ R F : List Str, σ = [some (.ref p), some (.ref a), some (.ref l), some (.ref o)] ∧ H' l = some (.lst (R.map V.str)) ∧ H' o = some (.lst (F.map V.str)) ∧ (F ++ R).Perm L ∧ Pen H' p (n + 2 * F.length) ∧ Frm p H H')
      (fun _ H' => lenAt l H') ⟨L, [], rfl, by rw [upd_ne nlo, upd_same], upd_same, List.Perm.refl _, hP.same' s2, frmS s2⟩ ?_ (fun σ H Q Q' hQ h => by
        obtain ⟨v, e, l1, fw⟩ := h
        exact ⟨v, e, l1, fun p hp => by
          obtain ⟨d, e', a1, a2, a3, a4, k, ek, q⟩ := fw p hp
          exact ⟨d, e', a1, a2, a3, a4, k, ek, hQ _ _ q⟩⟩)
    rintro σ H' ⟨R, F', rfl, hl, ho, hpm, hPn, hFr⟩
    have hlF : F'.length + R.length = L.length := by rw [← List.length_append, hpm.length_eq]
    have hRs : ∀ w ∈ R, SmallS w := fun w hw => hsm w (hpm.mem_iff.mp (List.mem_append_right _ hw))
    refine ⟨_, rfl, Nat.zero_le _, fun e ne => ?_⟩
    have se := same_lay (o := .lst []) ne
    have hl3 := se _ _ hl
    have ho3 := se _ _ ho
    have P3 := hPn.same' se
    have hFr3 := hFr.trans (frmS se)
    refine ⟨.list (R.map PyData.str), .list [], .lst (.inl (.inl hl3)) (dp_strs R), .lst (.inl (.inl upd_same)) .nil, shp_strs hRs, rfl, _, rfl, ite2 (fun hne => ?_) (fun hne => ?_)⟩
    · have hR0 : 0 < R.length := by
        cases R with
        | nil => exact absurd hne (by decide)
        | cons _ _ => exact Nat.succ_pos _
      have lm : (R.map V.str).length = R.length := List.length_map ..
      refine ⟨_, rfl, .inl ⟨rfl, _, .inl (.inl ho3)⟩, _, rfl, .inl ⟨rfl, _, .inl (.inl hl3)⟩, _, rfl, _, rfl, l, _, rfl, .inl (.inl (.inl hl3)), p, _, _, rfl, by rw [lm]; omega, ?_, P3, by omega, fun r H4 r0 r1 P4 F4 => ?_⟩
      · rw [lm]
        exact Nat.lt_of_le_of_lt (show ((R.length : Nat) : Int).natAbs ≤ 200 by omega) (by decide)
      rw [lm] at r1
      have hl4 := F4.lst P3 hl3
      have ho4 := F4.lst P3 ho3
      have hk : r.toNat < R.length := by omega
      have hix := (ixN_seq (ixN_in r0 (show r < ((R.map V.str).length : Nat) by rw [lm]; exact r1))).1
      have hget : (R.map V.str)[r.toNat]? = some (.str R[r.toNat]) := by
        rw [List.getElem?_map, List.getElem?_eq_getElem hk]
        rfl
      refine ⟨l, R.map V.str, r, r.toNat, _, rfl, rfl, hl4, by omega, by omega, hix, hget, ?_⟩
      have ho5 : (upd H4 l (.lst ((R.map V.str).eraseIdx r.toNat))) o = some (.lst (F'.map V.str)) := by rw [upd_ne nlo.symm]; exact ho4
      refine ⟨o, F'.map V.str, _, rfl, rfl, ho5, small1000 (by rw [List.length_map]; omega), ?_⟩
      have ce4 := (hFr3.trans F4).ce c0 hc0
      refine ⟨⟨R.eraseIdx r.toNat, F' ++ [R[r.toNat]], rfl, by rw [upd_ne nlo, upd_same, map_erase], by rw [upd_same, List.map_append]; rfl, ?_, ?_, ?_⟩, ?_⟩
      · rw [List.append_assoc]
        exact ((erase_permS R r.toNat hk).append_left F').trans hpm
      · have p5 := P4.put (o := .lst ((R.map V.str).eraseIdx r.toNat)) ce4 hl4 ncl
        have ce5 : cellsAt (upd H4 l (.lst ((R.map V.str).eraseIdx r.toNat))) p c0 := by
          obtain ⟨k1, k2, e⟩ := ce4
          exact ⟨k1, k2, by rw [upd_ne (ne_of e hl4 (by intro z; cases z))]; exact e⟩
        exact (p5.put ce5 ho5 nco).mono (by rw [List.length_append]; show _ ≤ n + 2 * (F'.length + 1); omega)
      · have fr4 := hFr3.trans F4
        refine ⟨fun b u eb nb => ?_, fun c hc => ?_⟩
        · have n1 : b ≠ l := ne_of_none eb nl
          have n2 : b ≠ o := ne_of_none eb no0
          rw [upd_ne n2, upd_ne n1]
          exact fr4 _ _ eb nb
        · obtain ⟨k1, k2, e⟩ := fr4.ce c hc
          exact ⟨k1, k2, by rw [upd_ne (ne_of e ho4 (by intro z; cases z)), upd_ne (ne_of e hl4 (by intro z; cases z))]; exact e⟩
      · show lenAt l _ < lenAt l H'
        rw [lenAt_of (xs := (R.map V.str).eraseIdx r.toNat) (by rw [upd_ne nlo, upd_same]), lenAt_of hl, map_erase, List.length_map, List.length_map, List.length_eraseIdx, if_pos hk]
        omega
    · have hR0 : R = [] := by
        cases R with
        | nil => rfl
        | cons _ _ => exact absurd rfl hne
      subst hR0
      rw [List.append_nil] at hpm
      exact ⟨_, rfl, q o F' _ no0 ho3 hpm (P3.mono (by rw [hpm.length_eq]; omega)) hFr3⟩
end
end OR

namespace OR
open PySem PySem.Spec PyProof.Rows L2
open TL (tl numL)
theorem len_app (a b : Str) : (a ++ b).length = a.length + b.length := by rw [TL.len_tl, TL.len_tl, TL.len_tl, TL.tl_append, List.length_append]
theorem sum_le : ∀ (ws : List Str) (k : Nat), (∀ w ∈ ws, w.length ≤ k) → (ws.map (·.length)).sum ≤ ws.length * k
  | [], _, _ => by simp
  | w :: r, k, h => by
    have h1 := sum_le r k fun x hx => h x (List.mem_cons_of_mem _ hx)
    have h2 := h w List.mem_cons_self
    rw [List.map_cons, List.sum_cons, List.length_cons, Nat.succ_mul]
    omega
/-! ### drawn words -/
theorem tl_cutA (z : Str) (k : Nat) : tl (cutS z none (some (k : Int))) = (tl z).take k := by
  show ((z.cps.toList.drop (HT.sIx z.length 0 none)).take (HT.sIx z.length z.length (some (k : Int)) - HT.sIx z.length 0 none)).toArray.toList = z.cps.toList.take k
  rw [HT.sIx_none, HT.sIx_nat, List.drop_zero, Nat.sub_zero]
  have hl : z.length = z.cps.toList.length := by rw [Array.length_toList]; rfl
  rcases Nat.le_total k z.length with h | h
  · rw [Nat.min_eq_left h]
  · rw [Nat.min_eq_right h, List.take_of_length_le (by rw [hl]; exact Nat.le_refl _), List.take_of_length_le (by rw [← hl]; exact h)]
theorem tl_cutB (z : Str) (k : Nat) : tl (cutS z (some (k : Int)) none) = (tl z).drop k := by
  show ((z.cps.toList.drop (HT.sIx z.length 0 (some (k : Int)))).take (HT.sIx z.length z.length none - HT.sIx z.length 0 (some (k : Int)))).toArray.toList = z.cps.toList.drop k
  rw [HT.sIx_none, HT.sIx_nat]
  have hl : z.length = z.cps.toList.length := by rw [Array.length_toList]; rfl
  rcases Nat.le_total k z.length with h | h
  · rw [Nat.min_eq_left h, List.take_of_length_le (by rw [List.length_drop, hl]; exact Nat.le_refl _)]
  · rw [Nat.min_eq_right h, List.drop_of_length_le (by rw [hl]; exact Nat.le_refl _), List.drop_of_length_le (by rw [← hl]; exact h), List.take_nil]
def ch (c : Nat) : Str := ⟨#[c]⟩
theorem tl_ch (c : Nat) : tl (ch c) = [c] := rfl
theorem tl_join0 : ∀ cs : List Nat, tl (Txt.join ("" : Str) (cs.map ch)) = cs
  | [] => rfl
  | [c] => by rw [TL.join_eq]; rfl
  | c :: d :: r => by
    have ih := tl_join0 (d :: r)
    rw [TL.join_eq] at ih ⊢
    show tl ((ch c ++ ("" : Str)) ++ Str.join ("" : Str) ((d :: r).map ch)) = _
    rw [TL.tl_append, TL.tl_append, ih]
    rfl
theorem let_at {j : Nat} (h : j < 26) : (tl letters)[j]? = some (97 + j) := by
  have e : tl letters = (List.range 26).map (· + 97) := by decide +kernel
  rw [e, List.getElem?_map, List.getElem?_range h]
  show some (j + 97) = _
  rw [Nat.add_comm]
theorem let_len : letters.length = 26 := by decide
theorem let_az {c : Nat} (h : c ∈ tl letters) : 97 ≤ c ∧ c ≤ 122 := by
  have e : tl letters = (List.range 26).map (· + 97) := by decide +kernel
  rw [e] at h
  obtain ⟨j, hj, rfl⟩ := List.mem_map.mp h
  have := List.mem_range.mp hj
  omega
def stepsL : List Int := [1, 3, 5, 7, 9, 11, 15, 17]
/-- the letter of the k-th word -/
def own (front step : Int) (k : Nat) : Nat := 97 + ((front + step * (k : Int)) % 26).toNat
theorem own_ne {front step : Int} {k m : Nat} (h0 : 0 ≤ front) (hs : step ∈ stepsL) (hk : k < m) (hm : m < 4) : own front step k ≠ own front step m := by
  unfold own
  unfold stepsL at hs
  simp only [List.mem_cons, List.not_mem_nil, or_false] at hs
  rcases hs with e | e | e | e | e | e | e | e <;> subst e <;> omega
def wordAt (stem : Str) (at_ : Nat) (c : Nat) : Str := (cutS stem none (some (at_ : Int)) ++ ch c) ++ cutS stem (some (at_ : Int)) none
theorem tl_word (stem : Str) (a c : Nat) : tl (wordAt stem a c) = (tl stem).take a ++ c :: (tl stem).drop a := by
  unfold wordAt
  rw [TL.tl_append, TL.tl_append, tl_cutA, tl_cutB, tl_ch, List.append_assoc]
  rfl
theorem word_inj {stem : Str} {a c d : Nat} (h : wordAt stem a c = wordAt stem a d) : c = d := by
  have := congrArg tl h
  rw [tl_word, tl_word] at this
  exact (List.cons.inj (List.append_cancel_left this)).1
theorem word_ok {stem : Str} {a c : Nat} (hl : stem.length ≤ 7) (hs : ∀ x ∈ tl stem, 97 ≤ x ∧ x ≤ 122) (hc : 97 ≤ c ∧ c ≤ 122) : Word (wordAt stem a c) := by
  have len : (wordAt stem a c).length = stem.length + 1 := by
    rw [TL.len_tl, tl_word, TL.len_tl, List.length_append, List.length_cons]
    have := congrArg List.length (List.take_append_drop a (tl stem))
    rw [List.length_append] at this
    omega
  refine ⟨by omega, by omega, fun x hx => ?_⟩
  rw [tl_word] at hx
  rcases List.mem_append.mp hx with h | h
  · exact hs x (List.mem_of_mem_take h)
  · rcases List.mem_cons.mp h with h | h
    · rw [h]; exact hc
    · exact hs x (List.mem_of_mem_drop h)
theorem Frm.putNew {p d : Addr} {H H2 : Hp} {xs : List V} {o : HO} (f : Frm p H H2) (nd : H d = none) (h : H2 d = some (.lst xs)) : Frm p H (upd H2 d o) := ⟨fun b u e nb => by rw [upd_ne (ne_of_none e nd)]; exact f _ _ e nb, fun c hc => by
  obtain ⟨k, l', e⟩ := f.ce c hc
  exact ⟨k, l', by rw [upd_ne (ne_of e h (by intro z; cases z))]; exact e⟩⟩
def spPickS : Sp := fun vs H Q _ => ∃ (p : Addr) (s : Str) (n : Nat), vs = [.ref p, .str s] ∧ 0 < s.length ∧ s.length ≤ 1000 ∧ Pen H p n ∧ n ≤ 1000000 ∧ ∀ (c : Nat) (H' : Hp), c ∈ tl s → Pen H' p (n + 1) → Frm p H H' → Q (.str (ch c)) H'
def spWords : Sp := fun vs H Q _ => ∃ (p : Addr) (m n : Nat), vs = [.ref p, .int (m : Nat)] ∧ m ≤ 4 ∧ Pen H p n ∧ n ≤ 800000 ∧
  ∀ (a : Addr) (ws : List Str) (H' : Hp), H a = none → H' a = some (.lst (ws.map V.str)) → ws.length = m → (∀ w ∈ ws, Word w) → ws.Pairwise (· ≠ ·) → Pen H' p (n + 20) → Frm p H H' → Q (.ref a) H'
section
variable {P : Program} {w : World} {K : PySem.W.Frag} {mg : Str → Option Value} {base : Heap}
theorem ok_pickS {f : Addr} {fd : FuncData} (F : Fun K "_law_pick" "_law_pick" sPick f fd) (B : Bl mg) (D : Cl P w K mg base 1 "_law_draw" ["_law_pen_here", "_law_many"] spDraw) : FnOk P w K mg base CX0 2 f fd ["_law_pen_here", "_law_items"] spPickS := by
  refine F.ok scPick (fun vs H Q E h => ?_) (fun cdv A outer s H vs Q E hr h => ?_)
  · obtain ⟨p, s, n, rfl, _⟩ := h
    rfl
  · obtain ⟨p, x, n, rfl, h0, h1, hP, hn, q⟩ := h
    refine ⟨_, pss_one (ps_ret (pe_ix ix_str (pv 1) (pe_cl D hr (by decide) (by rfl) (pa_cons (pv 0) (pa_cons (pe_callB call_len_str (by rfl) B.len PySem.boot_len (pa_cons (pv 1) pa_nil)) pa_nil))) (fun _ _ => rfl))), ?_⟩
    refine ⟨_, rfl, _, rfl, _, rfl, x, rfl, sz1 (by omega), p, x.length, n, rfl, by omega, ?_, hP, hn, fun r H' hr0 hr1 hP' hF => ?_⟩
    · have : x.length < 2 ^ 200 := Nat.lt_of_le_of_lt h1 (by decide)
      simpa using this
    · have hj : r.toNat < (tl x).length := by rw [← TL.len_tl]; omega
      refine ⟨x, r, (tl x)[r.toNat], rfl, rfl, sz1 (by omega), ?_, q _ _ (List.getElem_mem hj) hP' hF⟩
      have := atI_nat (xs := tl x) (j := r.toNat) (v := (tl x)[r.toNat]) (List.getElem?_eq_getElem hj)
      rw [Int.toNat_of_nonneg hr0] at this
      exact this
abbrev wN : List Str := ["_law_pen_here", "_law_many", "_law_letters", "_law_stem", "_law_at", "_law_front", "_law_step", "_law_own", "_law_k", "_law_letter"]
theorem scWd : FnScope ["_law_pen_here", "_law_many", "_law_letters", "_law_stem", "_law_at", "_law_front", "_law_step", "_law_own", "_law_k", "_law_letter"] ["_law_pen_here", "_law_many"] (defScope sWords) := ⟨rfl, rfl, rfl, by decide +kernel, rfl, by decide +kernel, by decide +kernel⟩
theorem ok_words {f : Addr} {fd : FuncData} (F : Fun K "_law_words" "_law_words" sWords f fd) (B : Bd mg) (D : Cl P w K mg base 1 "_law_draw" ["_law_pen_here", "_law_many"] spDraw) (PI : Cl P w K mg base 2 "_law_pick" ["_law_pen_here", "_law_items"] (spPick K)) (PS : Cl P w K mg base 2 "_law_pick" ["_law_pen_here", "_law_items"] spPickS) :
    FnOk P w K mg base CX0 3 f fd ["_law_pen_here", "_law_many"] spWords := by
  refine F.ok scWd (fun vs H Q E h => ?_) (fun cdv A outer s H vs Q E hr h => ?_)
  · obtain ⟨p, m, n, rfl, _⟩ := h
    rfl
  · obtain ⟨p, m, n, rfl, hm, hP, hn, q⟩ := h
    have nd := scWd.nd
    refine ⟨_, pss_cons (ps_set (i := 2) nd rfl (.inr rfl) pe_str)
      (pss_cons (ps_set (i := 3) nd rfl (.inr rfl) (pe_join pe_str
        (pe_lc (own := [("_law_k", 8)]) (g := gName 8) (tt := tYes) rfl nd (pi_range1 (by rfl) B.range (pa_cons (pe_cl D hr (by decide) (by rfl) (pa_cons (pv 0) (pa_cons pe_int pa_nil))) pa_nil)) (blkOk_by (N := wN) (sc := defScope sWords) (by decide +kernel))
          (fun _ _ _ _ _ => pg_name (i := 8) nd rfl (.inl rfl)) (fun _ _ _ _ _ => pts_nil) (fun _ _ _ _ _ => pe_cl PS hr (by decide) (by rfl) (pa_cons (pv 0) (pa_cons (pv 2) pa_nil))))))
      (pss_cons (ps_asg (pe_tup (pa_cons (pe_cl D hr (by decide) (by rfl) (pa_cons (pv 0) (pa_cons (pe_op op_add (pe_callB call_len_str (by rfl) B.len PySem.boot_len (pa_cons (pv 3) pa_nil)) pe_int) pa_nil)))
          (pa_cons (pe_cl D hr (by decide) (by rfl) (pa_cons (pv 0) (pa_cons pe_int pa_nil))) (pa_cons (pe_cl PI hr (by decide) (by rfl) (pa_cons (pv 0) (pa_cons (pe_lst (pa_cons pe_int (pa_cons pe_int (pa_cons pe_int (pa_cons pe_int (pa_cons pe_int (pa_cons pe_int (pa_cons pe_int (pa_cons pe_int pa_nil))))))))) pa_nil))) pa_nil))))
          (pg_tup rfl (pgs_cons (pg_name (i := 4) nd rfl (.inr rfl)) (pgs_cons (pg_name (i := 5) nd rfl (.inr rfl)) (pgs_cons (pg_name (i := 6) nd rfl (.inr rfl)) pgs_nil)))))
      (pss_cons (ps_setLc (i := 7) (own := [("_law_k", 8)]) (g := gName 8) (tt := tYes) rfl nd rfl rfl (sw_true rfl rfl rfl (by decide +kernel)) (pi_range1 (by rfl) B.range (pa_cons (pv 1) pa_nil)) (blkOk_by (N := wN) (sc := defScope sWords) (by decide +kernel))
          (fun _ _ _ _ _ => pg_name (i := 8) nd rfl (.inl rfl)) (fun _ _ _ _ _ => pts_nil) (fun _ _ _ _ _ => pe_ix ix_str (pv 2) (pe_op op_mod (pe_callTy call_int1 (by rfl) B.int bt_int (pa_cons (pe_op op_add (pv 5) (pe_op op_mul (pv 6) (pv 8))) pa_nil)) pe_int) (fun _ _ => rfl)))
      (pss_one (ps_ret (pe_lc (own := [("_law_letter", 9)]) (g := gName 9) (tt := tYes) rfl nd (pi_list (pv 7)) (blkOk_by (N := wN) (sc := defScope sWords) (by decide +kernel))
          (fun _ _ _ _ _ => pg_name (i := 9) nd rfl (.inl rfl)) (fun _ _ _ _ _ => pts_nil) (fun _ _ _ _ _ => pe_op op_add_str (pe_op op_add_str (pe_slice sl_str (pv 3) po_none (po_some (pv 4))) (pv 9)) (pe_slice sl_str (pv 3) (po_some (pv 4)) po_none)))))))), ?_⟩
    obtain ⟨c0, hc0, hcn⟩ := hP.cells
    refine ⟨⟨_, rfl⟩, _, rfl, p, 8, n, rfl, by decide, by decide, hP, by omega, fun r H1 r0 r1 P1 F1 => ?_⟩
    have hc1 := F1.ce c0 hc0
    refine ⟨r, rfl, by omega, by omega, fun d hd => ?_⟩
    have ncd : c0 ≠ d := fun e => by
      cases hx : H c0 with
      | none => exact hcn hx
      | some o =>
        obtain ⟨kvs, hp⟩ := hP.dict
        obtain ⟨c1, ns1, k1, l1, hp1, hcs, _⟩ := hP
        obtain rfl := hc0.inj hp1
        have := F1 _ _ hcs (ne_of hcs hp1 (by intro z; cases z))
        rw [e, hd] at this
        cases this
    refine lc_range (lo := 0) (n := r.toNat) (fun i G => ∃ cs : List Nat, cs.length = i ∧ (∀ c ∈ cs, c ∈ tl letters) ∧ G d = some (.lst ((cs.map ch).map V.str)) ∧ Pen G p (n + 1 + i) ∧ Frm p H1 G)
      ⟨[], rfl, (fun _ z => nomatch z), upd_same, P1.new hd, Frm.new hd⟩ ?_ ?_
    · rintro i G hi ⟨cs, lc, hcs, hD, PG, FG⟩
      refine ⟨rfl, yesT ?_⟩
      refine ⟨_, rfl, _, rfl, p, letters, _, rfl, by decide, by decide, PG, by omega, fun c G2 hc P2 F2 => ?_⟩
      have hD2 := F2.lst PG hD
      have FF := FG.trans F2
      refine ⟨_, hD2, small1000 (by rw [List.length_map, List.length_map]; omega), cs ++ [c], by rw [List.length_append, lc]; rfl, fun x hx => ?_, ?_, (P2.put (FF.ce c0 hc1) hD2 ncd).mono (by omega), FF.putNew hd hD2⟩
      · rcases List.mem_append.mp hx with k | k
        · exact hcs x k
        · rw [List.mem_singleton.mp k]; exact hc
      · rw [upd_same, List.map_append, List.map_append]
        rfl
    · rintro G ⟨cs, lc, hcs, hD, PG, FG⟩
      have l0 : ("" : Str).length = 0 := by decide
      refine ⟨_, d, cs.map ch, rfl, rfl, .inl (.inl (.inl hD)), ?_, ?_⟩
      · have := sum_le (cs.map ch) 1 (fun w hw => by
          obtain ⟨c, _, rfl⟩ := List.mem_map.mp hw
          exact Nat.le_refl 1)
        rw [List.length_map] at this ⊢
        rw [l0]
        omega
      generalize hstem : Txt.join (Str.ofString "") (cs.map ch) = stem
      have tls : tl stem = cs := by rw [← hstem]; exact tl_join0 cs
      have lens : stem.length = cs.length := by rw [TL.len_tl, tls]
      have l7 : stem.length ≤ 7 := by omega
      have azs : ∀ x ∈ tl stem, 97 ≤ x ∧ x ≤ 122 := fun x hx => let_az (hcs x (by rw [← tls]; exact hx))
      have FH := F1.trans FG
      clear hD hd hstem tls FG
      refine ⟨_, rfl, _, rfl, stem, rfl, sz1 (by omega), _, _, rfl, rfl, p, _, _, rfl, by omega, ?_, PG, by omega, fun a0 H2 a00 a01 P2 F2 => ?_⟩
      · exact Nat.lt_of_le_of_lt (show (((stem.length : Nat) : Int) + 1).natAbs ≤ 20 by omega) (by decide)
      obtain ⟨a, rfl⟩ : ∃ a : Nat, a0 = (a : Int) := ⟨a0.toNat, by omega⟩
      refine ⟨_, rfl, p, 26, _, rfl, by decide, by decide, P2, by omega, fun front H3 f0 _ P3 F3 => ?_⟩
      refine ⟨_, rfl, by show 8 ≤ sizeLine; decide, fun l nl => ?_⟩
      refine ⟨p, l, stepsL.map V.int, _, rfl, .inl (.inl upd_same), by show 0 < 8; decide, by show 8 ≤ 1000; decide, P3.new nl, by omega, fun v H4 hv P4 F4 => ?_⟩
      obtain ⟨step, hs, rfl⟩ := List.mem_map.mp hv
      refine ⟨by show 3 ≤ sizeLine; decide, fun t nt => ?_⟩
      refine ⟨t, _, rfl, .inl (.inl upd_same), rfl, _, _, rfl, _, _, rfl, _, _, rfl, rfl, ?_⟩
      have st := same_lay (o := .tup [.int (a : Int), .int front, .int step]) nt
      have P5 := P4.same' st
      have FH5 := (((FH.trans F2).trans F3).trans ((Frm.new (o := .lst (stepsL.map V.int)) nl).trans F4)).trans (frmS st)
      generalize upd H4 t (.tup [.int (a : Int), .int front, .int step]) = H5 at P5 FH5 st
      clear st P4 F4 nt hv P3 F3 nl P2 F2 FH
      have sb : -200 ≤ step ∧ step ≤ 200 := by
        unfold stepsL at hs
        simp only [List.mem_cons, List.not_mem_nil, or_false] at hs
        omega
      -- the own letters
      refine ⟨_, rfl, m, rfl, by omega, by omega, fun d2 hd2 => lc_range (lo := 0) (n := ((m : Nat) : Int).toNat) (fun i G => G d2 = some (.lst (((List.range i).map fun k => ch (own front step k)).map V.str)) ∧ Same H5 G) ⟨upd_same, same_lay hd2⟩ ?_ ?_⟩
      · rintro i G hi ⟨hD, sG⟩
        have hi4 : i < 4 := by omega
        refine ⟨rfl, yesT ?_⟩
        have mb := mod_bd (front + step * (0 + (i : Int))) 26 (by decide)
        have hat : atI (tl letters) ((front + step * (0 + (i : Int))) % 26) = some (own front step i) := by
          have := atI_nat (let_at (j := ((front + step * (0 + (i : Int))) % 26).toNat) (by omega))
          rw [Int.toNat_of_nonneg mb.1] at this
          rw [this]
          unfold own
          rw [Int.zero_add]
        refine ⟨_, rfl, _, rfl, _, rfl, _, rfl, _, _, rfl, rfl, .inl (by constructor <;> omega), _, _, rfl, rfl, .inl ⟨_, rfl, _, _, rfl, rfl, (by show (0 : Int) < 26; decide), letters, _, own front step i, rfl, rfl, by decide, hat, _, hD, small1000 ?_, ?_, same_upd sG hd2⟩⟩
        · rw [List.length_map, List.length_map, List.length_range]; omega
        · rw [upd_same, List.range_succ, List.map_append, List.map_append]
          rfl
      · rintro G2 ⟨hD, sG⟩
        have em : ((m : Nat) : Int).toNat = m := Int.toNat_natCast m
        rw [em] at hD
        have P6 := P5.same' sG
        have F6 := FH5.trans (frmS sG)
        have lm : (((List.range m).map fun k => ch (own front step k)).map V.str).length = m := by rw [List.length_map, List.length_map, List.length_range]
        refine ⟨_, rfl, d2, rfl, ⟨_, .inl (.inl hD)⟩, fun d3 hd3 => lc_list (K := K) (a := d2) (xs := ((List.range m).map fun k => ch (own front step k)).map V.str) (fun i G => G d3 = some (.lst (((List.range i).map fun k => wordAt stem a (own front step k)).map V.str)) ∧ Same G2 G) ⟨upd_same, same_lay hd3⟩
          (fun i G _ ⟨_, s⟩ => .inl (.inl (s _ _ hD))) ?_ ?_⟩
        · rintro i y G3 hy ⟨hD3, sG3⟩
          have him : i < m := by
            have := (List.getElem?_eq_some_iff.mp hy).1
            rw [lm] at this
            exact this
          rw [List.getElem?_map, List.getElem?_map, List.getElem?_range him] at hy
          cases hy
          have la := cutS_length stem none (some (a : Int))
          have lb := cutS_length stem (some (a : Int)) none
          refine ⟨rfl, yesT ?_⟩
          refine ⟨_, rfl, _, rfl, _, rfl, stem, rfl, sz1 (by omega), _, rfl, _, _, rfl, rfl, sz1 ?_, _, rfl, _, rfl, _, rfl, stem, rfl, sz1 (by omega), _, _, rfl, rfl, sz1 ?_, _, hD3, small1000 ?_, ?_, same_upd sG3 hd3⟩
          · show (cutS stem none (some (a : Int))).length + 1 ≤ 20000
            omega
          · rw [len_app]
            show (cutS stem none (some (a : Int))).length + 1 + _ ≤ 20000
            omega
          · rw [List.length_map, List.length_map, List.length_range]; omega
          · rw [upd_same, List.range_succ, List.map_append, List.map_append]
            rfl
        · rintro G3 ⟨hD3, sG3⟩
          rw [lm] at hD3
          refine q d3 _ G3 ?_ hD3 (by rw [List.length_map, List.length_range]) (fun w hw => ?_) ?_ ((P6.same' sG3).mono (by omega)) (F6.trans (frmS sG3))
          · cases hx : H d3 with
            | none => rfl
            | some o =>
              exfalso
              by_cases ep : d3 = p
              · obtain ⟨kvs, hp⟩ := (P6).dict
                rw [ep, hp] at hd3
                cases hd3
              · have := F6 _ _ hx ep
                rw [this] at hd3
                cases hd3
          · obtain ⟨k, hk, rfl⟩ := List.mem_map.mp hw
            have mb := mod_bd (front + step * (k : Int)) 26 (by decide)
            exact word_ok l7 azs (by unfold own; omega)
          · refine List.pairwise_map.mpr ?_
            refine List.Pairwise.imp_of_mem (fun {x y} hx hy hxy e => ?_) (List.pairwise_lt_range (n := m))
            have hy4 := List.mem_range.mp hy
            exact own_ne f0 hs hxy (by omega) (word_inj e)
end
end OR

namespace OR
open PySem PySem.Spec PyProof.Rows L2
open TL (tl numL)
/-- an item of a list or a tuple -/
def rIxA (K : PySem.W.Frag) : R2 := fun x y H Q => ∃ p xs i v, x = .ref p ∧ y = .int i ∧ (SqL K H p xs ∨ SqT K H p xs) ∧ atI xs i = some v ∧ Q v H
theorem ix_any {X : Cx} (K : PySem.W.Frag) (hK : X.K = K) : IxR X (rIxA K) := by
  subst hK
  intro value slice pins s σ H x y v u Q I rx ry h hs
  obtain ⟨p, xs, i, z, hx, hy, hq | hq, he, q⟩ := h
  · exact ix_list value slice pins s σ H x y v u Q I rx ry ⟨p, xs, i, z, hx, hy, hq, he, q⟩ hs
  · exact ix_tup value slice pins s σ H x y v u Q I rx ry ⟨p, xs, i, z, hx, hy, hq, he, q⟩ hs
theorem szA {a b : Str} (ha : a.length ≤ 200) (hb : b.length ≤ 200) : a.length + b.length ≤ sizeLine := sz1 (by omega)
def IsT (H : Hp) (t : Addr) (a b : Int) : Prop := H t = some (.tup [.int a, .int b])
theorem IsT.frm {H H' : Hp} {t p : Addr} {a b : Int} {n : Nat} (h : IsT H t a b) (f : Frm p H H') (P : Pen H p n) : IsT H' t a b := by
  obtain ⟨c, ns, k, l, hp, _⟩ := P
  exact f _ _ h (ne_of h hp (by intro z; cases z))
theorem IsT.same {H H' : Hp} {t : Addr} {a b : Int} (h : IsT H t a b) (s : Same H H') : IsT H' t a b := s _ _ h
theorem same_new {H : Hp} {q : Addr} {o : HO} (h : H q = none) : Same H (upd H q o) := fun b x e => by rw [upd_ne (ne_of_none e h)]; exact e
theorem at0 {a b : V} : atI [a, b] 0 = some a := atI_nat (j := 0) rfl
theorem at1 {a b : V} : atI [a, b] 1 = some b := atI_nat (j := 1) rfl
def spLine : Sp := fun vs H Q _ => ∃ (p : Addr) (n : Nat), vs = [.ref p] ∧ Pen H p n ∧ n ≤ 800000 ∧
  ∀ (t : Addr) (H' : Hp) (a b : Int), H t = none → -(10 ^ 9) ≤ a → a ≤ 10 ^ 9 → -(10 ^ 30) < b → b < 10 ^ 30 → Pen H' p (n + 6) → IsT H' t a b → Frm p H H' → Q (.ref t) H'

/-! ### clauses as tuples -/
def spT (i : Nat) (f : Str) (r : Addr) (x : List V) : List V := .str (kName i) :: .str f :: .ref r :: x
structure RowsAt (H : Hp) (r : Addr) (L : List ARow) : Prop where
  at_ : H r = some (.lst (refs L))
  rw_ : AtR H L
  ok : ∀ q ∈ rws L, okRow q = true
  nf : Nf (rws L)
  few : L.length ≤ 20
theorem RowsAt.same {H H' : Hp} {r : Addr} {L : List ARow} (h : RowsAt H r L) (s : Same H H') : RowsAt H' r L := ⟨s _ _ h.at_, h.rw_.same s, h.ok, h.nf, h.few⟩
theorem RowsAt.frm {H H' : Hp} {r p : Addr} {n : Nat} {L : List ARow} (h : RowsAt H r L) (f : Frm p H H') (P : Pen H p n) : RowsAt H' r L := ⟨f.lst P h.at_, h.rw_.frm f P, h.ok, h.nf, h.few⟩
theorem Frm.tp {H H' : Hp} {p a : Addr} {n : Nat} {xs : List V} (f : Frm p H H') (P : Pen H p n) (h : H a = some (.tup xs)) : H' a = some (.tup xs) := by
  obtain ⟨kvs, hp⟩ := P.dict
  exact f _ _ h (ne_of h hp (by intro z; cases z))
/-- numbers that are not great -/
def Small30 (x : List V) : Prop := ∀ a : Int, V.int a ∈ x → a.natAbs < 10 ^ 31
/-- the other function, where there is one -/
def OtherIs (g : Str) : Nat → List V → Prop
  | 2, x => x = [.str g]
  | 5, x => ∃ s a b, x = [.str s, .str g, .int a, .int b]
  | _, _ => True
/-- how great the numbers are -/
def Slp : Nat → List V → Prop
  | 4, x => ∃ s a b, x = [.str s, .int a, .int b] ∧ a.natAbs ≤ 10 ^ 9 ∧ b.natAbs < 10 ^ 31
  | 5, x => ∃ s g a b, x = [.str s, .str g, .int a, .int b] ∧ a.natAbs ≤ 10 ^ 9 ∧ b.natAbs < 10 ^ 31
  | 6, x => ∃ s b, x = [.str s, .int b] ∧ b.natAbs < 10 ^ 31
  | _, _ => True
theorem kinds7 {i : Nat} (h : i < 7) : i = 0 ∨ i = 1 ∨ i = 2 ∨ i = 3 ∨ i = 4 ∨ i = 5 ∨ i = 6 := by omega
def spSpec (K : PySem.W.Frag) : Sp := fun vs H Q _ => ∃ (p wl r : Addr) (i : Nat) (f g : Str) (rest : List V) (n : Nat), vs = [.ref p, .ref wl, .ref r, .str (kName i)] ∧ i < 7 ∧ SqL K H wl (.str f :: .str g :: rest) ∧ Word f ∧ Word g ∧ g ≠ f ∧ Pen H p n ∧ n ≤ 700000 ∧
  ∀ (t : Addr) (x : List V) (H' : Hp), WF i f x → Small30 x → OtherIs g i x → Slp i x → H' t = some (.tup (spT i f r x)) → Pen H' p (n + 10) → Frm p H H' → Q (.ref t) H'
def spFuncs : Sp := fun vs H Q _ => ∃ (t : Addr) (i : Nat) (f : Str) (r : Addr) (x : List V), vs = [.ref t] ∧ H t = some (.tup (spT i f r x)) ∧ i < 7 ∧ WF i f x ∧ ∀ u, H u = none → Q (.ref u) (upd H u (.tup (told i f x)))
def spClause (CP : Addr) (C : Nat → Addr) : Sp := fun vs H Q _ => ∃ (t : Addr) (i : Nat) (f : Str) (r : Addr) (x : List V) (L : List ARow), vs = [.ref t] ∧ H t = some (.tup (spT i f r x)) ∧ i < 7 ∧ Word f ∧ WF i f x ∧ RowsAt H r L ∧
  ∀ (z : Addr) (H' : Hp), IsC CP C H' z i f (rws L) x → Same H H' → Q (.ref z) H'
def spParts (CP : Addr) (C : Nat → Addr) : Sp := fun vs H Q _ => ∃ (z : Addr) (i : Nat) (f : Str) (l : List Row) (x : List V), vs = [.ref z] ∧ IsC CP C H z i f l x ∧
  ∀ (t r : Addr) (M : List ARow) (H' : Hp), H' t = some (.tup (spT i f r x)) → H' r = some (.lst (refs M)) → AtR H' M → rws M = l → Same H H' → Q (.ref t) H'
theorem sign_of {v : V} (h : v ∈ ([.str "<=", .str ">=", .str "="] : List V)) : ∃ s, v = .str s ∧ isSign s := by
  simp only [List.mem_cons, List.not_mem_nil, or_false] at h
  rcases h with e | e | e <;> subst e
  · exact ⟨_, rfl, .inl rfl⟩
  · exact ⟨_, rfl, .inr (.inl rfl)⟩
  · exact ⟨_, rfl, .inr (.inr rfl)⟩
theorem way_of {v : V} (h : v ∈ ([.str "up", .str "down"] : List V)) : ∃ s, v = .str s ∧ isWay s := by
  simp only [List.mem_cons, List.not_mem_nil, or_false] at h
  rcases h with e | e <;> subst e
  · exact ⟨_, rfl, .inl rfl⟩
  · exact ⟨_, rfl, .inr rfl⟩
/-- an own class of clauses is made -/
structure CMk (P : Program) (w : World) (K : PySem.W.Frag) (mg : Str → Option Value) (base : Heap) (C : Nat → Addr) (i : Nat) (ps : List Str) : Prop where
  made : ∃ f fd, Mk K (C i) f ∧ FnOk P w K mg base CX0 4 f fd ps (spCInit C i) ∧ Binds K fd ps []
  mgC : mg (clsName i) = some (.ref (C i))
def tMkC (C : Nat → Addr) (i : Nat) (t : TA) : TE := fun σ H Q => t σ H fun vs H1 => ∃ (f : Str) (pl : Addr) (x : List V), vs = .str f :: .ref pl :: x ∧ Word f ∧ WF i f x ∧ ∀ z dx H', H1 z = none → H' z = some (.ins (C i) dx (cFl i f pl x)) → Same H1 H' → Q (.ref z) H'
theorem pe_mkC {X : Cx} {C : Nat → Addr} {i j : Nat} {ps : List Str} {nm : Str} {e : Expr} {es : List Expr} {t : TA} {p pos : Pos} (M : CMk X.prog X.w X.K X.mg X.base C i ps) (hn : clsName i = nm) (hr : Room j X.A) (hj : 5 ≤ j) (hg : Gl X nm) (ha : PA X (e :: es) t) (hd : (nm == ("__debug__" : Str)) = false := by decide)
    (he : starEach (e :: es) X.env = (false, eval e X.env) :: starEach es X.env := by rfl) (hpl : (backTo pos (starEach es X.env)).any (·.1) = false := by rfl) : PE X (.Call (.Name nm p) (e :: es) [] pos) (tMkC C i t) := by
  subst hn
  obtain ⟨f, fd, mk, F, hb⟩ := M.made
  refine ⟨fun pins s σ H Q I h => ?_⟩
  refine wpAny_Call_Name_kw (ld_glob I hg M.mgC ?_ hd)
  refine PySem.W.callWith_K (h₀ := X.base) I.ok.mod.kin mk.kp (thn (ha.run pos pins s σ H _ I h) fun us s1 ⟨vs, H1, I1, r, q⟩ => ⟨I1.kIn, ?_⟩) he hpl
  obtain ⟨f1, pl, x, rfl, hw, wf, q⟩ := q
  refine run_make mk F (hr.mono hj) hb .nil pass0 I1 r fun z dx nz ndx nex => ?_
  refine ⟨z, dx, f1, pl, x, by rw [List.append_nil], hw, wf, upd_same, fun H' hx hs => ⟨rfl, q z dx H' nz hx fun c o e => ?_⟩⟩
  have ncz : c ≠ z := ne_of_none e nz
  refine hs c o ?_ ncz
  rw [upd_ne ncz, upd_ne (ne_of_none e ndx)]
  exact e
section
variable {P : Program} {w : World} {K : PySem.W.Frag} {mg : Str → Option Value} {base : Heap} {C : Nat → Addr} {CP CL : Addr} {ts tw : Addr}
theorem scLn : FnScope ["_law_pen_here", "_law_slope"] ["_law_pen_here"] (defScope sLine) := ⟨rfl, rfl, rfl, by decide +kernel, rfl, by decide +kernel, by decide +kernel⟩
theorem ok_line {f : Addr} {fd : FuncData} (F : Fun K "_law_line" "_law_line" sLine f fd) (D : Cl P w K mg base 1 "_law_draw" ["_law_pen_here", "_law_many"] spDraw) (C : Cl P w K mg base 2 "_law_pick" ["_law_pen_here", "_law_items"] (spPick K)) (W : Cl P w K mg base 3 "_law_whole" ["_law_pen_here"] spWhole) :
    FnOk P w K mg base CX0 4 f fd ["_law_pen_here"] spLine := by
  refine F.ok scLn (fun vs H Q E h => ?_) (fun cdv A outer s H vs Q E hr h => ?_)
  · obtain ⟨p, n, rfl, _⟩ := h
    rfl
  · obtain ⟨p, n, rfl, hP, hn, q⟩ := h
    refine ⟨_, pss_cons (ps_set (i := 1) scLn.nd rfl (.inl rfl) (pe_cl C hr (by decide) (by rfl) (pa_cons (pv 0) (pa_cons (pe_lst (pa_cons pe_int (pa_cons pe_int (pa_cons (pe_un un_neg pe_int) (pa_cons pe_int (pa_cons (pe_un un_neg pe_int)
        (pa_cons (pe_cl D hr (by decide) (by rfl) (pa_cons (pv 0) (pa_cons (pe_op op_add (pe_op op_pow pe_int pe_int) pe_int) pa_nil)))
        (pa_cons (pe_un un_neg (pe_cl D hr (by decide) (by rfl) (pa_cons (pv 0) (pa_cons (pe_op op_add (pe_op op_pow pe_int pe_int) pe_int) pa_nil)))) pa_nil)))))))) pa_nil))))
      (pss_one (ps_ret (pe_tup (pa_cons (pv 1) (pa_cons (pe_cl W hr (by decide) (by rfl) (pa_cons (pv 0) pa_nil)) pa_nil))))), ?_⟩
    have hpow : CPow 10 9 := ⟨by decide, by decide, by decide⟩
    have hm0 : (0 : Int) < 10 ^ (9 : Int).toNat + 1 := by decide
    have hm1 : ((10 : Int) ^ (9 : Int).toNat + 1).natAbs < 2 ^ 200 := by decide
    refine ⟨_, rfl, 1, rfl, 3, rfl, _, rfl, _, _, rfl, rfl, hpow, _, _, rfl, rfl, p, _, n, rfl, hm0, hm1, hP, by omega, fun r1 H1 h10 h11 P1 F1 => ?_⟩
    refine ⟨_, rfl, _, _, rfl, rfl, hpow, _, _, rfl, rfl, p, _, n + 1, rfl, hm0, hm1, P1, by omega, fun r2 H2 h20 h21 P2 F2 => ?_⟩
    refine ⟨r2, rfl, by show 7 ≤ sizeLine; decide, fun q1 hq1 => ?_⟩
    refine ⟨p, q1, _, n + 2, rfl, .inl (.inl upd_same), by show 0 < 7; decide, by show 7 ≤ 1000; decide, P2.new hq1, by omega, fun v H3 hv P3 F3 => ?_⟩
    obtain ⟨a, rfl, ha1, ha2⟩ : ∃ a : Int, v = .int a ∧ -(10 ^ 9) ≤ a ∧ a ≤ 10 ^ 9 := by
      have h11' : r1 < 10 ^ 9 + 1 := h11
      have h21' : r2 < 10 ^ 9 + 1 := h21
      simp only [List.mem_cons, List.not_mem_nil, or_false] at hv
      rcases hv with e | e | e | e | e | e | e <;> subst e <;> exact ⟨_, rfl, by omega, by omega⟩
    refine ⟨_, rfl, _, rfl, p, n + 3, rfl, P3, by omega, fun b H4 hb1 hb2 P4 F4 => ?_⟩
    refine ⟨by show 2 ≤ sizeLine; decide, fun t ht => ?_⟩
    have FF : Frm p H H4 := ((F1.trans F2).trans ((Frm.new hq1).trans F3)).trans F4
    have nt : H t = none := by
      cases e : H t with
      | none => rfl
      | some o =>
        by_cases ep : t = p
        · subst ep
          obtain ⟨c, ns, k, l, hp, _⟩ := P4
          rw [hp] at ht
          cases ht
        · rw [FF t o e ep] at ht
          cases ht
    exact q t _ a b nt ha1 ha2 hb1 hb2 (P4.new ht) upd_same (FF.trans (Frm.new ht))
theorem scSpc : FnScope ["_law_pen_here", "_law_words_here", "_law_rows", "_law_kind", "_law_function", "_law_other", "_law_sign", "_law_line_here"] ["_law_pen_here", "_law_words_here", "_law_rows", "_law_kind"] (defScope sSpec) := ⟨rfl, rfl, rfl, by decide +kernel, rfl, by decide +kernel, by decide +kernel⟩
theorem ok_spec {f : Addr} {fd : FuncData} (F : Fun K "_law_spec" "_law_spec" sSpec f fd) (PI : Cl P w K mg base 2 "_law_pick" ["_law_pen_here", "_law_items"] (spPick K)) (LI : Cl P w K mg base 4 "_law_line" ["_law_pen_here"] spLine) : FnOk P w K mg base CX0 5 f fd ["_law_pen_here", "_law_words_here", "_law_rows", "_law_kind"] (spSpec K) := by
  refine F.ok scSpc (fun vs H Q E h => ?_) (fun cdv A outer s0 H vs Q E hr h => ?_)
  · obtain ⟨p, wl, r, i, f1, g, rest, n, rfl, _⟩ := h
    rfl
  · obtain ⟨p, wl, r, i, f1, g, rest, n, rfl, hi, hS, hf, hg, ne, hP, hn, q⟩ := h
    have nd := scSpc.nd
    refine ⟨_, pss_cons (ps_par (i := 4) (j := 5) rfl nd rfl rfl (by decide) rfl rfl (pa_cons (pe_ix ix_list (pv 1) pe_int (fun _ _ => rfl)) (pa_cons (pe_ix ix_list (pv 1) pe_int (fun _ _ => rfl)) pa_nil)) rfl)
      (pss_cons (ps_par (i := 6) (j := 7) rfl nd rfl rfl (by decide) rfl rfl (pa_cons (pe_cl PI hr (by decide) (by rfl) (pa_cons (pv 0) (pa_cons (pe_lst (pa_cons pe_str (pa_cons pe_str (pa_cons pe_str pa_nil)))) pa_nil))) (pa_cons (pe_cl LI hr (by decide) (by rfl) (pa_cons (pv 0) pa_nil)) pa_nil)) rfl)
      (pss_cons (ps_if (pt_cmpR op_eq (pv 3) pe_str (nomark _)) (pss_one (ps_ret (pe_tup (pa_cons (pv 3) (pa_cons (pv 4) (pa_cons (pv 2) (pa_cons (pv 5) pa_nil))))))) pss_nil)
      (pss_cons (ps_if (pt_cmpR op_eq (pv 3) pe_str (nomark _)) (pss_one (ps_ret (pe_tup (pa_cons (pv 3) (pa_cons (pv 4) (pa_cons (pv 2) (pa_cons (pe_cl PI hr (by decide) (by rfl) (pa_cons (pv 0) (pa_cons (pe_lst (pa_cons pe_str (pa_cons pe_str pa_nil))) pa_nil))) pa_nil))))))) pss_nil)
      (pss_cons (ps_if (pt_cmpR op_eq (pv 3) pe_str (nomark _)) (pss_one (ps_ret (pe_op op_catT (pe_tup (pa_cons (pv 3) (pa_cons (pv 4) (pa_cons (pv 2) (pa_cons (pv 6) pa_nil))))) (pv 7)))) pss_nil)
      (pss_cons (ps_if (pt_cmpR op_eq (pv 3) pe_str (nomark _)) (pss_one (ps_ret (pe_op op_catT (pe_tup (pa_cons (pv 3) (pa_cons (pv 4) (pa_cons (pv 2) (pa_cons (pv 6) (pa_cons (pv 5) pa_nil)))))) (pv 7)))) pss_nil)
      (pss_one (ps_ret (pe_ifExp (pt_cmpR op_eq (pv 3) pe_str (nomark _)) (pe_tup (pa_cons (pv 3) (pa_cons (pv 4) (pa_cons (pv 2) (pa_cons (pv 6) (pa_cons (pe_ix ix_tup (pv 7) pe_int (fun _ _ => rfl)) pa_nil)))))) (pe_tup (pa_cons (pv 3) (pa_cons (pv 4) (pa_cons (pv 2) pa_nil)))))))))))), ?_⟩
    refine ⟨_, rfl, wl, _, _, _, rfl, rfl, hS, atI_nat (j := 0) rfl, _, rfl, wl, _, _, _, rfl, rfl, hS, atI_nat (j := 1) rfl, _, _, rfl, ?_⟩
    refine ⟨_, rfl, by show 3 ≤ sizeLine; decide, fun l nl => ?_⟩
    refine ⟨p, l, _, _, rfl, .inl (.inl upd_same), by show 0 < 3; decide, by show 3 ≤ 1000; decide, hP.new nl, by omega, fun v H1 hv P1 F1 => ?_⟩
    obtain ⟨s, rfl, hs⟩ := sign_of hv
    have FF := (Frm.new (o := .lst [.str "<=", .str ">=", .str "="]) nl).trans F1
    clear hv
    refine ⟨_, rfl, p, _, rfl, P1, by omega, fun tl_ H2 a b _ a0 a1 b0 b1 P2 hT F2 => ⟨_, _, rfl, ?_⟩⟩
    have F3 := FF.trans F2
    have na : a.natAbs < 10 ^ 31 := by omega
    have nb : b.natAbs < 10 ^ 31 := by omega
    have na' : Num a := Nat.lt_of_lt_of_le na (by decide)
    have nb' : Num b := Nat.lt_of_lt_of_le nb (by decide)
    have two : 2 ≤ sizeLine := by decide
    have four : 4 ≤ sizeLine := by decide
    have five : 5 ≤ sizeLine := by decide
    have sm0 : Small30 [] := fun _ h => nomatch h
    clear P1 FF F1 F2 hS hP nl
    rcases kinds7 hi with e | e | e | e | e | e | e <;> subst e
    · refine ⟨_, rfl, rfl, _, rfl, ite2 (fun z => absurd (of_decide_eq_true z) (by decide +kernel)) (fun _ => ?_)⟩
      refine ⟨_, rfl, rfl, _, rfl, ite2 (fun z => absurd (of_decide_eq_true z) (by decide +kernel)) (fun _ => ?_)⟩
      refine ⟨_, rfl, rfl, _, rfl, ite2 (fun z => absurd (of_decide_eq_true z) (by decide +kernel)) (fun _ => ?_)⟩
      refine ⟨_, rfl, rfl, _, rfl, ite2 (fun z => absurd (of_decide_eq_true z) (by decide +kernel)) (fun _ => ?_)⟩
      refine ⟨_, rfl, rfl, _, rfl, ite2 (fun z => absurd (of_decide_eq_true z) (by decide +kernel)) (fun _ => ?_)⟩
      refine ⟨_, rfl, _, rfl, _, rfl, by show 3 ≤ sizeLine; decide, fun t nt => ?_⟩
      exact q t [] _ rfl sm0 trivial trivial upd_same ((P2.new nt).mono (by omega)) (F3.trans (frmS (same_lay nt)))
    · refine ⟨_, rfl, rfl, _, rfl, ite2 (fun z => absurd (of_decide_eq_true z) (by decide +kernel)) (fun _ => ?_)⟩
      refine ⟨_, rfl, rfl, _, rfl, ite2 (fun z => absurd (of_decide_eq_true z) (by decide +kernel)) (fun _ => ?_)⟩
      refine ⟨_, rfl, rfl, _, rfl, ite2 (fun z => absurd (of_decide_eq_true z) (by decide +kernel)) (fun _ => ?_)⟩
      refine ⟨_, rfl, rfl, _, rfl, ite2 (fun z => absurd (of_decide_eq_true z) (by decide +kernel)) (fun _ => ?_)⟩
      refine ⟨_, rfl, rfl, _, rfl, ite2 (fun z => absurd (of_decide_eq_true z) (by decide +kernel)) (fun _ => ?_)⟩
      refine ⟨_, rfl, _, rfl, _, rfl, by show 3 ≤ sizeLine; decide, fun t nt => ?_⟩
      exact q t [] _ rfl sm0 trivial trivial upd_same ((P2.new nt).mono (by omega)) (F3.trans (frmS (same_lay nt)))
    · refine ⟨_, rfl, rfl, _, rfl, ite2 (fun _ => ?_) (fun z => absurd (decide_eq_true rfl) z)⟩
      refine ⟨_, rfl, _, rfl, _, rfl, _, rfl, four, fun t nt => ?_⟩
      exact q t [.str g] _ ⟨g, rfl, hg, ne⟩ (fun a h => by simp at h) rfl trivial upd_same ((P2.new nt).mono (by omega)) (F3.trans (frmS (same_lay nt)))
    · refine ⟨_, rfl, rfl, _, rfl, ite2 (fun z => absurd (of_decide_eq_true z) (by decide +kernel)) (fun _ => ?_)⟩
      refine ⟨_, rfl, rfl, _, rfl, ite2 (fun _ => ?_) (fun z => absurd (decide_eq_true rfl) z)⟩
      refine ⟨_, rfl, _, rfl, _, rfl, _, rfl, two, fun l2 nl2 => ?_⟩
      refine ⟨p, l2, _, _, rfl, .inl (.inl upd_same), by show 0 < 2; decide, by show 2 ≤ 1000; decide, P2.new nl2, by omega, fun v H4 hv P4 F4 => ?_⟩
      obtain ⟨w2, rfl, hw2⟩ := way_of hv
      refine ⟨four, fun t nt => ?_⟩
      exact q t [.str w2] _ ⟨w2, rfl, hw2⟩ (fun a h => by simp at h) trivial trivial upd_same ((P4.new nt).mono (by omega)) ((F3.trans ((Frm.new (o := .lst [.str "up", .str "down"]) nl2).trans F4)).trans (frmS (same_lay nt)))
    · refine ⟨_, rfl, rfl, _, rfl, ite2 (fun z => absurd (of_decide_eq_true z) (by decide +kernel)) (fun _ => ?_)⟩
      refine ⟨_, rfl, rfl, _, rfl, ite2 (fun z => absurd (of_decide_eq_true z) (by decide +kernel)) (fun _ => ?_)⟩
      refine ⟨_, rfl, rfl, _, rfl, ite2 (fun _ => ?_) (fun z => absurd (decide_eq_true rfl) z)⟩
      refine ⟨_, rfl, _, rfl, _, rfl, _, rfl, four, fun t nt => ?_⟩
      have st := same_lay (o := .tup [.str "bound", .str f1, .ref r, .str s]) nt
      refine ⟨_, rfl, t, tl_, _, _, rfl, rfl, .inl (.inl upd_same), .inl (.inl (st _ _ hT)), by simp, by show 4 + 2 ≤ sizeLine; decide, (fun z => nomatch z), fun _ t2 nt2 => ?_⟩
      exact q t2 [.str s, .int a, .int b] _ ⟨s, a, b, rfl, hs, na', nb'⟩ (fun c h => by simp at h; rcases h with e | e <;> subst e <;> assumption) trivial ⟨s, a, b, rfl, by omega, nb⟩ upd_same (((P2.new nt).new nt2).mono (by omega)) ((F3.trans (frmS st)).trans (frmS (same_lay nt2)))
    · refine ⟨_, rfl, rfl, _, rfl, ite2 (fun z => absurd (of_decide_eq_true z) (by decide +kernel)) (fun _ => ?_)⟩
      refine ⟨_, rfl, rfl, _, rfl, ite2 (fun z => absurd (of_decide_eq_true z) (by decide +kernel)) (fun _ => ?_)⟩
      refine ⟨_, rfl, rfl, _, rfl, ite2 (fun z => absurd (of_decide_eq_true z) (by decide +kernel)) (fun _ => ?_)⟩
      refine ⟨_, rfl, rfl, _, rfl, ite2 (fun _ => ?_) (fun z => absurd (decide_eq_true rfl) z)⟩
      refine ⟨_, rfl, _, rfl, _, rfl, _, rfl, _, rfl, five, fun t nt => ?_⟩
      have st := same_lay (o := .tup [.str "pair", .str f1, .ref r, .str s, .str g]) nt
      refine ⟨_, rfl, t, tl_, _, _, rfl, rfl, .inl (.inl upd_same), .inl (.inl (st _ _ hT)), by simp, by show 5 + 2 ≤ sizeLine; decide, (fun z => nomatch z), fun _ t2 nt2 => ?_⟩
      exact q t2 [.str s, .str g, .int a, .int b] _ ⟨s, g, a, b, rfl, hs, hg, ne, na', nb'⟩ (fun c h => by simp at h; rcases h with e | e <;> subst e <;> assumption) ⟨s, a, b, rfl⟩ ⟨s, g, a, b, rfl, by omega, nb⟩ upd_same (((P2.new nt).new nt2).mono (by omega)) ((F3.trans (frmS st)).trans (frmS (same_lay nt2)))
    · refine ⟨_, rfl, rfl, _, rfl, ite2 (fun z => absurd (of_decide_eq_true z) (by decide +kernel)) (fun _ => ?_)⟩
      refine ⟨_, rfl, rfl, _, rfl, ite2 (fun z => absurd (of_decide_eq_true z) (by decide +kernel)) (fun _ => ?_)⟩
      refine ⟨_, rfl, rfl, _, rfl, ite2 (fun z => absurd (of_decide_eq_true z) (by decide +kernel)) (fun _ => ?_)⟩
      refine ⟨_, rfl, rfl, _, rfl, ite2 (fun z => absurd (of_decide_eq_true z) (by decide +kernel)) (fun _ => ?_)⟩
      refine ⟨_, rfl, rfl, _, rfl, ite2 (fun _ => ?_) (fun z => absurd (decide_eq_true rfl) z)⟩
      refine ⟨_, rfl, _, rfl, _, rfl, _, rfl, _, rfl, tl_, _, _, _, rfl, rfl, .inl (.inl hT), at1, five, fun t nt => ?_⟩
      exact q t [.str s, .int b] _ ⟨s, b, rfl, hs, nb'⟩ (fun c h => by simp at h; subst h; exact nb) trivial ⟨s, b, rfl, nb⟩ upd_same ((P2.new nt).mono (by omega)) (F3.trans (frmS (same_lay nt)))
end
end OR

namespace OR
open PySem PySem.Spec PyProof.Rows L2
open TL (tl numL)
theorem op_in_seqK {X : Cx} (K : PySem.W.Frag) (hK : X.K = K) : OpR X (compareOp .In) (rIn K false) := by
  subst hK
  exact op_in_seq
theorem szb {a b : Str} (ha : a.length ≤ 2100) (hb : b.length = 1) : a.length + b.length ≤ sizeLine := sz1 (by omega)
theorem szb2 {a b : Str} {k : Nat} (ha : a.length ≤ 2200) (hb : b.length ≤ k) (hk : k ≤ 100 := by decide) : a.length + b.length ≤ sizeLine := sz1 (by omega)
theorem szb3 {a b : Str} (ha : a.length ≤ 2300) (hb : b.length = 1) : a.length + b.length ≤ sizeLine := sz1 (by omega)
theorem szb4 {a b : Str} (ha : a.length ≤ 2400) (hb : b.length ≤ 8) : a.length + b.length ≤ sizeLine := sz1 (by omega)
theorem szb5 {a b : Str} (ha : a.length ≤ 2500) (hb : b.length ≤ 200) : a.length + b.length ≤ sizeLine := sz1 (by omega)

section
variable {P : Program} {w : World} {K : PySem.W.Frag} {mg : Str → Option Value} {base : Heap} {C : Nat → Addr} {CP CL : Addr} {ts tw : Addr}
theorem scCl : FnScope ["_law_spec_here", "_law_kind", "_law_function", "_law_places"] ["_law_spec_here"] (defScope sClause) := ⟨rfl, rfl, rfl, by decide +kernel, rfl, by decide +kernel, by decide +kernel⟩
theorem ok_clause {f : Addr} {fd : FuncData} (F : Fun K "_law_clause" "_law_clause" sClause f fd) (PM : PMk' P w K mg base CP) (M0 : CMk P w K mg base C 0 ["self", "function", "places"]) (M1 : CMk P w K mg base C 1 ["self", "function", "places"]) (M2 : CMk P w K mg base C 2 ["self", "function", "places", "other"]) (M3 : CMk P w K mg base C 3 ["self", "function", "places", "way"]) (M4 : CMk P w K mg base C 4 ["self", "function", "places", "sign", "slope", "height"]) (M5 : CMk P w K mg base C 5 ["self", "function", "places", "sign", "other", "slope", "height"]) (M6 : CMk P w K mg base C 6 ["self", "function", "places", "sign", "height"]) : FnOk P w K mg base CX0 6 f fd ["_law_spec_here"] (spClause CP C) := by
  refine F.ok scCl (fun vs H Q E h => ?_) (fun cdv A outer s0 H vs Q E hr h => ?_)
  · obtain ⟨t, i, f1, r, x, L, rfl, _⟩ := h
    rfl
  · obtain ⟨t, i, f1, r, x, L, rfl, ht, hi, hf, wf, hR, q⟩ := h
    have nd := scCl.nd
    refine ⟨_, pss_cons (ps_par3 (i := 1) (j := 2) (l := 3) rfl nd rfl rfl rfl (by decide) (by decide) (by decide) rfl rfl rfl (pa_cons (pe_ix ix_tup (pv 0) pe_int (fun _ _ => rfl)) (pa_cons (pe_ix ix_tup (pv 0) pe_int (fun _ _ => rfl)) (pa_cons (pe_mkP K rfl PM hr (by decide) (by rfl) (pa_cons (pe_ix ix_tup (pv 0) pe_int (fun _ _ => rfl)) pa_nil)) pa_nil))) rfl)
      (pss_cons (ps_if (pt_cmpR op_eq (pv 1) pe_str (nomark _)) (pss_one (ps_ret (pe_mkC M0 rfl hr (by decide) (by rfl) (pa_cons (pv 2) (pa_cons (pv 3) pa_nil))))) pss_nil)
      (pss_cons (ps_if (pt_cmpR op_eq (pv 1) pe_str (nomark _)) (pss_one (ps_ret (pe_mkC M1 rfl hr (by decide) (by rfl) (pa_cons (pv 2) (pa_cons (pv 3) pa_nil))))) pss_nil)
      (pss_cons (ps_if (pt_cmpR op_eq (pv 1) pe_str (nomark _)) (pss_one (ps_ret (pe_mkC M2 rfl hr (by decide) (by rfl) (pa_cons (pv 2) (pa_cons (pv 3) (pa_cons (pe_ix ix_tup (pv 0) pe_int (fun _ _ => rfl)) pa_nil)))))) pss_nil)
      (pss_cons (ps_if (pt_cmpR op_eq (pv 1) pe_str (nomark _)) (pss_one (ps_ret (pe_mkC M3 rfl hr (by decide) (by rfl) (pa_cons (pv 2) (pa_cons (pv 3) (pa_cons (pe_ix ix_tup (pv 0) pe_int (fun _ _ => rfl)) pa_nil)))))) pss_nil)
      (pss_cons (ps_if (pt_cmpR op_eq (pv 1) pe_str (nomark _)) (pss_one (ps_ret (pe_mkC M4 rfl hr (by decide) (by rfl) (pa_cons (pv 2) (pa_cons (pv 3) (pa_cons (pe_ix ix_tup (pv 0) pe_int (fun _ _ => rfl)) (pa_cons (pe_ix ix_tup (pv 0) pe_int (fun _ _ => rfl)) (pa_cons (pe_ix ix_tup (pv 0) pe_int (fun _ _ => rfl)) pa_nil)))))))) pss_nil)
      (pss_cons (ps_if (pt_cmpR op_eq (pv 1) pe_str (nomark _)) (pss_one (ps_ret (pe_mkC M5 rfl hr (by decide) (by rfl) (pa_cons (pv 2) (pa_cons (pv 3) (pa_cons (pe_ix ix_tup (pv 0) pe_int (fun _ _ => rfl)) (pa_cons (pe_ix ix_tup (pv 0) pe_int (fun _ _ => rfl)) (pa_cons (pe_ix ix_tup (pv 0) pe_int (fun _ _ => rfl)) (pa_cons (pe_ix ix_tup (pv 0) pe_int (fun _ _ => rfl)) pa_nil))))))))) pss_nil)
      (pss_one (ps_ret (pe_mkC M6 rfl hr (by decide) (by rfl) (pa_cons (pv 2) (pa_cons (pv 3) (pa_cons (pe_ix ix_tup (pv 0) pe_int (fun _ _ => rfl)) (pa_cons (pe_ix ix_tup (pv 0) pe_int (fun _ _ => rfl)) pa_nil))))))))))))), ?_⟩
    have fin : ∀ (z dx pl : Addr) (H1 H2 : Hp), IsP CP H1 pl (rws L) → H2 z = some (.ins (C i) dx (cFl i f1 pl x)) → Same H H1 → Same H1 H2 → Q (.ref z) H2 := fun z dx pl H1 H2 hp hz s1 s2 =>
      q z H2 ⟨⟨dx, pl, hz, hp.same s2⟩, hi, hf, wf, hR.ok, by rw [rws_len]; exact hR.few⟩ (s1.trans s2)
    refine ⟨_, rfl, t, _, _, _, rfl, rfl, .inl (.inl ht), atI_nat (j := 0) rfl, _, rfl, t, _, _, _, rfl, rfl, .inl (.inl ht), atI_nat (j := 1) rfl, _, rfl, t, _, _, _, rfl, rfl, .inl (.inl ht), atI_nat (j := 2) rfl, ?_⟩
    refine ⟨r, L, rfl, .inl (.inl (.inl hR.at_)), by have := hR.few; omega, hR.rw_.pairs, hR.ok, fun pl l1 H1 npl hp hm _ S1 => ⟨_, _, _, rfl, ?_⟩⟩
    obtain rfl : l1 = rws L := Nf.unique hp.nf hR.nf hm
    have ht1 := S1 _ _ ht
    rcases kinds7 hi with e | e | e | e | e | e | e <;> subst e
    · have wf0 := wf
      cases (show x = [] from wf0)
      refine ⟨_, rfl, rfl, _, rfl, ite2 (fun _ => ?_) (fun z => absurd (decide_eq_true rfl) z)⟩
      exact ⟨_, rfl, _, rfl, f1, pl, _, rfl, hf, wf, fun z dx H2 _ hz S2 => fin z dx pl H1 H2 hp hz S1 S2⟩
    · have wf0 := wf
      cases (show x = [] from wf0)
      refine ⟨_, rfl, rfl, _, rfl, ite2 (fun z => absurd (of_decide_eq_true z) (by decide +kernel)) (fun _ => ?_)⟩
      refine ⟨_, rfl, rfl, _, rfl, ite2 (fun _ => ?_) (fun z => absurd (decide_eq_true rfl) z)⟩
      exact ⟨_, rfl, _, rfl, f1, pl, _, rfl, hf, wf, fun z dx H2 _ hz S2 => fin z dx pl H1 H2 hp hz S1 S2⟩
    · have wf0 := wf
      obtain ⟨g, rfl, hg, ng⟩ := wf0
      refine ⟨_, rfl, rfl, _, rfl, ite2 (fun z => absurd (of_decide_eq_true z) (by decide +kernel)) (fun _ => ?_)⟩
      refine ⟨_, rfl, rfl, _, rfl, ite2 (fun z => absurd (of_decide_eq_true z) (by decide +kernel)) (fun _ => ?_)⟩
      refine ⟨_, rfl, rfl, _, rfl, ite2 (fun _ => ?_) (fun z => absurd (decide_eq_true rfl) z)⟩
      exact ⟨_, rfl, _, rfl, _, rfl, t, _, _, _, rfl, rfl, .inl (.inl ht1), atI_nat (j := 3) rfl, f1, pl, _, rfl, hf, wf, fun z dx H2 _ hz S2 => fin z dx pl H1 H2 hp hz S1 S2⟩
    · have wf0 := wf
      obtain ⟨w, rfl, hs⟩ := wf0
      refine ⟨_, rfl, rfl, _, rfl, ite2 (fun z => absurd (of_decide_eq_true z) (by decide +kernel)) (fun _ => ?_)⟩
      refine ⟨_, rfl, rfl, _, rfl, ite2 (fun z => absurd (of_decide_eq_true z) (by decide +kernel)) (fun _ => ?_)⟩
      refine ⟨_, rfl, rfl, _, rfl, ite2 (fun z => absurd (of_decide_eq_true z) (by decide +kernel)) (fun _ => ?_)⟩
      refine ⟨_, rfl, rfl, _, rfl, ite2 (fun _ => ?_) (fun z => absurd (decide_eq_true rfl) z)⟩
      exact ⟨_, rfl, _, rfl, _, rfl, t, _, _, _, rfl, rfl, .inl (.inl ht1), atI_nat (j := 3) rfl, f1, pl, _, rfl, hf, wf, fun z dx H2 _ hz S2 => fin z dx pl H1 H2 hp hz S1 S2⟩
    · have wf0 := wf
      obtain ⟨s, a, b, rfl, hs, na, nb⟩ := wf0
      refine ⟨_, rfl, rfl, _, rfl, ite2 (fun z => absurd (of_decide_eq_true z) (by decide +kernel)) (fun _ => ?_)⟩
      refine ⟨_, rfl, rfl, _, rfl, ite2 (fun z => absurd (of_decide_eq_true z) (by decide +kernel)) (fun _ => ?_)⟩
      refine ⟨_, rfl, rfl, _, rfl, ite2 (fun z => absurd (of_decide_eq_true z) (by decide +kernel)) (fun _ => ?_)⟩
      refine ⟨_, rfl, rfl, _, rfl, ite2 (fun z => absurd (of_decide_eq_true z) (by decide +kernel)) (fun _ => ?_)⟩
      refine ⟨_, rfl, rfl, _, rfl, ite2 (fun _ => ?_) (fun z => absurd (decide_eq_true rfl) z)⟩
      exact ⟨_, rfl, _, rfl, _, rfl, t, _, _, _, rfl, rfl, .inl (.inl ht1), atI_nat (j := 3) rfl, _, rfl, t, _, _, _, rfl, rfl, .inl (.inl ht1), atI_nat (j := 4) rfl, _, rfl, t, _, _, _, rfl, rfl, .inl (.inl ht1), atI_nat (j := 5) rfl, f1, pl, _, rfl, hf, wf, fun z dx H2 _ hz S2 => fin z dx pl H1 H2 hp hz S1 S2⟩
    · have wf0 := wf
      obtain ⟨s, g, a, b, rfl, hs, hg, ng, na, nb⟩ := wf0
      refine ⟨_, rfl, rfl, _, rfl, ite2 (fun z => absurd (of_decide_eq_true z) (by decide +kernel)) (fun _ => ?_)⟩
      refine ⟨_, rfl, rfl, _, rfl, ite2 (fun z => absurd (of_decide_eq_true z) (by decide +kernel)) (fun _ => ?_)⟩
      refine ⟨_, rfl, rfl, _, rfl, ite2 (fun z => absurd (of_decide_eq_true z) (by decide +kernel)) (fun _ => ?_)⟩
      refine ⟨_, rfl, rfl, _, rfl, ite2 (fun z => absurd (of_decide_eq_true z) (by decide +kernel)) (fun _ => ?_)⟩
      refine ⟨_, rfl, rfl, _, rfl, ite2 (fun z => absurd (of_decide_eq_true z) (by decide +kernel)) (fun _ => ?_)⟩
      refine ⟨_, rfl, rfl, _, rfl, ite2 (fun _ => ?_) (fun z => absurd (decide_eq_true rfl) z)⟩
      exact ⟨_, rfl, _, rfl, _, rfl, t, _, _, _, rfl, rfl, .inl (.inl ht1), atI_nat (j := 3) rfl, _, rfl, t, _, _, _, rfl, rfl, .inl (.inl ht1), atI_nat (j := 4) rfl, _, rfl, t, _, _, _, rfl, rfl, .inl (.inl ht1), atI_nat (j := 5) rfl, _, rfl, t, _, _, _, rfl, rfl, .inl (.inl ht1), atI_nat (j := 6) rfl, f1, pl, _, rfl, hf, wf, fun z dx H2 _ hz S2 => fin z dx pl H1 H2 hp hz S1 S2⟩
    · have wf0 := wf
      obtain ⟨s, b, rfl, hs, nb⟩ := wf0
      refine ⟨_, rfl, rfl, _, rfl, ite2 (fun z => absurd (of_decide_eq_true z) (by decide +kernel)) (fun _ => ?_)⟩
      refine ⟨_, rfl, rfl, _, rfl, ite2 (fun z => absurd (of_decide_eq_true z) (by decide +kernel)) (fun _ => ?_)⟩
      refine ⟨_, rfl, rfl, _, rfl, ite2 (fun z => absurd (of_decide_eq_true z) (by decide +kernel)) (fun _ => ?_)⟩
      refine ⟨_, rfl, rfl, _, rfl, ite2 (fun z => absurd (of_decide_eq_true z) (by decide +kernel)) (fun _ => ?_)⟩
      refine ⟨_, rfl, rfl, _, rfl, ite2 (fun z => absurd (of_decide_eq_true z) (by decide +kernel)) (fun _ => ?_)⟩
      refine ⟨_, rfl, rfl, _, rfl, ite2 (fun z => absurd (of_decide_eq_true z) (by decide +kernel)) (fun _ => ?_)⟩
      exact ⟨_, rfl, _, rfl, _, rfl, t, _, _, _, rfl, rfl, .inl (.inl ht1), atI_nat (j := 3) rfl, _, rfl, t, _, _, _, rfl, rfl, .inl (.inl ht1), atI_nat (j := 4) rfl, f1, pl, _, rfl, hf, wf, fun z dx H2 _ hz S2 => fin z dx pl H1 H2 hp hz S1 S2⟩
theorem scPa : FnScope ["_law_clause_here", "_law_kind", "_law_start"] ["_law_clause_here"] (defScope sParts) := ⟨rfl, rfl, rfl, by decide +kernel, rfl, by decide +kernel, by decide +kernel⟩
theorem ok_parts {f : Addr} {fd : FuncData} (F : Fun K "_law_parts" "_law_parts" sParts f fd) (B : Bd mg) (T : CTxt K mg C) (PT : PTxt K mg CP) : FnOk P w K mg base CX0 1 f fd ["_law_clause_here"] (spParts CP C) := by
  refine F.ok scPa (fun vs H Q E h => ?_) (fun cdv A outer s0 H vs Q E hr h => ?_)
  · obtain ⟨z, i, f1, l, x, rfl, _⟩ := h
    rfl
  · obtain ⟨z, i, f1, l, x, rfl, hA, q⟩ := h
    have nd := scPa.nd
    refine ⟨_, pss_cons (ps_par (i := 1) (j := 2) rfl nd rfl rfl (by decide) rfl rfl (pa_cons (pe_fld (pv 0) rfl) (pa_cons (pe_tup (pa_cons (pe_fld (pv 0) rfl) (pa_cons (pe_fld (pv 0) rfl) (pa_cons (pe_callTy call_list_of (by rfl) B.list bt_list (pa_cons (pe_fld (pe_fld (pv 0) rfl) rfl) pa_nil)) pa_nil)))) pa_nil)) rfl)
      (pss_cons (ps_if (pt_cmpR op_eq (pv 1) pe_str (nomark _)) (pss_one (ps_ret (pe_op op_catT (pv 2) (pe_tup (pa_cons (pe_fld (pv 0) rfl) pa_nil))))) pss_nil)
      (pss_cons (ps_if (pt_cmpR op_eq (pv 1) pe_str (nomark _)) (pss_one (ps_ret (pe_op op_catT (pv 2) (pe_tup (pa_cons (pe_fld (pv 0) rfl) pa_nil))))) pss_nil)
      (pss_cons (ps_if (pt_cmpR op_eq (pv 1) pe_str (nomark _)) (pss_one (ps_ret (pe_op op_catT (pv 2) (pe_tup (pa_cons (pe_fld (pv 0) rfl) (pa_cons (pe_fld (pv 0) rfl) (pa_cons (pe_fld (pv 0) rfl) pa_nil))))))) pss_nil)
      (pss_cons (ps_if (pt_cmpR op_eq (pv 1) pe_str (nomark _)) (pss_one (ps_ret (pe_op op_catT (pv 2) (pe_tup (pa_cons (pe_fld (pv 0) rfl) (pa_cons (pe_fld (pv 0) rfl) (pa_cons (pe_fld (pv 0) rfl) (pa_cons (pe_fld (pv 0) rfl) pa_nil)))))))) pss_nil)
      (pss_one (ps_ret (pe_ifExp (pt_cmpR op_eq (pv 1) pe_str (nomark _)) (pe_op op_catT (pv 2) (pe_tup (pa_cons (pe_fld (pv 0) rfl) (pa_cons (pe_fld (pv 0) rfl) pa_nil)))) (pv 2)))))))), ?_⟩
    obtain ⟨⟨dx, pl, hz, hp⟩, hi, hw, wf, ok, hl⟩ := hA
    obtain ⟨_, dp, t6, f6, b6, M6, hp6, ht6, hM6, e6, _⟩ := id hp
    refine ⟨_, rfl, fld T hz hi (j := 0) rfl rfl ⟨_, rfl, fld T hz hi (j := 0) rfl rfl ⟨_, rfl, fld T hz hi (j := 1) rfl rfl ⟨_, rfl, fld T hz hi (j := 2) rfl rfl ⟨pl, CP, dp, _, _, rfl, hp6, PT.cl, PT.nS, pFl_s _ _ _, t6, refs M6, rfl, .inr (.inl (.inl ht6)), fun r nr => ⟨by show 3 ≤ sizeLine; decide, fun t nt => ⟨_, _, rfl, ?_⟩⟩⟩⟩⟩⟩⟩
    have s1 := same_lay (o := .lst (refs M6)) nr
    have st := same_lay (o := .tup [.str (kName i), .str f1, .ref r]) nt
    have S2 := s1.trans st
    have hr2 : (upd (upd H r (.lst (refs M6))) t (.tup [.str (kName i), .str f1, .ref r])) r = some (.lst (refs M6)) := st _ _ upd_same
    have ht2 : (upd (upd H r (.lst (refs M6))) t (.tup [.str (kName i), .str f1, .ref r])) t = some (.tup [.str (kName i), .str f1, .ref r]) := upd_same
    generalize upd (upd H r (.lst (refs M6))) t (.tup [.str (kName i), .str f1, .ref r]) = H2 at S2 hr2 ht2
    have hz2 := S2 _ _ hz
    have hM2 := hM6.same S2
    rcases kinds7 hi with e | e | e | e | e | e | e <;> subst e
    · cases (show x = [] from wf)
      refine ⟨_, rfl, rfl, _, rfl, ite2 (fun z => absurd (of_decide_eq_true z) (by decide +kernel)) (fun _ => ?_)⟩
      refine ⟨_, rfl, rfl, _, rfl, ite2 (fun z => absurd (of_decide_eq_true z) (by decide +kernel)) (fun _ => ?_)⟩
      refine ⟨_, rfl, rfl, _, rfl, ite2 (fun z => absurd (of_decide_eq_true z) (by decide +kernel)) (fun _ => ?_)⟩
      refine ⟨_, rfl, rfl, _, rfl, ite2 (fun z => absurd (of_decide_eq_true z) (by decide +kernel)) (fun _ => ?_)⟩
      refine ⟨_, rfl, rfl, _, rfl, ite2 (fun z => absurd (of_decide_eq_true z) (by decide +kernel)) (fun _ => ?_)⟩
      exact ⟨_, rfl, q t r M6 H2 ht2 hr2 hM2 e6 S2⟩
    · cases (show x = [] from wf)
      refine ⟨_, rfl, rfl, _, rfl, ite2 (fun z => absurd (of_decide_eq_true z) (by decide +kernel)) (fun _ => ?_)⟩
      refine ⟨_, rfl, rfl, _, rfl, ite2 (fun z => absurd (of_decide_eq_true z) (by decide +kernel)) (fun _ => ?_)⟩
      refine ⟨_, rfl, rfl, _, rfl, ite2 (fun z => absurd (of_decide_eq_true z) (by decide +kernel)) (fun _ => ?_)⟩
      refine ⟨_, rfl, rfl, _, rfl, ite2 (fun z => absurd (of_decide_eq_true z) (by decide +kernel)) (fun _ => ?_)⟩
      refine ⟨_, rfl, rfl, _, rfl, ite2 (fun z => absurd (of_decide_eq_true z) (by decide +kernel)) (fun _ => ?_)⟩
      exact ⟨_, rfl, q t r M6 H2 ht2 hr2 hM2 e6 S2⟩
    · obtain ⟨g, rfl, hg, ng⟩ := wf
      refine ⟨_, rfl, rfl, _, rfl, ite2 (fun _ => ?_) (fun z => absurd (decide_eq_true rfl) z)⟩
      refine ⟨_, rfl, _, rfl, fld T hz2 hi (j := 3) rfl rfl ⟨by show 1 ≤ sizeLine; decide, fun u nu => ⟨t, u, _, _, rfl, rfl, .inl (.inl (same_lay nu _ _ ht2)), .inl (.inl upd_same), by simp, by show 3 + 1 ≤ sizeLine; decide, (fun z => nomatch z), fun _ t2 nt2 => ?_⟩⟩⟩
      have su := (same_lay (o := .tup [.str g]) nu).trans (same_lay (o := .tup ([.str (kName 2), .str f1, .ref r] ++ [.str g])) nt2)
      exact q t2 r M6 _ upd_same (su _ _ hr2) (hM2.same su) e6 (S2.trans su)
    · obtain ⟨w, rfl, hs⟩ := wf
      refine ⟨_, rfl, rfl, _, rfl, ite2 (fun z => absurd (of_decide_eq_true z) (by decide +kernel)) (fun _ => ?_)⟩
      refine ⟨_, rfl, rfl, _, rfl, ite2 (fun _ => ?_) (fun z => absurd (decide_eq_true rfl) z)⟩
      refine ⟨_, rfl, _, rfl, fld T hz2 hi (j := 3) rfl rfl ⟨by show 1 ≤ sizeLine; decide, fun u nu => ⟨t, u, _, _, rfl, rfl, .inl (.inl (same_lay nu _ _ ht2)), .inl (.inl upd_same), by simp, by show 3 + 1 ≤ sizeLine; decide, (fun z => nomatch z), fun _ t2 nt2 => ?_⟩⟩⟩
      have su := (same_lay (o := .tup [.str w]) nu).trans (same_lay (o := .tup ([.str (kName 3), .str f1, .ref r] ++ [.str w])) nt2)
      exact q t2 r M6 _ upd_same (su _ _ hr2) (hM2.same su) e6 (S2.trans su)
    · obtain ⟨s, a, b, rfl, hs, na, nb⟩ := wf
      refine ⟨_, rfl, rfl, _, rfl, ite2 (fun z => absurd (of_decide_eq_true z) (by decide +kernel)) (fun _ => ?_)⟩
      refine ⟨_, rfl, rfl, _, rfl, ite2 (fun z => absurd (of_decide_eq_true z) (by decide +kernel)) (fun _ => ?_)⟩
      refine ⟨_, rfl, rfl, _, rfl, ite2 (fun _ => ?_) (fun z => absurd (decide_eq_true rfl) z)⟩
      refine ⟨_, rfl, _, rfl, fld T hz2 hi (j := 3) rfl rfl ⟨_, rfl, fld T hz2 hi (j := 4) rfl rfl ⟨_, rfl, fld T hz2 hi (j := 5) rfl rfl ⟨by show 3 ≤ sizeLine; decide, fun u nu => ⟨t, u, _, _, rfl, rfl, .inl (.inl (same_lay nu _ _ ht2)), .inl (.inl upd_same), by simp, by show 3 + 3 ≤ sizeLine; decide, (fun z => nomatch z), fun _ t2 nt2 => ?_⟩⟩⟩⟩⟩
      have su := (same_lay (o := .tup [.str s, .int a, .int b]) nu).trans (same_lay (o := .tup ([.str (kName 4), .str f1, .ref r] ++ [.str s, .int a, .int b])) nt2)
      exact q t2 r M6 _ upd_same (su _ _ hr2) (hM2.same su) e6 (S2.trans su)
    · obtain ⟨s, g, a, b, rfl, hs, hg, ng, na, nb⟩ := wf
      refine ⟨_, rfl, rfl, _, rfl, ite2 (fun z => absurd (of_decide_eq_true z) (by decide +kernel)) (fun _ => ?_)⟩
      refine ⟨_, rfl, rfl, _, rfl, ite2 (fun z => absurd (of_decide_eq_true z) (by decide +kernel)) (fun _ => ?_)⟩
      refine ⟨_, rfl, rfl, _, rfl, ite2 (fun z => absurd (of_decide_eq_true z) (by decide +kernel)) (fun _ => ?_)⟩
      refine ⟨_, rfl, rfl, _, rfl, ite2 (fun _ => ?_) (fun z => absurd (decide_eq_true rfl) z)⟩
      refine ⟨_, rfl, _, rfl, fld T hz2 hi (j := 3) rfl rfl ⟨_, rfl, fld T hz2 hi (j := 4) rfl rfl ⟨_, rfl, fld T hz2 hi (j := 5) rfl rfl ⟨_, rfl, fld T hz2 hi (j := 6) rfl rfl ⟨by show 4 ≤ sizeLine; decide, fun u nu => ⟨t, u, _, _, rfl, rfl, .inl (.inl (same_lay nu _ _ ht2)), .inl (.inl upd_same), by simp, by show 3 + 4 ≤ sizeLine; decide, (fun z => nomatch z), fun _ t2 nt2 => ?_⟩⟩⟩⟩⟩⟩
      have su := (same_lay (o := .tup [.str s, .str g, .int a, .int b]) nu).trans (same_lay (o := .tup ([.str (kName 5), .str f1, .ref r] ++ [.str s, .str g, .int a, .int b])) nt2)
      exact q t2 r M6 _ upd_same (su _ _ hr2) (hM2.same su) e6 (S2.trans su)
    · obtain ⟨s, b, rfl, hs, nb⟩ := wf
      refine ⟨_, rfl, rfl, _, rfl, ite2 (fun z => absurd (of_decide_eq_true z) (by decide +kernel)) (fun _ => ?_)⟩
      refine ⟨_, rfl, rfl, _, rfl, ite2 (fun z => absurd (of_decide_eq_true z) (by decide +kernel)) (fun _ => ?_)⟩
      refine ⟨_, rfl, rfl, _, rfl, ite2 (fun z => absurd (of_decide_eq_true z) (by decide +kernel)) (fun _ => ?_)⟩
      refine ⟨_, rfl, rfl, _, rfl, ite2 (fun z => absurd (of_decide_eq_true z) (by decide +kernel)) (fun _ => ?_)⟩
      refine ⟨_, rfl, rfl, _, rfl, ite2 (fun _ => ?_) (fun z => absurd (decide_eq_true rfl) z)⟩
      refine ⟨_, rfl, _, rfl, fld T hz2 hi (j := 3) rfl rfl ⟨_, rfl, fld T hz2 hi (j := 4) rfl rfl ⟨by show 2 ≤ sizeLine; decide, fun u nu => ⟨t, u, _, _, rfl, rfl, .inl (.inl (same_lay nu _ _ ht2)), .inl (.inl upd_same), by simp, by show 3 + 2 ≤ sizeLine; decide, (fun z => nomatch z), fun _ t2 nt2 => ?_⟩⟩⟩⟩
      have su := (same_lay (o := .tup [.str s, .int b]) nu).trans (same_lay (o := .tup ([.str (kName 6), .str f1, .ref r] ++ [.str s, .int b])) nt2)
      exact q t2 r M6 _ upd_same (su _ _ hr2) (hM2.same su) e6 (S2.trans su)
end
end OR

namespace OR
open PySem PySem.Spec PyProof.Rows L2
open TL (tl numL)
/-! ### clauses told otherwise -/
theorem cutA (xs : List V) (n : Nat) : cutV xs none (some (n : Int)) = xs.take n := by
  unfold cutV
  rw [HT.sIx_none, show HT.sIx xs.length xs.length (some (n : Int)) = min n xs.length from HT.sIx_nat _ _ n, List.drop_zero, Nat.sub_zero]
  rcases Nat.le_total n xs.length with h | h
  · rw [Nat.min_eq_left h]
  · rw [Nat.min_eq_right h, List.take_of_length_le (Nat.le_refl _), List.take_of_length_le h]
theorem cutB (xs : List V) (n : Nat) : cutV xs (some (n : Int)) none = xs.drop n := by
  unfold cutV
  rw [HT.sIx_none, show HT.sIx xs.length 0 (some (n : Int)) = min n xs.length from HT.sIx_nat _ _ n]
  rcases Nat.le_total n xs.length with h | h
  · rw [Nat.min_eq_left h, List.take_of_length_le (by rw [List.length_drop]; exact Nat.le_refl _)]
  · rw [Nat.min_eq_right h, List.drop_of_length_le (Nat.le_refl _), List.drop_of_length_le h, List.take_nil]
theorem nwA {xs : List V} {n : Nat} (h : n < xs.length) : ¬ (HT.sIx xs.length 0 none = 0 ∧ HT.sIx xs.length xs.length (some (n : Int)) = xs.length) := by
  rw [show HT.sIx xs.length xs.length (some (n : Int)) = min n xs.length from HT.sIx_nat _ _ n]
  omega
theorem nwB {xs : List V} {n : Nat} (h : 0 < n) (h2 : 0 < xs.length) : ¬ (HT.sIx xs.length 0 (some (n : Int)) = 0 ∧ HT.sIx xs.length xs.length none = xs.length) := by
  rw [show HT.sIx xs.length 0 (some (n : Int)) = min n xs.length from HT.sIx_nat _ _ n]
  omega
/-- a clause of this kind that is told otherwise, at u; not at o -/
def Chg (o : Addr) (i : Nat) (f : Str) (l : List Row) (x : List V) (H : Hp) (u : Addr) : Prop := ∃ (f2 : Str) (r2 : Addr) (x2 : List V) (L2 : List ARow), r2 ≠ o ∧ H u = some (.tup (spT i f2 r2 x2)) ∧ Word f2 ∧ WF i f2 x2 ∧ RowsAt H r2 L2 ∧ ¬ (f2 = f ∧ rws L2 = l ∧ x2 = x)
theorem Chg.same {o : Addr} {i : Nat} {f : Str} {l : List Row} {x : List V} {H H' : Hp} {u : Addr} (h : Chg o i f l x H u) (s : Same H H') : Chg o i f l x H' u := by
  obtain ⟨f2, r2, x2, L2, a, b, c, d, e, g⟩ := h
  exact ⟨f2, r2, x2, L2, a, s _ _ b, c, d, e.same s, g⟩
theorem Chg.put {o : Addr} {i : Nat} {f : Str} {l : List Row} {x : List V} {H : Hp} {u : Addr} {xs ys : List V} (h : Chg o i f l x H u) (ho : H o = some (.lst xs)) : Chg o i f l x (upd H o (.lst ys)) u := by
  obtain ⟨f2, r2, x2, L2, a, b, c, d, e, g⟩ := h
  exact ⟨f2, r2, x2, L2, a, by rw [upd_ne (ne_of b ho (by intro z; cases z))]; exact b, c, d, ⟨by rw [upd_ne a]; exact e.at_, fun q hq => by rw [upd_ne (ne_of (e.rw_ q hq) ho (by intro z; cases z))]; exact e.rw_ q hq, e.ok, e.nf, e.few⟩, g⟩
structure OI (o : Addr) (i : Nat) (f : Str) (l : List Row) (x : List V) (H0 H : Hp) (us : List Addr) : Prop where
  ho : H o = some (.lst (us.map V.ref))
  chg : ∀ u ∈ us, Chg o i f l x H u
  same : Same H0 H
  no : H0 o = none
theorem OI.step {o : Addr} {i : Nat} {f : Str} {l : List Row} {x : List V} {H0 H H1 : Hp} {us : List Addr} {u : Addr} (I : OI o i f l x H0 H us) (s : Same H H1) (c : Chg o i f l x H1 u) : OI o i f l x H0 (upd H1 o (.lst (us.map V.ref ++ [.ref u]))) (us ++ [u]) := by
  have h1 := s _ _ I.ho
  refine ⟨by rw [upd_same, List.map_append]; rfl, fun v hv => ?_, same_upd (I.same.trans s) I.no, I.no⟩
  rcases List.mem_append.mp hv with k | k
  · exact ((I.chg v k).same s).put h1
  · rw [List.mem_singleton.mp k]
    exact c.put h1
def withN : Nat → List V → Int → Int → List V
  | 4, [s, _, _], a, b => [s, .int a, .int b]
  | 5, [s, g, _, _], a, b => [s, g, .int a, .int b]
  | 6, [s, _], _, b => [s, .int b]
  | _, x, _, _ => x
def numsOf : Nat → List V → List V
  | 4, [_, a, b] => [a, b]
  | 5, [_, _, a, b] => [a, b]
  | 6, [_, b] => [.int 0, b]
  | _, x => x
def spWithN : Sp := fun vs H Q _ => ∃ (t : Addr) (i : Nat) (f : Str) (r : Addr) (x : List V) (a b : Int), vs = [.ref t, .int a, .int b] ∧ H t = some (.tup (spT i f r x)) ∧ (i = 4 ∨ i = 5 ∨ i = 6) ∧ WF i f x ∧ ∀ u H', H' u = some (.tup (spT i f r (withN i x a b))) → Same H H' → Q (.ref u) H'
def spNums : Sp := fun vs H Q _ => ∃ (t : Addr) (i : Nat) (f : Str) (r : Addr) (x : List V), vs = [.ref t] ∧ H t = some (.tup (spT i f r x)) ∧ (i = 4 ∨ i = 5 ∨ i = 6) ∧ WF i f x ∧ ∀ u, H u = none → Q (.ref u) (upd H u (.tup (numsOf i x)))
def spOfN : Sp := fun vs H Q _ => ∃ (t : Addr) (i : Nat) (f : Str) (r : Addr) (x : List V), vs = [.ref t] ∧ H t = some (.tup (spT i f r x)) ∧ i < 7 ∧ ∀ H', Same H H' → Q (.bl (decide (4 ≤ i))) H'
theorem nf_one {a b : Int} (h : a ≤ b) : Nf [(a, b)] := ⟨fun r hr => by rw [List.mem_singleton.mp hr]; exact h, List.pairwise_singleton _ _⟩
section
variable {P : Program} {w : World} {K : PySem.W.Frag} {mg : Str → Option Value} {base : Heap} {C : Nat → Addr} {CP CL : Addr} {ts tw : Addr}
theorem scWN : FnScope ["_law_spec_here", "_law_slope", "_law_height"] ["_law_spec_here", "_law_slope", "_law_height"] (defScope sWithN) := ⟨rfl, rfl, rfl, by decide +kernel, rfl, by decide +kernel, by decide +kernel⟩
theorem ok_withn {f : Addr} {fd : FuncData} (F : Fun K "_law_with_numbers" "_law_with_numbers" sWithN f fd) : FnOk P w K mg base CX0 1 f fd ["_law_spec_here", "_law_slope", "_law_height"] spWithN := by
  refine F.ok scWN (fun vs H Q E h => ?_) (fun cdv A outer s0 H vs Q E hr h => ?_)
  · obtain ⟨t, i, f1, r, x, a, b, rfl, _⟩ := h
    rfl
  · obtain ⟨t, i, f1, r, x, a', b', rfl, ht, hi, wf, q⟩ := h
    refine ⟨_, pss_cons (ps_if (pt_cmpR op_eq (pe_ix ix_tup (pv 0) pe_int (fun _ _ => rfl)) pe_str (nomark _)) (pss_one (ps_ret (pe_op op_catT (pe_slice sl_tup (pv 0) po_none (po_some pe_int)) (pe_tup (pa_cons (pv 1) (pa_cons (pv 2) pa_nil)))))) pss_nil)
      (pss_one (ps_ret (pe_ifExp (pt_cmpR op_eq (pe_ix ix_tup (pv 0) pe_int (fun _ _ => rfl)) pe_str (nomark _)) (pe_op op_catT (pe_slice sl_tup (pv 0) po_none (po_some pe_int)) (pe_tup (pa_cons (pv 1) (pa_cons (pv 2) pa_nil)))) (pe_op op_catT (pe_slice sl_tup (pv 0) po_none (po_some pe_int)) (pe_tup (pa_cons (pv 2) pa_nil)))))), ?_⟩
    rcases hi with e | e | e <;> subst e
    · obtain ⟨s, a, b, rfl, hs, na, nb⟩ := wf
      refine ⟨_, rfl, t, _, _, _, rfl, rfl, .inl (.inl ht), atI_nat (j := 0) rfl, rfl, _, rfl, ite2 (fun _ => ?_) (fun z => absurd (decide_eq_true rfl) z)⟩
      refine ⟨_, rfl, _, rfl, t, _, rfl, .inl (.inl ht), nwA (n := 4) (show 4 < 6 by decide), fun u1 n1 => ?_⟩
      refine ⟨_, rfl, _, rfl, by show 2 ≤ sizeLine; decide, fun u2 n2 => ?_⟩
      refine ⟨u1, u2, _, _, rfl, rfl, .inl (.inl (same_lay n2 _ _ upd_same)), .inl (.inl upd_same), (fun z => nomatch z), by show 4 + 2 ≤ sizeLine; decide, (fun z => nomatch z), fun _ u3 n3 => ?_⟩
      exact q u3 _ upd_same (((same_lay n1).trans (same_lay n2)).trans (same_lay n3))
    · obtain ⟨s, g, a, b, rfl, hs, hg, ng, na, nb⟩ := wf
      refine ⟨_, rfl, t, _, _, _, rfl, rfl, .inl (.inl ht), atI_nat (j := 0) rfl, rfl, _, rfl, ite2 (fun z => absurd (of_decide_eq_true z) (by decide +kernel)) (fun _ => ?_)⟩
      refine ⟨_, rfl, t, _, _, _, rfl, rfl, .inl (.inl ht), atI_nat (j := 0) rfl, rfl, _, rfl, ite2 (fun _ => ?_) (fun z => absurd (decide_eq_true rfl) z)⟩
      refine ⟨_, rfl, _, rfl, t, _, rfl, .inl (.inl ht), nwA (n := 5) (show 5 < 7 by decide), fun u1 n1 => ?_⟩
      refine ⟨_, rfl, _, rfl, by show 2 ≤ sizeLine; decide, fun u2 n2 => ?_⟩
      refine ⟨u1, u2, _, _, rfl, rfl, .inl (.inl (same_lay n2 _ _ upd_same)), .inl (.inl upd_same), (fun z => nomatch z), by show 5 + 2 ≤ sizeLine; decide, (fun z => nomatch z), fun _ u3 n3 => ?_⟩
      exact q u3 _ upd_same (((same_lay n1).trans (same_lay n2)).trans (same_lay n3))
    · obtain ⟨s, b, rfl, hs, nb⟩ := wf
      refine ⟨_, rfl, t, _, _, _, rfl, rfl, .inl (.inl ht), atI_nat (j := 0) rfl, rfl, _, rfl, ite2 (fun z => absurd (of_decide_eq_true z) (by decide +kernel)) (fun _ => ?_)⟩
      refine ⟨_, rfl, t, _, _, _, rfl, rfl, .inl (.inl ht), atI_nat (j := 0) rfl, rfl, _, rfl, ite2 (fun z => absurd (of_decide_eq_true z) (by decide +kernel)) (fun _ => ?_)⟩
      refine ⟨_, rfl, _, rfl, t, _, rfl, .inl (.inl ht), nwA (n := 4) (show 4 < 5 by decide), fun u1 n1 => ?_⟩
      refine ⟨_, rfl, by show 1 ≤ sizeLine; decide, fun u2 n2 => ?_⟩
      refine ⟨u1, u2, _, _, rfl, rfl, .inl (.inl (same_lay n2 _ _ upd_same)), .inl (.inl upd_same), (fun z => nomatch z), by show 4 + 1 ≤ sizeLine; decide, (fun z => nomatch z), fun _ u3 n3 => ?_⟩
      exact q u3 _ upd_same (((same_lay n1).trans (same_lay n2)).trans (same_lay n3))
theorem scNu : FnScope ["_law_spec_here"] ["_law_spec_here"] (defScope sNumbers) := ⟨rfl, rfl, rfl, by decide +kernel, rfl, by decide +kernel, by decide +kernel⟩
theorem ok_nums {f : Addr} {fd : FuncData} (F : Fun K "_law_numbers" "_law_numbers" sNumbers f fd) : FnOk P w K mg base CX0 1 f fd ["_law_spec_here"] spNums := by
  refine F.ok scNu (fun vs H Q E h => ?_) (fun cdv A outer s0 H vs Q E hr h => ?_)
  · obtain ⟨t, i, f1, r, x, rfl, _⟩ := h
    rfl
  · obtain ⟨t, i, f1, r, x, rfl, ht, hi, wf, q⟩ := h
    refine ⟨_, pss_one (ps_ret (pe_ifExp (pt_cmpR op_eq (pe_ix ix_tup (pv 0) pe_int (fun _ _ => rfl)) pe_str (nomark _)) (pe_tup (pa_cons pe_int (pa_cons (pe_ix ix_tup (pv 0) pe_int (fun _ _ => rfl)) pa_nil))) (pe_tup (pa_cons (pe_ix ix_tup (pv 0) (pe_un un_neg pe_int) (fun _ _ => rfl)) (pa_cons (pe_ix ix_tup (pv 0) (pe_un un_neg pe_int) (fun _ _ => rfl)) pa_nil))))), ?_⟩
    rcases hi with e | e | e <;> subst e
    · obtain ⟨s, a, b, rfl, hs, na, nb⟩ := wf
      refine ⟨_, rfl, t, _, _, _, rfl, rfl, .inl (.inl ht), atI_nat (j := 0) rfl, rfl, _, rfl, ite2 (fun z => absurd (of_decide_eq_true z) (by decide +kernel)) (fun _ => ?_)⟩
      exact ⟨_, rfl, 2, rfl, t, _, -2, _, rfl, rfl, .inl (.inl ht), rfl, _, rfl, 1, rfl, t, _, -1, _, rfl, rfl, .inl (.inl ht), rfl, by show 2 ≤ sizeLine; decide, fun u nu => q u nu⟩
    · obtain ⟨s, g, a, b, rfl, hs, hg, ng, na, nb⟩ := wf
      refine ⟨_, rfl, t, _, _, _, rfl, rfl, .inl (.inl ht), atI_nat (j := 0) rfl, rfl, _, rfl, ite2 (fun z => absurd (of_decide_eq_true z) (by decide +kernel)) (fun _ => ?_)⟩
      exact ⟨_, rfl, 2, rfl, t, _, -2, _, rfl, rfl, .inl (.inl ht), rfl, _, rfl, 1, rfl, t, _, -1, _, rfl, rfl, .inl (.inl ht), rfl, by show 2 ≤ sizeLine; decide, fun u nu => q u nu⟩
    · obtain ⟨s, b, rfl, hs, nb⟩ := wf
      refine ⟨_, rfl, t, _, _, _, rfl, rfl, .inl (.inl ht), atI_nat (j := 0) rfl, rfl, _, rfl, ite2 (fun _ => ?_) (fun z => absurd (decide_eq_true rfl) z)⟩
      exact ⟨_, rfl, t, _, _, _, rfl, rfl, .inl (.inl ht), atI_nat (j := 4) rfl, by show 2 ≤ sizeLine; decide, fun u nu => q u nu⟩
theorem scON : FnScope ["_law_spec_here"] ["_law_spec_here"] (defScope sOfNum) := ⟨rfl, rfl, rfl, by decide +kernel, rfl, by decide +kernel, by decide +kernel⟩
theorem ok_ofn {f : Addr} {fd : FuncData} (F : Fun K "_law_is_of_numbers" "_law_is_of_numbers" sOfNum f fd) : FnOk P w K mg base CX0 1 f fd ["_law_spec_here"] spOfN := by
  refine F.ok scON (fun vs H Q E h => ?_) (fun cdv A outer s0 H vs Q E hr h => ?_)
  · obtain ⟨t, i, f1, r, x, rfl, _⟩ := h
    rfl
  · obtain ⟨t, i, f1, r, x, rfl, ht, hi, q⟩ := h
    refine ⟨_, pss_one (ps_ret (pe_cmpR (op_in_seqK K rfl) (pe_ix ix_tup (pv 0) pe_int (fun _ _ => rfl)) (pe_tup (pa_cons pe_str (pa_cons pe_str (pa_cons pe_str pa_nil)))) (by rfl))), ?_⟩
    refine ⟨_, rfl, t, _, _, _, rfl, rfl, .inl (.inl ht), atI_nat (j := 0) rfl, by show 3 ≤ sizeLine; decide, fun u nu => ⟨u, _, rfl, .inr (.inl (.inl upd_same)), rfl, rfl, ?_⟩⟩
    have e : inV (.str (kName i)) [.str "bound", .str "pair", .str "step"] = decide (4 ≤ i) := by
      rcases kinds7 hi with e | e | e | e | e | e | e <;> subst e <;> decide +kernel
    show Q (.bl (inV (.str (kName i)) [.str "bound", .str "pair", .str "step"])) _
    rw [e]
    exact q _ (same_lay nu)
end
end OR

namespace OR
open PySem PySem.Spec PyProof.Rows L2
open TL (tl numL)
/-! ### plain values -/
structure PV (v : V) : Prop where
  flat : flatV v = true
  len : ∀ s, v = .str s → s.length ≤ 100
  sm : ∀ s, v = .str s → SmallS s
theorem pv_cases {v : V} (h : PV v) : (∃ s : Str, v = .str s ∧ s.length ≤ 100 ∧ SmallS s) ∨ (∃ i, v = .int i) ∨ v = .non ∨ ∃ b, v = .bl b := by
  have hf := h.flat
  cases v with
  | str s => exact .inl ⟨s, rfl, h.len s rfl, h.sm s rfl⟩
  | int i => exact .inr (.inl ⟨i, rfl⟩)
  | non => exact .inr (.inr (.inl rfl))
  | bl b => exact .inr (.inr (.inr ⟨b, rfl⟩))
  | byt b => exact Bool.noConfusion hf
  | flt b => exact Bool.noConfusion hf
  | ref b => exact Bool.noConfusion hf
  | ty b => exact Bool.noConfusion hf
theorem pv_str {s : Str} (h : s.length ≤ 100) (k : SmallS s) : PV (.str s) := ⟨rfl, (fun t e => by cases e; exact h), fun t e => by cases e; exact k⟩
theorem pv_int (i : Int) : PV (.int i) := ⟨rfl, (fun t e => by cases e), fun t e => by cases e⟩
theorem pv_non : PV .non := ⟨rfl, (fun t e => by cases e), fun t e => by cases e⟩
theorem pv_bl (b : Bool) : PV (.bl b) := ⟨rfl, (fun t e => by cases e), fun t e => by cases e⟩
theorem iteA {p q : Prop} {b : Bool} (h : b = true) (x : p) : if b = true then p else q := by rw [if_pos h]; exact x
theorem iteB {p q : Prop} {b : Bool} (h : b = false) (x : q) : if b = true then p else q := by rw [h, if_neg (by decide)]; exact x
def rIsX (K : PySem.W.Frag) (D a : Addr) (cls : Value) (d : Option Addr) : List V → Hp → VK → Prop := fun xs H Q => cls = .ref D ∧ ∃ (dd : Addr) (fs : List (Str × V)), d = some dd ∧ H dd = some (.xd fs) ∧ ∃ (c : V) (cv : Value) (b : Bool), xs = [.ref a, c] ∧ (∀ u, RelV c u → u = cv) ∧ PySem.W.kitOne K (.ref D) cv = some b ∧ Q (.bl b) H
theorem call_isX {X : Cx} {a D : Addr} {oe : Obj} {cls : Value} {d : Option Addr} {pn : List (Addr × Obj)} (G : ExcC X.K D) (hz : Zc cls d oe) (hf : ∃ vs, oe.data = .fields vs) : CallR (X.suite a ((a, oe) :: pn)) (.builtin "isinstance") (rIsX X.K D a cls d) := by
  intro pins s σ H xs us Q I r h
  obtain ⟨ec, dd, fs, ed, hdd, c, cv, b, rfl, hcv, hk, q⟩ := h
  subst ec ed
  obtain ⟨u1, u2, rfl, r1, r2⟩ := r.two
  cases r1
  have e2 := hcv _ r2
  subst e2
  have pinned := (I.pin (a, oe) (List.mem_append.mpr (.inl List.mem_cons_self))).1
  obtain ⟨vs, hdat⟩ := hf
  obtain ⟨mA, hns, _⟩ := I.hok dd _ hdd
  obtain ⟨od, ho, _⟩ := lookIn_ns hns
  have J : PySem.W.InstAt s.heap a oe D (some od) := ⟨pinned, hz.1, by unfold PySem.W.notCls; rw [hdat] <;> rfl, by rw [hz.2]; exact ho⟩
  have hcl : (PySem.W.clsIn X.K D).isSome = true := by
    obtain ⟨cd, hc, _⟩ := PySem.W.any_some G.hd
    rw [hc]
    rfl
  exact PySem.W.kia_one (PySem.W.kitx_exc hcl G.hg G.hk G.hs G.ha G.hn G.ht G.hm) I.kIn J hk (fun z => nomatch z) fun tk => ⟨.bl b, H, I.kept (t' := tk) fun _ _ z => z, rfl, q⟩

theorem run_atS {X : Cx} {CX : CXT} {n : Nat} {f : Addr} {sp : Sp} {E : XK} {A' : Around} {pins : List (Addr × Obj)} {σ : L2.St} {H : Hp} {s : Shared} {Q : VK} {us : List Value} {vs : List V} (F : FnR X.prog X.w X.K X.mg X.base CX n f sp) (room : Room n A') (e0 : Env0 X.prog X.w X.K X.mg X.base A' X.stack s H) (hx : PassesAt CX X σ E)
    (I : Inv X pins σ H s) (r : Vals vs us) (h : sp vs H Q E) : codeAny (model X.prog X.w) A' (.call (.ref f) ⟨us, []⟩) (fun r s' => match r with | .ok (.ret v) => EP X pins σ Q v s' | .ok _ => False | .error e => X.xe e s') s := by
  refine codeAny_mono (F A' X.stack s H us vs Q E room e0 r h) fun r s' g => ?_
  rcases r with e | fl
  · exact hx pins H s e s' I g
  cases fl with
  | ret u => exact I.after g
  | _ => exact False.elim g
/-! ### errors with one field -/
structure ErT (K : PySem.W.Frag) (mg : Str → Option Value) (x fl : Str) (CB CR fI : Addr) : Prop where
  gB : mg x = some (.ref CB)
  gR : mg "RangesError" = some (.ref CR)
  zV : mg "ValueError" = none
  ox : OexC K CB
  xf : XfC K CB
  xc : ExcC K CB
  noI : PySem.W.findIn K (.ref CB) fl = some none
  iC : PySem.W.findIn K (.ref CB) "__init__" = some (some (.ref fI))
  tI : PySem.W.typeIn K (.ref fI) = some (.type "function")
  self : PySem.W.exmOne K (.ref CB) (.ref CB) = some true
  kR : PySem.W.kitOne K (.ref CB) (.ref CR) = some true
  kV : PySem.W.kitOne K (.ref CB) (.type "ValueError") = some true
def spErI (CB : Addr) (fl : Str) : Sp := fun vs H Q _ => ∃ (a : Addr) (v : V), vs = [.ref a, v] ∧ H a = some (exo a CB none) ∧ ∀ dx, H dx = none → dx ≠ a → Q .non (upd (upd H dx (exd dx [(fl, v)])) a (exo a CB (some dx)))
/-- an error of the class at CB, with its field, is let out -/
def Raised (E : XK) (CB : Addr) (fl : Str) (v : V) (H : Hp) : Prop := ∀ (d : Addr) (H' : Hp), H d = none → H' d = some (.xd [(fl, v)]) → Same H H' → E (.ref CB) (some d) H'
theorem Raised.up {E : XK} {CB : Addr} {fl : Str} {v : V} {H H' : Hp} (h : Raised E CB fl v H) (s : Same H H') : Raised E CB fl v H' := fun d G nd hd s2 => h d G (s.free nd) hd (s.trans s2)
theorem raise_any {E : XK} {H : Hp} {CB : Addr} {fl : Str} {v : V} (q : Raised E CB fl v H) : [v].length ≤ 1000 ∧ ∀ a, H a = none → spErI CB fl (.ref a :: ([v] ++ [])) (upd H a (exo a CB none))
    (fun u H2 => u = .non ∧ ∃ (d : Addr) (fs : List (Str × V)), H2 a = some (exo a CB (some d)) ∧ H2 d = some (exd d fs) ∧ H d = none ∧ E (.ref CB) (some d) (upd (del H2 a) d (.xd fs))) (fun _ _ _ => False) := by
  refine ⟨by show 1 ≤ 1000; decide, fun a na => ⟨a, _, rfl, upd_same, fun d nd1 ne1 => ?_⟩⟩
  rw [upd_ne ne1] at nd1
  refine ⟨rfl, d, [(fl, v)], upd_same, by rw [upd_ne ne1]; exact upd_same, nd1, q d _ nd1 upd_same fun c o e => ?_⟩
  have nca : c ≠ a := ne_of_none e na
  have ncd : c ≠ d := ne_of_none e nd1
  rw [upd_ne ncd, del_ne nca, upd_ne nca, upd_ne ncd, upd_ne nca]
  exact e
section
variable {P : Program} {w : World} {K : PySem.W.Frag} {mg : Str → Option Value} {base : Heap} {ts tw : Addr}
theorem scErBf : FnScope ["self", "factor"] ["self", "factor"] (defScope sBadFactorInit) := ⟨rfl, rfl, rfl, by decide +kernel, rfl, by decide +kernel, by decide +kernel⟩
theorem ok_erBf {f CB CR fI : Addr} {fd : FuncData} (F : Fun K "__init__" "BadFactor.__init__" sBadFactorInit f fd) (T : ErT K mg "BadFactor" "factor" CB CR fI) : FnOk P w K mg base CX0 1 f fd ["self", "factor"] (spErI CB "factor") := by
  refine F.ok scErBf (fun vs H Q E h => ?_) (fun cdv A outer s H vs Q E hr h => ?_)
  · obtain ⟨a, v, rfl, _⟩ := h
    rfl
  · obtain ⟨a, v, rfl, ha, q⟩ := h
    refine ⟨_, pss_one (ps_ost (pv 0) (pv 1)), ?_⟩
    exact ⟨_, rfl, _, rfl, a, CB, rfl, T.ox, T.noI, .inl ⟨ha, q⟩⟩
/-- a class and its __init__ -/
structure ErK (P : Program) (w : World) (K : PySem.W.Frag) (mg : Str → Option Value) (base : Heap) (x fl : Str) (CB CR : Addr) : Prop where
  ex : ∃ (fI : Addr) (fd : FuncData), ErT K mg x fl CB CR fI ∧ FnOk P w K mg base CX0 1 fI fd ["self", fl] (spErI CB fl) ∧ Binds K fd ["self", fl] []
def factorB : V → Bool
  | .int k => decide (1 ≤ k)
  | _ => false
def spChkFac (EF : Addr) : Sp := fun vs H Q E => ∃ v : V, vs = [v] ∧ PV v ∧ (factorB v = true → Q .non H) ∧ (factorB v = false → Raised E EF "factor" v H)
theorem scFac : FnScope ["value"] ["value"] (defScope pCheckFactor) := ⟨rfl, rfl, rfl, by decide +kernel, rfl, by decide +kernel, by decide +kernel⟩
theorem ok_factor {f EF CE : Addr} {fd : FuncData} (F : Fun K "check_factor" "check_factor" pCheckFactor f fd) (EK : ErK P w K mg base "BadFactor" "factor" EF CE) (II : Cl P w K mg base 1 "is_integer" ["value"] (spIsIntG K)) : FnOk P w K mg base (L2.CX P w) 3 f fd ["value"] (spChkFac EF) := by
  obtain ⟨fI, fdI, T, FN, bN⟩ := EK.ex
  refine F.okX scFac (fun vs H Q E h => ?_) (fun cdv A outer s H vs Q E hr h => ?_)
  · obtain ⟨v, rfl, _⟩ := h
    rfl
  · obtain ⟨v, rfl, hv, qy, qn⟩ := h
    have room : Room (1 + 1) _ := hr.mono (by decide)
    refine ⟨_, pss_one (ps_if (PW.pt (pw_or (pt_not (pt_val (pe_cl II hr (by decide) (by rfl) (pa_cons (pv 0) pa_nil)))) (pw_or1 (pt_cmpR op_lt (pv 0) pe_int (nomark _))))) (pss_one (ps_raise rfl (takes_of rfl rfl rfl rfl) (pmk_oex T.ox T.iC T.tI FN room bN .nil pass0 (by rfl) T.gB (pa_cons (pv 0) pa_nil)))) pss_nil), ?_⟩
    rcases pv_cases hv with ⟨x, rfl, hx⟩ | ⟨i, rfl⟩ | rfl | ⟨b, rfl⟩
    · exact ⟨_, rfl, _, "str", false, false, rfl, .base (.str x), by decide +kernel, by decide +kernel, _, rfl, iteT ⟨_, rfl, raise_any (qn rfl)⟩⟩
    · refine ⟨_, rfl, _, "int", true, false, rfl, .base (.int i), by decide +kernel, by decide +kernel, _, rfl, iteF ⟨_, rfl, _, _, rfl, rfl, _, rfl, ite2 (fun c => ?_) (fun c => ?_)⟩⟩
      · have c : i < 1 := of_decide_eq_true c
        exact ⟨_, rfl, raise_any (qn (decide_eq_false (by omega)))⟩
      · exact qy (decide_eq_true (by have : ¬ i < 1 := fun h => c (decide_eq_true h); omega))
    · exact ⟨_, rfl, _, "NoneType", false, false, rfl, .base .non, by decide +kernel, by decide +kernel, _, rfl, iteT ⟨_, rfl, raise_any (qn rfl)⟩⟩
    · exact ⟨_, rfl, _, "bool", true, true, rfl, .base (.bl b), by decide +kernel, by decide +kernel, _, rfl, iteT ⟨_, rfl, raise_any (qn rfl)⟩⟩
end
/-! ### defs and methods that may raise -/
structure ClX (P : Program) (w : World) (K : PySem.W.Frag) (mg : Str → Option Value) (base : Heap) (k : Nat) (x : Str) (ps : List Str) (sp : Sp) : Prop where
  ex : ∃ (f : Addr) (fd : FuncData), FnOk P w K mg base (L2.CX P w) k f fd ps sp ∧ mg x = some (.ref f) ∧ PySem.W.keepIn K (.ref f) = true ∧ Binds K fd ps []
theorem pe_clX {X : Cx} {W : WX} {k j : Nat} {x : Str} {ps : List Str} {sp : Sp} {e : Expr} {es : List Expr} {t : TA} {p pos : Pos} (C : ClX X.prog X.w X.K X.mg X.base k x ps sp) (hr : Room j X.A) (hk : k ≤ j) (hg : Gl X x) (tk : Takes X W) (ha : PA X (e :: es) t)
    (hdb : (x == ("__debug__" : Str)) = false := by decide) (he : starEach (e :: es) X.env = (false, eval e X.env) :: starEach es X.env := by rfl) (hpl : (backTo pos (starEach es X.env)).any (·.1) = false := by rfl) :
    PE X (.Call (.Name x p) (e :: es) [] pos) (tCallS sp (WE W) t) := by
  obtain ⟨f, fd, F, hm, hkp, hb⟩ := C.ex
  exact pe_callS F (hr.mono hk) hg hm hkp hb (fun σ => passAt tk σ) ha hdb he hpl
structure MtX (P : Program) (w : World) (K : PySem.W.Frag) (mg : Str → Option Value) (base : Heap) (k : Nat) (C : Addr) (m : Str) (ps : List Str) (sp : Sp) : Prop where
  ex : ∃ (f : Addr) (fd : FuncData), Meth K C m f ∧ FnOk P w K mg base (L2.CX P w) k f fd ps sp ∧ Binds K fd ps []
def tMethX (C : Addr) (m : Str) (sp : Sp) (E : L2.St → XK) (ta : TE) (t : TA) : TE := fun σ H Q => ta σ H fun x H1 => ∃ a dx fs, x = .ref a ∧ H1 a = some (.ins C dx fs) ∧ fs.lookup m = none ∧ t σ H1 fun vs H2 => sp (.ref a :: vs) H2 Q (E σ)
theorem pe_mtX {X : Cx} {W : WX} {k j : Nat} {C : Addr} {m : Str} {ps : List Str} {sp : Sp} {o e : Expr} {es : List Expr} {ta : TE} {t : TA} {apos pos : Pos} {pl : Sem Bool} (M : MtX X.prog X.w X.K X.mg X.base k C m ps sp) (c : Cls X.K C) (hr : Room j X.A) (hk : k ≤ j) (tk : Takes X W) (he : PE X o ta) (ha : PA X (e :: es) t)
    (hst : starEach (e :: es) X.env = (false, eval e X.env) :: starEach es X.env := by rfl) (hpl : (backTo pos (starEach es X.env)).any (·.1) = false := by rfl)
    (ht : eval (.Call (.Attribute o m apos) (e :: es) [] pos) X.env = (do
      let ov ← eval o X.env
      standAt apos.atName
      let (f, first) ← holding [ov] (getMethod ov m pl)
      callWith pos f first (backTo pos (starEach (e :: es) X.env)) (backToKw pos (keywordEach [] X.env))) := by rfl) : PE X (.Call (.Attribute o m apos) (e :: es) [] pos) (tMethX C m sp (WE W) ta t) := by
  obtain ⟨f, fd, hm, F, hb⟩ := M.ex
  refine ⟨fun pins s σ H Q I h => ?_⟩
  refine PySem.W.methodCall_KW (pl := pl) (thn (he.run pins s σ H _ I h) fun u s1 ⟨x, H1, I1, rx, z, dx, fs, ex, ez, no, q⟩ => ?_) ht
  subst ex
  cases (show u = Value.ref z from rx)
  refine getmeth_ok I1 ez c hm no (PySem.W.callWith_K (first := [.ref z]) (h₀ := X.base) I.ok.mod.kin hm.kp (thn (ha.run pos pins s1 σ H1 _ I1 q) fun us s2 ⟨vs, H2, I2, r, q2⟩ => ⟨I2.kIn, ?_⟩) hst hpl)
  exact run_fnS (us := .ref z :: us) (vs := .ref z :: vs) F (hr.mono hk) hb (passAt tk σ) I2 (.cons rfl r) q2
end OR

namespace OR
open PySem PySem.Spec PyProof.Rows L2
/-! ### clauses turned: negated, times, moved, mirrored -/
def flp (s : Str) : Str := if s = "<=" then ">=" else if s = ">=" then "<=" else if s = "up" then "down" else if s = "down" then "up" else s
theorem flp_sign {s : Str} (h : isSign s) : isSign (flp s) := by
  rcases h with e | e | e <;> subst e
  · exact .inr (.inl (by decide +kernel))
  · exact .inl (by decide +kernel)
  · exact .inr (.inr (by decide +kernel))
theorem flp_way {s : Str} (h : isWay s) : isWay (flp s) := by
  rcases h with e | e <;> subst e
  · exact .inr (by decide +kernel)
  · exact .inl (by decide +kernel)
def negX : Nat → List V → List V
  | 4, [.str s, .int a, .int b] => [.str (flp s), .int (-a), .int (-b)]
  | 5, [.str s, g, .int a, .int b] => [.str (flp s), g, .int (-a), .int (-b)]
  | 6, [.str s, .int b] => [.str (flp s), .int (-b)]
  | _, x => x
def timX (k : Int) : Nat → List V → List V
  | 4, [s, .int a, .int b] => [s, .int (a * k), .int (b * k)]
  | 5, [s, g, .int a, .int b] => [s, g, .int (a * k), .int (b * k)]
  | 6, [s, .int b] => [s, .int (b * k)]
  | _, x => x
def movX (d : Int) : Nat → List V → List V
  | 4, [s, .int a, .int b] => [s, .int a, .int (b - a * d)]
  | 5, [s, g, .int a, .int b] => [s, g, .int a, .int (b - a * d)]
  | _, x => x
def mirX (n : Int) : Nat → List V → List V
  | 3, [.str w] => [.str (flp w)]
  | 4, [s, .int a, .int b] => [s, .int (-a), .int (b + a * n)]
  | 5, [s, g, .int a, .int b] => [s, g, .int (-a), .int (b + a * n)]
  | 6, [.str s, .int b] => [.str (flp s), .int (-b)]
  | _, x => x
theorem num_neg {a : Int} (h : Num a) : Num (-a) := by unfold Num at h ⊢; rw [Int.natAbs_neg]; exact h
theorem cw40 {a n : Int} (h : a.natAbs < 10 ^ 40) (h2 : n.natAbs < 10 ^ 40) : CMulW a n := wide_mul (a := 140) (b := 140) (Nat.lt_of_lt_of_le h (by decide)) (Nat.lt_of_lt_of_le h2 (by decide)) (by decide) (by decide) (by decide)
/-- the table of what is turned -/
structure TuTxt (K : PySem.W.Frag) (w : World) (mg : Str → Option Value) (aT : Addr) : Prop where
  mgT : mg "_TURNED" = some (.ref aT)
  it : ∀ s, isSign s ∨ isWay s → KDct K w aT s (.str (flp s))
def spNeg (CP : Addr) (C : Nat → Addr) (i : Nat) : Sp := fun vs H Q _ => ∃ (z : Addr) (f : Str) (l : List Row) (x : List V), vs = [.ref z] ∧ IsC CP C H z i f l x ∧ ∀ y H', IsC CP C H' y i f l (negX i x) → Same H H' → Q (.ref y) H'
def spTim (CP : Addr) (C : Nat → Addr) (EF : Addr) (i : Nat) : Sp := fun vs H Q E => ∃ (z : Addr) (v : V) (f : Str) (l : List Row) (x : List V), vs = [.ref z, v] ∧ IsC CP C H z i f l x ∧ PV v ∧
  ((∃ k : Int, v = .int k ∧ 1 ≤ k ∧ k.natAbs < 10 ^ 40 ∧ WF i f (timX k i x) ∧ ∀ y H', IsC CP C H' y i f l (timX k i x) → Same H H' → Q (.ref y) H') ∨ (factorB v = false ∧ Raised E EF "factor" v H))
def spMov (CP : Addr) (C : Nat → Addr) (i : Nat) : Sp := fun vs H Q _ => ∃ (z : Addr) (d : Int) (f : Str) (l : List Row) (x : List V), vs = [.ref z, .int d] ∧ IsC CP C H z i f l x ∧ d.natAbs < 10 ^ 40 ∧ WF i f (movX d i x) ∧
  ∀ y n H', IsC CP C H' y i f n (movX d i x) → (∀ t, mem n t ↔ (mem l (t - d) ∧ 0 ≤ t ∧ t ≤ lastP)) → Same H H' → Q (.ref y) H'
def spMir (CP : Addr) (C : Nat → Addr) (i : Nat) : Sp := fun vs H Q _ => ∃ (z : Addr) (d : Int) (f : Str) (l : List Row) (x : List V), vs = [.ref z, .int d] ∧ IsC CP C H z i f l x ∧ d.natAbs < 10 ^ 40 ∧ WF i f (mirX d i x) ∧
  ∀ y n H', IsC CP C H' y i f n (mirX d i x) → (∀ t, mem n t ↔ (mem l (d - t) ∧ 0 ≤ t ∧ t ≤ lastP)) → Same H H' → Q (.ref y) H'
def spLMov (CL : Addr) : Sp := fun vs H Q _ => ∃ (z : Addr) (a b d : Int), vs = [.ref z, .int d] ∧ IsL CL H z a b ∧ CMulW a d ∧ ∀ y H', H y = none → IsL CL H' y a (b - a * d) → Same H H' → Q (.ref y) H'
def spLMir (CL : Addr) : Sp := fun vs H Q _ => ∃ (z : Addr) (a b d : Int), vs = [.ref z, .int d] ∧ IsL CL H z a b ∧ CMulW a d ∧ ∀ y H', H y = none → IsL CL H' y (-a) (b + a * d) → Same H H' → Q (.ref y) H'
section
variable {P : Program} {w : World} {K : PySem.W.Frag} {mg : Str → Option Value} {base : Heap} {C : Nat → Addr} {CP CL EF CE aT : Addr}
theorem scLMv : FnScope ["self", "by"] ["self", "by"] (defScope sLineMoved) := ⟨rfl, rfl, rfl, by decide +kernel, rfl, by decide +kernel, by decide +kernel⟩
theorem ok_lmov {f : Addr} {fd : FuncData} (F : Fun K "moved" "Line.moved" sLineMoved f fd) (T : LTxt K mg CL) (LM : LMk P w K mg base CL) : FnOk P w K mg base CX0 4 f fd ["self", "by"] (spLMov CL) := by
  refine F.ok scLMv (fun vs H Q E h => ?_) (fun cdv A outer s0 H vs Q E hr h => ?_)
  · obtain ⟨z, a, b, d, rfl, _⟩ := h
    rfl
  · obtain ⟨z, a, b, d, rfl, ⟨dx, hz⟩, hc, q⟩ := h
    refine ⟨_, pss_one (ps_ret (pe_mkL LM hr (by decide) (by rfl) (pa_cons (pe_fld (pv 0) rfl) (pa_cons (pe_op op_sub (pe_fld (pv 0) rfl) (pe_op op_mulW (pe_fld (pv 0) rfl) (pv 1))) pa_nil)))), ?_⟩
    exact ⟨_, rfl, z, CL, dx, _, _, rfl, hz, T.cl, T.nS, lFl_slope a b, _, rfl, z, CL, dx, _, _, rfl, hz, T.cl, T.nH, lFl_height a b, _, rfl, z, CL, dx, _, _, rfl, hz, T.cl, T.nS, lFl_slope a b, _, rfl, _, _, rfl, rfl, hc, _, _, rfl, rfl, a, b - a * d, rfl, q⟩
theorem scLMi : FnScope ["self", "last"] ["self", "last"] (defScope sLineMirrored) := ⟨rfl, rfl, rfl, by decide +kernel, rfl, by decide +kernel, by decide +kernel⟩
theorem ok_lmir {f : Addr} {fd : FuncData} (F : Fun K "mirrored" "Line.mirrored" sLineMirrored f fd) (T : LTxt K mg CL) (LM : LMk P w K mg base CL) : FnOk P w K mg base CX0 4 f fd ["self", "last"] (spLMir CL) := by
  refine F.ok scLMi (fun vs H Q E h => ?_) (fun cdv A outer s0 H vs Q E hr h => ?_)
  · obtain ⟨z, a, b, d, rfl, _⟩ := h
    rfl
  · obtain ⟨z, a, b, d, rfl, ⟨dx, hz⟩, hc, q⟩ := h
    refine ⟨_, pss_one (ps_ret (pe_mkL LM hr (by decide) (by rfl) (pa_cons (pe_un un_neg (pe_fld (pv 0) rfl)) (pa_cons (pe_op op_add (pe_fld (pv 0) rfl) (pe_op op_mulW (pe_fld (pv 0) rfl) (pv 1))) pa_nil)))), ?_⟩
    exact ⟨_, rfl, z, CL, dx, _, _, rfl, hz, T.cl, T.nS, lFl_slope a b, a, rfl, _, rfl, z, CL, dx, _, _, rfl, hz, T.cl, T.nH, lFl_height a b, _, rfl, z, CL, dx, _, _, rfl, hz, T.cl, T.nS, lFl_slope a b, _, rfl, _, _, rfl, rfl, hc, _, _, rfl, rfl, -a, b + a * d, rfl, q⟩
theorem scBouL : FnScope ["self"] ["self"] (defScope sBouLine) := ⟨rfl, rfl, rfl, by decide +kernel, rfl, by decide +kernel, by decide +kernel⟩
theorem ok_BouL {f : Addr} {fd : FuncData} (F : Fun K "line" "Bound.line" sBouLine f fd) (T : CTxt K mg C) (LM : LMk P w K mg base CL) : FnOk P w K mg base CX0 3 f fd ["self"] (spCLine CP CL C 4) := by
  refine F.ok scBouL (fun vs H Q E h => ?_) (fun cdv A outer s0 H vs Q E hr h => ?_)
  · obtain ⟨z, f1, l, x, a, b, rfl, _⟩ := h
    rfl
  · obtain ⟨z, f1, l, x, a, b, rfl, hA, hx, q⟩ := h
    obtain ⟨⟨dx, pl, hz, hp⟩, hi, hw, wf, ok, hl⟩ := hA
    refine ⟨_, pss_one (ps_ret (pe_mkL LM hr (by decide) (by rfl) (pa_cons (pe_fld (pv 0) rfl) (pa_cons (pe_fld (pv 0) rfl) pa_nil)))), ?_⟩
    have hv : (cVals 4 f1 pl x)[4]? = some (.int a) ∧ (cVals 4 f1 pl x)[5]? = some (.int b) := by
      obtain ⟨s, a2, b2, rfl, hs, na, nb⟩ := wf
      rcases hx with ⟨s2, e⟩ | ⟨s2, g2, e⟩
      · injection e with e1 e2; injection e2 with e2 e3; injection e3 with e3 e4; cases e2; cases e3; exact ⟨rfl, rfl⟩
      · injection e with e1 e2; injection e2 with e2 e3; cases e2
    exact ⟨_, rfl, fld T hz hi (j := 4) rfl hv.1 ⟨_, rfl, fld T hz hi (j := 5) rfl hv.2 ⟨a, b, rfl, q⟩⟩⟩
theorem scPaiL : FnScope ["self"] ["self"] (defScope sPaiLine) := ⟨rfl, rfl, rfl, by decide +kernel, rfl, by decide +kernel, by decide +kernel⟩
theorem ok_PaiL {f : Addr} {fd : FuncData} (F : Fun K "line" "Pair.line" sPaiLine f fd) (T : CTxt K mg C) (LM : LMk P w K mg base CL) : FnOk P w K mg base CX0 3 f fd ["self"] (spCLine CP CL C 5) := by
  refine F.ok scPaiL (fun vs H Q E h => ?_) (fun cdv A outer s0 H vs Q E hr h => ?_)
  · obtain ⟨z, f1, l, x, a, b, rfl, _⟩ := h
    rfl
  · obtain ⟨z, f1, l, x, a, b, rfl, hA, hx, q⟩ := h
    obtain ⟨⟨dx, pl, hz, hp⟩, hi, hw, wf, ok, hl⟩ := hA
    refine ⟨_, pss_one (ps_ret (pe_mkL LM hr (by decide) (by rfl) (pa_cons (pe_fld (pv 0) rfl) (pa_cons (pe_fld (pv 0) rfl) pa_nil)))), ?_⟩
    have hv : (cVals 5 f1 pl x)[5]? = some (.int a) ∧ (cVals 5 f1 pl x)[6]? = some (.int b) := by
      obtain ⟨s, g, a2, b2, rfl, hs, hg, ng, na, nb⟩ := wf
      rcases hx with ⟨s2, e⟩ | ⟨s2, g2, e⟩
      · injection e with e1 e2; injection e2 with e2 e3; cases e2
      · injection e with e1 e2; injection e2 with e2 e3; injection e3 with e3 e4; injection e4 with e4 e5; cases e3; cases e4; exact ⟨rfl, rfl⟩
    exact ⟨_, rfl, fld T hz hi (j := 5) rfl hv.1 ⟨_, rfl, fld T hz hi (j := 6) rfl hv.2 ⟨a, b, rfl, q⟩⟩⟩
theorem scAnsN : FnScope ["self"] ["self"] (defScope sAnsNeg) := ⟨rfl, rfl, rfl, by decide +kernel, rfl, by decide +kernel, by decide +kernel⟩
theorem ok_AnsN {f : Addr} {fd : FuncData} (F : Fun K "negated" "Answers.negated" sAnsNeg f fd) (T : CTxt K mg C) (M : CMk P w K mg base C 0 ["self", "function", "places"]) : FnOk P w K mg base CX0 6 f fd ["self"] (spNeg CP C 0) := by
  refine F.ok scAnsN (fun vs H Q E h => ?_) (fun cdv A outer s0 H vs Q E hr h => ?_)
  · obtain ⟨z, f1, l, x, rfl, _⟩ := h
    rfl
  · obtain ⟨z, f1, l, x, rfl, hA, q⟩ := h
    obtain ⟨⟨dx, pl, hz, hp⟩, hi, hw, wf, ok, hl⟩ := hA
    cases (show x = [] from wf)
    have wf2 : WF 0 f1 [] := rfl
    refine ⟨_, pss_one (ps_ret (pe_mkC M rfl hr (by decide) (by rfl) (pa_cons (pe_fld (pv 0) rfl) (pa_cons (pe_fld (pv 0) rfl) pa_nil)))), ?_⟩
    exact ⟨_, rfl, fld T hz hi (j := 1) rfl rfl ⟨_, rfl, fld T hz hi (j := 2) rfl rfl ⟨f1, pl, [], rfl, hw, wf2, fun y dy H2 _ hy s2 => q y H2 ⟨⟨dy, pl, hy, hp.same s2⟩, hi, hw, wf2, ok, hl⟩ s2⟩⟩⟩
theorem scAnsT : FnScope ["self", "factor"] ["self", "factor"] (defScope sAnsTim) := ⟨rfl, rfl, rfl, by decide +kernel, rfl, by decide +kernel, by decide +kernel⟩
theorem ok_AnsT {f : Addr} {fd : FuncData} (F : Fun K "times" "Answers.times" sAnsTim f fd) (T : CTxt K mg C) (KF : ClX P w K mg base 3 "check_factor" ["value"] (spChkFac EF)) (M : CMk P w K mg base C 0 ["self", "function", "places"]) : FnOk P w K mg base (L2.CX P w) 6 f fd ["self", "factor"] (spTim CP C EF 0) := by
  refine F.okX scAnsT (fun vs H Q E h => ?_) (fun cdv A outer s0 H vs Q E hr h => ?_)
  · obtain ⟨z, v, f1, l, x, rfl, _⟩ := h
    rfl
  · obtain ⟨z, v, f1, l, x, rfl, hA, hv, h⟩ := h
    have nd := scAnsT.nd
    obtain ⟨⟨dx, pl, hz, hp⟩, hi, hw, wf, ok, hl⟩ := hA
    cases (show x = [] from wf)
    refine ⟨_, pss_cons (ps_expr (pe_clX KF hr (by decide) (by rfl) (takes_of rfl rfl rfl rfl) (pa_cons (pv 1) pa_nil))) (pss_one (ps_ret (pe_mkC M rfl hr (by decide) (by rfl) (pa_cons (pe_fld (pv 0) rfl) (pa_cons (pe_fld (pv 0) rfl) pa_nil))))), ?_⟩
    refine ⟨_, rfl, v, rfl, hv, fun hf => ?_, fun hf => ?_⟩
    · rcases h with ⟨k, rfl, h1, hk, wf2, q⟩ | ⟨h0, _⟩
      · have wf2 : WF 0 f1 [] := wf2
        exact ⟨_, rfl, fld T hz hi (j := 1) rfl rfl ⟨_, rfl, fld T hz hi (j := 2) rfl rfl ⟨f1, pl, [], rfl, hw, wf2, fun y dy H2 _ hy s2 => q y H2 ⟨⟨dy, pl, hy, hp.same s2⟩, hi, hw, wf2, ok, hl⟩ s2⟩⟩⟩
      · rw [hf] at h0
        cases h0
    · rcases h with ⟨k, rfl, h1, _⟩ | ⟨_, h0⟩
      · have : factorB (.int k) = true := decide_eq_true h1
        rw [hf] at this
        cases this
      · exact h0
theorem scAnsMov : FnScope ["self", "by"] ["self", "by"] (defScope sAnsMov) := ⟨rfl, rfl, rfl, by decide +kernel, rfl, by decide +kernel, by decide +kernel⟩
theorem ok_AnsMov {f : Addr} {fd : FuncData} (F : Fun K "moved" "Answers.moved" sAnsMov f fd) (T : CTxt K mg C) (PT : PTxt K mg CP) (SH : Mt P w K mg base 6 CP "shifted" ["self", "by"] (spMove CP fun t d => t - d)) (M : CMk P w K mg base C 0 ["self", "function", "places"]) : FnOk P w K mg base CX0 7 f fd ["self", "by"] (spMov CP C 0) := by
  refine F.ok scAnsMov (fun vs H Q E h => ?_) (fun cdv A outer s0 H vs Q E hr h => ?_)
  · obtain ⟨z, d, f1, l, x, rfl, _⟩ := h
    rfl
  · obtain ⟨z, d, f1, l, x, rfl, hA, hd, wf2, q⟩ := h
    have nd := scAnsMov.nd
    obtain ⟨⟨dx, pl, hz, hp⟩, hi, hw, wf, ok, hl⟩ := hA
    have wf0 := wf
    obtain ⟨_, dxp, t1, fi1, b1, M1, hpi, _⟩ := id hp
    have pno : (pFl t1 fi1 b1).lookup ("shifted" : Str) = none := pFl_no _ _ _ (by decide +kernel) (by decide +kernel) (by decide +kernel)
    cases (show x = [] from wf)
    have wf2 : WF 0 f1 [] := wf2
    refine ⟨_, pss_one (ps_ret (pe_mkC M rfl hr (by decide) (by rfl) (pa_cons (pe_fld (pv 0) rfl) (pa_cons (pe_mt SH PT.cl hr (by decide) (pe_fld (pv 0) rfl) (pa_cons (pv 1) pa_nil)) pa_nil)))), ?_⟩
    exact ⟨_, rfl, fld T hz hi (j := 1) rfl rfl ⟨_, rfl, fld T hz hi (j := 2) rfl rfl ⟨pl, dxp, _, rfl, hpi, pno, _, rfl, pl, d, l, rfl, ⟨hp, ok⟩, Nat.le_trans hl (by decide), fun pz n H5 _ hpz me hle s5 => ⟨f1, pz, [], rfl, hw, wf2, fun y dy H6 _ hy s6 => q y n H6 ⟨⟨dy, pz, hy, hpz.is.same s6⟩, hi, hw, wf2, hpz.ok, Nat.le_trans hle hl⟩ me (s5.trans s6)⟩⟩⟩⟩
theorem scAnsMir : FnScope ["self", "last"] ["self", "last"] (defScope sAnsMir) := ⟨rfl, rfl, rfl, by decide +kernel, rfl, by decide +kernel, by decide +kernel⟩
theorem ok_AnsMir {f : Addr} {fd : FuncData} (F : Fun K "mirrored" "Answers.mirrored" sAnsMir f fd) (T : CTxt K mg C) (PT : PTxt K mg CP) (SH : Mt P w K mg base 6 CP "mirrored" ["self", "last"] (spMove CP fun t d => d - t)) (M : CMk P w K mg base C 0 ["self", "function", "places"]) : FnOk P w K mg base CX0 7 f fd ["self", "last"] (spMir CP C 0) := by
  refine F.ok scAnsMir (fun vs H Q E h => ?_) (fun cdv A outer s0 H vs Q E hr h => ?_)
  · obtain ⟨z, d, f1, l, x, rfl, _⟩ := h
    rfl
  · obtain ⟨z, d, f1, l, x, rfl, hA, hd, wf2, q⟩ := h
    have nd := scAnsMir.nd
    obtain ⟨⟨dx, pl, hz, hp⟩, hi, hw, wf, ok, hl⟩ := hA
    have wf0 := wf
    obtain ⟨_, dxp, t1, fi1, b1, M1, hpi, _⟩ := id hp
    have pno : (pFl t1 fi1 b1).lookup ("mirrored" : Str) = none := pFl_no _ _ _ (by decide +kernel) (by decide +kernel) (by decide +kernel)
    cases (show x = [] from wf)
    have wf2 : WF 0 f1 [] := wf2
    refine ⟨_, pss_one (ps_ret (pe_mkC M rfl hr (by decide) (by rfl) (pa_cons (pe_fld (pv 0) rfl) (pa_cons (pe_mt SH PT.cl hr (by decide) (pe_fld (pv 0) rfl) (pa_cons (pv 1) pa_nil)) pa_nil)))), ?_⟩
    exact ⟨_, rfl, fld T hz hi (j := 1) rfl rfl ⟨_, rfl, fld T hz hi (j := 2) rfl rfl ⟨pl, dxp, _, rfl, hpi, pno, _, rfl, pl, d, l, rfl, ⟨hp, ok⟩, Nat.le_trans hl (by decide), fun pz n H5 _ hpz me hle s5 => ⟨f1, pz, [], rfl, hw, wf2, fun y dy H6 _ hy s6 => q y n H6 ⟨⟨dy, pz, hy, hpz.is.same s6⟩, hi, hw, wf2, hpz.ok, Nat.le_trans hle hl⟩ me (s5.trans s6)⟩⟩⟩⟩
theorem scRefN : FnScope ["self"] ["self"] (defScope sRefNeg) := ⟨rfl, rfl, rfl, by decide +kernel, rfl, by decide +kernel, by decide +kernel⟩
theorem ok_RefN {f : Addr} {fd : FuncData} (F : Fun K "negated" "Refuses.negated" sRefNeg f fd) (T : CTxt K mg C) (M : CMk P w K mg base C 1 ["self", "function", "places"]) : FnOk P w K mg base CX0 6 f fd ["self"] (spNeg CP C 1) := by
  refine F.ok scRefN (fun vs H Q E h => ?_) (fun cdv A outer s0 H vs Q E hr h => ?_)
  · obtain ⟨z, f1, l, x, rfl, _⟩ := h
    rfl
  · obtain ⟨z, f1, l, x, rfl, hA, q⟩ := h
    obtain ⟨⟨dx, pl, hz, hp⟩, hi, hw, wf, ok, hl⟩ := hA
    cases (show x = [] from wf)
    have wf2 : WF 1 f1 [] := rfl
    refine ⟨_, pss_one (ps_ret (pe_mkC M rfl hr (by decide) (by rfl) (pa_cons (pe_fld (pv 0) rfl) (pa_cons (pe_fld (pv 0) rfl) pa_nil)))), ?_⟩
    exact ⟨_, rfl, fld T hz hi (j := 1) rfl rfl ⟨_, rfl, fld T hz hi (j := 2) rfl rfl ⟨f1, pl, [], rfl, hw, wf2, fun y dy H2 _ hy s2 => q y H2 ⟨⟨dy, pl, hy, hp.same s2⟩, hi, hw, wf2, ok, hl⟩ s2⟩⟩⟩
theorem scRefT : FnScope ["self", "factor"] ["self", "factor"] (defScope sRefTim) := ⟨rfl, rfl, rfl, by decide +kernel, rfl, by decide +kernel, by decide +kernel⟩
theorem ok_RefT {f : Addr} {fd : FuncData} (F : Fun K "times" "Refuses.times" sRefTim f fd) (T : CTxt K mg C) (KF : ClX P w K mg base 3 "check_factor" ["value"] (spChkFac EF)) (M : CMk P w K mg base C 1 ["self", "function", "places"]) : FnOk P w K mg base (L2.CX P w) 6 f fd ["self", "factor"] (spTim CP C EF 1) := by
  refine F.okX scRefT (fun vs H Q E h => ?_) (fun cdv A outer s0 H vs Q E hr h => ?_)
  · obtain ⟨z, v, f1, l, x, rfl, _⟩ := h
    rfl
  · obtain ⟨z, v, f1, l, x, rfl, hA, hv, h⟩ := h
    have nd := scRefT.nd
    obtain ⟨⟨dx, pl, hz, hp⟩, hi, hw, wf, ok, hl⟩ := hA
    cases (show x = [] from wf)
    refine ⟨_, pss_cons (ps_expr (pe_clX KF hr (by decide) (by rfl) (takes_of rfl rfl rfl rfl) (pa_cons (pv 1) pa_nil))) (pss_one (ps_ret (pe_mkC M rfl hr (by decide) (by rfl) (pa_cons (pe_fld (pv 0) rfl) (pa_cons (pe_fld (pv 0) rfl) pa_nil))))), ?_⟩
    refine ⟨_, rfl, v, rfl, hv, fun hf => ?_, fun hf => ?_⟩
    · rcases h with ⟨k, rfl, h1, hk, wf2, q⟩ | ⟨h0, _⟩
      · have wf2 : WF 1 f1 [] := wf2
        exact ⟨_, rfl, fld T hz hi (j := 1) rfl rfl ⟨_, rfl, fld T hz hi (j := 2) rfl rfl ⟨f1, pl, [], rfl, hw, wf2, fun y dy H2 _ hy s2 => q y H2 ⟨⟨dy, pl, hy, hp.same s2⟩, hi, hw, wf2, ok, hl⟩ s2⟩⟩⟩
      · rw [hf] at h0
        cases h0
    · rcases h with ⟨k, rfl, h1, _⟩ | ⟨_, h0⟩
      · have : factorB (.int k) = true := decide_eq_true h1
        rw [hf] at this
        cases this
      · exact h0
theorem scRefMov : FnScope ["self", "by"] ["self", "by"] (defScope sRefMov) := ⟨rfl, rfl, rfl, by decide +kernel, rfl, by decide +kernel, by decide +kernel⟩
theorem ok_RefMov {f : Addr} {fd : FuncData} (F : Fun K "moved" "Refuses.moved" sRefMov f fd) (T : CTxt K mg C) (PT : PTxt K mg CP) (SH : Mt P w K mg base 6 CP "shifted" ["self", "by"] (spMove CP fun t d => t - d)) (M : CMk P w K mg base C 1 ["self", "function", "places"]) : FnOk P w K mg base CX0 7 f fd ["self", "by"] (spMov CP C 1) := by
  refine F.ok scRefMov (fun vs H Q E h => ?_) (fun cdv A outer s0 H vs Q E hr h => ?_)
  · obtain ⟨z, d, f1, l, x, rfl, _⟩ := h
    rfl
  · obtain ⟨z, d, f1, l, x, rfl, hA, hd, wf2, q⟩ := h
    have nd := scRefMov.nd
    obtain ⟨⟨dx, pl, hz, hp⟩, hi, hw, wf, ok, hl⟩ := hA
    have wf0 := wf
    obtain ⟨_, dxp, t1, fi1, b1, M1, hpi, _⟩ := id hp
    have pno : (pFl t1 fi1 b1).lookup ("shifted" : Str) = none := pFl_no _ _ _ (by decide +kernel) (by decide +kernel) (by decide +kernel)
    cases (show x = [] from wf)
    have wf2 : WF 1 f1 [] := wf2
    refine ⟨_, pss_one (ps_ret (pe_mkC M rfl hr (by decide) (by rfl) (pa_cons (pe_fld (pv 0) rfl) (pa_cons (pe_mt SH PT.cl hr (by decide) (pe_fld (pv 0) rfl) (pa_cons (pv 1) pa_nil)) pa_nil)))), ?_⟩
    exact ⟨_, rfl, fld T hz hi (j := 1) rfl rfl ⟨_, rfl, fld T hz hi (j := 2) rfl rfl ⟨pl, dxp, _, rfl, hpi, pno, _, rfl, pl, d, l, rfl, ⟨hp, ok⟩, Nat.le_trans hl (by decide), fun pz n H5 _ hpz me hle s5 => ⟨f1, pz, [], rfl, hw, wf2, fun y dy H6 _ hy s6 => q y n H6 ⟨⟨dy, pz, hy, hpz.is.same s6⟩, hi, hw, wf2, hpz.ok, Nat.le_trans hle hl⟩ me (s5.trans s6)⟩⟩⟩⟩
theorem scRefMir : FnScope ["self", "last"] ["self", "last"] (defScope sRefMir) := ⟨rfl, rfl, rfl, by decide +kernel, rfl, by decide +kernel, by decide +kernel⟩
theorem ok_RefMir {f : Addr} {fd : FuncData} (F : Fun K "mirrored" "Refuses.mirrored" sRefMir f fd) (T : CTxt K mg C) (PT : PTxt K mg CP) (SH : Mt P w K mg base 6 CP "mirrored" ["self", "last"] (spMove CP fun t d => d - t)) (M : CMk P w K mg base C 1 ["self", "function", "places"]) : FnOk P w K mg base CX0 7 f fd ["self", "last"] (spMir CP C 1) := by
  refine F.ok scRefMir (fun vs H Q E h => ?_) (fun cdv A outer s0 H vs Q E hr h => ?_)
  · obtain ⟨z, d, f1, l, x, rfl, _⟩ := h
    rfl
  · obtain ⟨z, d, f1, l, x, rfl, hA, hd, wf2, q⟩ := h
    have nd := scRefMir.nd
    obtain ⟨⟨dx, pl, hz, hp⟩, hi, hw, wf, ok, hl⟩ := hA
    have wf0 := wf
    obtain ⟨_, dxp, t1, fi1, b1, M1, hpi, _⟩ := id hp
    have pno : (pFl t1 fi1 b1).lookup ("mirrored" : Str) = none := pFl_no _ _ _ (by decide +kernel) (by decide +kernel) (by decide +kernel)
    cases (show x = [] from wf)
    have wf2 : WF 1 f1 [] := wf2
    refine ⟨_, pss_one (ps_ret (pe_mkC M rfl hr (by decide) (by rfl) (pa_cons (pe_fld (pv 0) rfl) (pa_cons (pe_mt SH PT.cl hr (by decide) (pe_fld (pv 0) rfl) (pa_cons (pv 1) pa_nil)) pa_nil)))), ?_⟩
    exact ⟨_, rfl, fld T hz hi (j := 1) rfl rfl ⟨_, rfl, fld T hz hi (j := 2) rfl rfl ⟨pl, dxp, _, rfl, hpi, pno, _, rfl, pl, d, l, rfl, ⟨hp, ok⟩, Nat.le_trans hl (by decide), fun pz n H5 _ hpz me hle s5 => ⟨f1, pz, [], rfl, hw, wf2, fun y dy H6 _ hy s6 => q y n H6 ⟨⟨dy, pz, hy, hpz.is.same s6⟩, hi, hw, wf2, hpz.ok, Nat.le_trans hle hl⟩ me (s5.trans s6)⟩⟩⟩⟩
theorem scNeeN : FnScope ["self"] ["self"] (defScope sNeeNeg) := ⟨rfl, rfl, rfl, by decide +kernel, rfl, by decide +kernel, by decide +kernel⟩
theorem ok_NeeN {f : Addr} {fd : FuncData} (F : Fun K "negated" "Needs.negated" sNeeNeg f fd) (T : CTxt K mg C) (M : CMk P w K mg base C 2 ["self", "function", "places", "other"]) : FnOk P w K mg base CX0 6 f fd ["self"] (spNeg CP C 2) := by
  refine F.ok scNeeN (fun vs H Q E h => ?_) (fun cdv A outer s0 H vs Q E hr h => ?_)
  · obtain ⟨z, f1, l, x, rfl, _⟩ := h
    rfl
  · obtain ⟨z, f1, l, x, rfl, hA, q⟩ := h
    obtain ⟨⟨dx, pl, hz, hp⟩, hi, hw, wf, ok, hl⟩ := hA
    obtain ⟨g, rfl, hg, ng⟩ := wf
    have wf2 : WF 2 f1 [.str g] := ⟨g, rfl, hg, ng⟩
    refine ⟨_, pss_one (ps_ret (pe_mkC M rfl hr (by decide) (by rfl) (pa_cons (pe_fld (pv 0) rfl) (pa_cons (pe_fld (pv 0) rfl) (pa_cons (pe_fld (pv 0) rfl) pa_nil))))), ?_⟩
    exact ⟨_, rfl, fld T hz hi (j := 1) rfl rfl ⟨_, rfl, fld T hz hi (j := 2) rfl rfl ⟨_, rfl, fld T hz hi (j := 3) rfl rfl ⟨f1, pl, [.str g], rfl, hw, wf2, fun y dy H2 _ hy s2 => q y H2 ⟨⟨dy, pl, hy, hp.same s2⟩, hi, hw, wf2, ok, hl⟩ s2⟩⟩⟩⟩
theorem scNeeT : FnScope ["self", "factor"] ["self", "factor"] (defScope sNeeTim) := ⟨rfl, rfl, rfl, by decide +kernel, rfl, by decide +kernel, by decide +kernel⟩
theorem ok_NeeT {f : Addr} {fd : FuncData} (F : Fun K "times" "Needs.times" sNeeTim f fd) (T : CTxt K mg C) (KF : ClX P w K mg base 3 "check_factor" ["value"] (spChkFac EF)) (M : CMk P w K mg base C 2 ["self", "function", "places", "other"]) : FnOk P w K mg base (L2.CX P w) 6 f fd ["self", "factor"] (spTim CP C EF 2) := by
  refine F.okX scNeeT (fun vs H Q E h => ?_) (fun cdv A outer s0 H vs Q E hr h => ?_)
  · obtain ⟨z, v, f1, l, x, rfl, _⟩ := h
    rfl
  · obtain ⟨z, v, f1, l, x, rfl, hA, hv, h⟩ := h
    have nd := scNeeT.nd
    obtain ⟨⟨dx, pl, hz, hp⟩, hi, hw, wf, ok, hl⟩ := hA
    obtain ⟨g, rfl, hg, ng⟩ := wf
    refine ⟨_, pss_cons (ps_expr (pe_clX KF hr (by decide) (by rfl) (takes_of rfl rfl rfl rfl) (pa_cons (pv 1) pa_nil))) (pss_one (ps_ret (pe_mkC M rfl hr (by decide) (by rfl) (pa_cons (pe_fld (pv 0) rfl) (pa_cons (pe_fld (pv 0) rfl) (pa_cons (pe_fld (pv 0) rfl) pa_nil)))))), ?_⟩
    refine ⟨_, rfl, v, rfl, hv, fun hf => ?_, fun hf => ?_⟩
    · rcases h with ⟨k, rfl, h1, hk, wf2, q⟩ | ⟨h0, _⟩
      · have wf2 : WF 2 f1 [.str g] := wf2
        exact ⟨_, rfl, fld T hz hi (j := 1) rfl rfl ⟨_, rfl, fld T hz hi (j := 2) rfl rfl ⟨_, rfl, fld T hz hi (j := 3) rfl rfl ⟨f1, pl, [.str g], rfl, hw, wf2, fun y dy H2 _ hy s2 => q y H2 ⟨⟨dy, pl, hy, hp.same s2⟩, hi, hw, wf2, ok, hl⟩ s2⟩⟩⟩⟩
      · rw [hf] at h0
        cases h0
    · rcases h with ⟨k, rfl, h1, _⟩ | ⟨_, h0⟩
      · have : factorB (.int k) = true := decide_eq_true h1
        rw [hf] at this
        cases this
      · exact h0
theorem scNeeMov : FnScope ["self", "by"] ["self", "by"] (defScope sNeeMov) := ⟨rfl, rfl, rfl, by decide +kernel, rfl, by decide +kernel, by decide +kernel⟩
theorem ok_NeeMov {f : Addr} {fd : FuncData} (F : Fun K "moved" "Needs.moved" sNeeMov f fd) (T : CTxt K mg C) (PT : PTxt K mg CP) (SH : Mt P w K mg base 6 CP "shifted" ["self", "by"] (spMove CP fun t d => t - d)) (M : CMk P w K mg base C 2 ["self", "function", "places", "other"]) : FnOk P w K mg base CX0 7 f fd ["self", "by"] (spMov CP C 2) := by
  refine F.ok scNeeMov (fun vs H Q E h => ?_) (fun cdv A outer s0 H vs Q E hr h => ?_)
  · obtain ⟨z, d, f1, l, x, rfl, _⟩ := h
    rfl
  · obtain ⟨z, d, f1, l, x, rfl, hA, hd, wf2, q⟩ := h
    have nd := scNeeMov.nd
    obtain ⟨⟨dx, pl, hz, hp⟩, hi, hw, wf, ok, hl⟩ := hA
    have wf0 := wf
    obtain ⟨_, dxp, t1, fi1, b1, M1, hpi, _⟩ := id hp
    have pno : (pFl t1 fi1 b1).lookup ("shifted" : Str) = none := pFl_no _ _ _ (by decide +kernel) (by decide +kernel) (by decide +kernel)
    obtain ⟨g, rfl, hg, ng⟩ := wf
    have wf2 : WF 2 f1 [.str g] := wf2
    refine ⟨_, pss_one (ps_ret (pe_mkC M rfl hr (by decide) (by rfl) (pa_cons (pe_fld (pv 0) rfl) (pa_cons (pe_mt SH PT.cl hr (by decide) (pe_fld (pv 0) rfl) (pa_cons (pv 1) pa_nil)) (pa_cons (pe_fld (pv 0) rfl) pa_nil))))), ?_⟩
    exact ⟨_, rfl, fld T hz hi (j := 1) rfl rfl ⟨_, rfl, fld T hz hi (j := 2) rfl rfl ⟨pl, dxp, _, rfl, hpi, pno, _, rfl, pl, d, l, rfl, ⟨hp, ok⟩, Nat.le_trans hl (by decide), fun pz n H5 _ hpz me hle s5 => ⟨_, rfl, fld T (s5 _ _ hz) hi (j := 3) rfl rfl ⟨f1, pz, [.str g], rfl, hw, wf2, fun y dy H6 _ hy s6 => q y n H6 ⟨⟨dy, pz, hy, hpz.is.same s6⟩, hi, hw, wf2, hpz.ok, Nat.le_trans hle hl⟩ me (s5.trans s6)⟩⟩⟩⟩⟩
theorem scNeeMir : FnScope ["self", "last"] ["self", "last"] (defScope sNeeMir) := ⟨rfl, rfl, rfl, by decide +kernel, rfl, by decide +kernel, by decide +kernel⟩
theorem ok_NeeMir {f : Addr} {fd : FuncData} (F : Fun K "mirrored" "Needs.mirrored" sNeeMir f fd) (T : CTxt K mg C) (PT : PTxt K mg CP) (SH : Mt P w K mg base 6 CP "mirrored" ["self", "last"] (spMove CP fun t d => d - t)) (M : CMk P w K mg base C 2 ["self", "function", "places", "other"]) : FnOk P w K mg base CX0 7 f fd ["self", "last"] (spMir CP C 2) := by
  refine F.ok scNeeMir (fun vs H Q E h => ?_) (fun cdv A outer s0 H vs Q E hr h => ?_)
  · obtain ⟨z, d, f1, l, x, rfl, _⟩ := h
    rfl
  · obtain ⟨z, d, f1, l, x, rfl, hA, hd, wf2, q⟩ := h
    have nd := scNeeMir.nd
    obtain ⟨⟨dx, pl, hz, hp⟩, hi, hw, wf, ok, hl⟩ := hA
    have wf0 := wf
    obtain ⟨_, dxp, t1, fi1, b1, M1, hpi, _⟩ := id hp
    have pno : (pFl t1 fi1 b1).lookup ("mirrored" : Str) = none := pFl_no _ _ _ (by decide +kernel) (by decide +kernel) (by decide +kernel)
    obtain ⟨g, rfl, hg, ng⟩ := wf
    have wf2 : WF 2 f1 [.str g] := wf2
    refine ⟨_, pss_one (ps_ret (pe_mkC M rfl hr (by decide) (by rfl) (pa_cons (pe_fld (pv 0) rfl) (pa_cons (pe_mt SH PT.cl hr (by decide) (pe_fld (pv 0) rfl) (pa_cons (pv 1) pa_nil)) (pa_cons (pe_fld (pv 0) rfl) pa_nil))))), ?_⟩
    exact ⟨_, rfl, fld T hz hi (j := 1) rfl rfl ⟨_, rfl, fld T hz hi (j := 2) rfl rfl ⟨pl, dxp, _, rfl, hpi, pno, _, rfl, pl, d, l, rfl, ⟨hp, ok⟩, Nat.le_trans hl (by decide), fun pz n H5 _ hpz me hle s5 => ⟨_, rfl, fld T (s5 _ _ hz) hi (j := 3) rfl rfl ⟨f1, pz, [.str g], rfl, hw, wf2, fun y dy H6 _ hy s6 => q y n H6 ⟨⟨dy, pz, hy, hpz.is.same s6⟩, hi, hw, wf2, hpz.ok, Nat.le_trans hle hl⟩ me (s5.trans s6)⟩⟩⟩⟩⟩
theorem scSprN : FnScope ["self"] ["self"] (defScope sSprNeg) := ⟨rfl, rfl, rfl, by decide +kernel, rfl, by decide +kernel, by decide +kernel⟩
theorem ok_SprN {f : Addr} {fd : FuncData} (F : Fun K "negated" "Spreads.negated" sSprNeg f fd) (T : CTxt K mg C) (M : CMk P w K mg base C 3 ["self", "function", "places", "way"]) : FnOk P w K mg base CX0 6 f fd ["self"] (spNeg CP C 3) := by
  refine F.ok scSprN (fun vs H Q E h => ?_) (fun cdv A outer s0 H vs Q E hr h => ?_)
  · obtain ⟨z, f1, l, x, rfl, _⟩ := h
    rfl
  · obtain ⟨z, f1, l, x, rfl, hA, q⟩ := h
    obtain ⟨⟨dx, pl, hz, hp⟩, hi, hw, wf, ok, hl⟩ := hA
    obtain ⟨wy, rfl, hs⟩ := wf
    have wf2 : WF 3 f1 [.str wy] := ⟨wy, rfl, hs⟩
    refine ⟨_, pss_one (ps_ret (pe_mkC M rfl hr (by decide) (by rfl) (pa_cons (pe_fld (pv 0) rfl) (pa_cons (pe_fld (pv 0) rfl) (pa_cons (pe_fld (pv 0) rfl) pa_nil))))), ?_⟩
    exact ⟨_, rfl, fld T hz hi (j := 1) rfl rfl ⟨_, rfl, fld T hz hi (j := 2) rfl rfl ⟨_, rfl, fld T hz hi (j := 3) rfl rfl ⟨f1, pl, [.str wy], rfl, hw, wf2, fun y dy H2 _ hy s2 => q y H2 ⟨⟨dy, pl, hy, hp.same s2⟩, hi, hw, wf2, ok, hl⟩ s2⟩⟩⟩⟩
theorem scSprT : FnScope ["self", "factor"] ["self", "factor"] (defScope sSprTim) := ⟨rfl, rfl, rfl, by decide +kernel, rfl, by decide +kernel, by decide +kernel⟩
theorem ok_SprT {f : Addr} {fd : FuncData} (F : Fun K "times" "Spreads.times" sSprTim f fd) (T : CTxt K mg C) (KF : ClX P w K mg base 3 "check_factor" ["value"] (spChkFac EF)) (M : CMk P w K mg base C 3 ["self", "function", "places", "way"]) : FnOk P w K mg base (L2.CX P w) 6 f fd ["self", "factor"] (spTim CP C EF 3) := by
  refine F.okX scSprT (fun vs H Q E h => ?_) (fun cdv A outer s0 H vs Q E hr h => ?_)
  · obtain ⟨z, v, f1, l, x, rfl, _⟩ := h
    rfl
  · obtain ⟨z, v, f1, l, x, rfl, hA, hv, h⟩ := h
    have nd := scSprT.nd
    obtain ⟨⟨dx, pl, hz, hp⟩, hi, hw, wf, ok, hl⟩ := hA
    obtain ⟨wy, rfl, hs⟩ := wf
    refine ⟨_, pss_cons (ps_expr (pe_clX KF hr (by decide) (by rfl) (takes_of rfl rfl rfl rfl) (pa_cons (pv 1) pa_nil))) (pss_one (ps_ret (pe_mkC M rfl hr (by decide) (by rfl) (pa_cons (pe_fld (pv 0) rfl) (pa_cons (pe_fld (pv 0) rfl) (pa_cons (pe_fld (pv 0) rfl) pa_nil)))))), ?_⟩
    refine ⟨_, rfl, v, rfl, hv, fun hf => ?_, fun hf => ?_⟩
    · rcases h with ⟨k, rfl, h1, hk, wf2, q⟩ | ⟨h0, _⟩
      · have wf2 : WF 3 f1 [.str wy] := wf2
        exact ⟨_, rfl, fld T hz hi (j := 1) rfl rfl ⟨_, rfl, fld T hz hi (j := 2) rfl rfl ⟨_, rfl, fld T hz hi (j := 3) rfl rfl ⟨f1, pl, [.str wy], rfl, hw, wf2, fun y dy H2 _ hy s2 => q y H2 ⟨⟨dy, pl, hy, hp.same s2⟩, hi, hw, wf2, ok, hl⟩ s2⟩⟩⟩⟩
      · rw [hf] at h0
        cases h0
    · rcases h with ⟨k, rfl, h1, _⟩ | ⟨_, h0⟩
      · have : factorB (.int k) = true := decide_eq_true h1
        rw [hf] at this
        cases this
      · exact h0
theorem scSprMov : FnScope ["self", "by"] ["self", "by"] (defScope sSprMov) := ⟨rfl, rfl, rfl, by decide +kernel, rfl, by decide +kernel, by decide +kernel⟩
theorem ok_SprMov {f : Addr} {fd : FuncData} (F : Fun K "moved" "Spreads.moved" sSprMov f fd) (T : CTxt K mg C) (PT : PTxt K mg CP) (SH : Mt P w K mg base 6 CP "shifted" ["self", "by"] (spMove CP fun t d => t - d)) (M : CMk P w K mg base C 3 ["self", "function", "places", "way"]) : FnOk P w K mg base CX0 7 f fd ["self", "by"] (spMov CP C 3) := by
  refine F.ok scSprMov (fun vs H Q E h => ?_) (fun cdv A outer s0 H vs Q E hr h => ?_)
  · obtain ⟨z, d, f1, l, x, rfl, _⟩ := h
    rfl
  · obtain ⟨z, d, f1, l, x, rfl, hA, hd, wf2, q⟩ := h
    have nd := scSprMov.nd
    obtain ⟨⟨dx, pl, hz, hp⟩, hi, hw, wf, ok, hl⟩ := hA
    have wf0 := wf
    obtain ⟨_, dxp, t1, fi1, b1, M1, hpi, _⟩ := id hp
    have pno : (pFl t1 fi1 b1).lookup ("shifted" : Str) = none := pFl_no _ _ _ (by decide +kernel) (by decide +kernel) (by decide +kernel)
    obtain ⟨wy, rfl, hs⟩ := wf
    have wf2 : WF 3 f1 [.str wy] := wf2
    refine ⟨_, pss_one (ps_ret (pe_mkC M rfl hr (by decide) (by rfl) (pa_cons (pe_fld (pv 0) rfl) (pa_cons (pe_mt SH PT.cl hr (by decide) (pe_fld (pv 0) rfl) (pa_cons (pv 1) pa_nil)) (pa_cons (pe_fld (pv 0) rfl) pa_nil))))), ?_⟩
    exact ⟨_, rfl, fld T hz hi (j := 1) rfl rfl ⟨_, rfl, fld T hz hi (j := 2) rfl rfl ⟨pl, dxp, _, rfl, hpi, pno, _, rfl, pl, d, l, rfl, ⟨hp, ok⟩, Nat.le_trans hl (by decide), fun pz n H5 _ hpz me hle s5 => ⟨_, rfl, fld T (s5 _ _ hz) hi (j := 3) rfl rfl ⟨f1, pz, [.str wy], rfl, hw, wf2, fun y dy H6 _ hy s6 => q y n H6 ⟨⟨dy, pz, hy, hpz.is.same s6⟩, hi, hw, wf2, hpz.ok, Nat.le_trans hle hl⟩ me (s5.trans s6)⟩⟩⟩⟩⟩
theorem scSprMir : FnScope ["self", "last"] ["self", "last"] (defScope sSprMir) := ⟨rfl, rfl, rfl, by decide +kernel, rfl, by decide +kernel, by decide +kernel⟩
theorem ok_SprMir {f : Addr} {fd : FuncData} (F : Fun K "mirrored" "Spreads.mirrored" sSprMir f fd) (T : CTxt K mg C) (PT : PTxt K mg CP) (SH : Mt P w K mg base 6 CP "mirrored" ["self", "last"] (spMove CP fun t d => d - t)) (TT : TuTxt K w mg aT) (M : CMk P w K mg base C 3 ["self", "function", "places", "way"]) : FnOk P w K mg base CX0 7 f fd ["self", "last"] (spMir CP C 3) := by
  refine F.ok scSprMir (fun vs H Q E h => ?_) (fun cdv A outer s0 H vs Q E hr h => ?_)
  · obtain ⟨z, d, f1, l, x, rfl, _⟩ := h
    rfl
  · obtain ⟨z, d, f1, l, x, rfl, hA, hd, wf2, q⟩ := h
    have nd := scSprMir.nd
    obtain ⟨⟨dx, pl, hz, hp⟩, hi, hw, wf, ok, hl⟩ := hA
    have wf0 := wf
    obtain ⟨_, dxp, t1, fi1, b1, M1, hpi, _⟩ := id hp
    have pno : (pFl t1 fi1 b1).lookup ("mirrored" : Str) = none := pFl_no _ _ _ (by decide +kernel) (by decide +kernel) (by decide +kernel)
    obtain ⟨wy, rfl, hs⟩ := wf
    have wf2 : WF 3 f1 [.str (flp wy)] := wf2
    refine ⟨_, pss_one (ps_ret (pe_mkC M rfl hr (by decide) (by rfl) (pa_cons (pe_fld (pv 0) rfl) (pa_cons (pe_mt SH PT.cl hr (by decide) (pe_fld (pv 0) rfl) (pa_cons (pv 1) pa_nil)) (pa_cons (pe_ix ix_kdict (pe_glob (v := .ref aT) (by rfl) TT.mgT rfl) (pe_fld (pv 0) rfl) (fun _ _ => rfl)) pa_nil))))), ?_⟩
    exact ⟨_, rfl, fld T hz hi (j := 1) rfl rfl ⟨_, rfl, fld T hz hi (j := 2) rfl rfl ⟨pl, dxp, _, rfl, hpi, pno, _, rfl, pl, d, l, rfl, ⟨hp, ok⟩, Nat.le_trans hl (by decide), fun pz n H5 _ hpz me hle s5 => ⟨_, rfl, fld T (s5 _ _ hz) hi (j := 3) rfl rfl ⟨aT, wy, _, rfl, rfl, TT.it wy (.inr hs), ⟨f1, pz, [.str (flp wy)], rfl, hw, wf2, fun y dy H6 _ hy s6 => q y n H6 ⟨⟨dy, pz, hy, hpz.is.same s6⟩, hi, hw, wf2, hpz.ok, Nat.le_trans hle hl⟩ me (s5.trans s6)⟩⟩⟩⟩⟩⟩
theorem scBouN : FnScope ["self"] ["self"] (defScope sBouNeg) := ⟨rfl, rfl, rfl, by decide +kernel, rfl, by decide +kernel, by decide +kernel⟩
theorem ok_BouN {f : Addr} {fd : FuncData} (F : Fun K "negated" "Bound.negated" sBouNeg f fd) (T : CTxt K mg C) (TT : TuTxt K w mg aT) (M : CMk P w K mg base C 4 ["self", "function", "places", "sign", "slope", "height"]) : FnOk P w K mg base CX0 6 f fd ["self"] (spNeg CP C 4) := by
  refine F.ok scBouN (fun vs H Q E h => ?_) (fun cdv A outer s0 H vs Q E hr h => ?_)
  · obtain ⟨z, f1, l, x, rfl, _⟩ := h
    rfl
  · obtain ⟨z, f1, l, x, rfl, hA, q⟩ := h
    obtain ⟨⟨dx, pl, hz, hp⟩, hi, hw, wf, ok, hl⟩ := hA
    obtain ⟨s, a, b, rfl, hs, na, nb⟩ := wf
    have wf2 : WF 4 f1 [.str (flp s), .int (-a), .int (-b)] := ⟨_, _, _, rfl, flp_sign hs, num_neg na, num_neg nb⟩
    refine ⟨_, pss_one (ps_ret (pe_mkC M rfl hr (by decide) (by rfl) (pa_cons (pe_fld (pv 0) rfl) (pa_cons (pe_fld (pv 0) rfl) (pa_cons (pe_ix ix_kdict (pe_glob (v := .ref aT) (by rfl) TT.mgT rfl) (pe_fld (pv 0) rfl) (fun _ _ => rfl)) (pa_cons (pe_un un_neg (pe_fld (pv 0) rfl)) (pa_cons (pe_un un_neg (pe_fld (pv 0) rfl)) pa_nil))))))), ?_⟩
    exact ⟨_, rfl, fld T hz hi (j := 1) rfl rfl ⟨_, rfl, fld T hz hi (j := 2) rfl rfl ⟨_, rfl, fld T hz hi (j := 3) rfl rfl ⟨aT, s, _, rfl, rfl, TT.it s (.inl hs), ⟨_, rfl, fld T hz hi (j := 4) rfl rfl ⟨a, rfl, ⟨_, rfl, fld T hz hi (j := 5) rfl rfl ⟨b, rfl, ⟨f1, pl, [.str (flp s), .int (-a), .int (-b)], rfl, hw, wf2, fun y dy H2 _ hy s2 => q y H2 ⟨⟨dy, pl, hy, hp.same s2⟩, hi, hw, wf2, ok, hl⟩ s2⟩⟩⟩⟩⟩⟩⟩⟩⟩
theorem scBouT : FnScope ["self", "factor"] ["self", "factor"] (defScope sBouTim) := ⟨rfl, rfl, rfl, by decide +kernel, rfl, by decide +kernel, by decide +kernel⟩
theorem ok_BouT {f : Addr} {fd : FuncData} (F : Fun K "times" "Bound.times" sBouTim f fd) (T : CTxt K mg C) (KF : ClX P w K mg base 3 "check_factor" ["value"] (spChkFac EF)) (M : CMk P w K mg base C 4 ["self", "function", "places", "sign", "slope", "height"]) : FnOk P w K mg base (L2.CX P w) 6 f fd ["self", "factor"] (spTim CP C EF 4) := by
  refine F.okX scBouT (fun vs H Q E h => ?_) (fun cdv A outer s0 H vs Q E hr h => ?_)
  · obtain ⟨z, v, f1, l, x, rfl, _⟩ := h
    rfl
  · obtain ⟨z, v, f1, l, x, rfl, hA, hv, h⟩ := h
    have nd := scBouT.nd
    obtain ⟨⟨dx, pl, hz, hp⟩, hi, hw, wf, ok, hl⟩ := hA
    obtain ⟨s, a, b, rfl, hs, na, nb⟩ := wf
    refine ⟨_, pss_cons (ps_expr (pe_clX KF hr (by decide) (by rfl) (takes_of rfl rfl rfl rfl) (pa_cons (pv 1) pa_nil))) (pss_one (ps_ret (pe_mkC M rfl hr (by decide) (by rfl) (pa_cons (pe_fld (pv 0) rfl) (pa_cons (pe_fld (pv 0) rfl) (pa_cons (pe_fld (pv 0) rfl) (pa_cons (pe_op op_mulW (pe_fld (pv 0) rfl) (pv 1)) (pa_cons (pe_op op_mulW (pe_fld (pv 0) rfl) (pv 1)) pa_nil)))))))), ?_⟩
    refine ⟨_, rfl, v, rfl, hv, fun hf => ?_, fun hf => ?_⟩
    · rcases h with ⟨k, rfl, h1, hk, wf2, q⟩ | ⟨h0, _⟩
      · have wf2 : WF 4 f1 [.str s, .int (a * k), .int (b * k)] := wf2
        exact ⟨_, rfl, fld T hz hi (j := 1) rfl rfl ⟨_, rfl, fld T hz hi (j := 2) rfl rfl ⟨_, rfl, fld T hz hi (j := 3) rfl rfl ⟨_, rfl, fld T hz hi (j := 4) rfl rfl ⟨_, rfl, a, k, rfl, rfl, cw40 na hk, ⟨_, rfl, fld T hz hi (j := 5) rfl rfl ⟨_, rfl, b, k, rfl, rfl, cw40 nb hk, ⟨f1, pl, [.str s, .int (a * k), .int (b * k)], rfl, hw, wf2, fun y dy H2 _ hy s2 => q y H2 ⟨⟨dy, pl, hy, hp.same s2⟩, hi, hw, wf2, ok, hl⟩ s2⟩⟩⟩⟩⟩⟩⟩⟩
      · rw [hf] at h0
        cases h0
    · rcases h with ⟨k, rfl, h1, _⟩ | ⟨_, h0⟩
      · have : factorB (.int k) = true := decide_eq_true h1
        rw [hf] at this
        cases this
      · exact h0
theorem scBouMov : FnScope ["self", "by", "line"] ["self", "by"] (defScope sBouMov) := ⟨rfl, rfl, rfl, by decide +kernel, rfl, by decide +kernel, by decide +kernel⟩
theorem ok_BouMov {f : Addr} {fd : FuncData} (F : Fun K "moved" "Bound.moved" sBouMov f fd) (T : CTxt K mg C) (PT : PTxt K mg CP) (SH : Mt P w K mg base 6 CP "shifted" ["self", "by"] (spMove CP fun t d => t - d)) (LT : LTxt K mg CL) (LI : Mt P w K mg base 3 (C 4) "line" ["self"] (spCLine CP CL C 4)) (LV : Mt P w K mg base 4 CL "moved" ["self", "by"] (spLMov CL)) (M : CMk P w K mg base C 4 ["self", "function", "places", "sign", "slope", "height"]) : FnOk P w K mg base CX0 7 f fd ["self", "by"] (spMov CP C 4) := by
  refine F.ok scBouMov (fun vs H Q E h => ?_) (fun cdv A outer s0 H vs Q E hr h => ?_)
  · obtain ⟨z, d, f1, l, x, rfl, _⟩ := h
    rfl
  · obtain ⟨z, d, f1, l, x, rfl, hA, hd, wf2, q⟩ := h
    have nd := scBouMov.nd
    obtain ⟨⟨dx, pl, hz, hp⟩, hi, hw, wf, ok, hl⟩ := hA
    have wf0 := wf
    obtain ⟨_, dxp, t1, fi1, b1, M1, hpi, _⟩ := id hp
    have pno : (pFl t1 fi1 b1).lookup ("shifted" : Str) = none := pFl_no _ _ _ (by decide +kernel) (by decide +kernel) (by decide +kernel)
    obtain ⟨s, a, b, rfl, hs, na, nb⟩ := wf
    have wf2 : WF 4 f1 [.str s, .int a, .int (b - a * d)] := wf2
    refine ⟨_, pss_cons (ps_set (i := 2) nd rfl (.inl rfl) (pe_mt LV LT.cl hr (by decide) (pe_mt0 LI (T.cl 4 (by decide)) hr (by decide) (pv 0)) (pa_cons (pv 1) pa_nil))) (pss_one (ps_ret (pe_mkC M rfl hr (by decide) (by rfl) (pa_cons (pe_fld (pv 0) rfl) (pa_cons (pe_mt SH PT.cl hr (by decide) (pe_fld (pv 0) rfl) (pa_cons (pv 1) pa_nil)) (pa_cons (pe_fld (pv 0) rfl) (pa_cons (pe_fld (pv 2) rfl) (pa_cons (pe_fld (pv 2) rfl) pa_nil)))))))), ?_⟩
    refine ⟨_, rfl, z, dx, _, rfl, hz, cFl_no (by decide +kernel), z, f1, l, _, a, b, rfl, ⟨⟨dx, pl, hz, hp⟩, hi, hw, wf0, ok, hl⟩, .inl ⟨s, rfl⟩, fun zl H1 _ hL s1 => ?_⟩
    obtain ⟨dl, hzl⟩ := id hL
    refine ⟨zl, dl, _, rfl, hzl, lFl_no a b (by decide +kernel) (by decide +kernel), _, rfl, zl, a, b, d, rfl, hL, cw40 na hd, fun z2 H2 _ ⟨d2, hz2⟩ s2 => ?_⟩
    have s12 := s1.trans s2
    exact ⟨_, rfl, fld T (s12 _ _ hz) hi (j := 1) rfl rfl ⟨_, rfl, fld T (s12 _ _ hz) hi (j := 2) rfl rfl ⟨pl, dxp, _, rfl, (s12 _ _ hpi), pno, _, rfl, pl, d, l, rfl, ⟨hp.same s12, ok⟩, Nat.le_trans hl (by decide), fun pz n H5 _ hpz me hle s5 => ⟨_, rfl, fld T ((s12.trans s5) _ _ hz) hi (j := 3) rfl rfl ⟨_, rfl, z2, CL, d2, _, _, rfl, s5 _ _ hz2, LT.cl, LT.nS, lFl_slope _ _, ⟨_, rfl, z2, CL, d2, _, _, rfl, s5 _ _ hz2, LT.cl, LT.nH, lFl_height _ _, ⟨f1, pz, [.str s, .int a, .int (b - a * d)], rfl, hw, wf2, fun y dy H6 _ hy s6 => q y n H6 ⟨⟨dy, pz, hy, hpz.is.same s6⟩, hi, hw, wf2, hpz.ok, Nat.le_trans hle hl⟩ me ((s12.trans s5).trans s6)⟩⟩⟩⟩⟩⟩⟩
theorem scBouMir : FnScope ["self", "last", "line"] ["self", "last"] (defScope sBouMir) := ⟨rfl, rfl, rfl, by decide +kernel, rfl, by decide +kernel, by decide +kernel⟩
theorem ok_BouMir {f : Addr} {fd : FuncData} (F : Fun K "mirrored" "Bound.mirrored" sBouMir f fd) (T : CTxt K mg C) (PT : PTxt K mg CP) (SH : Mt P w K mg base 6 CP "mirrored" ["self", "last"] (spMove CP fun t d => d - t)) (LT : LTxt K mg CL) (LI : Mt P w K mg base 3 (C 4) "line" ["self"] (spCLine CP CL C 4)) (LI2 : Mt P w K mg base 4 CL "mirrored" ["self", "last"] (spLMir CL)) (M : CMk P w K mg base C 4 ["self", "function", "places", "sign", "slope", "height"]) : FnOk P w K mg base CX0 7 f fd ["self", "last"] (spMir CP C 4) := by
  refine F.ok scBouMir (fun vs H Q E h => ?_) (fun cdv A outer s0 H vs Q E hr h => ?_)
  · obtain ⟨z, d, f1, l, x, rfl, _⟩ := h
    rfl
  · obtain ⟨z, d, f1, l, x, rfl, hA, hd, wf2, q⟩ := h
    have nd := scBouMir.nd
    obtain ⟨⟨dx, pl, hz, hp⟩, hi, hw, wf, ok, hl⟩ := hA
    have wf0 := wf
    obtain ⟨_, dxp, t1, fi1, b1, M1, hpi, _⟩ := id hp
    have pno : (pFl t1 fi1 b1).lookup ("mirrored" : Str) = none := pFl_no _ _ _ (by decide +kernel) (by decide +kernel) (by decide +kernel)
    obtain ⟨s, a, b, rfl, hs, na, nb⟩ := wf
    have wf2 : WF 4 f1 [.str s, .int (-a), .int (b + a * d)] := wf2
    refine ⟨_, pss_cons (ps_set (i := 2) nd rfl (.inl rfl) (pe_mt LI2 LT.cl hr (by decide) (pe_mt0 LI (T.cl 4 (by decide)) hr (by decide) (pv 0)) (pa_cons (pv 1) pa_nil))) (pss_one (ps_ret (pe_mkC M rfl hr (by decide) (by rfl) (pa_cons (pe_fld (pv 0) rfl) (pa_cons (pe_mt SH PT.cl hr (by decide) (pe_fld (pv 0) rfl) (pa_cons (pv 1) pa_nil)) (pa_cons (pe_fld (pv 0) rfl) (pa_cons (pe_fld (pv 2) rfl) (pa_cons (pe_fld (pv 2) rfl) pa_nil)))))))), ?_⟩
    refine ⟨_, rfl, z, dx, _, rfl, hz, cFl_no (by decide +kernel), z, f1, l, _, a, b, rfl, ⟨⟨dx, pl, hz, hp⟩, hi, hw, wf0, ok, hl⟩, .inl ⟨s, rfl⟩, fun zl H1 _ hL s1 => ?_⟩
    obtain ⟨dl, hzl⟩ := id hL
    refine ⟨zl, dl, _, rfl, hzl, lFl_no a b (by decide +kernel) (by decide +kernel), _, rfl, zl, a, b, d, rfl, hL, cw40 na hd, fun z2 H2 _ ⟨d2, hz2⟩ s2 => ?_⟩
    have s12 := s1.trans s2
    exact ⟨_, rfl, fld T (s12 _ _ hz) hi (j := 1) rfl rfl ⟨_, rfl, fld T (s12 _ _ hz) hi (j := 2) rfl rfl ⟨pl, dxp, _, rfl, (s12 _ _ hpi), pno, _, rfl, pl, d, l, rfl, ⟨hp.same s12, ok⟩, Nat.le_trans hl (by decide), fun pz n H5 _ hpz me hle s5 => ⟨_, rfl, fld T ((s12.trans s5) _ _ hz) hi (j := 3) rfl rfl ⟨_, rfl, z2, CL, d2, _, _, rfl, s5 _ _ hz2, LT.cl, LT.nS, lFl_slope _ _, ⟨_, rfl, z2, CL, d2, _, _, rfl, s5 _ _ hz2, LT.cl, LT.nH, lFl_height _ _, ⟨f1, pz, [.str s, .int (-a), .int (b + a * d)], rfl, hw, wf2, fun y dy H6 _ hy s6 => q y n H6 ⟨⟨dy, pz, hy, hpz.is.same s6⟩, hi, hw, wf2, hpz.ok, Nat.le_trans hle hl⟩ me ((s12.trans s5).trans s6)⟩⟩⟩⟩⟩⟩⟩
theorem scPaiN : FnScope ["self"] ["self"] (defScope sPaiNeg) := ⟨rfl, rfl, rfl, by decide +kernel, rfl, by decide +kernel, by decide +kernel⟩
theorem ok_PaiN {f : Addr} {fd : FuncData} (F : Fun K "negated" "Pair.negated" sPaiNeg f fd) (T : CTxt K mg C) (TT : TuTxt K w mg aT) (M : CMk P w K mg base C 5 ["self", "function", "places", "sign", "other", "slope", "height"]) : FnOk P w K mg base CX0 6 f fd ["self"] (spNeg CP C 5) := by
  refine F.ok scPaiN (fun vs H Q E h => ?_) (fun cdv A outer s0 H vs Q E hr h => ?_)
  · obtain ⟨z, f1, l, x, rfl, _⟩ := h
    rfl
  · obtain ⟨z, f1, l, x, rfl, hA, q⟩ := h
    obtain ⟨⟨dx, pl, hz, hp⟩, hi, hw, wf, ok, hl⟩ := hA
    obtain ⟨s, g, a, b, rfl, hs, hg, ng, na, nb⟩ := wf
    have wf2 : WF 5 f1 [.str (flp s), .str g, .int (-a), .int (-b)] := ⟨_, g, _, _, rfl, flp_sign hs, hg, ng, num_neg na, num_neg nb⟩
    refine ⟨_, pss_one (ps_ret (pe_mkC M rfl hr (by decide) (by rfl) (pa_cons (pe_fld (pv 0) rfl) (pa_cons (pe_fld (pv 0) rfl) (pa_cons (pe_ix ix_kdict (pe_glob (v := .ref aT) (by rfl) TT.mgT rfl) (pe_fld (pv 0) rfl) (fun _ _ => rfl)) (pa_cons (pe_fld (pv 0) rfl) (pa_cons (pe_un un_neg (pe_fld (pv 0) rfl)) (pa_cons (pe_un un_neg (pe_fld (pv 0) rfl)) pa_nil)))))))), ?_⟩
    exact ⟨_, rfl, fld T hz hi (j := 1) rfl rfl ⟨_, rfl, fld T hz hi (j := 2) rfl rfl ⟨_, rfl, fld T hz hi (j := 3) rfl rfl ⟨aT, s, _, rfl, rfl, TT.it s (.inl hs), ⟨_, rfl, fld T hz hi (j := 4) rfl rfl ⟨_, rfl, fld T hz hi (j := 5) rfl rfl ⟨a, rfl, ⟨_, rfl, fld T hz hi (j := 6) rfl rfl ⟨b, rfl, ⟨f1, pl, [.str (flp s), .str g, .int (-a), .int (-b)], rfl, hw, wf2, fun y dy H2 _ hy s2 => q y H2 ⟨⟨dy, pl, hy, hp.same s2⟩, hi, hw, wf2, ok, hl⟩ s2⟩⟩⟩⟩⟩⟩⟩⟩⟩⟩
theorem scPaiT : FnScope ["self", "factor", "slope", "height"] ["self", "factor"] (defScope sPaiTim) := ⟨rfl, rfl, rfl, by decide +kernel, rfl, by decide +kernel, by decide +kernel⟩
theorem ok_PaiT {f : Addr} {fd : FuncData} (F : Fun K "times" "Pair.times" sPaiTim f fd) (T : CTxt K mg C) (KF : ClX P w K mg base 3 "check_factor" ["value"] (spChkFac EF)) (M : CMk P w K mg base C 5 ["self", "function", "places", "sign", "other", "slope", "height"]) : FnOk P w K mg base (L2.CX P w) 6 f fd ["self", "factor"] (spTim CP C EF 5) := by
  refine F.okX scPaiT (fun vs H Q E h => ?_) (fun cdv A outer s0 H vs Q E hr h => ?_)
  · obtain ⟨z, v, f1, l, x, rfl, _⟩ := h
    rfl
  · obtain ⟨z, v, f1, l, x, rfl, hA, hv, h⟩ := h
    have nd := scPaiT.nd
    obtain ⟨⟨dx, pl, hz, hp⟩, hi, hw, wf, ok, hl⟩ := hA
    obtain ⟨s, g, a, b, rfl, hs, hg, ng, na, nb⟩ := wf
    refine ⟨_, pss_cons (ps_expr (pe_clX KF hr (by decide) (by rfl) (takes_of rfl rfl rfl rfl) (pa_cons (pv 1) pa_nil))) (pss_cons (ps_par (i := 2) (j := 3) rfl nd rfl rfl (by decide) rfl rfl (pa_cons (pe_op op_mulW (pe_fld (pv 0) rfl) (pv 1)) (pa_cons (pe_op op_mulW (pe_fld (pv 0) rfl) (pv 1)) pa_nil)) rfl) (pss_one (ps_ret (pe_mkC M rfl hr (by decide) (by rfl) (pa_cons (pe_fld (pv 0) rfl) (pa_cons (pe_fld (pv 0) rfl) (pa_cons (pe_fld (pv 0) rfl) (pa_cons (pe_fld (pv 0) rfl) (pa_cons (pv 2) (pa_cons (pv 3) pa_nil)))))))))), ?_⟩
    refine ⟨_, rfl, v, rfl, hv, fun hf => ?_, fun hf => ?_⟩
    · rcases h with ⟨k, rfl, h1, hk, wf2, q⟩ | ⟨h0, _⟩
      · have wf2 : WF 5 f1 [.str s, .str g, .int (a * k), .int (b * k)] := wf2
        exact ⟨_, rfl, fld T hz hi (j := 5) rfl rfl ⟨_, rfl, a, k, rfl, rfl, cw40 na hk, ⟨_, rfl, fld T hz hi (j := 6) rfl rfl ⟨_, rfl, b, k, rfl, rfl, cw40 nb hk, ⟨_, _, rfl, ⟨_, rfl, fld T hz hi (j := 1) rfl rfl ⟨_, rfl, fld T hz hi (j := 2) rfl rfl ⟨_, rfl, fld T hz hi (j := 3) rfl rfl ⟨_, rfl, fld T hz hi (j := 4) rfl rfl ⟨_, rfl, ⟨_, rfl, ⟨f1, pl, [.str s, .str g, .int (a * k), .int (b * k)], rfl, hw, wf2, fun y dy H2 _ hy s2 => q y H2 ⟨⟨dy, pl, hy, hp.same s2⟩, hi, hw, wf2, ok, hl⟩ s2⟩⟩⟩⟩⟩⟩⟩⟩⟩⟩⟩⟩
      · rw [hf] at h0
        cases h0
    · rcases h with ⟨k, rfl, h1, _⟩ | ⟨_, h0⟩
      · have : factorB (.int k) = true := decide_eq_true h1
        rw [hf] at this
        cases this
      · exact h0
theorem scPaiMov : FnScope ["self", "by", "line"] ["self", "by"] (defScope sPaiMov) := ⟨rfl, rfl, rfl, by decide +kernel, rfl, by decide +kernel, by decide +kernel⟩
theorem ok_PaiMov {f : Addr} {fd : FuncData} (F : Fun K "moved" "Pair.moved" sPaiMov f fd) (T : CTxt K mg C) (PT : PTxt K mg CP) (SH : Mt P w K mg base 6 CP "shifted" ["self", "by"] (spMove CP fun t d => t - d)) (LT : LTxt K mg CL) (LI : Mt P w K mg base 3 (C 5) "line" ["self"] (spCLine CP CL C 5)) (LV : Mt P w K mg base 4 CL "moved" ["self", "by"] (spLMov CL)) (M : CMk P w K mg base C 5 ["self", "function", "places", "sign", "other", "slope", "height"]) : FnOk P w K mg base CX0 7 f fd ["self", "by"] (spMov CP C 5) := by
  refine F.ok scPaiMov (fun vs H Q E h => ?_) (fun cdv A outer s0 H vs Q E hr h => ?_)
  · obtain ⟨z, d, f1, l, x, rfl, _⟩ := h
    rfl
  · obtain ⟨z, d, f1, l, x, rfl, hA, hd, wf2, q⟩ := h
    have nd := scPaiMov.nd
    obtain ⟨⟨dx, pl, hz, hp⟩, hi, hw, wf, ok, hl⟩ := hA
    have wf0 := wf
    obtain ⟨_, dxp, t1, fi1, b1, M1, hpi, _⟩ := id hp
    have pno : (pFl t1 fi1 b1).lookup ("shifted" : Str) = none := pFl_no _ _ _ (by decide +kernel) (by decide +kernel) (by decide +kernel)
    obtain ⟨s, g, a, b, rfl, hs, hg, ng, na, nb⟩ := wf
    have wf2 : WF 5 f1 [.str s, .str g, .int a, .int (b - a * d)] := wf2
    refine ⟨_, pss_cons (ps_set (i := 2) nd rfl (.inl rfl) (pe_mt LV LT.cl hr (by decide) (pe_mt0 LI (T.cl 5 (by decide)) hr (by decide) (pv 0)) (pa_cons (pv 1) pa_nil))) (pss_one (ps_ret (pe_mkC M rfl hr (by decide) (by rfl) (pa_cons (pe_fld (pv 0) rfl) (pa_cons (pe_mt SH PT.cl hr (by decide) (pe_fld (pv 0) rfl) (pa_cons (pv 1) pa_nil)) (pa_cons (pe_fld (pv 0) rfl) (pa_cons (pe_fld (pv 0) rfl) (pa_cons (pe_fld (pv 2) rfl) (pa_cons (pe_fld (pv 2) rfl) pa_nil))))))))), ?_⟩
    refine ⟨_, rfl, z, dx, _, rfl, hz, cFl_no (by decide +kernel), z, f1, l, _, a, b, rfl, ⟨⟨dx, pl, hz, hp⟩, hi, hw, wf0, ok, hl⟩, .inr ⟨s, g, rfl⟩, fun zl H1 _ hL s1 => ?_⟩
    obtain ⟨dl, hzl⟩ := id hL
    refine ⟨zl, dl, _, rfl, hzl, lFl_no a b (by decide +kernel) (by decide +kernel), _, rfl, zl, a, b, d, rfl, hL, cw40 na hd, fun z2 H2 _ ⟨d2, hz2⟩ s2 => ?_⟩
    have s12 := s1.trans s2
    exact ⟨_, rfl, fld T (s12 _ _ hz) hi (j := 1) rfl rfl ⟨_, rfl, fld T (s12 _ _ hz) hi (j := 2) rfl rfl ⟨pl, dxp, _, rfl, (s12 _ _ hpi), pno, _, rfl, pl, d, l, rfl, ⟨hp.same s12, ok⟩, Nat.le_trans hl (by decide), fun pz n H5 _ hpz me hle s5 => ⟨_, rfl, fld T ((s12.trans s5) _ _ hz) hi (j := 3) rfl rfl ⟨_, rfl, fld T ((s12.trans s5) _ _ hz) hi (j := 4) rfl rfl ⟨_, rfl, z2, CL, d2, _, _, rfl, s5 _ _ hz2, LT.cl, LT.nS, lFl_slope _ _, ⟨_, rfl, z2, CL, d2, _, _, rfl, s5 _ _ hz2, LT.cl, LT.nH, lFl_height _ _, ⟨f1, pz, [.str s, .str g, .int a, .int (b - a * d)], rfl, hw, wf2, fun y dy H6 _ hy s6 => q y n H6 ⟨⟨dy, pz, hy, hpz.is.same s6⟩, hi, hw, wf2, hpz.ok, Nat.le_trans hle hl⟩ me ((s12.trans s5).trans s6)⟩⟩⟩⟩⟩⟩⟩⟩
theorem scPaiMir : FnScope ["self", "last", "line"] ["self", "last"] (defScope sPaiMir) := ⟨rfl, rfl, rfl, by decide +kernel, rfl, by decide +kernel, by decide +kernel⟩
theorem ok_PaiMir {f : Addr} {fd : FuncData} (F : Fun K "mirrored" "Pair.mirrored" sPaiMir f fd) (T : CTxt K mg C) (PT : PTxt K mg CP) (SH : Mt P w K mg base 6 CP "mirrored" ["self", "last"] (spMove CP fun t d => d - t)) (LT : LTxt K mg CL) (LI : Mt P w K mg base 3 (C 5) "line" ["self"] (spCLine CP CL C 5)) (LI2 : Mt P w K mg base 4 CL "mirrored" ["self", "last"] (spLMir CL)) (M : CMk P w K mg base C 5 ["self", "function", "places", "sign", "other", "slope", "height"]) : FnOk P w K mg base CX0 7 f fd ["self", "last"] (spMir CP C 5) := by
  refine F.ok scPaiMir (fun vs H Q E h => ?_) (fun cdv A outer s0 H vs Q E hr h => ?_)
  · obtain ⟨z, d, f1, l, x, rfl, _⟩ := h
    rfl
  · obtain ⟨z, d, f1, l, x, rfl, hA, hd, wf2, q⟩ := h
    have nd := scPaiMir.nd
    obtain ⟨⟨dx, pl, hz, hp⟩, hi, hw, wf, ok, hl⟩ := hA
    have wf0 := wf
    obtain ⟨_, dxp, t1, fi1, b1, M1, hpi, _⟩ := id hp
    have pno : (pFl t1 fi1 b1).lookup ("mirrored" : Str) = none := pFl_no _ _ _ (by decide +kernel) (by decide +kernel) (by decide +kernel)
    obtain ⟨s, g, a, b, rfl, hs, hg, ng, na, nb⟩ := wf
    have wf2 : WF 5 f1 [.str s, .str g, .int (-a), .int (b + a * d)] := wf2
    refine ⟨_, pss_cons (ps_set (i := 2) nd rfl (.inl rfl) (pe_mt LI2 LT.cl hr (by decide) (pe_mt0 LI (T.cl 5 (by decide)) hr (by decide) (pv 0)) (pa_cons (pv 1) pa_nil))) (pss_one (ps_ret (pe_mkC M rfl hr (by decide) (by rfl) (pa_cons (pe_fld (pv 0) rfl) (pa_cons (pe_mt SH PT.cl hr (by decide) (pe_fld (pv 0) rfl) (pa_cons (pv 1) pa_nil)) (pa_cons (pe_fld (pv 0) rfl) (pa_cons (pe_fld (pv 0) rfl) (pa_cons (pe_fld (pv 2) rfl) (pa_cons (pe_fld (pv 2) rfl) pa_nil))))))))), ?_⟩
    refine ⟨_, rfl, z, dx, _, rfl, hz, cFl_no (by decide +kernel), z, f1, l, _, a, b, rfl, ⟨⟨dx, pl, hz, hp⟩, hi, hw, wf0, ok, hl⟩, .inr ⟨s, g, rfl⟩, fun zl H1 _ hL s1 => ?_⟩
    obtain ⟨dl, hzl⟩ := id hL
    refine ⟨zl, dl, _, rfl, hzl, lFl_no a b (by decide +kernel) (by decide +kernel), _, rfl, zl, a, b, d, rfl, hL, cw40 na hd, fun z2 H2 _ ⟨d2, hz2⟩ s2 => ?_⟩
    have s12 := s1.trans s2
    exact ⟨_, rfl, fld T (s12 _ _ hz) hi (j := 1) rfl rfl ⟨_, rfl, fld T (s12 _ _ hz) hi (j := 2) rfl rfl ⟨pl, dxp, _, rfl, (s12 _ _ hpi), pno, _, rfl, pl, d, l, rfl, ⟨hp.same s12, ok⟩, Nat.le_trans hl (by decide), fun pz n H5 _ hpz me hle s5 => ⟨_, rfl, fld T ((s12.trans s5) _ _ hz) hi (j := 3) rfl rfl ⟨_, rfl, fld T ((s12.trans s5) _ _ hz) hi (j := 4) rfl rfl ⟨_, rfl, z2, CL, d2, _, _, rfl, s5 _ _ hz2, LT.cl, LT.nS, lFl_slope _ _, ⟨_, rfl, z2, CL, d2, _, _, rfl, s5 _ _ hz2, LT.cl, LT.nH, lFl_height _ _, ⟨f1, pz, [.str s, .str g, .int (-a), .int (b + a * d)], rfl, hw, wf2, fun y dy H6 _ hy s6 => q y n H6 ⟨⟨dy, pz, hy, hpz.is.same s6⟩, hi, hw, wf2, hpz.ok, Nat.le_trans hle hl⟩ me ((s12.trans s5).trans s6)⟩⟩⟩⟩⟩⟩⟩⟩
theorem scSteN : FnScope ["self"] ["self"] (defScope sSteNeg) := ⟨rfl, rfl, rfl, by decide +kernel, rfl, by decide +kernel, by decide +kernel⟩
theorem ok_SteN {f : Addr} {fd : FuncData} (F : Fun K "negated" "Step.negated" sSteNeg f fd) (T : CTxt K mg C) (TT : TuTxt K w mg aT) (M : CMk P w K mg base C 6 ["self", "function", "places", "sign", "height"]) : FnOk P w K mg base CX0 6 f fd ["self"] (spNeg CP C 6) := by
  refine F.ok scSteN (fun vs H Q E h => ?_) (fun cdv A outer s0 H vs Q E hr h => ?_)
  · obtain ⟨z, f1, l, x, rfl, _⟩ := h
    rfl
  · obtain ⟨z, f1, l, x, rfl, hA, q⟩ := h
    obtain ⟨⟨dx, pl, hz, hp⟩, hi, hw, wf, ok, hl⟩ := hA
    obtain ⟨s, b, rfl, hs, nb⟩ := wf
    have wf2 : WF 6 f1 [.str (flp s), .int (-b)] := ⟨_, _, rfl, flp_sign hs, num_neg nb⟩
    refine ⟨_, pss_one (ps_ret (pe_mkC M rfl hr (by decide) (by rfl) (pa_cons (pe_fld (pv 0) rfl) (pa_cons (pe_fld (pv 0) rfl) (pa_cons (pe_ix ix_kdict (pe_glob (v := .ref aT) (by rfl) TT.mgT rfl) (pe_fld (pv 0) rfl) (fun _ _ => rfl)) (pa_cons (pe_un un_neg (pe_fld (pv 0) rfl)) pa_nil)))))), ?_⟩
    exact ⟨_, rfl, fld T hz hi (j := 1) rfl rfl ⟨_, rfl, fld T hz hi (j := 2) rfl rfl ⟨_, rfl, fld T hz hi (j := 3) rfl rfl ⟨aT, s, _, rfl, rfl, TT.it s (.inl hs), ⟨_, rfl, fld T hz hi (j := 4) rfl rfl ⟨b, rfl, ⟨f1, pl, [.str (flp s), .int (-b)], rfl, hw, wf2, fun y dy H2 _ hy s2 => q y H2 ⟨⟨dy, pl, hy, hp.same s2⟩, hi, hw, wf2, ok, hl⟩ s2⟩⟩⟩⟩⟩⟩⟩
theorem scSteT : FnScope ["self", "factor"] ["self", "factor"] (defScope sSteTim) := ⟨rfl, rfl, rfl, by decide +kernel, rfl, by decide +kernel, by decide +kernel⟩
theorem ok_SteT {f : Addr} {fd : FuncData} (F : Fun K "times" "Step.times" sSteTim f fd) (T : CTxt K mg C) (KF : ClX P w K mg base 3 "check_factor" ["value"] (spChkFac EF)) (M : CMk P w K mg base C 6 ["self", "function", "places", "sign", "height"]) : FnOk P w K mg base (L2.CX P w) 6 f fd ["self", "factor"] (spTim CP C EF 6) := by
  refine F.okX scSteT (fun vs H Q E h => ?_) (fun cdv A outer s0 H vs Q E hr h => ?_)
  · obtain ⟨z, v, f1, l, x, rfl, _⟩ := h
    rfl
  · obtain ⟨z, v, f1, l, x, rfl, hA, hv, h⟩ := h
    have nd := scSteT.nd
    obtain ⟨⟨dx, pl, hz, hp⟩, hi, hw, wf, ok, hl⟩ := hA
    obtain ⟨s, b, rfl, hs, nb⟩ := wf
    refine ⟨_, pss_cons (ps_expr (pe_clX KF hr (by decide) (by rfl) (takes_of rfl rfl rfl rfl) (pa_cons (pv 1) pa_nil))) (pss_one (ps_ret (pe_mkC M rfl hr (by decide) (by rfl) (pa_cons (pe_fld (pv 0) rfl) (pa_cons (pe_fld (pv 0) rfl) (pa_cons (pe_fld (pv 0) rfl) (pa_cons (pe_op op_mulW (pe_fld (pv 0) rfl) (pv 1)) pa_nil))))))), ?_⟩
    refine ⟨_, rfl, v, rfl, hv, fun hf => ?_, fun hf => ?_⟩
    · rcases h with ⟨k, rfl, h1, hk, wf2, q⟩ | ⟨h0, _⟩
      · have wf2 : WF 6 f1 [.str s, .int (b * k)] := wf2
        exact ⟨_, rfl, fld T hz hi (j := 1) rfl rfl ⟨_, rfl, fld T hz hi (j := 2) rfl rfl ⟨_, rfl, fld T hz hi (j := 3) rfl rfl ⟨_, rfl, fld T hz hi (j := 4) rfl rfl ⟨_, rfl, b, k, rfl, rfl, cw40 nb hk, ⟨f1, pl, [.str s, .int (b * k)], rfl, hw, wf2, fun y dy H2 _ hy s2 => q y H2 ⟨⟨dy, pl, hy, hp.same s2⟩, hi, hw, wf2, ok, hl⟩ s2⟩⟩⟩⟩⟩⟩
      · rw [hf] at h0
        cases h0
    · rcases h with ⟨k, rfl, h1, _⟩ | ⟨_, h0⟩
      · have : factorB (.int k) = true := decide_eq_true h1
        rw [hf] at this
        cases this
      · exact h0
theorem scSteMov : FnScope ["self", "by"] ["self", "by"] (defScope sSteMov) := ⟨rfl, rfl, rfl, by decide +kernel, rfl, by decide +kernel, by decide +kernel⟩
theorem ok_SteMov {f : Addr} {fd : FuncData} (F : Fun K "moved" "Step.moved" sSteMov f fd) (T : CTxt K mg C) (PT : PTxt K mg CP) (SH : Mt P w K mg base 6 CP "shifted" ["self", "by"] (spMove CP fun t d => t - d)) (M : CMk P w K mg base C 6 ["self", "function", "places", "sign", "height"]) : FnOk P w K mg base CX0 7 f fd ["self", "by"] (spMov CP C 6) := by
  refine F.ok scSteMov (fun vs H Q E h => ?_) (fun cdv A outer s0 H vs Q E hr h => ?_)
  · obtain ⟨z, d, f1, l, x, rfl, _⟩ := h
    rfl
  · obtain ⟨z, d, f1, l, x, rfl, hA, hd, wf2, q⟩ := h
    have nd := scSteMov.nd
    obtain ⟨⟨dx, pl, hz, hp⟩, hi, hw, wf, ok, hl⟩ := hA
    have wf0 := wf
    obtain ⟨_, dxp, t1, fi1, b1, M1, hpi, _⟩ := id hp
    have pno : (pFl t1 fi1 b1).lookup ("shifted" : Str) = none := pFl_no _ _ _ (by decide +kernel) (by decide +kernel) (by decide +kernel)
    obtain ⟨s, b, rfl, hs, nb⟩ := wf
    have wf2 : WF 6 f1 [.str s, .int b] := wf2
    refine ⟨_, pss_one (ps_ret (pe_mkC M rfl hr (by decide) (by rfl) (pa_cons (pe_fld (pv 0) rfl) (pa_cons (pe_mt SH PT.cl hr (by decide) (pe_fld (pv 0) rfl) (pa_cons (pv 1) pa_nil)) (pa_cons (pe_fld (pv 0) rfl) (pa_cons (pe_fld (pv 0) rfl) pa_nil)))))), ?_⟩
    exact ⟨_, rfl, fld T hz hi (j := 1) rfl rfl ⟨_, rfl, fld T hz hi (j := 2) rfl rfl ⟨pl, dxp, _, rfl, hpi, pno, _, rfl, pl, d, l, rfl, ⟨hp, ok⟩, Nat.le_trans hl (by decide), fun pz n H5 _ hpz me hle s5 => ⟨_, rfl, fld T (s5 _ _ hz) hi (j := 3) rfl rfl ⟨_, rfl, fld T (s5 _ _ hz) hi (j := 4) rfl rfl ⟨f1, pz, [.str s, .int b], rfl, hw, wf2, fun y dy H6 _ hy s6 => q y n H6 ⟨⟨dy, pz, hy, hpz.is.same s6⟩, hi, hw, wf2, hpz.ok, Nat.le_trans hle hl⟩ me (s5.trans s6)⟩⟩⟩⟩⟩⟩
theorem scSteMir : FnScope ["self", "last"] ["self", "last"] (defScope sSteMir) := ⟨rfl, rfl, rfl, by decide +kernel, rfl, by decide +kernel, by decide +kernel⟩
theorem ok_SteMir {f : Addr} {fd : FuncData} (F : Fun K "mirrored" "Step.mirrored" sSteMir f fd) (T : CTxt K mg C) (PT : PTxt K mg CP) (SH : Mt P w K mg base 6 CP "mirrored" ["self", "last"] (spMove CP fun t d => d - t)) (TT : TuTxt K w mg aT) (M : CMk P w K mg base C 6 ["self", "function", "places", "sign", "height"]) : FnOk P w K mg base CX0 7 f fd ["self", "last"] (spMir CP C 6) := by
  refine F.ok scSteMir (fun vs H Q E h => ?_) (fun cdv A outer s0 H vs Q E hr h => ?_)
  · obtain ⟨z, d, f1, l, x, rfl, _⟩ := h
    rfl
  · obtain ⟨z, d, f1, l, x, rfl, hA, hd, wf2, q⟩ := h
    have nd := scSteMir.nd
    obtain ⟨⟨dx, pl, hz, hp⟩, hi, hw, wf, ok, hl⟩ := hA
    have wf0 := wf
    obtain ⟨_, dxp, t1, fi1, b1, M1, hpi, _⟩ := id hp
    have pno : (pFl t1 fi1 b1).lookup ("mirrored" : Str) = none := pFl_no _ _ _ (by decide +kernel) (by decide +kernel) (by decide +kernel)
    obtain ⟨s, b, rfl, hs, nb⟩ := wf
    have wf2 : WF 6 f1 [.str (flp s), .int (-b)] := wf2
    refine ⟨_, pss_one (ps_ret (pe_mkC M rfl hr (by decide) (by rfl) (pa_cons (pe_fld (pv 0) rfl) (pa_cons (pe_mt SH PT.cl hr (by decide) (pe_fld (pv 0) rfl) (pa_cons (pv 1) pa_nil)) (pa_cons (pe_ix ix_kdict (pe_glob (v := .ref aT) (by rfl) TT.mgT rfl) (pe_fld (pv 0) rfl) (fun _ _ => rfl)) (pa_cons (pe_un un_neg (pe_fld (pv 0) rfl)) pa_nil)))))), ?_⟩
    exact ⟨_, rfl, fld T hz hi (j := 1) rfl rfl ⟨_, rfl, fld T hz hi (j := 2) rfl rfl ⟨pl, dxp, _, rfl, hpi, pno, _, rfl, pl, d, l, rfl, ⟨hp, ok⟩, Nat.le_trans hl (by decide), fun pz n H5 _ hpz me hle s5 => ⟨_, rfl, fld T (s5 _ _ hz) hi (j := 3) rfl rfl ⟨aT, s, _, rfl, rfl, TT.it s (.inl hs), ⟨_, rfl, fld T (s5 _ _ hz) hi (j := 4) rfl rfl ⟨b, rfl, ⟨f1, pz, [.str (flp s), .int (-b)], rfl, hw, wf2, fun y dy H6 _ hy s6 => q y n H6 ⟨⟨dy, pz, hy, hpz.is.same s6⟩, hi, hw, wf2, hpz.ok, Nat.le_trans hle hl⟩ me (s5.trans s6)⟩⟩⟩⟩⟩⟩⟩⟩
end
end OR

namespace OR
open PySem PySem.Spec PyProof.Rows L2
open TL (tl numL)
/-! ### the law's own turning -/
theorem sl_tupK {X : Cx} (K : PySem.W.Frag) (hK : X.K = K) : SlR X (rSlT K) := by
  subst hK
  exact sl_tup
theorem op_catTK {X : Cx} (K : PySem.W.Frag) (hK : X.K = K) : OpR X (binaryOp .Add) (rCatT K) := by
  subst hK
  exact op_catT
theorem ix_tupK {X : Cx} (K : PySem.W.Frag) (hK : X.K = K) : IxR X (rIxT K) := by
  subst hK
  exact ix_tup
def sgX : List V → List V
  | .str s :: rest => .str (flp s) :: rest
  | x => x
theorem cat_at {K : PySem.W.Frag} {H : Hp} {a b : Addr} {xs ys : List V} {Q : VK} (ha : H a = some (.tup xs)) (hb : H b = some (.tup ys)) (hx : xs ≠ []) (hz : xs.length + ys.length ≤ sizeLine) (q : ∀ u H', H' u = some (.tup (xs ++ ys)) → Same H H' → Q (.ref u) H') : rCatT K (.ref a) (.ref b) H Q :=
  ⟨a, b, xs, ys, rfl, rfl, .inl (.inl ha), .inl (.inl hb), hx, hz, (fun e => q a H (by rw [e, List.append_nil]; exact ha) (Same.refl _)), fun _ p np => q p _ upd_same (same_lay np)⟩
theorem wf_len {i : Nat} {f : Str} {x : List V} (hi : i < 7) (h : WF i f x) : x.length ≤ 4 := by
  rcases kinds7 hi with e | e | e | e | e | e | e <;> subst e
  · cases (show x = [] from h); decide
  · cases (show x = [] from h); decide
  · obtain ⟨g, rfl, _⟩ := h; show 1 ≤ 4; decide
  · obtain ⟨g, rfl, _⟩ := h; show 1 ≤ 4; decide
  · obtain ⟨s, a, b, rfl, _⟩ := h; show 3 ≤ 4; decide
  · obtain ⟨s, g, a, b, rfl, _⟩ := h; show 4 ≤ 4; decide
  · obtain ⟨s, b, rfl, _⟩ := h; show 2 ≤ 4; decide
theorem wf_sg {i : Nat} {f : Str} {x : List V} (hi : i = 4 ∨ i = 5 ∨ i = 6) (h : WF i f x) : WF i f (sgX x) := by
  rcases hi with e | e | e <;> subst e
  · obtain ⟨s, a, b, rfl, hs, r⟩ := h; exact ⟨_, a, b, rfl, flp_sign hs, r⟩
  · obtain ⟨s, g, a, b, rfl, hs, r⟩ := h; exact ⟨_, g, a, b, rfl, flp_sign hs, r⟩
  · obtain ⟨s, b, rfl, hs, r⟩ := h; exact ⟨_, b, rfl, flp_sign hs, r⟩
theorem wf_sign {i : Nat} {f : Str} {x : List V} (hi : i = 4 ∨ i = 5 ∨ i = 6) (h : WF i f x) : ∃ s rest, x = .str s :: rest ∧ isSign s ∧ rest.length ≤ 3 := by
  rcases hi with e | e | e <;> subst e
  · obtain ⟨s, a, b, rfl, hs, r⟩ := h; exact ⟨s, _, rfl, hs, by show 2 ≤ 3; decide⟩
  · obtain ⟨s, g, a, b, rfl, hs, r⟩ := h; exact ⟨s, _, rfl, hs, by show 3 ≤ 3; decide⟩
  · obtain ⟨s, b, rfl, hs, r⟩ := h; exact ⟨s, _, rfl, hs, by show 1 ≤ 3; decide⟩
theorem wf_nums {i : Nat} {f : Str} {x : List V} (hi : i = 4 ∨ i = 5 ∨ i = 6) (h : WF i f x) : ∃ a b, numsOf i x = [.int a, .int b] ∧ Num a ∧ Num b ∧ (∀ k, withN i x (a * k) (b * k) = timX k i x) ∧ withN i (sgX x) (-a) (-b) = negX i x ∧ (i ≠ 6 → ∀ d, withN i x a (b - a * d) = movX d i x) ∧ (i ≠ 6 → ∀ d, withN i x (-a) (b + a * d) = mirX d i x) := by
  rcases hi with e | e | e <;> subst e
  · obtain ⟨s, a, b, rfl, hs, na, nb⟩ := h; exact ⟨a, b, rfl, na, nb, fun _ => rfl, rfl, fun _ _ => rfl, fun _ _ => rfl⟩
  · obtain ⟨s, g, a, b, rfl, hs, hg, ng, na, nb⟩ := h; exact ⟨a, b, rfl, na, nb, fun _ => rfl, rfl, fun _ _ => rfl, fun _ _ => rfl⟩
  · obtain ⟨s, b, rfl, hs, nb⟩ := h; exact ⟨0, b, rfl, (by unfold Num; decide), nb, fun _ => rfl, rfl, fun z => absurd rfl z, fun z => absurd rfl z⟩
theorem neg_same {i : Nat} {f : Str} {x : List V} (hi : i < 4) : negX i x = x ∧ (∀ k, timX k i x = x) ∧ ∀ d, movX d i x = x := by
  rcases (show i = 0 ∨ i = 1 ∨ i = 2 ∨ i = 3 by omega) with e | e | e | e <;> subst e <;> exact ⟨rfl, fun _ => rfl, fun _ => rfl⟩
def spTS : Sp := fun vs H Q _ => ∃ (t : Addr) (i : Nat) (f : Str) (r : Addr) (x : List V), vs = [.ref t] ∧ H t = some (.tup (spT i f r x)) ∧ (i = 4 ∨ i = 5 ∨ i = 6) ∧ WF i f x ∧ ∀ u H', H' u = some (.tup (spT i f r (sgX x))) → Same H H' → Q (.ref u) H'
def spLNeg : Sp := fun vs H Q _ => ∃ (t : Addr) (i : Nat) (f : Str) (r : Addr) (x : List V), vs = [.ref t] ∧ H t = some (.tup (spT i f r x)) ∧ i < 7 ∧ WF i f x ∧ ∀ u H', H' u = some (.tup (spT i f r (negX i x))) → Same H H' → Q (.ref u) H'
def spLTim : Sp := fun vs H Q _ => ∃ (t : Addr) (k : Int) (i : Nat) (f : Str) (r : Addr) (x : List V), vs = [.ref t, .int k] ∧ H t = some (.tup (spT i f r x)) ∧ i < 7 ∧ WF i f x ∧ k.natAbs < 10 ^ 40 ∧ ∀ u H', H' u = some (.tup (spT i f r (timX k i x))) → Same H H' → Q (.ref u) H'
section
variable {P : Program} {w : World} {K : PySem.W.Frag} {mg : Str → Option Value} {base : Heap} {C : Nat → Addr} {CP CL : Addr} {ts tw : Addr}
theorem scTS : FnScope ["_law_spec_here"] ["_law_spec_here"] (defScope sTurnedSign) := ⟨rfl, rfl, rfl, by decide +kernel, rfl, by decide +kernel, by decide +kernel⟩
theorem ok_ts {f : Addr} {fd : FuncData} (F : Fun K "_law_turned_sign" "_law_turned_sign" sTurnedSign f fd) : FnOk P w K mg base CX0 1 f fd ["_law_spec_here"] spTS := by
  refine F.ok scTS (fun vs H Q E h => ?_) (fun cdv A outer s0 H vs Q E hr h => ?_)
  · obtain ⟨t, i, f1, r, x, rfl, _⟩ := h
    rfl
  · obtain ⟨t, i, f1, r, x, rfl, ht, hi, wf, q⟩ := h
    have hu64 : (A.deeper (envOfC "_law_turned_sign" (defScope sTurnedSign) s0.heap.objs.size f cdv)).units + 64 < cLine := hr.units
    have hu : (A.deeper (envOfC "_law_turned_sign" (defScope sTurnedSign) s0.heap.objs.size f cdv)).units + 1 < cLine := by omega
    refine ⟨_, pss_one (ps_ret (pe_op op_catT (pe_op op_catT (pe_slice sl_tup (pv 0) po_none (po_some pe_int)) (pe_tup (pa_cons (pe_dget hu (pe_disp (pps_cons pe_str pe_str (pps_cons pe_str pe_str (pps_cons pe_str pe_str pps_nil))) rfl rfl (by simp) (by decide)) (pe_ix ix_tup (pv 0) pe_int (fun _ _ => rfl)) (fun _ _ => rfl)) pa_nil))) (pe_slice sl_tup (pv 0) (po_some pe_int) po_none))), ?_⟩
    obtain ⟨s, rest, rfl, hs, hl⟩ := wf_sign hi wf
    have hsz : (spT i f1 r (.str s :: rest)).length = 4 + rest.length := by show rest.length + 1 + 1 + 1 + 1 = _; omega
    have hcut : cutV (spT i f1 r (.str s :: rest)) (some 4) none = rest := cutB _ 4
    refine ⟨_, rfl, _, rfl, t, _, rfl, .inl (.inl ht), nwA (n := 3) (by rw [hsz]; omega), fun u1 n1 => ?_⟩
    have s1 := same_lay (o := .tup (cutV (spT i f1 r (.str s :: rest)) none (some ((3 : Nat) : Int)))) n1
    refine fun d nd => ?_
    have s2 := s1.trans (same_lay (o := .dK []) nd)
    refine ⟨upd_same, [(.inr "<=", .str ">="), (.inr ">=", .str "<="), (.inr "=", .str "=")], rfl, by decide, ?_⟩
    have s3 : Same H (upd (upd (upd H u1 (.tup (cutV (spT i f1 r (.str s :: rest)) none (some ((3 : Nat) : Int))))) d (.dK [])) d (.dK (mergeK [] [(.inr "<=", .str ">="), (.inr ">=", .str "<="), (.inr "=", .str "=")]))) := by
      rw [upd_upd]
      exact s1.trans (same_lay nd)
    have e1 : (upd (upd (upd H u1 (.tup (cutV (spT i f1 r (.str s :: rest)) none (some ((3 : Nat) : Int))))) d (.dK [])) d (.dK (mergeK [] [(.inr "<=", .str ">="), (.inr ">=", .str "<="), (.inr "=", .str "=")]))) u1 = some (.tup [.str (kName i), .str f1, .ref r]) := by
      rw [upd_upd]
      exact same_lay nd _ _ upd_same
    refine ⟨_, rfl, t, _, _, _, rfl, rfl, .inl (.inl (s3 _ _ ht)), atI_nat (j := 3) rfl, d, .str (flp s), rfl, ?_, by show 1 ≤ sizeLine; decide, fun u2 n2 => ?_⟩
    · rcases hs with e | e | e <;> subst e <;> exact dg upd_same (by decide +kernel)
    generalize upd (upd (upd H u1 _) d _) d _ = G at s3 e1 n2
    have e2 := same_lay (o := .tup [.str (flp s)]) n2 _ _ e1
    have s4 := s3.trans (same_lay (o := .tup [.str (flp s)]) n2)
    refine cat_at e2 upd_same (fun z => nomatch z) (by show 3 + 1 ≤ sizeLine; decide) fun u3 G3 e3 s5 => ?_
    have s6 := s4.trans s5
    refine ⟨_, rfl, _, rfl, t, _, rfl, .inl (.inl (s6 _ _ ht)), nwB (n := 4) (by decide) (by rw [hsz]; omega), fun u4 n4 => ?_⟩
    refine cat_at (same_lay n4 _ _ e3) upd_same (fun z => nomatch z) ?_ fun u5 G5 e5 s7 => q u5 G5 ?_ ((s6.trans (same_lay n4)).trans s7)
    · rw [hcut]
      have : 4 + rest.length ≤ 7 := by omega
      exact Nat.le_trans this (by decide)
    · rw [e5, hcut]
      rfl
theorem scNg : FnScope ["_law_spec_here", "_law_slope", "_law_height"] ["_law_spec_here"] (defScope sNegated) := ⟨rfl, rfl, rfl, by decide +kernel, rfl, by decide +kernel, by decide +kernel⟩
theorem ok_lneg {f : Addr} {fd : FuncData} (F : Fun K "_law_negated" "_law_negated" sNegated f fd) (ON : Cl P w K mg base 1 "_law_is_of_numbers" ["_law_spec_here"] spOfN) (NM : Cl P w K mg base 1 "_law_numbers" ["_law_spec_here"] spNums)
    (WN : Cl P w K mg base 1 "_law_with_numbers" ["_law_spec_here", "_law_slope", "_law_height"] spWithN) (TS : Cl P w K mg base 1 "_law_turned_sign" ["_law_spec_here"] spTS) : FnOk P w K mg base CX0 2 f fd ["_law_spec_here"] spLNeg := by
  refine F.ok scNg (fun vs H Q E h => ?_) (fun cdv A outer s0 H vs Q E hr h => ?_)
  · obtain ⟨t, i, f1, r, x, rfl, _⟩ := h
    rfl
  · obtain ⟨t, i, f1, r, x, rfl, ht, hi, wf, q⟩ := h
    have nd := scNg.nd
    refine ⟨_, pss_cons (ps_if (pt_not (pt_val (pe_cl ON hr (by decide) (by rfl) (pa_cons (pv 0) pa_nil))))
          (pss_one (ps_ret (pv 0)))
          pss_nil)
      (pss_cons (ps_asg (pe_cl NM hr (by decide) (by rfl) (pa_cons (pv 0) pa_nil)) (pg_tup rfl (pgs_cons (pg_name (i := 1) nd rfl (.inl rfl)) (pgs_cons (pg_name (i := 2) nd rfl (.inl rfl)) pgs_nil))))
      (pss_one (ps_ret (pe_cl WN hr (by decide) (by rfl) (pa_cons (pe_cl TS hr (by decide) (by rfl) (pa_cons (pv 0) pa_nil)) (pa_cons (pe_un un_neg (pv 1)) (pa_cons (pe_un un_neg (pv 2)) pa_nil))))))), ?_⟩
    refine ⟨_, rfl, t, i, f1, r, x, rfl, ht, hi, fun G1 s1 => ⟨_, rfl, ?_⟩⟩
    have ht1 := s1 _ _ ht
    by_cases h4 : 4 ≤ i
    · rw [decide_eq_true h4]
      refine iteF ?_
      have hi3 : i = 4 ∨ i = 5 ∨ i = 6 := by omega
      obtain ⟨a, b, en, na, nb, _, e2, _⟩ := wf_nums hi3 wf
      refine ⟨_, rfl, t, i, f1, r, x, rfl, ht1, hi3, wf, fun u nu => ?_⟩
      rw [en]
      have s2 := same_lay (o := .tup [.int a, .int b]) nu
      refine ⟨u, _, rfl, .inl (.inl upd_same), rfl, _, _, rfl, _, _, rfl, rfl, _, rfl, t, i, f1, r, x, rfl, s2 _ _ ht1, hi3, wf, fun u2 G2 e3 s3 => ?_⟩
      refine ⟨_, rfl, a, rfl, _, rfl, b, rfl, u2, i, f1, r, sgX x, -a, -b, rfl, e3, hi3, wf_sg hi3 wf, fun u3 G3 e4 s4 => q u3 G3 (by rw [e4, e2]) (((s1.trans s2).trans s3).trans s4)⟩
    · rw [decide_eq_false h4]
      exact iteT ⟨_, rfl, q t G1 (by rw [(neg_same (f := f1) (x := x) (by omega)).1]; exact ht1) s1⟩
theorem scTi : FnScope ["_law_spec_here", "_law_factor", "_law_slope", "_law_height"] ["_law_spec_here", "_law_factor"] (defScope sTimes) := ⟨rfl, rfl, rfl, by decide +kernel, rfl, by decide +kernel, by decide +kernel⟩
theorem ok_ltim {f : Addr} {fd : FuncData} (F : Fun K "_law_times" "_law_times" sTimes f fd) (ON : Cl P w K mg base 1 "_law_is_of_numbers" ["_law_spec_here"] spOfN) (NM : Cl P w K mg base 1 "_law_numbers" ["_law_spec_here"] spNums)
    (WN : Cl P w K mg base 1 "_law_with_numbers" ["_law_spec_here", "_law_slope", "_law_height"] spWithN) : FnOk P w K mg base CX0 2 f fd ["_law_spec_here", "_law_factor"] spLTim := by
  refine F.ok scTi (fun vs H Q E h => ?_) (fun cdv A outer s0 H vs Q E hr h => ?_)
  · obtain ⟨t, k, i, f1, r, x, rfl, _⟩ := h
    rfl
  · obtain ⟨t, k, i, f1, r, x, rfl, ht, hi, wf, hk, q⟩ := h
    have nd := scTi.nd
    refine ⟨_, pss_cons (ps_if (pt_not (pt_val (pe_cl ON hr (by decide) (by rfl) (pa_cons (pv 0) pa_nil))))
          (pss_one (ps_ret (pv 0)))
          pss_nil)
      (pss_cons (ps_asg (pe_cl NM hr (by decide) (by rfl) (pa_cons (pv 0) pa_nil)) (pg_tup rfl (pgs_cons (pg_name (i := 2) nd rfl (.inl rfl)) (pgs_cons (pg_name (i := 3) nd rfl (.inl rfl)) pgs_nil))))
      (pss_one (ps_ret (pe_cl WN hr (by decide) (by rfl) (pa_cons (pv 0) (pa_cons (pe_op op_mulW (pv 2) (pv 1)) (pa_cons (pe_op op_mulW (pv 3) (pv 1)) pa_nil))))))), ?_⟩
    refine ⟨_, rfl, t, i, f1, r, x, rfl, ht, hi, fun G1 s1 => ⟨_, rfl, ?_⟩⟩
    have ht1 := s1 _ _ ht
    by_cases h4 : 4 ≤ i
    · rw [decide_eq_true h4]
      refine iteF ?_
      have hi3 : i = 4 ∨ i = 5 ∨ i = 6 := by omega
      obtain ⟨a, b, en, na, nb, e2, _⟩ := wf_nums hi3 wf
      refine ⟨_, rfl, t, i, f1, r, x, rfl, ht1, hi3, wf, fun u nu => ?_⟩
      rw [en]
      have s2 := same_lay (o := .tup [.int a, .int b]) nu
      refine ⟨u, _, rfl, .inl (.inl upd_same), rfl, _, _, rfl, _, _, rfl, rfl, _, rfl, _, rfl, _, rfl, a, k, rfl, rfl, cw40 na hk, _, rfl, _, rfl, b, k, rfl, rfl, cw40 nb hk, t, i, f1, r, x, a * k, b * k, rfl, s2 _ _ ht1, hi3, wf, fun u3 G3 e4 s4 => q u3 G3 (by rw [e4, e2]) ((s1.trans s2).trans s4)⟩
    · rw [decide_eq_false h4]
      exact iteT ⟨_, rfl, q t G1 (by rw [(neg_same (f := f1) (x := x) (by omega)).2.1]; exact ht1) s1⟩
end
end OR

namespace OR
open PySem PySem.Spec PyProof.Rows L2
open TL (tl numL)
/-! ### the law's own moving -/
def sfR (d : Int) (l : List Row) : List Row := l.map fun r => (mx 0 (r.1 + d), mn lastP (r.2 + d))
def leR (l : List Row) : List Row := l.filter fun r => decide (r.1 ≤ r.2)
theorem leR_snoc (l : List Row) (r : Row) : leR (l ++ [r]) = leR l ++ (if r.1 ≤ r.2 then [r] else []) := by
  unfold leR
  rw [List.filter_append]
  congr 1
  by_cases h : r.1 ≤ r.2
  · rw [if_pos h, List.filter_cons_of_pos (by simp [h])]
    rfl
  · rw [if_neg h, List.filter_cons_of_neg (by simpa using h)]
    rfl
theorem sfR_ok (d : Int) (l : List Row) : ∀ q ∈ leR (sfR d l), okRow q = true := fun q hq => by
  obtain ⟨hm, hc⟩ := List.mem_filter.mp hq
  obtain ⟨r, hr, rfl⟩ := List.mem_map.mp hm
  have h1 := mx_ok 0 (r.1 + d)
  have h2 := mn_ok lastP (r.2 + d)
  exact okRow_of (by omega) (of_decide_eq_true hc) (by omega)
theorem sfR_mem (d : Int) (l : List Row) (z : Int) : mem (leR (sfR d l)) z ↔ (mem l (z - d) ∧ 0 ≤ z ∧ z ≤ lastP) := by
  constructor
  · rintro ⟨q, hq, k1, k2⟩
    obtain ⟨hm, hc⟩ := List.mem_filter.mp hq
    obtain ⟨r, hr, rfl⟩ := List.mem_map.mp hm
    have h1 := mx_ok 0 (r.1 + d)
    have h2 := mn_ok lastP (r.2 + d)
    dsimp only at k1 k2
    exact ⟨⟨r, hr, by omega, by omega⟩, by omega, by omega⟩
  · rintro ⟨⟨r, hr, k1, k2⟩, k3, k4⟩
    have h1 := mx_ok 0 (r.1 + d)
    have h2 := mn_ok lastP (r.2 + d)
    refine ⟨(mx 0 (r.1 + d), mn lastP (r.2 + d)), List.mem_filter.mpr ⟨List.mem_map.mpr ⟨r, hr, rfl⟩, decide_eq_true ?_⟩, ?_, ?_⟩ <;> (dsimp only; omega)
def lmR (d : Int) (l : List Row) : List Row := (l.filter fun r => decide (r.1 ≤ d)).map fun r => (d - mn r.2 d, d - r.1)
theorem lmR_snoc (d : Int) (l : List Row) (r : Row) : lmR d (l ++ [r]) = lmR d l ++ (if r.1 ≤ d then [(d - mn r.2 d, d - r.1)] else []) := by
  unfold lmR
  rw [List.filter_append, List.map_append]
  congr 1
  by_cases h : r.1 ≤ d
  · rw [if_pos h, List.filter_cons_of_pos (by simp [h])]
    rfl
  · rw [if_neg h, List.filter_cons_of_neg (by simpa using h)]
    rfl
theorem lmR_ok {d : Int} {l : List Row} (hd : d ≤ lastP) (hl : ∀ r ∈ l, okRow r = true) : ∀ q ∈ lmR d l, okRow q = true := fun q hq => by
  obtain ⟨r, hr, rfl⟩ := List.mem_map.mp hq
  obtain ⟨hm, hc⟩ := List.mem_filter.mp hr
  have h2 := mn_ok r.2 d
  have h3 := okRow_iff (hl r hm)
  have h4 : r.1 ≤ d := of_decide_eq_true hc
  exact okRow_of (by omega) (by omega) (by omega)
theorem lmR_mem {d : Int} {l : List Row} (hd : d ≤ lastP) (hl : ∀ r ∈ l, okRow r = true) (z : Int) : mem (lmR d l) z ↔ (mem l (d - z) ∧ 0 ≤ z ∧ z ≤ lastP) := by
  constructor
  · rintro ⟨q, hq, k1, k2⟩
    obtain ⟨r, hr, rfl⟩ := List.mem_map.mp hq
    obtain ⟨hm, hc⟩ := List.mem_filter.mp hr
    have h2 := mn_ok r.2 d
    have h3 := okRow_iff (hl r hm)
    dsimp only at k1 k2
    exact ⟨⟨r, hm, by omega, by omega⟩, by omega, by omega⟩
  · rintro ⟨⟨r, hm, k1, k2⟩, k3, k4⟩
    have h2 := mn_ok r.2 d
    refine ⟨(d - mn r.2 d, d - r.1), List.mem_map.mpr ⟨r, List.mem_filter.mpr ⟨hm, decide_eq_true ?_⟩, rfl⟩, ?_, ?_⟩ <;> (try dsimp only) <;> omega
theorem lmR_len (d : Int) (l : List Row) : (lmR d l).length ≤ l.length := by
  unfold lmR
  rw [List.length_map]
  exact List.length_filter_le _ _
theorem small1000 {n : Nat} (h : n ≤ 1000) : n < sizeLine := Nat.lt_of_le_of_lt h (by decide)
/-- a told clause at other places -/
def spLTurn (pre : Int → Prop) (X : Int → Nat → List V → List V) (g : Int → Int → Int) : Sp := fun vs H Q _ => ∃ (t : Addr) (d : Int) (i : Nat) (f : Str) (r : Addr) (x : List V) (L : List ARow), vs = [.ref t, .int d] ∧ H t = some (.tup (spT i f r x)) ∧ i < 7 ∧ WF i f x ∧ RowsAt H r L ∧ d.natAbs < 10 ^ 40 ∧ pre d ∧
  ∀ (u m : Addr) (M : List ARow) (H' : Hp), H' u = some (.tup (spT i f m (X d i x))) → H' m = some (.lst (refs M)) → AtR H' M → Nf (rws M) → (∀ z, mem (rws M) z ↔ (mem (rws L) (g z d) ∧ 0 ≤ z ∧ z ≤ lastP)) → Same H H' → Q (.ref u) H'
theorem inV_bp {i : Nat} (hi : i < 7) : inV (.str (kName i)) [.str "bound", .str "pair"] = decide (i = 4 ∨ i = 5) := by
  rcases kinds7 hi with e | e | e | e | e | e | e <;> subst e <;> decide +kernel
theorem mov_same {i : Nat} {f : Str} {x : List V} (hi : i < 7) (h : ¬ (i = 4 ∨ i = 5)) (d : Int) : movX d i x = x := by
  rcases kinds7 hi with e | e | e | e | e | e | e <;> subst e <;> first | rfl | exact absurd (by decide) h
theorem spT_len (i : Nat) (f : Str) (r : Addr) (x : List V) : (spT i f r x).length = 3 + x.length := by show x.length + 1 + 1 + 1 = _; omega
theorem spT_cut2 (i : Nat) (f : Str) (r : Addr) (x : List V) : cutV (spT i f r x) none (some 2) = [.str (kName i), .str f] := cutA _ 2
theorem spT_cut3 (i : Nat) (f : Str) (r : Addr) (x : List V) : cutV (spT i f r x) (some 3) none = x := cutB _ 3
theorem spT_cutA3 (i : Nat) (f : Str) (r : Addr) (x : List V) : cutV (spT i f r x) none (some 3) = [.str (kName i), .str f, .ref r] := cutA _ 3
section
variable {P : Program} {w : World} {K : PySem.W.Frag} {mg : Str → Option Value} {base : Heap} {C : Nat → Addr} {CP CL : Addr} {ts tw : Addr}
theorem scMo : FnScope ["_law_spec_here", "_law_by", "_law_rows", "_law_slope", "_law_height", "_law_row"] ["_law_spec_here", "_law_by"] (defScope sMoved) := ⟨rfl, rfl, rfl, by decide +kernel, rfl, by decide +kernel, by decide +kernel⟩
theorem ok_lmoved {f : Addr} {fd : FuncData} (F : Fun K "_law_moved" "_law_moved" sMoved f fd) (B : Bd mg) (MG : Cl P w K mg base 1 "_law_merged" ["_law_rows"] (spMerged K)) (NM : Cl P w K mg base 1 "_law_numbers" ["_law_spec_here"] spNums)
    (WN : Cl P w K mg base 1 "_law_with_numbers" ["_law_spec_here", "_law_slope", "_law_height"] spWithN) : FnOk P w K mg base CX0 2 f fd ["_law_spec_here", "_law_by"] (spLTurn (fun _ => True) movX fun z d => z - d) := by
  refine F.ok scMo (fun vs H Q E h => ?_) (fun cdv A outer s0 H vs Q E hr h => ?_)
  · obtain ⟨t, d, i, f1, r, x, L, rfl, _⟩ := h
    rfl
  · obtain ⟨t, d, i, f1, r, x, L, rfl, ht, hi, wf, hR, hd, _, q⟩ := h
    have nd := scMo.nd
    have hpow : CPow 10 30 := ⟨by decide, by decide, by decide⟩
    refine ⟨_, pss_cons (ps_setLc (i := 2) (own := [("_law_row", 5)]) (g := (gName 5)) (tt := tYes) rfl nd rfl rfl (sw_true rfl rfl rfl (by decide +kernel)) (pi_list (pe_ix (ix_tupK K rfl) (pv 0) pe_int (fun _ _ => rfl))) (blkOk_by (N := ["_law_spec_here", "_law_by", "_law_rows", "_law_slope", "_law_height", "_law_row"]) (sc := defScope sMoved) (by decide +kernel)) (fun _ _ _ _ _ => pg_name (i := 5) nd rfl (.inl rfl)) (fun _ _ _ _ _ => pts_nil) (fun _ _ _ _ _ => (pe_tup (pa_cons (pe_callB (call_max2 rfl) (by rfl) B.max bt_max (pa_cons pe_int (pa_cons (pe_callTy call_int1 (by rfl) B.int bt_int (pa_cons (pe_op op_add (pe_ix (ix_tupK K rfl) (pv 5) pe_int (fun _ _ => rfl)) (pv 1)) pa_nil)) pa_nil))) (pa_cons (pe_callB (call_min2 rfl) (by rfl) B.min bt_min (pa_cons (pe_op op_pow pe_int pe_int) (pa_cons (pe_callTy call_int1 (by rfl) B.int bt_int (pa_cons (pe_op op_add (pe_ix (ix_tupK K rfl) (pv 5) pe_int (fun _ _ => rfl)) (pv 1)) pa_nil)) pa_nil))) pa_nil)))))
      (pss_cons (ps_set (i := 0) nd rfl (.inl rfl) (pe_op (op_catTK K rfl) (pe_op (op_catTK K rfl) (pe_slice (sl_tupK K rfl) (pv 0) po_none (po_some pe_int)) (pe_tup (pa_cons (pe_cl MG hr (by decide) (by rfl) (pa_cons (pe_lc (own := [("_law_row", 5)]) (g := (gName 5)) rfl nd (pi_list (pv 2)) (blkOk_by (N := ["_law_spec_here", "_law_by", "_law_rows", "_law_slope", "_law_height", "_law_row"]) (sc := defScope sMoved) (by decide +kernel)) (fun _ _ _ _ _ => pg_name (i := 5) nd rfl (.inl rfl)) (fun _ _ _ _ _ => pts_one (pt_cmpR op_le (pe_ix (ix_tupK K rfl) (pv 5) pe_int (fun _ _ => rfl)) (pe_ix (ix_tupK K rfl) (pv 5) pe_int (fun _ _ => rfl)) (nomark _))) (fun _ _ _ _ _ => (pv 5))) pa_nil)) pa_nil))) (pe_slice (sl_tupK K rfl) (pv 0) (po_some pe_int) po_none)))
      (pss_cons (ps_if (pt_cmpR (op_notIn_seqK K rfl) (pe_ix (ix_tupK K rfl) (pv 0) pe_int (fun _ _ => rfl)) (pe_tup (pa_cons pe_str (pa_cons pe_str pa_nil))) (by rfl))
          (pss_one (ps_ret (pv 0)))
          pss_nil)
      (pss_cons (ps_asg (pe_cl NM hr (by decide) (by rfl) (pa_cons (pv 0) pa_nil)) (pg_tup rfl (pgs_cons (pg_name (i := 3) nd rfl (.inl rfl)) (pgs_cons (pg_name (i := 4) nd rfl (.inl rfl)) pgs_nil))))
      (pss_one (ps_ret (pe_cl WN hr (by decide) (by rfl) (pa_cons (pv 0) (pa_cons (pv 3) (pa_cons (pe_op op_sub (pv 4) (pe_op op_mulW (pv 3) (pv 1))) pa_nil))))))))), ?_⟩
    have hS : SqL K H r (refs L) := .inl (.inl hR.at_)
    have hL := hR.rw_
    have hlen := hR.few
    refine ⟨_, rfl, t, _, _, _, rfl, rfl, .inl (.inl ht), atI_nat (j := 2) rfl, r, rfl, ⟨_, hS⟩, fun D hD => lc_list (K := K) (a := r) (xs := refs L) (fun i H2 => ∃ N : List ARow, H2 D = some (.lst (refs N)) ∧ AtR H2 N ∧ rws N = sfR d ((rws L).take i) ∧ Same H H2 ∧ N.length = i)
        ⟨[], upd_same, (fun _ z => nomatch z), rfl, same_lay hD, rfl⟩ (fun i H2 _ ⟨_, _, _, _, s, _⟩ => s.seq hS) ?_ ?_⟩
    · rintro i y H2 hy ⟨N, hD2, hN, eN, s2, lN⟩
      obtain ⟨z, hz, hzL, rfl⟩ := refs_get hy
      have hil : i < L.length := (List.getElem?_eq_some_iff.mp hz).1
      have ez := s2 _ _ (hL z hzL)
      have hq2 : SqT K H2 z.1 [.int z.2.1, .int z.2.2] := .inl (.inl ez)
      have g0 : atI [V.int z.2.1, .int z.2.2] 0 = some (.int z.2.1) := atI_nat (j := 0) rfl
      have g1 : atI [V.int z.2.1, .int z.2.2] 1 = some (.int z.2.2) := atI_nat (j := 1) rfl
      have nND : ∀ q ∈ N, q.1 ≠ D := fun q hq => ne_of (hN q hq) hD2 (by intro w; cases w)
      refine ⟨rfl, yesT ?_⟩
      refine ⟨_, rfl, z.1, _, 0, _, rfl, rfl, hq2, g0, _, rfl, _, _, rfl, rfl, .inl ⟨_, rfl, _, _, rfl, _, _, rfl, rfl, hpow, ?_⟩⟩
      refine ⟨_, rfl, z.1, _, 1, _, rfl, rfl, hq2, g1, _, rfl, _, _, rfl, rfl, .inl ⟨_, rfl, _, _, rfl, (by show 2 ≤ sizeLine; decide), fun T' hT => ?_⟩⟩
      have s4 := same_lay (o := .tup [.int (mx 0 (z.2.1 + d)), .int (mn lastP (z.2.2 + d))]) hT
      have nTD : T' ≠ D := (ne_of_none hD2 hT).symm
      refine ⟨refs N, s4 _ _ hD2, small1000 (by rw [refs_len]; omega), N ++ [(T', (mx 0 (z.2.1 + d), mn lastP (z.2.2 + d)))], ?_, fun q hq => ?_, ?_, same_upd (s2.trans s4) hD, by rw [List.length_append, lN]; rfl⟩
      · rw [upd_same, refs_snoc]
      · rcases List.mem_append.mp hq with k | k
        · rw [upd_ne (nND q k)]
          exact s4 _ _ (hN q k)
        · rw [List.mem_singleton.mp k, upd_ne nTD]
          exact upd_same
      · rw [rws_snoc, eN]
        unfold sfR
        rw [map_snoc (rws_get hz)]
    · rintro H2 ⟨N, hD2, hN, eN, s2, lN⟩
      rw [refs_len, List.take_of_length_le (by rw [rws_len]; exact Nat.le_refl _)] at eN
      rw [refs_len] at lN
      have ht2 := s2 _ _ ht
      refine ⟨_, rfl, _, rfl, t, _, rfl, .inl (.inl ht2), nwA (n := 2) (by rw [spT_len]; omega), fun u1 n1 => ?_⟩
      rw [spT_cut2]
      have s3 := same_lay (o := .tup [.str (kName i), .str f1]) n1
      have e1 : upd H2 u1 (.tup [.str (kName i), .str f1]) u1 = _ := upd_same
      have hDb := s3 _ _ hD2
      have hNb := hN.same s3
      have ht3 := s3 _ _ ht2
      have s03 := s2.trans s3
      generalize upd H2 u1 _ = H3 at s3 e1 hDb hNb ht3 s03
      refine ⟨_, rfl, D, rfl, ⟨_, .inl (.inl hDb)⟩, fun D2 hD2n => lc_list (K := K) (a := D) (xs := refs N) (fun i H4 => ∃ G : List ARow, H4 D2 = some (.lst (refs G)) ∧ AtR H4 G ∧ rws G = leR ((rws N).take i) ∧ Same H3 H4 ∧ G.length ≤ i)
        ⟨[], upd_same, (fun _ z => nomatch z), rfl, same_lay hD2n, Nat.le_refl _⟩ (fun i H4 _ ⟨_, _, _, _, s, _⟩ => .inl (.inl (s _ _ hDb))) ?_ ?_⟩
      · rintro i y H4 hy ⟨G, hD3, hG, eG, s5, lG⟩
        obtain ⟨z, hz, hzN, rfl⟩ := refs_get hy
        have hil : i < N.length := (List.getElem?_eq_some_iff.mp hz).1
        have ez := s5 _ _ (hNb z hzN)
        have hq2 : SqT K H4 z.1 [.int z.2.1, .int z.2.2] := .inl (.inl ez)
        have g0 : atI [V.int z.2.1, .int z.2.2] 0 = some (.int z.2.1) := atI_nat (j := 0) rfl
        have g1 : atI [V.int z.2.1, .int z.2.2] 1 = some (.int z.2.2) := atI_nat (j := 1) rfl
        have e1 : (rws N).take (i + 1) = (rws N).take i ++ [z.2] := by rw [List.take_add_one, rws_get hz]; rfl
        have nGD : ∀ q ∈ G, q.1 ≠ D2 := fun q hq => ne_of (hG q hq) hD3 (by intro w; cases w)
        refine ⟨rfl, _, rfl, z.1, _, 0, _, rfl, rfl, hq2, g0, _, rfl, z.1, _, 1, _, rfl, rfl, hq2, g1, _, _, rfl, rfl, _, rfl, ?_⟩
        cases c : decide (z.2.1 ≤ z.2.2) with
        | false =>
          have k : ¬ z.2.1 ≤ z.2.2 := of_decide_eq_false c
          exact iteF ⟨G, hD3, hG, by rw [e1, leR_snoc, if_neg k, List.append_nil]; exact eG, s5, Nat.le_succ_of_le lG⟩
        | true =>
          have k : z.2.1 ≤ z.2.2 := of_decide_eq_true c
          refine iteT ⟨_, rfl, refs G, hD3, small1000 (by rw [refs_len]; omega), G ++ [z], ?_, fun q hq => ?_, ?_, same_upd s5 hD2n, by rw [List.length_append]; exact Nat.succ_le_succ lG⟩
          · rw [upd_same, refs_snoc]
          · rcases List.mem_append.mp hq with j | j
            · rw [upd_ne (nGD q j)]
              exact hG q j
            · rw [List.mem_singleton.mp j, upd_ne (ne_of ez hD3 (by intro w; cases w))]
              exact ez
          · rw [rws_snoc, eG, e1, leR_snoc, if_pos k]
      · rintro H4 ⟨G, hD3, hG, eG, s5, lG⟩
        rw [refs_len] at lG
        rw [refs_len, List.take_of_length_le (by rw [rws_len]; exact Nat.le_refl _), eN] at eG
        refine ⟨D2, G, rfl, .inl (.inl hD3), hG, by rw [eG]; exact sfR_ok d _, by omega, fun o M H5 s6 no ho hM hnf hme lenM _ => ?_⟩
        have hme2 : ∀ z, mem (rws M) z ↔ (mem (rws L) (z - d) ∧ 0 ≤ z ∧ z ≤ lastP) := fun z => by rw [hme z, eG, sfR_mem]
        refine ⟨by show 1 ≤ sizeLine; decide, fun u2 n2 => ?_⟩
        have s7 := same_lay (o := .tup [.ref o]) n2
        have s57 := (s5.trans s6).trans s7
        refine cat_at (s57 _ _ e1) upd_same (fun z => nomatch z) (by show 2 + 1 ≤ sizeLine; decide) fun u3 G3 e3 s8 => ?_
        have s08 := (s03.trans s57).trans s8
        refine ⟨_, rfl, _, rfl, t, _, rfl, .inl (.inl (s08 _ _ ht)), nwB (n := 3) (by decide) (by rw [spT_len]; omega), fun u4 n4 => ?_⟩
        rw [spT_cut3]
        have s9 := same_lay (o := .tup x) n4
        refine cat_at (s9 _ _ e3) upd_same (fun z => nomatch z) (by have := wf_len hi wf; have h7 : 3 + x.length ≤ 7 := by omega
                                                                    exact Nat.le_trans h7 (by decide)) fun u5 G5 e5 s10 => ?_
        have e5 : G5 u5 = some (.tup (spT i f1 o x)) := e5
        have s010 := (s08.trans s9).trans s10
        have sM := ((s7.trans s8).trans s9).trans s10
        have ho5 := sM _ _ ho
        have hM5 := hM.same sM
        refine ⟨_, rfl, u5, _, _, _, rfl, rfl, .inl (.inl e5), atI_nat (j := 0) rfl, by show 2 ≤ sizeLine; decide, fun u6 n6 => ?_⟩
        refine ⟨u6, _, rfl, .inr (.inl (.inl upd_same)), rfl, rfl, _, rfl, ?_⟩
        have s11 := same_lay (o := .tup [.str "bound", .str "pair"]) n6
        have s12 := s010.trans s11
        show if (!inV (.str (kName i)) [.str "bound", .str "pair"]) = true then _ else _
        rw [inV_bp hi]
        have e6 := s11 _ _ e5
        by_cases hb : i = 4 ∨ i = 5
        · rw [decide_eq_true hb]
          refine iteF ?_
          obtain ⟨a, b, en, na, nb, _, _, e7, _⟩ := wf_nums (by omega) wf
          refine ⟨_, rfl, u5, i, f1, o, x, rfl, e6, by omega, wf, fun u nu => ?_⟩
          rw [en]
          have s13 := same_lay (o := .tup [.int a, .int b]) nu
          refine ⟨u, _, rfl, .inl (.inl upd_same), rfl, _, _, rfl, _, _, rfl, rfl, _, rfl, _, rfl, _, rfl, _, rfl, _, rfl, a, d, rfl, rfl, cw40 na hd, b, a * d, rfl, rfl, u5, i, f1, o, x, a, b - a * d, rfl, s13 _ _ e6, by omega, wf, fun u7 G7 e8 s14 => ?_⟩
          have sx := (s11.trans s13).trans s14
          exact q u7 o M G7 (by rw [e8, e7 (by omega) d]) (sx _ _ ho5) (hM5.same sx) hnf hme2 ((s12.trans s13).trans s14)
        · rw [decide_eq_false hb]
          exact iteT ⟨_, rfl, q u5 o M _ (by rw [mov_same (f := f1) hi hb]; exact e6) (s11 _ _ ho5) (hM5.same s11) hnf hme2 s12⟩
end
end OR

namespace OR
open PySem PySem.Spec PyProof.Rows L2
open TL (tl numL)
section
variable {P : Program} {w : World} {K : PySem.W.Frag} {mg : Str → Option Value} {base : Heap} {C : Nat → Addr} {CP CL : Addr} {ts tw : Addr}
theorem scLMir : FnScope ["_law_spec_here", "_law_last", "_law_rows", "_law_slope", "_law_height", "_law_row"] ["_law_spec_here", "_law_last"] (defScope sMirrored) := ⟨rfl, rfl, rfl, by decide +kernel, rfl, by decide +kernel, by decide +kernel⟩
theorem ok_lmirr {f : Addr} {fd : FuncData} (F : Fun K "_law_mirrored" "_law_mirrored" sMirrored f fd) (B : Bd mg) (MG : Cl P w K mg base 1 "_law_merged" ["_law_rows"] (spMerged K)) (NM : Cl P w K mg base 1 "_law_numbers" ["_law_spec_here"] spNums) (ON : Cl P w K mg base 1 "_law_is_of_numbers" ["_law_spec_here"] spOfN)
    (WN : Cl P w K mg base 1 "_law_with_numbers" ["_law_spec_here", "_law_slope", "_law_height"] spWithN) (TS : Cl P w K mg base 1 "_law_turned_sign" ["_law_spec_here"] spTS) : FnOk P w K mg base CX0 2 f fd ["_law_spec_here", "_law_last"] (spLTurn (fun d => d ≤ lastP) mirX fun z d => d - z) := by
  refine F.ok scLMir (fun vs H Q E h => ?_) (fun cdv A outer s0 H vs Q E hr h => ?_)
  · obtain ⟨t, d, i, f1, r, x, L, rfl, _⟩ := h
    rfl
  · obtain ⟨t, d, i, f1, r, x, L, rfl, ht, hi, wf, hR, hd, hdp, q⟩ := h
    have nd := scLMir.nd
    have hu64 : (A.deeper (envOfC "_law_mirrored" (defScope sMirrored) s0.heap.objs.size f cdv)).units + 64 < cLine := hr.units
    have hu : (A.deeper (envOfC "_law_mirrored" (defScope sMirrored) s0.heap.objs.size f cdv)).units + 1 < cLine := by omega
    refine ⟨_, pss_cons (ps_setLc (i := 2) (own := [("_law_row", 5)]) (g := (gName 5)) rfl nd rfl rfl (sw_true rfl rfl rfl (by decide +kernel)) (pi_list (pe_ix (ix_tupK K rfl) (pv 0) pe_int (fun _ _ => rfl))) (blkOk_by (N := ["_law_spec_here", "_law_last", "_law_rows", "_law_slope", "_law_height", "_law_row"]) (sc := defScope sMirrored) (by decide +kernel)) (fun _ _ _ _ _ => pg_name (i := 5) nd rfl (.inl rfl)) (fun _ _ _ _ _ => pts_one (pt_cmpR op_le (pe_ix (ix_tupK K rfl) (pv 5) pe_int (fun _ _ => rfl)) (pv 1) (nomark _))) (fun _ _ _ _ _ => (pe_tup (pa_cons (pe_op op_sub (pv 1) (pe_callB (call_min2 rfl) (by rfl) B.min bt_min (pa_cons (pe_callTy call_int1 (by rfl) B.int bt_int (pa_cons (pe_ix (ix_tupK K rfl) (pv 5) pe_int (fun _ _ => rfl)) pa_nil)) (pa_cons (pe_callTy call_int1 (by rfl) B.int bt_int (pa_cons (pv 1) pa_nil)) pa_nil)))) (pa_cons (pe_op op_sub (pv 1) (pe_ix (ix_tupK K rfl) (pv 5) pe_int (fun _ _ => rfl))) pa_nil)))))
      (pss_cons (ps_set (i := 0) nd rfl (.inl rfl) (pe_op (op_catTK K rfl) (pe_op (op_catTK K rfl) (pe_slice (sl_tupK K rfl) (pv 0) po_none (po_some pe_int)) (pe_tup (pa_cons (pe_cl MG hr (by decide) (by rfl) (pa_cons (pv 2) pa_nil)) pa_nil))) (pe_slice (sl_tupK K rfl) (pv 0) (po_some pe_int) po_none)))
      (pss_cons (ps_if (pt_cmpR op_eq (pe_ix (ix_tupK K rfl) (pv 0) pe_int (fun _ _ => rfl)) pe_str (nomark _))
          (pss_one (ps_ret (pe_op (op_catTK K rfl) (pe_slice (sl_tupK K rfl) (pv 0) po_none (po_some pe_int)) (pe_tup (pa_cons (pe_dget hu (pe_disp (pps_cons pe_str pe_str (pps_cons pe_str pe_str pps_nil)) rfl rfl (by simp) (by decide)) (pe_ix (ix_tupK K rfl) (pv 0) pe_int (fun _ _ => rfl)) (fun _ _ => rfl)) pa_nil)))))
          pss_nil)
      (pss_cons (ps_if (pt_cmpR op_eq (pe_ix (ix_tupK K rfl) (pv 0) pe_int (fun _ _ => rfl)) pe_str (nomark _))
          (pss_one (ps_ret (pe_cl WN hr (by decide) (by rfl) (pa_cons (pe_cl TS hr (by decide) (by rfl) (pa_cons (pv 0) pa_nil)) (pa_cons pe_int (pa_cons (pe_un un_neg (pe_ix (ix_tupK K rfl) (pv 0) pe_int (fun _ _ => rfl))) pa_nil))))))
          pss_nil)
      (pss_cons (ps_if (pt_not (pt_val (pe_cl ON hr (by decide) (by rfl) (pa_cons (pv 0) pa_nil))))
          (pss_one (ps_ret (pv 0)))
          pss_nil)
      (pss_cons (ps_asg (pe_cl NM hr (by decide) (by rfl) (pa_cons (pv 0) pa_nil)) (pg_tup rfl (pgs_cons (pg_name (i := 3) nd rfl (.inl rfl)) (pgs_cons (pg_name (i := 4) nd rfl (.inl rfl)) pgs_nil))))
      (pss_one (ps_ret (pe_cl WN hr (by decide) (by rfl) (pa_cons (pv 0) (pa_cons (pe_un un_neg (pv 3)) (pa_cons (pe_op op_add (pv 4) (pe_op op_mulW (pv 3) (pv 1))) pa_nil))))))))))), ?_⟩
    have hS : SqL K H r (refs L) := .inl (.inl hR.at_)
    have hL := hR.rw_
    have hlen := hR.few
    refine ⟨_, rfl, t, _, _, _, rfl, rfl, .inl (.inl ht), atI_nat (j := 2) rfl, r, rfl, ⟨_, hS⟩, fun D hD => lc_list (K := K) (a := r) (xs := refs L) (fun i H2 => ∃ N : List ARow, H2 D = some (.lst (refs N)) ∧ AtR H2 N ∧ rws N = lmR d ((rws L).take i) ∧ Same H H2 ∧ N.length ≤ i)
        ⟨[], upd_same, (fun _ z => nomatch z), rfl, same_lay hD, Nat.le_refl _⟩ (fun i H2 _ ⟨_, _, _, _, s, _⟩ => s.seq hS) ?_ ?_⟩
    · rintro i y H2 hy ⟨N, hD2, hN, eN, s2, lN⟩
      obtain ⟨z, hz, hzL, rfl⟩ := refs_get hy
      have hil : i < L.length := (List.getElem?_eq_some_iff.mp hz).1
      have ez := s2 _ _ (hL z hzL)
      have hq2 : SqT K H2 z.1 [.int z.2.1, .int z.2.2] := .inl (.inl ez)
      have g0 : atI [V.int z.2.1, .int z.2.2] 0 = some (.int z.2.1) := atI_nat (j := 0) rfl
      have g1 : atI [V.int z.2.1, .int z.2.2] 1 = some (.int z.2.2) := atI_nat (j := 1) rfl
      have e1 : (rws L).take (i + 1) = (rws L).take i ++ [z.2] := by rw [List.take_add_one, rws_get hz]; rfl
      have nND : ∀ q ∈ N, q.1 ≠ D := fun q hq => ne_of (hN q hq) hD2 (by intro w; cases w)
      refine ⟨rfl, _, rfl, z.1, _, 0, _, rfl, rfl, hq2, g0, _, rfl, _, _, rfl, rfl, _, rfl, ?_⟩
      cases c : decide (z.2.1 ≤ d) with
      | false =>
        have k : ¬ z.2.1 ≤ d := of_decide_eq_false c
        exact iteF ⟨N, hD2, hN, by rw [e1, lmR_snoc, if_neg k, List.append_nil]; exact eN, s2, Nat.le_succ_of_le lN⟩
      | true =>
        have k : z.2.1 ≤ d := of_decide_eq_true c
        refine iteT ⟨_, rfl, _, rfl, z.1, _, 1, _, rfl, rfl, hq2, g1, .inl ⟨_, rfl, _, rfl, .inl ⟨_, rfl, _, _, rfl, _, _, rfl, rfl, _, rfl, _, rfl, z.1, _, 0, _, rfl, rfl, hq2, g0, _, _, rfl, rfl, (by show 2 ≤ sizeLine; decide), fun T' hT => ?_⟩⟩⟩
        have s4 := same_lay (o := .tup [.int (d - mn z.2.2 d), .int (d - z.2.1)]) hT
        have nTD : T' ≠ D := (ne_of_none hD2 hT).symm
        refine ⟨refs N, s4 _ _ hD2, small1000 (by rw [refs_len]; omega), N ++ [(T', (d - mn z.2.2 d, d - z.2.1))], ?_, fun q hq => ?_, ?_, same_upd (s2.trans s4) hD, by rw [List.length_append]; exact Nat.succ_le_succ lN⟩
        · rw [upd_same, refs_snoc]
        · rcases List.mem_append.mp hq with j | j
          · rw [upd_ne (nND q j)]
            exact s4 _ _ (hN q j)
          · rw [List.mem_singleton.mp j, upd_ne nTD]
            exact upd_same
        · rw [rws_snoc, eN, e1, lmR_snoc, if_pos k]
    · rintro H2 ⟨N, hD2, hN, eN, s2, lN⟩
      rw [refs_len, List.take_of_length_le (by rw [rws_len]; exact Nat.le_refl _)] at eN
      rw [refs_len] at lN
      have ht2 := s2 _ _ ht
      refine ⟨_, rfl, _, rfl, t, _, rfl, .inl (.inl ht2), nwA (n := 2) (by rw [spT_len]; omega), fun u1 n1 => ?_⟩
      rw [spT_cut2]
      have s3 := same_lay (o := .tup [.str (kName i), .str f1]) n1
      have e1 : upd H2 u1 (.tup [.str (kName i), .str f1]) u1 = _ := upd_same
      have hDb := s3 _ _ hD2
      have hNb := hN.same s3
      have ht3 := s3 _ _ ht2
      have s03 := s2.trans s3
      generalize upd H2 u1 _ = H3 at s3 e1 hDb hNb ht3 s03
      refine ⟨_, rfl, D, N, rfl, .inl (.inl hDb), hNb, by rw [eN]; exact lmR_ok hdp hR.ok, by omega, fun o M H5 s6 no ho hM hnf hme lenM _ => ?_⟩
      have hme2 : ∀ z, mem (rws M) z ↔ (mem (rws L) (d - z) ∧ 0 ≤ z ∧ z ≤ lastP) := fun z => by rw [hme z, eN, lmR_mem hdp hR.ok]
      refine ⟨by show 1 ≤ sizeLine; decide, fun u2 n2 => ?_⟩
      have s7 := same_lay (o := .tup [.ref o]) n2
      have s57 := s6.trans s7
      refine cat_at (s57 _ _ e1) upd_same (fun z => nomatch z) (by show 2 + 1 ≤ sizeLine; decide) fun u3 G3 e3 s8 => ?_
      have s08 := (s03.trans s57).trans s8
      refine ⟨_, rfl, _, rfl, t, _, rfl, .inl (.inl (s08 _ _ ht)), nwB (n := 3) (by decide) (by rw [spT_len]; omega), fun u4 n4 => ?_⟩
      rw [spT_cut3]
      have s9 := same_lay (o := .tup x) n4
      refine cat_at (s9 _ _ e3) upd_same (fun z => nomatch z) (by have := wf_len hi wf; have h7 : 3 + x.length ≤ 7 := by omega
                                                                  exact Nat.le_trans h7 (by decide)) fun u5 G5 e5 s10 => ?_
      have e5 : G5 u5 = some (.tup (spT i f1 o x)) := e5
      have s010 := (s08.trans s9).trans s10
      have sM := ((s7.trans s8).trans s9).trans s10
      have ho5 := sM _ _ ho
      have hM5 := hM.same sM
      have fin : ∀ u7 G7, G7 u7 = some (.tup (spT i f1 o (mirX d i x))) → Same G5 G7 → Q (.ref u7) G7 := fun u7 G7 e8 sx => q u7 o M G7 e8 (sx _ _ ho5) (hM5.same sx) hnf hme2 (s010.trans sx)
      clear q ho5 hM5 sM s010 s10 s9 s08 s8 s57 s7 hme2 hme hnf ho hM no s6 s03 hNb hDb s3 s2 hD2 hN eN e3 e1 ht3 ht2 ht n4 n2 n1 hS hL
      refine ⟨_, rfl, u5, _, _, _, rfl, rfl, .inl (.inl e5), atI_nat (j := 0) rfl, rfl, _, rfl, ?_⟩
      by_cases h3 : i = 3
      · subst h3
        refine ite2 (fun _ => ?_) (fun z => absurd (decide_eq_true rfl) z)
        obtain ⟨wy, rfl, hw⟩ := wf
        refine ⟨_, rfl, _, rfl, u5, _, rfl, .inl (.inl e5), nwA (n := 3) (show 3 < 4 by decide), fun u6 n6 => ?_⟩
        rw [spT_cutA3]
        have s11 := same_lay (o := .tup [.str (kName 3), .str f1, .ref o]) n6
        have e6 : upd G5 u6 (.tup [.str (kName 3), .str f1, .ref o]) u6 = _ := upd_same
        generalize upd G5 u6 _ = G6 at s11 e6
        refine fun dd ndd => ?_
        refine ⟨upd_same, [(.inr "up", .str "down"), (.inr "down", .str "up")], rfl, by decide, ?_⟩
        rw [upd_upd]
        have s12 := same_lay (o := .dK (mergeK [] [(.inr "up", .str "down"), (.inr "down", .str "up")])) ndd
        refine ⟨_, rfl, u5, _, _, _, rfl, rfl, .inl (.inl (s12 _ _ (s11 _ _ e5))), atI_nat (j := 3) rfl, dd, .str (flp wy), rfl, ?_, by show 1 ≤ sizeLine; decide, fun u7 n7 => ?_⟩
        · rcases hw with e | e <;> subst e <;> exact dg upd_same (by decide +kernel)
        have s13 := same_lay (o := .tup [.str (flp wy)]) n7
        exact cat_at (s13 _ _ (s12 _ _ e6)) upd_same (fun z => nomatch z) (by show 3 + 1 ≤ sizeLine; decide) fun u8 G8 e8 s14 => fin u8 G8 e8 (((s11.trans s12).trans s13).trans s14)
      have kn : ∀ {j : Nat}, j < 7 → i ≠ j → V.str (kName i) ≠ V.str (kName j) := fun {j} hj ne e => by
        have e := V.str.inj e
        rcases kinds7 hi with a | a | a | a | a | a | a <;> subst a <;> rcases kinds7 hj with b | b | b | b | b | b | b <;> subst b <;> first | exact ne rfl | exact absurd e (by decide +kernel)
      refine ite2 (fun z => absurd (of_decide_eq_true z) (kn (j := 3) (by decide) h3)) (fun _ => ?_)
      refine ⟨_, rfl, u5, _, _, _, rfl, rfl, .inl (.inl e5), atI_nat (j := 0) rfl, rfl, _, rfl, ?_⟩
      by_cases h6 : i = 6
      · subst h6
        refine ite2 (fun _ => ?_) (fun z => absurd (decide_eq_true rfl) z)
        obtain ⟨s, b, rfl, hs, nb⟩ := id wf
        refine ⟨_, rfl, u5, 6, f1, o, _, rfl, e5, by omega, wf, fun u6 G6 e6 s11 => ?_⟩
        exact ⟨_, rfl, u5, _, _, _, rfl, rfl, .inl (.inl (s11 _ _ e5)), atI_nat (j := 4) rfl, b, rfl, u6, 6, f1, o, sgX [.str s, .int b], 0, -b, rfl, e6, by omega, wf_sg (by omega) wf, fun u7 G7 e7 s12 => fin u7 G7 e7 (s11.trans s12)⟩
      refine ite2 (fun z => absurd (of_decide_eq_true z) (kn (j := 6) (by decide) h6)) (fun _ => ?_)
      refine ⟨_, rfl, u5, i, f1, o, x, rfl, e5, hi, fun G6 s11 => ⟨_, rfl, ?_⟩⟩
      have e6 := s11 _ _ e5
      by_cases h4 : 4 ≤ i
      · rw [decide_eq_true h4]
        refine iteF ?_
        obtain ⟨a, b, en, na, nb, _, _, _, e7⟩ := wf_nums (by omega) wf
        refine ⟨_, rfl, u5, i, f1, o, x, rfl, e6, by omega, wf, fun u nu => ?_⟩
        rw [en]
        have s13 := same_lay (o := .tup [.int a, .int b]) nu
        exact ⟨u, _, rfl, .inl (.inl upd_same), rfl, _, _, rfl, _, _, rfl, rfl, _, rfl, _, rfl, a, rfl, _, rfl, _, rfl, _, rfl, a, d, rfl, rfl, cw40 na hd, b, a * d, rfl, rfl, u5, i, f1, o, x, -a, b + a * d, rfl, s13 _ _ e6, by omega, wf, fun u7 G7 e8 s14 => fin u7 G7 (by rw [e8, e7 h6 d]) ((s11.trans s13).trans s14)⟩
      · rw [decide_eq_false h4]
        refine iteT ⟨_, rfl, fin u5 G6 ?_ s11⟩
        have : mirX d i x = x := by
          rcases (show i = 0 ∨ i = 1 ∨ i = 2 by omega) with e | e | e <;> subst e <;> rfl
        rw [this]
        exact e6
end
end OR

namespace OR
open PySem PySem.Spec PyProof.Rows L2
open TL (tl numL)
/-! ### the law -/
theorem eqvL (l m : List Row) : PyData.eqv (.list (l.map rowD)) (.list (m.map rowD)) = decide (l = m) := eqv_rows l m
theorem neqS {a b : Str} (h : a ≠ b) : (!decide (V.str a = V.str b)) = true := by simp [h]
theorem eqS (a : Str) : (!decide (V.str a = V.str a)) = false := by simp
def vD : V → PyData
  | .str s => .str s
  | .int i => .int i
  | _ => .none
def SmV : V → Prop
  | .str s => SmallS s
  | .int _ => True
  | _ => False
theorem word_small {s : Str} (h : Word s) : SmallS s := fun c hc => by have := h.az c hc; omega
theorem sign_small {s : Str} (h : isSign s) : SmallS s := by
  rcases h with e | e | e <;> subst e <;> intro c hc <;> revert c <;> decide
theorem way_small {s : Str} (h : isWay s) : SmallS s := by
  rcases h with e | e <;> subst e <;> intro c hc <;> revert c <;> decide
theorem kName_small : ∀ i, SmallS (kName i)
  | 0 => by intro c hc; revert c; decide
  | 1 => by intro c hc; revert c; decide
  | 2 => by intro c hc; revert c; decide
  | 3 => by intro c hc; revert c; decide
  | 4 => by intro c hc; revert c; decide
  | 5 => by intro c hc; revert c; decide
  | _ + 6 => by
    show SmallS ("step" : Str)
    intro c hc; revert c; decide
theorem wf_small {i : Nat} {f : Str} {x : List V} (hi : i < 7) (h : WF i f x) : ∀ v ∈ x, SmV v := by
  rcases kinds7 hi with e | e | e | e | e | e | e <;> subst e
  · cases (show x = [] from h); exact fun _ z => nomatch z
  · cases (show x = [] from h); exact fun _ z => nomatch z
  · obtain ⟨g, rfl, hg, _⟩ := h
    intro v hv
    rw [List.mem_singleton.mp hv]
    exact word_small hg
  · obtain ⟨w, rfl, hs⟩ := h
    intro v hv
    rw [List.mem_singleton.mp hv]
    exact way_small hs
  · obtain ⟨s, a, b, rfl, hs, _⟩ := h
    intro v hv
    simp only [List.mem_cons, List.not_mem_nil, or_false] at hv
    rcases hv with e | e | e <;> subst e
    · exact sign_small hs
    · trivial
    · trivial
  · obtain ⟨s, g, a, b, rfl, hs, hg, _⟩ := h
    intro v hv
    simp only [List.mem_cons, List.not_mem_nil, or_false] at hv
    rcases hv with e | e | e | e <;> subst e
    · exact sign_small hs
    · exact word_small hg
    · trivial
    · trivial
  · obtain ⟨s, b, rfl, hs, _⟩ := h
    intro v hv
    simp only [List.mem_cons, List.not_mem_nil, or_false] at hv
    rcases hv with e | e <;> subst e
    · exact sign_small hs
    · trivial
theorem dp_vs {K : PySem.W.Frag} {H : Hp} : ∀ {x : List V}, (∀ v ∈ x, SmV v) → DpAll K H x (x.map vD)
  | [], _ => .nil
  | .str s :: r, h => .cons (.str s) (dp_vs fun v hv => h v (List.mem_cons_of_mem _ hv))
  | .int i :: r, h => .cons (.int i) (dp_vs fun v hv => h v (List.mem_cons_of_mem _ hv))
  | .non :: r, h => (h _ List.mem_cons_self).elim
  | .bl _ :: r, h => (h _ List.mem_cons_self).elim
  | .byt _ :: r, h => (h _ List.mem_cons_self).elim
  | .flt _ :: r, h => (h _ List.mem_cons_self).elim
  | .ref _ :: r, h => (h _ List.mem_cons_self).elim
  | .ty _ :: r, h => (h _ List.mem_cons_self).elim
theorem lay_vs : ∀ {x : List V}, (∀ v ∈ x, SmV v) → PyData.canLayAll0 (x.map vD) = true ∧ PyData.depthAll (x.map vD) = 0 ∧ PyData.eqvAll (x.map vD) (x.map vD) = true
  | [], _ => ⟨rfl, rfl, by simp [PyData.eqvAll]⟩
  | v :: r, h => by
    obtain ⟨h1, h2, h3⟩ := lay_vs (x := r) fun v hv => h v (List.mem_cons_of_mem _ hv)
    have hv := h v List.mem_cons_self
    have k : PyData.canLay0 (vD v) = true ∧ PyData.depth (vD v) = 0 ∧ PyData.eqv (vD v) (vD v) = true := by
      cases v with
      | str s => exact ⟨strOk_of hv, rfl, by simp [vD, PyData.eqv]⟩
      | int i => exact ⟨rfl, rfl, by simp [vD, PyData.eqv]⟩
      | _ => exact hv.elim
    refine ⟨?_, ?_, ?_⟩
    · show (PyData.canLay0 (vD v) && PyData.canLayAll0 (r.map vD)) = true
      rw [k.1, h1]; rfl
    · show max (PyData.depth (vD v)) (PyData.depthAll (r.map vD)) = 0
      rw [k.2.1, h2]; rfl
    · show (PyData.eqv (vD v) (vD v) && PyData.eqvAll (r.map vD) (r.map vD)) = true
      rw [k.2.2, h3]; rfl
def specD (i : Nat) (f : Str) (l : List Row) (x : List V) : PyData := .tuple (.str (kName i) :: .str f :: .list (l.map rowD) :: x.map vD)
theorem spec_dp {K : PySem.W.Frag} {H : Hp} {t r : Addr} {i : Nat} {f : Str} {x : List V} {L : List ARow} (ht : H t = some (.tup (spT i f r x))) (hr : H r = some (.lst (refs L))) (hL : AtR H L) (hx : ∀ v ∈ x, SmV v) : Dp K H (.ref t) (specD i f (rws L) x) :=
  .tup (.inl (.inl ht)) (.cons (.str _) (.cons (.str _) (.cons (.lst (.inl (.inl hr)) (dp_rows hL)) (dp_vs hx))))
theorem spec_shp {i : Nat} {f : Str} {l : List Row} {x : List V} (hf : SmallS f) (hx : ∀ v ∈ x, SmV v) : SeqAt.shaped (specD i f l x) = true := by
  obtain ⟨h1, h2, _⟩ := lay_vs hx
  unfold SeqAt.shaped specD
  have e1 : PyData.canLay0 (.tuple (.str (kName i) :: .str f :: .list (l.map rowD) :: x.map vD)) = true := by
    show (PyData.strOk (kName i) && (PyData.strOk f && (PyData.canLayAll0 (l.map rowD) && PyData.canLayAll0 (x.map vD)))) = true
    rw [strOk_of (kName_small i), strOk_of hf, lay_rows l, h1]
    rfl
  rw [e1, Bool.true_and]
  refine decide_eq_true ?_
  show max (PyData.depth (.str (kName i))) (max (PyData.depth (.str f)) (max (PyData.depthAll (l.map rowD) + 1) (PyData.depthAll (x.map vD)))) + 1 ≤ 64
  have h3 := dep_rows l
  have e2 : PyData.depth (.str (kName i)) = 0 := rfl
  have e3 : PyData.depth (.str f) = 0 := rfl
  rw [h2, e2, e3]
  omega
theorem spec_eqv {i : Nat} {f : Str} {l : List Row} {x : List V} (hx : ∀ v ∈ x, SmV v) : PyData.eqv (specD i f l x) (specD i f l x) = true := by
  obtain ⟨_, _, h3⟩ := lay_vs hx
  show ((kName i == kName i) && ((f == f) && (PyData.eqv (.list (l.map rowD)) (.list (l.map rowD)) && PyData.eqvAll (x.map vD) (x.map vD)))) = true
  rw [h3, eqvL, decide_eq_true rfl]
  simp
theorem told_strs {i : Nat} {f : Str} {x : List V} (hi : i < 7) (hf : Word f) (h : WF i f x) : ∀ v ∈ told i f x, SmV v := by
  have hf' := word_small hf
  rcases kinds7 hi with e | e | e | e | e | e | e <;> subst e
  · cases (show x = [] from h); intro v hv; rw [List.mem_singleton.mp hv]; exact hf'
  · cases (show x = [] from h); intro v hv; rw [List.mem_singleton.mp hv]; exact hf'
  · obtain ⟨g, rfl, hg, _⟩ := h
    intro v hv
    simp only [told, List.mem_cons, List.not_mem_nil, or_false] at hv
    rcases hv with e | e <;> subst e
    · exact hf'
    · exact word_small hg
  · obtain ⟨w, rfl, hs⟩ := h; intro v hv; rw [List.mem_singleton.mp hv]; exact hf'
  · obtain ⟨s, a, b, rfl, hs, _⟩ := h; intro v hv; rw [List.mem_singleton.mp hv]; exact hf'
  · obtain ⟨s, g, a, b, rfl, hs, hg, _⟩ := h
    intro v hv
    simp only [told, List.mem_cons, List.not_mem_nil, or_false] at hv
    rcases hv with e | e <;> subst e
    · exact hf'
    · exact word_small hg
  · obtain ⟨s, b, rfl, hs, _⟩ := h; intro v hv; rw [List.mem_singleton.mp hv]; exact hf'
theorem tup_shp {x : List V} (hx : ∀ v ∈ x, SmV v) : SeqAt.shaped (.tuple (x.map vD)) = true := by
  obtain ⟨h1, h2, _⟩ := lay_vs hx
  unfold SeqAt.shaped
  rw [show PyData.canLay0 (.tuple (x.map vD)) = true from h1, Bool.true_and]
  refine decide_eq_true ?_
  show PyData.depthAll (x.map vD) + 1 ≤ 64
  omega
theorem tup_eqv {x : List V} (hx : ∀ v ∈ x, SmV v) : PyData.eqv (.tuple (x.map vD)) (.tuple (x.map vD)) = true := (lay_vs hx).2.2
theorem kName_inj {i j : Nat} (hi : i < 7) (hj : j < 7) (h : kName i = kName j) : i = j := by
  rcases kinds7 hi with e | e | e | e | e | e | e <;> subst e <;> rcases kinds7 hj with e | e | e | e | e | e | e <;> subst e <;> first | rfl | exact absurd h (by decide +kernel)
def names7 : List Str := ["answers", "refuses", "needs", "spreads", "bound", "pair", "step"]
theorem names7_of {y : Str} (h : y ∈ names7) : ∃ i, i < 7 ∧ y = kName i := by
  unfold names7 at h
  simp only [List.mem_cons, List.not_mem_nil, or_false] at h
  rcases h with e | e | e | e | e | e | e <;> subst e
  · exact ⟨0, by decide, rfl⟩
  · exact ⟨1, by decide, rfl⟩
  · exact ⟨2, by decide, rfl⟩
  · exact ⟨3, by decide, rfl⟩
  · exact ⟨4, by decide, rfl⟩
  · exact ⟨5, by decide, rfl⟩
  · exact ⟨6, by decide, rfl⟩
theorem noM : ∀ i, ("negated" : Str) ∉ allNames i ∧ ("times" : Str) ∉ allNames i ∧ ("moved" : Str) ∉ allNames i ∧ ("mirrored" : Str) ∉ allNames i
  | 0 => by decide +kernel
  | 1 => by decide +kernel
  | 2 => by decide +kernel
  | 3 => by decide +kernel
  | 4 => by decide +kernel
  | 5 => by decide +kernel
  | _ + 6 => by
    show ("negated" : Str) ∉ ("kind" :: "function" :: "places" :: ["sign", "height"] : List Str) ∧ ("times" : Str) ∉ ("kind" :: "function" :: "places" :: ["sign", "height"] : List Str) ∧ ("moved" : Str) ∉ ("kind" :: "function" :: "places" :: ["sign", "height"] : List Str) ∧ ("mirrored" : Str) ∉ ("kind" :: "function" :: "places" :: ["sign", "height"] : List Str)
    decide +kernel
/-- a method of one of some classes -/
theorem pe_mtF {X : Cx} {k j : Nat} {I : Nat → Prop} {C : Nat → Addr} {m : Str} {ps : List Str} {sp : Nat → Sp} {o : Expr} {ta : TE} {apos pos : Pos} {pl : Sem Bool} (M : ∀ i, I i → Mt X.prog X.w X.K X.mg X.base k (C i) m ps (sp i)) (c : ∀ i, I i → Cls X.K (C i)) (hr : Room j X.A) (hk : k ≤ j) (he : PE X o ta)
    (ht : eval (.Call (.Attribute o m apos) [] [] pos) X.env = (do
      let ov ← eval o X.env
      standAt apos.atName
      let (f, first) ← holding [ov] (getMethod ov m pl)
      callWith pos f first (backTo pos (starEach [] X.env)) (backToKw pos (keywordEach [] X.env))) := by rfl) : PE X (.Call (.Attribute o m apos) [] [] pos) (fun σ H Q => ∃ i, I i ∧ tMeth (C i) m (sp i) [] E0 ta tNil σ H Q) :=
  ⟨fun pins s σ H Q I0 ⟨i, hi, h⟩ => (pe_mt0 (M i hi) (c i hi) hr hk he ht).run pins s σ H Q I0 h⟩
/-- the same with arguments, and with errors let out -/
theorem pe_mtFA {X : Cx} {k j : Nat} {I : Nat → Prop} {C : Nat → Addr} {m : Str} {ps : List Str} {sp : Nat → Sp} {o e : Expr} {es : List Expr} {ta : TE} {t : TA} {apos pos : Pos} {pl : Sem Bool} (M : ∀ i, I i → Mt X.prog X.w X.K X.mg X.base k (C i) m ps (sp i)) (c : ∀ i, I i → Cls X.K (C i)) (hr : Room j X.A) (hk : k ≤ j) (he : PE X o ta) (ha : PA X (e :: es) t)
    (hst : starEach (e :: es) X.env = (false, eval e X.env) :: starEach es X.env := by rfl) (hpl : (backTo pos (starEach es X.env)).any (·.1) = false := by rfl)
    (ht : eval (.Call (.Attribute o m apos) (e :: es) [] pos) X.env = (do
      let ov ← eval o X.env
      standAt apos.atName
      let (f, first) ← holding [ov] (getMethod ov m pl)
      callWith pos f first (backTo pos (starEach (e :: es) X.env)) (backToKw pos (keywordEach [] X.env))) := by rfl) : PE X (.Call (.Attribute o m apos) (e :: es) [] pos) (fun σ H Q => ∃ i, I i ∧ tMeth (C i) m (sp i) [] E0 ta t σ H Q) :=
  ⟨fun pins s σ H Q I0 ⟨i, hi, h⟩ => (pe_mt (M i hi) (c i hi) hr hk he ha hst hpl ht).run pins s σ H Q I0 h⟩
theorem pe_mtFX {X : Cx} {W : WX} {k j : Nat} {I : Nat → Prop} {C : Nat → Addr} {m : Str} {ps : List Str} {sp : Nat → Sp} {o e : Expr} {es : List Expr} {ta : TE} {t : TA} {apos pos : Pos} {pl : Sem Bool} (M : ∀ i, I i → MtX X.prog X.w X.K X.mg X.base k (C i) m ps (sp i)) (c : ∀ i, I i → Cls X.K (C i)) (hr : Room j X.A) (hk : k ≤ j) (tk : Takes X W) (he : PE X o ta) (ha : PA X (e :: es) t)
    (hst : starEach (e :: es) X.env = (false, eval e X.env) :: starEach es X.env := by rfl) (hpl : (backTo pos (starEach es X.env)).any (·.1) = false := by rfl)
    (ht : eval (.Call (.Attribute o m apos) (e :: es) [] pos) X.env = (do
      let ov ← eval o X.env
      standAt apos.atName
      let (f, first) ← holding [ov] (getMethod ov m pl)
      callWith pos f first (backTo pos (starEach (e :: es) X.env)) (backToKw pos (keywordEach [] X.env))) := by rfl) : PE X (.Call (.Attribute o m apos) (e :: es) [] pos) (fun σ H Q => ∃ i, I i ∧ tMethX (C i) m (sp i) (WE W) ta t σ H Q) :=
  ⟨fun pins s σ H Q I0 ⟨i, hi, h⟩ => (pe_mtX (M i hi) (c i hi) hr hk tk he ha hst hpl ht).run pins s σ H Q I0 h⟩
theorem op_eqF {X : Cx} (K : PySem.W.Frag) (hK : X.K = K) {n : Nat} {C : Nat → Addr} {sp : Nat → Sp} (m : ∀ i, i < 7 → Md X.prog X.w X.K X.mg X.base n (C i) "__eq__" (sp i)) (hr : Room n X.A) : OpR X (compareOp .Eq) (fun x y H Q => ∃ i, i < 7 ∧ rEqO K (C i) (sp i) x y H Q) := by
  intro pins s σ H x y v u Q I rx ry h
  obtain ⟨i, hi, h⟩ := h
  exact op_eqO K hK (m i hi) hr pins s σ H x y v u Q I rx ry h
theorem op_neF {X : Cx} (K : PySem.W.Frag) (hK : X.K = K) {n : Nat} {C : Nat → Addr} {sp : Nat → Sp} (m : ∀ i, i < 7 → Md X.prog X.w X.K X.mg X.base n (C i) "__eq__" (sp i)) (h1 : ∀ i, i < 7 → PySem.W.findIn X.K (.ref (C i)) "__ne__" = some (some (.builtin "object.__ne__"))) (hm : ∀ i, i < 7 → PySem.W.mroIn X.K (C i) (.type "object") = some true) (hr : Room (n + 1) X.A) :
    OpR X (compareOp .NotEq) (fun x y H Q => ∃ i, i < 7 ∧ rNeO K (C i) (sp i) x y H Q) := by
  intro pins s σ H x y v u Q I rx ry h
  obtain ⟨i, hi, h⟩ := h
  exact op_neO K hK (m i hi) (h1 i hi) (hm i hi) hr pins s σ H x y v u Q I rx ry h
structure NF (K : PySem.W.Frag) (C : Nat → Addr) : Prop where
  cc : ∀ i, i < 7 → ∀ j, j < 7 → PySem.W.notFirst K (C i) (.ref (C j)) = true
  cs : ∀ i, i < 7 → PySem.W.notFirst K (C i) (.type "str") = true
  ct : ∀ i, i < 7 → PySem.W.notFirst K (C i) (.type "tuple") = true
section
variable {P : Program} {w : World} {K : PySem.W.Frag} {mg : Str → Option Value} {base : Heap} {C : Nat → Addr} {CP CL : Addr} {ts tw : Addr}
theorem c_eq (T : CTxt K mg C) (N : NF K C) {H : Hp} {z z2 : Addr} {i j : Nat} {f g : Str} {l m : List Row} {x u : List V} {Q : VK} (h : IsC CP C H z i f l x) (h2 : IsC CP C H z2 j g m u) (q : Q (.bl (ceq i f l x j g m u)) H) : ∃ i, i < 7 ∧ rEqO K (C i) (spCEq K CP C i) (.ref z) (.ref z2) H Q := by
  obtain ⟨dx, pl, hz, _⟩ := h.ex
  obtain ⟨dy, pm, hy, _⟩ := h2.ex
  exact ⟨i, h.lt, z, dx, _, rfl, hz, ⟨_, tyC T h2.lt hy, N.cc i h.lt j h2.lt⟩, z, .ref z2, f, l, x, rfl, h, .inl ⟨z2, j, g, m, u, rfl, h2, q⟩⟩
theorem c_ne (T : CTxt K mg C) (N : NF K C) {H : Hp} {z z2 : Addr} {i j : Nat} {f g : Str} {l m : List Row} {x u : List V} {Q : VK} (h : IsC CP C H z i f l x) (h2 : IsC CP C H z2 j g m u) (q : Q (.bl (!ceq i f l x j g m u)) H) : ∃ i, i < 7 ∧ rNeO K (C i) (spCEq K CP C i) (.ref z) (.ref z2) H Q := by
  obtain ⟨dx, pl, hz, _⟩ := h.ex
  obtain ⟨dy, pm, hy, _⟩ := h2.ex
  exact ⟨i, h.lt, z, dx, _, rfl, hz, ⟨_, tyC T h2.lt hy, N.cc i h.lt j h2.lt⟩, z, .ref z2, f, l, x, rfl, h, .inl ⟨z2, j, g, m, u, rfl, h2, _, rfl, q⟩⟩
theorem c_eqS (T : CTxt K mg C) (N : NF K C) {H : Hp} {z : Addr} {i : Nat} {f : Str} {l : List Row} {x : List V} {s : Str} {Q : VK} (h : IsC CP C H z i f l x) (q : Q (.bl false) H) : ∃ i, i < 7 ∧ rEqO K (C i) (spCEq K CP C i) (.ref z) (.str s) H Q := by
  obtain ⟨dx, pl, hz, _⟩ := h.ex
  exact ⟨i, h.lt, z, dx, _, rfl, hz, ⟨_, .base (.str s), N.cs i h.lt⟩, z, .str s, f, l, x, rfl, h, .inr ⟨"str", .base (.str s), T.kS i h.lt, q⟩⟩
theorem c_eqT (T : CTxt K mg C) (N : NF K C) {H : Hp} {z t : Addr} {i : Nat} {f : Str} {l : List Row} {x xs : List V} {Q : VK} (h : IsC CP C H z i f l x) (ht : H t = some (.tup xs)) (q : Q (.bl false) H) : ∃ i, i < 7 ∧ rEqO K (C i) (spCEq K CP C i) (.ref z) (.ref t) H Q := by
  obtain ⟨dx, pl, hz, _⟩ := h.ex
  exact ⟨i, h.lt, z, dx, _, rfl, hz, ⟨_, .base (.tup ht), N.ct i h.lt⟩, z, .ref t, f, l, x, rfl, h, .inr ⟨"tuple", .base (.tup ht), T.kT i h.lt, q⟩⟩
theorem l_ne (T : LTxt K mg CL) {H : Hp} {y y2 : Addr} {a b : Int} {Q : VK} (h : IsL CL H y a b) (h2 : IsL CL H y2 a b) (q : Q (.bl false) H) : rNeO K CL (spLEq K CL) (.ref y) (.ref y2) H Q := by
  obtain ⟨dx, hx⟩ := id h
  obtain ⟨dy, hy⟩ := id h2
  refine ⟨y, dx, _, rfl, hx, ⟨.ref CL, tyL T hy, nf_self⟩, y, a, b, .ref y2, rfl, h, .inl ⟨y2, a, b, rfl, h2, true, ?_, q⟩⟩
  rw [show decide (a = a ∧ b = b) = true from decide_eq_true ⟨rfl, rfl⟩]
/-- how a factor is refused -/
def spLRef (CP : Addr) (C : Nat → Addr) : Sp := fun vs H Q _ => ∃ (z : Addr) (i : Nat) (f : Str) (l : List Row) (x : List V) (v : V), vs = [.ref z, v] ∧ IsC CP C H z i f l x ∧ PV v ∧ factorB v = false ∧ ∀ o H', H' o = some (.lst [v, .bl true]) → Same H H' → Q (.ref o) H'
theorem scRfd : FnScope ["_law_clause_here", "_law_factor", "e"] ["_law_clause_here", "_law_factor"] (defScope sRefused) := ⟨rfl, rfl, rfl, by decide +kernel, rfl, by decide +kernel, by decide +kernel⟩
theorem ok_refd {f EF CR fI : Addr} {fd : FuncData} (F : Fun K "_law_refused" "_law_refused" sRefused f fd) (T : CTxt K mg C) (PT : PTxt K mg CP) (ET : ErT K mg "BadFactor" "factor" EF CR fI) (TM : ∀ i, i < 7 → MtX P w K mg base 6 (C i) "times" ["self", "factor"] (spTim CP C EF i)) : FnOk P w K mg base CX0 7 f fd ["_law_clause_here", "_law_factor"] (spLRef CP C) := by
  refine F.ok scRfd (fun vs H Q E h => ?_) (fun cdv A outer s H vs Q E hr h => ?_)
  · obtain ⟨z, i, f1, l, x, v, rfl, _⟩ := h
    rfl
  · obtain ⟨z, i, f1, l, x, v, rfl, hA, hv, hb, q⟩ := h
    have nd := scRfd.nd
    refine ⟨_, pss_cons (ps_try_as (i := 2) (Wout := fun _ _ _ _ => False) rfl rfl nd rfl rfl ⟨rfl, by decide, .inl ET.gB⟩ takes0
        (fun W pn xe tk _ => pss_one (ps_expr (by exact (pe_mtFX TM T.cl hr (by decide) tk (pv 0) (pa_cons (pv 1) pa_nil)))))
        (fun a oe cls d pn hz hf => pss_one (ps_ret (by exact (pe_lst (pa_cons (pe_xf ET.xf ET.noI hz hf (pv 2)) (pa_cons (pe_callB (call_isX ET.xc hz hf) (by rfl) PT.zIsi bt_isi (pa_cons (pv 2) (pa_cons (pe_glob (v := .ref CR) (by rfl) ET.gR rfl) pa_nil))) pa_nil)))))))
      (pss_one (ps_ret (pe_lst pa_nil))), ?_⟩
    obtain ⟨dx, pl, hz, _⟩ := hA.ex
    refine ⟨i, hA.lt, _, rfl, z, dx, _, rfl, hz, cFl_no (noM i).2.1, v, rfl, z, v, f1, l, x, rfl, hA, hv, .inr ⟨hb, fun d H' nd2 hd s => ⟨true, ET.self, fun _ a0 na0 => ?_, fun q => Bool.noConfusion q⟩⟩⟩
    exact ⟨_, rfl, rfl, rfl, d, _, v, rfl, hd, by simp [List.lookup], _, rfl, rfl, d, _, rfl, hd, .ref CR, .ref CR, true, rfl, (fun _ h => h), ET.kR, by show 2 ≤ sizeLine; decide, fun o no => q o _ upd_same (s.trans (same_lay no))⟩
end
end OR

namespace OR
open PySem PySem.Spec PyProof.Rows L2
/-! ### defs that are only run while no text of a list or a dict is being made: there repr of lists can be told -/
structure FnG (P : Program) (w : World) (K : PySem.W.Frag) (mg : Str → Option Value) (base : Heap) (k : Nat) (f : Addr) (fd : FuncData) (ps : List Str) (sp : Sp) : Prop where
  len : ∀ vs H Q E, sp vs H Q E → vs.length = ps.length
  go : ∀ (A : Around) (outer : List Env) (s : Shared) (H : Hp) (args : Args) (us : List Value) (vs : List V) (Q : VK) (E : XK), A.guards = some [] → Room k A → Env0 P w K mg base A outer s H → BindsTo s fd args (ps.zip us) → Vals vs us → sp vs H Q E →
    codeAny (model P w) A (.call (.ref f) args) (CR CX0 outer P w H s Q E) s
theorem FnG.mono {P : Program} {w : World} {K : PySem.W.Frag} {mg : Str → Option Value} {base : Heap} {j k : Nat} {f : Addr} {fd : FuncData} {ps : List Str} {sp : Sp} (F : FnG P w K mg base j f fd ps sp) (h : j ≤ k) : FnG P w K mg base k f fd ps sp :=
  ⟨F.len, fun A outer s H args us vs Q E hg hr => F.go A outer s H args us vs Q E hg (hr.mono h)⟩
section
variable {P : Program} {w : World} {K : PySem.W.Frag} {mg : Str → Option Value} {base : Heap}
theorem okG {x qual : Str} {st : Stmt} {f : Addr} {fd : FuncData} {N ps : List Str} {k : Nat} {sp : Sp} (F : Fun K x qual st f fd) (S : FnScope N ps (defScope st)) (len : ∀ vs H Q E, sp vs H Q E → vs.length = ps.length)
    (body : ∀ (cdv : Value) (A : Around) (outer : List Env) (s : Shared) (H : Hp) (vs : List V) (Q : VK) (E : XK), (A.deeper (envOfC qual (defScope st) s.heap.objs.size f cdv)).guards = some [] → Room k (A.deeper (envOfC qual (defScope st) s.heap.objs.size f cdv)) → sp vs H Q E →
      ∃ t, PSs (cxOf CX0 P w K mg base N qual (defScope st) f cdv A outer s H E).nox (defBody st) t ∧ t { nx := fun _ H' => Q .non H', rt := Q } (start N vs) H) : FnG P w K mg base (k + 1) f fd ps sp := by
  obtain ⟨oc, od, kV, doc, pm, an, cdv, ct, osl, rfl, lk, hcd⟩ := F.ex
  refine ⟨len, fun A outer s H args us vs Q E hg hr e0 hb r hsp => ?_⟩
  obtain ⟨t, ht, hq⟩ := body cdv A outer s H vs Q E hg (hr.deeper _) hsp
  have keep : ∀ b o, base.get? b = some o → s.heap.get? b = some o := fun b o e => (e0.bs b o e).1
  have hk : ∀ y ∈ ps.zip us, (defScope st).names.lookup y.1 = some .local ∨ ((defScope st).names.lookup y.1 = some .cell ∧ ((cellsFrom (s.heap.objs.size + 1) (defScope st).names []).lookup y.1).isSome = true) := fun ⟨n, v⟩ hy =>
    (S.par n (List.of_mem_zip hy).1).imp id fun q => ⟨q, PySem.W.cellsFrom_some _ _ _ (.inl q)⟩
  refine codeAny_call_function hr.depth (e0.mod.kin.keeps keep _ _ lk) rfl S.co S.gen rfl (PySem.W.codeRec_of (e0.mod.kin.keeps keep) hcd) (hb _ _ _ _ (wpAny_newFunctionEnv_cells S.kind hk fun env he s1 x => ?_))
  subst he
  refine ⟨(e0.mod.nolimit.keeps keep).keeps x.toInCall.keep, codeAny_func (wpAny_mono (ht.nox.run [] s1 (start N vs) H _ (inv_start S hr.hd e0 (len _ _ _ _ hsp) r x) hq) (fun fl s' hs => ?_) fun e s' hs => hs)⟩
  have fin : ∀ {σ' : L2.St} {H' : Hp} {v : V} {u : Value}, Inv (cxOf CX0 P w K mg base N qual (defScope st) f cdv A outer s H E) [] σ' H' s' → RelV v u → Q v H' → CE outer P w H s Q u s' := fun J rv q => ⟨_, _, J.os, J.bare, J.base, J.hok, rv, q⟩
  cases fl with
  | ret u => obtain ⟨v, σ', H', J, rv, q⟩ := hs; exact fin J rv q
  | next => obtain ⟨σ', H', J, q⟩ := hs; exact fin (v := V.non) (u := Value.none) J rfl q
  | brk => obtain ⟨_, _, _, q⟩ := hs; exact q.elim
  | cont => obtain ⟨_, _, _, q⟩ := hs; exact q.elim
end
/-- such a def is called -/
theorem run_g {X : Cx} {k : Nat} {f : Addr} {fd : FuncData} {ps : List Str} {sp : Sp} {pins : List (Addr × Obj)} {σ : L2.St} {H : Hp} {s : Shared} {Q : VK} {us : List Value} {vs : List V} (F : FnG X.prog X.w X.K X.mg X.base k f fd ps sp) (hg : X.A.guards = some []) (hr : Room k X.A) (hb : Binds X.K fd ps [])
    (I : Inv X pins σ H s) (r : Vals vs us) (h : sp vs H Q E0) : wpAny (model X.prog X.w) X.A (call (.ref f) us) (EP X pins σ Q) X.xe s := by
  have hl : (us ++ []).length = ps.length := by rw [List.append_nil, ← r.length]; exact F.len _ _ _ _ h
  have b := hb s us I.kIn hl
  rw [List.append_nil] at b
  refine wpAny_call (codeAny_mono (F.go X.A X.stack s H ⟨us, []⟩ us vs Q E0 hg hr I.env0 b r h) fun r s' hq => ?_)
  rcases r with e | fl
  · exact pass0 pins σ H s e s' I hq
  · cases fl with
    | ret u => exact I.after hq
    | next => exact hq.elim
    | brk => exact hq.elim
    | cont => exact hq.elim
structure ClG (P : Program) (w : World) (K : PySem.W.Frag) (mg : Str → Option Value) (base : Heap) (k : Nat) (x : Str) (ps : List Str) (sp : Sp) : Prop where
  ex : ∃ (f : Addr) (fd : FuncData), FnG P w K mg base k f fd ps sp ∧ mg x = some (.ref f) ∧ PySem.W.keepIn K (.ref f) = true ∧ Binds K fd ps []
theorem pe_clG {X : Cx} {k j : Nat} {x : Str} {ps : List Str} {sp : Sp} {e : Expr} {es : List Expr} {t : TA} {p pos : Pos} (c : ClG X.prog X.w X.K X.mg X.base k x ps sp) (gd : X.A.guards = some []) (hr : Room j X.A) (hk : k ≤ j) (hg : Gl X x) (ha : PA X (e :: es) t)
    (hdb : (x == ("__debug__" : Str)) = false := by decide) (he : starEach (e :: es) X.env = (false, eval e X.env) :: starEach es X.env := by rfl) (hpl : (backTo pos (starEach es X.env)).any (·.1) = false := by rfl) :
    PE X (.Call (.Name x p) (e :: es) [] pos) (fun σ H Q => t σ H fun vs H1 => sp vs H1 Q E0) := by
  obtain ⟨f, fd, F, hm, hkp, hb⟩ := c.ex
  refine ⟨fun pins s σ H Q I h => wpAny_Call_Name_kw (ld_glob I hg hm ?_ hdb)⟩
  exact PySem.W.callWith_K (h₀ := X.base) I.ok.mod.kin hkp (thn (ha.run pos pins s σ H _ I h) fun us s1 ⟨vs, H1, I1, r, q⟩ => ⟨I1.kIn, run_g F gd (hr.mono hk) hb I1 r q⟩) he hpl
/-- repr of a list or a tuple of plain data -/
theorem call_reprD {X : Cx} (K : PySem.W.Frag) (hK : X.K = K) (gd : X.A.guards = some []) (hu : X.A.units + 64 < cLine) : CallR X (.builtin "repr") (fun xs H Q => ∃ a d, xs = [.ref a] ∧ Dp K H (.ref a) d ∧ d.showable = true ∧ d.hasDict = false ∧ d.depth ≤ 60 ∧ d.shown.length ≤ sizeLine ∧ Q (.str d.shown) H) := by
  subst hK
  intro pins s σ H xs us Q I r h
  obtain ⟨a, d, rfl, hd, h1, h2, h3, h4, q⟩ := h
  obtain ⟨u, rfl, ru⟩ := r.one
  obtain ⟨as, rd⟩ := Dp.reads I d _ _ hd ru
  cases (show u = Value.ref a from ru)
  exact repr_of_reads' rd h1 (fun z => by rw [h2] at z; cases z) gd (by omega) (fun _ _ e => e) (fun h' t tk hk => ⟨.str d.shown, H, I.kept (t' := tk) hk, ⟨t, rfl⟩, q⟩) h4
/-! ### the law's call -/
section
variable {P : Program} {w : World} {K : PySem.W.Frag} {mg mb : Str → Option Value}
/-- the heap without what is tracked is a base; the call from it -/
theorem from_base {k : Nat} {fa a : Addr} {fd : FuncData} {x : Str} {sp : Sp} {s₁ : Shared} {us : List Value} {H : Hp}
    (KX : K.In s₁.heap) (hns : s₁.heap.Ns mainGlobals mg) (hb : s₁.heap.Ns builtinsNs mb) (hbb : ∀ x : Str, x ≠ "__name__" → mb x = bootBuiltins x) (hlim : s₁.heap.NoLimit) (hg : s₁.gens = #[])
    (ha : s₁.heap.get? a = some { cls := .type "list", data := .seq us.toArray }) (hr : Room k callerA)
    (F : ∀ base : Heap, K.In base → base.Ns mainGlobals mg → FnG P w K mg base k fa fd [x] sp) (hbind : ∀ (s : Shared) (u : Value), BindsTo s fd ⟨[u], []⟩ [(x, u)])
    (hsp : sp [.ref a] H (fun v _ => v = .bl true) fun _ _ _ => False) (hO : Only H) (hok : HOk P w H s₁.heap) (only : ∀ b, H b ≠ none → b = a) (out : H a ≠ none → K.lookup a = none) :
    codeAny (model P w) callerA (.call (.ref fa) ⟨[.ref a], []⟩) (fun r s' => r = .ok (.ret (.bool true)) ∧ OldK s₁.heap s'.heap ∧ s'.os = s₁.os ∧ AllBare s'.gens) s₁ := by
  have free : ∀ {b : Addr}, b ≠ a → H b = none := fun {b} n => Classical.byContradiction fun c => n (only b c)
  have dicts : ∀ {b : Addr} {m : Str → Option Value}, s₁.heap.Ns b m → (hidT s₁.heap H).Ns b m := fun {b m} ⟨o, es, ep, e, d, r⟩ => by
    refine ⟨o, es, ep, hidT_get e (free fun z => ?_), d, r⟩
    subst z
    rw [ha] at e
    cases e
    cases (show Data.seq us.toArray _ = Data.dict es ep from d)
  have hK : K.In (hidT s₁.heap H) := fun b o e => hidT_get (KX b o e) (Classical.byContradiction fun c => by
    cases only b c
    rw [out c] at e
    cases e)
  obtain ⟨mc, l1, l2⟩ := hlim
  have e0 : Env0 P w K mg (hidT s₁.heap H) callerA [] s₁ H := ⟨rfl, ⟨hK, dicts hns, ⟨mb, dicts hb, hbb⟩, ⟨mc, dicts l1, l2⟩⟩, fun b o e => of_hidT e, Nat.le_of_eq (hidT_size _ _), trivial, (fun b hb => by cases hb), hok, .of_eq hg⟩
  refine codeAny_mono ((F _ hK (dicts hns)).go callerA [] s₁ H ⟨[.ref a], []⟩ [.ref a] [.ref a] _ _ rfl hr e0 (hbind s₁ (.ref a)) (.cons rfl .nil) hsp) fun r s' h => ?_
  rcases r with e | fl
  · exact (show False from h).elim
  cases fl with
  | next => exact h.elim
  | brk => exact h.elim
  | cont => exact h.elim
  | ret u =>
    obtain ⟨v, H', os, bare, un, hok', rv, q⟩ := h
    cases (show v = .bl true from q)
    cases (show u = Value.bool true from rv)
    refine ⟨rfl, OldK.of_keep fun b o e => ?_, os, bare⟩
    rcases hO b with z | ⟨ob, xs, z⟩
    · exact un.keep b o e z (fun z => by cases z) (by simp)
    · obtain ⟨e1, _⟩ := hok b _ z
      obtain ⟨e2, _⟩ := hok' b _ (un.frzs b ob _ z)
      rw [e] at e1
      cases e1
      exact e2
theorem law_g {k : Nat} {fa a : Addr} {fd : FuncData} {x : Str} {sp : Sp} {s₁ : Shared} {us : List Value} {ns : List Int}
    (KX : K.In s₁.heap) (hns : s₁.heap.Ns mainGlobals mg) (hb : s₁.heap.Ns builtinsNs mb) (hbb : ∀ x : Str, x ≠ "__name__" → mb x = bootBuiltins x) (hlim : s₁.heap.NoLimit) (hg : s₁.gens = #[])
    (ha : s₁.heap.get? a = some { cls := .type "list", data := .seq us.toArray }) (hi : IntsAre us ns) (hl : ns.length ≤ sizeLine) (hr : Room k callerA)
    (F : ∀ base : Heap, K.In base → base.Ns mainGlobals mg → FnG P w K mg base k fa fd [x] sp) (hbind : ∀ (s : Shared) (u : Value), BindsTo s fd ⟨[u], []⟩ [(x, u)])
    (hsp : ∀ H : Hp, Only H → SqL K H a (ns.map V.int) → sp [.ref a] H (fun v _ => v = .bl true) fun _ _ _ => False) :
    codeAny (model P w) callerA (.call (.ref fa) ⟨[.ref a], []⟩) (fun r s' => r = .ok (.ret (.bool true)) ∧ OldK s₁.heap s'.heap ∧ s'.os = s₁.os ∧ AllBare s'.gens) s₁ := by
  have rv := vals_ints hi
  have ln : us.length ≤ sizeLine := by rw [hi.length]; exact hl
  by_cases hk : K.lookup a = none
  · -- the script is tracked, frozen
    generalize eH : (fun b => if b = a then some (.frz { cls := .type "list", data := .seq us.toArray } (.lst (ns.map V.int))) else none : Hp) = H
    have at_a : H a = some (.frz { cls := .type "list", data := .seq us.toArray } (.lst (ns.map V.int))) := by rw [← eH]; exact if_pos rfl
    have off : ∀ {b}, b ≠ a → H b = none := fun {b} n => by rw [← eH]; exact if_neg n
    have hO : Only H := fun b => if h : b = a then .inr ⟨_, _, h ▸ at_a⟩ else .inl (off h)
    refine from_base KX hns hb hbb hlim hg ha hr F hbind (hsp H hO (.inl (.inr ⟨_, at_a⟩))) hO (fun b u z => ?_) (fun b c => Classical.byContradiction fun n => c (off n)) fun _ => hk
    by_cases h : b = a
    · subst h
      rw [at_a] at z
      cases z
      exact ⟨ha, by rw [List.length_map]; exact hl, us, _, rv, ha⟩
    · rw [off h] at z
      cases z
  · -- the script is an object of the module
    obtain ⟨o, ho⟩ := Option.ne_none_iff_exists'.mp hk
    have e := KX a o ho
    rw [ha] at e
    cases e
    have hO : Only (fun _ => none) := fun _ => .inl rfl
    exact from_base KX hns hb hbb hlim hg ha hr F hbind (hsp _ hO (.inr ⟨_, us.toArray, _, ho, rfl, rfl, rfl, by rw [List.size_toArray]; exact ln, by simpa using rv⟩)) hO (fun b u z => by cases (show (none : Option HO) = some u from z)) (fun b c => absurd rfl c) fun c => absurd rfl c
end
theorem walk_g {l : PySem.W.OpenLaw} {n k : Nat} {q : Program} {loose : List Str} {XP : (Str → Option Value) → Heap → Prop} {YP : World → Heap → Prop} {d : DefRec} {K : Params → PySem.W.Frag} {sp : World → Sp} {x : Str}
    (hn : l.most = some n) (hn2 : n ≤ sizeLine) (hdf : d.params.defaults = []) (hr : Room k callerA) (hY : ∀ (w : World) (h : Heap), YP w h → (K w.params).In h)
    (F : ∀ (w : World) (mg : Str → Option Value) (fa : Addr) (h : Heap), (K w.params).In h → h.Ns mainGlobals mg → XP mg h → mg d.name = some (.ref fa) →
      ∃ fd : FuncData, (∀ (s : Shared) (u : Value), BindsTo s fd ⟨[u], []⟩ [(x, u)]) ∧ ∀ base : Heap, (K w.params).In base → base.Ns mainGlobals mg → FnG l.prog w (K w.params) mg base k fa fd [x] (sp w))
    (hsp : ∀ (w : World) (H : Hp) (a : Addr) (ns : List Int), ns.length ≤ n → Only H → SqL (K w.params) H a (ns.map V.int) → sp w [.ref a] H (fun v _ => v = .bl true) fun _ _ _ => False) : PySem.W.WalkO q loose XP YP l.row.toRowW d [] (fun f vs => PySem.call f vs) := by
  refine Att.attach_call hn hdf fun w s₀ s₁ mg mb fa o pm cd doc a vs ns G Y ho hd hcd hmg hobj hints hlen hg => ?_
  have KX := hY w _ Y
  obtain ⟨fd, hb, hF⟩ := F w mg fa _ KX G.T.g G.X hmg
  exact law_g KX G.T.g G.T.b G.T.builtins G.T.nolimit hg hobj hints (Nat.le_trans hlen hn2) hr hF hb fun H hO hS => hsp w H a ns hlen hO hS
end OR

namespace OR
open PySem PySem.Spec PyProof.Rows L2
open TL (tl numL)
/-! ### what is turned twice -/
theorem flp2_sign {s : Str} (h : isSign s) : flp (flp s) = s := by
  rcases h with e | e | e <;> subst e <;> decide +kernel
theorem flp2_way {s : Str} (h : isWay s) : flp (flp s) = s := by
  rcases h with e | e <;> subst e <;> decide +kernel
theorem wf_neg {i : Nat} {f : Str} {x : List V} (hi : i < 7) (h : WF i f x) : WF i f (negX i x) := by
  rcases kinds7 hi with e | e | e | e | e | e | e <;> subst e
  · exact h
  · exact h
  · exact h
  · exact h
  · obtain ⟨s, a, b, rfl, hs, na, nb⟩ := h; exact ⟨_, _, _, rfl, flp_sign hs, num_neg na, num_neg nb⟩
  · obtain ⟨s, g, a, b, rfl, hs, hg, ng, na, nb⟩ := h; exact ⟨_, _, _, _, rfl, flp_sign hs, hg, ng, num_neg na, num_neg nb⟩
  · obtain ⟨s, b, rfl, hs, nb⟩ := h; exact ⟨_, _, rfl, flp_sign hs, num_neg nb⟩
theorem neg_neg {i : Nat} {f : Str} {x : List V} (hi : i < 7) (h : WF i f x) : negX i (negX i x) = x := by
  rcases kinds7 hi with e | e | e | e | e | e | e <;> subst e
  · rfl
  · rfl
  · rfl
  · rfl
  · obtain ⟨s, a, b, rfl, hs, _⟩ := h
    show [V.str (flp (flp s)), .int (- -a), .int (- -b)] = _
    rw [flp2_sign hs, Int.neg_neg, Int.neg_neg]
  · obtain ⟨s, g, a, b, rfl, hs, _⟩ := h
    show [V.str (flp (flp s)), .str g, .int (- -a), .int (- -b)] = _
    rw [flp2_sign hs, Int.neg_neg, Int.neg_neg]
  · obtain ⟨s, b, rfl, hs, _⟩ := h
    show [V.str (flp (flp s)), .int (- -b)] = _
    rw [flp2_sign hs, Int.neg_neg]
theorem tim_one {i : Nat} {f : Str} {x : List V} (hi : i < 7) (h : WF i f x) : timX 1 i x = x := by
  rcases kinds7 hi with e | e | e | e | e | e | e <;> subst e
  · rfl
  · rfl
  · rfl
  · rfl
  · obtain ⟨s, a, b, rfl, _⟩ := h
    show [V.str s, .int (a * 1), .int (b * 1)] = _
    rw [Int.mul_one, Int.mul_one]
  · obtain ⟨s, g, a, b, rfl, _⟩ := h
    show [V.str s, .str g, .int (a * 1), .int (b * 1)] = _
    rw [Int.mul_one, Int.mul_one]
  · obtain ⟨s, b, rfl, _⟩ := h
    show [V.str s, .int (b * 1)] = _
    rw [Int.mul_one]
theorem mov_zero {i : Nat} {f : Str} {x : List V} (hi : i < 7) (h : WF i f x) : movX 0 i x = x := by
  rcases kinds7 hi with e | e | e | e | e | e | e <;> subst e
  · rfl
  · rfl
  · rfl
  · rfl
  · obtain ⟨s, a, b, rfl, _⟩ := h
    show [V.str s, .int a, .int (b - a * 0)] = _
    rw [Int.mul_zero, Int.sub_zero]
  · obtain ⟨s, g, a, b, rfl, _⟩ := h
    show [V.str s, .str g, .int a, .int (b - a * 0)] = _
    rw [Int.mul_zero, Int.sub_zero]
  · rfl
theorem mir_mir {i : Nat} {f : Str} {x : List V} (n : Int) (hi : i < 7) (h : WF i f x) : mirX n i (mirX n i x) = x := by
  rcases kinds7 hi with e | e | e | e | e | e | e <;> subst e
  · rfl
  · rfl
  · rfl
  · obtain ⟨s, rfl, hs⟩ := h
    show [V.str (flp (flp s))] = _
    rw [flp2_way hs]
  · obtain ⟨s, a, b, rfl, _⟩ := h
    show [V.str s, .int (- -a), .int (b + a * n + -a * n)] = _
    rw [Int.neg_neg, Int.neg_mul, show b + a * n + -(a * n) = b by omega]
  · obtain ⟨s, g, a, b, rfl, _⟩ := h
    show [V.str s, .str g, .int (- -a), .int (b + a * n + -a * n)] = _
    rw [Int.neg_neg, Int.neg_mul, show b + a * n + -(a * n) = b by omega]
  · obtain ⟨s, b, rfl, hs, _⟩ := h
    show [V.str (flp (flp s)), .int (- -b)] = _
    rw [flp2_sign hs, Int.neg_neg]
theorem num_mul {a k : Int} {p q : Nat} (ha : a.natAbs ≤ p) (hk : k.natAbs ≤ q) (h : p * q < 10 ^ 40) : Num (a * k) := by
  unfold Num
  rw [Int.natAbs_mul]
  exact Nat.lt_of_le_of_lt (Nat.mul_le_mul ha hk) h
theorem num_lin {a b d : Int} (ha : a.natAbs ≤ 10 ^ 9) (hb : b.natAbs < 10 ^ 31) (hd : d.natAbs ≤ 10 ^ 30) : Num (b - a * d) ∧ Num (b + a * d) := by
  have h : (a * d).natAbs ≤ 10 ^ 9 * 10 ^ 30 := by rw [Int.natAbs_mul]; exact Nat.mul_le_mul ha hd
  unfold Num
  generalize a * d = c at h
  constructor <;> omega
theorem wf_tim {i : Nat} {f : Str} {x : List V} {k : Int} (hi : i < 7) (h : WF i f x) (l : Slp i x) (hk : k.natAbs ≤ 10 ^ 9) : WF i f (timX k i x) := by
  rcases kinds7 hi with e | e | e | e | e | e | e <;> subst e
  · exact h
  · exact h
  · exact h
  · exact h
  · obtain ⟨s, a, b, rfl, hs, na, nb⟩ := h
    obtain ⟨s2, a2, b2, e, l1, l2⟩ := l
    cases e
    exact ⟨_, _, _, rfl, hs, num_mul l1 hk (by decide), num_mul (p := 10 ^ 31 - 1) (by omega) hk (by decide)⟩
  · obtain ⟨s, g, a, b, rfl, hs, hg, ng, na, nb⟩ := h
    obtain ⟨s2, g2, a2, b2, e, l1, l2⟩ := l
    cases e
    exact ⟨_, _, _, _, rfl, hs, hg, ng, num_mul l1 hk (by decide), num_mul (p := 10 ^ 31 - 1) (by omega) hk (by decide)⟩
  · obtain ⟨s, b, rfl, hs, nb⟩ := h
    obtain ⟨s2, b2, e, l2⟩ := l
    cases e
    exact ⟨_, _, rfl, hs, num_mul (p := 10 ^ 31 - 1) (by omega) hk (by decide)⟩
theorem wf_mov {i : Nat} {f : Str} {x : List V} {d : Int} (hi : i < 7) (h : WF i f x) (l : Slp i x) (hd : d.natAbs ≤ 10 ^ 30) : WF i f (movX d i x) := by
  rcases kinds7 hi with e | e | e | e | e | e | e <;> subst e
  · exact h
  · exact h
  · exact h
  · exact h
  · obtain ⟨s, a, b, rfl, hs, na, nb⟩ := h
    obtain ⟨s2, a2, b2, e, l1, l2⟩ := l
    cases e
    exact ⟨_, _, _, rfl, hs, na, (num_lin l1 l2 hd).1⟩
  · obtain ⟨s, g, a, b, rfl, hs, hg, ng, na, nb⟩ := h
    obtain ⟨s2, g2, a2, b2, e, l1, l2⟩ := l
    cases e
    exact ⟨_, _, _, _, rfl, hs, hg, ng, na, (num_lin l1 l2 hd).1⟩
  · exact h
theorem wf_mir {i : Nat} {f : Str} {x : List V} {d : Int} (hi : i < 7) (h : WF i f x) (l : Slp i x) (hd : d.natAbs ≤ 10 ^ 30) : WF i f (mirX d i x) := by
  rcases kinds7 hi with e | e | e | e | e | e | e <;> subst e
  · exact h
  · exact h
  · exact h
  · obtain ⟨s, rfl, hs⟩ := h
    exact ⟨_, rfl, flp_way hs⟩
  · obtain ⟨s, a, b, rfl, hs, na, nb⟩ := h
    obtain ⟨s2, a2, b2, e, l1, l2⟩ := l
    cases e
    exact ⟨_, _, _, rfl, hs, num_neg na, (num_lin l1 l2 hd).2⟩
  · obtain ⟨s, g, a, b, rfl, hs, hg, ng, na, nb⟩ := h
    obtain ⟨s2, g2, a2, b2, e, l1, l2⟩ := l
    cases e
    exact ⟨_, _, _, _, rfl, hs, hg, ng, num_neg na, (num_lin l1 l2 hd).2⟩
  · obtain ⟨s, b, rfl, hs, nb⟩ := h
    exact ⟨_, _, rfl, flp_sign hs, num_neg nb⟩
theorem mem_ok {l : List Row} {t : Int} (h : ∀ r ∈ l, okRow r = true) (m : mem l t) : 0 ≤ t ∧ t ≤ lastP := by
  obtain ⟨r, hr, h1, h2⟩ := m
  have o := okRow_iff (h r hr)
  omega
theorem rows_mov0 {l n : List Row} (hl : Nf l) (hn : Nf n) (ok : ∀ r ∈ l, okRow r = true) (me : ∀ t, mem n t ↔ (mem l (t - 0) ∧ 0 ≤ t ∧ t ≤ lastP)) : n = l :=
  Nf.unique hn hl fun t => by
    rw [me t, Int.sub_zero]
    exact ⟨fun h => h.1, fun h => ⟨h, mem_ok ok h⟩⟩
theorem rows_mir2 {l n m : List Row} (hl : Nf l) (hm : Nf m) (ok : ∀ r ∈ l, okRow r = true) (me : ∀ t, mem n t ↔ (mem l (lastP - t) ∧ 0 ≤ t ∧ t ≤ lastP)) (me2 : ∀ t, mem m t ↔ (mem n (lastP - t) ∧ 0 ≤ t ∧ t ≤ lastP)) : m = l :=
  Nf.unique hm hl fun t => by
    rw [me2 t, me (lastP - t), show lastP - (lastP - t) = t by omega]
    exact ⟨fun h => h.1.1, fun h => by have := mem_ok ok h; exact ⟨⟨h, by omega, by omega⟩, this⟩⟩
/-! ### values that are no factors -/
def odds : List V := [.int 0, .int (-1), .int (-7), .bl true, .bl false, .non, .str "2", .str "", .str "one"]
structure OddOk (v : V) (d : PyData) : Prop where
  pv : PV v
  fb : factorB v = false
  dp : ∀ (K : PySem.W.Frag) (H : Hp), Dp K H v d
  sh : (PyData.list [d, .bool true]).showable = true
  nd : (PyData.list [d, .bool true]).hasDict = false
  de : (PyData.list [d, .bool true]).depth ≤ 60
  ln : (PyData.list [d, .bool true]).shown.length ≤ sizeLine
theorem odd_ok {v : V} (h : v ∈ odds) : ∃ d, OddOk v d := by
  unfold odds at h
  simp only [List.mem_cons, List.not_mem_nil, or_false] at h
  rcases h with e | e | e | e | e | e | e | e | e <;> subst e
  · exact ⟨.int 0, pv_int _, by decide, fun _ _ => .int _, by decide +kernel, by decide +kernel, by decide +kernel, by decide +kernel⟩
  · exact ⟨.int (-1), pv_int _, by decide, fun _ _ => .int _, by decide +kernel, by decide +kernel, by decide +kernel, by decide +kernel⟩
  · exact ⟨.int (-7), pv_int _, by decide, fun _ _ => .int _, by decide +kernel, by decide +kernel, by decide +kernel, by decide +kernel⟩
  · exact ⟨.bool true, pv_bl _, rfl, fun _ _ => .bl _, by decide +kernel, by decide +kernel, by decide +kernel, by decide +kernel⟩
  · exact ⟨.bool false, pv_bl _, rfl, fun _ _ => .bl _, by decide +kernel, by decide +kernel, by decide +kernel, by decide +kernel⟩
  · exact ⟨.none, pv_non, rfl, fun _ _ => .non, by decide +kernel, by decide +kernel, by decide +kernel, by decide +kernel⟩
  · exact ⟨.str "2", pv_str (by decide +kernel) (by intro c hc; revert c; decide +kernel), rfl, fun _ _ => .str _, by decide +kernel, by decide +kernel, by decide +kernel, by decide +kernel⟩
  · exact ⟨.str "", pv_str (by decide +kernel) (by intro c hc; revert c; decide +kernel), rfl, fun _ _ => .str _, by decide +kernel, by decide +kernel, by decide +kernel, by decide +kernel⟩
  · exact ⟨.str "one", pv_str (by decide +kernel) (by intro c hc; revert c; decide +kernel), rfl, fun _ _ => .str _, by decide +kernel, by decide +kernel, by decide +kernel, by decide +kernel⟩
end OR

namespace OR
open PySem PySem.Spec PyProof.Rows L2
open TL (tl numL)
theorem bt_repr : bootBuiltins ("repr" : Str) = some (.builtin "repr") := by decide +kernel
def spLaw (K : PySem.W.Frag) : Sp := fun vs H Q _ => ∃ (a : Addr) (ns : List Int), vs = [.ref a] ∧ SqL K H a (ns.map V.int) ∧ ns.length ≤ 63 ∧ ∀ H', Q (.bl true) H'
theorem IsP.frm {C : Addr} {H H' : Hp} {x p : Addr} {n : Nat} {l : List Row} (h : IsP C H x l) (fr : Frm p H H') (P : Pen H p n) : IsP C H' x l := by
  obtain ⟨nf, dx, t, f, b, M, h1, h2, h3, h4, h5, h6, h7⟩ := h
  have h3' := h3.frm fr P
  obtain ⟨kvs, hp⟩ := P.dict
  have go : ∀ (a : Addr) (o : HO), H a = some o → o ≠ .dK kvs → H' a = some o := fun a o e no => fr a o e (ne_of e hp no)
  exact ⟨nf, dx, t, f, b, M, go _ _ h1 (by intro z; cases z), go _ _ h2 (by intro z; cases z), h3', h4, go _ _ h5 (by intro z; cases z), go _ _ h6 (by intro z; cases z), h7⟩
theorem IsC.frm {CP : Addr} {C : Nat → Addr} {H H' : Hp} {z p : Addr} {n : Nat} {i : Nat} {f : Str} {l : List Row} {x : List V} (h : IsC CP C H z i f l x) (fr : Frm p H H') (P : Pen H p n) : IsC CP C H' z i f l x := by
  obtain ⟨⟨dx, pl, e, hp⟩, a, b, c, d, g⟩ := h
  obtain ⟨kvs, hpp⟩ := P.dict
  exact ⟨⟨dx, pl, fr _ _ e (ne_of e hpp (by intro z; cases z)), hp.frm fr P⟩, a, b, c, d, g⟩
theorem IsC.nf {CP : Addr} {C : Nat → Addr} {H : Hp} {z : Addr} {i : Nat} {f : Str} {l : List Row} {x : List V} (h : IsC CP C H z i f l x) : Nf l := by
  obtain ⟨dx, pl, _, hp⟩ := h.ex
  exact hp.nf
theorem factor_of {v : V} {r : Int} (h0 : 0 ≤ r) (h1 : r < 99) (h : v ∈ [V.int 1, .int 2, .int 3, .int (10 ^ 9), .int (1 + r)]) : ∃ k, v = .int k ∧ 1 ≤ k ∧ k.natAbs ≤ 10 ^ 9 := by
  simp only [List.mem_cons, List.not_mem_nil, or_false] at h
  rcases h with e | e | e | e | e <;> subst e <;> exact ⟨_, rfl, by omega, by omega⟩
theorem by_of {v : V} {b : Int} (h0 : -(10 ^ 30) < b) (h1 : b < 10 ^ 30) (h : v ∈ [V.int 0, .int 1, .int (-1), .int b, .int (-(10 ^ 30))]) : ∃ d, v = .int d ∧ d.natAbs ≤ 10 ^ 30 := by
  simp only [List.mem_cons, List.not_mem_nil, or_false] at h
  rcases h with e | e | e | e | e <;> subst e <;> exact ⟨_, rfl, by omega⟩
theorem last_of {v : V} {s : Int} (h0 : placeB s = true) (h : v ∈ [V.int s, .int lastP]) : ∃ n, v = .int n ∧ 0 ≤ n ∧ n ≤ lastP := by
  have hp := place_iff h0
  simp only [List.mem_cons, List.not_mem_nil, or_false] at h
  rcases h with e | e <;> subst e
  · exact ⟨_, rfl, hp⟩
  · exact ⟨_, rfl, by decide, Int.le_refl _⟩
theorem lastP_abs {n : Int} (h0 : 0 ≤ n) (h : n ≤ lastP) : n.natAbs ≤ 10 ^ 30 := by
  have : lastP = 10 ^ 30 := rfl
  omega
theorem le40 {d : Int} (h : d.natAbs ≤ 10 ^ 30) : d.natAbs < 10 ^ 40 := Nat.lt_of_le_of_lt h (by decide)
theorem le40' {d : Int} (h : d.natAbs ≤ 10 ^ 9) : d.natAbs < 10 ^ 40 := Nat.lt_of_le_of_lt h (by decide)
theorem dp2 {K : PySem.W.Frag} {H : Hp} {o : Addr} {v : V} {d : PyData} (h : H o = some (.lst [v, .bl true])) (k : Dp K H v d) : Dp K H (.ref o) (.list [d, .bool true]) := .lst (.inl (.inl h)) (.cons k (.cons (.bl true) .nil))
section
variable {P : Program} {w : World} {K : PySem.W.Frag} {mg : Str → Option Value} {base : Heap} {C : Nat → Addr} {CP CL : Addr} {ts tw : Addr}
theorem c_neT (T : CTxt K mg C) (N : NF K C) {H : Hp} {z z2 : Addr} {i : Nat} {f : Str} {l m : List Row} {x u : List V} {Q : VK} (h : IsC CP C H z i f l x) (h2 : IsC CP C H z2 i f m u) (e : l = m) (e2 : x = u) (q : Q (.bl false) H) : ∃ i, i < 7 ∧ rNeO K (C i) (spCEq K CP C i) (.ref z) (.ref z2) H Q := by
  subst e e2
  refine c_ne T N h h2 ?_
  rw [show ceq i f l x i f l x = true from decide_eq_true ⟨rfl, rfl, rfl, rfl⟩]
  exact q
theorem scLaw : FnScope ["_law_script", "_law_pen_here", "_law_kind", "_law_spec_here", "_law_clause_here", "_law_factor", "_law_by", "_law_last", "_law_odd"] ["_law_script"] (defScope sLaw) := ⟨rfl, rfl, rfl, by decide +kernel, rfl, by decide +kernel, by decide +kernel⟩
theorem ok_law {f EF : Addr} {fd : FuncData} (F : Fun K "law" "law" sLaw f fd) (zR : mg "repr" = none) (T : CTxt K mg C) (NFK : NF K C)
    (NG : ∀ i, i < 7 → Mt P w K mg base 6 (C i) "negated" ["self"] (spNeg CP C i)) (TM : ∀ i, i < 7 → MtX P w K mg base 6 (C i) "times" ["self", "factor"] (spTim CP C EF i))
    (MV : ∀ i, i < 7 → Mt P w K mg base 7 (C i) "moved" ["self", "by"] (spMov CP C i)) (MR : ∀ i, i < 7 → Mt P w K mg base 7 (C i) "mirrored" ["self", "last"] (spMir CP C i)) (EQ : ∀ i, i < 7 → Md P w K mg base 2 (C i) "__eq__" (spCEq K CP C i))
    (N : Cl P w K mg base 1 "_law_pen" ["_law_script"] (spPen K)) (SH : Cl P w K mg base 2 "_law_shuffled" ["_law_pen_here", "_law_items"] (spShufS K)) (WD : Cl P w K mg base 3 "_law_words" ["_law_pen_here", "_law_many"] spWords)
    (SPC : Cl P w K mg base 5 "_law_spec" ["_law_pen_here", "_law_words_here", "_law_rows", "_law_kind"] (spSpec K)) (DR : Cl P w K mg base 3 "_law_drawn" ["_law_pen_here", "_law_most"] spDrawn) (MG : Cl P w K mg base 1 "_law_merged" ["_law_rows"] (spMerged K))
    (CLA : Cl P w K mg base 6 "_law_clause" ["_law_spec_here"] (spClause CP C)) (PAR : Cl P w K mg base 1 "_law_parts" ["_law_clause_here"] (spParts CP C))
    (D : Cl P w K mg base 1 "_law_draw" ["_law_pen_here", "_law_many"] spDraw) (PI : Cl P w K mg base 2 "_law_pick" ["_law_pen_here", "_law_items"] (spPick K)) (WH : Cl P w K mg base 3 "_law_whole" ["_law_pen_here"] spWhole) (SPO : Cl P w K mg base 2 "_law_spot" ["_law_pen_here"] spSpot)
    (LN : Cl P w K mg base 2 "_law_negated" ["_law_spec_here"] spLNeg) (LT : Cl P w K mg base 2 "_law_times" ["_law_spec_here", "_law_factor"] spLTim)
    (LMo : Cl P w K mg base 2 "_law_moved" ["_law_spec_here", "_law_by"] (spLTurn (fun _ => True) movX fun z d => z - d)) (LMi : Cl P w K mg base 2 "_law_mirrored" ["_law_spec_here", "_law_last"] (spLTurn (fun d => d ≤ lastP) mirX fun z d => d - z))
    (RF : Cl P w K mg base 7 "_law_refused" ["_law_clause_here", "_law_factor"] (spLRef CP C)) : FnG P w K mg base 8 f fd ["_law_script"] (spLaw K) := by
  refine okG F scLaw (fun vs H Q E h => ?_) (fun cdv A outer s H vs Q E gd hr h => ?_)
  · obtain ⟨a, ns, rfl, _⟩ := h
    rfl
  · obtain ⟨sc, ns, rfl, hS, hlen, q⟩ := h
    have nd := scLaw.nd
    have hu64 : (A.deeper (envOfC "law" (defScope sLaw) s.heap.objs.size f cdv)).units + 64 < cLine := hr.units
    have hr2 : Room 2 _ := hr.mono (by decide)
    have hr3 : Room 3 _ := hr.mono (by decide)
    refine ⟨_, pss_cons (ps_set (i := 1) nd rfl (.inl rfl) (pe_cl N hr (by decide) (by rfl) (pa_cons (pv 0) pa_nil)))
      (pss_cons (ps_for PassesOwn.never rfl (pi_list (pe_cl SH hr (by decide) (by rfl) (pa_cons (pv 1) (pa_cons (pe_lst (pa_cons pe_str (pa_cons pe_str (pa_cons pe_str (pa_cons pe_str (pa_cons pe_str (pa_cons pe_str (pa_cons pe_str pa_nil)))))))) pa_nil)))) (pg_name (i := 2) nd rfl (.inl rfl))
          (pss_cons (ps_set (i := 3) nd rfl (.inl rfl) (pe_cl SPC hr (by decide) (by rfl) (pa_cons (pv 1) (pa_cons (pe_cl WD hr (by decide) (by rfl) (pa_cons (pv 1) (pa_cons pe_int pa_nil))) (pa_cons (pe_cl MG hr (by decide) (by rfl) (pa_cons (pe_cl DR hr (by decide) (by rfl) (pa_cons (pv 1) (pa_cons pe_int pa_nil))) pa_nil)) (pa_cons (pv 2) pa_nil))))))
          (pss_cons (ps_par (i := 4) (j := 5) rfl nd rfl rfl (by decide) rfl rfl (pa_cons (pe_cl CLA hr (by decide) (by rfl) (pa_cons (pv 3) pa_nil)) (pa_cons (pe_cl PI hr (by decide) (by rfl) (pa_cons (pv 1) (pa_cons (pe_lst (pa_cons pe_int (pa_cons pe_int (pa_cons pe_int (pa_cons (pe_op op_pow pe_int pe_int) (pa_cons (pe_op op_add pe_int (pe_cl D hr (by decide) (by rfl) (pa_cons (pv 1) (pa_cons pe_int pa_nil)))) pa_nil)))))) pa_nil))) pa_nil)) rfl)
          (pss_cons (ps_par (i := 6) (j := 7) rfl nd rfl rfl (by decide) rfl rfl (pa_cons (pe_cl PI hr (by decide) (by rfl) (pa_cons (pv 1) (pa_cons (pe_lst (pa_cons pe_int (pa_cons pe_int (pa_cons (pe_un un_neg pe_int) (pa_cons (pe_cl WH hr (by decide) (by rfl) (pa_cons (pv 1) pa_nil)) (pa_cons (pe_un un_neg (pe_op op_pow pe_int pe_int)) pa_nil)))))) pa_nil))) (pa_cons (pe_cl PI hr (by decide) (by rfl) (pa_cons (pv 1) (pa_cons (pe_lst (pa_cons (pe_cl SPO hr (by decide) (by rfl) (pa_cons (pv 1) pa_nil)) (pa_cons (pe_op op_pow pe_int pe_int) pa_nil))) pa_nil))) pa_nil)) rfl)
          (Evl.pss_cut (ps_if (pt_cmpR (op_neD hu64) (pe_cl PAR hr (by decide) (by rfl) (pa_cons (pe_mtF NG T.cl hr (by decide) (pv 4)) pa_nil)) (pe_cl LN hr (by decide) (by rfl) (pa_cons (pv 3) pa_nil)) (nomark _)) (pss_one (ps_ret pe_bl)) pss_nil)
          (pss_cons (ps_if (pt_cmpR (op_neD hu64) (pe_cl PAR hr (by decide) (by rfl) (pa_cons (pe_mtFX (W := fun _ _ _ _ => False) TM T.cl hr (by decide) takes0 (pv 4) (pa_cons (pv 5) pa_nil)) pa_nil)) (pe_cl LT hr (by decide) (by rfl) (pa_cons (pv 3) (pa_cons (pv 5) pa_nil))) (nomark _)) (pss_one (ps_ret pe_bl)) pss_nil)
          (pss_cons (ps_if (pt_cmpR (op_neD hu64) (pe_cl PAR hr (by decide) (by rfl) (pa_cons (pe_mtFA MV T.cl hr (by decide) (pv 4) (pa_cons (pv 6) pa_nil)) pa_nil)) (pe_cl LMo hr (by decide) (by rfl) (pa_cons (pv 3) (pa_cons (pv 6) pa_nil))) (nomark _)) (pss_one (ps_ret pe_bl)) pss_nil)
          (Evl.pss_cut (ps_if (pt_cmpR (op_neD hu64) (pe_cl PAR hr (by decide) (by rfl) (pa_cons (pe_mtFA MR T.cl hr (by decide) (pv 4) (pa_cons (pv 7) pa_nil)) pa_nil)) (pe_cl LMi hr (by decide) (by rfl) (pa_cons (pv 3) (pa_cons (pv 7) pa_nil))) (nomark _)) (pss_one (ps_ret pe_bl)) pss_nil)
          (pss_cons (ps_if (PW.pt (pw_or (pt_cmpR (op_neF K rfl EQ T.ne (fun i hi => (T.isi i hi).cm) hr3) (pe_mtF NG T.cl hr (by decide) (pe_mtF NG T.cl hr (by decide) (pv 4))) (pv 4) (nomark _))
              (pw_or (pt_cmpR (op_neF K rfl EQ T.ne (fun i hi => (T.isi i hi).cm) hr3) (pe_mtFX (W := fun _ _ _ _ => False) TM T.cl hr (by decide) takes0 (pv 4) (pa_cons pe_int pa_nil)) (pv 4) (nomark _))
              (pw_or1 (pt_cmpR (op_neF K rfl EQ T.ne (fun i hi => (T.isi i hi).cm) hr3) (pe_mtFA MV T.cl hr (by decide) (pv 4) (pa_cons pe_int pa_nil)) (pv 4) (nomark _)))))) (pss_one (ps_ret pe_bl)) pss_nil)
          (Evl.pss_cut (ps_if (pt_cmpR (op_neF K rfl EQ T.ne (fun i hi => (T.isi i hi).cm) hr3) (pe_mtFA MR T.cl hr (by decide) (pe_mtFA MR T.cl hr (by decide) (pv 4) (pa_cons (pe_op op_pow pe_int pe_int) pa_nil)) (pa_cons (pe_op op_pow pe_int pe_int) pa_nil)) (pv 4) (nomark _)) (pss_one (ps_ret pe_bl)) pss_nil)
          (pss_cons (ps_set (i := 8) nd rfl (.inl rfl) (pe_cl PI hr (by decide) (by rfl) (pa_cons (pv 1) (pa_cons (pe_lst (pa_cons pe_int (pa_cons (pe_un un_neg pe_int) (pa_cons (pe_un un_neg pe_int) (pa_cons pe_bl (pa_cons pe_bl (pa_cons pe_non (pa_cons pe_str (pa_cons pe_str (pa_cons pe_str pa_nil)))))))))) pa_nil))))
          (pss_one (ps_if (PW.pt (pw_or (pt_cmpR op_ne (pe_callB (call_reprD K rfl gd hu64) (by rfl) zR bt_repr (pa_cons (pe_cl RF hr (by decide) (by rfl) (pa_cons (pv 4) (pa_cons (pv 8) pa_nil))) pa_nil)) (pe_callB (call_reprD K rfl gd hu64) (by rfl) zR bt_repr (pa_cons (pe_lst (pa_cons (pv 8) (pa_cons pe_bl pa_nil))) pa_nil)) (nomark _))
              (pw_or1 (pt_cmpR (op_neD hu64) (pe_cl PAR hr (by decide) (by rfl) (pa_cons (pv 4) pa_nil)) (pv 3) (nomark _))))) (pss_one (ps_ret pe_bl)) pss_nil)))))))))))))
      (pss_one (ps_ret pe_bl))), ?_⟩
    have hp9 : CPow 10 9 := ⟨by decide, by decide, by decide⟩
    have hp30 : CPow 10 30 := ⟨by decide, by decide, by decide⟩
    have two : 2 ≤ sizeLine := by decide
    have five : 5 ≤ sizeLine := by decide
    refine ⟨_, rfl, sc, ns, rfl, hS, hlen, fun p H1 np P0 S0 => ?_⟩
    refine ⟨_, rfl, by show 7 ≤ sizeLine; decide, fun l7 n7 => ?_⟩
    have sm7 : ∀ w ∈ names7, SmallS w := fun w hw => by
      obtain ⟨i, _, rfl⟩ := names7_of hw
      exact kName_small i
    refine ⟨p, l7, names7, 0, rfl, .inl (.inl upd_same), sm7, by decide, P0.new n7, by omega, fun o M H2 no ho hpm P2 F2 => ?_⟩
    have lM : M.length = 7 := hpm.length_eq
    refine ⟨o, rfl, ⟨_, .inl (.inl ho)⟩, for_list (K := K) (a := o) (xs := M.map V.str) (fun k σ G => ∃ s2 s3 s4 s5 s6 s7 s8, σ = [some (.ref sc), some (.ref p), s2, s3, s4, s5, s6, s7, s8] ∧ G o = some (.lst (M.map V.str)) ∧ Pen G p (1000 + 3000 * k))
      ⟨none, none, none, none, none, none, none, rfl, ho, P2.mono (by omega)⟩ (fun k σ G _ ⟨_, _, _, _, _, _, _, _, h, _⟩ => .inl (.inl h)) ?_ ?_⟩
    · rintro k y σ G hy ⟨s2, s3, s4, s5, s6, s7, s8, rfl, hoG, PG⟩
      rw [List.getElem?_map] at hy
      cases hk : M[k]? with
      | none => rw [hk] at hy; cases hy
      | some y2 =>
      rw [hk] at hy
      cases hy
      have hk7 : k < 7 := by
        have := (List.getElem?_eq_some_iff.mp hk).1
        omega
      obtain ⟨i, hi, rfl⟩ := names7_of (hpm.mem_iff.mp (List.mem_of_getElem? hk))
      -- the told clause
      refine ⟨_, rfl, _, rfl, p, 2, _, rfl, by decide, PG, by omega, fun wl ws G1 nwl hwl lws wws dws P1 F1 => ?_⟩
      obtain ⟨f1, g, rfl⟩ : ∃ a b, ws = [a, b] := by
        match ws, lws with
        | [a, b], _ => exact ⟨a, b, rfl⟩
      have wf1 := wws f1 (by simp)
      have wg1 := wws g (by simp)
      have dd := dws
      simp only [List.pairwise_cons, List.mem_cons, List.not_mem_nil, or_false, forall_eq_or_imp, forall_eq] at dd
      have ngf : g ≠ f1 := fun e => dd.1 e.symm
      clear dd dws wws lws
      have ho1 := F1.lst PG hoG
      refine ⟨_, rfl, p, 3, _, rfl, by decide, P1, by omega, fun a0 L0 G2 na0 ha0 hL0 okL0 lenL0 P2' F2' => ?_⟩
      refine ⟨a0, L0, rfl, .inl (.inl ha0), hL0, okL0, by omega, fun r L G3 S3 nr hr' hL nfL meL lenL lenL2 => ?_⟩
      have okL := ok_of_mem nfL meL okL0
      have rows3 : RowsAt G3 r L := ⟨hr', hL, okL, nfL, by omega⟩
      have P3 := P2'.same' S3
      have F13 := F2'.trans (frmS S3)
      have hwl3 := F13.lst P1 hwl
      have ho3 := F13.lst P1 ho1
      clear hr' hL ha0 hL0 okL0 meL nfL lenL lenL2 lenL0 na0 nr S3 P2' F2' F13 P1 F1
      refine ⟨_, rfl, p, wl, r, i, f1, g, [], _, rfl, hi, .inl (.inl hwl3), wf1, wg1, ngf, P3, by omega, fun t x G4 wfx smx otx slx ht P4 F4 => ?_⟩
      have ho4 := F4.lst P3 ho3
      have rows4 := rows3.frm F4 P3
      clear rows3 hwl3 ho3 F4 P3
      have hsv := wf_small hi wfx
      have hsf := word_small wf1
      -- the clause and the factor
      refine ⟨_, rfl, t, i, f1, r, x, L, rfl, ht, hi, wf1, wfx, rows4, fun z G5 hz S5 => ?_⟩
      have ht5 := S5 _ _ ht
      have rows5 := rows4.same S5
      have P5 := P4.same' S5
      have ho5 := S5 _ _ ho4
      refine ⟨_, rfl, _, _, rfl, rfl, hp9, _, rfl, p, 99, _, rfl, by decide, by decide, P5, by omega, fun r1 G6 r10 r11 P6 F6 => ?_⟩
      refine ⟨_, _, rfl, rfl, five, fun q1 n1 => ?_⟩
      refine ⟨p, q1, _, _, rfl, .inl (.inl upd_same), by show 0 < 5; decide, by show 5 ≤ 1000; decide, P6.new n1, by omega, fun v1 G7 hv1 P7 F7 => ?_⟩
      obtain ⟨fac, rfl, fac1, fac9⟩ := factor_of r10 r11 hv1
      have F57 := F6.trans ((Frm.new n1).trans F7)
      refine ⟨_, _, rfl, ?_⟩
      -- the way and the last place
      refine ⟨_, rfl, _, rfl, _, rfl, p, _, rfl, P7, by omega, fun b G8 b0 b1 P8 F8 => ?_⟩
      refine ⟨_, _, rfl, rfl, hp30, _, rfl, five, fun q2 n2 => ?_⟩
      refine ⟨p, q2, _, _, rfl, .inl (.inl upd_same), by show 0 < 5; decide, by show 5 ≤ 1000; decide, P8.new n2, by omega, fun v2 G9 hv2 P9 F9 => ?_⟩
      obtain ⟨d, rfl, hd⟩ := by_of b0 b1 hv2
      refine ⟨_, rfl, _, rfl, p, _, rfl, P9, by omega, fun sp G10 hsp P10 F10 => ?_⟩
      refine ⟨_, _, rfl, rfl, hp30, two, fun q3 n3 => ?_⟩
      refine ⟨p, q3, _, _, rfl, .inl (.inl upd_same), by show 0 < 2; decide, by show 2 ≤ 1000; decide, P10.new n3, by omega, fun v3 G11 hv3 P11 F11 => ?_⟩
      obtain ⟨n, rfl, hn0, hn1⟩ := last_of hsp hv3
      have F711 := (F8.trans ((Frm.new n2).trans F9)).trans (F10.trans ((Frm.new n3).trans F11))
      have F511 := F57.trans F711
      have htA := F511.tp P5 ht5
      have rowsA := rows5.frm F511 P5
      have hzA := hz.frm F511 P5
      have hoA := F511.lst P5 ho5
      have PA := P11.mono (m := 1000 + 3000 * k + 2900) (by omega)
      have hnf := hzA.nf
      clear F511 F711 F57 F11 F10 F9 F8 F7 F6 P11 P10 P9 P8 P7 P6 P5 P4 hz ht5 rows5 ho5 S5 rows4 ho4 ht hv1 hv2 hv3 n1 n2 n3 hoG PG hwl ho1
      refine ⟨_, _, rfl, ?_⟩
      generalize G11 = J at htA rowsA hzA hoA PA
      refine ⟨fun σ' J' => σ' = [some (.ref sc), some (.ref p), some (.str (kName i)), some (.ref t), some (.ref z), some (.int fac), some (.int d), some (.int n), s8] ∧ Same J J', ?_, ?_⟩
      · -- negated
        obtain ⟨dz, pz, hzz, _⟩ := hzA.ex
        refine ⟨i, hi, _, rfl, z, dz, _, rfl, hzz, cFl_no (noM i).1, z, f1, rws L, x, rfl, hzA, fun y J1 hy q1 => ?_⟩
        refine ⟨y, i, f1, rws L, negX i x, rfl, hy, fun t2 r2 M2 J2 ht2 hr2 hM2 eM2 q2 => ?_⟩
        have q12 := q1.trans q2
        refine ⟨_, rfl, t, i, f1, r, x, rfl, q12 _ _ htA, hi, wfx, fun u J3 hu q3 => ?_⟩
        have rows3 := rowsA.same (q12.trans q3)
        have sm := wf_small hi (wf_neg hi wfx)
        refine ⟨specD i f1 (rws M2) (negX i x), specD i f1 (rws L) (negX i x), spec_dp (q3 _ _ ht2) (q3 _ _ hr2) (hM2.same q3) sm, spec_dp hu rows3.at_ rows3.rw_ sm, spec_shp hsf sm, spec_shp hsf sm, _, rfl, ?_⟩
        rw [eM2, spec_eqv sm]
        exact iteF ⟨rfl, q12.trans q3⟩
      rintro σ' J4 ⟨rfl, S4⟩
      have htB := S4 _ _ htA
      have rowsB := rowsA.same S4
      have hzB := hzA.same S4
      have hoB := S4 _ _ hoA
      have PB := PA.same' S4
      clear htA rowsA hzA hoA PA S4
      -- times
      have wfT := wf_tim (k := fac) hi wfx slx fac9
      obtain ⟨dz, pz, hzz, _⟩ := hzB.ex
      refine ⟨i, hi, _, rfl, z, dz, _, rfl, hzz, cFl_no (noM i).2.1, _, rfl, z, _, f1, rws L, x, rfl, hzB, pv_int fac, .inl ⟨fac, rfl, fac1, le40' fac9, wfT, fun y J5 hy q1 => ?_⟩⟩
      refine ⟨y, i, f1, rws L, timX fac i x, rfl, hy, fun t2 r2 M2 J6 ht2 hr2 hM2 eM2 q2 => ?_⟩
      have q12 := q1.trans q2
      refine ⟨_, rfl, _, rfl, t, fac, i, f1, r, x, rfl, q12 _ _ htB, hi, wfx, le40' fac9, fun u J7 hu q3 => ?_⟩
      have q13 := q12.trans q3
      have rowsC := rowsB.same q13
      have smT := wf_small hi wfT
      refine ⟨specD i f1 (rws M2) (timX fac i x), specD i f1 (rws L) (timX fac i x), spec_dp (q3 _ _ ht2) (q3 _ _ hr2) (hM2.same q3) smT, spec_dp hu rowsC.at_ rowsC.rw_ smT, spec_shp hsf smT, spec_shp hsf smT, _, rfl, ?_⟩
      rw [eM2, spec_eqv smT]
      refine iteF ?_
      clear ht2 hr2 hM2 eM2 hy hu smT wfT hzz
      -- moved
      have htC := q13 _ _ htB
      have hzC := hzB.same q13
      have hoC := q13 _ _ hoB
      have PC := PB.same' q13
      clear htB rowsB hzB hoB PB q13 q12 q1 q2 q3
      have wfM := wf_mov (d := d) hi wfx slx hd
      obtain ⟨dz, pz, hzz, _⟩ := hzC.ex
      refine ⟨i, hi, _, rfl, z, dz, _, rfl, hzz, cFl_no (noM i).2.2.1, _, rfl, z, d, f1, rws L, x, rfl, hzC, le40 hd, wfM, fun y nn J8 hy me1 q1 => ?_⟩
      refine ⟨y, i, f1, nn, movX d i x, rfl, hy, fun t2 r2 M2 J9 ht2 hr2 hM2 eM2 q2 => ?_⟩
      have q12 := q1.trans q2
      refine ⟨_, rfl, _, rfl, t, d, i, f1, r, x, L, rfl, q12 _ _ htC, hi, wfx, rowsC.same q12, le40 hd, trivial, fun u m M3 J10 hu hm hM3 nf3 me3 q3 => ?_⟩
      have q13 := q12.trans q3
      have e3 : rws M3 = nn := Nf.unique nf3 hy.nf fun c => (me3 c).trans (me1 c).symm
      have smM := wf_small hi wfM
      refine ⟨specD i f1 (rws M2) (movX d i x), specD i f1 (rws M3) (movX d i x), spec_dp (q3 _ _ ht2) (q3 _ _ hr2) (hM2.same q3) smM, spec_dp hu hm hM3 smM, spec_shp hsf smM, spec_shp hsf smM, _, rfl, ?_⟩
      rw [eM2, e3, spec_eqv smM]
      refine iteF ?_
      clear ht2 hr2 hM2 eM2 hu hm hM3 nf3 me3 e3 smM me1 hy hzz
      have htD := q13 _ _ htC
      have rowsD := rowsC.same q13
      have hzD := hzC.same q13
      have hoD := q13 _ _ hoC
      have PD := PC.same' q13
      clear htC rowsC hzC hoC PC q13 q12 q1 q2 q3
      generalize J10 = J11 at htD rowsD hzD hoD PD
      refine ⟨fun σ' J' => σ' = [some (.ref sc), some (.ref p), some (.str (kName i)), some (.ref t), some (.ref z), some (.int fac), some (.int d), some (.int n), s8] ∧ Same J11 J', ?_, ?_⟩
      · -- mirrored
        have hnA := lastP_abs hn0 hn1
        have wfI := wf_mir (d := n) hi wfx slx hnA
        obtain ⟨dz, pz, hzz, _⟩ := hzD.ex
        refine ⟨i, hi, _, rfl, z, dz, _, rfl, hzz, cFl_no (noM i).2.2.2, _, rfl, z, n, f1, rws L, x, rfl, hzD, le40 hnA, wfI, fun y nn J12 hy me1 q1 => ?_⟩
        refine ⟨y, i, f1, nn, mirX n i x, rfl, hy, fun t2 r2 M2 J13 ht2 hr2 hM2 eM2 q2 => ?_⟩
        have q12 := q1.trans q2
        refine ⟨_, rfl, _, rfl, t, n, i, f1, r, x, L, rfl, q12 _ _ htD, hi, wfx, rowsD.same q12, le40 hnA, hn1, fun u m M3 J14 hu hm hM3 nf3 me3 q3 => ?_⟩
        have e3 : rws M3 = nn := Nf.unique nf3 hy.nf fun c => (me3 c).trans (me1 c).symm
        have smI := wf_small hi wfI
        refine ⟨specD i f1 (rws M2) (mirX n i x), specD i f1 (rws M3) (mirX n i x), spec_dp (q3 _ _ ht2) (q3 _ _ hr2) (hM2.same q3) smI, spec_dp hu hm hM3 smI, spec_shp hsf smI, spec_shp hsf smI, _, rfl, ?_⟩
        rw [eM2, e3, spec_eqv smI]
        exact iteF ⟨rfl, q12.trans q3⟩
      rintro σ' J15 ⟨rfl, S15⟩
      have htE := S15 _ _ htD
      have rowsE := rowsD.same S15
      have hzE := hzD.same S15
      have hoE := S15 _ _ hoD
      have PE' := PD.same' S15
      clear htD rowsD hzD hoD PD S15
      -- twice negated, times 1, moved by 0
      obtain ⟨dz, pz, hzz, _⟩ := hzE.ex
      refine ⟨i, hi, i, hi, _, rfl, z, dz, _, rfl, hzz, cFl_no (noM i).1, z, f1, rws L, x, rfl, hzE, fun y J16 hy q1 => ?_⟩
      obtain ⟨dy, py, hyy, _⟩ := hy.ex
      refine ⟨y, dy, _, rfl, hyy, cFl_no (noM i).1, y, f1, rws L, negX i x, rfl, hy, fun y2 J17 hy2 q2 => ?_⟩
      have q12 := q1.trans q2
      refine ⟨_, rfl, c_neT T NFK hy2 (hzE.same q12) rfl (neg_neg hi wfx) ⟨_, rfl, iteF ?_⟩⟩
      have hzF := hzE.same q12
      obtain ⟨dz2, pz2, hzz2, _⟩ := hzF.ex
      refine ⟨i, hi, _, rfl, z, dz2, _, rfl, hzz2, cFl_no (noM i).2.1, z, .int 1, f1, rws L, x, rfl, hzF, pv_int 1, .inl ⟨1, rfl, by decide, by decide, by rw [tim_one hi wfx]; exact wfx, fun y3 J18 hy3 q3 => ?_⟩⟩
      refine ⟨_, rfl, c_neT T NFK hy3 (hzF.same q3) rfl (tim_one hi wfx) ⟨_, rfl, iteF ?_⟩⟩
      have hzG := hzF.same q3
      obtain ⟨dz3, pz3, hzz3, _⟩ := hzG.ex
      refine ⟨i, hi, _, rfl, z, dz3, _, rfl, hzz3, cFl_no (noM i).2.2.1, z, 0, f1, rws L, x, rfl, hzG, by decide, by rw [mov_zero hi wfx]; exact wfx, fun y4 n4 J19 hy4 me4 q4 => ?_⟩
      refine ⟨_, rfl, c_neT T NFK hy4 (hzG.same q4) (rows_mov0 hnf hy4.nf rowsE.ok me4) (mov_zero hi wfx) ⟨_, rfl, iteF ?_⟩⟩
      have q14 := (q12.trans q3).trans q4
      have htH := q14 _ _ htE
      have rowsH := rowsE.same q14
      have hzH := hzG.same q4
      have hoH := q14 _ _ hoE
      have PH := PE'.same' q14
      clear htE rowsE hzE hoE PE' q14 q12 q1 q2 q3 q4 hy hy2 hy3 hy4 hzF hzG hzz hzz2 hzz3 hyy me4
      refine ⟨fun σ' J' => σ' = [some (.ref sc), some (.ref p), some (.str (kName i)), some (.ref t), some (.ref z), some (.int fac), some (.int d), some (.int n), s8] ∧ Same J19 J', ?_, ?_⟩
      · -- twice mirrored
        have h30 : lastP.natAbs ≤ 10 ^ 30 := by decide
        have wfI := wf_mir (d := lastP) hi wfx slx h30
        obtain ⟨dz, pz, hzz, _⟩ := hzH.ex
        refine ⟨i, hi, i, hi, _, rfl, z, dz, _, rfl, hzz, cFl_no (noM i).2.2.2, _, _, rfl, rfl, hp30, z, lastP, f1, rws L, x, rfl, hzH, le40 h30, wfI, fun y nn J20 hy me1 q1 => ?_⟩
        obtain ⟨dy, py, hyy, _⟩ := hy.ex
        refine ⟨y, dy, _, rfl, hyy, cFl_no (noM i).2.2.2, _, _, rfl, rfl, hp30, y, lastP, f1, nn, mirX lastP i x, rfl, hy, le40 h30, by rw [mir_mir lastP hi wfx]; exact wfx, fun y2 n2 J21 hy2 me2 q2 => ?_⟩
        have q12 := q1.trans q2
        exact ⟨_, rfl, c_neT T NFK hy2 (hzH.same q12) (rows_mir2 hnf hy2.nf rowsH.ok me1 me2) (mir_mir lastP hi wfx) ⟨_, rfl, iteF ⟨rfl, q12⟩⟩⟩
      rintro σ' J22 ⟨rfl, S22⟩
      have htI := S22 _ _ htH
      have rowsI := rowsH.same S22
      have hzI := hzH.same S22
      have hoI := S22 _ _ hoH
      have PI' := PH.same' S22
      clear htH rowsH hzH hoH PH S22
      -- what is no factor
      refine ⟨_, rfl, _, rfl, _, rfl, by show 9 ≤ sizeLine; decide, fun q5 n5 => ?_⟩
      refine ⟨p, q5, odds, _, rfl, .inl (.inl upd_same), by decide, by decide, PI'.new n5, by omega, fun v J23 hv PJ FJ => ?_⟩
      obtain ⟨od, oo⟩ := odd_ok hv
      have FK := (Frm.new (o := .lst odds) n5).trans FJ
      have htK := FK.tp PI' htI
      have rowsK := rowsI.frm FK PI'
      have hzK := hzI.frm FK PI'
      have hoK := FK.lst PI' hoI
      clear htI rowsI hzI hoI PI' FK FJ n5 hv
      refine ⟨_, rfl, _, rfl, z, i, f1, rws L, x, v, rfl, hzK, oo.pv, oo.fb, fun o1 J24 ho1 q1 => ?_⟩
      refine ⟨o1, _, rfl, dp2 ho1 (oo.dp K _), oo.sh, oo.nd, oo.de, oo.ln, ?_⟩
      refine ⟨_, rfl, two, fun o2 no2 => ⟨o2, _, rfl, dp2 upd_same (oo.dp K _), oo.sh, oo.nd, oo.de, oo.ln, ?_⟩⟩
      refine ⟨rfl, _, rfl, iteNS rfl ?_⟩
      have q2 := q1.trans (same_lay (o := .lst [v, .bl true]) no2)
      have hzL := hzK.same q2
      refine ⟨_, rfl, z, i, f1, rws L, x, rfl, hzL, fun t2 r2 M2 J25 ht2 hr2 hM2 eM2 q3 => ?_⟩
      have q4 := q2.trans q3
      have rowsL := rowsK.same q4
      refine ⟨_, rfl, specD i f1 (rws M2) x, specD i f1 (rws L) x, spec_dp ht2 hr2 hM2 hsv, spec_dp (q4 _ _ htK) rowsL.at_ rowsL.rw_ hsv, spec_shp hsf hsv, spec_shp hsf hsv, _, rfl, ?_⟩
      rw [eM2, spec_eqv hsv]
      exact iteF ⟨_, _, _, _, _, _, _, rfl, q4 _ _ hoK, (PJ.same' q4).mono (by omega)⟩
    · rintro σ G ⟨s2, s3, s4, s5, s6, s7, s8, rfl, _, _⟩
      exact q _
end
end OR

namespace OR
open PySem PySem.Spec PyProof.Rows L2
/-! ### what the top has left -/
/-- an __init__ whose last parameter may be left out: then it is the empty tuple at t0 -/
structure MtD (K : PySem.W.Frag) (C : Addr) (m qual : Str) (st : Stmt) : Prop where
  ex : ∃ f fd t0, FunD K m qual (defArgs st) (defBody st) (defScope st) [.ref t0] [] f fd ∧ PySem.W.findIn K (.ref C) m = some (some (.ref f)) ∧ PySem.W.isFn K (.ref f) = true ∧ ∀ H : Hp, SqT K H t0 []
theorem mtD {K : PySem.W.Frag} {h : Heap} {C : Addr} {m qual : Str} {st : Stmt} {f T t0 : Addr} {oc cT : Value} {od an dT d0 : Option Addr} {osl sT s0 : Array (Option Value)} {kV doc pm cdv ct : Value} {nT n0 : Nat} (_X : K.In h)
    (a : PySem.W.findIn K (.ref C) m = some (some (.ref f))) (l : K.lookup f = some ⟨oc, od, .func (PySem.W.fnOf m qual (defArgs st) (defBody st) (defScope st) (.ref T) kV doc pm an cdv ct), osl⟩)
    (lT : K.lookup T = some ⟨cT, dT, .seq #[.ref t0] nT, sT⟩) (l0 : K.lookup t0 = some ⟨.type "tuple", d0, .seq #[] n0, s0⟩)
    (c : PySem.W.codeIn K cdv qual = true) (k : PySem.W.keepIn K (.ref f) = true) (i : PySem.W.isFn K (.ref f) = true) : MtD K C m qual st :=
  ⟨f, _, t0, ⟨⟨oc, od, .ref T, kV, doc, pm, an, cdv, ct, osl, rfl, l, c, .inr ⟨by simp, T, _, [.ref t0], nT, rfl, lT, rfl, .cons rfl .nil⟩, .inl rfl⟩, k⟩, a, i, fun H => .inr ⟨_, #[], n0, l0, rfl, rfl, Nat.zero_le _, .nil⟩⟩
structure PAt (K : PySem.W.Frag) (C : Addr) : Prop where
  aC : PySem.W.nsIn K mainGlobals "Places" = some (some (.ref C))
  pg : PySem.W.plainGet K C Str.empty = true
  hd : PySem.W.hasDictIn K C = true
  po : PySem.W.plainOver K C = true
  sa : PySem.W.findIn K (.ref C) "__setattr__" = some (some (.builtin "object.__setattr__"))
  mks : PySem.W.makesIn K C = true
  kc : PySem.W.keepIn K (.ref C) = true
  nS : PySem.W.findIn K (.ref C) "stretches" = some none
  nF : PySem.W.findIn K (.ref C) "_firsts" = some none
  nB : PySem.W.findIn K (.ref C) "_before" = some none
  ca : PySem.W.findIn K (.ref C) "__class__" = some (some (.builtin "object.__class__"))
  cn : PySem.W.specialIn K (.builtin "object.__class__") "__get__" = some (some (.builtin "getset_descriptor.__get__"))
  ct : PySem.W.takesIn K (.builtin "object.__class__") = some true
  cm : PySem.W.mroIn K C (.type "object") = some true
  ne : PySem.W.findIn K (.ref C) "__ne__" = some (some (.builtin "object.__ne__"))
  sT : PySem.W.subIn K (.type "tuple") (.ref C) = some false
  sL : PySem.W.subIn K (.type "list") (.ref C) = some false
  kPP : PySem.W.kitOne K (.ref C) (.ref C) = some true
  kT : PySem.W.kitOne K (.type "tuple") (.ref C) = some false
  kL : PySem.W.kitOne K (.type "list") (.ref C) = some false
  sf : PySem.W.selfFirst K C = true
structure ZAt (K : PySem.W.Frag) : Prop where
  isi : PySem.W.nsIn K mainGlobals "isinstance" = some none
  int : PySem.W.nsIn K mainGlobals "int" = some none
  bool : PySem.W.nsIn K mainGlobals "bool" = some none
  tup : PySem.W.nsIn K mainGlobals "tuple" = some none
  list : PySem.W.nsIn K mainGlobals "list" = some none
  len : PySem.W.nsIn K mainGlobals "len" = some none
  max : PySem.W.nsIn K mainGlobals "max" = some none
  min : PySem.W.nsIn K mainGlobals "min" = some none
  sorted : PySem.W.nsIn K mainGlobals "sorted" = some none
  enum : PySem.W.nsIn K mainGlobals "enumerate" = some none
  range : PySem.W.nsIn K mainGlobals "range" = some none
  set : PySem.W.nsIn K mainGlobals "set" = some none
  abs : PySem.W.nsIn K mainGlobals "abs" = some none
theorem lastP_lit : lastP = 1000000000000000000000000000000 := by decide
theorem lp_of {p : Program} {lv : List (Str × PySem.W.WData)} {mg : Str → Option Value} {h : Heap} (X : PySem.W.XL p lv mg h) (hm : (("LAST_PLACE" : Str), PySem.W.WData.int 1000000000000000000000000000000) ∈ lv) : ∃ t, mg "LAST_PLACE" = some (.int lastP t) := by
  obtain ⟨v, hv, hr⟩ := X.2.val _ hm
  cases hr with
  | int i t => exact ⟨t, by rw [lastP_lit]; exact hv⟩
/-- walk_of, told besides what the top's loose names read -/
theorem walk_ofX {l : PySem.W.OpenLaw} {n k : Nat} {q : Program} {loose : List Str} {XP : (Str → Option Value) → Heap → Prop} {YP : World → Heap → Prop} {d : DefRec} {K : Params → PySem.W.Frag} {CX : World → CXT} {sp : World → Sp} {x : Str}
    (hn : l.most = some n) (hn2 : n ≤ sizeLine) (hdf : d.params.defaults = []) (hr : Room k callerA) (hY : ∀ (w : World) (h : Heap), YP w h → (K w.params).In h)
    (F : ∀ (w : World) (mg : Str → Option Value) (fa : Addr) (h : Heap), (K w.params).In h → h.Ns mainGlobals mg → XP mg h → mg d.name = some (.ref fa) →
      ∃ fd : FuncData, (∀ (s : Shared) (u : Value), BindsTo s fd ⟨[u], []⟩ [(x, u)]) ∧ ∀ base : Heap, (K w.params).In base → base.Ns mainGlobals mg → FnOk l.prog w (K w.params) mg base (CX w) k fa fd [x] (sp w))
    (hsp : ∀ (w : World) (H : Hp) (a : Addr) (ns : List Int), ns.length ≤ n → Only H → SqL (K w.params) H a (ns.map V.int) → sp w [.ref a] H (fun v _ => v = .bl true) fun _ _ _ => False)
    (hCX : ∀ (w : World) (H : Hp) (s : Shared) (e : Value) (s' : Shared), CX w [] H s (fun _ _ _ => False) e s' → False) : PySem.W.WalkO q loose XP YP l.row.toRowW d [] (fun f vs => PySem.call f vs) := by
  refine Att.attach_call hn hdf fun w s₀ s₁ mg mb fa o pm cd doc a vs ns G Y ho hd hcd hmg hobj hints hlen hg => ?_
  have KX := hY w _ Y
  obtain ⟨fd, hb, hF⟩ := F w mg fa _ KX G.T.g G.X hmg
  exact law_call KX G.T.g G.T.b G.T.builtins G.T.nolimit hg hobj hints (Nat.le_trans hlen hn2) hr hF hb (fun H hO hS => hsp w H a ns hlen hO hS) fun H e s' => hCX w H s₁ e s'
theorem PAt.txt {K : PySem.W.Frag} {C : Addr} {h : Heap} {mg : Str → Option Value} (L : PAt K C) (X : K.In h) (G : h.Ns mainGlobals mg) (Z : ZAt K) (lp : ∃ t, mg "LAST_PLACE" = some (.int lastP t)) : PTxt K mg C :=
  ⟨⟨L.pg, L.hd, L.po, L.sa⟩, L.nS, L.nF, L.nB, PySem.W.mg_of X G L.aC, ⟨L.ca, L.cn, L.ct, L.cm⟩, L.kPP, PySem.W.mg_none_of X G Z.isi, PySem.W.mg_none_of X G Z.int, PySem.W.mg_none_of X G Z.bool, PySem.W.mg_none_of X G Z.tup, PySem.W.mg_none_of X G Z.list,
    PySem.W.mg_none_of X G Z.len, PySem.W.mg_none_of X G Z.max, PySem.W.mg_none_of X G Z.sorted, PySem.W.mg_none_of X G Z.enum, lp⟩
theorem pmk_of {P : Program} {w : World} {K : PySem.W.Frag} {mg : Str → Option Value} {base : Heap} {C : Addr} (T : PTxt K mg C) (L : PAt K C) (mI : MtD K C "__init__" "Places.__init__" sPlInit)
    (S : Cl P w K mg base 3 "_is_stretch" ["value"] spIsStretchP) (J : Cl P w K mg base 1 "_joined" ["stretches"] (spJoined K)) (B : Cl P w K mg base 1 "_counts_before" ["stretches"] (spCounts K)) : PMk' P w K mg base C := by
  obtain ⟨f, fd, t0, F, a, i, ht⟩ := mI.ex
  obtain ⟨ds, r1, b1⟩ := F.binds1 (ps := ["self", "stretches"]) 2 1 (by simp) rfl fun T kV doc pm an cdv ct us its hu hi => match us, its, hu, hi with | [u, v], [x], _, _ => ⟨_, rfl, rfl⟩
  obtain ⟨es, r2, b2⟩ := F.binds1 (ps := ["self", "stretches"]) 1 0 (by simp) rfl fun T kV doc pm an cdv ct us its hu hi => match us, its, hu, hi with | [u], [x], _, _ => ⟨_, rfl, rfl⟩
  cases r1
  obtain ⟨u, rfl, ru⟩ := r2.one
  cases (show u = Value.ref t0 from ru)
  exact ⟨T, f, fd, t0, ⟨L.mks, a, i, L.kc⟩, ok_plinit F T S J B, b1, b2, ht⟩
end OR

namespace OR
open PySem PySem.Spec PyProof.Rows L2
/-- the class Line behind the top -/
structure LAt (K : PySem.W.Frag) (C : Addr) : Prop where
  aC : PySem.W.nsIn K mainGlobals "Line" = some (some (.ref C))
  pg : PySem.W.plainGet K C Str.empty = true
  hd : PySem.W.hasDictIn K C = true
  po : PySem.W.plainOver K C = true
  sa : PySem.W.findIn K (.ref C) "__setattr__" = some (some (.builtin "object.__setattr__"))
  mks : PySem.W.makesIn K C = true
  kc : PySem.W.keepIn K (.ref C) = true
  nS : PySem.W.findIn K (.ref C) "slope" = some none
  nH : PySem.W.findIn K (.ref C) "height" = some none
  sf : PySem.W.selfFirst K C = true
  ca : PySem.W.findIn K (.ref C) "__class__" = some (some (.builtin "object.__class__"))
  cn : PySem.W.specialIn K (.builtin "object.__class__") "__get__" = some (some (.builtin "getset_descriptor.__get__"))
  ct : PySem.W.takesIn K (.builtin "object.__class__") = some true
  cm : PySem.W.mroIn K C (.type "object") = some true
  ne : PySem.W.findIn K (.ref C) "__ne__" = some (some (.builtin "object.__ne__"))
  kLL : PySem.W.kitOne K (.ref C) (.ref C) = some true
  kIL : PySem.W.kitOne K (.type "int") (.ref C) = some false
  kTL : PySem.W.kitOne K (.type "tuple") (.ref C) = some false
theorem LAt.txt {K : PySem.W.Frag} {C : Addr} {h : Heap} {mg : Str → Option Value} (L : LAt K C) (X : K.In h) (G : h.Ns mainGlobals mg) (Z : ZAt K) : LTxt K mg C :=
  ⟨⟨L.pg, L.hd, L.po, L.sa⟩, L.nS, L.nH, PySem.W.mg_of X G L.aC, L.sf, ⟨L.ca, L.cn, L.ct, L.cm⟩, L.kLL, L.kIL, L.kTL, PySem.W.mg_none_of X G Z.isi, PySem.W.mg_none_of X G Z.int, PySem.W.mg_none_of X G Z.bool⟩
theorem lmk_of {P : Program} {w : World} {K : PySem.W.Frag} {mg : Str → Option Value} {base : Heap} {C : Addr} (T : LTxt K mg C) (L : LAt K C) (mI : MtAt K C "__init__" "__init__" "Line.__init__" sLInit) : LMk P w K mg base C := ⟨T, by
    obtain ⟨f, fd, F, a, b, c⟩ := mI.ex
    exact ⟨f, fd, ⟨L.mks, a, b, L.kc⟩, ok_linit F T, F.binds fun _ _ _ _ _ _ us hl => match us, hl with | [_, _, _], _ => rfl⟩⟩
/-- a class of clauses behind the top -/
structure CAt (K : PySem.W.Frag) (C : Addr) (nm : Str) (ns : List Str) : Prop where
  aC : PySem.W.nsIn K mainGlobals nm = some (some (.ref C))
  pg : PySem.W.plainGet K C Str.empty = true
  hd : PySem.W.hasDictIn K C = true
  po : PySem.W.plainOver K C = true
  sa : PySem.W.findIn K (.ref C) "__setattr__" = some (some (.builtin "object.__setattr__"))
  mks : PySem.W.makesIn K C = true
  kc : PySem.W.keepIn K (.ref C) = true
  no : ∀ n ∈ ns, PySem.W.findIn K (.ref C) n = some none
  sf : PySem.W.selfFirst K C = true
  ca : PySem.W.findIn K (.ref C) "__class__" = some (some (.builtin "object.__class__"))
  cn : PySem.W.specialIn K (.builtin "object.__class__") "__get__" = some (some (.builtin "getset_descriptor.__get__"))
  ct : PySem.W.takesIn K (.builtin "object.__class__") = some true
  cm : PySem.W.mroIn K C (.type "object") = some true
  ne : PySem.W.findIn K (.ref C) "__ne__" = some (some (.builtin "object.__ne__"))
  kS : PySem.W.kitOne K (.type "str") (.ref C) = some false
  kT : PySem.W.kitOne K (.type "tuple") (.ref C) = some false
  nS : PySem.W.subIn K (.type "str") (.ref C) = some false
  nT : PySem.W.subIn K (.type "tuple") (.ref C) = some false
theorem fa0 {α : Type} {p : α → Prop} : ∀ x ∈ ([] : List α), p x := fun x h => by cases h
theorem fa1 {α : Type} {p : α → Prop} {a : α} {l : List α} (h : p a) (t : ∀ x ∈ l, p x) : ∀ x ∈ a :: l, p x := fun x hx => by
  rcases List.mem_cons.mp hx with e | e
  · subst e; exact h
  · exact t x e
def cf (c0 c1 c2 c3 c4 c5 c6 : Addr) : Nat → Addr
  | 0 => c0
  | 1 => c1
  | 2 => c2
  | 3 => c3
  | 4 => c4
  | 5 => c5
  | _ => c6
theorem all7 {p : Nat → Prop} (h0 : p 0) (h1 : p 1) (h2 : p 2) (h3 : p 3) (h4 : p 4) (h5 : p 5) (h6 : p 6) : ∀ i, i < 7 → p i := fun i h => by
  rcases kinds7 h with e | e | e | e | e | e | e <;> subst e <;> assumption
/-- which class is which -/
structure K7 (K : PySem.W.Frag) (c0 c1 c2 c3 c4 c5 c6 : Addr) : Prop where
  q00 : PySem.W.kitOne K (.ref c0) (.ref c0) = some true
  q01 : PySem.W.kitOne K (.ref c0) (.ref c1) = some false
  q02 : PySem.W.kitOne K (.ref c0) (.ref c2) = some false
  q03 : PySem.W.kitOne K (.ref c0) (.ref c3) = some false
  q04 : PySem.W.kitOne K (.ref c0) (.ref c4) = some false
  q05 : PySem.W.kitOne K (.ref c0) (.ref c5) = some false
  q06 : PySem.W.kitOne K (.ref c0) (.ref c6) = some false
  q10 : PySem.W.kitOne K (.ref c1) (.ref c0) = some false
  q11 : PySem.W.kitOne K (.ref c1) (.ref c1) = some true
  q12 : PySem.W.kitOne K (.ref c1) (.ref c2) = some false
  q13 : PySem.W.kitOne K (.ref c1) (.ref c3) = some false
  q14 : PySem.W.kitOne K (.ref c1) (.ref c4) = some false
  q15 : PySem.W.kitOne K (.ref c1) (.ref c5) = some false
  q16 : PySem.W.kitOne K (.ref c1) (.ref c6) = some false
  q20 : PySem.W.kitOne K (.ref c2) (.ref c0) = some false
  q21 : PySem.W.kitOne K (.ref c2) (.ref c1) = some false
  q22 : PySem.W.kitOne K (.ref c2) (.ref c2) = some true
  q23 : PySem.W.kitOne K (.ref c2) (.ref c3) = some false
  q24 : PySem.W.kitOne K (.ref c2) (.ref c4) = some false
  q25 : PySem.W.kitOne K (.ref c2) (.ref c5) = some false
  q26 : PySem.W.kitOne K (.ref c2) (.ref c6) = some false
  q30 : PySem.W.kitOne K (.ref c3) (.ref c0) = some false
  q31 : PySem.W.kitOne K (.ref c3) (.ref c1) = some false
  q32 : PySem.W.kitOne K (.ref c3) (.ref c2) = some false
  q33 : PySem.W.kitOne K (.ref c3) (.ref c3) = some true
  q34 : PySem.W.kitOne K (.ref c3) (.ref c4) = some false
  q35 : PySem.W.kitOne K (.ref c3) (.ref c5) = some false
  q36 : PySem.W.kitOne K (.ref c3) (.ref c6) = some false
  q40 : PySem.W.kitOne K (.ref c4) (.ref c0) = some false
  q41 : PySem.W.kitOne K (.ref c4) (.ref c1) = some false
  q42 : PySem.W.kitOne K (.ref c4) (.ref c2) = some false
  q43 : PySem.W.kitOne K (.ref c4) (.ref c3) = some false
  q44 : PySem.W.kitOne K (.ref c4) (.ref c4) = some true
  q45 : PySem.W.kitOne K (.ref c4) (.ref c5) = some false
  q46 : PySem.W.kitOne K (.ref c4) (.ref c6) = some false
  q50 : PySem.W.kitOne K (.ref c5) (.ref c0) = some false
  q51 : PySem.W.kitOne K (.ref c5) (.ref c1) = some false
  q52 : PySem.W.kitOne K (.ref c5) (.ref c2) = some false
  q53 : PySem.W.kitOne K (.ref c5) (.ref c3) = some false
  q54 : PySem.W.kitOne K (.ref c5) (.ref c4) = some false
  q55 : PySem.W.kitOne K (.ref c5) (.ref c5) = some true
  q56 : PySem.W.kitOne K (.ref c5) (.ref c6) = some false
  q60 : PySem.W.kitOne K (.ref c6) (.ref c0) = some false
  q61 : PySem.W.kitOne K (.ref c6) (.ref c1) = some false
  q62 : PySem.W.kitOne K (.ref c6) (.ref c2) = some false
  q63 : PySem.W.kitOne K (.ref c6) (.ref c3) = some false
  q64 : PySem.W.kitOne K (.ref c6) (.ref c4) = some false
  q65 : PySem.W.kitOne K (.ref c6) (.ref c5) = some false
  q66 : PySem.W.kitOne K (.ref c6) (.ref c6) = some true
  s01 : PySem.W.subIn K (.ref c0) (.ref c1) = some false
  s02 : PySem.W.subIn K (.ref c0) (.ref c2) = some false
  s03 : PySem.W.subIn K (.ref c0) (.ref c3) = some false
  s04 : PySem.W.subIn K (.ref c0) (.ref c4) = some false
  s05 : PySem.W.subIn K (.ref c0) (.ref c5) = some false
  s06 : PySem.W.subIn K (.ref c0) (.ref c6) = some false
  s10 : PySem.W.subIn K (.ref c1) (.ref c0) = some false
  s12 : PySem.W.subIn K (.ref c1) (.ref c2) = some false
  s13 : PySem.W.subIn K (.ref c1) (.ref c3) = some false
  s14 : PySem.W.subIn K (.ref c1) (.ref c4) = some false
  s15 : PySem.W.subIn K (.ref c1) (.ref c5) = some false
  s16 : PySem.W.subIn K (.ref c1) (.ref c6) = some false
  s20 : PySem.W.subIn K (.ref c2) (.ref c0) = some false
  s21 : PySem.W.subIn K (.ref c2) (.ref c1) = some false
  s23 : PySem.W.subIn K (.ref c2) (.ref c3) = some false
  s24 : PySem.W.subIn K (.ref c2) (.ref c4) = some false
  s25 : PySem.W.subIn K (.ref c2) (.ref c5) = some false
  s26 : PySem.W.subIn K (.ref c2) (.ref c6) = some false
  s30 : PySem.W.subIn K (.ref c3) (.ref c0) = some false
  s31 : PySem.W.subIn K (.ref c3) (.ref c1) = some false
  s32 : PySem.W.subIn K (.ref c3) (.ref c2) = some false
  s34 : PySem.W.subIn K (.ref c3) (.ref c4) = some false
  s35 : PySem.W.subIn K (.ref c3) (.ref c5) = some false
  s36 : PySem.W.subIn K (.ref c3) (.ref c6) = some false
  s40 : PySem.W.subIn K (.ref c4) (.ref c0) = some false
  s41 : PySem.W.subIn K (.ref c4) (.ref c1) = some false
  s42 : PySem.W.subIn K (.ref c4) (.ref c2) = some false
  s43 : PySem.W.subIn K (.ref c4) (.ref c3) = some false
  s45 : PySem.W.subIn K (.ref c4) (.ref c5) = some false
  s46 : PySem.W.subIn K (.ref c4) (.ref c6) = some false
  s50 : PySem.W.subIn K (.ref c5) (.ref c0) = some false
  s51 : PySem.W.subIn K (.ref c5) (.ref c1) = some false
  s52 : PySem.W.subIn K (.ref c5) (.ref c2) = some false
  s53 : PySem.W.subIn K (.ref c5) (.ref c3) = some false
  s54 : PySem.W.subIn K (.ref c5) (.ref c4) = some false
  s56 : PySem.W.subIn K (.ref c5) (.ref c6) = some false
  s60 : PySem.W.subIn K (.ref c6) (.ref c0) = some false
  s61 : PySem.W.subIn K (.ref c6) (.ref c1) = some false
  s62 : PySem.W.subIn K (.ref c6) (.ref c2) = some false
  s63 : PySem.W.subIn K (.ref c6) (.ref c3) = some false
  s64 : PySem.W.subIn K (.ref c6) (.ref c4) = some false
  s65 : PySem.W.subIn K (.ref c6) (.ref c5) = some false

theorem K7.kk {K : PySem.W.Frag} {c0 c1 c2 c3 c4 c5 c6 : Addr} (k : K7 K c0 c1 c2 c3 c4 c5 c6) : ∀ i, i < 7 → ∀ j, j < 7 → PySem.W.kitOne K (.ref (cf c0 c1 c2 c3 c4 c5 c6 i)) (.ref (cf c0 c1 c2 c3 c4 c5 c6 j)) = some (decide (i = j)) :=
  all7 (all7 k.q00 k.q01 k.q02 k.q03 k.q04 k.q05 k.q06) (all7 k.q10 k.q11 k.q12 k.q13 k.q14 k.q15 k.q16) (all7 k.q20 k.q21 k.q22 k.q23 k.q24 k.q25 k.q26) (all7 k.q30 k.q31 k.q32 k.q33 k.q34 k.q35 k.q36) (all7 k.q40 k.q41 k.q42 k.q43 k.q44 k.q45 k.q46) (all7 k.q50 k.q51 k.q52 k.q53 k.q54 k.q55 k.q56) (all7 k.q60 k.q61 k.q62 k.q63 k.q64 k.q65 k.q66)
theorem nf_of {K : PySem.W.Frag} {C : Addr} {v : Value} (h : PySem.W.subIn K v (.ref C) = some false) : PySem.W.notFirst K C v = true := by simp [PySem.W.notFirst, h]
theorem K7.cc {K : PySem.W.Frag} {c0 c1 c2 c3 c4 c5 c6 : Addr} (k : K7 K c0 c1 c2 c3 c4 c5 c6) : ∀ i, i < 7 → ∀ j, j < 7 → PySem.W.notFirst K (cf c0 c1 c2 c3 c4 c5 c6 i) (.ref (cf c0 c1 c2 c3 c4 c5 c6 j)) = true :=
  all7 (all7 nf_self (nf_of k.s10) (nf_of k.s20) (nf_of k.s30) (nf_of k.s40) (nf_of k.s50) (nf_of k.s60)) (all7 (nf_of k.s01) nf_self (nf_of k.s21) (nf_of k.s31) (nf_of k.s41) (nf_of k.s51) (nf_of k.s61)) (all7 (nf_of k.s02) (nf_of k.s12) nf_self (nf_of k.s32) (nf_of k.s42) (nf_of k.s52) (nf_of k.s62)) (all7 (nf_of k.s03) (nf_of k.s13) (nf_of k.s23) nf_self (nf_of k.s43) (nf_of k.s53) (nf_of k.s63)) (all7 (nf_of k.s04) (nf_of k.s14) (nf_of k.s24) (nf_of k.s34) nf_self (nf_of k.s54) (nf_of k.s64)) (all7 (nf_of k.s05) (nf_of k.s15) (nf_of k.s25) (nf_of k.s35) (nf_of k.s45) nf_self (nf_of k.s65)) (all7 (nf_of k.s06) (nf_of k.s16) (nf_of k.s26) (nf_of k.s36) (nf_of k.s46) (nf_of k.s56) nf_self)
/-- a tuple of texts at the top -/
structure TpAt (K : PySem.W.Frag) (nm : Str) (xs : List Str) : Prop where
  ex : ∃ ts, PySem.W.nsIn K mainGlobals nm = some (some (.ref ts)) ∧ ∀ H : Hp, SqT K H ts (xs.map V.str)
theorem tp3 {K : PySem.W.Frag} {h : Heap} {nm x y z : Str} {f : Addr} {tx ty tz : Nat} {d : Option Addr} {n : Nat} {s : Array (Option Value)} (_X : K.In h) (a : PySem.W.nsIn K mainGlobals nm = some (some (.ref f))) (l : K.lookup f = some ⟨.type "tuple", d, .seq #[.str x tx, .str y ty, .str z tz] n, s⟩) : TpAt K nm [x, y, z] :=
  ⟨f, a, fun H => .inr ⟨_, _, n, l, rfl, rfl, (by show 3 ≤ sizeLine; decide), .cons ⟨_, rfl⟩ (.cons ⟨_, rfl⟩ (.cons ⟨_, rfl⟩ .nil))⟩⟩
theorem tp2 {K : PySem.W.Frag} {h : Heap} {nm x y : Str} {f : Addr} {tx ty : Nat} {d : Option Addr} {n : Nat} {s : Array (Option Value)} (_X : K.In h) (a : PySem.W.nsIn K mainGlobals nm = some (some (.ref f))) (l : K.lookup f = some ⟨.type "tuple", d, .seq #[.str x tx, .str y ty] n, s⟩) : TpAt K nm [x, y] :=
  ⟨f, a, fun H => .inr ⟨_, _, n, l, rfl, rfl, (by show 2 ≤ sizeLine; decide), .cons ⟨_, rfl⟩ (.cons ⟨_, rfl⟩ .nil)⟩⟩
/-- an own error with one field, behind the top -/
structure ErAt (K : PySem.W.Frag) (x q fl : Str) (st : Stmt) (CB CR : Addr) : Prop where
  aB : PySem.W.nsIn K mainGlobals x = some (some (.ref CB))
  aR : PySem.W.nsIn K mainGlobals "RangesError" = some (some (.ref CR))
  cls : ∃ nm q N bs bm sn sub ab col dd k0 k1 k2 k3 k5, K.lookup CB = some (excClassObj nm q CB N bs bm true sn sub ab col dd k0 k1 k2 k3 k5 "ValueError.__new__") ∧ PySem.HandSPX.refsVE bm = true
  sa : PySem.W.findIn K (.ref CB) "__setattr__" = some (some (.builtin "object.__setattr__"))
  ga : PySem.W.findIn K (.ref CB) "__getattribute__" = some (some (.builtin "BaseException.__getattribute__"))
  gg : PySem.W.findIn K (.ref CB) "__getattr__" = some none
  noF : PySem.W.findIn K (.ref CB) fl = some none
  kC : PySem.W.keepIn K (.ref CB) = true
  exC : PySem.W.subIn K (.ref CB) (.type "BaseException") = some true
  tyC : PySem.W.typeIn K (.ref CB) = some (.type "type")
  hdC : PySem.W.hasDictIn K CB = true
  ca : PySem.W.findIn K (.ref CB) "__class__" = some (some (.builtin "object.__class__"))
  cn : PySem.W.specialIn K (.builtin "object.__class__") "__get__" = some (some (.builtin "getset_descriptor.__get__"))
  ct : PySem.W.takesIn K (.builtin "object.__class__") = some true
  cm : PySem.W.mroIn K CB (.type "object") = some true
  sub : PySem.W.subIn K (.ref CB) (.ref CB) = some true
  kR : PySem.W.kitOne K (.ref CB) (.ref CR) = some true
  kV : PySem.W.kitOne K (.ref CB) (.type "ValueError") = some true
  init : ∃ f fd, Fun K "__init__" q st f fd ∧ PySem.W.findIn K (.ref CB) "__init__" = some (some (.ref f)) ∧ PySem.W.typeIn K (.ref f) = some (.type "function")
theorem erCls {K : PySem.W.Frag} {h : Heap} {CB : Addr} {nm q : Str} {N : Addr} {bs bm : List Value} {sn : List Str} {sub : List Value} {ab : Bool} {col : Option Bool} {dd : Option Addr} {m0 m1 m2 m3 m5 : Option Value} (_X : K.In h)
    (l : K.lookup CB = some (excClassObj nm q CB N bs bm true sn sub ab col dd m0 m1 m2 m3 m5 "ValueError.__new__")) (b : PySem.HandSPX.refsVE bm = true) :
    ∃ nm q N bs bm sn sub ab col dd k0 k1 k2 k3 k5, K.lookup CB = some (excClassObj nm q CB N bs bm true sn sub ab col dd k0 k1 k2 k3 k5 "ValueError.__new__") ∧ PySem.HandSPX.refsVE bm = true := ⟨nm, q, N, bs, bm, sn, sub, ab, col, dd, m0, m1, m2, m3, m5, l, b⟩
theorem erInit {K : PySem.W.Frag} {h : Heap} {CB f : Addr} {q : Str} {st : Stmt} {oc : Value} {od an : Option Addr} {osl : Array (Option Value)} {kV doc pm cdv ct : Value} (_X : K.In h) (a : PySem.W.findIn K (.ref CB) "__init__" = some (some (.ref f)))
    (l : K.lookup f = some ⟨oc, od, .func (PySem.W.fnOf "__init__" q (defArgs st) (defBody st) (defScope st) .none kV doc pm an cdv ct), osl⟩) (c : PySem.W.codeIn K cdv q = true) (k : PySem.W.keepIn K (.ref f) = true) (t : PySem.W.typeIn K (.ref f) = some (.type "function")) :
    ∃ f fd, Fun K "__init__" q st f fd ∧ PySem.W.findIn K (.ref CB) "__init__" = some (some (.ref f)) ∧ PySem.W.typeIn K (.ref f) = some (.type "function") := ⟨f, _, fun_mk l c k, a, t⟩
theorem er_of {P : Program} {w : World} {K : PySem.W.Frag} {mg : Str → Option Value} {base h : Heap} {x q fl : Str} {st : Stmt} {CB CR : Addr} (X : K.In h) (G : h.Ns mainGlobals mg) (e : ErAt K x q fl st CB CR) (zV : mg "ValueError" = none)
    (hb : ∀ (kV doc pm : Value) (an : Option Addr) (cdv ct : Value) (us : List Value), us.length = (["self", fl] : List Str).length → bindArgs (PySem.W.fnOf "__init__" q (defArgs st) (defBody st) (defScope st) .none kV doc pm an cdv ct) ⟨us, []⟩ = pure ((["self", fl] : List Str).zip us))
    (ok : ∀ f fd, Fun K "__init__" q st f fd → ErT K mg x fl CB CR f → FnOk P w K mg base CX0 1 f fd ["self", fl] (spErI CB fl)) : ErK P w K mg base x fl CB CR := by
  obtain ⟨f, fd, F, i, t⟩ := e.init
  have T : ErT K mg x fl CB CR f := ⟨PySem.W.mg_of X G e.aB, PySem.W.mg_of X G e.aR, zV, ⟨e.cls, e.sa, e.exC, e.tyC, e.kC⟩, ⟨e.ga, e.gg, e.exC, e.hdC⟩, ⟨e.ga, e.gg, e.exC, e.hdC, e.ca, e.cn, e.ct, e.cm⟩, e.noF, i, t, PySem.W.exm_ref e.exC e.hdC e.tyC e.sub, e.kR, e.kV⟩
  exact ⟨f, fd, T, ok f fd F T, F.binds hb⟩
theorem clX_of {P : Program} {w : World} {K : PySem.W.Frag} {mg : Str → Option Value} {base h : Heap} {x : Str} {st : Stmt} {k : Nat} {ps : List Str} {sp : Sp} (a : FnAt K x st) (X : K.In h) (G : h.Ns mainGlobals mg)
    (hb : ∀ (kV doc pm : Value) (an : Option Addr) (cdv ct : Value) (us : List Value), us.length = ps.length → bindArgs (PySem.W.fnOf x x (defArgs st) (defBody st) (defScope st) .none kV doc pm an cdv ct) ⟨us, []⟩ = pure (ps.zip us))
    (ok : ∀ f fd, Fun K x x st f fd → FnOk P w K mg base (L2.CX P w) k f fd ps sp) : ClX P w K mg base k x ps sp := by
  obtain ⟨f, fd, F, e⟩ := a.ex
  exact ⟨f, fd, ok f fd F, PySem.W.mg_of X G e, F.kp, F.binds hb⟩

theorem mtX_of {P : Program} {w : World} {K : PySem.W.Frag} {mg : Str → Option Value} {base : Heap} {C : Addr} {m m' qual : Str} {st : Stmt} {k : Nat} {ps : List Str} {sp : Sp} (a : MtAt K C m m' qual st)
    (hb : ∀ (kV doc pm : Value) (an : Option Addr) (cdv ct : Value) (us : List Value), us.length = ps.length → bindArgs (PySem.W.fnOf m qual (defArgs st) (defBody st) (defScope st) .none kV doc pm an cdv ct) ⟨us, []⟩ = pure (ps.zip us))
    (ok : ∀ f fd, Fun K m qual st f fd → FnOk P w K mg base (L2.CX P w) k f fd ps sp) : MtX P w K mg base k C m' ps sp := by
  obtain ⟨f, fd, F, e, i, n⟩ := a.ex
  exact ⟨f, fd, ⟨e, i, F.kp⟩, ok f fd F, F.binds hb⟩
/-- the table of what is turned, behind the top -/
structure TuAt (K : PySem.W.Frag) (w : World) (aT : Addr) : Prop where
  aK : PySem.W.nsIn K mainGlobals "_TURNED" = some (some (.ref aT))
  ex : ∃ es n, K.lookup aT = some ⟨.type "dict", none, .dict es n, #[]⟩ ∧ PySem.W.KeysLit w.params es.toList
  n0 : ∃ t, PySem.W.nsIn K aT "<=" = some (some (.str ">=" t))
  n1 : ∃ t, PySem.W.nsIn K aT ">=" = some (some (.str "<=" t))
  n2 : ∃ t, PySem.W.nsIn K aT "=" = some (some (.str "=" t))
  n3 : ∃ t, PySem.W.nsIn K aT "up" = some (some (.str "down" t))
  n4 : ∃ t, PySem.W.nsIn K aT "down" = some (some (.str "up" t))
theorem TuAt.txt {K : PySem.W.Frag} {w : World} {aT : Addr} {h : Heap} {mg : Str → Option Value} (L : TuAt K w aT) (X : K.In h) (G : h.Ns mainGlobals mg) : TuTxt K w mg aT := ⟨PySem.W.mg_of X G L.aK, fun s hs => by
  obtain ⟨es, n, hl, hk⟩ := L.ex
  have go : ∀ {x y : Str}, (∃ t, PySem.W.nsIn K aT x = some (some (.str y t))) → KDct K w aT x (.str y) := fun ⟨t, e⟩ => ⟨es, n, _, hl, hk, e, ⟨t, rfl⟩⟩
  rcases hs with (e | e | e) | (e | e) <;> subst e
  · exact go L.n0
  · exact go L.n1
  · exact go L.n2
  · exact go L.n3
  · exact go L.n4⟩
end OR

namespace OR
open PySem PySem.Spec PyProof.Rows L2
/-- what the proof reads of the heap behind the top -/
def K12 : Params → PySem.W.Frag := fun P =>
  (nat_lit 2, (⟨.none, none, .dict #[] 0, #[]⟩ : Obj)) ::
  (nat_lit 3, (⟨(.type "dict"), none, .dict #[⟨PyData.keyHash P "__name__", (.str "__name__" 165), (.str "law_openranges_k12_clauses_turned" 1608)⟩, ⟨PyData.keyHash P "__doc__", (.str "__doc__" 166), .none⟩, ⟨PyData.keyHash P "__package__", (.str "__package__" 167), .none⟩, ⟨PyData.keyHash P "__loader__", (.str "__loader__" 168), (.builtin "__main__.__loader__#opaque")⟩, ⟨PyData.keyHash P "__spec__", (.str "__spec__" 169), .none⟩, ⟨PyData.keyHash P "__annotations__", (.str "__annotations__" 170), (.ref 6)⟩, ⟨PyData.keyHash P "__builtins__", (.str "__builtins__" 171), (.ref 4)⟩, ⟨PyData.keyHash P "__file__", (.str "__file__" 173), (.str "/claim/cut.py" 172)⟩, ⟨PyData.keyHash P "__cached__", (.str "__cached__" 174), .none⟩, ⟨PyData.keyHash P "_wall", (.str "_wall" 193), (.ref 21)⟩, ⟨PyData.keyHash P "LAST_PLACE", (.str "LAST_PLACE" 199), (.int 1000000000000000000000000000000 198)⟩, ⟨PyData.keyHash P "_BLOCK_DIGITS", (.str "_BLOCK_DIGITS" 201), (.int 60 200)⟩, ⟨PyData.keyHash P "_BLOCK", (.str "_BLOCK" 205), (.int 1000000000000000000000000000000000000000000000000000000000000 204)⟩, ⟨PyData.keyHash P "is_integer", (.str "is_integer" 212), (.ref 28)⟩, ⟨PyData.keyHash P "is_place", (.str "is_place" 219), (.ref 35)⟩, ⟨PyData.keyHash P "decimal", (.str "decimal" 230), (.ref 42)⟩, ⟨PyData.keyHash P "read_decimal", (.str "read_decimal" 241), (.ref 49)⟩, ⟨PyData.keyHash P "read_place", (.str "read_place" 249), (.ref 56)⟩, ⟨PyData.keyHash P "Line", (.str "Line" 379), (.ref 157)⟩, ⟨PyData.keyHash P "_rising_text", (.str "_rising_text" 386), (.ref 168)⟩, ⟨PyData.keyHash P "RangesError", (.str "RangesError" 406), (.ref 178)⟩, ⟨PyData.keyHash P "BadStretch", (.str "BadStretch" 431), (.ref 198)⟩, ⟨PyData.keyHash P "BadText", (.str "BadText" 456), (.ref 217)⟩, ⟨PyData.keyHash P "BadWord", (.str "BadWord" 481), (.ref 236)⟩, ⟨PyData.keyHash P "SameFunction", (.str "SameFunction" 506), (.ref 255)⟩, ⟨PyData.keyHash P "BadSign", (.str "BadSign" 531), (.ref 274)⟩, ⟨PyData.keyHash P "BadFactor", (.str "BadFactor" 556), (.ref 293)⟩, ⟨PyData.keyHash P "NoPlace", (.str "NoPlace" 581), (.ref 312)⟩, ⟨PyData.keyHash P "_LETTERS", (.str "_LETTERS" 585), (.str "abcdefghijklmnopqrstuvwxyz" 584)⟩, ⟨PyData.keyHash P "_MOST_LETTERS", (.str "_MOST_LETTERS" 587), (.int 8 586)⟩, ⟨PyData.keyHash P "is_word", (.str "is_word" 593), (.ref 319)⟩, ⟨PyData.keyHash P "check_word", (.str "check_word" 600), (.ref 326)⟩, ⟨PyData.keyHash P "check_two_words", (.str "check_two_words" 608), (.ref 333)⟩, ⟨PyData.keyHash P "check_sign", (.str "check_sign" 616), (.ref 340)⟩, ⟨PyData.keyHash P "check_factor", (.str "check_factor" 623), (.ref 347)⟩, ⟨PyData.keyHash P "SIGNS", (.str "SIGNS" 629), (.ref 348)⟩, ⟨PyData.keyHash P "WAYS", (.str "WAYS" 632), (.ref 349)⟩, ⟨PyData.keyHash P "_TURNED", (.str "_TURNED" 648), (.ref 350)⟩, ⟨PyData.keyHash P "Answers", (.str "Answers" 734), (.ref 416)⟩, ⟨PyData.keyHash P "Refuses", (.str "Refuses" 820), (.ref 486)⟩, ⟨PyData.keyHash P "Needs", (.str "Needs" 908), (.ref 556)⟩, ⟨PyData.keyHash P "Spreads", (.str "Spreads" 996), (.ref 626)⟩, ⟨PyData.keyHash P "Bound", (.str "Bound" 1098), (.ref 703)⟩, ⟨PyData.keyHash P "Pair", (.str "Pair" 1205), (.ref 780)⟩, ⟨PyData.keyHash P "Step", (.str "Step" 1295), (.ref 850)⟩, ⟨PyData.keyHash P "_beginning", (.str "_beginning" 1302), (.ref 861)⟩, ⟨PyData.keyHash P "_added_text", (.str "_added_text" 1310), (.ref 868)⟩, ⟨PyData.keyHash P "overlaps", (.str "overlaps" 1325), (.ref 875)⟩, ⟨PyData.keyHash P "Places", (.str "Places" 1514), (.ref 1022)⟩, ⟨PyData.keyHash P "read_stretches", (.str "read_stretches" 1527), (.ref 1033)⟩, ⟨PyData.keyHash P "_is_stretch", (.str "_is_stretch" 1536), (.ref 1040)⟩, ⟨PyData.keyHash P "_joined", (.str "_joined" 1542), (.ref 1045)⟩, ⟨PyData.keyHash P "_counts_before", (.str "_counts_before" 1553), (.ref 1052)⟩, ⟨PyData.keyHash P "_how_many_upto", (.str "_how_many_upto" 1564), (.ref 1059)⟩, ⟨PyData.keyHash P "_common", (.str "_common" 1570), (.ref 1064)⟩, ⟨PyData.keyHash P "_gaps", (.str "_gaps" 1581), (.ref 1071)⟩, ⟨PyData.keyHash P "_cut_to_places", (.str "_cut_to_places" 1587), (.ref 1076)⟩, ⟨PyData.keyHash P "_stretch_text", (.str "_stretch_text" 1595), (.ref 1083)⟩, ⟨PyData.keyHash P "_read_stretch", (.str "_read_stretch" 1607), (.ref 1090)⟩, ⟨PyData.keyHash P "_law_pen", (.str "_law_pen" 1616), (.ref 1097)⟩, ⟨PyData.keyHash P "_law_draw", (.str "_law_draw" 1629), (.ref 1104)⟩, ⟨PyData.keyHash P "_law_pick", (.str "_law_pick" 1637), (.ref 1111)⟩, ⟨PyData.keyHash P "_law_shuffled", (.str "_law_shuffled" 1647), (.ref 1118)⟩, ⟨PyData.keyHash P "_law_words", (.str "_law_words" 1653), (.ref 1123)⟩, ⟨PyData.keyHash P "_law_spot", (.str "_law_spot" 1661), (.ref 1130)⟩, ⟨PyData.keyHash P "_law_drawn", (.str "_law_drawn" 1673), (.ref 1137)⟩, ⟨PyData.keyHash P "_law_merged", (.str "_law_merged" 1684), (.ref 1144)⟩, ⟨PyData.keyHash P "_law_whole", (.str "_law_whole" 1692), (.ref 1151)⟩, ⟨PyData.keyHash P "_law_line", (.str "_law_line" 1700), (.ref 1158)⟩, ⟨PyData.keyHash P "_law_spec", (.str "_law_spec" 1714), (.ref 1165)⟩, ⟨PyData.keyHash P "_law_clause", (.str "_law_clause" 1724), (.ref 1172)⟩, ⟨PyData.keyHash P "_law_parts", (.str "_law_parts" 1733), (.ref 1179)⟩, ⟨PyData.keyHash P "_law_with_numbers", (.str "_law_with_numbers" 1742), (.ref 1186)⟩, ⟨PyData.keyHash P "_law_numbers", (.str "_law_numbers" 1749), (.ref 1193)⟩, ⟨PyData.keyHash P "_law_turned_sign", (.str "_law_turned_sign" 1756), (.ref 1200)⟩, ⟨PyData.keyHash P "_law_is_of_numbers", (.str "_law_is_of_numbers" 1763), (.ref 1207)⟩, ⟨PyData.keyHash P "_law_negated", (.str "_law_negated" 1772), (.ref 1214)⟩, ⟨PyData.keyHash P "_law_times", (.str "_law_times" 1782), (.ref 1221)⟩, ⟨PyData.keyHash P "_law_moved", (.str "_law_moved" 1788), (.ref 1226)⟩, ⟨PyData.keyHash P "_law_mirrored", (.str "_law_mirrored" 1794), (.ref 1231)⟩, ⟨PyData.keyHash P "_law_refused", (.str "_law_refused" 1803), (.ref 1238)⟩, ⟨PyData.keyHash P "law", (.str "law" 1818), (.ref 1245)⟩] 82, #[]⟩ : Obj)) ::
  (nat_lit 27, (⟨(.type "code"), none, .fields #[.str "is_integer" 206, .str "is_integer" 207, .str "/claim/cut.py" 208, .int 8 0, .int 1 0, .int 0 0, .int 0 0, .int 3 0, .ref 22, .bool true, .int 181 0, .ref 23, .none, .ref 24, .ref 25, .ref 26, .int 210 0, .int 8 0, .str "/claim/cut.py" 211], #[]⟩ : Obj)) ::
  (nat_lit 28, (⟨(.type "function"), none, .func (PySem.W.fnOf "is_integer" "is_integer" (defArgs sIsInt) (defBody sIsInt) (defScope sIsInt) .none .none .none (.str "openranges.integers" 194) none (.ref 27) .none), #[]⟩ : Obj)) ::
  (nat_lit 34, (⟨(.type "code"), none, .fields #[.str "is_place" 213, .str "is_place" 214, .str "/claim/cut.py" 215, .int 10 0, .int 1 0, .int 0 0, .int 0 0, .int 3 0, .ref 29, .bool true, .int 181 0, .ref 30, .none, .ref 31, .ref 32, .ref 33, .int 217 0, .int 10 0, .str "/claim/cut.py" 218], #[]⟩ : Obj)) ::
  (nat_lit 35, (⟨(.type "function"), none, .func (PySem.W.fnOf "is_place" "is_place" (defArgs sIsPlace) (defBody sIsPlace) (defScope sIsPlace) .none .none .none (.str "openranges.integers" 194) none (.ref 34) .none), #[]⟩ : Obj)) ::
  (nat_lit 69, (⟨(.type "code"), none, .fields #[.str "__init__" 264, .str "Line.__init__" 265, .str "/claim/cut.py" 266, .int 36 0, .int 3 0, .int 0 0, .int 0 0, .int 3 0, .ref 64, .bool true, .int 181 0, .ref 65, .none, .ref 66, .ref 67, .ref 68, .int 270 0, .int 36 0, .str "/claim/cut.py" 271], #[]⟩ : Obj)) ::
  (nat_lit 70, (⟨(.type "function"), none, .func (PySem.W.fnOf "__init__" "Line.__init__" (defArgs sLInit) (defBody sLInit) (defScope sLInit) .none .none .none (.str "openranges.lines" 250) none (.ref 69) .none), #[]⟩ : Obj)) ::
  (nat_lit 139, (⟨(.type "code"), none, .fields #[.str "moved" 344, .str "Line.moved" 345, .str "/claim/cut.py" 346, .int 75 0, .int 2 0, .int 0 0, .int 0 0, .int 3 0, .ref 134, .bool true, .int 181 0, .ref 135, .none, .ref 136, .ref 137, .ref 138, .int 349 0, .int 75 0, .str "/claim/cut.py" 350], #[]⟩ : Obj)) ::
  (nat_lit 140, (⟨(.type "function"), none, .func (PySem.W.fnOf "moved" "Line.moved" (defArgs sLineMoved) (defBody sLineMoved) (defScope sLineMoved) .none .none .none (.str "openranges.lines" 250) none (.ref 139) .none), #[]⟩ : Obj)) ::
  (nat_lit 146, (⟨(.type "code"), none, .fields #[.str "mirrored" 352, .str "Line.mirrored" 353, .str "/claim/cut.py" 354, .int 78 0, .int 2 0, .int 0 0, .int 0 0, .int 3 0, .ref 141, .bool true, .int 181 0, .ref 142, .none, .ref 143, .ref 144, .ref 145, .int 357 0, .int 78 0, .str "/claim/cut.py" 358], #[]⟩ : Obj)) ::
  (nat_lit 147, (⟨(.type "function"), none, .func (PySem.W.fnOf "mirrored" "Line.mirrored" (defArgs sLineMirrored) (defBody sLineMirrored) (defScope sLineMirrored) .none .none .none (.str "openranges.lines" 250) none (.ref 146) .none), #[]⟩ : Obj)) ::
  (nat_lit 156, (⟨(.type "dict"), none, .dict #[⟨PyData.keyHash P "__module__", (.str "__module__" 259), (.str "openranges.lines" 250)⟩, ⟨PyData.keyHash P "__firstlineno__", (.str "__firstlineno__" 263), (.int 34 262)⟩, ⟨PyData.keyHash P "__init__", (.str "__init__" 272), (.ref 70)⟩, ⟨PyData.keyHash P "__call__", (.str "__call__" 280), (.ref 77)⟩, ⟨PyData.keyHash P "__eq__", (.str "__eq__" 288), (.ref 84)⟩, ⟨PyData.keyHash P "__add__", (.str "__add__" 296), (.ref 91)⟩, ⟨PyData.keyHash P "__radd__", (.str "__radd__" 304), (.ref 98)⟩, ⟨PyData.keyHash P "__neg__", (.str "__neg__" 311), (.ref 105)⟩, ⟨PyData.keyHash P "__sub__", (.str "__sub__" 319), (.ref 112)⟩, ⟨PyData.keyHash P "__rsub__", (.str "__rsub__" 327), (.ref 119)⟩, ⟨PyData.keyHash P "__mul__", (.str "__mul__" 335), (.ref 126)⟩, ⟨PyData.keyHash P "__rmul__", (.str "__rmul__" 343), (.ref 133)⟩, ⟨PyData.keyHash P "moved", (.str "moved" 351), (.ref 140)⟩, ⟨PyData.keyHash P "mirrored", (.str "mirrored" 359), (.ref 147)⟩, ⟨PyData.keyHash P "text", (.str "text" 368), (.ref 154)⟩, ⟨PyData.keyHash P "__static_attributes__", (.str "__static_attributes__" 371), (.ref 155)⟩, ⟨PyData.keyHash P "__dict__", (.str "__dict__" 373), (.ref 158)⟩, ⟨PyData.keyHash P "__weakref__", (.str "__weakref__" 375), (.ref 159)⟩, ⟨PyData.keyHash P "__doc__", (.str "__doc__" 376), .none⟩, ⟨PyData.keyHash P "__hash__", (.str "__hash__" 377), .none⟩] 5, #[]⟩ : Obj)) ::
  (nat_lit 157, (⟨(.type "type"), none, .cls ⟨"Line", [.type "object"], [.ref 157, .type "object"], 156, "Line", true, [], [], false, none, false⟩, #[none, none, some (.str "Line" 252), some (.str "Line" 260), some (.builtin "object.__new__"), some (.bool true)]⟩ : Obj)) ::
  (nat_lit 177, (⟨(.type "dict"), none, .dict #[⟨PyData.keyHash P "__module__", (.str "__module__" 396), (.str "openranges.errors" 387)⟩, ⟨PyData.keyHash P "__firstlineno__", (.str "__firstlineno__" 400), (.int 96 399)⟩, ⟨PyData.keyHash P "__static_attributes__", (.str "__static_attributes__" 401), (.ref 176)⟩, ⟨PyData.keyHash P "__weakref__", (.str "__weakref__" 403), (.ref 179)⟩, ⟨PyData.keyHash P "__doc__", (.str "__doc__" 404), .none⟩] 3, #[]⟩ : Obj)) ::
  (nat_lit 178, (⟨(.type "type"), none, .cls ⟨"RangesError", [.type "ValueError"], [.ref 178, .type "ValueError", .type "Exception", .type "BaseException", .type "object"], 177, "RangesError", true, [], [.ref 198, .ref 217, .ref 236, .ref 255, .ref 274, .ref 293, .ref 312], false, none, false⟩, #[some (.ref 169), none, some (.str "RangesError" 389), some (.str "RangesError" 397), some (.builtin "ValueError.__new__"), some (.bool true)]⟩ : Obj)) ::
  (nat_lit 289, (⟨(.type "code"), none, .fields #[.str "__init__" 544, .str "BadFactor.__init__" 545, .str "/claim/cut.py" 546, .int 120 0, .int 2 0, .int 0 0, .int 0 0, .int 3 0, .ref 284, .bool true, .int 181 0, .ref 285, .none, .ref 286, .ref 287, .ref 288, .int 549 0, .int 120 0, .str "/claim/cut.py" 550], #[]⟩ : Obj)) ::
  (nat_lit 290, (⟨(.type "function"), none, .func (PySem.W.fnOf "__init__" "BadFactor.__init__" (defArgs sBadFactorInit) (defBody sBadFactorInit) (defScope sBadFactorInit) .none .none .none (.str "openranges.errors" 387) none (.ref 289) .none), #[]⟩ : Obj)) ::
  (nat_lit 292, (⟨(.type "dict"), none, .dict #[⟨PyData.keyHash P "__module__", (.str "__module__" 539), (.str "openranges.errors" 387)⟩, ⟨PyData.keyHash P "__firstlineno__", (.str "__firstlineno__" 543), (.int 118 542)⟩, ⟨PyData.keyHash P "__init__", (.str "__init__" 551), (.ref 290)⟩, ⟨PyData.keyHash P "__static_attributes__", (.str "__static_attributes__" 553), (.ref 291)⟩, ⟨PyData.keyHash P "__doc__", (.str "__doc__" 554), .none⟩] 2, #[]⟩ : Obj)) ::
  (nat_lit 293, (⟨(.type "type"), none, .cls ⟨"BadFactor", [.ref 178], [.ref 293, .ref 178, .type "ValueError", .type "Exception", .type "BaseException", .type "object"], 292, "BadFactor", true, [], [], false, none, false⟩, #[some (.ref 277), none, some (.str "BadFactor" 532), some (.str "BadFactor" 540), some (.builtin "ValueError.__new__"), some (.bool true)]⟩ : Obj)) ::
  (nat_lit 318, (⟨(.type "code"), none, .fields #[.str "is_word" 588, .str "is_word" 589, .str "/claim/cut.py" 590, .int 129 0, .int 1 0, .int 0 0, .int 0 0, .int 3 0, .ref 315, .bool true, .int 181 0, .ref 316, .none, .none, .none, .ref 317, .int 591 0, .int 129 0, .str "/claim/cut.py" 592], #[]⟩ : Obj)) ::
  (nat_lit 319, (⟨(.type "function"), none, .func (PySem.W.fnOf "is_word" "is_word" (defArgs sIsWord) (defBody sIsWord) (defScope sIsWord) .none .none .none (.str "openranges.words" 582) none (.ref 318) .none), #[]⟩ : Obj)) ::
  (nat_lit 325, (⟨(.type "code"), none, .fields #[.str "check_word" 594, .str "check_word" 595, .str "/claim/cut.py" 596, .int 133 0, .int 1 0, .int 0 0, .int 0 0, .int 3 0, .ref 320, .bool true, .int 181 0, .ref 321, .none, .ref 322, .ref 323, .ref 324, .int 598 0, .int 133 0, .str "/claim/cut.py" 599], #[]⟩ : Obj)) ::
  (nat_lit 326, (⟨(.type "function"), none, .func (PySem.W.fnOf "check_word" "check_word" (defArgs sChkW) (defBody sChkW) (defScope sChkW) .none .none .none (.str "openranges.words" 582) none (.ref 325) .none), #[]⟩ : Obj)) ::
  (nat_lit 332, (⟨(.type "code"), none, .fields #[.str "check_two_words" 601, .str "check_two_words" 602, .str "/claim/cut.py" 603, .int 136 0, .int 2 0, .int 0 0, .int 0 0, .int 3 0, .ref 327, .bool true, .int 181 0, .ref 328, .none, .ref 329, .ref 330, .ref 331, .int 606 0, .int 136 0, .str "/claim/cut.py" 607], #[]⟩ : Obj)) ::
  (nat_lit 333, (⟨(.type "function"), none, .func (PySem.W.fnOf "check_two_words" "check_two_words" (defArgs sChkTwo) (defBody sChkTwo) (defScope sChkTwo) .none .none .none (.str "openranges.words" 582) none (.ref 332) .none), #[]⟩ : Obj)) ::
  (nat_lit 339, (⟨(.type "code"), none, .fields #[.str "check_sign" 609, .str "check_sign" 610, .str "/claim/cut.py" 611, .int 141 0, .int 2 0, .int 0 0, .int 0 0, .int 3 0, .ref 334, .bool true, .int 181 0, .ref 335, .none, .ref 336, .ref 337, .ref 338, .int 614 0, .int 141 0, .str "/claim/cut.py" 615], #[]⟩ : Obj)) ::
  (nat_lit 340, (⟨(.type "function"), none, .func (PySem.W.fnOf "check_sign" "check_sign" (defArgs sChkSign) (defBody sChkSign) (defScope sChkSign) .none .none .none (.str "openranges.words" 582) none (.ref 339) .none), #[]⟩ : Obj)) ::
  (nat_lit 346, (⟨(.type "code"), none, .fields #[.str "check_factor" 617, .str "check_factor" 618, .str "/claim/cut.py" 619, .int 144 0, .int 1 0, .int 0 0, .int 0 0, .int 3 0, .ref 341, .bool true, .int 181 0, .ref 342, .none, .ref 343, .ref 344, .ref 345, .int 621 0, .int 144 0, .str "/claim/cut.py" 622], #[]⟩ : Obj)) ::
  (nat_lit 347, (⟨(.type "function"), none, .func (PySem.W.fnOf "check_factor" "check_factor" (defArgs pCheckFactor) (defBody pCheckFactor) (defScope pCheckFactor) .none .none .none (.str "openranges.words" 582) none (.ref 346) .none), #[]⟩ : Obj)) ::
  (nat_lit 348, (⟨(.type "tuple"), none, .seq #[.str "<=" 626, .str ">=" 627, .str "=" 628] 0, #[]⟩ : Obj)) ::
  (nat_lit 349, (⟨(.type "tuple"), none, .seq #[.str "up" 630, .str "down" 631] 0, #[]⟩ : Obj)) ::
  (nat_lit 350, (⟨(.type "dict"), none, .dict #[⟨PyData.keyHash P "<=", (.str "<=" 633), (.str ">=" 634)⟩, ⟨PyData.keyHash P ">=", (.str ">=" 635), (.str "<=" 636)⟩, ⟨PyData.keyHash P "=", (.str "=" 637), (.str "=" 638)⟩, ⟨PyData.keyHash P "up", (.str "up" 639), (.str "down" 640)⟩, ⟨PyData.keyHash P "down", (.str "down" 641), (.str "up" 642)⟩] 5, #[]⟩ : Obj)) ::
  (nat_lit 363, (⟨(.type "code"), none, .fields #[.str "__init__" 661, .str "Answers.__init__" 662, .str "/claim/cut.py" 663, .int 153 0, .int 3 0, .int 0 0, .int 0 0, .int 3 0, .ref 358, .bool true, .int 181 0, .ref 359, .none, .ref 360, .ref 361, .ref 362, .int 667 0, .int 153 0, .str "/claim/cut.py" 668], #[]⟩ : Obj)) ::
  (nat_lit 364, (⟨(.type "function"), none, .func (PySem.W.fnOf "__init__" "Answers.__init__" (defArgs sAnsInit) (defBody sAnsInit) (defScope sAnsInit) .none .none .none (.str "openranges.clauses" 624) none (.ref 363) .none), #[]⟩ : Obj)) ::
  (nat_lit 370, (⟨(.type "code"), none, .fields #[.str "__eq__" 670, .str "Answers.__eq__" 671, .str "/claim/cut.py" 672, .int 159 0, .int 2 0, .int 0 0, .int 0 0, .int 3 0, .ref 365, .bool true, .int 181 0, .ref 366, .none, .ref 367, .ref 368, .ref 369, .int 675 0, .int 159 0, .str "/claim/cut.py" 676], #[]⟩ : Obj)) ::
  (nat_lit 371, (⟨(.type "function"), none, .func (PySem.W.fnOf "__eq__" "Answers.__eq__" (defArgs sAnsEq) (defBody sAnsEq) (defScope sAnsEq) .none .none .none (.str "openranges.clauses" 624) none (.ref 370) .none), #[]⟩ : Obj)) ::
  (nat_lit 384, (⟨(.type "code"), none, .fields #[.str "negated" 685, .str "Answers.negated" 686, .str "/claim/cut.py" 687, .int 165 0, .int 1 0, .int 0 0, .int 0 0, .int 3 0, .ref 379, .bool true, .int 181 0, .ref 380, .none, .ref 381, .ref 382, .ref 383, .int 689 0, .int 165 0, .str "/claim/cut.py" 690], #[]⟩ : Obj)) ::
  (nat_lit 385, (⟨(.type "function"), none, .func (PySem.W.fnOf "negated" "Answers.negated" (defArgs sAnsNeg) (defBody sAnsNeg) (defScope sAnsNeg) .none .none .none (.str "openranges.clauses" 624) none (.ref 384) .none), #[]⟩ : Obj)) ::
  (nat_lit 391, (⟨(.type "code"), none, .fields #[.str "times" 692, .str "Answers.times" 693, .str "/claim/cut.py" 694, .int 168 0, .int 2 0, .int 0 0, .int 0 0, .int 3 0, .ref 386, .bool true, .int 181 0, .ref 387, .none, .ref 388, .ref 389, .ref 390, .int 697 0, .int 168 0, .str "/claim/cut.py" 698], #[]⟩ : Obj)) ::
  (nat_lit 392, (⟨(.type "function"), none, .func (PySem.W.fnOf "times" "Answers.times" (defArgs sAnsTim) (defBody sAnsTim) (defScope sAnsTim) .none .none .none (.str "openranges.clauses" 624) none (.ref 391) .none), #[]⟩ : Obj)) ::
  (nat_lit 398, (⟨(.type "code"), none, .fields #[.str "moved" 700, .str "Answers.moved" 701, .str "/claim/cut.py" 702, .int 172 0, .int 2 0, .int 0 0, .int 0 0, .int 3 0, .ref 393, .bool true, .int 181 0, .ref 394, .none, .ref 395, .ref 396, .ref 397, .int 705 0, .int 172 0, .str "/claim/cut.py" 706], #[]⟩ : Obj)) ::
  (nat_lit 399, (⟨(.type "function"), none, .func (PySem.W.fnOf "moved" "Answers.moved" (defArgs sAnsMov) (defBody sAnsMov) (defScope sAnsMov) .none .none .none (.str "openranges.clauses" 624) none (.ref 398) .none), #[]⟩ : Obj)) ::
  (nat_lit 405, (⟨(.type "code"), none, .fields #[.str "mirrored" 708, .str "Answers.mirrored" 709, .str "/claim/cut.py" 710, .int 175 0, .int 2 0, .int 0 0, .int 0 0, .int 3 0, .ref 400, .bool true, .int 181 0, .ref 401, .none, .ref 402, .ref 403, .ref 404, .int 713 0, .int 175 0, .str "/claim/cut.py" 714], #[]⟩ : Obj)) ::
  (nat_lit 406, (⟨(.type "function"), none, .func (PySem.W.fnOf "mirrored" "Answers.mirrored" (defArgs sAnsMir) (defBody sAnsMir) (defScope sAnsMir) .none .none .none (.str "openranges.clauses" 624) none (.ref 405) .none), #[]⟩ : Obj)) ::
  (nat_lit 415, (⟨(.type "dict"), none, .dict #[⟨PyData.keyHash P "__module__", (.str "__module__" 656), (.str "openranges.clauses" 624)⟩, ⟨PyData.keyHash P "__firstlineno__", (.str "__firstlineno__" 660), (.int 151 659)⟩, ⟨PyData.keyHash P "__init__", (.str "__init__" 669), (.ref 364)⟩, ⟨PyData.keyHash P "__eq__", (.str "__eq__" 677), (.ref 371)⟩, ⟨PyData.keyHash P "functions_told", (.str "functions_told" 684), (.ref 378)⟩, ⟨PyData.keyHash P "negated", (.str "negated" 691), (.ref 385)⟩, ⟨PyData.keyHash P "times", (.str "times" 699), (.ref 392)⟩, ⟨PyData.keyHash P "moved", (.str "moved" 707), (.ref 399)⟩, ⟨PyData.keyHash P "mirrored", (.str "mirrored" 715), (.ref 406)⟩, ⟨PyData.keyHash P "text", (.str "text" 722), (.ref 413)⟩, ⟨PyData.keyHash P "__static_attributes__", (.str "__static_attributes__" 726), (.ref 414)⟩, ⟨PyData.keyHash P "__dict__", (.str "__dict__" 728), (.ref 417)⟩, ⟨PyData.keyHash P "__weakref__", (.str "__weakref__" 730), (.ref 418)⟩, ⟨PyData.keyHash P "__doc__", (.str "__doc__" 731), .none⟩, ⟨PyData.keyHash P "__hash__", (.str "__hash__" 732), .none⟩] 5, #[]⟩ : Obj)) ::
  (nat_lit 416, (⟨(.type "type"), none, .cls ⟨"Answers", [.type "object"], [.ref 416, .type "object"], 415, "Answers", true, [], [], false, none, false⟩, #[none, none, some (.str "Answers" 649), some (.str "Answers" 657), some (.builtin "object.__new__"), some (.bool true)]⟩ : Obj)) ::
  (nat_lit 433, (⟨(.type "code"), none, .fields #[.str "__init__" 747, .str "Refuses.__init__" 748, .str "/claim/cut.py" 749, .int 182 0, .int 3 0, .int 0 0, .int 0 0, .int 3 0, .ref 428, .bool true, .int 181 0, .ref 429, .none, .ref 430, .ref 431, .ref 432, .int 753 0, .int 182 0, .str "/claim/cut.py" 754], #[]⟩ : Obj)) ::
  (nat_lit 434, (⟨(.type "function"), none, .func (PySem.W.fnOf "__init__" "Refuses.__init__" (defArgs sRefInit) (defBody sRefInit) (defScope sRefInit) .none .none .none (.str "openranges.clauses" 624) none (.ref 433) .none), #[]⟩ : Obj)) ::
  (nat_lit 440, (⟨(.type "code"), none, .fields #[.str "__eq__" 756, .str "Refuses.__eq__" 757, .str "/claim/cut.py" 758, .int 188 0, .int 2 0, .int 0 0, .int 0 0, .int 3 0, .ref 435, .bool true, .int 181 0, .ref 436, .none, .ref 437, .ref 438, .ref 439, .int 761 0, .int 188 0, .str "/claim/cut.py" 762], #[]⟩ : Obj)) ::
  (nat_lit 441, (⟨(.type "function"), none, .func (PySem.W.fnOf "__eq__" "Refuses.__eq__" (defArgs sRefEq) (defBody sRefEq) (defScope sRefEq) .none .none .none (.str "openranges.clauses" 624) none (.ref 440) .none), #[]⟩ : Obj)) ::
  (nat_lit 454, (⟨(.type "code"), none, .fields #[.str "negated" 771, .str "Refuses.negated" 772, .str "/claim/cut.py" 773, .int 194 0, .int 1 0, .int 0 0, .int 0 0, .int 3 0, .ref 449, .bool true, .int 181 0, .ref 450, .none, .ref 451, .ref 452, .ref 453, .int 775 0, .int 194 0, .str "/claim/cut.py" 776], #[]⟩ : Obj)) ::
  (nat_lit 455, (⟨(.type "function"), none, .func (PySem.W.fnOf "negated" "Refuses.negated" (defArgs sRefNeg) (defBody sRefNeg) (defScope sRefNeg) .none .none .none (.str "openranges.clauses" 624) none (.ref 454) .none), #[]⟩ : Obj)) ::
  (nat_lit 461, (⟨(.type "code"), none, .fields #[.str "times" 778, .str "Refuses.times" 779, .str "/claim/cut.py" 780, .int 197 0, .int 2 0, .int 0 0, .int 0 0, .int 3 0, .ref 456, .bool true, .int 181 0, .ref 457, .none, .ref 458, .ref 459, .ref 460, .int 783 0, .int 197 0, .str "/claim/cut.py" 784], #[]⟩ : Obj)) ::
  (nat_lit 462, (⟨(.type "function"), none, .func (PySem.W.fnOf "times" "Refuses.times" (defArgs sRefTim) (defBody sRefTim) (defScope sRefTim) .none .none .none (.str "openranges.clauses" 624) none (.ref 461) .none), #[]⟩ : Obj)) ::
  (nat_lit 468, (⟨(.type "code"), none, .fields #[.str "moved" 786, .str "Refuses.moved" 787, .str "/claim/cut.py" 788, .int 201 0, .int 2 0, .int 0 0, .int 0 0, .int 3 0, .ref 463, .bool true, .int 181 0, .ref 464, .none, .ref 465, .ref 466, .ref 467, .int 791 0, .int 201 0, .str "/claim/cut.py" 792], #[]⟩ : Obj)) ::
  (nat_lit 469, (⟨(.type "function"), none, .func (PySem.W.fnOf "moved" "Refuses.moved" (defArgs sRefMov) (defBody sRefMov) (defScope sRefMov) .none .none .none (.str "openranges.clauses" 624) none (.ref 468) .none), #[]⟩ : Obj)) ::
  (nat_lit 475, (⟨(.type "code"), none, .fields #[.str "mirrored" 794, .str "Refuses.mirrored" 795, .str "/claim/cut.py" 796, .int 204 0, .int 2 0, .int 0 0, .int 0 0, .int 3 0, .ref 470, .bool true, .int 181 0, .ref 471, .none, .ref 472, .ref 473, .ref 474, .int 799 0, .int 204 0, .str "/claim/cut.py" 800], #[]⟩ : Obj)) ::
  (nat_lit 476, (⟨(.type "function"), none, .func (PySem.W.fnOf "mirrored" "Refuses.mirrored" (defArgs sRefMir) (defBody sRefMir) (defScope sRefMir) .none .none .none (.str "openranges.clauses" 624) none (.ref 475) .none), #[]⟩ : Obj)) ::
  (nat_lit 485, (⟨(.type "dict"), none, .dict #[⟨PyData.keyHash P "__module__", (.str "__module__" 742), (.str "openranges.clauses" 624)⟩, ⟨PyData.keyHash P "__firstlineno__", (.str "__firstlineno__" 746), (.int 180 745)⟩, ⟨PyData.keyHash P "__init__", (.str "__init__" 755), (.ref 434)⟩, ⟨PyData.keyHash P "__eq__", (.str "__eq__" 763), (.ref 441)⟩, ⟨PyData.keyHash P "functions_told", (.str "functions_told" 770), (.ref 448)⟩, ⟨PyData.keyHash P "negated", (.str "negated" 777), (.ref 455)⟩, ⟨PyData.keyHash P "times", (.str "times" 785), (.ref 462)⟩, ⟨PyData.keyHash P "moved", (.str "moved" 793), (.ref 469)⟩, ⟨PyData.keyHash P "mirrored", (.str "mirrored" 801), (.ref 476)⟩, ⟨PyData.keyHash P "text", (.str "text" 808), (.ref 483)⟩, ⟨PyData.keyHash P "__static_attributes__", (.str "__static_attributes__" 812), (.ref 484)⟩, ⟨PyData.keyHash P "__dict__", (.str "__dict__" 814), (.ref 487)⟩, ⟨PyData.keyHash P "__weakref__", (.str "__weakref__" 816), (.ref 488)⟩, ⟨PyData.keyHash P "__doc__", (.str "__doc__" 817), .none⟩, ⟨PyData.keyHash P "__hash__", (.str "__hash__" 818), .none⟩] 5, #[]⟩ : Obj)) ::
  (nat_lit 486, (⟨(.type "type"), none, .cls ⟨"Refuses", [.type "object"], [.ref 486, .type "object"], 485, "Refuses", true, [], [], false, none, false⟩, #[none, none, some (.str "Refuses" 735), some (.str "Refuses" 743), some (.builtin "object.__new__"), some (.bool true)]⟩ : Obj)) ::
  (nat_lit 503, (⟨(.type "code"), none, .fields #[.str "__init__" 833, .str "Needs.__init__" 834, .str "/claim/cut.py" 835, .int 211 0, .int 4 0, .int 0 0, .int 0 0, .int 3 0, .ref 498, .bool true, .int 181 0, .ref 499, .none, .ref 500, .ref 501, .ref 502, .int 840 0, .int 211 0, .str "/claim/cut.py" 841], #[]⟩ : Obj)) ::
  (nat_lit 504, (⟨(.type "function"), none, .func (PySem.W.fnOf "__init__" "Needs.__init__" (defArgs sNeeInit) (defBody sNeeInit) (defScope sNeeInit) .none .none .none (.str "openranges.clauses" 624) none (.ref 503) .none), #[]⟩ : Obj)) ::
  (nat_lit 510, (⟨(.type "code"), none, .fields #[.str "__eq__" 843, .str "Needs.__eq__" 844, .str "/claim/cut.py" 845, .int 218 0, .int 2 0, .int 0 0, .int 0 0, .int 3 0, .ref 505, .bool true, .int 181 0, .ref 506, .none, .ref 507, .ref 508, .ref 509, .int 848 0, .int 218 0, .str "/claim/cut.py" 849], #[]⟩ : Obj)) ::
  (nat_lit 511, (⟨(.type "function"), none, .func (PySem.W.fnOf "__eq__" "Needs.__eq__" (defArgs sNeeEq) (defBody sNeeEq) (defScope sNeeEq) .none .none .none (.str "openranges.clauses" 624) none (.ref 510) .none), #[]⟩ : Obj)) ::
  (nat_lit 524, (⟨(.type "code"), none, .fields #[.str "negated" 858, .str "Needs.negated" 859, .str "/claim/cut.py" 860, .int 226 0, .int 1 0, .int 0 0, .int 0 0, .int 3 0, .ref 519, .bool true, .int 181 0, .ref 520, .none, .ref 521, .ref 522, .ref 523, .int 862 0, .int 226 0, .str "/claim/cut.py" 863], #[]⟩ : Obj)) ::
  (nat_lit 525, (⟨(.type "function"), none, .func (PySem.W.fnOf "negated" "Needs.negated" (defArgs sNeeNeg) (defBody sNeeNeg) (defScope sNeeNeg) .none .none .none (.str "openranges.clauses" 624) none (.ref 524) .none), #[]⟩ : Obj)) ::
  (nat_lit 531, (⟨(.type "code"), none, .fields #[.str "times" 865, .str "Needs.times" 866, .str "/claim/cut.py" 867, .int 229 0, .int 2 0, .int 0 0, .int 0 0, .int 3 0, .ref 526, .bool true, .int 181 0, .ref 527, .none, .ref 528, .ref 529, .ref 530, .int 870 0, .int 229 0, .str "/claim/cut.py" 871], #[]⟩ : Obj)) ::
  (nat_lit 532, (⟨(.type "function"), none, .func (PySem.W.fnOf "times" "Needs.times" (defArgs sNeeTim) (defBody sNeeTim) (defScope sNeeTim) .none .none .none (.str "openranges.clauses" 624) none (.ref 531) .none), #[]⟩ : Obj)) ::
  (nat_lit 538, (⟨(.type "code"), none, .fields #[.str "moved" 873, .str "Needs.moved" 874, .str "/claim/cut.py" 875, .int 233 0, .int 2 0, .int 0 0, .int 0 0, .int 3 0, .ref 533, .bool true, .int 181 0, .ref 534, .none, .ref 535, .ref 536, .ref 537, .int 878 0, .int 233 0, .str "/claim/cut.py" 879], #[]⟩ : Obj)) ::
  (nat_lit 539, (⟨(.type "function"), none, .func (PySem.W.fnOf "moved" "Needs.moved" (defArgs sNeeMov) (defBody sNeeMov) (defScope sNeeMov) .none .none .none (.str "openranges.clauses" 624) none (.ref 538) .none), #[]⟩ : Obj)) ::
  (nat_lit 545, (⟨(.type "code"), none, .fields #[.str "mirrored" 881, .str "Needs.mirrored" 882, .str "/claim/cut.py" 883, .int 236 0, .int 2 0, .int 0 0, .int 0 0, .int 3 0, .ref 540, .bool true, .int 181 0, .ref 541, .none, .ref 542, .ref 543, .ref 544, .int 886 0, .int 236 0, .str "/claim/cut.py" 887], #[]⟩ : Obj)) ::
  (nat_lit 546, (⟨(.type "function"), none, .func (PySem.W.fnOf "mirrored" "Needs.mirrored" (defArgs sNeeMir) (defBody sNeeMir) (defScope sNeeMir) .none .none .none (.str "openranges.clauses" 624) none (.ref 545) .none), #[]⟩ : Obj)) ::
  (nat_lit 555, (⟨(.type "dict"), none, .dict #[⟨PyData.keyHash P "__module__", (.str "__module__" 828), (.str "openranges.clauses" 624)⟩, ⟨PyData.keyHash P "__firstlineno__", (.str "__firstlineno__" 832), (.int 209 831)⟩, ⟨PyData.keyHash P "__init__", (.str "__init__" 842), (.ref 504)⟩, ⟨PyData.keyHash P "__eq__", (.str "__eq__" 850), (.ref 511)⟩, ⟨PyData.keyHash P "functions_told", (.str "functions_told" 857), (.ref 518)⟩, ⟨PyData.keyHash P "negated", (.str "negated" 864), (.ref 525)⟩, ⟨PyData.keyHash P "times", (.str "times" 872), (.ref 532)⟩, ⟨PyData.keyHash P "moved", (.str "moved" 880), (.ref 539)⟩, ⟨PyData.keyHash P "mirrored", (.str "mirrored" 888), (.ref 546)⟩, ⟨PyData.keyHash P "text", (.str "text" 895), (.ref 553)⟩, ⟨PyData.keyHash P "__static_attributes__", (.str "__static_attributes__" 900), (.ref 554)⟩, ⟨PyData.keyHash P "__dict__", (.str "__dict__" 902), (.ref 557)⟩, ⟨PyData.keyHash P "__weakref__", (.str "__weakref__" 904), (.ref 558)⟩, ⟨PyData.keyHash P "__doc__", (.str "__doc__" 905), .none⟩, ⟨PyData.keyHash P "__hash__", (.str "__hash__" 906), .none⟩] 5, #[]⟩ : Obj)) ::
  (nat_lit 556, (⟨(.type "type"), none, .cls ⟨"Needs", [.type "object"], [.ref 556, .type "object"], 555, "Needs", true, [], [], false, none, false⟩, #[none, none, some (.str "Needs" 821), some (.str "Needs" 829), some (.builtin "object.__new__"), some (.bool true)]⟩ : Obj)) ::
  (nat_lit 573, (⟨(.type "code"), none, .fields #[.str "__init__" 921, .str "Spreads.__init__" 922, .str "/claim/cut.py" 923, .int 243 0, .int 4 0, .int 0 0, .int 0 0, .int 3 0, .ref 568, .bool true, .int 181 0, .ref 569, .none, .ref 570, .ref 571, .ref 572, .int 928 0, .int 243 0, .str "/claim/cut.py" 929], #[]⟩ : Obj)) ::
  (nat_lit 574, (⟨(.type "function"), none, .func (PySem.W.fnOf "__init__" "Spreads.__init__" (defArgs sSprInit) (defBody sSprInit) (defScope sSprInit) .none .none .none (.str "openranges.clauses" 624) none (.ref 573) .none), #[]⟩ : Obj)) ::
  (nat_lit 580, (⟨(.type "code"), none, .fields #[.str "__eq__" 931, .str "Spreads.__eq__" 932, .str "/claim/cut.py" 933, .int 251 0, .int 2 0, .int 0 0, .int 0 0, .int 3 0, .ref 575, .bool true, .int 181 0, .ref 576, .none, .ref 577, .ref 578, .ref 579, .int 936 0, .int 251 0, .str "/claim/cut.py" 937], #[]⟩ : Obj)) ::
  (nat_lit 581, (⟨(.type "function"), none, .func (PySem.W.fnOf "__eq__" "Spreads.__eq__" (defArgs sSprEq) (defBody sSprEq) (defScope sSprEq) .none .none .none (.str "openranges.clauses" 624) none (.ref 580) .none), #[]⟩ : Obj)) ::
  (nat_lit 594, (⟨(.type "code"), none, .fields #[.str "negated" 946, .str "Spreads.negated" 947, .str "/claim/cut.py" 948, .int 259 0, .int 1 0, .int 0 0, .int 0 0, .int 3 0, .ref 589, .bool true, .int 181 0, .ref 590, .none, .ref 591, .ref 592, .ref 593, .int 950 0, .int 259 0, .str "/claim/cut.py" 951], #[]⟩ : Obj)) ::
  (nat_lit 595, (⟨(.type "function"), none, .func (PySem.W.fnOf "negated" "Spreads.negated" (defArgs sSprNeg) (defBody sSprNeg) (defScope sSprNeg) .none .none .none (.str "openranges.clauses" 624) none (.ref 594) .none), #[]⟩ : Obj)) ::
  (nat_lit 601, (⟨(.type "code"), none, .fields #[.str "times" 953, .str "Spreads.times" 954, .str "/claim/cut.py" 955, .int 262 0, .int 2 0, .int 0 0, .int 0 0, .int 3 0, .ref 596, .bool true, .int 181 0, .ref 597, .none, .ref 598, .ref 599, .ref 600, .int 958 0, .int 262 0, .str "/claim/cut.py" 959], #[]⟩ : Obj)) ::
  (nat_lit 602, (⟨(.type "function"), none, .func (PySem.W.fnOf "times" "Spreads.times" (defArgs sSprTim) (defBody sSprTim) (defScope sSprTim) .none .none .none (.str "openranges.clauses" 624) none (.ref 601) .none), #[]⟩ : Obj)) ::
  (nat_lit 608, (⟨(.type "code"), none, .fields #[.str "moved" 961, .str "Spreads.moved" 962, .str "/claim/cut.py" 963, .int 266 0, .int 2 0, .int 0 0, .int 0 0, .int 3 0, .ref 603, .bool true, .int 181 0, .ref 604, .none, .ref 605, .ref 606, .ref 607, .int 966 0, .int 266 0, .str "/claim/cut.py" 967], #[]⟩ : Obj)) ::
  (nat_lit 609, (⟨(.type "function"), none, .func (PySem.W.fnOf "moved" "Spreads.moved" (defArgs sSprMov) (defBody sSprMov) (defScope sSprMov) .none .none .none (.str "openranges.clauses" 624) none (.ref 608) .none), #[]⟩ : Obj)) ::
  (nat_lit 615, (⟨(.type "code"), none, .fields #[.str "mirrored" 969, .str "Spreads.mirrored" 970, .str "/claim/cut.py" 971, .int 269 0, .int 2 0, .int 0 0, .int 0 0, .int 3 0, .ref 610, .bool true, .int 181 0, .ref 611, .none, .ref 612, .ref 613, .ref 614, .int 974 0, .int 269 0, .str "/claim/cut.py" 975], #[]⟩ : Obj)) ::
  (nat_lit 616, (⟨(.type "function"), none, .func (PySem.W.fnOf "mirrored" "Spreads.mirrored" (defArgs sSprMir) (defBody sSprMir) (defScope sSprMir) .none .none .none (.str "openranges.clauses" 624) none (.ref 615) .none), #[]⟩ : Obj)) ::
  (nat_lit 625, (⟨(.type "dict"), none, .dict #[⟨PyData.keyHash P "__module__", (.str "__module__" 916), (.str "openranges.clauses" 624)⟩, ⟨PyData.keyHash P "__firstlineno__", (.str "__firstlineno__" 920), (.int 241 919)⟩, ⟨PyData.keyHash P "__init__", (.str "__init__" 930), (.ref 574)⟩, ⟨PyData.keyHash P "__eq__", (.str "__eq__" 938), (.ref 581)⟩, ⟨PyData.keyHash P "functions_told", (.str "functions_told" 945), (.ref 588)⟩, ⟨PyData.keyHash P "negated", (.str "negated" 952), (.ref 595)⟩, ⟨PyData.keyHash P "times", (.str "times" 960), (.ref 602)⟩, ⟨PyData.keyHash P "moved", (.str "moved" 968), (.ref 609)⟩, ⟨PyData.keyHash P "mirrored", (.str "mirrored" 976), (.ref 616)⟩, ⟨PyData.keyHash P "text", (.str "text" 983), (.ref 623)⟩, ⟨PyData.keyHash P "__static_attributes__", (.str "__static_attributes__" 988), (.ref 624)⟩, ⟨PyData.keyHash P "__dict__", (.str "__dict__" 990), (.ref 627)⟩, ⟨PyData.keyHash P "__weakref__", (.str "__weakref__" 992), (.ref 628)⟩, ⟨PyData.keyHash P "__doc__", (.str "__doc__" 993), .none⟩, ⟨PyData.keyHash P "__hash__", (.str "__hash__" 994), .none⟩] 5, #[]⟩ : Obj)) ::
  (nat_lit 626, (⟨(.type "type"), none, .cls ⟨"Spreads", [.type "object"], [.ref 626, .type "object"], 625, "Spreads", true, [], [], false, none, false⟩, #[none, none, some (.str "Spreads" 909), some (.str "Spreads" 917), some (.builtin "object.__new__"), some (.bool true)]⟩ : Obj)) ::
  (nat_lit 643, (⟨(.type "code"), none, .fields #[.str "__init__" 1009, .str "Bound.__init__" 1010, .str "/claim/cut.py" 1011, .int 276 0, .int 6 0, .int 0 0, .int 0 0, .int 3 0, .ref 638, .bool true, .int 181 0, .ref 639, .none, .ref 640, .ref 641, .ref 642, .int 1018 0, .int 276 0, .str "/claim/cut.py" 1019], #[]⟩ : Obj)) ::
  (nat_lit 644, (⟨(.type "function"), none, .func (PySem.W.fnOf "__init__" "Bound.__init__" (defArgs sBouInit) (defBody sBouInit) (defScope sBouInit) .none .none .none (.str "openranges.clauses" 624) none (.ref 643) .none), #[]⟩ : Obj)) ::
  (nat_lit 650, (⟨(.type "code"), none, .fields #[.str "__eq__" 1021, .str "Bound.__eq__" 1022, .str "/claim/cut.py" 1023, .int 286 0, .int 2 0, .int 0 0, .int 0 0, .int 3 0, .ref 645, .bool true, .int 181 0, .ref 646, .none, .ref 647, .ref 648, .ref 649, .int 1027 0, .int 286 0, .str "/claim/cut.py" 1028], #[]⟩ : Obj)) ::
  (nat_lit 651, (⟨(.type "function"), none, .func (PySem.W.fnOf "__eq__" "Bound.__eq__" (defArgs sBouEq) (defBody sBouEq) (defScope sBouEq) .none .none .none (.str "openranges.clauses" 624) none (.ref 650) .none), #[]⟩ : Obj)) ::
  (nat_lit 657, (⟨(.type "code"), none, .fields #[.str "line" 1030, .str "Bound.line" 1031, .str "/claim/cut.py" 1032, .int 292 0, .int 1 0, .int 0 0, .int 0 0, .int 3 0, .ref 652, .bool true, .int 181 0, .ref 653, .none, .ref 654, .ref 655, .ref 656, .int 1034 0, .int 292 0, .str "/claim/cut.py" 1035], #[]⟩ : Obj)) ::
  (nat_lit 658, (⟨(.type "function"), none, .func (PySem.W.fnOf "line" "Bound.line" (defArgs sBouLine) (defBody sBouLine) (defScope sBouLine) .none .none .none (.str "openranges.clauses" 624) none (.ref 657) .none), #[]⟩ : Obj)) ::
  (nat_lit 671, (⟨(.type "code"), none, .fields #[.str "negated" 1044, .str "Bound.negated" 1045, .str "/claim/cut.py" 1046, .int 298 0, .int 1 0, .int 0 0, .int 0 0, .int 3 0, .ref 666, .bool true, .int 181 0, .ref 667, .none, .ref 668, .ref 669, .ref 670, .int 1048 0, .int 298 0, .str "/claim/cut.py" 1049], #[]⟩ : Obj)) ::
  (nat_lit 672, (⟨(.type "function"), none, .func (PySem.W.fnOf "negated" "Bound.negated" (defArgs sBouNeg) (defBody sBouNeg) (defScope sBouNeg) .none .none .none (.str "openranges.clauses" 624) none (.ref 671) .none), #[]⟩ : Obj)) ::
  (nat_lit 678, (⟨(.type "code"), none, .fields #[.str "times" 1051, .str "Bound.times" 1052, .str "/claim/cut.py" 1053, .int 301 0, .int 2 0, .int 0 0, .int 0 0, .int 3 0, .ref 673, .bool true, .int 181 0, .ref 674, .none, .ref 675, .ref 676, .ref 677, .int 1056 0, .int 301 0, .str "/claim/cut.py" 1057], #[]⟩ : Obj)) ::
  (nat_lit 679, (⟨(.type "function"), none, .func (PySem.W.fnOf "times" "Bound.times" (defArgs sBouTim) (defBody sBouTim) (defScope sBouTim) .none .none .none (.str "openranges.clauses" 624) none (.ref 678) .none), #[]⟩ : Obj)) ::
  (nat_lit 685, (⟨(.type "code"), none, .fields #[.str "moved" 1059, .str "Bound.moved" 1060, .str "/claim/cut.py" 1061, .int 305 0, .int 2 0, .int 0 0, .int 0 0, .int 3 0, .ref 680, .bool true, .int 181 0, .ref 681, .none, .ref 682, .ref 683, .ref 684, .int 1065 0, .int 305 0, .str "/claim/cut.py" 1066], #[]⟩ : Obj)) ::
  (nat_lit 686, (⟨(.type "function"), none, .func (PySem.W.fnOf "moved" "Bound.moved" (defArgs sBouMov) (defBody sBouMov) (defScope sBouMov) .none .none .none (.str "openranges.clauses" 624) none (.ref 685) .none), #[]⟩ : Obj)) ::
  (nat_lit 692, (⟨(.type "code"), none, .fields #[.str "mirrored" 1068, .str "Bound.mirrored" 1069, .str "/claim/cut.py" 1070, .int 309 0, .int 2 0, .int 0 0, .int 0 0, .int 3 0, .ref 687, .bool true, .int 181 0, .ref 688, .none, .ref 689, .ref 690, .ref 691, .int 1074 0, .int 309 0, .str "/claim/cut.py" 1075], #[]⟩ : Obj)) ::
  (nat_lit 693, (⟨(.type "function"), none, .func (PySem.W.fnOf "mirrored" "Bound.mirrored" (defArgs sBouMir) (defBody sBouMir) (defScope sBouMir) .none .none .none (.str "openranges.clauses" 624) none (.ref 692) .none), #[]⟩ : Obj)) ::
  (nat_lit 702, (⟨(.type "dict"), none, .dict #[⟨PyData.keyHash P "__module__", (.str "__module__" 1004), (.str "openranges.clauses" 624)⟩, ⟨PyData.keyHash P "__firstlineno__", (.str "__firstlineno__" 1008), (.int 274 1007)⟩, ⟨PyData.keyHash P "__init__", (.str "__init__" 1020), (.ref 644)⟩, ⟨PyData.keyHash P "__eq__", (.str "__eq__" 1029), (.ref 651)⟩, ⟨PyData.keyHash P "line", (.str "line" 1036), (.ref 658)⟩, ⟨PyData.keyHash P "functions_told", (.str "functions_told" 1043), (.ref 665)⟩, ⟨PyData.keyHash P "negated", (.str "negated" 1050), (.ref 672)⟩, ⟨PyData.keyHash P "times", (.str "times" 1058), (.ref 679)⟩, ⟨PyData.keyHash P "moved", (.str "moved" 1067), (.ref 686)⟩, ⟨PyData.keyHash P "mirrored", (.str "mirrored" 1076), (.ref 693)⟩, ⟨PyData.keyHash P "text", (.str "text" 1083), (.ref 700)⟩, ⟨PyData.keyHash P "__static_attributes__", (.str "__static_attributes__" 1090), (.ref 701)⟩, ⟨PyData.keyHash P "__dict__", (.str "__dict__" 1092), (.ref 704)⟩, ⟨PyData.keyHash P "__weakref__", (.str "__weakref__" 1094), (.ref 705)⟩, ⟨PyData.keyHash P "__doc__", (.str "__doc__" 1095), .none⟩, ⟨PyData.keyHash P "__hash__", (.str "__hash__" 1096), .none⟩] 5, #[]⟩ : Obj)) ::
  (nat_lit 703, (⟨(.type "type"), none, .cls ⟨"Bound", [.type "object"], [.ref 703, .type "object"], 702, "Bound", true, [], [], false, none, false⟩, #[none, none, some (.str "Bound" 997), some (.str "Bound" 1005), some (.builtin "object.__new__"), some (.bool true)]⟩ : Obj)) ::
  (nat_lit 720, (⟨(.type "code"), none, .fields #[.str "__init__" 1111, .str "Pair.__init__" 1112, .str "/claim/cut.py" 1113, .int 317 0, .int 7 0, .int 0 0, .int 0 0, .int 3 0, .ref 715, .bool true, .int 181 0, .ref 716, .none, .ref 717, .ref 718, .ref 719, .int 1121 0, .int 317 0, .str "/claim/cut.py" 1122], #[]⟩ : Obj)) ::
  (nat_lit 721, (⟨(.type "function"), none, .func (PySem.W.fnOf "__init__" "Pair.__init__" (defArgs sPaiInit) (defBody sPaiInit) (defScope sPaiInit) .none .none .none (.str "openranges.clauses" 624) none (.ref 720) .none), #[]⟩ : Obj)) ::
  (nat_lit 727, (⟨(.type "code"), none, .fields #[.str "__eq__" 1124, .str "Pair.__eq__" 1125, .str "/claim/cut.py" 1126, .int 328 0, .int 2 0, .int 0 0, .int 0 0, .int 3 0, .ref 722, .bool true, .int 181 0, .ref 723, .none, .ref 724, .ref 725, .ref 726, .int 1131 0, .int 328 0, .str "/claim/cut.py" 1132], #[]⟩ : Obj)) ::
  (nat_lit 728, (⟨(.type "function"), none, .func (PySem.W.fnOf "__eq__" "Pair.__eq__" (defArgs sPaiEq) (defBody sPaiEq) (defScope sPaiEq) .none .none .none (.str "openranges.clauses" 624) none (.ref 727) .none), #[]⟩ : Obj)) ::
  (nat_lit 734, (⟨(.type "code"), none, .fields #[.str "line" 1134, .str "Pair.line" 1135, .str "/claim/cut.py" 1136, .int 335 0, .int 1 0, .int 0 0, .int 0 0, .int 3 0, .ref 729, .bool true, .int 181 0, .ref 730, .none, .ref 731, .ref 732, .ref 733, .int 1138 0, .int 335 0, .str "/claim/cut.py" 1139], #[]⟩ : Obj)) ::
  (nat_lit 735, (⟨(.type "function"), none, .func (PySem.W.fnOf "line" "Pair.line" (defArgs sPaiLine) (defBody sPaiLine) (defScope sPaiLine) .none .none .none (.str "openranges.clauses" 624) none (.ref 734) .none), #[]⟩ : Obj)) ::
  (nat_lit 748, (⟨(.type "code"), none, .fields #[.str "negated" 1148, .str "Pair.negated" 1149, .str "/claim/cut.py" 1150, .int 341 0, .int 1 0, .int 0 0, .int 0 0, .int 3 0, .ref 743, .bool true, .int 181 0, .ref 744, .none, .ref 745, .ref 746, .ref 747, .int 1152 0, .int 341 0, .str "/claim/cut.py" 1153], #[]⟩ : Obj)) ::
  (nat_lit 749, (⟨(.type "function"), none, .func (PySem.W.fnOf "negated" "Pair.negated" (defArgs sPaiNeg) (defBody sPaiNeg) (defScope sPaiNeg) .none .none .none (.str "openranges.clauses" 624) none (.ref 748) .none), #[]⟩ : Obj)) ::
  (nat_lit 755, (⟨(.type "code"), none, .fields #[.str "times" 1155, .str "Pair.times" 1156, .str "/claim/cut.py" 1157, .int 344 0, .int 2 0, .int 0 0, .int 0 0, .int 3 0, .ref 750, .bool true, .int 181 0, .ref 751, .none, .ref 752, .ref 753, .ref 754, .int 1162 0, .int 344 0, .str "/claim/cut.py" 1163], #[]⟩ : Obj)) ::
  (nat_lit 756, (⟨(.type "function"), none, .func (PySem.W.fnOf "times" "Pair.times" (defArgs sPaiTim) (defBody sPaiTim) (defScope sPaiTim) .none .none .none (.str "openranges.clauses" 624) none (.ref 755) .none), #[]⟩ : Obj)) ::
  (nat_lit 762, (⟨(.type "code"), none, .fields #[.str "moved" 1165, .str "Pair.moved" 1166, .str "/claim/cut.py" 1167, .int 349 0, .int 2 0, .int 0 0, .int 0 0, .int 3 0, .ref 757, .bool true, .int 181 0, .ref 758, .none, .ref 759, .ref 760, .ref 761, .int 1171 0, .int 349 0, .str "/claim/cut.py" 1172], #[]⟩ : Obj)) ::
  (nat_lit 763, (⟨(.type "function"), none, .func (PySem.W.fnOf "moved" "Pair.moved" (defArgs sPaiMov) (defBody sPaiMov) (defScope sPaiMov) .none .none .none (.str "openranges.clauses" 624) none (.ref 762) .none), #[]⟩ : Obj)) ::
  (nat_lit 769, (⟨(.type "code"), none, .fields #[.str "mirrored" 1174, .str "Pair.mirrored" 1175, .str "/claim/cut.py" 1176, .int 353 0, .int 2 0, .int 0 0, .int 0 0, .int 3 0, .ref 764, .bool true, .int 181 0, .ref 765, .none, .ref 766, .ref 767, .ref 768, .int 1180 0, .int 353 0, .str "/claim/cut.py" 1181], #[]⟩ : Obj)) ::
  (nat_lit 770, (⟨(.type "function"), none, .func (PySem.W.fnOf "mirrored" "Pair.mirrored" (defArgs sPaiMir) (defBody sPaiMir) (defScope sPaiMir) .none .none .none (.str "openranges.clauses" 624) none (.ref 769) .none), #[]⟩ : Obj)) ::
  (nat_lit 779, (⟨(.type "dict"), none, .dict #[⟨PyData.keyHash P "__module__", (.str "__module__" 1106), (.str "openranges.clauses" 624)⟩, ⟨PyData.keyHash P "__firstlineno__", (.str "__firstlineno__" 1110), (.int 315 1109)⟩, ⟨PyData.keyHash P "__init__", (.str "__init__" 1123), (.ref 721)⟩, ⟨PyData.keyHash P "__eq__", (.str "__eq__" 1133), (.ref 728)⟩, ⟨PyData.keyHash P "line", (.str "line" 1140), (.ref 735)⟩, ⟨PyData.keyHash P "functions_told", (.str "functions_told" 1147), (.ref 742)⟩, ⟨PyData.keyHash P "negated", (.str "negated" 1154), (.ref 749)⟩, ⟨PyData.keyHash P "times", (.str "times" 1164), (.ref 756)⟩, ⟨PyData.keyHash P "moved", (.str "moved" 1173), (.ref 763)⟩, ⟨PyData.keyHash P "mirrored", (.str "mirrored" 1182), (.ref 770)⟩, ⟨PyData.keyHash P "text", (.str "text" 1189), (.ref 777)⟩, ⟨PyData.keyHash P "__static_attributes__", (.str "__static_attributes__" 1197), (.ref 778)⟩, ⟨PyData.keyHash P "__dict__", (.str "__dict__" 1199), (.ref 781)⟩, ⟨PyData.keyHash P "__weakref__", (.str "__weakref__" 1201), (.ref 782)⟩, ⟨PyData.keyHash P "__doc__", (.str "__doc__" 1202), .none⟩, ⟨PyData.keyHash P "__hash__", (.str "__hash__" 1203), .none⟩] 5, #[]⟩ : Obj)) ::
  (nat_lit 780, (⟨(.type "type"), none, .cls ⟨"Pair", [.type "object"], [.ref 780, .type "object"], 779, "Pair", true, [], [], false, none, false⟩, #[none, none, some (.str "Pair" 1099), some (.str "Pair" 1107), some (.builtin "object.__new__"), some (.bool true)]⟩ : Obj)) ::
  (nat_lit 797, (⟨(.type "code"), none, .fields #[.str "__init__" 1218, .str "Step.__init__" 1219, .str "/claim/cut.py" 1220, .int 361 0, .int 5 0, .int 0 0, .int 0 0, .int 3 0, .ref 792, .bool true, .int 181 0, .ref 793, .none, .ref 794, .ref 795, .ref 796, .int 1226 0, .int 361 0, .str "/claim/cut.py" 1227], #[]⟩ : Obj)) ::
  (nat_lit 798, (⟨(.type "function"), none, .func (PySem.W.fnOf "__init__" "Step.__init__" (defArgs sSteInit) (defBody sSteInit) (defScope sSteInit) .none .none .none (.str "openranges.clauses" 624) none (.ref 797) .none), #[]⟩ : Obj)) ::
  (nat_lit 804, (⟨(.type "code"), none, .fields #[.str "__eq__" 1229, .str "Step.__eq__" 1230, .str "/claim/cut.py" 1231, .int 370 0, .int 2 0, .int 0 0, .int 0 0, .int 3 0, .ref 799, .bool true, .int 181 0, .ref 800, .none, .ref 801, .ref 802, .ref 803, .int 1234 0, .int 370 0, .str "/claim/cut.py" 1235], #[]⟩ : Obj)) ::
  (nat_lit 805, (⟨(.type "function"), none, .func (PySem.W.fnOf "__eq__" "Step.__eq__" (defArgs sSteEq) (defBody sSteEq) (defScope sSteEq) .none .none .none (.str "openranges.clauses" 624) none (.ref 804) .none), #[]⟩ : Obj)) ::
  (nat_lit 818, (⟨(.type "code"), none, .fields #[.str "negated" 1244, .str "Step.negated" 1245, .str "/claim/cut.py" 1246, .int 378 0, .int 1 0, .int 0 0, .int 0 0, .int 3 0, .ref 813, .bool true, .int 181 0, .ref 814, .none, .ref 815, .ref 816, .ref 817, .int 1248 0, .int 378 0, .str "/claim/cut.py" 1249], #[]⟩ : Obj)) ::
  (nat_lit 819, (⟨(.type "function"), none, .func (PySem.W.fnOf "negated" "Step.negated" (defArgs sSteNeg) (defBody sSteNeg) (defScope sSteNeg) .none .none .none (.str "openranges.clauses" 624) none (.ref 818) .none), #[]⟩ : Obj)) ::
  (nat_lit 825, (⟨(.type "code"), none, .fields #[.str "times" 1251, .str "Step.times" 1252, .str "/claim/cut.py" 1253, .int 381 0, .int 2 0, .int 0 0, .int 0 0, .int 3 0, .ref 820, .bool true, .int 181 0, .ref 821, .none, .ref 822, .ref 823, .ref 824, .int 1256 0, .int 381 0, .str "/claim/cut.py" 1257], #[]⟩ : Obj)) ::
  (nat_lit 826, (⟨(.type "function"), none, .func (PySem.W.fnOf "times" "Step.times" (defArgs sSteTim) (defBody sSteTim) (defScope sSteTim) .none .none .none (.str "openranges.clauses" 624) none (.ref 825) .none), #[]⟩ : Obj)) ::
  (nat_lit 832, (⟨(.type "code"), none, .fields #[.str "moved" 1259, .str "Step.moved" 1260, .str "/claim/cut.py" 1261, .int 385 0, .int 2 0, .int 0 0, .int 0 0, .int 3 0, .ref 827, .bool true, .int 181 0, .ref 828, .none, .ref 829, .ref 830, .ref 831, .int 1264 0, .int 385 0, .str "/claim/cut.py" 1265], #[]⟩ : Obj)) ::
  (nat_lit 833, (⟨(.type "function"), none, .func (PySem.W.fnOf "moved" "Step.moved" (defArgs sSteMov) (defBody sSteMov) (defScope sSteMov) .none .none .none (.str "openranges.clauses" 624) none (.ref 832) .none), #[]⟩ : Obj)) ::
  (nat_lit 839, (⟨(.type "code"), none, .fields #[.str "mirrored" 1267, .str "Step.mirrored" 1268, .str "/claim/cut.py" 1269, .int 388 0, .int 2 0, .int 0 0, .int 0 0, .int 3 0, .ref 834, .bool true, .int 181 0, .ref 835, .none, .ref 836, .ref 837, .ref 838, .int 1272 0, .int 388 0, .str "/claim/cut.py" 1273], #[]⟩ : Obj)) ::
  (nat_lit 840, (⟨(.type "function"), none, .func (PySem.W.fnOf "mirrored" "Step.mirrored" (defArgs sSteMir) (defBody sSteMir) (defScope sSteMir) .none .none .none (.str "openranges.clauses" 624) none (.ref 839) .none), #[]⟩ : Obj)) ::
  (nat_lit 849, (⟨(.type "dict"), none, .dict #[⟨PyData.keyHash P "__module__", (.str "__module__" 1213), (.str "openranges.clauses" 624)⟩, ⟨PyData.keyHash P "__firstlineno__", (.str "__firstlineno__" 1217), (.int 359 1216)⟩, ⟨PyData.keyHash P "__init__", (.str "__init__" 1228), (.ref 798)⟩, ⟨PyData.keyHash P "__eq__", (.str "__eq__" 1236), (.ref 805)⟩, ⟨PyData.keyHash P "functions_told", (.str "functions_told" 1243), (.ref 812)⟩, ⟨PyData.keyHash P "negated", (.str "negated" 1250), (.ref 819)⟩, ⟨PyData.keyHash P "times", (.str "times" 1258), (.ref 826)⟩, ⟨PyData.keyHash P "moved", (.str "moved" 1266), (.ref 833)⟩, ⟨PyData.keyHash P "mirrored", (.str "mirrored" 1274), (.ref 840)⟩, ⟨PyData.keyHash P "text", (.str "text" 1281), (.ref 847)⟩, ⟨PyData.keyHash P "__static_attributes__", (.str "__static_attributes__" 1287), (.ref 848)⟩, ⟨PyData.keyHash P "__dict__", (.str "__dict__" 1289), (.ref 851)⟩, ⟨PyData.keyHash P "__weakref__", (.str "__weakref__" 1291), (.ref 852)⟩, ⟨PyData.keyHash P "__doc__", (.str "__doc__" 1292), .none⟩, ⟨PyData.keyHash P "__hash__", (.str "__hash__" 1293), .none⟩] 5, #[]⟩ : Obj)) ::
  (nat_lit 850, (⟨(.type "type"), none, .cls ⟨"Step", [.type "object"], [.ref 850, .type "object"], 849, "Step", true, [], [], false, none, false⟩, #[none, none, some (.str "Step" 1206), some (.str "Step" 1214), some (.builtin "object.__new__"), some (.bool true)]⟩ : Obj)) ::
  (nat_lit 883, (⟨(.type "tuple"), none, .seq #[] 0, #[]⟩ : Obj)) ::
  (nat_lit 884, (⟨(.type "tuple"), none, .seq #[.ref 883] 0, #[]⟩ : Obj)) ::
  (nat_lit 888, (⟨(.type "code"), none, .fields #[.str "__init__" 1340, .str "Places.__init__" 1341, .str "/claim/cut.py" 1342, .int 418 0, .int 2 0, .int 0 0, .int 0 0, .int 3 0, .ref 885, .bool true, .int 181 0, .ref 886, .none, .none, .none, .ref 887, .int 1343 0, .int 418 0, .str "/claim/cut.py" 1344], #[]⟩ : Obj)) ::
  (nat_lit 889, (⟨(.type "function"), none, .func (PySem.W.fnOf "__init__" "Places.__init__" (defArgs sPlInit) (defBody sPlInit) (defScope sPlInit) (.ref 884) .none .none (.str "openranges.places" 1326) none (.ref 888) .none), #[]⟩ : Obj)) ::
  (nat_lit 895, (⟨(.type "code"), none, .fields #[.str "__eq__" 1346, .str "Places.__eq__" 1347, .str "/claim/cut.py" 1348, .int 426 0, .int 2 0, .int 0 0, .int 0 0, .int 3 0, .ref 890, .bool true, .int 181 0, .ref 891, .none, .ref 892, .ref 893, .ref 894, .int 1351 0, .int 426 0, .str "/claim/cut.py" 1352], #[]⟩ : Obj)) ::
  (nat_lit 896, (⟨(.type "function"), none, .func (PySem.W.fnOf "__eq__" "Places.__eq__" (defArgs sPlEq) (defBody sPlEq) (defScope sPlEq) .none .none .none (.str "openranges.places" 1326) none (.ref 895) .none), #[]⟩ : Obj)) ::
  (nat_lit 991, (⟨(.type "code"), none, .fields #[.str "shifted" 1457, .str "Places.shifted" 1458, .str "/claim/cut.py" 1459, .int 477 0, .int 2 0, .int 0 0, .int 0 0, .int 3 0, .ref 988, .bool true, .int 181 0, .ref 989, .none, .none, .none, .ref 990, .int 1460 0, .int 477 0, .str "/claim/cut.py" 1461], #[]⟩ : Obj)) ::
  (nat_lit 992, (⟨(.type "function"), none, .func (PySem.W.fnOf "shifted" "Places.shifted" (defArgs sPlacesShifted) (defBody sPlacesShifted) (defScope sPlacesShifted) .none .none .none (.str "openranges.places" 1326) none (.ref 991) .none), #[]⟩ : Obj)) ::
  (nat_lit 996, (⟨(.type "code"), none, .fields #[.str "mirrored" 1463, .str "Places.mirrored" 1464, .str "/claim/cut.py" 1465, .int 480 0, .int 2 0, .int 0 0, .int 0 0, .int 3 0, .ref 993, .bool true, .int 181 0, .ref 994, .none, .none, .none, .ref 995, .int 1466 0, .int 480 0, .str "/claim/cut.py" 1467], #[]⟩ : Obj)) ::
  (nat_lit 997, (⟨(.type "function"), none, .func (PySem.W.fnOf "mirrored" "Places.mirrored" (defArgs sPlacesMirrored) (defBody sPlacesMirrored) (defScope sPlacesMirrored) .none .none .none (.str "openranges.places" 1326) none (.ref 996) .none), #[]⟩ : Obj)) ::
  (nat_lit 1018, (⟨(.type "classmethod"), (some 1017), .fields #[.ref 1016, .bool false], #[]⟩ : Obj)) ::
  (nat_lit 1021, (⟨(.type "dict"), none, .dict #[⟨PyData.keyHash P "__module__", (.str "__module__" 1335), (.str "openranges.places" 1326)⟩, ⟨PyData.keyHash P "__firstlineno__", (.str "__firstlineno__" 1339), (.int 416 1338)⟩, ⟨PyData.keyHash P "__init__", (.str "__init__" 1345), (.ref 889)⟩, ⟨PyData.keyHash P "__eq__", (.str "__eq__" 1353), (.ref 896)⟩, ⟨PyData.keyHash P "__bool__", (.str "__bool__" 1360), (.ref 903)⟩, ⟨PyData.keyHash P "__contains__", (.str "__contains__" 1369), (.ref 910)⟩, ⟨PyData.keyHash P "__getitem__", (.str "__getitem__" 1378), (.ref 917)⟩, ⟨PyData.keyHash P "__iter__", (.str "__iter__" 1385), (.ref 924)⟩, ⟨PyData.keyHash P "__or__", (.str "__or__" 1393), (.ref 931)⟩, ⟨PyData.keyHash P "__and__", (.str "__and__" 1401), (.ref 938)⟩, ⟨PyData.keyHash P "__sub__", (.str "__sub__" 1409), (.ref 945)⟩, ⟨PyData.keyHash P "__xor__", (.str "__xor__" 1417), (.ref 952)⟩, ⟨PyData.keyHash P "size", (.str "size" 1426), (.ref 959)⟩, ⟨PyData.keyHash P "rank", (.str "rank" 1434), (.ref 966)⟩, ⟨PyData.keyHash P "least", (.str "least" 1441), (.ref 973)⟩, ⟨PyData.keyHash P "greatest", (.str "greatest" 1448), (.ref 980)⟩, ⟨PyData.keyHash P "within", (.str "within" 1456), (.ref 987)⟩, ⟨PyData.keyHash P "shifted", (.str "shifted" 1462), (.ref 992)⟩, ⟨PyData.keyHash P "mirrored", (.str "mirrored" 1468), (.ref 997)⟩, ⟨PyData.keyHash P "inner", (.str "inner" 1475), (.ref 1004)⟩, ⟨PyData.keyHash P "text", (.str "text" 1481), (.ref 1009)⟩, ⟨PyData.keyHash P "read", (.str "read" 1502), (.ref 1018)⟩, ⟨PyData.keyHash P "__static_attributes__", (.str "__static_attributes__" 1506), (.ref 1020)⟩, ⟨PyData.keyHash P "__dict__", (.str "__dict__" 1508), (.ref 1023)⟩, ⟨PyData.keyHash P "__weakref__", (.str "__weakref__" 1510), (.ref 1024)⟩, ⟨PyData.keyHash P "__doc__", (.str "__doc__" 1511), .none⟩, ⟨PyData.keyHash P "__hash__", (.str "__hash__" 1512), .none⟩] 5, #[]⟩ : Obj)) ::
  (nat_lit 1022, (⟨(.type "type"), none, .cls ⟨"Places", [.type "object"], [.ref 1022, .type "object"], 1021, "Places", true, [], [], false, none, false⟩, #[none, none, some (.str "Places" 1328), some (.str "Places" 1336), some (.builtin "object.__new__"), some (.bool true)]⟩ : Obj)) ::
  (nat_lit 1039, (⟨(.type "code"), none, .fields #[.str "_is_stretch" 1528, .str "_is_stretch" 1529, .str "/claim/cut.py" 1530, .int 509 0, .int 1 0, .int 0 0, .int 0 0, .int 3 0, .ref 1034, .bool true, .int 181 0, .ref 1035, .none, .ref 1036, .ref 1037, .ref 1038, .int 1534 0, .int 509 0, .str "/claim/cut.py" 1535], #[]⟩ : Obj)) ::
  (nat_lit 1040, (⟨(.type "function"), none, .func (PySem.W.fnOf "_is_stretch" "_is_stretch" (defArgs sIsStretch) (defBody sIsStretch) (defScope sIsStretch) .none .none .none (.str "openranges.places" 1326) none (.ref 1039) .none), #[]⟩ : Obj)) ::
  (nat_lit 1044, (⟨(.type "code"), none, .fields #[.str "_joined" 1537, .str "_joined" 1538, .str "/claim/cut.py" 1539, .int 514 0, .int 1 0, .int 0 0, .int 0 0, .int 3 0, .ref 1041, .bool true, .int 181 0, .ref 1042, .none, .none, .none, .ref 1043, .int 1540 0, .int 514 0, .str "/claim/cut.py" 1541], #[]⟩ : Obj)) ::
  (nat_lit 1045, (⟨(.type "function"), none, .func (PySem.W.fnOf "_joined" "_joined" (defArgs sJoined) (defBody sJoined) (defScope sJoined) .none .none .none (.str "openranges.places" 1326) none (.ref 1044) .none), #[]⟩ : Obj)) ::
  (nat_lit 1051, (⟨(.type "code"), none, .fields #[.str "_counts_before" 1543, .str "_counts_before" 1544, .str "/claim/cut.py" 1545, .int 522 0, .int 1 0, .int 0 0, .int 0 0, .int 3 0, .ref 1046, .bool true, .int 181 0, .ref 1047, .none, .ref 1048, .ref 1049, .ref 1050, .int 1551 0, .int 522 0, .str "/claim/cut.py" 1552], #[]⟩ : Obj)) ::
  (nat_lit 1052, (⟨(.type "function"), none, .func (PySem.W.fnOf "_counts_before" "_counts_before" (defArgs sCounts) (defBody sCounts) (defScope sCounts) .none .none .none (.str "openranges.places" 1326) none (.ref 1051) .none), #[]⟩ : Obj)) ::
  (nat_lit 1075, (⟨(.type "code"), none, .fields #[.str "_cut_to_places" 1582, .str "_cut_to_places" 1583, .str "/claim/cut.py" 1584, .int 551 0, .int 1 0, .int 0 0, .int 0 0, .int 3 0, .ref 1072, .bool true, .int 181 0, .ref 1073, .none, .none, .none, .ref 1074, .int 1585 0, .int 551 0, .str "/claim/cut.py" 1586], #[]⟩ : Obj)) ::
  (nat_lit 1076, (⟨(.type "function"), none, .func (PySem.W.fnOf "_cut_to_places" "_cut_to_places" (defArgs pCutToPlaces) (defBody pCutToPlaces) (defScope pCutToPlaces) .none .none .none (.str "openranges.places" 1326) none (.ref 1075) .none), #[]⟩ : Obj)) ::
  (nat_lit 1096, (⟨(.type "code"), none, .fields #[.str "_law_pen" 1610, .str "_law_pen" 1611, .str "/claim/cut.py" 1612, .int 567 0, .int 1 0, .int 0 0, .int 0 0, .int 3 0, .ref 1091, .bool true, .int 181 0, .ref 1092, .none, .ref 1093, .ref 1094, .ref 1095, .int 1614 0, .int 567 0, .str "/claim/cut.py" 1615], #[]⟩ : Obj)) ::
  (nat_lit 1097, (⟨(.type "function"), none, .func (PySem.W.fnOf "_law_pen" "_law_pen" (defArgs sPen) (defBody sPen) (defScope sPen) .none .none .none (.str "law_openranges_k12_clauses_turned" 1608) none (.ref 1096) .none), #[]⟩ : Obj)) ::
  (nat_lit 1103, (⟨(.type "code"), none, .fields #[.str "_law_draw" 1617, .str "_law_draw" 1618, .str "/claim/cut.py" 1619, .int 569 0, .int 2 0, .int 0 0, .int 0 0, .int 3 0, .ref 1098, .bool true, .int 181 0, .ref 1099, .none, .ref 1100, .ref 1101, .ref 1102, .int 1627 0, .int 569 0, .str "/claim/cut.py" 1628], #[]⟩ : Obj)) ::
  (nat_lit 1104, (⟨(.type "function"), none, .func (PySem.W.fnOf "_law_draw" "_law_draw" (defArgs sDraw) (defBody sDraw) (defScope sDraw) .none .none .none (.str "law_openranges_k12_clauses_turned" 1608) none (.ref 1103) .none), #[]⟩ : Obj)) ::
  (nat_lit 1110, (⟨(.type "code"), none, .fields #[.str "_law_pick" 1630, .str "_law_pick" 1631, .str "/claim/cut.py" 1632, .int 583 0, .int 2 0, .int 0 0, .int 0 0, .int 3 0, .ref 1105, .bool true, .int 181 0, .ref 1106, .none, .ref 1107, .ref 1108, .ref 1109, .int 1635 0, .int 583 0, .str "/claim/cut.py" 1636], #[]⟩ : Obj)) ::
  (nat_lit 1111, (⟨(.type "function"), none, .func (PySem.W.fnOf "_law_pick" "_law_pick" (defArgs sPick) (defBody sPick) (defScope sPick) .none .none .none (.str "law_openranges_k12_clauses_turned" 1608) none (.ref 1110) .none), #[]⟩ : Obj)) ::
  (nat_lit 1117, (⟨(.type "code"), none, .fields #[.str "_law_shuffled" 1638, .str "_law_shuffled" 1639, .str "/claim/cut.py" 1640, .int 585 0, .int 2 0, .int 0 0, .int 0 0, .int 3 0, .ref 1112, .bool true, .int 181 0, .ref 1113, .none, .ref 1114, .ref 1115, .ref 1116, .int 1645 0, .int 585 0, .str "/claim/cut.py" 1646], #[]⟩ : Obj)) ::
  (nat_lit 1118, (⟨(.type "function"), none, .func (PySem.W.fnOf "_law_shuffled" "_law_shuffled" (defArgs sShuffled) (defBody sShuffled) (defScope sShuffled) .none .none .none (.str "law_openranges_k12_clauses_turned" 1608) none (.ref 1117) .none), #[]⟩ : Obj)) ::
  (nat_lit 1122, (⟨(.type "code"), none, .fields #[.str "_law_words" 1648, .str "_law_words" 1649, .str "/claim/cut.py" 1650, .int 590 0, .int 2 0, .int 0 0, .int 0 0, .int 3 0, .ref 1119, .bool true, .int 181 0, .ref 1120, .none, .none, .none, .ref 1121, .int 1651 0, .int 590 0, .str "/claim/cut.py" 1652], #[]⟩ : Obj)) ::
  (nat_lit 1123, (⟨(.type "function"), none, .func (PySem.W.fnOf "_law_words" "_law_words" (defArgs sWords) (defBody sWords) (defScope sWords) .none .none .none (.str "law_openranges_k12_clauses_turned" 1608) none (.ref 1122) .none), #[]⟩ : Obj)) ::
  (nat_lit 1129, (⟨(.type "code"), none, .fields #[.str "_law_spot" 1654, .str "_law_spot" 1655, .str "/claim/cut.py" 1656, .int 596 0, .int 1 0, .int 0 0, .int 0 0, .int 3 0, .ref 1124, .bool true, .int 181 0, .ref 1125, .none, .ref 1126, .ref 1127, .ref 1128, .int 1659 0, .int 596 0, .str "/claim/cut.py" 1660], #[]⟩ : Obj)) ::
  (nat_lit 1130, (⟨(.type "function"), none, .func (PySem.W.fnOf "_law_spot" "_law_spot" (defArgs sSpot) (defBody sSpot) (defScope sSpot) .none .none .none (.str "law_openranges_k12_clauses_turned" 1608) none (.ref 1129) .none), #[]⟩ : Obj)) ::
  (nat_lit 1136, (⟨(.type "code"), none, .fields #[.str "_law_drawn" 1662, .str "_law_drawn" 1663, .str "/claim/cut.py" 1664, .int 603 0, .int 2 0, .int 0 0, .int 0 0, .int 3 0, .ref 1131, .bool true, .int 181 0, .ref 1132, .none, .ref 1133, .ref 1134, .ref 1135, .int 1671 0, .int 603 0, .str "/claim/cut.py" 1672], #[]⟩ : Obj)) ::
  (nat_lit 1137, (⟨(.type "function"), none, .func (PySem.W.fnOf "_law_drawn" "_law_drawn" (defArgs sDrawn) (defBody sDrawn) (defScope sDrawn) .none .none .none (.str "law_openranges_k12_clauses_turned" 1608) none (.ref 1136) .none), #[]⟩ : Obj)) ::
  (nat_lit 1143, (⟨(.type "code"), none, .fields #[.str "_law_merged" 1674, .str "_law_merged" 1675, .str "/claim/cut.py" 1676, .int 612 0, .int 1 0, .int 0 0, .int 0 0, .int 3 0, .ref 1138, .bool true, .int 181 0, .ref 1139, .none, .ref 1140, .ref 1141, .ref 1142, .int 1682 0, .int 612 0, .str "/claim/cut.py" 1683], #[]⟩ : Obj)) ::
  (nat_lit 1144, (⟨(.type "function"), none, .func (PySem.W.fnOf "_law_merged" "_law_merged" (defArgs sMerged) (defBody sMerged) (defScope sMerged) .none .none .none (.str "law_openranges_k12_clauses_turned" 1608) none (.ref 1143) .none), #[]⟩ : Obj)) ::
  (nat_lit 1150, (⟨(.type "code"), none, .fields #[.str "_law_whole" 1685, .str "_law_whole" 1686, .str "/claim/cut.py" 1687, .int 621 0, .int 1 0, .int 0 0, .int 0 0, .int 3 0, .ref 1145, .bool true, .int 181 0, .ref 1146, .none, .ref 1147, .ref 1148, .ref 1149, .int 1690 0, .int 621 0, .str "/claim/cut.py" 1691], #[]⟩ : Obj)) ::
  (nat_lit 1151, (⟨(.type "function"), none, .func (PySem.W.fnOf "_law_whole" "_law_whole" (defArgs sWhole) (defBody sWhole) (defScope sWhole) .none .none .none (.str "law_openranges_k12_clauses_turned" 1608) none (.ref 1150) .none), #[]⟩ : Obj)) ::
  (nat_lit 1157, (⟨(.type "code"), none, .fields #[.str "_law_line" 1693, .str "_law_line" 1694, .str "/claim/cut.py" 1695, .int 624 0, .int 1 0, .int 0 0, .int 0 0, .int 3 0, .ref 1152, .bool true, .int 181 0, .ref 1153, .none, .ref 1154, .ref 1155, .ref 1156, .int 1698 0, .int 624 0, .str "/claim/cut.py" 1699], #[]⟩ : Obj)) ::
  (nat_lit 1158, (⟨(.type "function"), none, .func (PySem.W.fnOf "_law_line" "_law_line" (defArgs sLine) (defBody sLine) (defScope sLine) .none .none .none (.str "law_openranges_k12_clauses_turned" 1608) none (.ref 1157) .none), #[]⟩ : Obj)) ::
  (nat_lit 1164, (⟨(.type "code"), none, .fields #[.str "_law_spec" 1701, .str "_law_spec" 1702, .str "/claim/cut.py" 1703, .int 627 0, .int 4 0, .int 0 0, .int 0 0, .int 3 0, .ref 1159, .bool true, .int 181 0, .ref 1160, .none, .ref 1161, .ref 1162, .ref 1163, .int 1712 0, .int 627 0, .str "/claim/cut.py" 1713], #[]⟩ : Obj)) ::
  (nat_lit 1165, (⟨(.type "function"), none, .func (PySem.W.fnOf "_law_spec" "_law_spec" (defArgs sSpec) (defBody sSpec) (defScope sSpec) .none .none .none (.str "law_openranges_k12_clauses_turned" 1608) none (.ref 1164) .none), #[]⟩ : Obj)) ::
  (nat_lit 1171, (⟨(.type "code"), none, .fields #[.str "_law_clause" 1715, .str "_law_clause" 1716, .str "/claim/cut.py" 1717, .int 639 0, .int 1 0, .int 0 0, .int 0 0, .int 3 0, .ref 1166, .bool true, .int 181 0, .ref 1167, .none, .ref 1168, .ref 1169, .ref 1170, .int 1722 0, .int 639 0, .str "/claim/cut.py" 1723], #[]⟩ : Obj)) ::
  (nat_lit 1172, (⟨(.type "function"), none, .func (PySem.W.fnOf "_law_clause" "_law_clause" (defArgs sClause) (defBody sClause) (defScope sClause) .none .none .none (.str "law_openranges_k12_clauses_turned" 1608) none (.ref 1171) .none), #[]⟩ : Obj)) ::
  (nat_lit 1178, (⟨(.type "code"), none, .fields #[.str "_law_parts" 1725, .str "_law_parts" 1726, .str "/claim/cut.py" 1727, .int 654 0, .int 1 0, .int 0 0, .int 0 0, .int 3 0, .ref 1173, .bool true, .int 181 0, .ref 1174, .none, .ref 1175, .ref 1176, .ref 1177, .int 1731 0, .int 654 0, .str "/claim/cut.py" 1732], #[]⟩ : Obj)) ::
  (nat_lit 1179, (⟨(.type "function"), none, .func (PySem.W.fnOf "_law_parts" "_law_parts" (defArgs sParts) (defBody sParts) (defScope sParts) .none .none .none (.str "law_openranges_k12_clauses_turned" 1608) none (.ref 1178) .none), #[]⟩ : Obj)) ::
  (nat_lit 1185, (⟨(.type "code"), none, .fields #[.str "_law_with_numbers" 1734, .str "_law_with_numbers" 1735, .str "/claim/cut.py" 1736, .int 665 0, .int 3 0, .int 0 0, .int 0 0, .int 3 0, .ref 1180, .bool true, .int 181 0, .ref 1181, .none, .ref 1182, .ref 1183, .ref 1184, .int 1740 0, .int 665 0, .str "/claim/cut.py" 1741], #[]⟩ : Obj)) ::
  (nat_lit 1186, (⟨(.type "function"), none, .func (PySem.W.fnOf "_law_with_numbers" "_law_with_numbers" (defArgs sWithN) (defBody sWithN) (defScope sWithN) .none .none .none (.str "law_openranges_k12_clauses_turned" 1608) none (.ref 1185) .none), #[]⟩ : Obj)) ::
  (nat_lit 1192, (⟨(.type "code"), none, .fields #[.str "_law_numbers" 1743, .str "_law_numbers" 1744, .str "/claim/cut.py" 1745, .int 669 0, .int 1 0, .int 0 0, .int 0 0, .int 3 0, .ref 1187, .bool true, .int 181 0, .ref 1188, .none, .ref 1189, .ref 1190, .ref 1191, .int 1747 0, .int 669 0, .str "/claim/cut.py" 1748], #[]⟩ : Obj)) ::
  (nat_lit 1193, (⟨(.type "function"), none, .func (PySem.W.fnOf "_law_numbers" "_law_numbers" (defArgs sNumbers) (defBody sNumbers) (defScope sNumbers) .none .none .none (.str "law_openranges_k12_clauses_turned" 1608) none (.ref 1192) .none), #[]⟩ : Obj)) ::
  (nat_lit 1199, (⟨(.type "code"), none, .fields #[.str "_law_turned_sign" 1750, .str "_law_turned_sign" 1751, .str "/claim/cut.py" 1752, .int 671 0, .int 1 0, .int 0 0, .int 0 0, .int 3 0, .ref 1194, .bool true, .int 181 0, .ref 1195, .none, .ref 1196, .ref 1197, .ref 1198, .int 1754 0, .int 671 0, .str "/claim/cut.py" 1755], #[]⟩ : Obj)) ::
  (nat_lit 1200, (⟨(.type "function"), none, .func (PySem.W.fnOf "_law_turned_sign" "_law_turned_sign" (defArgs sTurnedSign) (defBody sTurnedSign) (defScope sTurnedSign) .none .none .none (.str "law_openranges_k12_clauses_turned" 1608) none (.ref 1199) .none), #[]⟩ : Obj)) ::
  (nat_lit 1206, (⟨(.type "code"), none, .fields #[.str "_law_is_of_numbers" 1757, .str "_law_is_of_numbers" 1758, .str "/claim/cut.py" 1759, .int 673 0, .int 1 0, .int 0 0, .int 0 0, .int 3 0, .ref 1201, .bool true, .int 181 0, .ref 1202, .none, .ref 1203, .ref 1204, .ref 1205, .int 1761 0, .int 673 0, .str "/claim/cut.py" 1762], #[]⟩ : Obj)) ::
  (nat_lit 1207, (⟨(.type "function"), none, .func (PySem.W.fnOf "_law_is_of_numbers" "_law_is_of_numbers" (defArgs sOfNum) (defBody sOfNum) (defScope sOfNum) .none .none .none (.str "law_openranges_k12_clauses_turned" 1608) none (.ref 1206) .none), #[]⟩ : Obj)) ::
  (nat_lit 1213, (⟨(.type "code"), none, .fields #[.str "_law_negated" 1764, .str "_law_negated" 1765, .str "/claim/cut.py" 1766, .int 675 0, .int 1 0, .int 0 0, .int 0 0, .int 3 0, .ref 1208, .bool true, .int 181 0, .ref 1209, .none, .ref 1210, .ref 1211, .ref 1212, .int 1770 0, .int 675 0, .str "/claim/cut.py" 1771], #[]⟩ : Obj)) ::
  (nat_lit 1214, (⟨(.type "function"), none, .func (PySem.W.fnOf "_law_negated" "_law_negated" (defArgs sNegated) (defBody sNegated) (defScope sNegated) .none .none .none (.str "law_openranges_k12_clauses_turned" 1608) none (.ref 1213) .none), #[]⟩ : Obj)) ::
  (nat_lit 1220, (⟨(.type "code"), none, .fields #[.str "_law_times" 1773, .str "_law_times" 1774, .str "/claim/cut.py" 1775, .int 680 0, .int 2 0, .int 0 0, .int 0 0, .int 3 0, .ref 1215, .bool true, .int 181 0, .ref 1216, .none, .ref 1217, .ref 1218, .ref 1219, .int 1780 0, .int 680 0, .str "/claim/cut.py" 1781], #[]⟩ : Obj)) ::
  (nat_lit 1221, (⟨(.type "function"), none, .func (PySem.W.fnOf "_law_times" "_law_times" (defArgs sTimes) (defBody sTimes) (defScope sTimes) .none .none .none (.str "law_openranges_k12_clauses_turned" 1608) none (.ref 1220) .none), #[]⟩ : Obj)) ::
  (nat_lit 1225, (⟨(.type "code"), none, .fields #[.str "_law_moved" 1783, .str "_law_moved" 1784, .str "/claim/cut.py" 1785, .int 685 0, .int 2 0, .int 0 0, .int 0 0, .int 3 0, .ref 1222, .bool true, .int 181 0, .ref 1223, .none, .none, .none, .ref 1224, .int 1786 0, .int 685 0, .str "/claim/cut.py" 1787], #[]⟩ : Obj)) ::
  (nat_lit 1226, (⟨(.type "function"), none, .func (PySem.W.fnOf "_law_moved" "_law_moved" (defArgs sMoved) (defBody sMoved) (defScope sMoved) .none .none .none (.str "law_openranges_k12_clauses_turned" 1608) none (.ref 1225) .none), #[]⟩ : Obj)) ::
  (nat_lit 1230, (⟨(.type "code"), none, .fields #[.str "_law_mirrored" 1789, .str "_law_mirrored" 1790, .str "/claim/cut.py" 1791, .int 692 0, .int 2 0, .int 0 0, .int 0 0, .int 3 0, .ref 1227, .bool true, .int 181 0, .ref 1228, .none, .none, .none, .ref 1229, .int 1792 0, .int 692 0, .str "/claim/cut.py" 1793], #[]⟩ : Obj)) ::
  (nat_lit 1231, (⟨(.type "function"), none, .func (PySem.W.fnOf "_law_mirrored" "_law_mirrored" (defArgs sMirrored) (defBody sMirrored) (defScope sMirrored) .none .none .none (.str "law_openranges_k12_clauses_turned" 1608) none (.ref 1230) .none), #[]⟩ : Obj)) ::
  (nat_lit 1237, (⟨(.type "code"), none, .fields #[.str "_law_refused" 1795, .str "_law_refused" 1796, .str "/claim/cut.py" 1797, .int 703 0, .int 2 0, .int 0 0, .int 0 0, .int 3 0, .ref 1232, .bool true, .int 181 0, .ref 1233, .none, .ref 1234, .ref 1235, .ref 1236, .int 1801 0, .int 703 0, .str "/claim/cut.py" 1802], #[]⟩ : Obj)) ::
  (nat_lit 1238, (⟨(.type "function"), none, .func (PySem.W.fnOf "_law_refused" "_law_refused" (defArgs sRefused) (defBody sRefused) (defScope sRefused) .none .none .none (.str "law_openranges_k12_clauses_turned" 1608) none (.ref 1237) .none), #[]⟩ : Obj)) ::
  (nat_lit 1244, (⟨(.type "code"), none, .fields #[.str "law" 1804, .str "law" 1805, .str "/claim/cut.py" 1806, .int 709 0, .int 1 0, .int 0 0, .int 0 0, .int 3 0, .ref 1239, .bool true, .int 181 0, .ref 1240, .none, .ref 1241, .ref 1242, .ref 1243, .int 1816 0, .int 709 0, .str "/claim/cut.py" 1817], #[]⟩ : Obj)) ::
  (nat_lit 1245, (⟨(.type "function"), none, .func (PySem.W.fnOf "law" "law" (defArgs sLaw) (defBody sLaw) (defScope sLaw) .none .none .none (.str "law_openranges_k12_clauses_turned" 1608) none (.ref 1244) .none), #[]⟩ : Obj)) :: []
end OR

namespace OR
open PySem PySem.Spec PyProof.Rows L2
set_option maxHeartbeats 0 in
set_option maxHeartbeats 0 in
theorem all_mk {l : PySem.W.OpenLaw} {w : World} {K : PySem.W.Frag} {h : Heap} {mg : Str → Option Value} {fa CP CL EF CE aT c0 c1 c2 c3 c4 c5 c6 : Addr} (X : K.In h) (G : h.Ns mainGlobals mg) (hfa : mg "law" = some (.ref fa)) (L : PAt K CP) (LL : LAt K CL) (Z : ZAt K) (tu : TuAt K w aT)
    (z_str : PySem.W.nsIn K mainGlobals "str" = some none) (z_all : PySem.W.nsIn K mainGlobals "all" = some none) (z_repr : PySem.W.nsIn K mainGlobals "repr" = some none) (z_ValueError : PySem.W.nsIn K mainGlobals "ValueError" = some none) (lp : ∃ t, mg "LAST_PLACE" = some (.int lastP t))
    (let_ : ∃ t, PySem.W.nsIn K mainGlobals "_LETTERS" = some (some (.str "abcdefghijklmnopqrstuvwxyz" t))) (most : ∃ t, PySem.W.nsIn K mainGlobals "_MOST_LETTERS" = some (some (.int 8 t))) (tS : TpAt K "SIGNS" ["<=", ">=", "="]) (tW : TpAt K "WAYS" ["up", "down"])
    (k0 : CAt K c0 "Answers" ["kind", "function", "places"]) (k1 : CAt K c1 "Refuses" ["kind", "function", "places"]) (k2 : CAt K c2 "Needs" ["kind", "function", "places", "other"]) (k3 : CAt K c3 "Spreads" ["kind", "function", "places", "way"]) (k4 : CAt K c4 "Bound" ["kind", "function", "places", "sign", "slope", "height"]) (k5 : CAt K c5 "Pair" ["kind", "function", "places", "sign", "other", "slope", "height"]) (k6 : CAt K c6 "Step" ["kind", "function", "places", "sign", "height"]) (k7 : K7 K c0 c1 c2 c3 c4 c5 c6)
    (mI : MtD K CP "__init__" "Places.__init__" sPlInit) (fDI : FnAt K "is_integer" sIsInt) (fDP : FnAt K "is_place" sIsPlace) (fDS : FnAt K "_is_stretch" sIsStretch) (fDJ : FnAt K "_joined" sJoined) (fDC : FnAt K "_counts_before" sCounts) (hEQP : MtAt K CP "__eq__" "__eq__" "Places.__eq__" sPlEq) (fDCut : FnAt K "_cut_to_places" pCutToPlaces) (hSHP : MtAt K CP "shifted" "shifted" "Places.shifted" sPlacesShifted) (hMRP : MtAt K CP "mirrored" "mirrored" "Places.mirrored" sPlacesMirrored) (mIL : MtAt K CL "__init__" "__init__" "Line.__init__" sLInit) (hLMV : MtAt K CL "moved" "moved" "Line.moved" sLineMoved) (hLMR : MtAt K CL "mirrored" "mirrored" "Line.mirrored" sLineMirrored) (fIW : FnAt K "is_word" sIsWord) (fCW : FnAt K "check_word" sChkW) (fCT : FnAt K "check_two_words" sChkTwo) (fCS : FnAt K "check_sign" sChkSign) (eE : ErAt K "BadFactor" "BadFactor.__init__" "factor" sBadFactorInit EF CE) (fKF : FnAt K "check_factor" pCheckFactor) (hmL4 : MtAt K c4 "line" "line" "Bound.line" sBouLine) (hmL5 : MtAt K c5 "line" "line" "Pair.line" sPaiLine) (mI0 : MtAt K c0 "__init__" "__init__" "Answers.__init__" sAnsInit) (hmE0 : MtAt K c0 "__eq__" "__eq__" "Answers.__eq__" sAnsEq) (hmN0 : MtAt K c0 "negated" "negated" "Answers.negated" sAnsNeg) (hmT0 : MtAt K c0 "times" "times" "Answers.times" sAnsTim) (hmV0 : MtAt K c0 "moved" "moved" "Answers.moved" sAnsMov) (hmR0 : MtAt K c0 "mirrored" "mirrored" "Answers.mirrored" sAnsMir) (mI1 : MtAt K c1 "__init__" "__init__" "Refuses.__init__" sRefInit) (hmE1 : MtAt K c1 "__eq__" "__eq__" "Refuses.__eq__" sRefEq) (hmN1 : MtAt K c1 "negated" "negated" "Refuses.negated" sRefNeg) (hmT1 : MtAt K c1 "times" "times" "Refuses.times" sRefTim) (hmV1 : MtAt K c1 "moved" "moved" "Refuses.moved" sRefMov) (hmR1 : MtAt K c1 "mirrored" "mirrored" "Refuses.mirrored" sRefMir) (mI2 : MtAt K c2 "__init__" "__init__" "Needs.__init__" sNeeInit) (hmE2 : MtAt K c2 "__eq__" "__eq__" "Needs.__eq__" sNeeEq) (hmN2 : MtAt K c2 "negated" "negated" "Needs.negated" sNeeNeg) (hmT2 : MtAt K c2 "times" "times" "Needs.times" sNeeTim) (hmV2 : MtAt K c2 "moved" "moved" "Needs.moved" sNeeMov) (hmR2 : MtAt K c2 "mirrored" "mirrored" "Needs.mirrored" sNeeMir) (mI3 : MtAt K c3 "__init__" "__init__" "Spreads.__init__" sSprInit) (hmE3 : MtAt K c3 "__eq__" "__eq__" "Spreads.__eq__" sSprEq) (hmN3 : MtAt K c3 "negated" "negated" "Spreads.negated" sSprNeg) (hmT3 : MtAt K c3 "times" "times" "Spreads.times" sSprTim) (hmV3 : MtAt K c3 "moved" "moved" "Spreads.moved" sSprMov) (hmR3 : MtAt K c3 "mirrored" "mirrored" "Spreads.mirrored" sSprMir) (mI4 : MtAt K c4 "__init__" "__init__" "Bound.__init__" sBouInit) (hmE4 : MtAt K c4 "__eq__" "__eq__" "Bound.__eq__" sBouEq) (hmN4 : MtAt K c4 "negated" "negated" "Bound.negated" sBouNeg) (hmT4 : MtAt K c4 "times" "times" "Bound.times" sBouTim) (hmV4 : MtAt K c4 "moved" "moved" "Bound.moved" sBouMov) (hmR4 : MtAt K c4 "mirrored" "mirrored" "Bound.mirrored" sBouMir) (mI5 : MtAt K c5 "__init__" "__init__" "Pair.__init__" sPaiInit) (hmE5 : MtAt K c5 "__eq__" "__eq__" "Pair.__eq__" sPaiEq) (hmN5 : MtAt K c5 "negated" "negated" "Pair.negated" sPaiNeg) (hmT5 : MtAt K c5 "times" "times" "Pair.times" sPaiTim) (hmV5 : MtAt K c5 "moved" "moved" "Pair.moved" sPaiMov) (hmR5 : MtAt K c5 "mirrored" "mirrored" "Pair.mirrored" sPaiMir) (mI6 : MtAt K c6 "__init__" "__init__" "Step.__init__" sSteInit) (hmE6 : MtAt K c6 "__eq__" "__eq__" "Step.__eq__" sSteEq) (hmN6 : MtAt K c6 "negated" "negated" "Step.negated" sSteNeg) (hmT6 : MtAt K c6 "times" "times" "Step.times" sSteTim) (hmV6 : MtAt K c6 "moved" "moved" "Step.moved" sSteMov) (hmR6 : MtAt K c6 "mirrored" "mirrored" "Step.mirrored" sSteMir) (fDPen : FnAt K "_law_pen" sPen) (fDDraw : FnAt K "_law_draw" sDraw) (fDPick : FnAt K "_law_pick" sPick) (fDShuf : FnAt K "_law_shuffled" sShuffled) (fDWords : FnAt K "_law_words" sWords) (fDSpot : FnAt K "_law_spot" sSpot) (fDDrawn : FnAt K "_law_drawn" sDrawn) (fDMerg : FnAt K "_law_merged" sMerged) (fDWhole : FnAt K "_law_whole" sWhole) (fDLine : FnAt K "_law_line" sLine) (fDSpec : FnAt K "_law_spec" sSpec) (fDCla : FnAt K "_law_clause" sClause) (fDPar : FnAt K "_law_parts" sParts) (fDWN : FnAt K "_law_with_numbers" sWithN) (fDNu : FnAt K "_law_numbers" sNumbers) (fDTS : FnAt K "_law_turned_sign" sTurnedSign) (fDON : FnAt K "_law_is_of_numbers" sOfNum) (fDNe : FnAt K "_law_negated" sNegated) (fDTi : FnAt K "_law_times" sTimes) (fDMo : FnAt K "_law_moved" sMoved) (fDMi : FnAt K "_law_mirrored" sMirrored) (fDRf : FnAt K "_law_refused" sRefused) (fLaw : FnAt K "law" sLaw) :
    ∃ fd : FuncData, (∀ (s : Shared) (v : Value), BindsTo s fd ⟨[v], []⟩ [("_law_script", v)]) ∧ ∀ base : Heap, K.In base → base.Ns mainGlobals mg → FnG l.prog w K mg base 8 fa fd ["_law_script"] (spLaw K) := by
  obtain ⟨f, fd, F, e⟩ := fLaw.ex
  have e := hfa.symm.trans (PySem.W.mg_of X G e)
  cases e
  refine ⟨fd, fun s v => ?_, fun base _ _ => ?_⟩
  · obtain ⟨oc, od, kV, doc, pm, an, cdv, ct, osl, rfl, _⟩ := F.ex
    exact .of_eq rfl
  have PT : PTxt K mg CP := L.txt X G Z lp
  have LT : LTxt K mg CL := LL.txt X G Z
  have TT : TuTxt K w mg aT := tu.txt X G
  have none : ∀ {x : Str}, PySem.W.nsIn K mainGlobals x = some none → mg x = none := fun z => PySem.W.mg_none_of X G z
  have BL : Bl mg := ⟨none Z.int, none Z.len, none Z.abs, none Z.list⟩
  have B : Bd mg := ⟨none Z.range, none Z.min, none Z.max, none Z.int, none Z.len, none Z.list, none Z.set, none Z.sorted⟩
  obtain ⟨ts, gS, hS⟩ := tS.ex
  obtain ⟨tw, gW, hW⟩ := tW.ex
  have WT : WTxt K mg ts tw := ⟨none Z.isi, none z_str, none Z.len, none z_all, let_.imp fun t e => PySem.W.mg_of X G e, most.imp fun t e => PySem.W.mg_of X G e, PySem.W.mg_of X G gS, PySem.W.mg_of X G gW, hS, hW⟩
  let C : Nat → Addr := cf c0 c1 c2 c3 c4 c5 c6
  have T : CTxt K mg C := ⟨all7 ⟨k0.pg, k0.hd, k0.po, k0.sa⟩ ⟨k1.pg, k1.hd, k1.po, k1.sa⟩ ⟨k2.pg, k2.hd, k2.po, k2.sa⟩ ⟨k3.pg, k3.hd, k3.po, k3.sa⟩ ⟨k4.pg, k4.hd, k4.po, k4.sa⟩ ⟨k5.pg, k5.hd, k5.po, k5.sa⟩ ⟨k6.pg, k6.hd, k6.po, k6.sa⟩, all7 k0.no k1.no k2.no k3.no k4.no k5.no k6.no, all7 ⟨k0.ca, k0.cn, k0.ct, k0.cm⟩ ⟨k1.ca, k1.cn, k1.ct, k1.cm⟩ ⟨k2.ca, k2.cn, k2.ct, k2.cm⟩ ⟨k3.ca, k3.cn, k3.ct, k3.cm⟩ ⟨k4.ca, k4.cn, k4.ct, k4.cm⟩ ⟨k5.ca, k5.cn, k5.ct, k5.cm⟩ ⟨k6.ca, k6.cn, k6.ct, k6.cm⟩, k7.kk, all7 (PySem.W.mg_of X G k0.aC) (PySem.W.mg_of X G k1.aC) (PySem.W.mg_of X G k2.aC) (PySem.W.mg_of X G k3.aC) (PySem.W.mg_of X G k4.aC) (PySem.W.mg_of X G k5.aC) (PySem.W.mg_of X G k6.aC), all7 k0.sf k1.sf k2.sf k3.sf k4.sf k5.sf k6.sf, all7 k0.ne k1.ne k2.ne k3.ne k4.ne k5.ne k6.ne, all7 k0.kS k1.kS k2.kS k3.kS k4.kS k5.kS k6.kS, all7 k0.kT k1.kT k2.kT k3.kT k4.kT k5.kT k6.kT⟩
  have NFK : NF K C := ⟨k7.cc, all7 (nf_of k0.nS) (nf_of k1.nS) (nf_of k2.nS) (nf_of k3.nS) (nf_of k4.nS) (nf_of k5.nS) (nf_of k6.nS), all7 (nf_of k0.nT) (nf_of k1.nT) (nf_of k2.nT) (nf_of k3.nT) (nf_of k4.nT) (nf_of k5.nT) (nf_of k6.nT)⟩
  have DI : Cl l.prog w K mg base 1 "is_integer" ["value"] (spIsIntG K) := cl_of fDI X G (fun _ _ _ _ _ _ us hl => match us, hl with | [_], _ => rfl) fun f fd F => ok_isintG F PT
  have DP : Cl l.prog w K mg base 2 "is_place" ["value"] (spIsPlace K) := cl_of fDP X G (fun _ _ _ _ _ _ us hl => match us, hl with | [_], _ => rfl) fun f fd F => ok_isplace F PT DI
  have DS : Cl l.prog w K mg base 3 "_is_stretch" ["value"] spIsStretchP := cl_of fDS X G (fun _ _ _ _ _ _ us hl => match us, hl with | [_], _ => rfl) fun f fd F => ok_isstretch F PT DP
  have DJ : Cl l.prog w K mg base 1 "_joined" ["stretches"] (spJoined K) := cl_of fDJ X G (fun _ _ _ _ _ _ us hl => match us, hl with | [_], _ => rfl) fun f fd F => ok_joined F PT
  have DC : Cl l.prog w K mg base 1 "_counts_before" ["stretches"] (spCounts K) := cl_of fDC X G (fun _ _ _ _ _ _ us hl => match us, hl with | [_], _ => rfl) fun f fd F => ok_counts F PT
  have PM : PMk' l.prog w K mg base CP := pmk_of PT L mI DS DJ DC
  have EQP : Md l.prog w K mg base 1 CP "__eq__" (spPlEq K CP) := md_of hEQP (ps := ["self", "other"]) (fun _ _ _ _ _ _ us hl => match us, hl with | [_, _], _ => rfl) fun f fd F => ok_pleq F PT
  have DCut : Cl l.prog w K mg base 1 "_cut_to_places" ["pairs"] (spCutTo K) := cl_of fDCut X G (fun _ _ _ _ _ _ us hl => match us, hl with | [_], _ => rfl) fun f fd F => ok_cutto F PT (none Z.min)
  have SHP : Mt l.prog w K mg base 6 CP "shifted" ["self", "by"] (spMove CP fun t d => t - d) := mt_of hSHP (ps := ["self", "by"]) (fun _ _ _ _ _ _ us hl => match us, hl with | [_, _], _ => rfl) fun f fd F => ok_shift F PM DCut
  have MRP : Mt l.prog w K mg base 6 CP "mirrored" ["self", "last"] (spMove CP fun t d => d - t) := mt_of hMRP (ps := ["self", "last"]) (fun _ _ _ _ _ _ us hl => match us, hl with | [_, _], _ => rfl) fun f fd F => ok_mirror F PM DCut
  have LM : LMk l.prog w K mg base CL := lmk_of LT LL mIL
  have LMV : Mt l.prog w K mg base 4 CL "moved" ["self", "by"] (spLMov CL) := mt_of hLMV (ps := ["self", "by"]) (fun _ _ _ _ _ _ us hl => match us, hl with | [_, _], _ => rfl) fun f fd F => ok_lmov F LT LM
  have LMR : Mt l.prog w K mg base 4 CL "mirrored" ["self", "last"] (spLMir CL) := mt_of hLMR (ps := ["self", "last"]) (fun _ _ _ _ _ _ us hl => match us, hl with | [_, _], _ => rfl) fun f fd F => ok_lmir F LT LM
  have IW : Cl l.prog w K mg base 1 "is_word" ["value"] spIsWord := cl_of fIW X G (fun _ _ _ _ _ _ us hl => match us, hl with | [_], _ => rfl) fun f fd F => ok_isword F WT
  have CW : Cl l.prog w K mg base 2 "check_word" ["value"] spChkW := cl_of fCW X G (fun _ _ _ _ _ _ us hl => match us, hl with | [_], _ => rfl) fun f fd F => ok_chkw F IW
  have CT : Cl l.prog w K mg base 3 "check_two_words" ["function", "other"] spChkTwo := cl_of fCT X G (fun _ _ _ _ _ _ us hl => match us, hl with | [_, _], _ => rfl) fun f fd F => ok_chktwo F CW
  have CS : Cl l.prog w K mg base 1 "check_sign" ["value", "allowed"] (spChkS K) := cl_of fCS X G (fun _ _ _ _ _ _ us hl => match us, hl with | [_, _], _ => rfl) fun f fd F => ok_chks F
  have EK : ErK l.prog w K mg base "BadFactor" "factor" EF CE := er_of X G eE (none z_ValueError) (fun _ _ _ _ _ _ us hl => match us, hl with | [_, _], _ => rfl) fun f fd F T => ok_erBf F T
  have KF : ClX l.prog w K mg base 3 "check_factor" ["value"] (spChkFac EF) := clX_of fKF X G (fun _ _ _ _ _ _ us hl => match us, hl with | [_], _ => rfl) fun f fd F => ok_factor F EK DI
  have mL4 : Mt l.prog w K mg base 3 c4 "line" ["self"] (spCLine CP CL C 4) := mt_of hmL4 (ps := ["self"]) (fun _ _ _ _ _ _ us hl => match us, hl with | [_], _ => rfl) fun f fd F => ok_BouL F T LM
  have mL5 : Mt l.prog w K mg base 3 c5 "line" ["self"] (spCLine CP CL C 5) := mt_of hmL5 (ps := ["self"]) (fun _ _ _ _ _ _ us hl => match us, hl with | [_], _ => rfl) fun f fd F => ok_PaiL F T LM
  have M0 : CMk l.prog w K mg base C 0 ["self", "function", "places"] := ⟨by
    obtain ⟨f, fd, F, a, b, c⟩ := mI0.ex
    exact ⟨f, fd, ⟨k0.mks, a, b, k0.kc⟩, ok_AnsI F T CW, F.binds (fun _ _ _ _ _ _ us hl => match us, hl with | [_, _, _], _ => rfl)⟩, T.mgC 0 (by decide)⟩
  have mE0 : Md l.prog w K mg base 2 c0 "__eq__" (spCEq K CP C 0) := md_of hmE0 (ps := ["self", "other"]) (fun _ _ _ _ _ _ us hl => match us, hl with | [_, _], _ => rfl) fun f fd F => ok_AnsE F T PT EQP
  have mN0 : Mt l.prog w K mg base 6 c0 "negated" ["self"] (spNeg CP C 0) := mt_of hmN0 (ps := ["self"]) (fun _ _ _ _ _ _ us hl => match us, hl with | [_], _ => rfl) fun f fd F => ok_AnsN F T M0
  have mT0 : MtX l.prog w K mg base 6 c0 "times" ["self", "factor"] (spTim CP C EF 0) := mtX_of hmT0 (ps := ["self", "factor"]) (fun _ _ _ _ _ _ us hl => match us, hl with | [_, _], _ => rfl) fun f fd F => ok_AnsT F T KF M0
  have mV0 : Mt l.prog w K mg base 7 c0 "moved" ["self", "by"] (spMov CP C 0) := mt_of hmV0 (ps := ["self", "by"]) (fun _ _ _ _ _ _ us hl => match us, hl with | [_, _], _ => rfl) fun f fd F => ok_AnsMov F T PT SHP M0
  have mR0 : Mt l.prog w K mg base 7 c0 "mirrored" ["self", "last"] (spMir CP C 0) := mt_of hmR0 (ps := ["self", "last"]) (fun _ _ _ _ _ _ us hl => match us, hl with | [_, _], _ => rfl) fun f fd F => ok_AnsMir F T PT MRP M0
  have M1 : CMk l.prog w K mg base C 1 ["self", "function", "places"] := ⟨by
    obtain ⟨f, fd, F, a, b, c⟩ := mI1.ex
    exact ⟨f, fd, ⟨k1.mks, a, b, k1.kc⟩, ok_RefI F T CW, F.binds (fun _ _ _ _ _ _ us hl => match us, hl with | [_, _, _], _ => rfl)⟩, T.mgC 1 (by decide)⟩
  have mE1 : Md l.prog w K mg base 2 c1 "__eq__" (spCEq K CP C 1) := md_of hmE1 (ps := ["self", "other"]) (fun _ _ _ _ _ _ us hl => match us, hl with | [_, _], _ => rfl) fun f fd F => ok_RefE F T PT EQP
  have mN1 : Mt l.prog w K mg base 6 c1 "negated" ["self"] (spNeg CP C 1) := mt_of hmN1 (ps := ["self"]) (fun _ _ _ _ _ _ us hl => match us, hl with | [_], _ => rfl) fun f fd F => ok_RefN F T M1
  have mT1 : MtX l.prog w K mg base 6 c1 "times" ["self", "factor"] (spTim CP C EF 1) := mtX_of hmT1 (ps := ["self", "factor"]) (fun _ _ _ _ _ _ us hl => match us, hl with | [_, _], _ => rfl) fun f fd F => ok_RefT F T KF M1
  have mV1 : Mt l.prog w K mg base 7 c1 "moved" ["self", "by"] (spMov CP C 1) := mt_of hmV1 (ps := ["self", "by"]) (fun _ _ _ _ _ _ us hl => match us, hl with | [_, _], _ => rfl) fun f fd F => ok_RefMov F T PT SHP M1
  have mR1 : Mt l.prog w K mg base 7 c1 "mirrored" ["self", "last"] (spMir CP C 1) := mt_of hmR1 (ps := ["self", "last"]) (fun _ _ _ _ _ _ us hl => match us, hl with | [_, _], _ => rfl) fun f fd F => ok_RefMir F T PT MRP M1
  have M2 : CMk l.prog w K mg base C 2 ["self", "function", "places", "other"] := ⟨by
    obtain ⟨f, fd, F, a, b, c⟩ := mI2.ex
    exact ⟨f, fd, ⟨k2.mks, a, b, k2.kc⟩, ok_NeeI F T CT, F.binds (fun _ _ _ _ _ _ us hl => match us, hl with | [_, _, _, _], _ => rfl)⟩, T.mgC 2 (by decide)⟩
  have mE2 : Md l.prog w K mg base 2 c2 "__eq__" (spCEq K CP C 2) := md_of hmE2 (ps := ["self", "other"]) (fun _ _ _ _ _ _ us hl => match us, hl with | [_, _], _ => rfl) fun f fd F => ok_NeeE F T PT EQP
  have mN2 : Mt l.prog w K mg base 6 c2 "negated" ["self"] (spNeg CP C 2) := mt_of hmN2 (ps := ["self"]) (fun _ _ _ _ _ _ us hl => match us, hl with | [_], _ => rfl) fun f fd F => ok_NeeN F T M2
  have mT2 : MtX l.prog w K mg base 6 c2 "times" ["self", "factor"] (spTim CP C EF 2) := mtX_of hmT2 (ps := ["self", "factor"]) (fun _ _ _ _ _ _ us hl => match us, hl with | [_, _], _ => rfl) fun f fd F => ok_NeeT F T KF M2
  have mV2 : Mt l.prog w K mg base 7 c2 "moved" ["self", "by"] (spMov CP C 2) := mt_of hmV2 (ps := ["self", "by"]) (fun _ _ _ _ _ _ us hl => match us, hl with | [_, _], _ => rfl) fun f fd F => ok_NeeMov F T PT SHP M2
  have mR2 : Mt l.prog w K mg base 7 c2 "mirrored" ["self", "last"] (spMir CP C 2) := mt_of hmR2 (ps := ["self", "last"]) (fun _ _ _ _ _ _ us hl => match us, hl with | [_, _], _ => rfl) fun f fd F => ok_NeeMir F T PT MRP M2
  have M3 : CMk l.prog w K mg base C 3 ["self", "function", "places", "way"] := ⟨by
    obtain ⟨f, fd, F, a, b, c⟩ := mI3.ex
    exact ⟨f, fd, ⟨k3.mks, a, b, k3.kc⟩, ok_SprI F T CW CS WT, F.binds (fun _ _ _ _ _ _ us hl => match us, hl with | [_, _, _, _], _ => rfl)⟩, T.mgC 3 (by decide)⟩
  have mE3 : Md l.prog w K mg base 2 c3 "__eq__" (spCEq K CP C 3) := md_of hmE3 (ps := ["self", "other"]) (fun _ _ _ _ _ _ us hl => match us, hl with | [_, _], _ => rfl) fun f fd F => ok_SprE F T PT EQP
  have mN3 : Mt l.prog w K mg base 6 c3 "negated" ["self"] (spNeg CP C 3) := mt_of hmN3 (ps := ["self"]) (fun _ _ _ _ _ _ us hl => match us, hl with | [_], _ => rfl) fun f fd F => ok_SprN F T M3
  have mT3 : MtX l.prog w K mg base 6 c3 "times" ["self", "factor"] (spTim CP C EF 3) := mtX_of hmT3 (ps := ["self", "factor"]) (fun _ _ _ _ _ _ us hl => match us, hl with | [_, _], _ => rfl) fun f fd F => ok_SprT F T KF M3
  have mV3 : Mt l.prog w K mg base 7 c3 "moved" ["self", "by"] (spMov CP C 3) := mt_of hmV3 (ps := ["self", "by"]) (fun _ _ _ _ _ _ us hl => match us, hl with | [_, _], _ => rfl) fun f fd F => ok_SprMov F T PT SHP M3
  have mR3 : Mt l.prog w K mg base 7 c3 "mirrored" ["self", "last"] (spMir CP C 3) := mt_of hmR3 (ps := ["self", "last"]) (fun _ _ _ _ _ _ us hl => match us, hl with | [_, _], _ => rfl) fun f fd F => ok_SprMir F T PT MRP TT M3
  have M4 : CMk l.prog w K mg base C 4 ["self", "function", "places", "sign", "slope", "height"] := ⟨by
    obtain ⟨f, fd, F, a, b, c⟩ := mI4.ex
    exact ⟨f, fd, ⟨k4.mks, a, b, k4.kc⟩, ok_BouI F T CW CS WT, F.binds (fun _ _ _ _ _ _ us hl => match us, hl with | [_, _, _, _, _, _], _ => rfl)⟩, T.mgC 4 (by decide)⟩
  have mE4 : Md l.prog w K mg base 2 c4 "__eq__" (spCEq K CP C 4) := md_of hmE4 (ps := ["self", "other"]) (fun _ _ _ _ _ _ us hl => match us, hl with | [_, _], _ => rfl) fun f fd F => ok_BouE F T PT EQP
  have mN4 : Mt l.prog w K mg base 6 c4 "negated" ["self"] (spNeg CP C 4) := mt_of hmN4 (ps := ["self"]) (fun _ _ _ _ _ _ us hl => match us, hl with | [_], _ => rfl) fun f fd F => ok_BouN F T TT M4
  have mT4 : MtX l.prog w K mg base 6 c4 "times" ["self", "factor"] (spTim CP C EF 4) := mtX_of hmT4 (ps := ["self", "factor"]) (fun _ _ _ _ _ _ us hl => match us, hl with | [_, _], _ => rfl) fun f fd F => ok_BouT F T KF M4
  have mV4 : Mt l.prog w K mg base 7 c4 "moved" ["self", "by"] (spMov CP C 4) := mt_of hmV4 (ps := ["self", "by"]) (fun _ _ _ _ _ _ us hl => match us, hl with | [_, _], _ => rfl) fun f fd F => ok_BouMov F T PT SHP LT mL4 LMV M4
  have mR4 : Mt l.prog w K mg base 7 c4 "mirrored" ["self", "last"] (spMir CP C 4) := mt_of hmR4 (ps := ["self", "last"]) (fun _ _ _ _ _ _ us hl => match us, hl with | [_, _], _ => rfl) fun f fd F => ok_BouMir F T PT MRP LT mL4 LMR M4
  have M5 : CMk l.prog w K mg base C 5 ["self", "function", "places", "sign", "other", "slope", "height"] := ⟨by
    obtain ⟨f, fd, F, a, b, c⟩ := mI5.ex
    exact ⟨f, fd, ⟨k5.mks, a, b, k5.kc⟩, ok_PaiI F T CT CS WT, F.binds (fun _ _ _ _ _ _ us hl => match us, hl with | [_, _, _, _, _, _, _], _ => rfl)⟩, T.mgC 5 (by decide)⟩
  have mE5 : Md l.prog w K mg base 2 c5 "__eq__" (spCEq K CP C 5) := md_of hmE5 (ps := ["self", "other"]) (fun _ _ _ _ _ _ us hl => match us, hl with | [_, _], _ => rfl) fun f fd F => ok_PaiE F T PT EQP
  have mN5 : Mt l.prog w K mg base 6 c5 "negated" ["self"] (spNeg CP C 5) := mt_of hmN5 (ps := ["self"]) (fun _ _ _ _ _ _ us hl => match us, hl with | [_], _ => rfl) fun f fd F => ok_PaiN F T TT M5
  have mT5 : MtX l.prog w K mg base 6 c5 "times" ["self", "factor"] (spTim CP C EF 5) := mtX_of hmT5 (ps := ["self", "factor"]) (fun _ _ _ _ _ _ us hl => match us, hl with | [_, _], _ => rfl) fun f fd F => ok_PaiT F T KF M5
  have mV5 : Mt l.prog w K mg base 7 c5 "moved" ["self", "by"] (spMov CP C 5) := mt_of hmV5 (ps := ["self", "by"]) (fun _ _ _ _ _ _ us hl => match us, hl with | [_, _], _ => rfl) fun f fd F => ok_PaiMov F T PT SHP LT mL5 LMV M5
  have mR5 : Mt l.prog w K mg base 7 c5 "mirrored" ["self", "last"] (spMir CP C 5) := mt_of hmR5 (ps := ["self", "last"]) (fun _ _ _ _ _ _ us hl => match us, hl with | [_, _], _ => rfl) fun f fd F => ok_PaiMir F T PT MRP LT mL5 LMR M5
  have M6 : CMk l.prog w K mg base C 6 ["self", "function", "places", "sign", "height"] := ⟨by
    obtain ⟨f, fd, F, a, b, c⟩ := mI6.ex
    exact ⟨f, fd, ⟨k6.mks, a, b, k6.kc⟩, ok_SteI F T CW CS WT, F.binds (fun _ _ _ _ _ _ us hl => match us, hl with | [_, _, _, _, _], _ => rfl)⟩, T.mgC 6 (by decide)⟩
  have mE6 : Md l.prog w K mg base 2 c6 "__eq__" (spCEq K CP C 6) := md_of hmE6 (ps := ["self", "other"]) (fun _ _ _ _ _ _ us hl => match us, hl with | [_, _], _ => rfl) fun f fd F => ok_SteE F T PT EQP
  have mN6 : Mt l.prog w K mg base 6 c6 "negated" ["self"] (spNeg CP C 6) := mt_of hmN6 (ps := ["self"]) (fun _ _ _ _ _ _ us hl => match us, hl with | [_], _ => rfl) fun f fd F => ok_SteN F T TT M6
  have mT6 : MtX l.prog w K mg base 6 c6 "times" ["self", "factor"] (spTim CP C EF 6) := mtX_of hmT6 (ps := ["self", "factor"]) (fun _ _ _ _ _ _ us hl => match us, hl with | [_, _], _ => rfl) fun f fd F => ok_SteT F T KF M6
  have mV6 : Mt l.prog w K mg base 7 c6 "moved" ["self", "by"] (spMov CP C 6) := mt_of hmV6 (ps := ["self", "by"]) (fun _ _ _ _ _ _ us hl => match us, hl with | [_, _], _ => rfl) fun f fd F => ok_SteMov F T PT SHP M6
  have mR6 : Mt l.prog w K mg base 7 c6 "mirrored" ["self", "last"] (spMir CP C 6) := mt_of hmR6 (ps := ["self", "last"]) (fun _ _ _ _ _ _ us hl => match us, hl with | [_, _], _ => rfl) fun f fd F => ok_SteMir F T PT MRP TT M6
  have TM : ∀ i, i < 7 → MtX l.prog w K mg base 6 (C i) "times" ["self", "factor"] (spTim CP C EF i) := all7 mT0 mT1 mT2 mT3 mT4 mT5 mT6
  have DPen : Cl l.prog w K mg base 1 "_law_pen" ["_law_script"] (spPen K) := cl_of fDPen X G (fun _ _ _ _ _ _ us hl => match us, hl with | [_], _ => rfl) fun f fd F => ok_pen F BL
  have DDraw : Cl l.prog w K mg base 1 "_law_draw" ["_law_pen_here", "_law_many"] spDraw := cl_of fDDraw X G (fun _ _ _ _ _ _ us hl => match us, hl with | [_, _], _ => rfl) fun f fd F => ok_draw F BL
  have DPick : Cl l.prog w K mg base 2 "_law_pick" ["_law_pen_here", "_law_items"] (spPick K) := cl_of fDPick X G (fun _ _ _ _ _ _ us hl => match us, hl with | [_, _], _ => rfl) fun f fd F => ok_pick F BL DDraw
  have DPickS : Cl l.prog w K mg base 2 "_law_pick" ["_law_pen_here", "_law_items"] spPickS := cl_of fDPick X G (fun _ _ _ _ _ _ us hl => match us, hl with | [_, _], _ => rfl) fun f fd F => ok_pickS F BL DDraw
  have DShuf : Cl l.prog w K mg base 2 "_law_shuffled" ["_law_pen_here", "_law_items"] (spShufS K) := cl_of fDShuf X G (fun _ _ _ _ _ _ us hl => match us, hl with | [_, _], _ => rfl) fun f fd F => ok_shufs F B DDraw
  have DWords : Cl l.prog w K mg base 3 "_law_words" ["_law_pen_here", "_law_many"] spWords := cl_of fDWords X G (fun _ _ _ _ _ _ us hl => match us, hl with | [_, _], _ => rfl) fun f fd F => ok_words F B DDraw DPick DPickS
  have DSpot : Cl l.prog w K mg base 2 "_law_spot" ["_law_pen_here"] spSpot := cl_of fDSpot X G (fun _ _ _ _ _ _ us hl => match us, hl with | [_], _ => rfl) fun f fd F => ok_spot F DDraw
  have DDrawn : Cl l.prog w K mg base 3 "_law_drawn" ["_law_pen_here", "_law_most"] spDrawn := cl_of fDDrawn X G (fun _ _ _ _ _ _ us hl => match us, hl with | [_, _], _ => rfl) fun f fd F => ok_drawn F B DDraw DPick DSpot
  have DMerg : Cl l.prog w K mg base 1 "_law_merged" ["_law_rows"] (spMerged K) := cl_of fDMerg X G (fun _ _ _ _ _ _ us hl => match us, hl with | [_], _ => rfl) fun f fd F => ok_merged F B
  have DWhole : Cl l.prog w K mg base 3 "_law_whole" ["_law_pen_here"] spWhole := cl_of fDWhole X G (fun _ _ _ _ _ _ us hl => match us, hl with | [_], _ => rfl) fun f fd F => ok_whole F DDraw DPick
  have DLine : Cl l.prog w K mg base 4 "_law_line" ["_law_pen_here"] spLine := cl_of fDLine X G (fun _ _ _ _ _ _ us hl => match us, hl with | [_], _ => rfl) fun f fd F => ok_line F DDraw DPick DWhole
  have DSpec : Cl l.prog w K mg base 5 "_law_spec" ["_law_pen_here", "_law_words_here", "_law_rows", "_law_kind"] (spSpec K) := cl_of fDSpec X G (fun _ _ _ _ _ _ us hl => match us, hl with | [_, _, _, _], _ => rfl) fun f fd F => ok_spec F DPick DLine
  have DCla : Cl l.prog w K mg base 6 "_law_clause" ["_law_spec_here"] (spClause CP C) := cl_of fDCla X G (fun _ _ _ _ _ _ us hl => match us, hl with | [_], _ => rfl) fun f fd F => ok_clause F PM M0 M1 M2 M3 M4 M5 M6
  have DPar : Cl l.prog w K mg base 1 "_law_parts" ["_law_clause_here"] (spParts CP C) := cl_of fDPar X G (fun _ _ _ _ _ _ us hl => match us, hl with | [_], _ => rfl) fun f fd F => ok_parts F B T PT
  have DWN : Cl l.prog w K mg base 1 "_law_with_numbers" ["_law_spec_here", "_law_slope", "_law_height"] spWithN := cl_of fDWN X G (fun _ _ _ _ _ _ us hl => match us, hl with | [_, _, _], _ => rfl) fun f fd F => ok_withn F
  have DNu : Cl l.prog w K mg base 1 "_law_numbers" ["_law_spec_here"] spNums := cl_of fDNu X G (fun _ _ _ _ _ _ us hl => match us, hl with | [_], _ => rfl) fun f fd F => ok_nums F
  have DTS : Cl l.prog w K mg base 1 "_law_turned_sign" ["_law_spec_here"] spTS := cl_of fDTS X G (fun _ _ _ _ _ _ us hl => match us, hl with | [_], _ => rfl) fun f fd F => ok_ts F
  have DON : Cl l.prog w K mg base 1 "_law_is_of_numbers" ["_law_spec_here"] spOfN := cl_of fDON X G (fun _ _ _ _ _ _ us hl => match us, hl with | [_], _ => rfl) fun f fd F => ok_ofn F
  have DNe : Cl l.prog w K mg base 2 "_law_negated" ["_law_spec_here"] spLNeg := cl_of fDNe X G (fun _ _ _ _ _ _ us hl => match us, hl with | [_], _ => rfl) fun f fd F => ok_lneg F DON DNu DWN DTS
  have DTi : Cl l.prog w K mg base 2 "_law_times" ["_law_spec_here", "_law_factor"] spLTim := cl_of fDTi X G (fun _ _ _ _ _ _ us hl => match us, hl with | [_, _], _ => rfl) fun f fd F => ok_ltim F DON DNu DWN
  have DMo : Cl l.prog w K mg base 2 "_law_moved" ["_law_spec_here", "_law_by"] (spLTurn (fun _ => True) movX fun z d => z - d) := cl_of fDMo X G (fun _ _ _ _ _ _ us hl => match us, hl with | [_, _], _ => rfl) fun f fd F => ok_lmoved F B DMerg DNu DWN
  have DMi : Cl l.prog w K mg base 2 "_law_mirrored" ["_law_spec_here", "_law_last"] (spLTurn (fun d => d ≤ lastP) mirX fun z d => d - z) := cl_of fDMi X G (fun _ _ _ _ _ _ us hl => match us, hl with | [_, _], _ => rfl) fun f fd F => ok_lmirr F B DMerg DNu DON DWN DTS
  obtain ⟨fI, fdI, ET, _, _⟩ := EK.ex
  have DRf : Cl l.prog w K mg base 7 "_law_refused" ["_law_clause_here", "_law_factor"] (spLRef CP C) := cl_of fDRf X G (fun _ _ _ _ _ _ us hl => match us, hl with | [_, _], _ => rfl) fun f fd F => ok_refd F T PT ET TM
  exact ok_law F (none z_repr) T NFK (all7 mN0 mN1 mN2 mN3 mN4 mN5 mN6) TM (all7 mV0 mV1 mV2 mV3 mV4 mV5 mV6) (all7 mR0 mR1 mR2 mR3 mR4 mR5 mR6) (all7 mE0 mE1 mE2 mE3 mE4 mE5 mE6) DPen DShuf DWords DSpec DDrawn DMerg DCla DPar DDraw DPick DWhole DSpot DNe DTi DMo DMi DRf
end OR
namespace PySem.W.Fast
def tw11490602152416018971 : Nat := 0
theorem te11490602152416018971 : True := trivial
def tw11005442920645245708 : Nat := 0
theorem te11005442920645245708 : True := trivial
def tw16330337873653162567 : Nat := 0
theorem te16330337873653162567 : True := trivial
def tw9024992603860030480 : Nat := 0
theorem te9024992603860030480 : True := trivial
end PySem.W.Fast
open PySem PySem.W PyProof.Rows
set_option maxRecDepth 100000 in
set_option maxHeartbeats 0 in
theorem PySem.Challenge.cw_openranges_k12_clauses_turned_holds : PySem.Challenge.rw_openranges_k12_clauses_turned.Holds := by
  w_on; o_law; o_head (kHook OR.K12 (nat_lit 2 :: nat_lit 3 :: nat_lit 27 :: nat_lit 28 :: nat_lit 34 :: nat_lit 35 :: nat_lit 69 :: nat_lit 70 :: nat_lit 139 :: nat_lit 140 :: nat_lit 146 :: nat_lit 147 :: nat_lit 156 :: nat_lit 157 :: nat_lit 177 :: nat_lit 178 :: nat_lit 289 :: nat_lit 290 :: nat_lit 292 :: nat_lit 293 :: nat_lit 318 :: nat_lit 319 :: nat_lit 325 :: nat_lit 326 :: nat_lit 332 :: nat_lit 333 :: nat_lit 339 :: nat_lit 340 :: nat_lit 346 :: nat_lit 347 :: nat_lit 348 :: nat_lit 349 :: nat_lit 350 :: nat_lit 363 :: nat_lit 364 :: nat_lit 370 :: nat_lit 371 :: nat_lit 384 :: nat_lit 385 :: nat_lit 391 :: nat_lit 392 :: nat_lit 398 :: nat_lit 399 :: nat_lit 405 :: nat_lit 406 :: nat_lit 415 :: nat_lit 416 :: nat_lit 433 :: nat_lit 434 :: nat_lit 440 :: nat_lit 441 :: nat_lit 454 :: nat_lit 455 :: nat_lit 461 :: nat_lit 462 :: nat_lit 468 :: nat_lit 469 :: nat_lit 475 :: nat_lit 476 :: nat_lit 485 :: nat_lit 486 :: nat_lit 503 :: nat_lit 504 :: nat_lit 510 :: nat_lit 511 :: nat_lit 524 :: nat_lit 525 :: nat_lit 531 :: nat_lit 532 :: nat_lit 538 :: nat_lit 539 :: nat_lit 545 :: nat_lit 546 :: nat_lit 555 :: nat_lit 556 :: nat_lit 573 :: nat_lit 574 :: nat_lit 580 :: nat_lit 581 :: nat_lit 594 :: nat_lit 595 :: nat_lit 601 :: nat_lit 602 :: nat_lit 608 :: nat_lit 609 :: nat_lit 615 :: nat_lit 616 :: nat_lit 625 :: nat_lit 626 :: nat_lit 643 :: nat_lit 644 :: nat_lit 650 :: nat_lit 651 :: nat_lit 657 :: nat_lit 658 :: nat_lit 671 :: nat_lit 672 :: nat_lit 678 :: nat_lit 679 :: nat_lit 685 :: nat_lit 686 :: nat_lit 692 :: nat_lit 693 :: nat_lit 702 :: nat_lit 703 :: nat_lit 720 :: nat_lit 721 :: nat_lit 727 :: nat_lit 728 :: nat_lit 734 :: nat_lit 735 :: nat_lit 748 :: nat_lit 749 :: nat_lit 755 :: nat_lit 756 :: nat_lit 762 :: nat_lit 763 :: nat_lit 769 :: nat_lit 770 :: nat_lit 779 :: nat_lit 780 :: nat_lit 797 :: nat_lit 798 :: nat_lit 804 :: nat_lit 805 :: nat_lit 818 :: nat_lit 819 :: nat_lit 825 :: nat_lit 826 :: nat_lit 832 :: nat_lit 833 :: nat_lit 839 :: nat_lit 840 :: nat_lit 849 :: nat_lit 850 :: nat_lit 883 :: nat_lit 884 :: nat_lit 888 :: nat_lit 889 :: nat_lit 895 :: nat_lit 896 :: nat_lit 991 :: nat_lit 992 :: nat_lit 996 :: nat_lit 997 :: nat_lit 1018 :: nat_lit 1021 :: nat_lit 1022 :: nat_lit 1039 :: nat_lit 1040 :: nat_lit 1044 :: nat_lit 1045 :: nat_lit 1051 :: nat_lit 1052 :: nat_lit 1075 :: nat_lit 1076 :: nat_lit 1096 :: nat_lit 1097 :: nat_lit 1103 :: nat_lit 1104 :: nat_lit 1110 :: nat_lit 1111 :: nat_lit 1117 :: nat_lit 1118 :: nat_lit 1122 :: nat_lit 1123 :: nat_lit 1129 :: nat_lit 1130 :: nat_lit 1136 :: nat_lit 1137 :: nat_lit 1143 :: nat_lit 1144 :: nat_lit 1150 :: nat_lit 1151 :: nat_lit 1157 :: nat_lit 1158 :: nat_lit 1164 :: nat_lit 1165 :: nat_lit 1171 :: nat_lit 1172 :: nat_lit 1178 :: nat_lit 1179 :: nat_lit 1185 :: nat_lit 1186 :: nat_lit 1192 :: nat_lit 1193 :: nat_lit 1199 :: nat_lit 1200 :: nat_lit 1206 :: nat_lit 1207 :: nat_lit 1213 :: nat_lit 1214 :: nat_lit 1220 :: nat_lit 1221 :: nat_lit 1225 :: nat_lit 1226 :: nat_lit 1230 :: nat_lit 1231 :: nat_lit 1237 :: nat_lit 1238 :: nat_lit 1244 :: nat_lit 1245 :: []) (fun _ => by kernel_rfl)); (case hw => w_witness2)
  k_fill
  refine OR.walk_g (l := PySem.Challenge.rw_openranges_k12_clauses_turned) (n := 63) (k := 8) (x := "_law_script") (sp := fun w => OR.spLaw _) rfl (by decide) rfl ⟨rfl, by decide, by decide⟩ (fun w h Y => PySem.W.kIn_of Y) ?F (fun _ _ a ns hl _ hS => ⟨a, ns, rfl, hS, hl, fun _ => rfl⟩)
  case F =>
    intro w mg fa h KX G XL hmg
    refine' OR.all_mk (aT := 350) KX G hmg ?L ?LL ?Z ?tu ?z_str ?z_all ?z_repr ?z_ValueError ?lp ?let_ ?most ?tS ?tW ?k0 ?k1 ?k2 ?k3 ?k4 ?k5 ?k6 ?k7 ?mI ?fDI ?fDP ?fDS ?fDJ ?fDC ?hEQP ?fDCut ?hSHP ?hMRP ?mIL ?hLMV ?hLMR ?fIW ?fCW ?fCT ?fCS ?eE ?fKF ?hmL4 ?hmL5 ?mI0 ?hmE0 ?hmN0 ?hmT0 ?hmV0 ?hmR0 ?mI1 ?hmE1 ?hmN1 ?hmT1 ?hmV1 ?hmR1 ?mI2 ?hmE2 ?hmN2 ?hmT2 ?hmV2 ?hmR2 ?mI3 ?hmE3 ?hmN3 ?hmT3 ?hmV3 ?hmR3 ?mI4 ?hmE4 ?hmN4 ?hmT4 ?hmV4 ?hmR4 ?mI5 ?hmE5 ?hmN5 ?hmT5 ?hmV5 ?hmR5 ?mI6 ?hmE6 ?hmN6 ?hmT6 ?hmV6 ?hmR6 ?fDPen ?fDDraw ?fDPick ?fDShuf ?fDWords ?fDSpot ?fDDrawn ?fDMerg ?fDWhole ?fDLine ?fDSpec ?fDCla ?fDPar ?fDWN ?fDNu ?fDTS ?fDON ?fDNe ?fDTi ?fDMo ?fDMi ?fDRf ?fLaw
    case lp => exact OR.lp_of XL (by first | exact List.Mem.head _ | exact .tail _ (.head _) | exact .tail _ (.tail _ (.head _)))
    all_goals try clear hmg XL
    case L =>
      refine' OR.PAt.mk ?aC ?pg ?hd ?po ?sa ?mks ?kc ?nS ?nF ?nB ?ca ?cn ?ct ?cm ?ne ?sT ?sL ?kPP ?kT ?kL ?sf
      (case aC => k_is); (case pg => k_is); (case hd => k_is); (case po => k_is); (case sa => k_is); (case mks => k_is); (case kc => k_is); (case nS => k_is); (case nF => k_is); (case nB => k_is); (case ca => k_is); (case cn => k_is); (case ct => k_is); (case cm => k_is); (case ne => k_is); (case sT => k_is); (case sL => k_is); (case kPP => kit_is); (case kT => kit_is); (case kL => kit_is); (case sf => k_is)
    case LL =>
      refine' OR.LAt.mk ?aC ?pg ?hd ?po ?sa ?mks ?kc ?nS ?nH ?sf ?ca ?cn ?ct ?cm ?ne ?kLL ?kIL ?kTL
      (case aC => k_is); (case pg => k_is); (case hd => k_is); (case po => k_is); (case sa => k_is); (case mks => k_is); (case kc => k_is); (case nS => k_is); (case nH => k_is); (case sf => k_is); (case ca => k_is); (case cn => k_is); (case ct => k_is); (case cm => k_is); (case ne => k_is); (case kLL => kit_is); (case kIL => kit_is); (case kTL => kit_is)
    case Z =>
      refine' OR.ZAt.mk ?isi ?int ?bool ?tup ?list ?len ?max ?min ?sorted ?enum ?range ?set ?abs
      (case isi => k_is); (case int => k_is); (case bool => k_is); (case tup => k_is); (case list => k_is); (case len => k_is); (case max => k_is); (case min => k_is); (case sorted => k_is); (case enum => k_is); (case range => k_is); (case set => k_is); (case abs => k_is)
    case tu => exact ⟨by k_is, ⟨_, _, by k_is, by exact ⟨⟨_, _, rfl, rfl⟩, ⟨_, _, rfl, rfl⟩, ⟨_, _, rfl, rfl⟩, ⟨_, _, rfl, rfl⟩, ⟨_, _, rfl, rfl⟩, trivial⟩⟩, ⟨_, by k_is⟩, ⟨_, by k_is⟩, ⟨_, by k_is⟩, ⟨_, by k_is⟩, ⟨_, by k_is⟩⟩
    case z_str => k_is
    case z_all => k_is
    case z_repr => k_is
    case z_ValueError => k_is

    case let_ => exact ⟨_, by k_is⟩
    case most => exact ⟨_, by k_is⟩
    case tS => refine' OR.tp3 KX ?a ?l; (case a => k_is); (case l => k_is)
    case tW => refine' OR.tp2 KX ?a ?l; (case a => k_is); (case l => k_is)
    case k0 =>
      refine' OR.CAt.mk ?aC ?pg ?hd ?po ?sa ?mks ?kc ?no ?sf ?ca ?cn ?ct ?cm ?ne ?kS ?kT ?nS ?nT
      (case aC => k_is); (case pg => k_is); (case hd => k_is); (case po => k_is); (case sa => k_is); (case mks => k_is); (case kc => k_is); (case no => refine' OR.fa1 ?n0 (OR.fa1 ?n1 (OR.fa1 ?n2 (OR.fa0))); (case n0 => k_is); (case n1 => k_is); (case n2 => k_is)); (case sf => k_is); (case ca => k_is); (case cn => k_is); (case ct => k_is); (case cm => k_is); (case ne => k_is); (case kS => kit_is); (case kT => kit_is); (case nS => k_is); (case nT => k_is)
    case k1 =>
      refine' OR.CAt.mk ?aC ?pg ?hd ?po ?sa ?mks ?kc ?no ?sf ?ca ?cn ?ct ?cm ?ne ?kS ?kT ?nS ?nT
      (case aC => k_is); (case pg => k_is); (case hd => k_is); (case po => k_is); (case sa => k_is); (case mks => k_is); (case kc => k_is); (case no => refine' OR.fa1 ?n0 (OR.fa1 ?n1 (OR.fa1 ?n2 (OR.fa0))); (case n0 => k_is); (case n1 => k_is); (case n2 => k_is)); (case sf => k_is); (case ca => k_is); (case cn => k_is); (case ct => k_is); (case cm => k_is); (case ne => k_is); (case kS => kit_is); (case kT => kit_is); (case nS => k_is); (case nT => k_is)
    case k2 =>
      refine' OR.CAt.mk ?aC ?pg ?hd ?po ?sa ?mks ?kc ?no ?sf ?ca ?cn ?ct ?cm ?ne ?kS ?kT ?nS ?nT
      (case aC => k_is); (case pg => k_is); (case hd => k_is); (case po => k_is); (case sa => k_is); (case mks => k_is); (case kc => k_is); (case no => refine' OR.fa1 ?n0 (OR.fa1 ?n1 (OR.fa1 ?n2 (OR.fa1 ?n3 (OR.fa0)))); (case n0 => k_is); (case n1 => k_is); (case n2 => k_is); (case n3 => k_is)); (case sf => k_is); (case ca => k_is); (case cn => k_is); (case ct => k_is); (case cm => k_is); (case ne => k_is); (case kS => kit_is); (case kT => kit_is); (case nS => k_is); (case nT => k_is)
    case k3 =>
      refine' OR.CAt.mk ?aC ?pg ?hd ?po ?sa ?mks ?kc ?no ?sf ?ca ?cn ?ct ?cm ?ne ?kS ?kT ?nS ?nT
      (case aC => k_is); (case pg => k_is); (case hd => k_is); (case po => k_is); (case sa => k_is); (case mks => k_is); (case kc => k_is); (case no => refine' OR.fa1 ?n0 (OR.fa1 ?n1 (OR.fa1 ?n2 (OR.fa1 ?n3 (OR.fa0)))); (case n0 => k_is); (case n1 => k_is); (case n2 => k_is); (case n3 => k_is)); (case sf => k_is); (case ca => k_is); (case cn => k_is); (case ct => k_is); (case cm => k_is); (case ne => k_is); (case kS => kit_is); (case kT => kit_is); (case nS => k_is); (case nT => k_is)
    case k4 =>
      refine' OR.CAt.mk ?aC ?pg ?hd ?po ?sa ?mks ?kc ?no ?sf ?ca ?cn ?ct ?cm ?ne ?kS ?kT ?nS ?nT
      (case aC => k_is); (case pg => k_is); (case hd => k_is); (case po => k_is); (case sa => k_is); (case mks => k_is); (case kc => k_is); (case no => refine' OR.fa1 ?n0 (OR.fa1 ?n1 (OR.fa1 ?n2 (OR.fa1 ?n3 (OR.fa1 ?n4 (OR.fa1 ?n5 (OR.fa0)))))); (case n0 => k_is); (case n1 => k_is); (case n2 => k_is); (case n3 => k_is); (case n4 => k_is); (case n5 => k_is)); (case sf => k_is); (case ca => k_is); (case cn => k_is); (case ct => k_is); (case cm => k_is); (case ne => k_is); (case kS => kit_is); (case kT => kit_is); (case nS => k_is); (case nT => k_is)
    case k5 =>
      refine' OR.CAt.mk ?aC ?pg ?hd ?po ?sa ?mks ?kc ?no ?sf ?ca ?cn ?ct ?cm ?ne ?kS ?kT ?nS ?nT
      (case aC => k_is); (case pg => k_is); (case hd => k_is); (case po => k_is); (case sa => k_is); (case mks => k_is); (case kc => k_is); (case no => refine' OR.fa1 ?n0 (OR.fa1 ?n1 (OR.fa1 ?n2 (OR.fa1 ?n3 (OR.fa1 ?n4 (OR.fa1 ?n5 (OR.fa1 ?n6 (OR.fa0))))))); (case n0 => k_is); (case n1 => k_is); (case n2 => k_is); (case n3 => k_is); (case n4 => k_is); (case n5 => k_is); (case n6 => k_is)); (case sf => k_is); (case ca => k_is); (case cn => k_is); (case ct => k_is); (case cm => k_is); (case ne => k_is); (case kS => kit_is); (case kT => kit_is); (case nS => k_is); (case nT => k_is)
    case k6 =>
      refine' OR.CAt.mk ?aC ?pg ?hd ?po ?sa ?mks ?kc ?no ?sf ?ca ?cn ?ct ?cm ?ne ?kS ?kT ?nS ?nT
      (case aC => k_is); (case pg => k_is); (case hd => k_is); (case po => k_is); (case sa => k_is); (case mks => k_is); (case kc => k_is); (case no => refine' OR.fa1 ?n0 (OR.fa1 ?n1 (OR.fa1 ?n2 (OR.fa1 ?n3 (OR.fa1 ?n4 (OR.fa0))))); (case n0 => k_is); (case n1 => k_is); (case n2 => k_is); (case n3 => k_is); (case n4 => k_is)); (case sf => k_is); (case ca => k_is); (case cn => k_is); (case ct => k_is); (case cm => k_is); (case ne => k_is); (case kS => kit_is); (case kT => kit_is); (case nS => k_is); (case nT => k_is)
    case k7 =>
      refine' OR.K7.mk ?q00 ?q01 ?q02 ?q03 ?q04 ?q05 ?q06 ?q10 ?q11 ?q12 ?q13 ?q14 ?q15 ?q16 ?q20 ?q21 ?q22 ?q23 ?q24 ?q25 ?q26 ?q30 ?q31 ?q32 ?q33 ?q34 ?q35 ?q36 ?q40 ?q41 ?q42 ?q43 ?q44 ?q45 ?q46 ?q50 ?q51 ?q52 ?q53 ?q54 ?q55 ?q56 ?q60 ?q61 ?q62 ?q63 ?q64 ?q65 ?q66 ?s01 ?s02 ?s03 ?s04 ?s05 ?s06 ?s10 ?s12 ?s13 ?s14 ?s15 ?s16 ?s20 ?s21 ?s23 ?s24 ?s25 ?s26 ?s30 ?s31 ?s32 ?s34 ?s35 ?s36 ?s40 ?s41 ?s42 ?s43 ?s45 ?s46 ?s50 ?s51 ?s52 ?s53 ?s54 ?s56 ?s60 ?s61 ?s62 ?s63 ?s64 ?s65
      (case q00 => kit_is); (case q01 => kit_is); (case q02 => kit_is); (case q03 => kit_is); (case q04 => kit_is); (case q05 => kit_is); (case q06 => kit_is); (case q10 => kit_is); (case q11 => kit_is); (case q12 => kit_is); (case q13 => kit_is); (case q14 => kit_is); (case q15 => kit_is); (case q16 => kit_is); (case q20 => kit_is); (case q21 => kit_is); (case q22 => kit_is); (case q23 => kit_is); (case q24 => kit_is); (case q25 => kit_is); (case q26 => kit_is); (case q30 => kit_is); (case q31 => kit_is); (case q32 => kit_is); (case q33 => kit_is); (case q34 => kit_is); (case q35 => kit_is); (case q36 => kit_is); (case q40 => kit_is); (case q41 => kit_is); (case q42 => kit_is); (case q43 => kit_is); (case q44 => kit_is); (case q45 => kit_is); (case q46 => kit_is); (case q50 => kit_is); (case q51 => kit_is); (case q52 => kit_is); (case q53 => kit_is); (case q54 => kit_is); (case q55 => kit_is); (case q56 => kit_is); (case q60 => kit_is); (case q61 => kit_is); (case q62 => kit_is); (case q63 => kit_is); (case q64 => kit_is); (case q65 => kit_is); (case q66 => kit_is)
      (case s01 => k_is); (case s02 => k_is); (case s03 => k_is); (case s04 => k_is); (case s05 => k_is); (case s06 => k_is); (case s10 => k_is); (case s12 => k_is); (case s13 => k_is); (case s14 => k_is); (case s15 => k_is); (case s16 => k_is); (case s20 => k_is); (case s21 => k_is); (case s23 => k_is); (case s24 => k_is); (case s25 => k_is); (case s26 => k_is); (case s30 => k_is); (case s31 => k_is); (case s32 => k_is); (case s34 => k_is); (case s35 => k_is); (case s36 => k_is); (case s40 => k_is); (case s41 => k_is); (case s42 => k_is); (case s43 => k_is); (case s45 => k_is); (case s46 => k_is); (case s50 => k_is); (case s51 => k_is); (case s52 => k_is); (case s53 => k_is); (case s54 => k_is); (case s56 => k_is); (case s60 => k_is); (case s61 => k_is); (case s62 => k_is); (case s63 => k_is); (case s64 => k_is); (case s65 => k_is)
    case mI => refine' OR.mtD KX ?a ?l ?lT ?l0 ?c ?k ?i; (case a => k_is); (case l => k_is); (case lT => k_is); (case l0 => k_is); (case c => k_is); (case k => k_is); (case i => k_is)
    case fDI => refine' OR.fnAt KX ?a ?l ?c ?k; (case a => k_is); (case l => k_is); (case c => k_is); (case k => k_is)
    case fDP => refine' OR.fnAt KX ?a ?l ?c ?k; (case a => k_is); (case l => k_is); (case c => k_is); (case k => k_is)
    case fDS => refine' OR.fnAt KX ?a ?l ?c ?k; (case a => k_is); (case l => k_is); (case c => k_is); (case k => k_is)
    case fDJ => refine' OR.fnAt KX ?a ?l ?c ?k; (case a => k_is); (case l => k_is); (case c => k_is); (case k => k_is)
    case fDC => refine' OR.fnAt KX ?a ?l ?c ?k; (case a => k_is); (case l => k_is); (case c => k_is); (case k => k_is)
    case hEQP => refine' OR.mtAt KX ?a ?l ?c ?k ?i ?nn; (case a => k_is); (case l => k_is); (case c => k_is); (case k => k_is); (case i => k_is); (case nn => k_is)
    case fDCut => refine' OR.fnAt KX ?a ?l ?c ?k; (case a => k_is); (case l => k_is); (case c => k_is); (case k => k_is)
    case hSHP => refine' OR.mtAt KX ?a ?l ?c ?k ?i ?nn; (case a => k_is); (case l => k_is); (case c => k_is); (case k => k_is); (case i => k_is); (case nn => k_is)
    case hMRP => refine' OR.mtAt KX ?a ?l ?c ?k ?i ?nn; (case a => k_is); (case l => k_is); (case c => k_is); (case k => k_is); (case i => k_is); (case nn => k_is)
    case mIL => refine' OR.mtAt KX ?a ?l ?c ?k ?i ?nn; (case a => k_is); (case l => k_is); (case c => k_is); (case k => k_is); (case i => k_is); (case nn => k_is)
    case hLMV => refine' OR.mtAt KX ?a ?l ?c ?k ?i ?nn; (case a => k_is); (case l => k_is); (case c => k_is); (case k => k_is); (case i => k_is); (case nn => k_is)
    case hLMR => refine' OR.mtAt KX ?a ?l ?c ?k ?i ?nn; (case a => k_is); (case l => k_is); (case c => k_is); (case k => k_is); (case i => k_is); (case nn => k_is)
    case fIW => refine' OR.fnAt KX ?a ?l ?c ?k; (case a => k_is); (case l => k_is); (case c => k_is); (case k => k_is)
    case fCW => refine' OR.fnAt KX ?a ?l ?c ?k; (case a => k_is); (case l => k_is); (case c => k_is); (case k => k_is)
    case fCT => refine' OR.fnAt KX ?a ?l ?c ?k; (case a => k_is); (case l => k_is); (case c => k_is); (case k => k_is)
    case fCS => refine' OR.fnAt KX ?a ?l ?c ?k; (case a => k_is); (case l => k_is); (case c => k_is); (case k => k_is)
    case eE => refine' OR.ErAt.mk ?aB ?aR ?cls ?sa ?ga ?gg ?noF ?kC ?exC ?tyC ?hdC ?ca ?cn ?ct ?cm ?sub ?kR ?kV ?init; (case aB => k_is); (case aR => k_is); (case cls => refine' OR.erCls KX ?l ?b; (case l => k_is); (case b => decide +kernel)); (case sa => k_is); (case ga => k_is); (case gg => k_is); (case noF => k_is); (case kC => k_is); (case exC => k_is); (case tyC => k_is); (case hdC => k_is); (case ca => k_is); (case cn => k_is); (case ct => k_is); (case cm => k_is); (case sub => first | rfl | k_is); (case kR => kit_is); (case kV => kit_is); (case init => refine' OR.erInit KX ?a ?l ?c ?k ?t; (case a => k_is); (case l => k_is); (case c => k_is); (case k => k_is); (case t => k_is))
    case fKF => refine' OR.fnAt KX ?a ?l ?c ?k; (case a => k_is); (case l => k_is); (case c => k_is); (case k => k_is)
    case hmL4 => refine' OR.mtAt KX ?a ?l ?c ?k ?i ?nn; (case a => k_is); (case l => k_is); (case c => k_is); (case k => k_is); (case i => k_is); (case nn => k_is)
    case hmL5 => refine' OR.mtAt KX ?a ?l ?c ?k ?i ?nn; (case a => k_is); (case l => k_is); (case c => k_is); (case k => k_is); (case i => k_is); (case nn => k_is)
    case mI0 => refine' OR.mtAt KX ?a ?l ?c ?k ?i ?nn; (case a => k_is); (case l => k_is); (case c => k_is); (case k => k_is); (case i => k_is); (case nn => k_is)
    case hmE0 => refine' OR.mtAt KX ?a ?l ?c ?k ?i ?nn; (case a => k_is); (case l => k_is); (case c => k_is); (case k => k_is); (case i => k_is); (case nn => k_is)
    case hmN0 => refine' OR.mtAt KX ?a ?l ?c ?k ?i ?nn; (case a => k_is); (case l => k_is); (case c => k_is); (case k => k_is); (case i => k_is); (case nn => k_is)
    case hmT0 => refine' OR.mtAt KX ?a ?l ?c ?k ?i ?nn; (case a => k_is); (case l => k_is); (case c => k_is); (case k => k_is); (case i => k_is); (case nn => k_is)
    case hmV0 => refine' OR.mtAt KX ?a ?l ?c ?k ?i ?nn; (case a => k_is); (case l => k_is); (case c => k_is); (case k => k_is); (case i => k_is); (case nn => k_is)
    case hmR0 => refine' OR.mtAt KX ?a ?l ?c ?k ?i ?nn; (case a => k_is); (case l => k_is); (case c => k_is); (case k => k_is); (case i => k_is); (case nn => k_is)
    case mI1 => refine' OR.mtAt KX ?a ?l ?c ?k ?i ?nn; (case a => k_is); (case l => k_is); (case c => k_is); (case k => k_is); (case i => k_is); (case nn => k_is)
    case hmE1 => refine' OR.mtAt KX ?a ?l ?c ?k ?i ?nn; (case a => k_is); (case l => k_is); (case c => k_is); (case k => k_is); (case i => k_is); (case nn => k_is)
    case hmN1 => refine' OR.mtAt KX ?a ?l ?c ?k ?i ?nn; (case a => k_is); (case l => k_is); (case c => k_is); (case k => k_is); (case i => k_is); (case nn => k_is)
    case hmT1 => refine' OR.mtAt KX ?a ?l ?c ?k ?i ?nn; (case a => k_is); (case l => k_is); (case c => k_is); (case k => k_is); (case i => k_is); (case nn => k_is)
    case hmV1 => refine' OR.mtAt KX ?a ?l ?c ?k ?i ?nn; (case a => k_is); (case l => k_is); (case c => k_is); (case k => k_is); (case i => k_is); (case nn => k_is)
    case hmR1 => refine' OR.mtAt KX ?a ?l ?c ?k ?i ?nn; (case a => k_is); (case l => k_is); (case c => k_is); (case k => k_is); (case i => k_is); (case nn => k_is)
    case mI2 => refine' OR.mtAt KX ?a ?l ?c ?k ?i ?nn; (case a => k_is); (case l => k_is); (case c => k_is); (case k => k_is); (case i => k_is); (case nn => k_is)
    case hmE2 => refine' OR.mtAt KX ?a ?l ?c ?k ?i ?nn; (case a => k_is); (case l => k_is); (case c => k_is); (case k => k_is); (case i => k_is); (case nn => k_is)
    case hmN2 => refine' OR.mtAt KX ?a ?l ?c ?k ?i ?nn; (case a => k_is); (case l => k_is); (case c => k_is); (case k => k_is); (case i => k_is); (case nn => k_is)
    case hmT2 => refine' OR.mtAt KX ?a ?l ?c ?k ?i ?nn; (case a => k_is); (case l => k_is); (case c => k_is); (case k => k_is); (case i => k_is); (case nn => k_is)
    case hmV2 => refine' OR.mtAt KX ?a ?l ?c ?k ?i ?nn; (case a => k_is); (case l => k_is); (case c => k_is); (case k => k_is); (case i => k_is); (case nn => k_is)
    case hmR2 => refine' OR.mtAt KX ?a ?l ?c ?k ?i ?nn; (case a => k_is); (case l => k_is); (case c => k_is); (case k => k_is); (case i => k_is); (case nn => k_is)
    case mI3 => refine' OR.mtAt KX ?a ?l ?c ?k ?i ?nn; (case a => k_is); (case l => k_is); (case c => k_is); (case k => k_is); (case i => k_is); (case nn => k_is)
    case hmE3 => refine' OR.mtAt KX ?a ?l ?c ?k ?i ?nn; (case a => k_is); (case l => k_is); (case c => k_is); (case k => k_is); (case i => k_is); (case nn => k_is)
    case hmN3 => refine' OR.mtAt KX ?a ?l ?c ?k ?i ?nn; (case a => k_is); (case l => k_is); (case c => k_is); (case k => k_is); (case i => k_is); (case nn => k_is)
    case hmT3 => refine' OR.mtAt KX ?a ?l ?c ?k ?i ?nn; (case a => k_is); (case l => k_is); (case c => k_is); (case k => k_is); (case i => k_is); (case nn => k_is)
    case hmV3 => refine' OR.mtAt KX ?a ?l ?c ?k ?i ?nn; (case a => k_is); (case l => k_is); (case c => k_is); (case k => k_is); (case i => k_is); (case nn => k_is)
    case hmR3 => refine' OR.mtAt KX ?a ?l ?c ?k ?i ?nn; (case a => k_is); (case l => k_is); (case c => k_is); (case k => k_is); (case i => k_is); (case nn => k_is)
    case mI4 => refine' OR.mtAt KX ?a ?l ?c ?k ?i ?nn; (case a => k_is); (case l => k_is); (case c => k_is); (case k => k_is); (case i => k_is); (case nn => k_is)
    case hmE4 => refine' OR.mtAt KX ?a ?l ?c ?k ?i ?nn; (case a => k_is); (case l => k_is); (case c => k_is); (case k => k_is); (case i => k_is); (case nn => k_is)
    case hmN4 => refine' OR.mtAt KX ?a ?l ?c ?k ?i ?nn; (case a => k_is); (case l => k_is); (case c => k_is); (case k => k_is); (case i => k_is); (case nn => k_is)
    case hmT4 => refine' OR.mtAt KX ?a ?l ?c ?k ?i ?nn; (case a => k_is); (case l => k_is); (case c => k_is); (case k => k_is); (case i => k_is); (case nn => k_is)
    case hmV4 => refine' OR.mtAt KX ?a ?l ?c ?k ?i ?nn; (case a => k_is); (case l => k_is); (case c => k_is); (case k => k_is); (case i => k_is); (case nn => k_is)
    case hmR4 => refine' OR.mtAt KX ?a ?l ?c ?k ?i ?nn; (case a => k_is); (case l => k_is); (case c => k_is); (case k => k_is); (case i => k_is); (case nn => k_is)
    case mI5 => refine' OR.mtAt KX ?a ?l ?c ?k ?i ?nn; (case a => k_is); (case l => k_is); (case c => k_is); (case k => k_is); (case i => k_is); (case nn => k_is)
    case hmE5 => refine' OR.mtAt KX ?a ?l ?c ?k ?i ?nn; (case a => k_is); (case l => k_is); (case c => k_is); (case k => k_is); (case i => k_is); (case nn => k_is)
    case hmN5 => refine' OR.mtAt KX ?a ?l ?c ?k ?i ?nn; (case a => k_is); (case l => k_is); (case c => k_is); (case k => k_is); (case i => k_is); (case nn => k_is)
    case hmT5 => refine' OR.mtAt KX ?a ?l ?c ?k ?i ?nn; (case a => k_is); (case l => k_is); (case c => k_is); (case k => k_is); (case i => k_is); (case nn => k_is)
    case hmV5 => refine' OR.mtAt KX ?a ?l ?c ?k ?i ?nn; (case a => k_is); (case l => k_is); (case c => k_is); (case k => k_is); (case i => k_is); (case nn => k_is)
    case hmR5 => refine' OR.mtAt KX ?a ?l ?c ?k ?i ?nn; (case a => k_is); (case l => k_is); (case c => k_is); (case k => k_is); (case i => k_is); (case nn => k_is)
    case mI6 => refine' OR.mtAt KX ?a ?l ?c ?k ?i ?nn; (case a => k_is); (case l => k_is); (case c => k_is); (case k => k_is); (case i => k_is); (case nn => k_is)
    case hmE6 => refine' OR.mtAt KX ?a ?l ?c ?k ?i ?nn; (case a => k_is); (case l => k_is); (case c => k_is); (case k => k_is); (case i => k_is); (case nn => k_is)
    case hmN6 => refine' OR.mtAt KX ?a ?l ?c ?k ?i ?nn; (case a => k_is); (case l => k_is); (case c => k_is); (case k => k_is); (case i => k_is); (case nn => k_is)
    case hmT6 => refine' OR.mtAt KX ?a ?l ?c ?k ?i ?nn; (case a => k_is); (case l => k_is); (case c => k_is); (case k => k_is); (case i => k_is); (case nn => k_is)
    case hmV6 => refine' OR.mtAt KX ?a ?l ?c ?k ?i ?nn; (case a => k_is); (case l => k_is); (case c => k_is); (case k => k_is); (case i => k_is); (case nn => k_is)
    case hmR6 => refine' OR.mtAt KX ?a ?l ?c ?k ?i ?nn; (case a => k_is); (case l => k_is); (case c => k_is); (case k => k_is); (case i => k_is); (case nn => k_is)
    case fDPen => refine' OR.fnAt KX ?a ?l ?c ?k; (case a => k_is); (case l => k_is); (case c => k_is); (case k => k_is)
    case fDDraw => refine' OR.fnAt KX ?a ?l ?c ?k; (case a => k_is); (case l => k_is); (case c => k_is); (case k => k_is)
    case fDPick => refine' OR.fnAt KX ?a ?l ?c ?k; (case a => k_is); (case l => k_is); (case c => k_is); (case k => k_is)
    case fDShuf => refine' OR.fnAt KX ?a ?l ?c ?k; (case a => k_is); (case l => k_is); (case c => k_is); (case k => k_is)
    case fDWords => refine' OR.fnAt KX ?a ?l ?c ?k; (case a => k_is); (case l => k_is); (case c => k_is); (case k => k_is)
    case fDSpot => refine' OR.fnAt KX ?a ?l ?c ?k; (case a => k_is); (case l => k_is); (case c => k_is); (case k => k_is)
    case fDDrawn => refine' OR.fnAt KX ?a ?l ?c ?k; (case a => k_is); (case l => k_is); (case c => k_is); (case k => k_is)
    case fDMerg => refine' OR.fnAt KX ?a ?l ?c ?k; (case a => k_is); (case l => k_is); (case c => k_is); (case k => k_is)
    case fDWhole => refine' OR.fnAt KX ?a ?l ?c ?k; (case a => k_is); (case l => k_is); (case c => k_is); (case k => k_is)
    case fDLine => refine' OR.fnAt KX ?a ?l ?c ?k; (case a => k_is); (case l => k_is); (case c => k_is); (case k => k_is)
    case fDSpec => refine' OR.fnAt KX ?a ?l ?c ?k; (case a => k_is); (case l => k_is); (case c => k_is); (case k => k_is)
    case fDCla => refine' OR.fnAt KX ?a ?l ?c ?k; (case a => k_is); (case l => k_is); (case c => k_is); (case k => k_is)
    case fDPar => refine' OR.fnAt KX ?a ?l ?c ?k; (case a => k_is); (case l => k_is); (case c => k_is); (case k => k_is)
    case fDWN => refine' OR.fnAt KX ?a ?l ?c ?k; (case a => k_is); (case l => k_is); (case c => k_is); (case k => k_is)
    case fDNu => refine' OR.fnAt KX ?a ?l ?c ?k; (case a => k_is); (case l => k_is); (case c => k_is); (case k => k_is)
    case fDTS => refine' OR.fnAt KX ?a ?l ?c ?k; (case a => k_is); (case l => k_is); (case c => k_is); (case k => k_is)
    case fDON => refine' OR.fnAt KX ?a ?l ?c ?k; (case a => k_is); (case l => k_is); (case c => k_is); (case k => k_is)
    case fDNe => refine' OR.fnAt KX ?a ?l ?c ?k; (case a => k_is); (case l => k_is); (case c => k_is); (case k => k_is)
    case fDTi => refine' OR.fnAt KX ?a ?l ?c ?k; (case a => k_is); (case l => k_is); (case c => k_is); (case k => k_is)
    case fDMo => refine' OR.fnAt KX ?a ?l ?c ?k; (case a => k_is); (case l => k_is); (case c => k_is); (case k => k_is)
    case fDMi => refine' OR.fnAt KX ?a ?l ?c ?k; (case a => k_is); (case l => k_is); (case c => k_is); (case k => k_is)
    case fDRf => refine' OR.fnAt KX ?a ?l ?c ?k; (case a => k_is); (case l => k_is); (case c => k_is); (case k => k_is)
    case fLaw => refine' OR.fnAt KX ?a ?l ?c ?k; (case a => k_is); (case l => k_is); (case c => k_is); (case k => k_is)

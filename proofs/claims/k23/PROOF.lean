import PyProof.Rows.All
import Wide.All
import OpenK.AllK
import Wide.FinOn
import HandS.ForMost
import HandS.Wide
import HandS.IsInst
import HandS.TupAny
import HandS.TupLe
import HandS.Star
import HandS.Evl
import HandS.SortRule
import HandS.NoneIn
import HandS.Defaults
import HandS.TupSets
import HandS.Keys
import HandS.Small
import KE.KOpsOwn
import HandS.SlotsOwn
import KE.RegKIsAll
import PyProof.Draws
import HandS.ForExc
import HandS.Text
import HandS.FStr
import HandS.StrMore
import HandS.MapJoin
import HandS.Style
import HandS.Records
import HandS.Rev
import HandS.Flow
import HandS.WideBits
import HandS.CallLocal
import HandS.Codes
import HandS.DictTup
import KE.KSortTup
import HandS.ExcField
import HandS.ExcInit
import HandS.ExcIs
import HandS.ExcOwn
import KE.KExcIs
import HandS.DictComp
import HandS.SetFor
import HandS.Strs
import HandS.OwnEq
import HandS.DictEq
import PyProof.Rows.EqNone
import PyProof.EqKinds
import HandS.RaiseMore
import HandS.Conv
import HandS.WordsExc
import PySem.Challenge.RW_openranges_k23_first_difference
set_option Elab.async false
set_option linter.all false
set_option maxRecDepth 100000
namespace OR
open PySem PySem.Spec PyProof.Rows L2
def top (i : Nat) : Stmt := PySem.Challenge.pw_openranges_k23_first_difference.main.body.getD i (.Pass ⟨0, 0, 0, 0⟩)
abbrev pWall : Stmt := top 0
abbrev sIsInt : Stmt := top 3
abbrev sIsPlace : Stmt := top 4
abbrev sLInit : Stmt := inClass (top 6) 0
abbrev sLCall : Stmt := inClass (top 6) 1
abbrev sLEq : Stmt := inClass (top 6) 2
abbrev sLAdd : Stmt := inClass (top 6) 3
abbrev sLineRadd : Stmt := inClass (top 6) 4
abbrev sLNeg : Stmt := inClass (top 6) 5
abbrev sLSub : Stmt := inClass (top 6) 6
abbrev sLineRsub : Stmt := inClass (top 6) 7
abbrev sLineMul : Stmt := inClass (top 6) 8
abbrev sLineRmul : Stmt := inClass (top 6) 9
abbrev sLineMoved : Stmt := inClass (top 6) 10
abbrev sLineMirrored : Stmt := inClass (top 6) 11
abbrev sLText : Stmt := inClass (top 6) 12
abbrev sVal : Stmt := top 7
abbrev pFirstAbove : Stmt := top 8
abbrev pLowest : Stmt := top 9
abbrev pTakesOver : Stmt := top 10
abbrev pHighest : Stmt := top 11
abbrev sBadWordInit : Stmt := inClass (top 14) 0
abbrev sBadPiecesInit : Stmt := inClass (top 15) 0
abbrev sNoFunctionInit : Stmt := inClass (top 17) 0
abbrev sNoPlaceInit : Stmt := inClass (top 18) 0
abbrev sIsWord : Stmt := top 22
abbrev sChkW : Stmt := top 23
abbrev pOverlaps : Stmt := top 25
abbrev pOneForm : Stmt := top 27
abbrev pContinued : Stmt := top 28
abbrev pLineThrough : Stmt := top 29
abbrev pPlain : Stmt := top 30
abbrev pSideBySide : Stmt := top 31
abbrev sProgramInit : Stmt := inClass (top 33) 0
abbrev sProgramCall : Stmt := inClass (top 33) 1
abbrev sProgramEq : Stmt := inClass (top 33) 2
abbrev sProgramAnd : Stmt := inClass (top 33) 3
abbrev sProgramOr : Stmt := inClass (top 33) 4
abbrev sProgramPieces : Stmt := inClass (top 33) 5
abbrev sProgramAnswered : Stmt := inClass (top 33) 6
abbrev sProgramBreaches : Stmt := inClass (top 33) 7
abbrev sProgramBreach : Stmt := inClass (top 33) 8
abbrev sProgramKeeps : Stmt := inClass (top 33) 9
abbrev sProgramChanged : Stmt := inClass (top 33) 10
abbrev sProgramNegated : Stmt := inClass (top 33) 11
abbrev sProgramTimes : Stmt := inClass (top 33) 12
abbrev sProgramMirrored : Stmt := inClass (top 33) 13
abbrev sProgramCheckFunctions : Stmt := inClass (top 33) 14
abbrev sProgramAnswers : Stmt := inClass (top 33) 15
abbrev sProgramAnswersBeyond : Stmt := inClass (top 33) 16
abbrev sProgramTimesP : Stmt := inClass (top 33) 17
abbrev pFirstDifference : Stmt := top 34
abbrev pRanked : Stmt := top 35
abbrev pCheckPlace : Stmt := top 36
abbrev pCheckPieces : Stmt := top 37
abbrev pIsPiece : Stmt := top 38
abbrev pCheckShapes : Stmt := top 39
abbrev pPieceAt : Stmt := top 40
abbrev sJoined : Stmt := top 41
abbrev pChosen : Stmt := top 42
abbrev pFirstUnequal : Stmt := top 43
abbrev sPen : Stmt := top 45
abbrev sDraw : Stmt := top 46
abbrev sPick : Stmt := top 47
abbrev sWords : Stmt := top 48
abbrev sWhole : Stmt := top 49
abbrev sLine : Stmt := top 50
abbrev sWorth : Stmt := top 51
abbrev sLast : Stmt := top 52
abbrev sRows : Stmt := top 53
abbrev sTold : Stmt := top 54
abbrev sPiece : Stmt := top 55
abbrev sProgram : Stmt := top 56
abbrev sOutcome : Stmt := top 57
abbrev sExchanged : Stmt := top 58
abbrev sBent : Stmt := top 59
abbrev sParting : Stmt := top 60
abbrev sDue : Stmt := top 61
abbrev sIsRefused : Stmt := top 62
abbrev sAreApart : Stmt := top 63
abbrev sLaw : Stmt := top 64
end OR

namespace OR
open PySem PySem.Spec PyProof.Rows L2
/-! ### the pen: a dict of the cells, how many have begun, what is left of the last one -/
theorem kBC : ¬ ((Sum.inr ("begun" : Str) : Key) = Sum.inr ("cells" : Str)) := by decide +kernel
theorem kLC : ¬ ((Sum.inr ("left" : Str) : Key) = Sum.inr ("cells" : Str)) := by decide +kernel
theorem kLB : ¬ ((Sum.inr ("left" : Str) : Key) = Sum.inr ("begun" : Str)) := by decide +kernel
def penK (c : Addr) (k l : Int) : List (Key × V) := [(.inr ("cells" : Str), .ref c), (.inr ("begun" : Str), .int k), (.inr ("left" : Str), .int l)]
theorem pen_cells (c : Addr) (k l : Int) : valV (penK c k l) (.inr ("cells" : Str)) = some (.ref c) := valV_pos rfl
theorem pen_begun (c : Addr) (k l : Int) : valV (penK c k l) (.inr ("begun" : Str)) = some (.int k) :=
  (valV_neg (fun e => kBC e.symm)).trans (valV_pos rfl)
theorem pen_left (c : Addr) (k l : Int) : valV (penK c k l) (.inr ("left" : Str)) = some (.int l) :=
  (valV_neg (fun e => kLC e.symm)).trans ((valV_neg (fun e => kLB e.symm)).trans (valV_pos rfl))
theorem pen_put_left (c : Addr) (k l y : Int) : putK (penK c k l) (.inr ("left" : Str)) (.int y) = penK c k y := by
  have h1 : ¬ ((Sum.inr ("cells" : Str) : Key) = Sum.inr ("left" : Str)) := fun e => kLC e.symm
  have h2 : ¬ ((Sum.inr ("begun" : Str) : Key) = Sum.inr ("left" : Str)) := fun e => kLB e.symm
  unfold putK penK
  simp only [List.any_cons, List.any_nil, List.map_cons, List.map_nil, h1, h2, decide_true, decide_false, Bool.or_false, Bool.false_or, if_true, if_false]
theorem pen_put_begun (c : Addr) (k l y : Int) : putK (penK c k l) (.inr ("begun" : Str)) (.int y) = penK c y l := by
  have h1 : ¬ ((Sum.inr ("cells" : Str) : Key) = Sum.inr ("begun" : Str)) := fun e => kBC e.symm
  have h2 : ¬ ((Sum.inr ("left" : Str) : Key) = Sum.inr ("begun" : Str)) := kLB
  unfold putK penK
  simp only [List.any_cons, List.any_nil, List.map_cons, List.map_nil, h1, h2, decide_true, decide_false, Bool.or_false, Bool.false_or, Bool.or_true, if_true, if_false]
/-- a pen at p after at most n draws -/
def Pen (H : Hp) (p : Addr) (n : Nat) : Prop := ∃ (c : Addr) (ns : List Int) (k l : Int), H p = some (.dK (penK c k l)) ∧ H c = some (.lst (ns.map V.int)) ∧ ns.length ≤ 63 ∧ 0 ≤ k ∧ k ≤ n ∧ 0 ≤ l
/-- where the pen at p keeps its cells -/
def cellsAt (H : Hp) (p c : Addr) : Prop := ∃ k l, H p = some (.dK (penK c k l))
theorem penK_inj {c c' : Addr} {k l k' l' : Int} (h : penK c k l = penK c' k' l') : c = c' := by
  unfold penK at h
  injection h with h1 _
  injection h1 with _ h2
  injection h2
theorem cellsAt.inj {H : Hp} {p c : Addr} {k l : Int} {c' : Addr} (h : cellsAt H p c) (e : H p = some (.dK (penK c' k l))) : c = c' := by
  obtain ⟨k', l', e'⟩ := h
  rw [e] at e'
  injection e' with e'
  injection e' with e'
  exact (penK_inj e').symm
/-- all but what stands at p is as it was, and the pen there has the same cells -/
structure Frm (p : Addr) (H H' : Hp) : Prop where
  at_ : ∀ b o, H b = some o → b ≠ p → H' b = some o
  ce : ∀ c, cellsAt H p c → cellsAt H' p c
instance {p : Addr} {H H' : Hp} : CoeFun (Frm p H H') (fun _ => ∀ b o, H b = some o → b ≠ p → H' b = some o) := ⟨Frm.at_⟩
theorem Frm.refl (p : Addr) (H : Hp) : Frm p H H := ⟨fun _ _ h _ => h, fun _ h => h⟩
theorem Frm.trans {p : Addr} {H H1 H2 : Hp} (a : Frm p H H1) (b : Frm p H1 H2) : Frm p H H2 := ⟨fun c o h n => b c o (a c o h n) n, fun c h => b.ce c (a.ce c h)⟩
theorem Frm.pen {p c : Addr} {H : Hp} {k l k' l' : Int} (h : H p = some (.dK (penK c k l))) : Frm p H (upd H p (.dK (penK c k' l'))) :=
  ⟨fun b x e n => by rw [upd_ne n]; exact e, fun c' h' => by rw [h'.inj h]; exact ⟨k', l', upd_same⟩⟩
theorem Frm.new {p q : Addr} {H : Hp} {o : HO} (h : H q = none) : Frm p H (upd H q o) :=
  ⟨fun b x e _ => by rw [upd_ne (ne_of_none e h)]; exact e, fun c ⟨k, l, e⟩ => ⟨k, l, by rw [upd_ne (ne_of_none e h)]; exact e⟩⟩
/-- a list that is not the pen's cells is changed -/
theorem Pen.put {H : Hp} {p c a : Addr} {n : Nat} {xs : List V} {o : HO} (P : Pen H p n) (hc : cellsAt H p c) (h : H a = some (.lst xs)) (n1 : c ≠ a) : Pen (upd H a o) p n := by
  obtain ⟨c', ns, k, l, h1, h2, h3⟩ := P
  obtain rfl := hc.inj h1
  exact ⟨c, ns, k, l, by rw [upd_ne (ne_of h1 h (by intro z; cases z))]; exact h1, by rw [upd_ne n1]; exact h2, h3⟩
theorem Pen.cells {H : Hp} {p : Addr} {n : Nat} (P : Pen H p n) : ∃ c, cellsAt H p c ∧ H c ≠ none := by
  obtain ⟨c, ns, k, l, h1, h2, _⟩ := P
  exact ⟨c, ⟨k, l, h1⟩, by rw [h2]; exact fun z => nomatch z⟩
theorem Pen.dict {H : Hp} {p : Addr} {n : Nat} (P : Pen H p n) : ∃ kvs, H p = some (.dK kvs) := by
  obtain ⟨c, ns, k, l, h1, _⟩ := P
  exact ⟨_, h1⟩
/-- what stands at a list, a tuple or an object is not the pen -/
theorem Frm.lst {H H' : Hp} {p a : Addr} {n : Nat} {xs : List V} (f : Frm p H H') (P : Pen H p n) (h : H a = some (.lst xs)) : H' a = some (.lst xs) := by
  obtain ⟨kvs, hp⟩ := P.dict
  exact f _ _ h (ne_of h hp (by intro z; cases z))
theorem Pen.mono {H : Hp} {p : Addr} {n m : Nat} (P : Pen H p n) (h : n ≤ m) : Pen H p m := by
  obtain ⟨c, ns, k, l, h1, h2, h3, h4, h5, h6⟩ := P
  exact ⟨c, ns, k, l, h1, h2, h3, h4, by omega, h6⟩
theorem Pen.new {H : Hp} {p q : Addr} {n : Nat} {o : HO} (P : Pen H p n) (h : H q = none) : Pen (upd H q o) p n := by
  obtain ⟨c, ns, k, l, h1, h2, h3, h4, h5, h6⟩ := P
  exact ⟨c, ns, k, l, by rw [upd_ne (ne_of_none h1 h)]; exact h1, by rw [upd_ne (ne_of_none h2 h)]; exact h2, h3, h4, h5, h6⟩
/-! ### the promises -/
/-- a draw: some number below m -/
def spDraw : Sp := fun vs H Q _ => ∃ (p : Addr) (m : Int) (n : Nat), vs = [.ref p, .int m] ∧ 0 < m ∧ m.natAbs < 2 ^ 200 ∧ Pen H p n ∧ n ≤ 1000000 ∧
  ∀ (r : Int) (H' : Hp), 0 ≤ r → r < m → Pen H' p (n + 1) → Frm p H H' → Q (.int r) H'
/-- a def that lets nothing out, as it is called by its name -/
structure Cl (P : Program) (w : World) (K : PySem.W.Frag) (mg : Str → Option Value) (base : Heap) (k : Nat) (x : Str) (ps : List Str) (sp : Sp) : Prop where
  ex : ∃ (f : Addr) (fd : FuncData), FnOk P w K mg base CX0 k f fd ps sp ∧ mg x = some (.ref f) ∧ PySem.W.keepIn K (.ref f) = true ∧ Binds K fd ps []
theorem pe_cl {X : Cx} {k j : Nat} {x : Str} {ps : List Str} {sp : Sp} {e : Expr} {es : List Expr} {t : TA} {p pos : Pos} (c : Cl X.prog X.w X.K X.mg X.base k x ps sp) (hr : Room j X.A) (hk : k ≤ j) (hg : Gl X x) (ha : PA X (e :: es) t)
    (hdb : (x == ("__debug__" : Str)) = false := by decide) (he : starEach (e :: es) X.env = (false, eval e X.env) :: starEach es X.env := by rfl) (hpl : (backTo pos (starEach es X.env)).any (·.1) = false := by rfl) :
    PE X (.Call (.Name x p) (e :: es) [] pos) (tCall sp [] E0 t) := by
  obtain ⟨f, fd, F, hm, hkp, hb⟩ := c.ex
  exact pe_call F (hr.mono hk) hg hm hkp hb .nil pass0 ha hdb he hpl
theorem Frm.seq {K : PySem.W.Frag} {H H' : Hp} {p a : Addr} {n : Nat} {xs : List V} (f : Frm p H H') (P : Pen H p n) (h : SqL K H a xs) : SqL K H' a xs := by
  obtain ⟨c, ns, k, l, hp, _⟩ := P
  rcases h with (h | ⟨o, h⟩) | h
  · exact .inl (.inl (f _ _ h (ne_of h hp (by intro z; cases z))))
  · exact .inl (.inr ⟨o, f _ _ h (ne_of h hp (by intro z; cases z))⟩)
  · exact .inr h
theorem Frm.tup {K : PySem.W.Frag} {H H' : Hp} {p a : Addr} {n : Nat} {xs : List V} (f : Frm p H H') (P : Pen H p n) (h : SqT K H a xs) : SqT K H' a xs := by
  obtain ⟨c, ns, k, l, hp, _⟩ := P
  rcases h with (h | ⟨o, h⟩) | h
  · exact .inl (.inl (f _ _ h (ne_of h hp (by intro z; cases z))))
  · exact .inl (.inr ⟨o, f _ _ h (ne_of h hp (by intro z; cases z))⟩)
  · exact .inr h
/-- an item of a list that is not empty -/
def spPick (K : PySem.W.Frag) : Sp := fun vs H Q _ => ∃ (p a : Addr) (xs : List V) (n : Nat), vs = [.ref p, .ref a] ∧ SqL K H a xs ∧ 0 < xs.length ∧ xs.length ≤ 1000 ∧ Pen H p n ∧ n ≤ 1000000 ∧
  ∀ (v : V) (H' : Hp), v ∈ xs → Pen H' p (n + 1) → Frm p H H' → Q v H'
/-- some number, not too great -/
def spWhole : Sp := fun vs H Q _ => ∃ (p : Addr) (n : Nat), vs = [.ref p] ∧ Pen H p n ∧ n ≤ 900000 ∧
  ∀ (r : Int) (H' : Hp), -(10 ^ 30) < r → r < 10 ^ 30 → Pen H' p (n + 3) → Frm p H H' → Q (.int r) H'
/-- the pen, made of the script -/
def spPen (K : PySem.W.Frag) : Sp := fun vs H Q _ => ∃ (a : Addr) (ns : List Int), vs = [.ref a] ∧ SqL K H a (ns.map V.int) ∧ ns.length ≤ 63 ∧
  ∀ (p : Addr) (H' : Hp), H p = none → Pen H' p 0 → Same H H' → Q (.ref p) H'
structure Bl (mg : Str → Option Value) : Prop where
  int : mg "int" = none
  len : mg "len" = none
  abs : mg "abs" = none
  list : mg "list" = none
theorem dg {H : Hp} {p : Addr} {kvs : List (Key × V)} {x : Str} {v : V} (h : H p = some (.dK kvs)) (e : valV kvs (.inr x) = some v) : DGet H p (.str x) (some v) := e ▸ DGet.k (k := .inr x) h
theorem dp {H : Hp} {p : Addr} {kvs kvs' : List (Key × V)} {x : Str} {v : V} (h : H p = some (.dK kvs)) (e : putK kvs (.inr x) v = kvs') (hl : kvs.length < sizeLine) : DPut H p (.str x) v (upd H p (.dK kvs')) := e ▸ DPut.k (k := .inr x) h hl
theorem pen_small (c : Addr) (k l : Int) : (penK c k l).length < sizeLine := by show 3 < sizeLine; decide
theorem mod_bd (a b : Int) (h : 0 < b) : 0 ≤ a % b ∧ a % b < b := ⟨Int.emod_nonneg a (by omega), Int.emod_lt_of_pos a h⟩
theorem boot_absO : bootBuiltins ("abs" : Str) = some (.builtin "abs") := by decide +kernel
section
variable {P : Program} {w : World} {K : PySem.W.Frag} {mg : Str → Option Value} {base : Heap}
theorem scDraw : FnScope ["_law_pen_here", "_law_many", "_law_digit", "_law_k", "_law_size", "_law_cell", "_law_mix"] ["_law_pen_here", "_law_many"] (defScope sDraw) := ⟨rfl, rfl, rfl, by decide +kernel, rfl, by decide +kernel, by decide +kernel⟩
theorem div200 {m : Int} (h : 0 < m) (h2 : m.natAbs < 2 ^ 200) (i : Int) : CDivW i m := wide_div h h2 (by decide) (by decide)
theorem ok_draw {f : Addr} {fd : FuncData} (F : Fun K "_law_draw" "_law_draw" sDraw f fd) (B : Bl mg) : FnOk P w K mg base CX0 1 f fd ["_law_pen_here", "_law_many"] spDraw := by
  refine F.ok scDraw (fun vs H Q E h => ?_) (fun cdv A outer s H vs Q E hr h => ?_)
  · obtain ⟨p, m, n, rfl, _⟩ := h
    rfl
  · obtain ⟨p, m, n, rfl, hm, hmb, ⟨c, ns, k, l, hp, hc, hns, hk0, hkn, hl⟩, hn, q⟩ := h
    have hu := hu_of hr
    have ncp : c ≠ p := ne_of hc hp (by intro z; cases z)
    have nd := scDraw.nd
    refine ⟨_, pss_cons (ps_if (pt_cmpR op_gt (pe_dget hu (pv 0) pe_str (fun _ _ => rfl)) pe_int (nomark _))
        (pss_cons (ps_set (i := 2) nd rfl (.inl rfl) (pe_op op_mod (pe_callTy call_int1 (by rfl) B.int boot_int (pa_cons (pe_dget hu (pv 0) pe_str (fun _ _ => rfl)) pa_nil)) (pv 1)))
        (pss_cons (ps_dput hu (pv 0) pe_str (pe_op op_fdivW (pe_dget hu (pv 0) pe_str (fun _ _ => rfl)) (pv 1)) rfl)
        (pss_one (ps_ret (pv 2))))) pss_nil)
      (pss_cons (ps_par (i := 3) (j := 4) rfl nd rfl rfl (by decide) rfl rfl (pa_cons (pe_dget hu (pv 0) pe_str (fun _ _ => rfl)) (pa_cons (pe_callB call_len_seq (by rfl) B.len PySem.boot_len (pa_cons (pe_dget hu (pv 0) pe_str (fun _ _ => rfl)) pa_nil)) pa_nil)) rfl)
      (pss_cons (ps_dput hu (pv 0) pe_str (pe_op op_add (pv 3) pe_int) rfl)
      (Evl.pss_cut (ps_set (i := 5) nd rfl (.inl rfl) (pe_ifExp (pt_cmpR op_gt (pv 4) pe_int (nomark _))
          (pe_ix ix_list (pe_dget hu (pv 0) pe_str (fun _ _ => rfl)) (pe_op op_mod (pe_callTy call_int1 (by rfl) B.int boot_int (pa_cons (pv 3) pa_nil)) (pv 4)) (fun _ _ => rfl))
          (pe_op op_add (pe_op op_mul pe_int (pv 3)) pe_int)))
      (Evl.pss_cut (ps_if (PW.pt (pw_and (pt_cmpR op_lt (pv 3) (pv 4) (nomark _)) (pw_and1 (pt_cmpR op_ge (pe_callB call_abs (by rfl) B.abs boot_absO (pa_cons (pv 5) pa_nil)) (pe_op op_pow pe_int pe_int) (nomark _)))))
        (pss_cons (ps_dput hu (pv 0) pe_str (pe_op op_fdivW (pe_op op_sub (pe_callB call_abs (by rfl) B.abs boot_absO (pa_cons (pv 5) pa_nil)) (pe_op op_pow pe_int pe_int)) (pv 1)) rfl)
        (pss_one (ps_ret (pe_op op_mod (pe_callTy call_int1 (by rfl) B.int boot_int (pa_cons (pe_op op_sub (pe_callB call_abs (by rfl) B.abs boot_absO (pa_cons (pv 5) pa_nil)) (pe_op op_pow pe_int pe_int)) pa_nil)) (pv 1))))) pss_nil)
      (pss_cons (ps_set (i := 6) nd rfl (.inl rfl) (pe_op op_mod (pe_callTy call_int1 (by rfl) B.int boot_int (pa_cons
          (pe_op op_add (pe_op op_add (pe_op op_add (pe_op op_mul (pe_op op_mod (pe_callTy call_int1 (by rfl) B.int boot_int (pa_cons (pv 5) pa_nil)) pe_int) pe_int) (pe_op op_mul (pe_op op_mul pe_int (pv 3)) (pv 3))) (pe_op op_mul pe_int (pv 3))) pe_int) pa_nil)) pe_int))
      (pss_cons (ps_set (i := 6) nd rfl (.inl rfl) (pe_op op_mod (pe_callTy call_int1 (by rfl) B.int boot_int (pa_cons
          (pe_op op_add (pe_op op_add (pe_op op_mul (pv 6) (pv 6)) (pe_op op_mul pe_int (pv 6))) (pe_op op_mul pe_int (pv 3))) pa_nil)) pe_int))
      (pss_one (ps_ret (pe_op op_mod (pe_callTy call_int1 (by rfl) B.int boot_int (pa_cons (pe_op op_fdiv (pe_op op_mod (pe_callTy call_int1 (by rfl) B.int boot_int (pa_cons (pe_op op_mul (pv 6) (pe_op op_add (pv 6) pe_int)) pa_nil)) pe_int) pe_int) pa_nil)) (pv 1)))))))))), ?_⟩
    -- if pen['left'] > 0
    have dL : DGet H p (.str "left") (some (.int l)) := dg hp (pen_left c k l)
    have dB : DGet H p (.str "begun") (some (.int k)) := dg hp (pen_begun c k l)
    have dC : DGet H p (.str "cells") (some (.ref c)) := dg hp (pen_cells c k l)
    refine ⟨_, rfl, p, .int l, rfl, dL, _, _, rfl, rfl, _, rfl, ite2 (fun e => ?_) (fun e => ?_)⟩
    · have hl1 : 0 < l := of_decide_eq_true e
      refine ⟨_, rfl, p, .int l, rfl, dL, .inl ⟨l, rfl, _, rfl, l, m, rfl, rfl, hm, ?_⟩⟩
      refine ⟨_, rfl, p, .int l, rfl, dL, _, rfl, l, m, rfl, rfl, div200 hm hmb l, _, rfl, p, _, rfl, dp hp (pen_put_left c k l _) (pen_small c k l), _, rfl, ?_⟩
      refine q (l % m) _ (mod_bd l m hm).1 (mod_bd l m hm).2 ⟨c, ns, k, l / m, upd_same, by rw [upd_ne ncp]; exact hc, hns, hk0, by omega, Int.ediv_nonneg hl (by omega)⟩ (Frm.pen hp)
    · -- k, size = pen['begun'], len(pen['cells'])
      have hcL : SqL K H c (ns.map V.int) := .inl (.inl hc)
      refine ⟨_, rfl, p, .int k, rfl, dB, _, rfl, p, .ref c, rfl, dC, c, _, rfl, .inl hcL, _, _, rfl, ?_⟩
      refine ⟨_, rfl, _, _, rfl, rfl, _, rfl, p, _, rfl, dp hp (pen_put_begun c k l _) (pen_small c k l), ?_⟩
      -- cell = ..
      have hl0 : l = 0 := by
        have : ¬ (0 < l) := fun z => e (decide_eq_true z)
        omega
      have hp1 : (upd H p (.dK (penK c (k + 1) l))) p = some (.dK (penK c (k + 1) l)) := upd_same
      have hc1 : (upd H p (.dK (penK c (k + 1) l))) c = some (.lst (ns.map V.int)) := by rw [upd_ne ncp]; exact hc
      have dC1 := dg (x := "cells") hp1 (pen_cells c (k + 1) l)
      have hcL1 : SqL K (upd H p (.dK (penK c (k + 1) l))) c (ns.map V.int) := .inl (.inl hc1)
      have fin : ∀ (r y : Int), 0 ≤ r → r < m → 0 ≤ y → ∀ H', H' = upd H p (.dK (penK c (k + 1) y)) → Q (.int r) H' := fun r y h0 h1 hy H' e => by
        subst e
        exact q r _ h0 h1 ⟨c, ns, k + 1, y, upd_same, by rw [upd_ne ncp]; exact hc, hns, by omega, by omega, hy⟩ (Frm.pen hp)
      refine ⟨fun σ' H' => ∃ cell : Int, σ' = [some (.ref p), some (.int m), none, some (.int k), some (.int ((ns.map V.int).length : Int)), some (.int cell), none] ∧ H' = upd H p (.dK (penK c (k + 1) l)), ?_, ?_⟩
      · refine ⟨_, rfl, _, _, rfl, rfl, _, rfl, ite2 (fun e2 => ?_) (fun e2 => ?_)⟩
        · have hsz : (0 : Int) < ((ns.map V.int).length : Int) := of_decide_eq_true e2
          have hb := mod_bd k _ hsz
          have hj : (k % ((ns.map V.int).length : Int)).toNat < ns.length := by
            rw [List.length_map] at hb ⊢
            omega
          refine ⟨_, rfl, p, _, rfl, dC1, _, rfl, .inl ⟨k, rfl, _, rfl, k, _, rfl, rfl, hsz, c, ns.map V.int, _, .int ns[(k % ((ns.map V.int).length : Int)).toNat], rfl, rfl, hcL1, ?_, ?_⟩⟩
          · have := atI_nat (xs := ns.map V.int) (j := (k % ((ns.map V.int).length : Int)).toNat) (v := .int ns[(k % ((ns.map V.int).length : Int)).toNat]) (by rw [List.getElem?_map, List.getElem?_eq_getElem hj]; rfl)
            rw [Int.toNat_of_nonneg hb.1] at this
            exact this
          · exact ⟨_, rfl, rfl⟩
        · refine ⟨_, rfl, _, _, rfl, rfl, .inl ⟨by decide, by decide⟩, _, _, rfl, rfl, ?_⟩
          exact ⟨_, rfl, rfl⟩
      · rintro σ' H' ⟨cell, rfl, rfl⟩
        refine ⟨fun σ' H' => σ' = [some (.ref p), some (.int m), none, some (.int k), some (.int ((ns.map V.int).length : Int)), some (.int cell), none] ∧ H' = upd H p (.dK (penK c (k + 1) l)), ?_, ?_⟩
        · have hpow : CPow 10 18 := ⟨by decide, by decide, by decide⟩
          refine ⟨_, rfl, _, rfl, _, _, rfl, rfl, _, rfl, ite2 (fun e2 => ?_) (fun e2 => ?_)⟩
          · refine ⟨_, rfl, cell, rfl, _, _, rfl, rfl, hpow, _, _, rfl, rfl, _, rfl, ite2 (fun e3 => ?_) (fun e3 => ?_)⟩
            · have hge := of_decide_eq_true e3
              refine ⟨_, rfl, cell, rfl, _, _, rfl, rfl, hpow, _, _, rfl, rfl, _, rfl, _, _, rfl, rfl, div200 hm hmb _, _, rfl, p, _, rfl, dp hp1 (pen_put_left c (k + 1) l _) (pen_small c _ l), ?_⟩
              refine ⟨_, rfl, cell, rfl, _, _, rfl, rfl, hpow, _, _, rfl, rfl, .inl ⟨_, rfl, _, rfl, _, _, rfl, rfl, hm, ?_⟩⟩
              refine fin _ (((if cell < 0 then -cell else cell) - 10 ^ (18 : Int).toNat) / m) (mod_bd _ m hm).1 (mod_bd _ m hm).2 (Int.ediv_nonneg ?_ (by omega)) _ ?_
              · show (0 : Int) ≤ (if cell < 0 then -cell else cell) - 10 ^ (18 : Int).toNat
                have : (10 : Int) ^ (18 : Int).toNat ≤ (if cell < 0 then -cell else cell) := hge
                omega
              · rw [upd_upd]
            · exact ⟨rfl, rfl⟩
          · exact iteF ⟨rfl, rfl⟩
        · rintro σ' H' ⟨rfl, rfl⟩
          -- mix
          refine ⟨_, rfl, .inl ⟨_, rfl, _, _, rfl, rfl, (by show (0 : Int) < 4294966769; decide), _, _, rfl, rfl, .inr ⟨by decide, by decide⟩, _, rfl, _, _, rfl, rfl, .inl ⟨by decide, by decide⟩, _, rfl, _, _, rfl, rfl, .inl ?_, _, _, rfl, rfl, _, rfl, _, _, rfl, rfl, .inl ⟨by decide, by decide⟩, _, _, rfl, rfl, _, _, rfl, rfl, .inl ⟨_, rfl, _, _, rfl, rfl, (by show (0 : Int) < 4294966813; decide), ?_⟩⟩⟩
          · constructor <;> omega
          -- mix again
          generalize hM : (cell % 4294966769 * 43313 + 31699 * k * k + 613 * k + 41) % 4294966813 = M
          have hMb : 0 ≤ M ∧ M < 4294966813 := hM ▸ mod_bd _ _ (by decide)
          refine ⟨_, rfl, _, rfl, _, _, rfl, rfl, .inl (by constructor <;> omega), _, rfl, _, _, rfl, rfl, .inl ⟨by decide, by decide⟩, _, _, rfl, rfl, _, rfl, _, _, rfl, rfl, .inl ⟨by decide, by decide⟩, _, _, rfl, rfl, .inl ⟨_, rfl, _, _, rfl, rfl, (by show (0 : Int) < 4294966787; decide), ?_⟩⟩
          generalize hM2 : (M * M + 40961 * M + 17 * k) % 4294966787 = M2
          have hMb2 : 0 ≤ M2 ∧ M2 < 4294966787 := hM2 ▸ mod_bd _ _ (by decide)
          refine ⟨_, rfl, _, rfl, _, _, rfl, rfl, _, _, rfl, rfl, .inl (by constructor <;> omega), .inl ⟨_, rfl, _, _, rfl, rfl, (by show (0 : Int) < 4294966661; decide), _, _, rfl, rfl, ⟨by decide, by decide⟩, .inl ⟨_, rfl, _, rfl, _, _, rfl, rfl, hm, ?_⟩⟩⟩
          exact fin _ l (mod_bd _ m hm).1 (mod_bd _ m hm).2 hl _ rfl
theorem scPick : FnScope ["_law_pen_here", "_law_items"] ["_law_pen_here", "_law_items"] (defScope sPick) := ⟨rfl, rfl, rfl, by decide +kernel, rfl, by decide +kernel, by decide +kernel⟩
theorem ok_pick {f : Addr} {fd : FuncData} (F : Fun K "_law_pick" "_law_pick" sPick f fd) (B : Bl mg) (D : Cl P w K mg base 1 "_law_draw" ["_law_pen_here", "_law_many"] spDraw) : FnOk P w K mg base CX0 2 f fd ["_law_pen_here", "_law_items"] (spPick K) := by
  refine F.ok scPick (fun vs H Q E h => ?_) (fun cdv A outer s H vs Q E hr h => ?_)
  · obtain ⟨p, a, xs, n, rfl, _⟩ := h
    rfl
  · obtain ⟨p, a, xs, n, rfl, hS, h0, h1, hP, hn, q⟩ := h
    refine ⟨_, pss_one (ps_ret (pe_ix ix_list (pv 1) (pe_cl D hr (by decide) (by rfl) (pa_cons (pv 0) (pa_cons (pe_callB call_len_seq (by rfl) B.len PySem.boot_len (pa_cons (pv 1) pa_nil)) pa_nil))) (fun _ _ => rfl))), ?_⟩
    refine ⟨_, rfl, _, rfl, _, rfl, a, xs, rfl, .inl hS, p, xs.length, n, rfl, by omega, ?_, hP, hn, fun r H' hr0 hr1 hP' hF => ?_⟩
    · have : xs.length < 2 ^ 200 := Nat.lt_of_le_of_lt h1 (by decide)
      simpa using this
    · have hj : r.toNat < xs.length := by omega
      refine ⟨a, xs, r, xs[r.toNat], rfl, rfl, hF.seq hP hS, ?_, q _ _ (List.getElem_mem hj) hP' hF⟩
      have := atI_nat (xs := xs) (j := r.toNat) (v := xs[r.toNat]) (List.getElem?_eq_getElem hj)
      rw [Int.toNat_of_nonneg hr0] at this
      exact this
theorem scPen : FnScope ["_law_script"] ["_law_script"] (defScope sPen) := ⟨rfl, rfl, rfl, by decide +kernel, rfl, by decide +kernel, by decide +kernel⟩
theorem cut63 (ns : List Int) : cutV (ns.map V.int) none (some 63) = (ns.take 63).map V.int := by
  unfold cutV
  rw [HT.sIx_none, show HT.sIx (ns.map V.int).length (ns.map V.int).length (some 63) = min 63 (ns.map V.int).length from HT.sIx_nat _ _ 63, List.drop_zero, Nat.sub_zero, List.map_take]
  rcases Nat.le_total 63 (ns.map V.int).length with h | h
  · rw [Nat.min_eq_left h]
  · rw [Nat.min_eq_right h, List.take_of_length_le (Nat.le_refl _), List.take_of_length_le h]
theorem ok_pen {f : Addr} {fd : FuncData} (F : Fun K "_law_pen" "_law_pen" sPen f fd) (B : Bl mg) : FnOk P w K mg base CX0 1 f fd ["_law_script"] (spPen K) := by
  refine F.ok scPen (fun vs H Q E h => ?_) (fun cdv A outer s H vs Q E hr h => ?_)
  · obtain ⟨a, ns, rfl, _⟩ := h
    rfl
  · obtain ⟨a, ns, rfl, hS, hlen, q⟩ := h
    refine ⟨_, pss_one (ps_ret (pe_disp (pps_cons pe_str (pe_callTy call_list_of (by rfl) B.list (by decide +kernel) (pa_cons (pe_slice sl_list (pv 0) po_none (po_some pe_int)) pa_nil)) (pps_cons pe_str pe_int (pps_cons pe_str pe_int pps_nil))) rfl rfl (by simp) (by decide))), ?_⟩
    intro p hp
    have s1 : Same H (upd H p (.dK [])) := fun b o e => by rw [upd_ne (ne_of_none e hp)]; exact e
    refine ⟨_, rfl, _, rfl, a, _, rfl, s1.seq hS, fun x hx => ?_⟩
    refine ⟨x, _, rfl, .inl (.inl (.inl upd_same)), fun c hc => ?_⟩
    have npx : p ≠ x := ne_of_none upd_same hx
    have npc : p ≠ c := by
      intro e
      subst e
      rw [upd_ne npx, upd_same] at hc
      cases hc
    have a1 : putK ([] : List (Key × V)) (.inr ("cells" : Str)) (.ref c) = [(.inr ("cells" : Str), .ref c)] := putK_new _ valV_nil
    have a2 : putK ([(.inr ("cells" : Str), .ref c)] : List (Key × V)) (.inr ("begun" : Str)) (.int 0) = [(.inr ("cells" : Str), .ref c), (.inr ("begun" : Str), .int 0)] := putK_new _ ((valV_neg (fun e => kBC e.symm)).trans valV_nil)
    have a3 : putK ([(.inr ("cells" : Str), .ref c), (.inr ("begun" : Str), .int 0)] : List (Key × V)) (.inr ("left" : Str)) (.int 0) = penK c 0 0 := putK_new _ ((valV_neg (fun e => kLC e.symm)).trans ((valV_neg (fun e => kLB e.symm)).trans valV_nil))
    have e3 : mergeK [] (penK c 0 0) = penK c 0 0 := by
      show putK (putK (putK ([] : List (Key × V)) (.inr ("cells" : Str)) (.ref c)) (.inr ("begun" : Str)) (.int 0)) (.inr ("left" : Str)) (.int 0) = penK c 0 0
      rw [a1, a2, a3]
    refine ⟨by rw [upd_ne npc, upd_ne npx, upd_same], penK c 0 0, rfl, by show 3 ≤ 15; decide, ?_⟩
    rw [e3]
    refine q p _ hp ⟨c, ns.take 63, 0, 0, upd_same, ?_, by rw [List.length_take]; omega, by omega, by omega, by omega⟩ fun b o e => ?_
    · rw [upd_ne npc.symm, upd_same, cut63]
    · have h1 := s1 b o e
      have nbx : b ≠ x := ne_of_none h1 hx
      have h2 : (upd (upd H p (.dK [])) x (.lst (cutV (ns.map V.int) none (some 63)))) b = some o := by rw [upd_ne nbx]; exact h1
      rw [upd_ne (ne_of_none e hp), upd_ne (ne_of_none h2 hc)]
      exact h2
end
end OR

namespace OR
open PySem PySem.Spec PyProof.Rows L2
section
variable {P : Program} {w : World} {K : PySem.W.Frag} {mg : Str → Option Value} {base : Heap}
theorem scWhole : FnScope ["_law_pen_here", "_law_size"] ["_law_pen_here"] (defScope sWhole) := ⟨rfl, rfl, rfl, by decide +kernel, rfl, by decide +kernel, by decide +kernel⟩
theorem ok_whole {f : Addr} {fd : FuncData} (F : Fun K "_law_whole" "_law_whole" sWhole f fd) (D : Cl P w K mg base 1 "_law_draw" ["_law_pen_here", "_law_many"] spDraw) (C : Cl P w K mg base 2 "_law_pick" ["_law_pen_here", "_law_items"] (spPick K)) :
    FnOk P w K mg base CX0 3 f fd ["_law_pen_here"] spWhole := by
  refine F.ok scWhole (fun vs H Q E h => ?_) (fun cdv A outer s H vs Q E hr h => ?_)
  · obtain ⟨p, n, rfl, _⟩ := h
    rfl
  · obtain ⟨p, n, rfl, hP, hn, q⟩ := h
    refine ⟨_, pss_cons (ps_set (i := 1) scWhole.nd rfl (.inl rfl) (pe_cl C hr (by decide) (by rfl) (pa_cons (pv 0) (pa_cons (pe_lst (pa_cons pe_int (pa_cons pe_int (pa_cons pe_int (pa_cons (pe_op op_pow pe_int pe_int) (pa_cons (pe_op op_pow pe_int pe_int) pa_nil)))))) pa_nil))))
      (pss_one (ps_ret (pe_op op_mul (pe_cl D hr (by decide) (by rfl) (pa_cons (pv 0) (pa_cons (pv 1) pa_nil))) (pe_cl C hr (by decide) (by rfl) (pa_cons (pv 0) (pa_cons (pe_lst (pa_cons pe_int (pa_cons pe_int (pa_cons (pe_un un_neg pe_int) pa_nil)))) pa_nil)))))), ?_⟩
    refine ⟨_, rfl, _, _, rfl, rfl, ⟨by decide, by decide, by decide⟩, _, _, rfl, rfl, ⟨by decide, by decide, by decide⟩, by show 5 ≤ sizeLine; decide, fun a ha => ?_⟩
    have P1 := hP.new (o := .lst [.int 3, .int 10, .int 100, .int (10 ^ (6 : Int).toNat), .int (10 ^ (30 : Int).toNat)]) ha
    refine ⟨p, a, _, n, rfl, .inl (.inl upd_same), by show 0 < 5; decide, by show 5 ≤ 1000; decide, P1, by omega, fun v H2 hv P2 F2 => ?_⟩
    obtain ⟨m, rfl, hm0, hm1⟩ : ∃ m : Int, v = .int m ∧ 0 < m ∧ m ≤ 10 ^ 30 := by
      simp only [List.mem_cons, List.not_mem_nil, or_false] at hv
      rcases hv with e | e | e | e | e <;> subst e <;> exact ⟨_, rfl, by decide, by decide⟩
    have hmb : m.natAbs < 2 ^ 200 := by
      have : m.natAbs ≤ 10 ^ 30 := by omega
      exact Nat.lt_of_le_of_lt this (by decide)
    refine ⟨_, rfl, _, rfl, p, m, n + 1, rfl, hm0, hmb, P2, by omega, fun r H3 hr0 hr1 P3 F3 => ?_⟩
    refine ⟨_, rfl, _, rfl, by show 3 ≤ sizeLine; decide, fun b hb => ?_⟩
    refine ⟨p, b, _, n + 2, rfl, .inl (.inl upd_same), by show 0 < 3; decide, by show 3 ≤ 1000; decide, P3.new hb, by omega, fun v H4 hv P4 F4 => ?_⟩
    obtain ⟨s, rfl, hs⟩ : ∃ s : Int, v = .int s ∧ (s = 1 ∨ s = -1) := by
      simp only [List.mem_cons, List.not_mem_nil, or_false] at hv
      rcases hv with e | e | e <;> subst e
      · exact ⟨_, rfl, .inl rfl⟩
      · exact ⟨_, rfl, .inl rfl⟩
      · exact ⟨_, rfl, .inr rfl⟩
    refine ⟨r, s, rfl, rfl, .inr (by constructor <;> omega), q _ _ ?_ ?_ P4 ((((Frm.new ha).trans F2).trans F3).trans ((Frm.new hb).trans F4))⟩
    · rcases hs with rfl | rfl <;> omega
    · rcases hs with rfl | rfl <;> omega
end
end OR

namespace OR
open PySem PySem.Spec PyProof.Rows L2
/-! ### own classes: double-underscore methods behind the signs -/
/-- a method of the class at C, called with its object and arguments by position -/
structure Md (P : Program) (w : World) (K : PySem.W.Frag) (mg : Str → Option Value) (base : Heap) (k : Nat) (C : Addr) (m : Str) (sp : Sp) : Prop where
  ex : ∃ f, FnR P w K mg base CX0 k f sp ∧ PySem.W.findIn K (.ref C) m = some (some (.ref f)) ∧ PySem.W.isFn K (.ref f) = true ∧ PySem.W.fnIn K f = true
theorem fnR_of {P : Program} {w : World} {K : PySem.W.Frag} {mg : Str → Option Value} {base : Heap} {k : Nat} {f : Addr} {fd : FuncData} {ps : List Str} {sp : Sp} (F : FnOk P w K mg base CX0 k f fd ps sp) (hb : Binds K fd ps []) : FnR P w K mg base CX0 k f sp :=
  (F.raw hb .nil).imp fun vs H Q E h => by rw [List.append_nil]; exact h
section
variable {X : Cx} {n : Nat} {C : Addr} {sp : Sp}
def rBinS (C : Addr) (sp : Sp) : R2 := fun x y H Q => ∃ a b dx dy fs gs, x = .ref a ∧ y = .ref b ∧ H a = some (.ins C dx fs) ∧ H b = some (.ins C dy gs) ∧ sp [x, y] H Q E0
theorem op_binS {op : Operator} (m : Md X.prog X.w X.K X.mg X.base n C (PySem.dunder op.info.2) sp) (sf : PySem.W.selfFirst X.K C = true) (hr : Room n X.A) : OpR X (binaryOp op) (rBinS C sp) := by
  intro pins s σ H x y v u Q I rx ry h
  obtain ⟨f, F, hs, hf, _⟩ := m.ex
  obtain ⟨a, b, dx, dy, fs, gs, rfl, rfl, ha, hb, q⟩ := h
  cases (show v = Value.ref a from rx)
  cases (show u = Value.ref b from ry)
  obtain ⟨mA, J, _⟩ := ins_get I.hok ha
  obtain ⟨mB, J', _⟩ := ins_get I.hok hb
  obtain ⟨od, J, _⟩ := J.look
  obtain ⟨od', J', _⟩ := J'.look
  obtain ⟨m, hF⟩ := I.fr
  refine PySem.W.binop_K hF I.ok.mod.kin J J'.type sf hs hf ?_
  refine wpAny_mono (wpAny_call (run_fnR (us := [.ref a, .ref b]) (vs := [.ref a, .ref b]) F hr pass0 I (.cons rfl (.cons rfl .nil)) q)) (fun w s' z => ?_) fun _ _ x => x
  obtain ⟨z', H', I', rz, qz⟩ := z
  exact SlX.cmpback rz ⟨z', H', I', rz, qz⟩
/-- what + and the like ask of the class for an int on the right -/
structure BinI (K : PySem.W.Frag) (C : Addr) (op : Operator) : Prop where
  rc : ∃ rc, PySem.W.findIn K (.ref C) (PySem.dunderR op.info.2) = some rc ∧ (rc = none ∨ ∃ g : Addr, rc = some (.ref g))
  fo : ∃ fo, PySem.W.findIn K (.type "int") (PySem.dunder op.info.2) = some fo
  ro : ∃ ro, PySem.W.findIn K (.type "int") (PySem.dunderR op.info.2) = some ro
  sub : PySem.W.subIn K (.type "int") (.ref C) = some false
def rBinI (C : Addr) (sp : Sp) : R2 := fun x y H Q => ∃ a dx fs i, x = .ref a ∧ y = .int i ∧ H a = some (.ins C dx fs) ∧ sp [x, y] H Q E0
theorem op_binI {op : Operator} (m : Md X.prog X.w X.K X.mg X.base n C (PySem.dunder op.info.2) sp) (b : BinI X.K C op) (sf : PySem.W.selfFirst X.K C = true) (hr : Room n X.A) : OpR X (binaryOp op) (rBinI C sp) := by
  intro pins s σ H x y v u Q I rx ry h
  obtain ⟨f, F, hs, hf, _⟩ := m.ex
  obtain ⟨a, dx, fs, i, rfl, rfl, ha, q⟩ := h
  cases (show v = Value.ref a from rx)
  obtain ⟨t, rfl⟩ := (show ∃ t, u = Value.int i t from ry)
  obtain ⟨mA, J, _⟩ := ins_get I.hok ha
  obtain ⟨od, J, _⟩ := J.look
  obtain ⟨m, hF⟩ := I.fr
  obtain ⟨rc, hrc, hp⟩ := b.rc
  obtain ⟨fo, h1⟩ := b.fo
  obtain ⟨ro, h2⟩ := b.ro
  refine PySem.W.ksp_binT (T := "int") hF I.ok.mod.kin J rfl sf hs hf hrc hp h1 h2 b.sub ?_
  refine wpAny_mono (wpAny_call (run_fnR (us := [.ref a, .int i t]) (vs := [.ref a, .int i]) F hr pass0 I (.cons rfl (.cons ⟨t, rfl⟩ .nil)) q)) (fun w s' z => ?_) fun _ _ x => x
  obtain ⟨z', H', I', rz, qz⟩ := z
  exact SlX.cmpback rz ⟨z', H', I', rz, qz⟩
def rNegO (C : Addr) (sp : Sp) : V → Hp → VK → Prop := fun x H Q => ∃ a dx fs, x = .ref a ∧ H a = some (.ins C dx fs) ∧ sp [x] H Q E0
theorem un_negO (m : Md X.prog X.w X.K X.mg X.base n C "__neg__" sp) (hr : Room n X.A) : UnR X (unaryOp .USub) (rNegO C sp) := by
  intro pins s σ H x v Q I rx h
  obtain ⟨f, F, hs, hf, _⟩ := m.ex
  obtain ⟨a, dx, fs, rfl, ha, q⟩ := h
  cases (show v = Value.ref a from rx)
  obtain ⟨mA, J, _⟩ := ins_get I.hok ha
  obtain ⟨od, J, _⟩ := J.look
  obtain ⟨m, hF⟩ := I.fr
  refine PySem.W.ksp_neg hF I.ok.mod.kin J hs hf ?_
  refine wpAny_mono (wpAny_call (run_fnR (us := [.ref a]) (vs := [.ref a]) F hr pass0 I (.cons rfl .nil) q)) (fun w s' z => ?_) fun _ _ x => x
  exact z
end
/-- a reading may ask for more -/
theorem pe_imp {X : Cx} {e : Expr} {t t' : TE} (h : PE X e t) (i : ∀ σ H Q, t' σ H Q → t σ H Q) : PE X e t' := ⟨fun pins s σ H Q I q => h.run pins s σ H Q I (i σ H Q q)⟩
structure FnAt (K : PySem.W.Frag) (x : Str) (st : Stmt) : Prop where
  ex : ∃ f fd, Fun K x x st f fd ∧ PySem.W.nsIn K mainGlobals x = some (some (.ref f))
theorem fnAt {K : PySem.W.Frag} {h : Heap} {x : Str} {st : Stmt} {f : Addr} {oc : Value} {od an : Option Addr} {osl : Array (Option Value)} {kV doc pm cdv ct : Value} (_X : K.In h)
    (a : PySem.W.nsIn K mainGlobals x = some (some (.ref f))) (l : K.lookup f = some ⟨oc, od, .func (PySem.W.fnOf x x (defArgs st) (defBody st) (defScope st) .none kV doc pm an cdv ct), osl⟩)
    (c : PySem.W.codeIn K cdv x = true) (k : PySem.W.keepIn K (.ref f) = true) : FnAt K x st := ⟨f, _, fun_mk l c k, a⟩
structure MtAt (K : PySem.W.Frag) (C : Addr) (m m' qual : Str) (st : Stmt) : Prop where
  ex : ∃ f fd, Fun K m qual st f fd ∧ PySem.W.findIn K (.ref C) m' = some (some (.ref f)) ∧ PySem.W.isFn K (.ref f) = true ∧ PySem.W.fnIn K f = true
theorem mtAt {K : PySem.W.Frag} {h : Heap} {C : Addr} {m m' qual : Str} {st : Stmt} {f : Addr} {oc : Value} {od an : Option Addr} {osl : Array (Option Value)} {kV doc pm cdv ct : Value} (_X : K.In h)
    (a : PySem.W.findIn K (.ref C) m' = some (some (.ref f))) (l : K.lookup f = some ⟨oc, od, .func (PySem.W.fnOf m qual (defArgs st) (defBody st) (defScope st) .none kV doc pm an cdv ct), osl⟩)
    (c : PySem.W.codeIn K cdv qual = true) (k : PySem.W.keepIn K (.ref f) = true) (i : PySem.W.isFn K (.ref f) = true) (n : PySem.W.fnIn K f = true) : MtAt K C m m' qual st := ⟨f, _, fun_mk l c k, a, i, n⟩
section
variable {P : Program} {w : World} {K : PySem.W.Frag} {mg : Str → Option Value} {base h : Heap}
theorem cl_of {x : Str} {st : Stmt} {k : Nat} {ps : List Str} {sp : Sp} (a : FnAt K x st) (X : K.In h) (G : h.Ns mainGlobals mg)
    (hb : ∀ (kV doc pm : Value) (an : Option Addr) (cdv ct : Value) (us : List Value), us.length = ps.length → bindArgs (PySem.W.fnOf x x (defArgs st) (defBody st) (defScope st) .none kV doc pm an cdv ct) ⟨us, []⟩ = pure (ps.zip us))
    (ok : ∀ f fd, Fun K x x st f fd → FnOk P w K mg base CX0 k f fd ps sp) : Cl P w K mg base k x ps sp := by
  obtain ⟨f, fd, F, e⟩ := a.ex
  exact ⟨f, fd, ok f fd F, PySem.W.mg_of X G e, F.kp, F.binds hb⟩
theorem md_of {C : Addr} {m m' qual : Str} {st : Stmt} {k : Nat} {ps : List Str} {sp : Sp} (a : MtAt K C m m' qual st)
    (hb : ∀ (kV doc pm : Value) (an : Option Addr) (cdv ct : Value) (us : List Value), us.length = ps.length → bindArgs (PySem.W.fnOf m qual (defArgs st) (defBody st) (defScope st) .none kV doc pm an cdv ct) ⟨us, []⟩ = pure (ps.zip us))
    (ok : ∀ f fd, Fun K m qual st f fd → FnOk P w K mg base CX0 k f fd ps sp) : Md P w K mg base k C m' sp := by
  obtain ⟨f, fd, F, e, i, n⟩ := a.ex
  exact ⟨f, fnR_of (ok f fd F) (F.binds hb), e, i, n⟩
end
end OR

namespace OR
open PySem PySem.Spec PyProof.Rows L2
open AutoSeq1 (wpAny_loadPart')
/-! ### enumerate of a tuple -/
section
variable {prog : Program} {w : World} {A : Around} {E : Value → Shared → Prop} {s : Shared}
theorem nextOf_tup_item {it t : Addr} {i : Nat} {items : Array Value} {x : Value} {Q : Value → Shared → Prop} (hit : s.heap.IsTupleIter it t i) (ht : s.heap.IsTuple t items) (hx : items[i]? = some x)
    (hQ : ∀ h', h'.IsTupleIter it t (i + 1) → Heap.SameBut it s.heap h' → Q x { s with heap := h' }) : wpAny (model prog w) A (Builtin.SmallTypes.nextOf (.ref it)) Q E s := by
  obtain ⟨o, ho, hc, hd⟩ := id hit
  obtain ⟨ol, hol, _, nl, hdl⟩ := ht
  unfold Builtin.SmallTypes.nextOf
  refine wpAny_bind (wpAny_callSpecial?_slot (name := Str.ofString "__next__") hit.typeIs F.slot_tuple_iterator_next (wpAny_call_entry F.slot_tuple_iterator_next hit.typeIs F.entry_tuple_iterator_next ?_ (F.args_tuple_iterator_next_1 _)))
  show wpAny _ _ (field (.ref it) 0 >>= _) _ _ s
  refine wpAny_bind (wpAny_field ho hd (x := .ref t) rfl ?_)
  show wpAny _ _ (if (Value.ref t == Value.none) = true then _ else _) _ _ s
  rw [if_neg (show ¬ ((Value.ref t == Value.none) = true) by exact Bool.false_ne_true)]
  show wpAny _ _ (field (.ref it) 1 >>= _) _ _ s
  refine wpAny_bind (wpAny_field ho hd (x := .int i 0) rfl ?_)
  show wpAny _ _ (seqItems? (.ref t) >>= _) _ _ s
  refine wpAny_bind (wpAny_seqItems hol hdl ?_)
  simp only [Int.toNat_natCast, hx]
  refine wpAny_bind (wpAny_setField ho hd (by simp) (wpAny_pure ⟨x, rfl, wpAny_pure (hQ _ ⟨_, Heap.get?_update_self _ ho (Obj.isFreed_of_fields (Obj.data_mapFields hd _)), (Obj.cls_mapFields ..).trans hc, by
    rw [Obj.data_mapFields hd]; simp [rawInt]⟩ (Heap.SameBut.update ..))⟩))
theorem nextOf_tup_end {it t : Addr} {i : Nat} {items : Array Value} {Q : Value → Shared → Prop} (hh : A.handled = none) (hit : s.heap.IsTupleIter it t i) (ht : s.heap.IsTuple t items) (hx : items[i]? = none)
    (hE : ∀ h' e, Heap.ExtBut it s.heap h' → (∃ o, h'.get? e = some o ∧ o.cls = .type "StopIteration") → E (.ref e) { s with heap := h' }) : wpAny (model prog w) A (Builtin.SmallTypes.nextOf (.ref it)) Q E s := by
  obtain ⟨o, ho, hc, hd⟩ := id hit
  obtain ⟨ol, hol, _, nl, hdl⟩ := ht
  unfold Builtin.SmallTypes.nextOf
  refine wpAny_bind (wpAny_callSpecial?_slot (name := Str.ofString "__next__") hit.typeIs F.slot_tuple_iterator_next (wpAny_call_entry F.slot_tuple_iterator_next hit.typeIs F.entry_tuple_iterator_next ?_ (F.args_tuple_iterator_next_1 _)))
  show wpAny _ _ (field (.ref it) 0 >>= _) _ _ s
  refine wpAny_bind (wpAny_field ho hd (x := .ref t) rfl ?_)
  show wpAny _ _ (if (Value.ref t == Value.none) = true then _ else _) _ _ s
  rw [if_neg (show ¬ ((Value.ref t == Value.none) = true) by exact Bool.false_ne_true)]
  show wpAny _ _ (field (.ref it) 1 >>= _) _ _ s
  refine wpAny_bind (wpAny_field ho hd (x := .int i 0) rfl ?_)
  show wpAny _ _ (seqItems? (.ref t) >>= _) _ _ s
  refine wpAny_bind (wpAny_seqItems hol hdl ?_)
  simp only [Int.toNat_natCast, hx]
  refine wpAny_bind (wpAny_rule (wpAny_bind (wpAny_setField ho hd (by simp) ?_)))
  show wpAny _ _ (newExc (.type "StopIteration") [] >>= _) _ _ _
  refine wpAny_bind ?_
  simp only [newExc, newTuple]
  refine wpAny_bind (wpAny_newObj_type ?_ (by size_fits))
  refine wpAny_bind (m := firstArgMember _ _) (wpAny_of_eq (a := Value.none) (by first | rfl | (simp only [firstArgMember]; rfl)) ?_)
  refine wpAny_newObj_type ?_ (by size_fits)
  simp only [raiseNew]
  refine wpAny_bind (wpAny_handled ?_)
  first | rw [show A.in1.handled = none from hh] | rw [hh]
  refine wpAny_bind (wpAny_pure (wpAny_throw ?_))
  exact hE _ _ (((Heap.SameBut.update ..).extBut.push _).push _) ⟨_, Heap.get?_push_size _ rfl, rfl⟩
theorem draws_tup (hh : A.handled = none) (it t : Addr) (hne : t ≠ it) (items : Array Value) :
    Draws prog w A it [it, t] items.size (fun i v => items[i]? = some v) (fun i h => h.IsTupleIter it t i ∧ h.IsTuple t items) where
  live := fun _ _ st => let ⟨o, ho, _⟩ := st.1; ⟨o, ho⟩
  frame := fun _ _ _ st hk => ⟨let ⟨o, ho, r⟩ := st.1; ⟨o, hk it (by simp) o ho, r⟩, let ⟨o, ho, r⟩ := st.2; ⟨o, hk t (by simp) o ho, r⟩⟩
  item := fun i s Q E hi st hQ => by
    refine nextOf_tup_item st.1 st.2 (x := items[i]) (by simp [hi]) fun h' hit' hs' => ?_
    exact hQ _ h' s.toks (by simp [hi]) ⟨hit', st.2.extBut hs'.extBut hne⟩ hs'
  done := fun s Q E st hE => nextOf_tup_end hh st.1 st.2 (by simp) hE
theorem meets_enum_tup (l : Addr) (items : Array Value) (n : Nat) (dct : Option Addr) (sl : Array (Option Value)) :
    Meets (Builtin.«enumerate.__new__» ⟨[.type "enumerate", .ref l], []⟩) (fun _ R s => s.heap.get? l = some { cls := .type "tuple", dict := dct, data := .seq items n, slots := sl } ∧
      R (.ok (.ret (.ref (s.heap.push { cls := .type "tuple_iterator", data := .fields #[.ref l, .int 0 0] }).objs.size)))
        { s with heap := (s.heap.push { cls := .type "tuple_iterator", data := .fields #[.ref l, .int 0 0] }).push { cls := .type "enumerate", data := .fields #[.none, .bool false, .ref s.heap.objs.size, rawInt 0, .none, .none] } }) :=
  .of_wp fun prog w A R s h => by
    obtain ⟨hp, g, d, tk, os⟩ := s
    obtain ⟨hl, h⟩ := h
    have hsub := sub_enumerate
    have hL : Heap.IsTuple (Shared.heap ⟨hp, g, d, tk, os⟩) l items := ⟨_, hl, rfl, n, rfl⟩
    wp_walk using wpAny_loadPart' hl
    refine wpAny_stack_any fun st => wpAny_pure ?_
    split
    · rename_i c _ _ _ _ _
      cases (c == Value.type "enumerate")
      · wp_walk using wpAny_loadPart' hl, wpAny_pyIter_tuple hL
        exact ⟨_, rfl, h⟩
      · wp_walk using wpAny_loadPart' hl, wpAny_pyIter_tuple hL
        exact ⟨_, rfl, h⟩
    · wp_walk using wpAny_loadPart' hl, wpAny_pyIter_tuple hL
      exact ⟨_, rfl, h⟩
theorem call_enum_tup {l : Addr} {items : Array Value} {Q : Value → Shared → Prop} (hL : s.heap.IsTuple l items)
    (h : ∀ h', IsEnum h' (s.heap.objs.size + 1) s.heap.objs.size 0 .none → h'.IsTupleIter s.heap.objs.size l 0 → h'.objs.size = s.heap.objs.size + 2 →
      (∀ b o, s.heap.get? b = some o → h'.get? b = some o) → Q (.ref (s.heap.objs.size + 1)) { s with heap := h' }) :
    wpAny (model prog w) A (call (.type "enumerate") [.ref l]) Q E s := by
  obtain ⟨⟨c, dct, dt, sl⟩, hl, hc, n, hd⟩ := hL
  replace hc : c = .type "tuple" := hc
  replace hd : dt = .seq items n := hd
  subst hc hd
  refine callType_new F.called_enumerate (by decide) (F.typeCall_enumerate_1 _) (F.newCall_enumerate_1 _) (fun obj => F.args_object_init_2 obj _) F.entry_enumerate_new (meets_enum_tup l items n dct sl) ⟨hl, ?_⟩
  have hz : (s.heap.push { cls := .type "tuple_iterator", data := .fields #[.ref l, .int 0 0] }).objs.size = s.heap.objs.size + 1 := Heap.size_push ..
  show _ ∧ _
  rw [hz]
  have he : IsEnum ((s.heap.push { cls := .type "tuple_iterator", data := .fields #[.ref l, .int 0 0] }).push
      { cls := .type "enumerate", data := .fields #[.none, .bool false, .ref s.heap.objs.size, rawInt 0, .none, .none] }) (s.heap.objs.size + 1) s.heap.objs.size 0 .none := by
    have := Heap.get?_push_size (s.heap.push { cls := .type "tuple_iterator", data := .fields #[.ref l, .int 0 0] })
      (o := { cls := .type "enumerate", data := .fields #[.none, .bool false, .ref s.heap.objs.size, rawInt 0, .none, .none] }) rfl
    rw [hz] at this; exact this
  refine ⟨⟨_, he, rfl⟩, h _ he ⟨_, Heap.get?_push_of_some _ (Heap.get?_push_size _ rfl), rfl, rfl⟩ (by rw [Heap.size_push, hz]) fun b o x => Heap.get?_push_of_some _ (Heap.get?_push_of_some _ x)⟩
end
/-- the tuple at a as it stands at each turn, each item in a new pair -/
def IteT (K : PySem.W.Frag) (a : Addr) : It :=
  ⟨fun i H => ∃ (xs : List V) (x : V), SqT K H a xs ∧ xs[i]? = some x, fun i H v H' => ∃ T x, v = .ref T ∧ H T = none ∧ H' = upd H T (.tup [.int (i : Nat), x]) ∧ ∀ xs, SqT K H a xs → xs[i]? = some x, fun i H => ∃ xs : List V, SqT K H a xs ∧ xs.length ≤ i⟩
theorem turn_enumT {P : Program} {w : World} {K : PySem.W.Frag} {elts : List Expr} {kk : Nat} {tpos : Pos} (a e it : Addr) (hai : a ≠ it) (hea : e ≠ a) :
    Turn P w K (.Tuple elts kk tpos) (IteT K a) [e, it] e (fun i h => (∃ old, IsEnum h e it ((i : Nat) : Int) old) ∧ h.IsTupleIter it a i ∧ e ≠ it) where
  mem := by simp
  obj := fun i h st b hb => by
    obtain ⟨⟨old, he⟩, ⟨o, ho, hc, hd⟩, _⟩ := st
    have e' : b = e ∨ b = it := by simpa using hb
    rcases e' with z | z
    · rw [z]; exact ⟨_, he, fun v q => nomatch q⟩
    · rw [z]; exact ⟨o, ho, fun v q => by rw [hd] at q; cases q⟩
  keep := fun i h h' st k => by
    obtain ⟨⟨old, he⟩, ⟨o, ho, r⟩, hne⟩ := st
    exact ⟨⟨old, k e (by simp) _ he⟩, ⟨o, k it (by simp) o ho, r⟩, hne⟩
  item := by
    intro X hP hw hK hc i pins s σ H E I hf st hg
    subst hP hw hK
    obtain ⟨⟨old, he⟩, hit, hne⟩ := st
    obtain ⟨xs, x, hq, hx⟩ := hg
    obtain ⟨its, rv, p, hz⟩ := I.tuple hq
    obtain ⟨u, hu, ru⟩ := rv.get hx
    have hel : e < s.heap.objs.size := Heap.lt_size he
    have hil : it < s.heap.objs.size := by obtain ⟨_, q, _⟩ := hit; exact Heap.lt_size q
    have hD := draws_tup (prog := X.prog) (w := X.w) (A := X.A.in1) (I.ok.hd hc) it a hai its.toArray
    have hlt : i < its.toArray.size := by
      have := (List.getElem?_eq_some_iff.mp hu).1
      simpa using this
    refine wpAny_pyNext_enum_itemD hD he ⟨hit, show s.heap.IsTuple a its.toArray from p⟩ hlt hne (by simp [hne, hea]) fun y h' tk hy ho hst' hT hsz hk => ?_
    obtain rfl : y = u := by
      have h1 : its[i]? = some y := by simpa using hy
      rw [hu] at h1
      exact (Option.some.inj h1).symm
    refine ⟨_, rfl, wpAny_letOwnedTupleGo_enum (s := { s with heap := h', toks := tk + 1 }) ho fun h'' he' sb => ?_⟩
    have hT2 : h''.get? s.heap.objs.size = some { cls := .type "tuple", data := .seq #[.int i tk, y] } := (sb.2 _ (Nat.ne_of_gt hel)).trans hT
    have new : ObjOk X.prog X.w (upd H s.heap.objs.size (.tup [.int (i : Nat), x])) h'' s.heap.objs.size (.tup [.int (i : Nat), x]) :=
      ⟨by show 2 ≤ sizeLine; decide, [.int i tk, y], .cons ⟨_, rfl⟩ (.cons ru .nil), ⟨_, hT2, rfl, _, rfl⟩⟩
    have I1 : Inv X pins σ (upd H s.heap.objs.size (.tup [.int (i : Nat), x])) { s with heap := h'', toks := tk + 1 } :=
      I.turnedNew (ch := [e, it]) (fun b ob hb q => (sb.2 b (fun z => hb (by simp [z]))).trans (hk b ob (fun z => hb (by simp [z])) (fun z => hb (by simp [z])) q)) hf (Nat.le_refl _) new
    refine ⟨.ref s.heap.objs.size, _, I1, rfl, ⟨_, x, rfl, I.hok.fresh (Nat.le_refl _), rfl, fun ys hy => by rw [I.tuple_inj hy hq]; exact hx⟩, ⟨⟨y, ?_⟩, ?_, hne⟩, fun b hb => ?_⟩
    · have e1 : ((i + 1 : Nat) : Int) = (i : Int) + 1 := by omega
      rw [e1]; exact he'
    · obtain ⟨o, ho', r⟩ := hst'.1
      exact ⟨o, (sb.2 it (Ne.symm hne)).trans ho', r⟩
    · have hb' : b < s.heap.objs.size := by
        have e' : b = e ∨ b = it := by simpa using hb
        rcases e' with z | z
        · rw [z]; exact hel
        · rw [z]; exact hil
      rw [upd_ne (Nat.ne_of_lt hb')]
      exact (hf b hb).1
  done := by
    intro X hP hw hK hc i pins s σ H E I hf st hg
    subst hP hw hK
    obtain ⟨⟨old, he⟩, hit, hne⟩ := st
    obtain ⟨xs, hq, hx⟩ := hg
    obtain ⟨its, rv, p, hz⟩ := I.tuple hq
    obtain ⟨f0, f1, f2, f3, f4, f5⟩ := hf it (by simp)
    have hl := rv.length
    have hT : s.TypeIs (.ref e) "enumerate" := ⟨_, he, rfl⟩
    unfold pyNext
    refine wpAny_bind (wpAny_attempt (wpAny_callSpecial?_slot (name := Str.ofString "__next__") hT F.slot_enumerate_next (wpAny_call_entry F.slot_enumerate_next hT F.entry_enumerate_next ?_ (F.args_enumerate_next_1 _))))
    show wpAny _ _ (field (.ref e) 2 >>= _) _ _ _
    refine wpAny_bind (wpAny_field he rfl (x := .ref it) rfl ?_)
    refine wpAny_bind (nextOf_tup_end (I.ok.hd hc) hit (show s.heap.IsTuple a its.toArray from p) (by simp; omega) fun h' x he' hx' => ?_)
    obtain ⟨o, ho, hc'⟩ := hx'
    refine wpAny_bind (wpAny_isInstance (T := "StopIteration") (b := true) ⟨o, ho, hc'⟩ isSubtype_stop ?_)
    exact wpAny_pure ⟨rfl, I.turned (t' := s.toks) (fun b o hb q => he' b o hb q) f0 f1 f3 f4 f5⟩
  self := fun A i s Q E st h => let ⟨⟨_, he⟩, _⟩ := st; wpAny_pyIter_enum he h
def iEnumT (K : PySem.W.Frag) (ta : TA) : TI := fun σ H R => ta σ H fun vs H1 => ∃ a xs, vs = [.ref a] ∧ SqT K H1 a xs ∧ R (IteT K a) H1
theorem pi_enumT {X : Cx} {e : Expr} {ta : TA} {p pos tpos : Pos} {elts : List Expr} {kk : Nat} (hg : Gl X "enumerate") (hm : X.mg "enumerate" = none) (ha : PA X [e] ta) (hs : starEach [e] X.env = [(false, eval e X.env)] := by rfl) :
    PI X (.Tuple elts kk tpos) (.Call (.Name "enumerate" p) [e] [] pos) (iEnumT X.K ta) := by
  refine ⟨fun pins s σ H R I h => ?_⟩
  refine Call_ (ld_blt I hg hm boot_enumerate (PyProof.Rows.callWith_type1 (thn (ha.run pos pins s σ H _ I h) fun us s1 ⟨vs, H1, I1, r1, q1⟩ => ?_) hs rfl))
  obtain ⟨a, xs, ex, hq, q⟩ := q1
  subst ex
  cases r1 with
  | cons r rr =>
    cases rr
    cases r
    obtain ⟨its, rv, p', hz⟩ := I1.tuple hq
    have pt : s1.heap.IsTuple a its.toArray := p'
    have hal : a < s1.heap.objs.size := by obtain ⟨o, ho, _⟩ := pt; exact Heap.lt_size ho
    refine call_enum_tup pt fun h' he hit hsz hk => wpAny_pyIter_enum he ?_
    have I2 : Inv X pins σ H1 { s1 with heap := h' } := I1.kept (t' := s1.toks) hk
    refine ⟨s1.heap.objs.size + 1, [s1.heap.objs.size + 1, s1.heap.objs.size], _, _, H1, rfl, I2, turn_enumT a (s1.heap.objs.size + 1) s1.heap.objs.size (Nat.ne_of_lt hal) (Nat.ne_of_gt (Nat.lt_succ_of_lt hal)), ⟨⟨.none, he⟩, hit, Nat.succ_ne_self _⟩, fun b hb => ?_, q⟩
    have e' : b = s1.heap.objs.size + 1 ∨ b = s1.heap.objs.size := by simpa using hb
    have hle : s1.heap.objs.size ≤ b := by
      rcases e' with z | z
      · rw [z]; exact Nat.le_add_right _ _
      · rw [z]; exact Nat.le_refl _
    exact I1.fpOk hle (I1.hok.fresh hle)
/-- either reading of what is walked -/
theorem pi_or {X : Cx} {tg iter : Expr} {w1 w2 : TI} (h1 : PI X tg iter w1) (h2 : PI X tg iter w2) : PI X tg iter (fun σ H R => w1 σ H R ∨ w2 σ H R) :=
  ⟨fun pins s σ H R I q => q.elim (h1.run pins s σ H R I) (h2.run pins s σ H R I)⟩
theorem pg_or {X : Cx} {tg : Expr} {g1 g2 : TG} (h1 : PG X tg g1) (h2 : PG X tg g2) : PG X tg (fun v σ H Q => g1 v σ H Q ∨ g2 v σ H Q) :=
  ⟨fun pins s σ H x v Q I r q => q.elim (h1.run pins s σ H x v Q I r) (h2.run pins s σ H x v Q I r)⟩
end OR

namespace OR
open PySem PySem.Spec PyProof.Rows L2
theorem pt_neverO {X : Cx} {e : Expr} : PT X e (fun _ _ _ => False) := ⟨fun _ _ _ _ _ _ h => h.elim⟩
/-! ### a line as it stands -/
theorem kSH : ¬ (("slope" : Str) = "height") := by decide +kernel
def lFl (a b : Int) : List (Str × V) := putF "height" (.int b) (putF "slope" (.int a) [])
theorem lFl_slope (a b : Int) : (lFl a b).lookup ("slope" : Str) = some (.int a) := by
  unfold lFl
  rw [lookup_putF, if_neg kSH, lookup_putF, if_pos rfl]
theorem lFl_height (a b : Int) : (lFl a b).lookup ("height" : Str) = some (.int b) := by
  unfold lFl
  rw [lookup_putF, if_pos rfl]
theorem lFl_no (a b : Int) {m : Str} (h1 : ¬ m = "height") (h2 : ¬ m = "slope") : (lFl a b).lookup m = none := by
  unfold lFl
  rw [lookup_putF, if_neg h1, lookup_putF, if_neg h2]
  all_goals rfl
def IsL (C : Addr) (H : Hp) (x : Addr) (a b : Int) : Prop := ∃ dx, H x = some (.ins C dx (lFl a b))
theorem IsL.same {C : Addr} {H H' : Hp} {x : Addr} {a b : Int} (h : IsL C H x a b) (s : Same H H') : IsL C H' x a b := by
  obtain ⟨dx, e⟩ := h
  exact ⟨dx, s _ _ e⟩
theorem IsL.frm {C : Addr} {H H' : Hp} {x p : Addr} {a b : Int} {n : Nat} (h : IsL C H x a b) (s : Frm p H H') (P : Pen H p n) : IsL C H' x a b := by
  obtain ⟨dx, e⟩ := h
  obtain ⟨c, ns, k, l, hp, _⟩ := P
  exact ⟨dx, s _ _ e (ne_of e hp (by intro z; cases z))⟩
theorem Same.frm {p : Addr} {H H' : Hp} (s : Same H H') : Frm p H H' := ⟨fun b o e _ => s b o e, fun c ⟨k, l, e⟩ => ⟨k, l, s _ _ e⟩⟩
theorem Pen.same {H H' : Hp} {p : Addr} {n : Nat} (P : Pen H p n) (s : Same H H') : Pen H' p n := by
  obtain ⟨c, ns, k, l, h1, h2, h⟩ := P
  exact ⟨c, ns, k, l, s _ _ h1, s _ _ h2, h⟩
/-- what the text says of the class Line -/
structure LTxt (K : PySem.W.Frag) (mg : Str → Option Value) (C : Addr) : Prop where
  cl : Cls K C
  nS : NoAttr K C "slope"
  nH : NoAttr K C "height"
  mgC : mg "Line" = some (.ref C)
  sf : PySem.W.selfFirst K C = true
  isi : SlX.SIsi K C
  kLL : PySem.W.kitOne K (.ref C) (.ref C) = some true
  kIL : PySem.W.kitOne K (.type "int") (.ref C) = some false
  zIsi : mg "isinstance" = none
  zInt : mg "int" = none
  zBool : mg "bool" = none
def spLInit (C : Addr) : Sp := fun vs H Q _ => ∃ (p dx : Addr) (a b : Int), vs = [.ref p, .int a, .int b] ∧ H p = some (.ins C dx []) ∧ ∀ H', H' p = some (.ins C dx (lFl a b)) → (∀ c o, H c = some o → c ≠ p → H' c = some o) → Q .non H'
def spIsInt : Sp := fun vs H Q _ => ∃ n, vs = [.int n] ∧ Q (.bl true) H
def spLNeg (C : Addr) : Sp := fun vs H Q _ => ∃ x a b, vs = [.ref x] ∧ IsL C H x a b ∧ ∀ y H', H y = none → IsL C H' y (-a) (-b) → Same H H' → Q (.ref y) H'
def spLAdd (C : Addr) : Sp := fun vs H Q _ => ∃ (x : Addr) (a b : Int), IsL C H x a b ∧ ((∃ (y : Addr) (c d : Int), vs = [.ref x, .ref y] ∧ IsL C H y c d ∧ ∀ z H', H z = none → IsL C H' z (a + c) (b + d) → Same H H' → Q (.ref z) H') ∨
  (∃ n : Int, vs = [.ref x, .int n] ∧ ∀ z H', H z = none → IsL C H' z a (b + n) → Same H H' → Q (.ref z) H'))
def spLSub (C : Addr) : Sp := fun vs H Q _ => ∃ (x : Addr) (a b : Int) (y : Addr) (c d : Int), vs = [.ref x, .ref y] ∧ IsL C H x a b ∧ IsL C H y c d ∧ ∀ z H', H z = none → IsL C H' z (a - c) (b - d) → Same H H' → Q (.ref z) H'
def spLCall (C : Addr) : Sp := fun vs H Q _ => ∃ (x : Addr) (a b t : Int), vs = [.ref x, .int t] ∧ IsL C H x a b ∧ CMul a t ∧ Q (.int (a * t + b)) H
section
variable {P : Program} {w : World} {K : PySem.W.Frag} {mg : Str → Option Value} {base : Heap}
theorem scLI : FnScope ["self", "slope", "height"] ["self", "slope", "height"] (defScope sLInit) := ⟨rfl, rfl, rfl, by decide +kernel, rfl, by decide +kernel, by decide +kernel⟩
theorem ok_linit {f C : Addr} {fd : FuncData} (F : Fun K "__init__" "Line.__init__" sLInit f fd) (T : LTxt K mg C) : FnOk P w K mg base CX0 1 f fd ["self", "slope", "height"] (spLInit C) := by
  refine F.ok scLI (fun vs H Q E h => ?_) (fun cdv A outer s H vs Q E hr h => ?_)
  · obtain ⟨p, dx, a, b, rfl, _⟩ := h
    rfl
  · obtain ⟨p, dx, a, b, rfl, hp, q⟩ := h
    refine ⟨_, pss_cons (ps_fld (pv 0) (pv 1) rfl) (pss_one (ps_fld (pv 0) (pv 2) rfl)), ?_⟩
    refine ⟨_, rfl, _, rfl, p, C, dx, [], rfl, hp, T.cl, T.nS, (by show 0 < 1000; decide), _, rfl, _, rfl, p, C, dx, _, rfl, upd_same, T.cl, T.nH, (by show 1 < 1000; decide), ?_⟩
    refine q _ upd_same fun c o e n => ?_
    rw [upd_ne n, upd_ne n]
    exact e
/-- Line(a, b) -/
def tMkL (C : Addr) (t : TA) : TE := fun σ H Q => t σ H fun vs H1 => ∃ a b, vs = [.int a, .int b] ∧ ∀ x H', H1 x = none → IsL C H' x a b → Same H1 H' → Q (.ref x) H'
end
/-- the class Line as it is made -/
structure LMk (P : Program) (w : World) (K : PySem.W.Frag) (mg : Str → Option Value) (base : Heap) (C : Addr) : Prop where
  T : LTxt K mg C
  made : ∃ f fd, Mk K C f ∧ FnOk P w K mg base CX0 1 f fd ["self", "slope", "height"] (spLInit C) ∧ Binds K fd ["self", "slope", "height"] []
theorem pe_mkL {X : Cx} {C : Addr} {j : Nat} {e : Expr} {es : List Expr} {t : TA} {p pos : Pos} (M : LMk X.prog X.w X.K X.mg X.base C) (hr : Room j X.A) (hj : 2 ≤ j) (hg : Gl X "Line") (ha : PA X (e :: es) t)
    (he : starEach (e :: es) X.env = (false, eval e X.env) :: starEach es X.env := by rfl) (hpl : (backTo pos (starEach es X.env)).any (·.1) = false := by rfl) : PE X (.Call (.Name "Line" p) (e :: es) [] pos) (tMkL C t) := by
  obtain ⟨f, fd, mk, F, hb⟩ := M.made
  refine ⟨fun pins s σ H Q I h => ?_⟩
  refine wpAny_Call_Name_kw (ld_glob I hg M.T.mgC ?_ (by decide))
  refine PySem.W.callWith_K (h₀ := X.base) I.ok.mod.kin mk.kp (thn (ha.run pos pins s σ H _ I h) fun us s1 ⟨vs, H1, I1, r, q⟩ => ⟨I1.kIn, ?_⟩) he hpl
  obtain ⟨a, b, rfl, q⟩ := q
  refine run_make mk F (hr.mono hj) hb .nil pass0 I1 r fun x dx nx ndx nex => ?_
  refine ⟨x, dx, a, b, rfl, upd_same, fun H' hx hs => ⟨rfl, q x H' nx ⟨dx, hx⟩ fun c o e => ?_⟩⟩
  have ncx : c ≠ x := ne_of_none e nx
  refine hs c o ?_ ncx
  rw [upd_ne ncx, upd_ne (ne_of_none e ndx)]
  exact e
section
variable {P : Program} {w : World} {K : PySem.W.Frag} {mg : Str → Option Value} {base : Heap}
theorem scLN : FnScope ["self"] ["self"] (defScope sLNeg) := ⟨rfl, rfl, rfl, by decide +kernel, rfl, by decide +kernel, by decide +kernel⟩
theorem ok_lneg {f C : Addr} {fd : FuncData} (F : Fun K "__neg__" "Line.__neg__" sLNeg f fd) (M : LMk P w K mg base C) : FnOk P w K mg base CX0 3 f fd ["self"] (spLNeg C) := by
  have T := M.T
  refine F.ok scLN (fun vs H Q E h => ?_) (fun cdv A outer s H vs Q E hr h => ?_)
  · obtain ⟨x, a, b, rfl, _⟩ := h
    rfl
  · obtain ⟨x, a, b, rfl, ⟨dx, hx⟩, q⟩ := h
    refine ⟨_, pss_one (ps_ret (pe_mkL M hr (by decide) (by rfl) (pa_cons (pe_un un_neg (pe_fld (pv 0) rfl)) (pa_cons (pe_un un_neg (pe_fld (pv 0) rfl)) pa_nil)))), ?_⟩
    exact ⟨_, rfl, x, C, dx, _, _, rfl, hx, T.cl, T.nS, lFl_slope a b, a, rfl, _, rfl, x, C, dx, _, _, rfl, hx, T.cl, T.nH, lFl_height a b, b, rfl, -a, -b, rfl, q⟩
theorem scLC : FnScope ["line", "x"] ["line", "x"] (defScope sVal) := ⟨rfl, rfl, rfl, by decide +kernel, rfl, by decide +kernel, by decide +kernel⟩
theorem ok_lval {f C : Addr} {fd : FuncData} (F : Fun K "value_at" "value_at" sVal f fd) (T : LTxt K mg C) : FnOk P w K mg base CX0 1 f fd ["line", "x"] (spLCall C) := by
  refine F.ok scLC (fun vs H Q E h => ?_) (fun cdv A outer s H vs Q E hr h => ?_)
  · obtain ⟨x, a, b, t, rfl, _⟩ := h
    rfl
  · obtain ⟨x, a, b, t, rfl, ⟨dx, hx⟩, hm, q⟩ := h
    refine ⟨_, pss_one (ps_ret (pe_op op_add (pe_op op_mul (pe_fld (pv 0) rfl) (pv 1)) (pe_fld (pv 0) rfl))), ?_⟩
    exact ⟨_, rfl, x, C, dx, _, _, rfl, hx, T.cl, T.nS, lFl_slope a b, _, rfl, a, t, rfl, rfl, hm, _, rfl, x, C, dx, _, _, rfl, hx, T.cl, T.nH, lFl_height a b, _, _, rfl, rfl, q⟩
theorem scLK : FnScope ["self", "x"] ["self", "x"] (defScope sLCall) := ⟨rfl, rfl, rfl, by decide +kernel, rfl, by decide +kernel, by decide +kernel⟩
theorem ok_lcall {f C : Addr} {fd : FuncData} (F : Fun K "__call__" "Line.__call__" sLCall f fd) (T : LTxt K mg C) : FnOk P w K mg base CX0 1 f fd ["self", "x"] (spLCall C) := by
  refine F.ok scLK (fun vs H Q E h => ?_) (fun cdv A outer s H vs Q E hr h => ?_)
  · obtain ⟨x, a, b, t, rfl, _⟩ := h
    rfl
  · obtain ⟨x, a, b, t, rfl, ⟨dx, hx⟩, hm, q⟩ := h
    refine ⟨_, pss_one (ps_ret (pe_op op_add (pe_op op_mul (pe_fld (pv 0) rfl) (pv 1)) (pe_fld (pv 0) rfl))), ?_⟩
    exact ⟨_, rfl, x, C, dx, _, _, rfl, hx, T.cl, T.nS, lFl_slope a b, _, rfl, a, t, rfl, rfl, hm, _, rfl, x, C, dx, _, _, rfl, hx, T.cl, T.nH, lFl_height a b, _, _, rfl, rfl, q⟩
theorem tyL {C : Addr} (T : LTxt K mg C) {H : Hp} {x dx : Addr} {fs : List (Str × V)} (hx : H x = some (.ins C dx fs)) : TyX K H (.ref x) (.ref C) := .base (.ins hx T.cl T.isi.ca T.isi.cn T.isi.ct T.isi.cm)
theorem scII : FnScope ["value"] ["value"] (defScope sIsInt) := ⟨rfl, rfl, rfl, by decide +kernel, rfl, by decide +kernel, by decide +kernel⟩
theorem boot_isi : bootBuiltins ("isinstance" : Str) = some (.builtin "isinstance") := by decide +kernel
theorem boot_intT : bootBuiltins ("int" : Str) = some (.type "int") := by decide +kernel
theorem boot_boolT : bootBuiltins ("bool" : Str) = some (.type "bool") := by decide +kernel
theorem ok_isint {f C : Addr} {fd : FuncData} (F : Fun K "is_integer" "is_integer" sIsInt f fd) (T : LTxt K mg C) : FnOk P w K mg base CX0 1 f fd ["value"] spIsInt := by
  refine F.ok scII (fun vs H Q E h => ?_) (fun cdv A outer s H vs Q E hr h => ?_)
  · obtain ⟨n, rfl, _⟩ := h
    rfl
  · obtain ⟨n, rfl, q⟩ := h
    refine ⟨_, pss_one (ps_ret (pe_and (pe_callB call_isi (by rfl) T.zIsi boot_isi (pa_cons (pv 0) (pa_cons (pe_bltn (v := .ty "int") (by rfl) T.zInt boot_intT rfl) pa_nil)))
      (pe_one (pe_not (pe_callB call_isi (by rfl) T.zIsi boot_isi (pa_cons (pv 0) (pa_cons (pe_bltn (v := .ty "bool") (by rfl) T.zBool boot_boolT rfl) pa_nil))))))), ?_⟩
    refine ⟨_, rfl, .int n, .ty "int", _, _, true, rfl, .ty "int", .base (.int n), kit_ty (by decide +kernel), true, rfl, iteT ⟨_, rfl, .int n, .ty "bool", _, _, false, rfl, .ty "bool", .base (.int n), kit_ty (by decide +kernel), false, rfl, q⟩⟩
theorem scLA : FnScope ["self", "other"] ["self", "other"] (defScope sLAdd) := ⟨rfl, rfl, rfl, by decide +kernel, rfl, by decide +kernel, by decide +kernel⟩
theorem ok_ladd {f C : Addr} {fd : FuncData} (F : Fun K "__add__" "Line.__add__" sLAdd f fd) (M : LMk P w K mg base C) (D : Cl P w K mg base 1 "is_integer" ["value"] spIsInt) : FnOk P w K mg base CX0 3 f fd ["self", "other"] (spLAdd C) := by
  have T := M.T
  refine F.ok scLA (fun vs H Q E h => ?_) (fun cdv A outer s H vs Q E hr h => ?_)
  · obtain ⟨x, a, b, _, ⟨y, c, d, rfl, _⟩ | ⟨n, rfl, _⟩⟩ := h <;> rfl
  · refine ⟨_, pss_cons (ps_if (pt_val (pe_callB call_isi (by rfl) T.zIsi boot_isi (pa_cons (pv 1) (pa_cons (pe_glob (v := .ref C) (by rfl) T.mgC rfl) pa_nil))))
        (pss_one (ps_ret (pe_mkL M hr (by decide) (by rfl) (pa_cons (pe_op op_add (pe_fld (pv 0) rfl) (pe_fld (pv 1) rfl)) (pa_cons (pe_op op_add (pe_fld (pv 0) rfl) (pe_fld (pv 1) rfl)) pa_nil))))) pss_nil)
      (pss_cons (ps_if (pt_val (pe_cl D hr (by decide) (by rfl) (pa_cons (pv 1) pa_nil)))
        (pss_one (ps_ret (pe_mkL M hr (by decide) (by rfl) (pa_cons (pe_fld (pv 0) rfl) (pa_cons (pe_op op_add (pe_fld (pv 0) rfl) (pv 1)) pa_nil))))) pss_nil)
      (pss_one ps_never)), ?_⟩
    obtain ⟨x, a, b, ⟨dx, hx⟩, ⟨y, c, d, rfl, ⟨dy, hy⟩, q⟩ | ⟨n, rfl, q⟩⟩ := h
    · refine ⟨_, rfl, .ref y, .ref C, _, _, true, rfl, .own C, tyL T hy, T.kLL, true, rfl, iteT ?_⟩
      exact ⟨_, rfl, x, C, dx, _, _, rfl, hx, T.cl, T.nS, lFl_slope a b, _, rfl, y, C, dy, _, _, rfl, hy, T.cl, T.nS, lFl_slope c d, _, _, rfl, rfl, _, rfl, x, C, dx, _, _, rfl, hx, T.cl, T.nH, lFl_height a b, _, rfl, y, C, dy, _, _, rfl, hy, T.cl, T.nH, lFl_height c d, _, _, rfl, rfl, _, _, rfl, q⟩
    · refine ⟨_, rfl, .int n, .ref C, _, _, false, rfl, .own C, .base (.int n), T.kIL, false, rfl, iteF ?_⟩
      refine ⟨_, rfl, n, rfl, true, rfl, iteT ?_⟩
      exact ⟨_, rfl, x, C, dx, _, _, rfl, hx, T.cl, T.nS, lFl_slope a b, _, rfl, x, C, dx, _, _, rfl, hx, T.cl, T.nH, lFl_height a b, _, rfl, _, _, rfl, rfl, _, _, rfl, q⟩
theorem scLS : FnScope ["self", "other"] ["self", "other"] (defScope sLSub) := ⟨rfl, rfl, rfl, by decide +kernel, rfl, by decide +kernel, by decide +kernel⟩
theorem ok_lsub {f C : Addr} {fd : FuncData} (F : Fun K "__sub__" "Line.__sub__" sLSub f fd) (M : LMk P w K mg base C) (A1 : Md P w K mg base 3 C (PySem.dunder (Operator.info .Add).2) (spLAdd C)) (N1 : Md P w K mg base 3 C "__neg__" (spLNeg C)) : FnOk P w K mg base CX0 4 f fd ["self", "other"] (spLSub C) := by
  have T := M.T
  refine F.ok scLS (fun vs H Q E h => ?_) (fun cdv A outer s H vs Q E hr h => ?_)
  · obtain ⟨x, a, b, y, c, d, rfl, _⟩ := h
    rfl
  · obtain ⟨x, a, b, y, c, d, rfl, ⟨dx, hx⟩, ⟨dy, hy⟩, q⟩ := h
    refine ⟨_, pss_cons (ps_if (PW.pt (pw_or (pt_val (pe_callB call_isi (by rfl) T.zIsi boot_isi (pa_cons (pv 1) (pa_cons (pe_glob (v := .ref C) (by rfl) T.mgC rfl) pa_nil)))) (pw_or1 pt_neverO)))
        (pss_one (ps_ret (pe_op (op_binS A1 T.sf hr) (pv 0) (pe_un (un_negO N1 hr) (pv 1))))) pss_nil)
      (pss_one ps_never), ?_⟩
    refine ⟨_, rfl, .ref y, .ref C, _, _, true, rfl, .own C, tyL T hy, T.kLL, true, rfl, iteT (iteT ?_)⟩
    refine ⟨_, rfl, _, rfl, y, dy, _, rfl, hy, y, c, d, rfl, ⟨dy, hy⟩, fun z H1 nz hz s1 => ?_⟩
    obtain ⟨dz, hz'⟩ := hz
    refine ⟨x, z, dx, dz, _, _, rfl, rfl, s1 _ _ hx, hz', x, a, b, ⟨dx, s1 _ _ hx⟩, .inl ⟨z, -c, -d, rfl, ⟨dz, hz'⟩, fun z2 H2 nz2 hz2 s2 => ?_⟩⟩
    exact q z2 H2 (s1.free nz2) hz2 (s1.trans s2)
end
end OR

namespace OR
open PySem PySem.Spec PyProof.Rows L2
/-! ### names of the text, whole numbers and places -/
def lastP : Int := 10 ^ 30
def placeB (n : Int) : Bool := decide (0 ≤ n) && decide (n ≤ lastP)
structure NTxt (mg : Str → Option Value) : Prop where
  zIsi : mg "isinstance" = none
  zInt : mg "int" = none
  zBool : mg "bool" = none
  zTup : mg "tuple" = none
  zList : mg "list" = none
  zLen : mg "len" = none
  zSort : mg "sorted" = none
  zEnum : mg "enumerate" = none
  last : ∃ t, mg "LAST_PLACE" = some (.int lastP t)
theorem bt_isi : bootBuiltins ("isinstance" : Str) = some (.builtin "isinstance") := by decide +kernel
theorem bt_int : bootBuiltins ("int" : Str) = some (.type "int") := by decide +kernel
theorem bt_bool : bootBuiltins ("bool" : Str) = some (.type "bool") := by decide +kernel
theorem bt_tup : bootBuiltins ("tuple" : Str) = some (.type "tuple") := by decide +kernel
theorem bt_list : bootBuiltins ("list" : Str) = some (.type "list") := by decide +kernel
theorem bt_max : bootBuiltins ("max" : Str) = some (.builtin "max") := by decide +kernel
theorem bt_min : bootBuiltins ("min" : Str) = some (.builtin "min") := by decide +kernel
theorem bt_sorted : bootBuiltins ("sorted" : Str) = some (.builtin "sorted") := by decide +kernel
/-- any value whose type is known -/
def spIsIntG (K : PySem.W.Frag) : Sp := fun vs H Q _ => ∃ (x : V) (T : String) (b1 b2 : Bool), vs = [x] ∧ TyX K H x (.type T) ∧ kitB T "int" = some b1 ∧ kitB T "bool" = some b2 ∧ Q (.bl (b1 && !b2)) H
def spIsPlace (K : PySem.W.Frag) : Sp := fun vs H Q _ => ∃ x, vs = [x] ∧ ((∃ n, x = .int n ∧ Q (.bl (placeB n)) H) ∨ ∃ (T : String) (b1 b2 : Bool), TyX K H x (.type T) ∧ kitB T "int" = some b1 ∧ kitB T "bool" = some b2 ∧ (b1 && !b2) = false ∧ Q (.bl false) H)
section
variable {P : Program} {w : World} {K : PySem.W.Frag} {mg : Str → Option Value} {base : Heap}
theorem scIsI : FnScope ["value"] ["value"] (defScope sIsInt) := ⟨rfl, rfl, rfl, by decide +kernel, rfl, by decide +kernel, by decide +kernel⟩
theorem ok_isintG {f : Addr} {fd : FuncData} (F : Fun K "is_integer" "is_integer" sIsInt f fd) (T : NTxt mg) : FnOk P w K mg base CX0 1 f fd ["value"] (spIsIntG K) := by
  refine F.ok scIsI (fun vs H Q E h => ?_) (fun cdv A outer s H vs Q E hr h => ?_)
  · obtain ⟨x, _, _, _, rfl, _⟩ := h
    rfl
  · obtain ⟨x, ty, b1, b2, rfl, hT, h1, h2, q⟩ := h
    refine ⟨_, pss_one (ps_ret (pe_and (pe_callB call_isi (by rfl) T.zIsi bt_isi (pa_cons (pv 0) (pa_cons (pe_bltn (v := .ty "int") (by rfl) T.zInt bt_int rfl) pa_nil)))
      (pe_one (pe_not (pe_callB call_isi (by rfl) T.zIsi bt_isi (pa_cons (pv 0) (pa_cons (pe_bltn (v := .ty "bool") (by rfl) T.zBool bt_bool rfl) pa_nil))))))), ?_⟩
    refine ⟨_, rfl, x, .ty "int", _, _, b1, rfl, .ty "int", hT, kit_ty h1, b1, rfl, ?_⟩
    cases b1 with
    | true => exact iteT ⟨_, rfl, x, .ty "bool", _, _, b2, rfl, .ty "bool", hT, kit_ty h2, b2, rfl, q⟩
    | false => exact iteF q
theorem scIsP : FnScope ["value"] ["value"] (defScope sIsPlace) := ⟨rfl, rfl, rfl, by decide +kernel, rfl, by decide +kernel, by decide +kernel⟩
theorem ok_isplace {f : Addr} {fd : FuncData} (F : Fun K "is_place" "is_place" sIsPlace f fd) (T : NTxt mg) (I : Cl P w K mg base 1 "is_integer" ["value"] (spIsIntG K)) : FnOk P w K mg base CX0 2 f fd ["value"] (spIsPlace K) := by
  refine F.ok scIsP (fun vs H Q E h => ?_) (fun cdv A outer s H vs Q E hr h => ?_)
  · obtain ⟨x, rfl, _⟩ := h
    rfl
  · obtain ⟨x, rfl, h⟩ := h
    obtain ⟨tl, hl⟩ := T.last
    refine ⟨_, pss_one (ps_ret (pe_and (pe_cl I hr (by decide) (by rfl) (pa_cons (pv 0) pa_nil)) (pe_one (pe_chain op_le op_le pe_int (pv 0) (pe_glob (v := .int lastP) (by rfl) hl ⟨tl, rfl⟩))))), ?_⟩
    rcases h with ⟨n, rfl, q⟩ | ⟨ty, b1, b2, hT, h1, h2, hb, q⟩
    · refine ⟨_, rfl, .int n, "int", true, false, rfl, .base (.int n), by decide +kernel, by decide +kernel, true, rfl, iteT ?_⟩
      refine ⟨_, rfl, _, _, rfl, rfl, _, rfl, ?_⟩
      unfold placeB at q
      cases e : decide ((0 : Int) ≤ n) with
      | true =>
        rw [e] at q
        exact iteT ⟨_, _, rfl, rfl, q⟩
      | false =>
        rw [e] at q
        exact iteF q
    · exact ⟨_, rfl, x, ty, b1, b2, rfl, hT, h1, h2, _, rfl, by rw [hb]; exact iteF q⟩
end
end OR

namespace OR
open PySem PySem.Spec PyProof.Rows L2
open TL (tl numL)
structure Bd (mg : Str → Option Value) : Prop where
  range : mg "range" = none
  min : mg "min" = none
  max : mg "max" = none
  int : mg "int" = none
  len : mg "len" = none
  list : mg "list" = none
  set : mg "set" = none
  sorted : mg "sorted" = none
def ch (c : Nat) : Str := ⟨#[c]⟩
theorem frmS {p : Addr} {H H' : Hp} (s : Same H H') : Frm p H H' := ⟨fun b o e _ => s b o e, fun c ⟨k, l, e⟩ => ⟨k, l, s _ _ e⟩⟩
theorem len_app (a b : Str) : (a ++ b).length = a.length + b.length := by rw [TL.len_tl, TL.len_tl, TL.len_tl, TL.tl_append, List.length_append]
def letters : Str := "abcdefghijklmnopqrstuvwxyz"
theorem let_at {j : Nat} (h : j < 26) : (tl letters)[j]? = some (97 + j) := by
  have e : tl letters = (List.range 26).map (· + 97) := by decide +kernel
  rw [e, List.getElem?_map, List.getElem?_range h]
  show some (j + 97) = _
  rw [Nat.add_comm]
theorem let_az {c : Nat} (h : c ∈ tl letters) : 97 ≤ c ∧ c ≤ 122 := by
  have e : tl letters = (List.range 26).map (· + 97) := by decide +kernel
  rw [e] at h
  obtain ⟨j, hj, rfl⟩ := List.mem_map.mp h
  have := List.mem_range.mp hj
  omega
/-- the letter of the k-th word -/
def own (front step : Int) (k : Nat) : Nat := 97 + ((front + step * (k : Int)) % 26).toNat
def stepsL : List Int := [1, 3, 5, 7, 9, 11, 15, 17]
theorem own_ne {front step : Int} {k m : Nat} (h0 : 0 ≤ front) (hs : step ∈ stepsL) (hk : k < m) (hm : m < 4) : own front step k ≠ own front step m := by
  unfold own
  unfold stepsL at hs
  simp only [List.mem_cons, List.not_mem_nil, or_false] at hs
  rcases hs with e | e | e | e | e | e | e | e <;> subst e <;> omega
theorem same_lay {H : Hp} {q : Addr} {o : HO} (h : H q = none) : Same H (upd H q o) := fun b x e => by rw [upd_ne (ne_of_none e h)]; exact e
theorem same_upd {H H' : Hp} {b : Addr} {u : HO} (s : Same H H') (h : H b = none) : Same H (upd H' b u) := fun c v e => by rw [upd_ne (ne_of_none e h)]; exact s c v e
section
variable {P : Program} {w : World} {K : PySem.W.Frag} {mg : Str → Option Value} {base : Heap}
theorem scWd : FnScope ["_law_pen_here", "_law_many", "_law_letters", "_law_stem", "_law_at", "_law_front", "_law_step", "_law_own", "_law_k", "_law_letter"] ["_law_pen_here", "_law_many"] (defScope sWords) := ⟨rfl, rfl, rfl, by decide +kernel, rfl, by decide +kernel, by decide +kernel⟩
end
theorem small1000 {n : Nat} (h : n ≤ 1000) : n < sizeLine := Nat.lt_of_le_of_lt h (by decide)
def spPickS : Sp := fun vs H Q _ => ∃ (p : Addr) (s : Str) (n : Nat), vs = [.ref p, .str s] ∧ 0 < s.length ∧ s.length ≤ 1000 ∧ Pen H p n ∧ n ≤ 1000000 ∧ ∀ (c : Nat) (H' : Hp), c ∈ tl s → Pen H' p (n + 1) → Frm p H H' → Q (.str (ch c)) H'
structure Word (s : Str) : Prop where
  pos : 1 ≤ s.length
  len : s.length ≤ 8
  az : ∀ c ∈ tl s, 97 ≤ c ∧ c ≤ 122
def spWords : Sp := fun vs H Q _ => ∃ (p : Addr) (m n : Nat), vs = [.ref p, .int (m : Nat)] ∧ m ≤ 4 ∧ Pen H p n ∧ n ≤ 800000 ∧
  ∀ (a : Addr) (ws : List Str) (H' : Hp), H a = none → H' a = some (.lst (ws.map V.str)) → ws.length = m → (∀ w ∈ ws, Word w) → ws.Pairwise (· ≠ ·) → Pen H' p (n + 20) → Frm p H H' → Q (.ref a) H'
theorem sum_le : ∀ (ws : List Str) (k : Nat), (∀ w ∈ ws, w.length ≤ k) → (ws.map (·.length)).sum ≤ ws.length * k
  | [], _, _ => by simp
  | w :: r, k, h => by
    have h1 := sum_le r k fun x hx => h x (List.mem_cons_of_mem _ hx)
    have h2 := h w List.mem_cons_self
    rw [List.map_cons, List.sum_cons, List.length_cons, Nat.succ_mul]
    omega
theorem sz1 {n : Nat} (h : n ≤ 20000) : n ≤ sizeLine := Nat.le_trans h (by decide)
theorem tl_join0 : ∀ cs : List Nat, tl (Txt.join ("" : Str) (cs.map ch)) = cs
  | [] => rfl
  | [c] => by rw [TL.join_eq]; rfl
  | c :: d :: r => by
    have ih := tl_join0 (d :: r)
    rw [TL.join_eq] at ih ⊢
    show tl ((ch c ++ ("" : Str)) ++ Str.join ("" : Str) ((d :: r).map ch)) = _
    rw [TL.tl_append, TL.tl_append, ih]
    rfl
section
variable {P : Program} {w : World} {K : PySem.W.Frag} {mg : Str → Option Value} {base : Heap}
abbrev wN : List Str := ["_law_pen_here", "_law_many", "_law_letters", "_law_stem", "_law_at", "_law_front", "_law_step", "_law_own", "_law_k", "_law_letter"]
end
def wordAt (stem : Str) (at_ : Nat) (c : Nat) : Str := (cutS stem none (some (at_ : Int)) ++ ch c) ++ cutS stem (some (at_ : Int)) none
theorem tl_ch (c : Nat) : tl (ch c) = [c] := rfl
theorem tl_cutA (z : Str) (k : Nat) : tl (cutS z none (some (k : Int))) = (tl z).take k := by
  show ((z.cps.toList.drop (HT.sIx z.length 0 none)).take (HT.sIx z.length z.length (some (k : Int)) - HT.sIx z.length 0 none)).toArray.toList = z.cps.toList.take k
  rw [HT.sIx_none, HT.sIx_nat, List.drop_zero, Nat.sub_zero]
  have hl : z.length = z.cps.toList.length := by rw [Array.length_toList]; rfl
  rcases Nat.le_total k z.length with h | h
  · rw [Nat.min_eq_left h]
  · rw [Nat.min_eq_right h, List.take_of_length_le (by rw [hl]; exact Nat.le_refl _), List.take_of_length_le (by rw [← hl]; exact h)]
theorem tl_cutB (z : Str) (k : Nat) : tl (cutS z (some (k : Int)) none) = (tl z).drop k := by
  show ((z.cps.toList.drop (HT.sIx z.length 0 (some (k : Int)))).take (HT.sIx z.length z.length none - HT.sIx z.length 0 (some (k : Int)))).toArray.toList = z.cps.toList.drop k
  rw [HT.sIx_none, HT.sIx_nat]
  have hl : z.length = z.cps.toList.length := by rw [Array.length_toList]; rfl
  rcases Nat.le_total k z.length with h | h
  · rw [Nat.min_eq_left h, List.take_of_length_le (by rw [List.length_drop, hl]; exact Nat.le_refl _)]
  · rw [Nat.min_eq_right h, List.drop_of_length_le (by rw [hl]; exact Nat.le_refl _), List.drop_of_length_le (by rw [← hl]; exact h), List.take_nil]
theorem tl_word (stem : Str) (a c : Nat) : tl (wordAt stem a c) = (tl stem).take a ++ c :: (tl stem).drop a := by
  unfold wordAt
  rw [TL.tl_append, TL.tl_append, tl_cutA, tl_cutB, tl_ch, List.append_assoc]
  rfl
theorem word_inj {stem : Str} {a c d : Nat} (h : wordAt stem a c = wordAt stem a d) : c = d := by
  have := congrArg tl h
  rw [tl_word, tl_word] at this
  exact (List.cons.inj (List.append_cancel_left this)).1
theorem word_ok {stem : Str} {a c : Nat} (hl : stem.length ≤ 7) (hs : ∀ x ∈ tl stem, 97 ≤ x ∧ x ≤ 122) (hc : 97 ≤ c ∧ c ≤ 122) : Word (wordAt stem a c) := by
  have len : (wordAt stem a c).length = stem.length + 1 := by
    rw [TL.len_tl, tl_word, TL.len_tl, List.length_append, List.length_cons]
    have := congrArg List.length (List.take_append_drop a (tl stem))
    rw [List.length_append] at this
    omega
  refine ⟨by omega, by omega, fun x hx => ?_⟩
  rw [tl_word] at hx
  rcases List.mem_append.mp hx with h | h
  · exact hs x (List.mem_of_mem_take h)
  · rcases List.mem_cons.mp h with h | h
    · rw [h]; exact hc
    · exact hs x (List.mem_of_mem_drop h)
theorem yesT {σ : L2.St} {H : Hp} {A B : Hp → Prop} (h : A H) : tYes σ H (fun b H3 => if b = true then A H3 else B H3) := by
  show if true = true then A H else B H
  rw [if_pos rfl]
  exact h
theorem Frm.putNew {p d : Addr} {H H2 : Hp} {xs : List V} {o : HO} (f : Frm p H H2) (nd : H d = none) (h : H2 d = some (.lst xs)) : Frm p H (upd H2 d o) := ⟨fun b u e nb => by rw [upd_ne (ne_of_none e nd)]; exact f _ _ e nb, fun c hc => by
  obtain ⟨k, l', e⟩ := f.ce c hc
  exact ⟨k, l', by rw [upd_ne (ne_of e h (by intro z; cases z))]; exact e⟩⟩
theorem Pen.same' {H H' : Hp} {p : Addr} {n : Nat} (P : Pen H p n) (s : Same H H') : Pen H' p n := by
  obtain ⟨c, ns, k, l, h1, h2, h⟩ := P
  exact ⟨c, ns, k, l, s _ _ h1, s _ _ h2, h⟩
section
variable {P : Program} {w : World} {K : PySem.W.Frag} {mg : Str → Option Value} {base : Heap}
theorem ok_words {f : Addr} {fd : FuncData} (F : Fun K "_law_words" "_law_words" sWords f fd) (B : Bd mg) (D : Cl P w K mg base 1 "_law_draw" ["_law_pen_here", "_law_many"] spDraw) (PI : Cl P w K mg base 2 "_law_pick" ["_law_pen_here", "_law_items"] (spPick K)) (PS : Cl P w K mg base 2 "_law_pick" ["_law_pen_here", "_law_items"] spPickS) :
    FnOk P w K mg base CX0 3 f fd ["_law_pen_here", "_law_many"] spWords := by
  refine F.ok scWd (fun vs H Q E h => ?_) (fun cdv A outer s H vs Q E hr h => ?_)
  · obtain ⟨p, m, n, rfl, _⟩ := h
    rfl
  · obtain ⟨p, m, n, rfl, hm, hP, hn, q⟩ := h
    have nd := scWd.nd
    refine ⟨_, pss_cons (ps_set (i := 2) nd rfl (.inr rfl) pe_str)
      (pss_cons (ps_set (i := 3) nd rfl (.inr rfl) (pe_join pe_str
        (pe_lc (own := [("_law_k", 8)]) (g := gName 8) (tt := tYes) rfl nd (pi_range1 (by rfl) B.range (pa_cons (pe_cl D hr (by decide) (by rfl) (pa_cons (pv 0) (pa_cons pe_int pa_nil))) pa_nil)) (blkOk_by (N := wN) (sc := defScope sWords) (by decide +kernel))
          (fun _ _ _ _ _ => pg_name (i := 8) nd rfl (.inl rfl)) (fun _ _ _ _ _ => pts_nil) (fun _ _ _ _ _ => pe_cl PS hr (by decide) (by rfl) (pa_cons (pv 0) (pa_cons (pv 2) pa_nil))))))
      (pss_cons (ps_asg (pe_tup (pa_cons (pe_cl D hr (by decide) (by rfl) (pa_cons (pv 0) (pa_cons (pe_op op_add (pe_callB call_len_str (by rfl) B.len PySem.boot_len (pa_cons (pv 3) pa_nil)) pe_int) pa_nil)))
          (pa_cons (pe_cl D hr (by decide) (by rfl) (pa_cons (pv 0) (pa_cons pe_int pa_nil))) (pa_cons (pe_cl PI hr (by decide) (by rfl) (pa_cons (pv 0) (pa_cons (pe_lst (pa_cons pe_int (pa_cons pe_int (pa_cons pe_int (pa_cons pe_int (pa_cons pe_int (pa_cons pe_int (pa_cons pe_int (pa_cons pe_int pa_nil))))))))) pa_nil))) pa_nil))))
          (pg_tup rfl (pgs_cons (pg_name (i := 4) nd rfl (.inr rfl)) (pgs_cons (pg_name (i := 5) nd rfl (.inr rfl)) (pgs_cons (pg_name (i := 6) nd rfl (.inr rfl)) pgs_nil)))))
      (pss_cons (ps_setLc (i := 7) (own := [("_law_k", 8)]) (g := gName 8) (tt := tYes) rfl nd rfl rfl (sw_true rfl rfl rfl (by decide +kernel)) (pi_range1 (by rfl) B.range (pa_cons (pv 1) pa_nil)) (blkOk_by (N := wN) (sc := defScope sWords) (by decide +kernel))
          (fun _ _ _ _ _ => pg_name (i := 8) nd rfl (.inl rfl)) (fun _ _ _ _ _ => pts_nil) (fun _ _ _ _ _ => pe_ix ix_str (pv 2) (pe_op op_mod (pe_callTy call_int1 (by rfl) B.int bt_int (pa_cons (pe_op op_add (pv 5) (pe_op op_mul (pv 6) (pv 8))) pa_nil)) pe_int) (fun _ _ => rfl)))
      (pss_one (ps_ret (pe_lc (own := [("_law_letter", 9)]) (g := gName 9) (tt := tYes) rfl nd (pi_list (pv 7)) (blkOk_by (N := wN) (sc := defScope sWords) (by decide +kernel))
          (fun _ _ _ _ _ => pg_name (i := 9) nd rfl (.inl rfl)) (fun _ _ _ _ _ => pts_nil) (fun _ _ _ _ _ => pe_op op_add_str (pe_op op_add_str (pe_slice sl_str (pv 3) po_none (po_some (pv 4))) (pv 9)) (pe_slice sl_str (pv 3) (po_some (pv 4)) po_none)))))))), ?_⟩
    obtain ⟨c0, hc0, hcn⟩ := hP.cells
    refine ⟨⟨_, rfl⟩, _, rfl, p, 8, n, rfl, by decide, by decide, hP, by omega, fun r H1 r0 r1 P1 F1 => ?_⟩
    have hc1 := F1.ce c0 hc0
    refine ⟨r, rfl, by omega, by omega, fun d hd => ?_⟩
    have ncd : c0 ≠ d := fun e => by
      cases hx : H c0 with
      | none => exact hcn hx
      | some o =>
        obtain ⟨kvs, hp⟩ := hP.dict
        obtain ⟨c1, ns1, k1, l1, hp1, hcs, _⟩ := hP
        obtain rfl := hc0.inj hp1
        have := F1 _ _ hcs (ne_of hcs hp1 (by intro z; cases z))
        rw [e, hd] at this
        cases this
    refine lc_range (lo := 0) (n := r.toNat) (fun i G => ∃ cs : List Nat, cs.length = i ∧ (∀ c ∈ cs, c ∈ tl letters) ∧ G d = some (.lst ((cs.map ch).map V.str)) ∧ Pen G p (n + 1 + i) ∧ Frm p H1 G)
      ⟨[], rfl, (fun _ z => nomatch z), upd_same, P1.new hd, Frm.new hd⟩ ?_ ?_
    · rintro i G hi ⟨cs, lc, hcs, hD, PG, FG⟩
      refine ⟨rfl, yesT ?_⟩
      refine ⟨_, rfl, _, rfl, p, letters, _, rfl, by decide, by decide, PG, by omega, fun c G2 hc P2 F2 => ?_⟩
      have hD2 := F2.lst PG hD
      have FF := FG.trans F2
      refine ⟨_, hD2, small1000 (by rw [List.length_map, List.length_map]; omega), cs ++ [c], by rw [List.length_append, lc]; rfl, fun x hx => ?_, ?_, (P2.put (FF.ce c0 hc1) hD2 ncd).mono (by omega), FF.putNew hd hD2⟩
      · rcases List.mem_append.mp hx with k | k
        · exact hcs x k
        · rw [List.mem_singleton.mp k]; exact hc
      · rw [upd_same, List.map_append, List.map_append]
        rfl
    · rintro G ⟨cs, lc, hcs, hD, PG, FG⟩
      have l0 : ("" : Str).length = 0 := by decide
      refine ⟨_, d, cs.map ch, rfl, rfl, .inl (.inl (.inl hD)), ?_, ?_⟩
      · have := sum_le (cs.map ch) 1 (fun w hw => by
          obtain ⟨c, _, rfl⟩ := List.mem_map.mp hw
          exact Nat.le_refl 1)
        rw [List.length_map] at this ⊢
        rw [l0]
        omega
      generalize hstem : Txt.join (Str.ofString "") (cs.map ch) = stem
      have tls : tl stem = cs := by rw [← hstem]; exact tl_join0 cs
      have lens : stem.length = cs.length := by rw [TL.len_tl, tls]
      have l7 : stem.length ≤ 7 := by omega
      have azs : ∀ x ∈ tl stem, 97 ≤ x ∧ x ≤ 122 := fun x hx => let_az (hcs x (by rw [← tls]; exact hx))
      have FH := F1.trans FG
      clear hD hd hstem tls FG
      refine ⟨_, rfl, _, rfl, stem, rfl, sz1 (by omega), _, _, rfl, rfl, p, _, _, rfl, by omega, ?_, PG, by omega, fun a0 H2 a00 a01 P2 F2 => ?_⟩
      · exact Nat.lt_of_le_of_lt (show (((stem.length : Nat) : Int) + 1).natAbs ≤ 20 by omega) (by decide)
      obtain ⟨a, rfl⟩ : ∃ a : Nat, a0 = (a : Int) := ⟨a0.toNat, by omega⟩
      refine ⟨_, rfl, p, 26, _, rfl, by decide, by decide, P2, by omega, fun front H3 f0 _ P3 F3 => ?_⟩
      refine ⟨_, rfl, by show 8 ≤ sizeLine; decide, fun l nl => ?_⟩
      refine ⟨p, l, stepsL.map V.int, _, rfl, .inl (.inl upd_same), by show 0 < 8; decide, by show 8 ≤ 1000; decide, P3.new nl, by omega, fun v H4 hv P4 F4 => ?_⟩
      obtain ⟨step, hs, rfl⟩ := List.mem_map.mp hv
      refine ⟨by show 3 ≤ sizeLine; decide, fun t nt => ?_⟩
      refine ⟨t, _, rfl, .inl (.inl upd_same), rfl, _, _, rfl, _, _, rfl, _, _, rfl, rfl, ?_⟩
      have st := same_lay (o := .tup [.int (a : Int), .int front, .int step]) nt
      have P5 := P4.same' st
      have FH5 := (((FH.trans F2).trans F3).trans ((Frm.new (o := .lst (stepsL.map V.int)) nl).trans F4)).trans (frmS st)
      generalize upd H4 t (.tup [.int (a : Int), .int front, .int step]) = H5 at P5 FH5 st
      clear st P4 F4 nt hv P3 F3 nl P2 F2 FH
      have sb : -200 ≤ step ∧ step ≤ 200 := by
        unfold stepsL at hs
        simp only [List.mem_cons, List.not_mem_nil, or_false] at hs
        omega
      -- the own letters
      refine ⟨_, rfl, m, rfl, by omega, by omega, fun d2 hd2 => lc_range (lo := 0) (n := ((m : Nat) : Int).toNat) (fun i G => G d2 = some (.lst (((List.range i).map fun k => ch (own front step k)).map V.str)) ∧ Same H5 G) ⟨upd_same, same_lay hd2⟩ ?_ ?_⟩
      · rintro i G hi ⟨hD, sG⟩
        have hi4 : i < 4 := by omega
        refine ⟨rfl, yesT ?_⟩
        have mb := mod_bd (front + step * (0 + (i : Int))) 26 (by decide)
        have hat : atI (tl letters) ((front + step * (0 + (i : Int))) % 26) = some (own front step i) := by
          have := atI_nat (let_at (j := ((front + step * (0 + (i : Int))) % 26).toNat) (by omega))
          rw [Int.toNat_of_nonneg mb.1] at this
          rw [this]
          unfold own
          rw [Int.zero_add]
        refine ⟨_, rfl, _, rfl, _, rfl, _, rfl, _, _, rfl, rfl, .inl (by constructor <;> omega), _, _, rfl, rfl, .inl ⟨_, rfl, _, _, rfl, rfl, (by show (0 : Int) < 26; decide), letters, _, own front step i, rfl, rfl, by decide, hat, _, hD, small1000 ?_, ?_, same_upd sG hd2⟩⟩
        · rw [List.length_map, List.length_map, List.length_range]; omega
        · rw [upd_same, List.range_succ, List.map_append, List.map_append]
          rfl
      · rintro G2 ⟨hD, sG⟩
        have em : ((m : Nat) : Int).toNat = m := Int.toNat_natCast m
        rw [em] at hD
        have P6 := P5.same' sG
        have F6 := FH5.trans (frmS sG)
        have lm : (((List.range m).map fun k => ch (own front step k)).map V.str).length = m := by rw [List.length_map, List.length_map, List.length_range]
        refine ⟨_, rfl, d2, rfl, ⟨_, .inl (.inl hD)⟩, fun d3 hd3 => lc_list (K := K) (a := d2) (xs := ((List.range m).map fun k => ch (own front step k)).map V.str) (fun i G => G d3 = some (.lst (((List.range i).map fun k => wordAt stem a (own front step k)).map V.str)) ∧ Same G2 G) ⟨upd_same, same_lay hd3⟩
          (fun i G _ ⟨_, s⟩ => .inl (.inl (s _ _ hD))) ?_ ?_⟩
        · rintro i y G3 hy ⟨hD3, sG3⟩
          have him : i < m := by
            have := (List.getElem?_eq_some_iff.mp hy).1
            rw [lm] at this
            exact this
          rw [List.getElem?_map, List.getElem?_map, List.getElem?_range him] at hy
          cases hy
          have la := cutS_length stem none (some (a : Int))
          have lb := cutS_length stem (some (a : Int)) none
          refine ⟨rfl, yesT ?_⟩
          refine ⟨_, rfl, _, rfl, _, rfl, stem, rfl, sz1 (by omega), _, rfl, _, _, rfl, rfl, sz1 ?_, _, rfl, _, rfl, _, rfl, stem, rfl, sz1 (by omega), _, _, rfl, rfl, sz1 ?_, _, hD3, small1000 ?_, ?_, same_upd sG3 hd3⟩
          · show (cutS stem none (some (a : Int))).length + 1 ≤ 20000
            omega
          · rw [len_app]
            show (cutS stem none (some (a : Int))).length + 1 + _ ≤ 20000
            omega
          · rw [List.length_map, List.length_map, List.length_range]; omega
          · rw [upd_same, List.range_succ, List.map_append, List.map_append]
            rfl
        · rintro G3 ⟨hD3, sG3⟩
          rw [lm] at hD3
          refine q d3 _ G3 ?_ hD3 (by rw [List.length_map, List.length_range]) (fun w hw => ?_) ?_ ((P6.same' sG3).mono (by omega)) (F6.trans (frmS sG3))
          · cases hx : H d3 with
            | none => rfl
            | some o =>
              exfalso
              by_cases ep : d3 = p
              · obtain ⟨kvs, hp⟩ := (P6).dict
                rw [ep, hp] at hd3
                cases hd3
              · have := F6 _ _ hx ep
                rw [this] at hd3
                cases hd3
          · obtain ⟨k, hk, rfl⟩ := List.mem_map.mp hw
            have mb := mod_bd (front + step * (k : Int)) 26 (by decide)
            exact word_ok l7 azs (by unfold own; omega)
          · refine List.pairwise_map.mpr ?_
            refine List.Pairwise.imp_of_mem (fun {x y} hx hy hxy e => ?_) (List.pairwise_lt_range (n := m))
            have hy4 := List.mem_range.mp hy
            exact own_ne f0 hs hxy (by omega) (word_inj e)
theorem ok_pickS {f : Addr} {fd : FuncData} (F : Fun K "_law_pick" "_law_pick" sPick f fd) (B : Bl mg) (D : Cl P w K mg base 1 "_law_draw" ["_law_pen_here", "_law_many"] spDraw) : FnOk P w K mg base CX0 2 f fd ["_law_pen_here", "_law_items"] spPickS := by
  refine F.ok scPick (fun vs H Q E h => ?_) (fun cdv A outer s H vs Q E hr h => ?_)
  · obtain ⟨p, s, n, rfl, _⟩ := h
    rfl
  · obtain ⟨p, x, n, rfl, h0, h1, hP, hn, q⟩ := h
    refine ⟨_, pss_one (ps_ret (pe_ix ix_str (pv 1) (pe_cl D hr (by decide) (by rfl) (pa_cons (pv 0) (pa_cons (pe_callB call_len_str (by rfl) B.len PySem.boot_len (pa_cons (pv 1) pa_nil)) pa_nil))) (fun _ _ => rfl))), ?_⟩
    refine ⟨_, rfl, _, rfl, _, rfl, x, rfl, sz1 (by omega), p, x.length, n, rfl, by omega, ?_, hP, hn, fun r H' hr0 hr1 hP' hF => ?_⟩
    · have : x.length < 2 ^ 200 := Nat.lt_of_le_of_lt h1 (by decide)
      simpa using this
    · have hj : r.toNat < (tl x).length := by rw [← TL.len_tl]; omega
      refine ⟨x, r, (tl x)[r.toNat], rfl, rfl, sz1 (by omega), ?_, q _ _ (List.getElem_mem hj) hP' hF⟩
      have := atI_nat (xs := tl x) (j := r.toNat) (v := (tl x)[r.toNat]) (List.getElem?_eq_getElem hj)
      rw [Int.toNat_of_nonneg hr0] at this
      exact this
end
def SmallS (w : Str) : Prop := ∀ c ∈ tl w, c < 200
theorem dp_strs {K : PySem.W.Frag} {H : Hp} : ∀ ws : List Str, DpAll K H (ws.map V.str) (ws.map PyData.str)
  | [] => .nil
  | w :: r => .cons (.str w) (dp_strs r)
theorem erase_permS : ∀ (L : List Str) (k : Nat) (h : k < L.length), (L[k] :: L.eraseIdx k).Perm L
  | p :: L, 0, _ => List.Perm.refl _
  | p :: L, k + 1, h => by
    have ih := erase_permS L k (Nat.lt_of_succ_lt_succ h)
    exact (List.Perm.swap p _ _).trans (ih.cons p)
theorem ixN_in {n : Nat} {r : Int} (h0 : 0 ≤ r) (h1 : r < n) : ixN n r = some r.toNat := by
  unfold ixN
  rw [if_pos h0, if_pos h1]
def lenAt (l : Addr) (H : Hp) : Nat := match H l with
  | some (.lst xs) => xs.length
  | _ => 0
theorem lenAt_of {l : Addr} {H : Hp} {xs : List V} (h : H l = some (.lst xs)) : lenAt l H = xs.length := by
  unfold lenAt
  rw [h]
theorem map_erase : ∀ (L : List Str) (k : Nat), (L.map V.str).eraseIdx k = (L.eraseIdx k).map V.str
  | [], _ => rfl
  | _ :: _, 0 => rfl
  | p :: L, k + 1 => by
    show V.str p :: (L.map V.str).eraseIdx k = V.str p :: (L.eraseIdx k).map V.str
    rw [map_erase L k]
section
variable {P : Program} {w : World} {K : PySem.W.Frag} {mg : Str → Option Value} {base : Heap}
end
theorem dep_strs : ∀ ws : List Str, PyData.depthAll (ws.map PyData.str) = 0
  | [] => rfl
  | w :: r => by
    show max (PyData.depth (.str w)) (PyData.depthAll (r.map PyData.str)) = 0
    rw [dep_strs r]
    rfl
theorem strOk_of {w : Str} (h : SmallS w) : PyData.strOk w = true := by
  unfold PyData.strOk
  rw [← Array.all_toList, List.all_eq_true]
  intro c hc
  have := h c hc
  exact decide_eq_true (by omega)
theorem lay_strs : ∀ {ws : List Str}, (∀ w ∈ ws, SmallS w) → PyData.canLayAll0 (ws.map PyData.str) = true
  | [], _ => rfl
  | w :: r, h => by
    show (PyData.strOk w && PyData.canLayAll0 (r.map PyData.str)) = true
    rw [lay_strs fun x hx => h x (List.mem_cons_of_mem _ hx), Bool.and_true]
    exact strOk_of (h w List.mem_cons_self)
theorem shp_strs {ws : List Str} (h : ∀ w ∈ ws, SmallS w) : SeqAt.shaped (.list (ws.map PyData.str)) = true := by
  unfold SeqAt.shaped
  rw [show PyData.canLay0 (.list (ws.map PyData.str)) = true from lay_strs h, Bool.true_and]
  refine decide_eq_true ?_
  show PyData.depthAll (ws.map PyData.str) + 1 ≤ 64
  rw [dep_strs]
  decide
def spShufS (K : PySem.W.Frag) : Sp := fun vs H Q _ => ∃ (p a : Addr) (L : List Str) (n : Nat), vs = [.ref p, .ref a] ∧ SqL K H a (L.map V.str) ∧ (∀ w ∈ L, SmallS w) ∧ L.length ≤ 100 ∧ Pen H p n ∧ n ≤ 800000 ∧
  ∀ (o : Addr) (M : List Str) (H' : Hp), H o = none → H' o = some (.lst (M.map V.str)) → M.Perm L → Pen H' p (n + 300) → Frm p H H' → Q (.ref o) H'
theorem Frm.free {p q : Addr} {H H' : Hp} {n : Nat} (f : Frm p H H') (P : Pen H' p n) (h : H' q = none) : H q = none := by
  obtain ⟨c, ns, k, l, hp, _⟩ := P
  cases e : H q with
  | none => rfl
  | some o =>
    by_cases ep : q = p
    · rw [ep, hp] at h
      cases h
    · rw [f q o e ep] at h
      cases h
section
variable {P : Program} {w : World} {K : PySem.W.Frag} {mg : Str → Option Value} {base : Heap}
end
theorem sameT {K : PySem.W.Frag} {H H' : Hp} {a : Addr} {xs : List V} (e : Same H H') (h : SqT K H a xs) : SqT K H' a xs := by
  rcases h with (h | ⟨o, h⟩) | h
  · exact .inl (.inl (e _ _ h))
  · exact .inl (.inr ⟨o, e _ _ h⟩)
  · exact .inr h
structure WTxt (K : PySem.W.Frag) (mg : Str → Option Value) (ts tw : Addr) : Prop where
  zIsi : mg "isinstance" = none
  zStr : mg "str" = none
  zLen : mg "len" = none
  zAll : mg "all" = none
  let_ : ∃ t, mg "_LETTERS" = some (.str letters t)
  most : ∃ t, mg "_MOST_LETTERS" = some (.int 8 t)




theorem az_in {c : Nat} (h0 : 97 ≤ c) (h1 : c ≤ 122) : c ∈ tl letters := by
  have e : tl letters = (List.range 26).map (· + 97) := by decide +kernel
  rw [e]
  exact List.mem_map.mpr ⟨c - 97, List.mem_range.mpr (by omega), by omega⟩
theorem boot_strT : bootBuiltins ("str" : Str) = some (.type "str") := by decide +kernel
theorem bt_all : bootBuiltins ("all" : Str) = some (.builtin "all") := by decide +kernel
theorem lc_str {x : Str} {g : TG} {tt : TT} {te : TE} {vs : List Nat} {σ : L2.St} {H1 : Hp} {D : Addr} {Qd : Hp → Prop} (Pv : Nat → Hp → Prop) (h0 : Pv 0 (upd H1 D (.lst [])))
    (hs : ∀ i c H, (tl x)[i]? = some c → Pv i H → g (.str ⟨#[c]⟩) (wipe σ vs) H fun σ2 H2 => wipe σ2 vs = wipe σ vs ∧ tt σ2 H2 fun b H3 =>
      if b = true then te σ2 H3 fun y H4 => ∃ acc, H4 D = some (.lst acc) ∧ acc.length < sizeLine ∧ Pv (i + 1) (upd H4 D (.lst (acc ++ [y]))) else Pv (i + 1) H3) (hd : ∀ H, Pv x.length H → Qd H) :
    ∃ W : Nat → Nat → Hp → Prop, (∃ m, W 0 m (upd H1 D (.lst []))) ∧ ∀ i m H, W i m H →
      ((Its x).stop i H ∧ Qd H) ∨ ((Its x).go i H ∧ ∃ Nx : Hp → Prop, (∀ H', Nx H' → ∃ m', m' < m ∧ W (i + 1) m' H') ∧ ∀ y H', (Its x).yld i H y H' → g y (wipe σ vs) H' fun σ2 H2 => wipe σ2 vs = wipe σ vs ∧ tt σ2 H2 fun b H3 =>
        if b = true then te σ2 H3 fun y H4 => ∃ acc, H4 D = some (.lst acc) ∧ acc.length < sizeLine ∧ Nx (upd H4 D (.lst (acc ++ [y]))) else Nx H3) := by
  have hl : x.length = x.cps.size := rfl
  refine ⟨fun i m H => m = x.length - i ∧ i ≤ x.length ∧ Pv i H, ⟨x.length, by simp, Nat.zero_le _, h0⟩, ?_⟩
  rintro i m H ⟨rfl, hi, p⟩
  by_cases hlt : i < x.length
  · refine .inr ⟨hlt, Pv (i + 1), fun H' p' => ⟨x.length - (i + 1), by omega, rfl, hlt, p'⟩, fun y H' hy => ?_⟩
    obtain ⟨e, c, hc, e2⟩ := hy
    subst e e2
    refine hs i c _ ?_ p
    show x.cps.toList[i]? = some c
    rw [Array.getElem?_toList]
    exact hc
  · have e : i = x.length := by omega
    subst e
    exact .inl ⟨Nat.le_refl _, hd H p⟩
section
variable {P : Program} {w : World} {K : PySem.W.Frag} {mg : Str → Option Value} {base : Heap} {ts tw : Addr}
theorem scIW : FnScope ["value", "letter"] ["value"] (defScope sIsWord) := ⟨rfl, rfl, rfl, by decide +kernel, rfl, by decide +kernel, by decide +kernel⟩
end
def spIsWord : Sp := fun vs H Q _ => ∃ s : Str, vs = [.str s] ∧ Word s ∧ ∀ H', Same H H' → Q (.bl true) H'
section
variable {P : Program} {w : World} {K : PySem.W.Frag} {mg : Str → Option Value} {base : Heap} {ts tw : Addr}
theorem ok_isword {f : Addr} {fd : FuncData} (F : Fun K "is_word" "is_word" sIsWord f fd) (T : WTxt K mg ts tw) : FnOk P w K mg base CX0 1 f fd ["value"] spIsWord := by
  obtain ⟨t1, hl⟩ := T.let_
  obtain ⟨t2, hm⟩ := T.most
  refine F.ok scIW (fun vs H Q E h => ?_) (fun cdv A outer s H vs Q E hr h => ?_)
  · obtain ⟨s, rfl, _⟩ := h
    rfl
  · obtain ⟨x, rfl, hw, q⟩ := h
    have nd := scIW.nd
    refine ⟨_, pss_cons (ps_if (PW.pt (pw_or (pt_not (pt_val (pe_callB call_isi (by rfl) T.zIsi bt_isi (pa_cons (pv 0) (pa_cons (pe_bltn (v := .ty "str") (by rfl) T.zStr boot_strT rfl) pa_nil)))))
          (pw_or1 (pt_not (pt_chain op_le op_le pe_int (pe_callB call_len_str (by rfl) T.zLen PySem.boot_len (pa_cons (pv 0) pa_nil)) (pe_glob (v := .int 8) (by rfl) hm ⟨_, rfl⟩)))))) (pss_one (ps_ret pe_bl)) pss_nil)
      (pss_one (ps_ret (pe_callB (cr_all rfl) (by rfl) T.zAll bt_all (pa_cons
        (pe_lc (own := [("letter", 1)]) (g := gName 1) (tt := tYes) rfl nd (pi_str (pv 0)) (blkOk_by (N := ["value", "letter"]) (sc := defScope sIsWord) (by decide +kernel))
          (fun _ _ _ _ _ => pg_name (i := 1) nd rfl (.inl rfl)) (fun _ _ _ _ _ => pts_nil) (fun _ _ _ _ _ => pe_cmpR op_in_sign (pv 1) (pe_glob (v := .str letters) (by rfl) hl ⟨_, rfl⟩) (by rfl))) pa_nil)))), ?_⟩
    have hp := hw.pos
    have hq := hw.len
    refine ⟨_, rfl, _, .ty "str", _, _, true, rfl, .ty "str", .base (.str _), kit_ty (by decide +kernel), _, rfl, iteF ?_⟩
    refine ⟨_, rfl, x, rfl, sz1 (by omega), _, _, rfl, rfl, _, rfl, ite2 (fun _ => ?_) (fun z => absurd (decide_eq_true (show (1 : Int) ≤ (x.length : Nat) by omega)) z)⟩
    refine ⟨_, _, rfl, rfl, _, rfl, ite2 (fun z => ?_) (fun _ => ?_)⟩
    · exfalso
      have h8 : decide (((x.length : Nat) : Int) ≤ 8) = true := decide_eq_true (by omega)
      rw [h8] at z
      exact absurd z (by decide)
    · refine ⟨_, rfl, x, rfl, fun D hD => lc_str (x := x) (fun i G => G D = some (.lst ((List.replicate i true).map V.bl)) ∧ Same H G) ⟨upd_same, same_lay hD⟩ ?_ ?_⟩
      · rintro i c G hc ⟨hd, s⟩
        have hz := hw.az c (List.mem_of_getElem? hc)
        have hi : i < x.length := by
          have := (List.getElem?_eq_some_iff.mp hc).1
          rw [TL.len_tl]
          exact this
        refine ⟨rfl, yesT ?_⟩
        refine ⟨_, rfl, c, letters, rfl, rfl, _, hd, small1000 (by rw [List.length_map, List.length_replicate]; omega), ?_, same_upd s hD⟩
        rw [upd_same, List.replicate_succ', List.map_append, show decide (c ∈ letters.cps.toList) = true from decide_eq_true (az_in hz.1 hz.2)]
        rfl
      · rintro G ⟨hd, s⟩
        refine ⟨D, _, rfl, .inl (.inl hd), ?_⟩
        have e : (List.replicate x.length true).all id = true := by
          rw [List.all_eq_true]
          intro b hb
          exact (List.mem_replicate.mp hb).2
        rw [e]
        exact q G s
theorem scKW : FnScope ["value"] ["value"] (defScope sChkW) := ⟨rfl, rfl, rfl, by decide +kernel, rfl, by decide +kernel, by decide +kernel⟩
end
def spChkW : Sp := fun vs H Q _ => ∃ s : Str, vs = [.str s] ∧ Word s ∧ ∀ H', Same H H' → Q .non H'
section
variable {P : Program} {w : World} {K : PySem.W.Frag} {mg : Str → Option Value} {base : Heap} {ts tw : Addr}
theorem ok_chkw {f : Addr} {fd : FuncData} (F : Fun K "check_word" "check_word" sChkW f fd) (IW : Cl P w K mg base 1 "is_word" ["value"] spIsWord) : FnOk P w K mg base CX0 2 f fd ["value"] spChkW := by
  refine F.ok scKW (fun vs H Q E h => ?_) (fun cdv A outer s H vs Q E hr h => ?_)
  · obtain ⟨s, rfl, _⟩ := h
    rfl
  · obtain ⟨x, rfl, hw, q⟩ := h
    refine ⟨_, pss_one (ps_if (pt_not (pt_val (pe_cl IW hr (by decide) (by rfl) (pa_cons (pv 0) pa_nil)))) (pss_one ps_never) pss_nil), ?_⟩
    exact ⟨_, rfl, x, rfl, hw, fun H' s => ⟨_, rfl, iteF (q H' s)⟩⟩
end
end OR

/-! ### sorted of a list of triples (2, text, the same text) -/
namespace TR
open PySem PySem.W PyProof.Rows
def TripAt (h : Heap) (v : Value) (y : Str) : Prop := ∃ (a : Addr) (t1 t2 t3 : Tok), v = .ref a ∧ IsTup h a #[.int 2 t1, .str y t2, .str y t3]
/-- the text of a triple, read off the heap -/
def keyT (h : Heap) (v : Value) : Str := match v with
  | .ref a => (match h.get? a with
    | some o => (match o.data with
      | .seq xs _ => DT.txOf (xs.toList[1]?)
      | _ => ⟨#[]⟩)
    | none => ⟨#[]⟩)
  | _ => ⟨#[]⟩
theorem TripAt.tx {h : Heap} {v : Value} {y : Str} (x : TripAt h v y) : keyT h v = y := by
  obtain ⟨a, t1, t2, t3, rfl, ⟨o, ho, hc, n, hd⟩⟩ := x
  simp only [keyT, ho, hd]
  rfl
theorem TripAt.keeps {h h' : Heap} {v : Value} {y : Str} (x : TripAt h v y) (k : ∀ b o, h.get? b = some o → o.cls = .type "tuple" → h'.get? b = some o) : TripAt h' v y := by
  obtain ⟨a, t1, t2, t3, e, ⟨o, ho, hc, r⟩⟩ := x
  exact ⟨a, t1, t2, t3, e, ⟨o, k _ _ ho hc, hc, r⟩⟩
theorem firsts_of {h : Heap} : ∀ vs : List Value, (∀ v ∈ vs, ∃ y, TripAt h v y) → ∃ fs : List Value, KatTups h vs fs ∧ fs.length = vs.length ∧ ∀ f ∈ fs, ∃ t, f = Value.int 2 t
  | [], _ => ⟨[], KatTups.nil, rfl, fun f hf => by simp at hf⟩
  | v :: vs, x => by
    obtain ⟨fs, k, hl, hi⟩ := firsts_of vs fun u hu => x u (List.mem_cons_of_mem _ hu)
    obtain ⟨y, a, t1, t2, t3, rfl, ⟨o, ho, hc, n, hd⟩⟩ := x v (List.mem_cons_self ..)
    refine ⟨.int 2 t1 :: fs, KatTups.cons ho hc hd rfl k, by rw [List.length_cons, List.length_cons, hl], fun f hf => ?_⟩
    rcases List.mem_cons.mp hf with rfl | hf
    · exact ⟨t1, rfl⟩
    · exact hi f hf
section
variable {prog : Program} {w : World} {A : Around} {E : Value → Shared → Prop} {s : Shared}
theorem kind_trip {vs : List Value} {ρ : Str → Int} (h2 : 2 ≤ vs.length) (x : ∀ v ∈ vs, ∃ y, TripAt s.heap v y)
    (hρ : ∀ v ∈ vs, ∀ u ∈ vs, decide ((keyT s.heap v).cps.toList < (keyT s.heap u).cps.toList) = decide (ρ (keyT s.heap v) < ρ (keyT s.heap u))) (Q : SortKind → Shared → Prop)
    (h : ∀ κ, TS.Cmp prog w A s κ (pairsOf vs) (fun v => ρ (keyT s.heap v)) → Q κ s) : wpAny (model prog w) A (keyKind' vs.toArray) Q E s := by
  obtain ⟨fs, k, hl, hi⟩ := firsts_of vs x
  refine kat_kind (T := Value.type "int") k (by omega) (fun f hf => ?_) rfl (h _ ?_)
  · obtain ⟨t, rfl⟩ := hi f hf
    exact PySem.W.Looks.now
  · have hb : (Value.type "int" != Value.type "tuple") = true := by first | rfl | decide | simp
    rw [hb]
    intro p q hp hq Q' E' hQ
    rw [pairsOf_toList] at hp hq
    have mp := (mem_zip_self hp).2
    have mq := (mem_zip_self hq).2
    obtain ⟨y, py⟩ := x _ mp
    obtain ⟨z, pz⟩ := x _ mq
    have hr := hρ _ mp _ mq
    have hQ' : Q' (decide (y.cps.toList < z.cps.toList)) s := by
      rw [py.tx, pz.tx] at hr
      rw [hr]
      have hQ2 : Q' (decide (ρ (keyT s.heap p.1) < ρ (keyT s.heap q.1))) s := hQ
      rw [py.tx, pz.tx] at hQ2
      exact hQ2
    obtain ⟨a, t1, t2, t3, e1, ⟨o, ho, hc, n, hd⟩⟩ := py
    obtain ⟨a', u1, u2, u3, e2, ⟨o', ho', hc', n', hd'⟩⟩ := pz
    rw [e1, e2]
    refine kat_lt ho hd ho' hd' ?_
    show KatLex prog w A true false Q' [(Value.int 2 t1, Value.int 2 u1), (Value.str y t2, Value.str z u2), (Value.str y t3, Value.str z u3)] 0 s
    refine kat_cons (wpAny_eqBool_int ?_)
    refine kat_go (fun _ => ?_) (fun e0 => by simp at e0)
    refine kat_yes (kat_cons (eqBool_str ?_))
    refine kat_go (fun e0 => ?_) (fun e0 => ?_)
    · have e : y = z := by simpa using e0
      have irr : decide (y.cps.toList < z.cps.toList) = false := by
        rw [e]
        first | exact decide_eq_false (List.lt_irrefl _) | simp
      rw [irr] at hQ'
      refine kat_yes (kat_cons (eqBool_str ?_))
      refine kat_go (fun _ => ?_) (fun e1 => by rw [e0] at e1; exact Bool.noConfusion e1)
      exact kat_yes (kat_nil hQ')
    · refine kat_no ?_
      show wpAny _ _ (oneLt' false _ _) _ _ _
      exact kat_one _ _ (PyProof.Rows.lt_str hQ')
/-- sorted(xs) of a list of triples -/
theorem sort_trip {a : Addr} {vs : List Value} {n : Nat} {P : PySem.Fin → Shared → Prop} (ho : s.heap.get? a = some (seqObj "list" vs.toArray n)) (h64 : vs.length < 64) (x : ∀ v ∈ vs, ∃ y, TripAt s.heap v y) {ρ : Str → Int}
    (hρ : ∀ v ∈ vs, ∀ u ∈ vs, decide ((keyT s.heap v).cps.toList < (keyT s.heap u).cps.toList) = decide (ρ (keyT s.heap v) < ρ (keyT s.heap u)))
    (h : ∀ out : Array Value, out.toList.Perm vs → out.toList.Pairwise (fun u v => ρ (keyT s.heap u) ≤ ρ (keyT s.heap v)) → P (.done (.ret .none)) { s with heap := sortedHeap s.heap a vs out }) :
    wpAny (model prog w) A (Builtin.«list.sort» ⟨[.ref a], []⟩) P E s := by
  have keep : ∀ b o, s.heap.get? b = some o → o.cls = .type "tuple" → (TS.midHeap s.heap a vs).get? b = some o := fun b o e hc => by
    refine TS.midHeap_old ?_ e
    rintro rfl
    rw [ho] at e
    have e' : seqObj "list" vs.toArray n = o := Option.some.inj e
    rw [← e'] at hc
    have c' : Value.type "list" = Value.type "tuple" := hc
    injection c' with c''
    exact absurd c'' (by decide)
  have same : ∀ v ∈ vs, keyT (TS.midHeap s.heap a vs) v = keyT s.heap v := fun v hv => by
    obtain ⟨y, t⟩ := x v hv
    rw [t.tx, (t.keeps keep).tx]
  refine SK.plain_sort (r := fun v => ρ (keyT (TS.midHeap s.heap a vs) v)) ho h64 (fun h2 Q hQ => ?_) fun ps out h1 h2 h3 => ?_
  · refine kind_trip (s := { s with heap := TS.midHeap s.heap a vs }) (ρ := ρ) h2 (fun v hv => ?_) (fun v hv u hu => ?_) Q hQ
    · obtain ⟨y, t⟩ := x v hv
      exact ⟨y, t.keeps keep⟩
    · show decide ((keyT (TS.midHeap s.heap a vs) v).cps.toList < (keyT (TS.midHeap s.heap a vs) u).cps.toList) = decide (ρ (keyT (TS.midHeap s.heap a vs) v) < ρ (keyT (TS.midHeap s.heap a vs) u))
      rw [same v hv, same u hu]
      exact hρ v hv u hu
  · obtain ⟨p, o⟩ := TS.out_rank (r := fun v => ρ (keyT (TS.midHeap s.heap a vs) v)) h1 h2 h3
    refine h out p (List.Pairwise.imp_of_mem (fun {u v} hu hv e => ?_) o)
    rw [same u (p.mem_iff.mp hu), same v (p.mem_iff.mp hv)] at e
    exact e
theorem sorted_trip {l : Addr} {vs : List Value} {Q : Value → Shared → Prop} (hl : s.heap.IsList l vs.toArray) (h64 : vs.length < 64) (x : ∀ v ∈ vs, ∃ y, TripAt s.heap v y) {ρ : Str → Int}
    (hρ : ∀ v ∈ vs, ∀ u ∈ vs, decide ((keyT s.heap v).cps.toList < (keyT s.heap u).cps.toList) = decide (ρ (keyT s.heap v) < ρ (keyT s.heap u)))
    (h : ∀ out : Array Value, out.toList.Perm vs → out.toList.Pairwise (fun u v => ρ (keyT s.heap u) ≤ ρ (keyT s.heap v)) → Q (.ref (s.heap.objs.size + 1)) { s with heap := sortedAll s.heap vs out }) :
    wpAny (model prog w) A (call (.builtin "sorted") [.ref l]) Q E s := by
  refine Calls.call_function_entry kind_sorted plain_sorted entry_sorted (args_sorted1 _) ?_
  unfold Builtin.«sorted»
  refine wpAny_bind (m := checkCount "sorted" 1 1 _) (wpAny_pure ?_)
  refine wpAny_bind (collect_list hl ?_ (by rw [sizeLine_eq]; omega))
  refine wpAny_bind (wpAny_newList ?_ (by rw [sizeLine_eq]; omega))
  have hsz : ((s.heap.push (seqObj "list" #[] 0)).update s.heap.objs.size (Obj.mapSeq (· ++ vs.toArray))).objs.size = s.heap.objs.size + 1 := by
    rw [Heap.size_update, size_push']
  have hoL : (((s.heap.push (seqObj "list" #[] 0)).update s.heap.objs.size (Obj.mapSeq (· ++ vs.toArray))).push (seqObj "list" vs.toArray 0)).get? (s.heap.objs.size + 1) = some (seqObj "list" vs.toArray 0) := by
    rw [← hsz]; exact Heap.get?_push_size _ rfl
  have keep : ∀ b o, s.heap.get? b = some o → o.cls = .type "tuple" → (((s.heap.push (seqObj "list" #[] 0)).update s.heap.objs.size (Obj.mapSeq (· ++ vs.toArray))).push (seqObj "list" vs.toArray 0)).get? b = some o := fun b o q _ => by
    have hlt : b < s.heap.objs.size := Heap.lt_size q
    rw [Heap.get?_push_ne _ _ _ (by rw [hsz]; exact Nat.ne_of_lt (Nat.lt_succ_of_lt hlt)), Heap.get?_update_ne _ _ _ _ (Nat.ne_of_lt hlt), Heap.get?_push_ne _ _ _ (Nat.ne_of_lt hlt)]
    exact q
  have x2 : ∀ v ∈ vs, ∃ y, TripAt (((s.heap.push (seqObj "list" #[] 0)).update s.heap.objs.size (Obj.mapSeq (· ++ vs.toArray))).push (seqObj "list" vs.toArray 0)) v y := fun v hv => by
    obtain ⟨y, t⟩ := x v hv
    exact ⟨y, t.keeps keep⟩
  have same : ∀ v ∈ vs, keyT (((s.heap.push (seqObj "list" #[] 0)).update s.heap.objs.size (Obj.mapSeq (· ++ vs.toArray))).push (seqObj "list" vs.toArray 0)) v = keyT s.heap v := fun v hv => by
    obtain ⟨y, t⟩ := x v hv
    rw [t.tx, (t.keeps keep).tx]
  show wpAny _ _ _ _ _ { s with heap := ((s.heap.push (seqObj "list" #[] 0)).update s.heap.objs.size (Obj.mapSeq (· ++ vs.toArray))).push (seqObj "list" vs.toArray 0) }
  rw [hsz]
  refine wpAny_bind (wpAny_holding (wpAny_call_entry slot_list_sort ⟨_, hoL, rfl⟩ entry_list_sort (sort_trip (s := { s with heap := ((s.heap.push (seqObj "list" #[] 0)).update s.heap.objs.size (Obj.mapSeq (· ++ vs.toArray))).push (seqObj "list" vs.toArray 0) }) hoL h64 x2 (ρ := ρ) (fun v hv u hu => ?_) fun out a1 a2 => ⟨_, rfl, ?_⟩) (args_list_sort _)))
  · show decide ((keyT (((s.heap.push (seqObj "list" #[] 0)).update s.heap.objs.size (Obj.mapSeq (· ++ vs.toArray))).push (seqObj "list" vs.toArray 0)) v).cps.toList < (keyT (((s.heap.push (seqObj "list" #[] 0)).update s.heap.objs.size (Obj.mapSeq (· ++ vs.toArray))).push (seqObj "list" vs.toArray 0)) u).cps.toList) = _
    rw [same v hv, same u hu, hρ v hv u hu]
  · refine wpAny_pure ⟨_, rfl, h out a1 (List.Pairwise.imp_of_mem (fun {u v} hu hv e => ?_) a2)⟩
    have e' : ρ (keyT (((s.heap.push (seqObj "list" #[] 0)).update s.heap.objs.size (Obj.mapSeq (· ++ vs.toArray))).push (seqObj "list" vs.toArray 0)) u) ≤ ρ (keyT (((s.heap.push (seqObj "list" #[] 0)).update s.heap.objs.size (Obj.mapSeq (· ++ vs.toArray))).push (seqObj "list" vs.toArray 0)) v) := e
    rw [same u (a1.mem_iff.mp hu), same v (a1.mem_iff.mp hv)] at e'
    exact e'
end
/-- a rank of texts within a list -/
def rankS (L : List Str) (y : Str) : Int := (L.countP fun z => decide (z.cps.toList < y.cps.toList) : Nat)
theorem rank_lt {L : List Str} {x y : Str} (hx : x ∈ L) (h : x.cps.toList < y.cps.toList) : rankS L x < rankS L y := by
  unfold rankS
  have le : ∀ M : List Str, M.countP (fun z => decide (z.cps.toList < x.cps.toList)) ≤ M.countP (fun z => decide (z.cps.toList < y.cps.toList)) := fun M => List.countP_mono_left fun z _ e => decide_eq_true (List.lt_trans (of_decide_eq_true e) h)
  have lt : ∀ M : List Str, x ∈ M → M.countP (fun z => decide (z.cps.toList < x.cps.toList)) < M.countP (fun z => decide (z.cps.toList < y.cps.toList)) := by
    intro M
    induction M with
    | nil => intro z; cases z
    | cons a M ih =>
      intro hm
      have l1 := le M
      rw [List.countP_cons, List.countP_cons]
      rcases List.mem_cons.mp hm with e | e
      · subst e
        rw [if_neg (by rw [decide_eq_false (List.lt_irrefl _)]; decide), if_pos (decide_eq_true h)]
        omega
      · have l2 := ih e
        by_cases c : a.cps.toList < x.cps.toList
        · rw [if_pos (decide_eq_true c), if_pos (decide_eq_true (List.lt_trans c h))]; omega
        · rw [if_neg (by rw [decide_eq_false c]; decide)]
          split <;> omega
  have := lt L hx
  omega
theorem rank_le {L : List Str} {x y : Str} (h : ¬ x.cps.toList < y.cps.toList) : rankS L y ≤ rankS L x := by
  unfold rankS
  have := List.countP_mono_left (l := L) (p := fun z => decide (z.cps.toList < y.cps.toList)) (q := fun z => decide (z.cps.toList < x.cps.toList)) fun z _ e => by
    refine decide_eq_true ?_
    have e := of_decide_eq_true e
    exact Classical.byContradiction fun c => h (List.lt_of_le_of_lt (List.not_lt.mp c) e)
  omega
theorem rank_dec {L : List Str} {x y : Str} (hx : x ∈ L) : decide (x.cps.toList < y.cps.toList) = decide (rankS L x < rankS L y) := by
  by_cases h : x.cps.toList < y.cps.toList
  · rw [decide_eq_true h, decide_eq_true (rank_lt hx h)]
  · have := rank_le (L := L) h
    rw [decide_eq_false h, decide_eq_false (by omega)]
theorem rank_ord {L : List Str} {x y : Str} (hy : y ∈ L) (h : rankS L x ≤ rankS L y) : ¬ y.cps.toList < x.cps.toList := fun e => by
  have := rank_lt hy e
  omega
end TR
namespace OR
open PySem PySem.Spec PyProof.Rows L2
/-- in order -/
def Asc (ys : List Str) : Prop := ys.Pairwise fun x y => ¬ y.cps.toList < x.cps.toList
/-- sorted of triples -/
def rSort3 (K : PySem.W.Frag) : List V → Hp → VK → Prop := fun vs H Q => ∃ (a : Addr) (L : List (Addr × Str)), vs = [V.ref a] ∧ SqL K H a (L.map fun p => V.ref p.1) ∧ L.length < 64 ∧ (∀ p ∈ L, H p.1 = some (.tup [.int 2, .str p.2, .str p.2])) ∧
  ∀ (L' : List (Addr × Str)) (p : Addr), L'.Perm L → Asc (L'.map (·.2)) → H p = none → Q (.ref p) (upd H p (.lst (L'.map fun p => V.ref p.1)))
theorem sl_of {X : Cx} {pins : List (Addr × Obj)} {σ : L2.St} {H : Hp} {s : Shared} (I : Inv X pins σ H s) {t : Addr} {y : Str} (h : H t = some (.tup [.int 2, .str y, .str y])) : TR.TripAt s.heap (.ref t) y := by
  obtain ⟨its, rv, hT, _⟩ := I.tuple (xs := [.int 2, .str y, .str y]) (.inl (.inl h))
  cases rv with
  | cons r1 rv =>
    cases rv with
    | cons r2 rv =>
      cases rv with
      | cons r3 rv =>
        cases rv
        obtain ⟨t1, rfl⟩ := r1
        obtain ⟨t2, rfl⟩ := r2
        obtain ⟨t3, rfl⟩ := r3
        exact ⟨t, t1, t2, t3, rfl, hT⟩
theorem vals_refs3 {L : List (Addr × Str)} : ∀ {us : List Value}, Vals (L.map fun p => V.ref p.1) us → us = L.map fun p => Value.ref p.1 := by
  induction L with
  | nil => intro us h; cases h; rfl
  | cons p L ih =>
    intro us h
    cases h with
    | cons r t =>
      rw [List.map_cons, ih t]
      cases r
      rfl
theorem refs_vals3 : ∀ (L : List (Addr × Str)), Vals (L.map fun p => V.ref p.1) (L.map fun p => Value.ref p.1)
  | [] => .nil
  | p :: L => .cons (show RelV (.ref p.1) (.ref p.1) from rfl) (refs_vals3 L)
theorem out3 (h : Heap) : ∀ (out : List Value), (∀ u ∈ out, ∃ a, u = Value.ref a) → ∃ L' : List (Addr × Str), out = L'.map (fun p => Value.ref p.1) ∧ L'.map (·.2) = out.map (TR.keyT h)
  | [], _ => ⟨[], rfl, rfl⟩
  | u :: out, hu => by
    obtain ⟨L', e1, e2⟩ := out3 h out fun v hv => hu v (List.mem_cons_of_mem _ hv)
    obtain ⟨a, rfl⟩ := hu u List.mem_cons_self
    exact ⟨(a, TR.keyT h (.ref a)) :: L', by rw [List.map_cons, ← e1], by rw [List.map_cons, List.map_cons, e2]⟩
theorem cr_sort3 {X : Cx} (K : PySem.W.Frag) (hK : X.K = K) : CallR X (.builtin "sorted") (rSort3 K) := by
  subst hK
  intro pins s σ H vs us Q I r h
  obtain ⟨a, L, rfl, hs, h64, hx, q⟩ := h
  obtain ⟨its, rv, hl, hz⟩ := I.list hs
  rw [Vals.ref1 r]
  have ei := vals_refs3 rv
  subst ei
  have tx : ∀ p ∈ L, TR.TripAt s.heap (.ref p.1) p.2 := fun p hp => sl_of I (hx p hp)
  have key : ∀ p ∈ L, TR.keyT s.heap (.ref p.1) = p.2 := fun p hp => (tx p hp).tx
  refine TR.sorted_trip (ρ := TR.rankS (L.map (·.2))) hl.isList (by rw [List.length_map]; exact h64) (fun v hv => ?_) (fun v hv u hu => ?_) fun out h1 h2 => ?_
  · obtain ⟨p, hp, rfl⟩ := List.mem_map.mp hv
    exact ⟨_, tx p hp⟩
  · obtain ⟨p, hp, rfl⟩ := List.mem_map.mp hv
    rw [key p hp]
    exact TR.rank_dec (List.mem_map.mpr ⟨p, hp, rfl⟩)
  · obtain ⟨ep, he'⟩ := PyProof.Rows.sortedAll_at s.heap (L.map fun p => Value.ref p.1) out
    have f1 : (L.map fun p => Value.ref p.1).map (fun u => match u with | .ref a => (a, TR.keyT s.heap u) | _ => (0, ⟨#[]⟩)) = L := by
      rw [List.map_map]
      conv => rhs; rw [← List.map_id L]
      refine List.map_congr_left fun p hp => ?_
      show (p.1, TR.keyT s.heap (.ref p.1)) = p
      rw [key p hp]
    obtain ⟨L', e1, e2⟩ := out3 s.heap out.toList fun u hu => by
      obtain ⟨p, _, rfl⟩ := List.mem_map.mp (h1.mem_iff.mp hu)
      exact ⟨_, rfl⟩
    have f2 : out.toList.map (fun u => match u with | .ref a => (a, TR.keyT s.heap u) | _ => ((0 : Addr), (⟨#[]⟩ : Str))) = L' := by
      have e3 : L'.map (·.2) = L'.map (fun p => TR.keyT s.heap (.ref p.1)) := by rw [e2, e1, List.map_map]; rfl
      rw [e1, List.map_map]
      conv => rhs; rw [← List.map_id L']
      refine List.map_congr_left fun p hp => ?_
      show (p.1, TR.keyT s.heap (.ref p.1)) = p
      have : p.2 = TR.keyT s.heap (.ref p.1) := by
        have := List.map_inj_left.mp e3 p hp
        exact this
      rw [← this]
    have hp : L'.Perm L := by
      rw [← f1, ← f2]
      exact h1.map _
    have hlen : (L'.map fun p => V.ref p.1).length ≤ sizeLine := by
      rw [List.length_map, hp.length_eq]
      rw [List.length_map] at hz
      exact hz
    refine ⟨.ref _, upd H (s.heap.objs.size + 1) (.lst (L'.map fun p => V.ref p.1)), I.laid (t' := s.toks) (fun _ _ => PyProof.Rows.sortedAll_old) (Nat.le_succ _) ⟨hlen, out.toList, ep, by rw [e1]; exact refs_vals3 L', he'⟩, rfl, q _ _ hp ?_ (I.hok.fresh (Nat.le_succ _))⟩
    unfold Asc
    rw [e2, List.pairwise_map]
    refine List.Pairwise.imp_of_mem (fun {u v} hu hv e => ?_) h2
    obtain ⟨p, hp2, rfl⟩ := List.mem_map.mp (h1.mem_iff.mp hv)
    rw [key p hp2] at e ⊢
    exact TR.rank_ord (List.mem_map.mpr ⟨p, hp2, rfl⟩) e
end OR

namespace OR
/-! ### pieces: tilings, outcomes, the one form -/
abbrev LnR := Int × Int
def lv (r : LnR) (x : Int) : Int := r.1 * x + r.2
abbrev Pce := Int × Int × Option LnR
def oV (l : Option LnR) (x : Int) : Option Int := l.map fun r => lv r x
def hit (x : Int) (q : Pce) : Bool := decide (q.1 ≤ x) && decide (x ≤ q.2.1)
def outc (L : List Pce) (x : Int) : Option Int := match L.filter (hit x) with
  | q :: _ => oV q.2.2 x
  | [] => none
/-- the pieces follow one another from a up to b - 1 -/
def Til : List Pce → Int → Int → Prop
  | [], a, b => a = b
  | q :: r, a, b => q.1 = a ∧ a ≤ q.2.1 ∧ Til r (q.2.1 + 1) b
theorem Til.le : ∀ {L : List Pce} {a b : Int}, Til L a b → a ≤ b
  | [], _, _, h => by have : _ = _ := h; omega
  | q :: r, a, b, ⟨h1, h2, h3⟩ => by have := Til.le h3; omega
theorem Til.app : ∀ {A B : List Pce} {a c b : Int}, Til A a c → Til B c b → Til (A ++ B) a b
  | [], B, a, c, b, h, k => by have : a = c := h; subst this; exact k
  | q :: r, B, a, c, b, ⟨h1, h2, h3⟩, k => ⟨h1, h2, Til.app h3 k⟩
theorem Til.split : ∀ {A B : List Pce} {a b : Int}, Til (A ++ B) a b → ∃ c, Til A a c ∧ Til B c b
  | [], B, a, b, h => ⟨a, rfl, h⟩
  | q :: r, B, a, b, ⟨h1, h2, h3⟩ => by
    obtain ⟨c, k1, k2⟩ := Til.split (A := r) h3
    exact ⟨c, ⟨h1, h2, k1⟩, k2⟩
theorem Til.one {q : Pce} {a b : Int} (h : Til [q] a b) : q.1 = a ∧ a ≤ q.2.1 ∧ b = q.2.1 + 1 := ⟨h.1, h.2.1, (show q.2.1 + 1 = b from h.2.2).symm⟩
theorem Til.mem : ∀ {L : List Pce} {a b : Int}, Til L a b → ∀ q ∈ L, a ≤ q.1 ∧ q.1 ≤ q.2.1 ∧ q.2.1 < b
  | [], _, _, _, q, hq => nomatch hq
  | p :: r, a, b, ⟨h1, h2, h3⟩, q, hq => by
    have h4 := h3.le
    rcases List.mem_cons.mp hq with e | e
    · subst e; exact ⟨by omega, by omega, by omega⟩
    · have := Til.mem h3 q e
      omega
theorem Til.lo {L : List Pce} {a b x : Int} (h : Til L a b) (hx : x < a) : L.filter (hit x) = [] := by
  rw [List.filter_eq_nil_iff]
  intro q hq
  have := h.mem q hq
  unfold hit
  rw [decide_eq_false (by omega)]
  simp
theorem Til.hi {L : List Pce} {a b x : Int} (h : Til L a b) (hx : b ≤ x) : L.filter (hit x) = [] := by
  rw [List.filter_eq_nil_iff]
  intro q hq
  have := h.mem q hq
  unfold hit
  rw [decide_eq_false (show ¬ x ≤ q.2.1 by omega), Bool.and_false]
  simp
theorem outc_left {A B : List Pce} {c b x : Int} (h : Til B c b) (hx : x < c) : outc (A ++ B) x = outc A x := by
  unfold outc
  rw [List.filter_append, h.lo hx, List.append_nil]
theorem outc_right {A B : List Pce} {a c x : Int} (h : Til A a c) (hx : c ≤ x) : outc (A ++ B) x = outc B x := by
  unfold outc
  rw [List.filter_append, h.hi hx, List.nil_append]
theorem outc_one {q : Pce} {x : Int} (h1 : q.1 ≤ x) (h2 : x ≤ q.2.1) : outc [q] x = oV q.2.2 x := by
  unfold outc hit
  rw [List.filter_cons_of_pos (by rw [decide_eq_true h1, decide_eq_true h2]; decide)]
/-- the piece with a place, told by an index -/
theorem outc_at {L : List Pce} {a b x : Int} (h : Til L a b) {i : Nat} {q : Pce} (hq : L[i]? = some q) (h1 : q.1 ≤ x) (h2 : x ≤ q.2.1) : outc L x = oV q.2.2 x := by
  obtain ⟨hi, e⟩ := List.getElem?_eq_some_iff.mp hq
  have sp : L = L.take i ++ q :: L.drop (i + 1) := by
    rw [← e, List.getElem_cons_drop, List.take_append_drop]
  rw [sp] at h ⊢
  obtain ⟨c, k1, k2⟩ := h.split
  rw [outc_right k1 (by have := k2.1; omega)]
  have k3 : Til ([q] ++ L.drop (i + 1)) c b := k2
  obtain ⟨d, m1, m2⟩ := k3.split
  have := m1.one
  show outc ([q] ++ L.drop (i + 1)) x = _
  rw [outc_left m2 (by omega), outc_one h1 h2]
/-! ### one more piece -/
def thru (x here beyond : Int) : LnR := (beyond - here, here - (beyond - here) * x)
theorem thru_here (x h b : Int) : lv (thru x h b) x = h := by unfold lv thru; simp only; omega
theorem thru_beyond (x h b : Int) : lv (thru x h b) (x + 1) = b := by
  unfold lv thru
  simp only
  rw [Int.mul_add]
  omega
def cont (q : Pce) (f e : Int) (l : Option LnR) : Pce :=
  match q.2.2, l with
  | none, none => (q.1, e, none)
  | none, some _ => q
  | some _, none => q
  | some h, some m =>
    if q.1 = q.2.1 then (q.1, if (thru q.1 (lv h q.1) (lv m f)).1 = m.1 then e else f, some (thru q.1 (lv h q.1) (lv m f)))
    else if lv h f = lv m f then (q.1, if h.1 = m.1 then e else f, some h) else q
structure Cont (q p q' : Pce) : Prop where
  fst : q'.1 = q.1
  lo : q.2.1 ≤ q'.2.1
  hi : q'.2.1 ≤ p.2.1
  old : ∀ x, q.1 ≤ x → x ≤ q.2.1 → oV q'.2.2 x = oV q.2.2 x
  new : ∀ x, p.1 ≤ x → x ≤ q'.2.1 → oV q'.2.2 x = oV p.2.2 x
theorem same_slope {h m : LnR} {f x : Int} (e : lv h f = lv m f) (s : h.1 = m.1) : lv h x = lv m x := by
  unfold lv at *
  rw [s] at e ⊢
  omega
theorem cont_ok {q p : Pce} (hq : q.1 ≤ q.2.1) (hp : p.1 ≤ p.2.1) (adj : q.2.1 + 1 = p.1) : Cont q p (cont q p.1 p.2.1 p.2.2) := by
  obtain ⟨s, e, l⟩ := q
  obtain ⟨f, t, m⟩ := p
  simp only at hq hp adj
  subst adj
  unfold cont
  cases l with
  | none =>
    cases m with
    | none => exact ⟨rfl, by simp only; omega, Int.le_refl _, fun _ _ _ => rfl, fun _ _ _ => rfl⟩
    | some m => exact ⟨rfl, Int.le_refl _, by simp only; omega, fun _ _ _ => rfl, fun x h1 h2 => absurd h1 (by simp only at h2 ⊢; omega)⟩
  | some h =>
    cases m with
    | none => exact ⟨rfl, Int.le_refl _, by simp only; omega, fun _ _ _ => rfl, fun x h1 h2 => absurd h1 (by simp only at h2 ⊢; omega)⟩
    | some m =>
      simp only
      by_cases c : s = e
      · rw [if_pos c]
        subst c
        refine ⟨rfl, ?_, ?_, fun x h1 h2 => ?_, fun x h1 h2 => ?_⟩
        · simp only; split <;> omega
        · simp only; split <;> omega
        · obtain rfl : x = s := by simp only at h1 h2; omega
          show some (lv _ _) = some (lv _ _)
          rw [thru_here]
        · show some (lv _ _) = some (lv _ _)
          simp only at h1 h2
          split at h2
          · next z =>
            rw [same_slope (f := s + 1) (thru_beyond _ _ _) z]
          · obtain rfl : x = s + 1 := by omega
            rw [thru_beyond]
      · rw [if_neg c]
        by_cases c2 : lv h (e + 1) = lv m (e + 1)
        · rw [if_pos c2]
          refine ⟨rfl, ?_, ?_, fun x h1 h2 => rfl, fun x h1 h2 => ?_⟩
          · simp only; split <;> omega
          · simp only; split <;> omega
          · show some (lv _ _) = some (lv _ _)
            simp only at h1 h2
            split at h2
            · next z => rw [same_slope c2 z]
            · obtain rfl : x = e + 1 := by omega
              rw [c2]
        · rw [if_neg c2]
          exact ⟨rfl, Int.le_refl _, by simp only; omega, fun _ _ _ => rfl, fun x h1 h2 => absurd h1 (by simp only at h2 ⊢; omega)⟩
def more (q' p : Pce) : List Pce := if q'.2.1 + 1 ≤ p.2.1 then [(q'.2.1 + 1, p.2.1, p.2.2)] else []
def stp (R : List Pce) (p : Pce) : List Pce :=
  match R.getLast? with
  | none => [p]
  | some q => R.dropLast ++ (cont q p.1 p.2.1 p.2.2 :: more (cont q p.1 p.2.1 p.2.2) p)
theorem stp_nil (p : Pce) : stp [] p = [p] := rfl
theorem stp_snoc (R : List Pce) (q p : Pce) : stp (R ++ [q]) p = R ++ (cont q p.1 p.2.1 p.2.2 :: more (cont q p.1 p.2.1 p.2.2) p) := by
  unfold stp
  rw [List.getLast?_append, List.dropLast_append]
  simp
/-- rows with the outcomes of pieces -/
structure Like (T R : List Pce) (a b : Int) : Prop where
  til : Til R a b
  out : ∀ x, a ≤ x → x < b → outc R x = outc T x
theorem Like.step {T R : List Pce} {a b : Int} {p : Pce} (hT : Til T a b) (h : Like T R a b) (hne : R ≠ [] ∨ T = []) (hp : p.1 = b) (hp2 : p.1 ≤ p.2.1) : Like (T ++ [p]) (stp R p) a (p.2.1 + 1) := by
  have tp : Til [p] b (p.2.1 + 1) := ⟨hp, by omega, rfl⟩
  rcases List.eq_nil_or_concat R with e | ⟨R', q, e⟩
  · subst e
    have hT0 : T = [] := hne.resolve_left (fun z => z rfl)
    subst hT0
    have ab : a = b := hT
    subst ab
    exact ⟨tp, fun x _ _ => rfl⟩
  · rw [List.concat_eq_append] at e
    subst e
    rw [stp_snoc]
    obtain ⟨c, k1, k2⟩ := h.til.split
    obtain ⟨q1, q2, q3⟩ := k2.one
    have C := cont_ok (q := q) (p := p) (by omega) hp2 (by omega)
    generalize cont q p.1 p.2.1 p.2.2 = q' at C
    obtain ⟨C1, C2, C3, C4, C5⟩ := C
    have t1 : Til [q'] c (q'.2.1 + 1) := ⟨by omega, by omega, rfl⟩
    have t2 : Til (more q' p) (q'.2.1 + 1) (p.2.1 + 1) := by
      unfold more
      by_cases z : q'.2.1 + 1 ≤ p.2.1
      · rw [if_pos z]; exact ⟨rfl, z, rfl⟩
      · rw [if_neg z]; show q'.2.1 + 1 = p.2.1 + 1; omega
    refine ⟨k1.app (t1.app t2), fun x hx1 hx2 => ?_⟩
    show outc (R' ++ ([q'] ++ more q' p)) x = _
    by_cases z1 : x < c
    · rw [outc_left (t1.app t2) z1, outc_left tp (by have := k2.le; omega), ← h.out x hx1 (by have := k2.le; omega), outc_left k2 z1]
    · rw [outc_right k1 (by omega)]
      by_cases z2 : x ≤ q'.2.1
      · rw [outc_left t2 (by omega), outc_one (by omega) z2]
        by_cases z3 : x ≤ q.2.1
        · rw [C4 x (by omega) z3, outc_left tp (by omega), ← h.out x hx1 (by omega), outc_right k1 (by omega), outc_one (by omega) z3]
        · rw [C5 x (by omega) z2, outc_right hT (by omega), outc_one (by omega) (by omega)]
      · rw [outc_right t1 (by omega), outc_right hT (by omega), outc_one (by omega) (by omega)]
        unfold more
        rw [if_pos (by omega), outc_one (by simp only; omega) (by simp only; omega)]
def plainP (q : Pce) : Pce := (q.1, q.2.1, if q.1 = q.2.1 then q.2.2.map (fun r => ((0 : Int), lv r q.1)) else q.2.2)
theorem til_plain : ∀ {L : List Pce} {a b : Int}, Til L a b → Til (L.map plainP) a b
  | [], _, _, h => h
  | q :: r, a, b, ⟨h1, h2, h3⟩ => ⟨h1, h2, til_plain h3⟩
theorem out_plain (L : List Pce) (x : Int) : outc (L.map plainP) x = outc L x := by
  unfold outc
  have e : (L.map plainP).filter (hit x) = (L.filter (hit x)).map plainP := by
    rw [List.filter_map]
    rfl
  rw [e]
  cases hL : L.filter (hit x) with
  | nil => rfl
  | cons q r =>
    have hq : hit x q = true := (List.mem_filter.mp (hL ▸ List.mem_cons_self : q ∈ L.filter (hit x))).2
    unfold hit at hq
    rw [Bool.and_eq_true] at hq
    have h1 := of_decide_eq_true hq.1
    have h2 := of_decide_eq_true hq.2
    show oV (plainP q).2.2 x = oV q.2.2 x
    unfold plainP
    simp only
    by_cases c : q.1 = q.2.1
    · rw [if_pos c]
      obtain rfl : x = q.1 := by omega
      cases q.2.2 with
      | none => rfl
      | some r =>
        show some (lv _ _) = some (lv _ _)
        unfold lv
        simp
    · rw [if_neg c]
def rowsF (L : List Pce) : List Pce := L.foldl stp []
def oneF (L : List Pce) : List Pce := (rowsF L).map plainP
theorem stp_ne (R : List Pce) (p : Pce) : stp R p ≠ [] := by
  rcases List.eq_nil_or_concat R with e | ⟨R', q, e⟩
  · subst e; rw [stp_nil]; simp
  · rw [List.concat_eq_append] at e
    subst e
    rw [stp_snoc]; simp
theorem rowsF_snoc (T : List Pce) (p : Pce) : rowsF (T ++ [p]) = stp (rowsF T) p := by unfold rowsF; rw [List.foldl_append]; rfl
theorem rowsF_ne {T : List Pce} (h : T ≠ []) : rowsF T ≠ [] := by
  rcases List.eq_nil_or_concat T with e | ⟨R', q, e⟩
  · exact absurd e h
  · rw [e, List.concat_eq_append, rowsF_snoc]; exact stp_ne _ _
theorem rowsF_like {a : Int} : ∀ (n : Nat) (T : List Pce) (b : Int), T.length = n → Til T a b → Like T (rowsF T) a b
  | 0, T, b, hn, h => by
    obtain rfl := List.eq_nil_of_length_eq_zero hn
    exact ⟨h, fun _ _ _ => rfl⟩
  | n + 1, T, b, hn, h => by
    rcases List.eq_nil_or_concat T with e | ⟨T', p, e⟩
    · subst e; cases hn
    · rw [List.concat_eq_append] at e
      subst e
      obtain ⟨c, k1, k2⟩ := h.split
      obtain ⟨p1, p2, p3⟩ := k2.one
      have ih := rowsF_like n T' c (by rw [List.length_append] at hn; simpa using hn) k1
      rw [rowsF_snoc, p3]
      refine ih.step k1 ?_ p1 (by omega)
      rcases List.eq_nil_or_concat T' with e | ⟨T2, p2, e⟩
      · exact .inr e
      · exact .inl (rowsF_ne (by rw [e]; simp))
theorem oneF_like {T : List Pce} {a b : Int} (h : Til T a b) : Like T (oneF T) a b := by
  have := rowsF_like _ T b rfl h
  exact ⟨til_plain this.til, fun x h1 h2 => by unfold oneF; rw [out_plain, this.out x h1 h2]⟩
theorem stp_len (R : List Pce) (p : Pce) : (stp R p).length ≤ R.length + 1 := by
  rcases List.eq_nil_or_concat R with e | ⟨R', q, e⟩
  · subst e; rw [stp_nil]; simp
  · rw [List.concat_eq_append] at e
    subst e
    rw [stp_snoc]
    unfold more
    split <;> simp
theorem rowsF_len : ∀ (n : Nat) (T : List Pce), T.length = n → (rowsF T).length ≤ n
  | 0, T, hn => by
    obtain rfl := List.eq_nil_of_length_eq_zero hn
    exact Nat.le_refl _
  | n + 1, T, hn => by
    rcases List.eq_nil_or_concat T with e | ⟨T', p, e⟩
    · subst e; cases hn
    · rw [List.concat_eq_append] at e
      subst e
      rw [List.length_append] at hn
      have ih := rowsF_len n T' (by simpa using hn)
      have := stp_len (rowsF T') p
      rw [rowsF_snoc]
      omega
theorem oneF_len (T : List Pce) : (oneF T).length ≤ T.length := by unfold oneF; rw [List.length_map]; exact rowsF_len _ T rfl
/-! ### how great the numbers are -/
def Sm (r : LnR) : Prop := r.1.natAbs < 2 ^ 200 ∧ r.2.natAbs < 2 ^ 200
def Wd (r : LnR) : Prop := r.1.natAbs < 2 ^ 420 ∧ r.2.natAbs < 2 ^ 420
theorem Sm.wd {r : LnR} (h : Sm r) : Wd r := ⟨Nat.lt_of_lt_of_le h.1 (Nat.pow_le_pow_right (by decide) (by decide)), Nat.lt_of_lt_of_le h.2 (Nat.pow_le_pow_right (by decide) (by decide))⟩
def Plc (x : Int) : Prop := 0 ≤ x ∧ x ≤ 10 ^ 30
theorem natAbs_mul_lt {a b : Int} {n m : Nat} (ha : a.natAbs < 2 ^ n) (hb : b.natAbs < 2 ^ m) : (a * b).natAbs < 2 ^ (n + m) := by
  rw [Int.natAbs_mul, Nat.pow_add]
  exact Nat.mul_lt_mul'' ha hb
theorem Plc.bits {x : Int} (h : Plc x) : x.natAbs < 2 ^ 100 := by
  obtain ⟨h0, h1⟩ := h
  have : x.natAbs ≤ 10 ^ 30 := by omega
  have e : (10 : Nat) ^ 30 < 2 ^ 100 := by decide
  omega
theorem Sm.val {r : LnR} (h : Sm r) {x : Int} (hx : x.natAbs < 2 ^ 101) : (lv r x).natAbs < 2 ^ 302 := by
  have h1 := natAbs_mul_lt h.1 hx
  have h2 := h.2
  have t := Int.natAbs_add_le (r.1 * x) r.2
  unfold lv
  have e1 : (2 : Nat) ^ 302 = 2 ^ 301 + 2 ^ 301 := by rw [show (302 : Nat) = 301 + 1 from rfl, Nat.pow_succ]; omega
  have e2 : (2 : Nat) ^ 200 ≤ 2 ^ 301 := Nat.pow_le_pow_right (by decide) (by decide)
  have h1' : (r.1 * x).natAbs < 2 ^ 301 := h1
  omega
theorem thru_wd {x h b : Int} (hx : x.natAbs < 2 ^ 101) (hh : h.natAbs < 2 ^ 302) (hb : b.natAbs < 2 ^ 302) : Wd (thru x h b) := by
  have e1 : (2 : Nat) ^ 303 = 2 ^ 302 + 2 ^ 302 := by rw [show (303 : Nat) = 302 + 1 from rfl, Nat.pow_succ]; omega
  have s1 : (b - h).natAbs < 2 ^ 303 := by omega
  have s2 := natAbs_mul_lt s1 hx
  have e2 : (2 : Nat) ^ 303 ≤ 2 ^ 420 := Nat.pow_le_pow_right (by decide) (by decide)
  have e3 : (2 : Nat) ^ 302 ≤ 2 ^ 418 := Nat.pow_le_pow_right (by decide) (by decide)
  have e4 : (2 : Nat) ^ (303 + 101) ≤ 2 ^ 418 := Nat.pow_le_pow_right (by decide) (by decide)
  have e5 : (2 : Nat) ^ 420 = 2 ^ 418 + 2 ^ 418 + 2 ^ 418 + 2 ^ 418 := by rw [show (420 : Nat) = 418 + 1 + 1 from rfl, Nat.pow_succ, Nat.pow_succ]; omega
  refine ⟨by unfold thru; simp only; omega, ?_⟩
  unfold thru
  simp only
  have t := Int.natAbs_sub_le h ((b - h) * x)
  omega
/-- a piece's line is not too great, its values are small where it holds -/
structure Bq (q : Pce) : Prop where
  p1 : Plc q.1
  p2 : Plc q.2.1
  wd : ∀ r, q.2.2 = some r → Wd r
  vb : ∀ r, q.2.2 = some r → ∀ x, q.1 ≤ x → x ≤ q.2.1 → (lv r x).natAbs < 2 ^ 302
/-- a piece with a small line -/
structure Tq (q : Pce) : Prop where
  p1 : Plc q.1
  p2 : Plc q.2.1
  sm : ∀ r, q.2.2 = some r → Sm r
theorem Tq.bq {q : Pce} (h : Tq q) : Bq q := ⟨h.p1, h.p2, fun r e => (h.sm r e).wd, fun r e x h1 h2 => (h.sm r e).val (Nat.lt_of_lt_of_le (Plc.bits ⟨Int.le_trans h.p1.1 h1, Int.le_trans h2 h.p2.2⟩) (by decide))⟩
theorem oV_some {l : Option LnR} {x v : Int} (h : oV l x = some v) : ∃ r, l = some r ∧ lv r x = v := by
  cases l with
  | none => cases h
  | some r => exact ⟨r, rfl, Option.some.inj h⟩
theorem cont_bq {q p : Pce} (hq : q.1 ≤ q.2.1) (hp : p.1 ≤ p.2.1) (adj : q.2.1 + 1 = p.1) (B : Bq q) (T : Bq p) : Bq (cont q p.1 p.2.1 p.2.2) := by
  have C := cont_ok hq hp adj
  have P2 : Plc (cont q p.1 p.2.1 p.2.2).2.1 := ⟨by have := B.p2.1; have := C.lo; omega, by have := T.p2.2; have := C.hi; omega⟩
  have P1 : Plc (cont q p.1 p.2.1 p.2.2).1 := by rw [C.fst]; exact B.p1
  refine ⟨P1, P2, ?_, fun r hr x h1 h2 => ?_⟩
  · clear C P1 P2
    obtain ⟨s, e, l⟩ := q
    obtain ⟨f, t, m⟩ := p
    simp only at hq hp adj
    subst adj
    unfold cont
    intro r hr
    cases l with
    | none => cases m <;> simp only at hr <;> cases hr
    | some h =>
      cases m with
      | none => exact B.wd r hr
      | some m =>
        simp only at hr
        by_cases c : s = e
        · rw [if_pos c] at hr
          cases hr
          subst c
          exact thru_wd (Nat.lt_of_lt_of_le B.p1.bits (by decide)) (B.vb h rfl _ (Int.le_refl _) (Int.le_refl _)) (T.vb m rfl _ (Int.le_refl _) hp)
        · rw [if_neg c] at hr
          by_cases c2 : lv h (e + 1) = lv m (e + 1)
          · rw [if_pos c2] at hr
            cases hr
            exact B.wd _ rfl
          · rw [if_neg c2] at hr
            exact B.wd r hr
  · rw [C.fst] at h1
    by_cases hx : x ≤ q.2.1
    · have e := C.old x h1 hx
      rw [hr] at e
      obtain ⟨h, eh, ev⟩ := oV_some e.symm
      have ev : lv h x = lv r x := ev
      rw [← ev]
      exact B.vb h eh x h1 hx
    · have e := C.new x (by omega) h2
      rw [hr] at e
      obtain ⟨h, eh, ev⟩ := oV_some e.symm
      have ev : lv h x = lv r x := ev
      rw [← ev]
      exact T.vb h eh x (by omega) (Int.le_trans h2 C.hi)
theorem stp_bq {T R : List Pce} {a b : Int} {p : Pce} (h : Like T R a b) (hB : ∀ q ∈ R, Bq q) (hp : p.1 = b) (hp2 : p.1 ≤ p.2.1) (hT : Bq p) : ∀ q ∈ stp R p, Bq q := by
  rcases List.eq_nil_or_concat R with e | ⟨R', q, e⟩
  · subst e
    rw [stp_nil]
    intro q hq
    rw [List.mem_singleton.mp hq]
    exact hT
  · rw [List.concat_eq_append] at e
    subst e
    rw [stp_snoc]
    obtain ⟨c, k1, k2⟩ := h.til.split
    obtain ⟨q1, q2, q3⟩ := k2.one
    have B := hB q (List.mem_append_right _ List.mem_cons_self)
    have C := cont_ok (q := q) (p := p) (by omega) hp2 (by omega)
    have D := cont_bq (q := q) (p := p) (by omega) hp2 (by omega) B hT
    intro z hz
    rcases List.mem_append.mp hz with m | m
    · exact hB z (List.mem_append_left _ m)
    · rcases List.mem_cons.mp m with m | m
      · rw [m]; exact D
      · unfold more at m
        split at m
        · rw [List.mem_singleton.mp m]
          have := C.lo
          have := B.p2.1
          have t2 := hT.p2.2
          exact ⟨⟨by simp only; omega, by simp only; omega⟩, hT.p2, hT.wd, fun r e x h1 h2 => hT.vb r e x (by simp only at h1; omega) h2⟩
        · cases m
theorem rowsF_bq {a : Int} : ∀ (n : Nat) (T : List Pce) (b : Int), T.length = n → Til T a b → (∀ q ∈ T, Bq q) → ∀ q ∈ rowsF T, Bq q
  | 0, T, b, hn, h, _ => by
    obtain rfl := List.eq_nil_of_length_eq_zero hn
    intro q hq
    cases hq
  | n + 1, T, b, hn, h, hT => by
    rcases List.eq_nil_or_concat T with e | ⟨T', p, e⟩
    · subst e; cases hn
    · rw [List.concat_eq_append] at e
      subst e
      obtain ⟨c, k1, k2⟩ := h.split
      obtain ⟨p1, p2, p3⟩ := k2.one
      have hn' : T'.length = n := by rw [List.length_append] at hn; simpa using hn
      have ih := rowsF_bq n T' c hn' k1 fun q hq => hT q (List.mem_append_left _ hq)
      rw [rowsF_snoc]
      exact stp_bq (rowsF_like n T' c hn' k1) ih p1 (by omega) (hT p (List.mem_append_right _ List.mem_cons_self))
theorem plain_bq {q : Pce} (h : Bq q) : Bq (plainP q) := by
  refine ⟨h.p1, h.p2, fun r e => ?_, fun r e x h1 h2 => ?_⟩
  · unfold plainP at e
    simp only at e
    split at e
    · next z =>
      cases h0 : q.2.2 with
      | none => rw [h0] at e; cases e
      | some r0 =>
        rw [h0] at e
        cases e
        exact ⟨Nat.pow_pos (by decide), Nat.lt_of_lt_of_le (h.vb r0 h0 q.1 (Int.le_refl _) (by omega)) (Nat.pow_le_pow_right (by decide) (by decide))⟩
    · exact h.wd r e
  · unfold plainP at e h1 h2
    simp only at e h1 h2
    split at e
    · next z =>
      cases h0 : q.2.2 with
      | none => rw [h0] at e; cases e
      | some r0 =>
        rw [h0] at e
        cases e
        have e2 : lv ((0 : Int), lv r0 q.1) x = lv r0 q.1 := by show 0 * x + lv r0 q.1 = _; omega
        rw [e2]
        exact h.vb r0 h0 q.1 (Int.le_refl _) (by omega)
    · exact h.vb r e x h1 h2
theorem oneF_bq {T : List Pce} {a b : Int} (h : Til T a b) (hT : ∀ q ∈ T, Bq q) : ∀ q ∈ oneF T, Bq q := by
  intro q hq
  unfold oneF at hq
  obtain ⟨q0, m, rfl⟩ := List.mem_map.mp hq
  exact plain_bq (rowsF_bq _ T b rfl h hT q0 m)
end OR

namespace OR
/-! ### the one form depends on the outcomes alone -/
/-- where a piece must end, by the outcome f at the next place -/
def Stop (q : Pce) (v : Option Int) : Prop := match q.2.2 with
  | none => v ≠ none
  | some h => if q.1 = q.2.1 then v = none else v ≠ some (lv h (q.2.1 + 1))
def Can (f : Int → Option Int) : List Pce → Int → Int → Prop
  | [], a, b => a = b
  | q :: r, a, b => q.1 = a ∧ a ≤ q.2.1 ∧ (∀ x, a ≤ x → x ≤ q.2.1 → oV q.2.2 x = f x) ∧ Can f r (q.2.1 + 1) b ∧ (r ≠ [] → Stop q (f (q.2.1 + 1))) ∧ (q.1 = q.2.1 → ∀ h, q.2.2 = some h → h.1 = 0)
theorem Can.le {f : Int → Option Int} : ∀ {L : List Pce} {a b : Int}, Can f L a b → a ≤ b
  | [], _, _, h => by have : _ = _ := h; omega
  | q :: r, a, b, ⟨h1, h2, _, h3, _⟩ => by have := Can.le h3; omega
theorem line_two {h h' : LnR} {a : Int} (e1 : lv h a = lv h' a) (e2 : lv h (a + 1) = lv h' (a + 1)) : h = h' := by
  obtain ⟨s, t⟩ := h
  obtain ⟨s', t'⟩ := h'
  unfold lv at e1 e2
  simp only at e1 e2
  rw [Int.mul_add, Int.mul_add] at e2
  have : s = s' := by omega
  subst this
  have : t = t' := by omega
  rw [this]
theorem can_end {f : Int → Option Int} {q q' : Pce} {r r' : List Pce} {a b : Int} (h : Can f (q :: r) a b) (h' : Can f (q' :: r') a b) : ¬ q.2.1 < q'.2.1 := by
  obtain ⟨h1, h2, h3, h4, h5, h6⟩ := h
  obtain ⟨k1, k2, k3, k4, k5, k6⟩ := h'
  intro lt
  have le' := k4.le
  have rne : r ≠ [] := fun e => by
    rw [e] at h4
    have : q.2.1 + 1 = b := h4
    omega
  have st := h5 rne
  have fx := k3 (q.2.1 + 1) (by omega) (by omega)
  have fa := h3 a (Int.le_refl _) h2
  have fa' := k3 a (Int.le_refl _) k2
  unfold Stop at st
  cases hl : q.2.2 with
  | none =>
    rw [hl] at st fa
    simp only at st
    cases hl' : q'.2.2 with
    | none => rw [hl'] at fx; exact st fx.symm
    | some m => rw [hl', ← fa] at fa'; cases fa'
  | some h =>
    rw [hl] at st fa h3
    simp only at st
    cases hl' : q'.2.2 with
    | none => rw [hl', ← fa] at fa'; cases fa'
    | some m =>
      rw [hl'] at fx k3
      by_cases c : q.1 = q.2.1
      · rw [if_pos c, ← fx] at st; cases st
      · rw [if_neg c] at st
        have e1 : lv h a = lv m a := Option.some.inj ((h3 a (Int.le_refl _) h2).trans (k3 a (Int.le_refl _) k2).symm)
        have e2 : lv h (a + 1) = lv m (a + 1) := Option.some.inj ((h3 (a + 1) (by omega) (by omega)).trans (k3 (a + 1) (by omega) (by omega)).symm)
        rw [line_two e1 e2] at st
        exact st fx.symm
theorem can_uniq {f : Int → Option Int} : ∀ {R R' : List Pce} {a b : Int}, Can f R a b → Can f R' a b → R = R'
  | [], [], _, _, _, _ => rfl
  | [], q :: r, a, b, h, ⟨_, k2, _, k4, _⟩ => by
    have e : a = b := h
    have := k4.le
    omega
  | q :: r, [], a, b, ⟨_, k2, _, k4, _⟩, h => by
    have e : a = b := h
    have := k4.le
    omega
  | q :: r, q' :: r', a, b, h, h' => by
    have n1 := can_end h h'
    have n2 := can_end h' h
    obtain ⟨h1, h2, h3, h4, h5, h6⟩ := h
    obtain ⟨k1, k2, k3, k4, k5, k6⟩ := h'
    have ee : q.2.1 = q'.2.1 := by omega
    have el : q.2.2 = q'.2.2 := by
      have fa := (h3 a (Int.le_refl _) h2).trans (k3 a (Int.le_refl _) k2).symm
      cases hl : q.2.2 with
      | none =>
        cases hl' : q'.2.2 with
        | none => rfl
        | some m => rw [hl, hl'] at fa; cases fa
      | some h =>
        cases hl' : q'.2.2 with
        | none => rw [hl, hl'] at fa; cases fa
        | some m =>
          rw [hl, hl'] at fa
          have e1 : lv h a = lv m a := Option.some.inj fa
          by_cases c : q.1 = q.2.1
          · have s1 := h6 c h hl
            have s2 := k6 (by omega) m hl'
            obtain ⟨s, t⟩ := h
            obtain ⟨s', t'⟩ := m
            simp only at s1 s2
            subst s1 s2
            unfold lv at e1
            simp only at e1
            have : t = t' := by omega
            rw [this]
          · have e2 : lv h (a + 1) = lv m (a + 1) := by
              have z := (h3 (a + 1) (by omega) (by omega)).trans (k3 (a + 1) (by omega) (by omega)).symm
              rw [hl, hl'] at z
              exact Option.some.inj z
            rw [line_two e1 e2]
    have eq : q = q' := by
      obtain ⟨s, e, l⟩ := q
      obtain ⟨s', e', l'⟩ := q'
      simp only at ee el h1 k1
      rw [h1, k1, ee, el]
    rw [eq] at h4 ⊢
    rw [can_uniq h4 k4]
/-- rows whose last piece is open -/
def CanP (f : Int → Option Int) : List Pce → Int → Int → Prop
  | [], a, b => a = b
  | q :: r, a, b => q.1 = a ∧ a ≤ q.2.1 ∧ (∀ x, a ≤ x → x ≤ q.2.1 → oV q.2.2 x = f x) ∧ CanP f r (q.2.1 + 1) b ∧ (r ≠ [] → Stop q (f (q.2.1 + 1)))
theorem canP_split {f : Int → Option Int} : ∀ {R : List Pce} {q : Pce} {a c : Int}, CanP f (R ++ [q]) a c → ∃ d, CanP f R a d ∧ (∀ R0 z, R = R0 ++ [z] → Stop z (f d)) ∧ q.1 = d ∧ d ≤ q.2.1 ∧ (∀ x, d ≤ x → x ≤ q.2.1 → oV q.2.2 x = f x) ∧ c = q.2.1 + 1
  | [], q, a, c, ⟨h1, h2, h3, h4, _⟩ => ⟨a, rfl, (fun R0 z e => absurd e.symm (List.append_ne_nil_of_right_ne_nil _ (List.cons_ne_nil _ _))), h1, h2, h3, (show q.2.1 + 1 = c from h4).symm⟩
  | p :: R, q, a, c, ⟨h1, h2, h3, h4, h5⟩ => by
    obtain ⟨d, k1, k2, k3⟩ := canP_split h4
    have st := h5 (List.append_ne_nil_of_right_ne_nil _ (List.cons_ne_nil _ _))
    refine ⟨d, ⟨h1, h2, h3, k1, fun _ => st⟩, fun R0 z e => ?_, k3⟩
    cases R with
    | nil =>
      have e0 : p.2.1 + 1 = d := k1
      cases R0 with
      | nil =>
        rw [List.nil_append] at e
        cases e
        rw [← e0]; exact st
      | cons x R0 =>
        rw [List.cons_append] at e
        injection e with _ e
        exact absurd e.symm (List.append_ne_nil_of_right_ne_nil _ (List.cons_ne_nil _ _))
    | cons y R =>
      cases R0 with
      | nil => rw [List.nil_append] at e; injection e with _ e; cases e
      | cons x R0 =>
        rw [List.cons_append] at e
        injection e with _ e
        exact k2 R0 z e
theorem canP_join {f : Int → Option Int} : ∀ {R : List Pce} {q : Pce} {a d : Int}, CanP f R a d → (∀ R0 z, R = R0 ++ [z] → Stop z (f d)) → q.1 = d → d ≤ q.2.1 → (∀ x, d ≤ x → x ≤ q.2.1 → oV q.2.2 x = f x) → CanP f (R ++ [q]) a (q.2.1 + 1)
  | [], q, a, d, h, _, h1, h2, h3 => by
    have e : a = d := h
    subst e
    exact ⟨h1, h2, h3, rfl, fun z => absurd rfl z⟩
  | p :: R, q, a, d, ⟨h1, h2, h3, h4, h5⟩, k, k1, k2, k3 => by
    refine ⟨h1, h2, h3, canP_join h4 (fun R0 z e => k (p :: R0) z (by rw [e]; rfl)) k1 k2 k3, fun _ => ?_⟩
    cases R with
    | nil =>
      have e0 : p.2.1 + 1 = d := h4
      rw [e0]
      exact k [] p rfl
    | cons y R => exact h5 (List.cons_ne_nil _ _)
theorem cont_stop {f : Int → Option Int} {q p : Pce} (hq : q.1 ≤ q.2.1) (adj : q.2.1 + 1 = p.1) (hf : ∀ x, p.1 ≤ x → x ≤ p.2.1 → oV p.2.2 x = f x) (hm : (cont q p.1 p.2.1 p.2.2).2.1 + 1 ≤ p.2.1) : Stop (cont q p.1 p.2.1 p.2.2) (f ((cont q p.1 p.2.1 p.2.2).2.1 + 1)) := by
  obtain ⟨s, e, l⟩ := q
  obtain ⟨g, t, m⟩ := p
  simp only at hq adj hf
  subst adj
  unfold cont at hm ⊢
  unfold Stop
  cases l with
  | none =>
    cases m with
    | none => simp only at hm; omega
    | some m =>
      simp only at hm ⊢
      rw [← hf (e + 1) (Int.le_refl _) (by omega)]
      exact fun z => nomatch z
  | some h =>
    cases m with
    | none =>
      simp only at hm ⊢
      rw [← hf (e + 1) (Int.le_refl _) (by omega)]
      split
      · rfl
      · exact fun z => nomatch z
    | some m =>
      simp only at hm ⊢
      by_cases c : s = e
      · rw [if_pos c] at hm ⊢
        simp only at hm ⊢
        by_cases c2 : (thru s (lv h s) (lv m (e + 1))).1 = m.1
        · rw [if_pos c2] at hm; omega
        · rw [if_neg c2] at hm ⊢
          rw [if_neg (by omega), ← hf (e + 1 + 1) (by omega) (by omega)]
          intro z
          have z : lv m (e + 1 + 1) = lv (thru s (lv h s) (lv m (e + 1))) (e + 1 + 1) := Option.some.inj z
          have y : lv m (e + 1) = lv (thru s (lv h s) (lv m (e + 1))) (e + 1) := by
            rw [← c]; exact (thru_beyond _ _ _).symm
          exact c2 (congrArg (·.1) (line_two y z)).symm
      · rw [if_neg c] at hm ⊢
        by_cases c3 : lv h (e + 1) = lv m (e + 1)
        · rw [if_pos c3] at hm ⊢
          simp only at hm ⊢
          by_cases c2 : h.1 = m.1
          · rw [if_pos c2] at hm; omega
          · rw [if_neg c2] at hm ⊢
            rw [if_neg (by omega), ← hf (e + 1 + 1) (by omega) (by omega)]
            intro z
            have z : lv m (e + 1 + 1) = lv h (e + 1 + 1) := Option.some.inj z
            exact c2 (congrArg (·.1) (line_two c3.symm z)).symm
        · rw [if_neg c3] at hm ⊢
          simp only at hm ⊢
          rw [if_neg c, ← hf (e + 1) (Int.le_refl _) (by omega)]
          intro z
          exact c3 (Option.some.inj z).symm
theorem stp_can {f : Int → Option Int} {R : List Pce} {a c : Int} {p : Pce} (h : CanP f R a c) (hne : R ≠ [] ∨ a = c) (hp : p.1 = c) (hp2 : p.1 ≤ p.2.1) (hf : ∀ x, p.1 ≤ x → x ≤ p.2.1 → oV p.2.2 x = f x) : CanP f (stp R p) a (p.2.1 + 1) := by
  rcases List.eq_nil_or_concat R with e | ⟨R', q, e⟩
  · subst e
    have e0 : a = c := h
    rw [stp_nil]
    exact ⟨by omega, by omega, (fun x h1 h2 => hf x (by omega) h2), rfl, fun z => absurd rfl z⟩
  · rw [List.concat_eq_append] at e
    subst e
    rw [stp_snoc]
    obtain ⟨d, k1, k2, k3, k4, k5, k6⟩ := canP_split h
    have C := cont_ok (q := q) (p := p) (by omega) hp2 (by omega)
    have val : ∀ x, d ≤ x → x ≤ (cont q p.1 p.2.1 p.2.2).2.1 → oV (cont q p.1 p.2.1 p.2.2).2.2 x = f x := fun x h1 h2 => by
      by_cases z : x ≤ q.2.1
      · rw [C.old x (by omega) z]; exact k5 x h1 z
      · rw [C.new x (by omega) h2]; exact hf x (by omega) (Int.le_trans h2 C.hi)
    have lo := C.lo
    have hi := C.hi
    have J := canP_join k1 k2 (C.fst.trans k3) (by omega) val
    unfold more
    split
    · next hm =>
      have e2 : R' ++ [cont q p.1 p.2.1 p.2.2, ((cont q p.1 p.2.1 p.2.2).2.1 + 1, p.2.1, p.2.2)] = (R' ++ [cont q p.1 p.2.1 p.2.2]) ++ [((cont q p.1 p.2.1 p.2.2).2.1 + 1, p.2.1, p.2.2)] := by rw [List.append_assoc]; rfl
      rw [e2]
      refine canP_join (q := ((cont q p.1 p.2.1 p.2.2).2.1 + 1, p.2.1, p.2.2)) J (fun R0 z ez => ?_) rfl hm (fun x h1 h2 => hf x (by omega) h2)
      have ez := List.append_inj_right' ez rfl
      cases ez
      exact cont_stop (by omega) (by omega) hf hm
    · next hm =>
      have e3 : (cont q p.1 p.2.1 p.2.2).2.1 = p.2.1 := by omega
      have J2 := J
      generalize (cont q p.1 p.2.1 p.2.2).2.1 = z at J2 e3
      subst e3
      exact J2
theorem rowsF_can {f : Int → Option Int} {a : Int} : ∀ (n : Nat) (T : List Pce) (b : Int), T.length = n → Til T a b → (∀ x, a ≤ x → x < b → outc T x = f x) → CanP f (rowsF T) a b
  | 0, T, b, hn, h, _ => by
    obtain rfl := List.eq_nil_of_length_eq_zero hn
    exact h
  | n + 1, T, b, hn, h, ho => by
    rcases List.eq_nil_or_concat T with e | ⟨T', p, e⟩
    · subst e; cases hn
    · rw [List.concat_eq_append] at e
      subst e
      obtain ⟨c, k1, k2⟩ := h.split
      obtain ⟨p1, p2, p3⟩ := k2.one
      have hn' : T'.length = n := by rw [List.length_append] at hn; simpa using hn
      have ih := rowsF_can (f := f) n T' c hn' k1 fun x h1 h2 => (outc_left k2 h2).symm.trans (ho x h1 (by omega))
      rw [rowsF_snoc, p3]
      refine stp_can ih ?_ p1 (by omega) fun x h1 h2 => ?_
      · cases T' with
        | nil => exact .inr k1
        | cons z r => exact .inl (rowsF_ne (List.cons_ne_nil _ _))
      · have ca := k1.le
        rw [← ho x (by omega) (by omega), outc_right k1 (by omega), outc_one h1 h2]
theorem can_plain {f : Int → Option Int} : ∀ {L : List Pce} {a b : Int}, CanP f L a b → Can f (L.map plainP) a b
  | [], _, _, h => h
  | q :: r, a, b, ⟨h1, h2, h3, h4, h5⟩ => by
    have pv : ∀ x, q.1 ≤ x → x ≤ q.2.1 → oV (plainP q).2.2 x = oV q.2.2 x := fun x k1 k2 => by
      unfold plainP
      simp only
      split
      · next z =>
        cases q.2.2 with
        | none => rfl
        | some h =>
          show some (lv (0, lv h q.1) x) = some (lv h x)
          have : x = q.1 := by omega
          rw [this]
          show some (0 * q.1 + lv h q.1) = _
          rw [Int.zero_mul, Int.zero_add]
      · rfl
    refine ⟨h1, h2, (fun x k1 k2 => by rw [pv x (by omega) k2]; exact h3 x k1 k2), can_plain h4, fun ne => ?_, fun e h eh => ?_⟩
    · have st := h5 fun e => ne (by rw [e]; rfl)
      unfold Stop at st ⊢
      show match (plainP q).2.2 with | none => _ | some h => if q.1 = q.2.1 then f (q.2.1 + 1) = none else f (q.2.1 + 1) ≠ some (lv h (q.2.1 + 1))
      unfold plainP
      simp only
      by_cases c : q.1 = q.2.1
      · rw [if_pos c]
        cases hl : q.2.2 with
        | none => rw [hl] at st; exact st
        | some h => rw [hl] at st; simp only at st; rw [if_pos c] at st; show if q.1 = q.2.1 then _ else _; rw [if_pos c]; exact st
      · rw [if_neg c]; exact st
    · have e : q.1 = q.2.1 := e
      unfold plainP at eh
      simp only at eh
      rw [if_pos e] at eh
      cases hl : q.2.2 with
      | none => rw [hl] at eh; cases eh
      | some h0 => rw [hl] at eh; cases eh; rfl
/-- pieces with the same outcomes have the same one form -/
theorem oneF_canon {T T' : List Pce} {a b : Int} (h : Til T a b) (h' : Til T' a b) (e : ∀ x, a ≤ x → x < b → outc T x = outc T' x) : oneF T = oneF T' :=
  can_uniq (can_plain (rowsF_can (f := outc T) _ T b rfl h fun _ _ _ => rfl)) (can_plain (rowsF_can (f := outc T) _ T' b rfl h' fun x h1 h2 => (e x h1 h2).symm))
end OR

namespace OR
open PySem PySem.Spec PyProof.Rows L2
open TL (tl numL)
inductive All2 {α β : Type} (p : α → β → Prop) : List α → List β → Prop where
  | nil : All2 p [] []
  | cons {a : α} {b : β} {as : List α} {bs : List β} (h : p a b) (t : All2 p as bs) : All2 p (a :: as) (b :: bs)
abbrev Row := Int × Int
def mem (l : List Row) (x : Int) : Prop := ∃ r ∈ l, r.1 ≤ x ∧ x ≤ r.2
namespace All2
variable {α β : Type} {p q : α → β → Prop}
theorem length : ∀ {as : List α} {bs : List β}, All2 p as bs → as.length = bs.length
  | _, _, .nil => rfl
  | _, _, .cons _ t => by rw [List.length_cons, List.length_cons, t.length]
theorem imp (f : ∀ a b, p a b → q a b) : ∀ {as : List α} {bs : List β}, All2 p as bs → All2 q as bs
  | _, _, .nil => .nil
  | _, _, .cons h t => .cons (f _ _ h) (t.imp f)
theorem append : ∀ {as as' : List α} {bs bs' : List β}, All2 p as bs → All2 p as' bs' → All2 p (as ++ as') (bs ++ bs')
  | _, _, _, _, .nil, h => h
  | _, _, _, _, .cons h t, h' => .cons h (t.append h')
theorem get : ∀ {as : List α} {bs : List β}, All2 p as bs → ∀ {i : Nat} {a : α} {b : β}, as[i]? = some a → bs[i]? = some b → p a b
  | _, _, .nil, _, _, _, h, _ => by simp at h
  | _, _, .cons h _, 0, _, _, h1, h2 => by
    simp at h1 h2
    subst h1 h2
    exact h
  | _, _, .cons _ t, i + 1, _, _, h1, h2 => t.get (i := i) (by simpa using h1) (by simpa using h2)
theorem getL : ∀ {as : List α} {bs : List β}, All2 p as bs → ∀ {i : Nat} {a : α}, as[i]? = some a → ∃ b, bs[i]? = some b ∧ p a b
  | _, _, .nil, _, _, h => by simp at h
  | _, _, .cons (b := b) h _, 0, _, h1 => by
    simp at h1
    subst h1
    exact ⟨b, rfl, h⟩
  | _, _, .cons _ t, i + 1, _, h1 => t.getL (i := i) (by simpa using h1)
theorem take : ∀ {as : List α} {bs : List β}, All2 p as bs → ∀ n, All2 p (as.take n) (bs.take n)
  | _, _, .nil, n => by simp; exact .nil
  | _, _, .cons h t, 0 => by simp; exact .nil
  | _, _, .cons h t, n + 1 => by rw [List.take_succ_cons, List.take_succ_cons]; exact .cons h (t.take n)
theorem drop : ∀ {as : List α} {bs : List β}, All2 p as bs → ∀ n, All2 p (as.drop n) (bs.drop n)
  | _, _, .nil, n => by simp; exact .nil
  | _, _, .cons h t, 0 => by rw [List.drop_zero, List.drop_zero]; exact .cons h t
  | _, _, .cons h t, n + 1 => by rw [List.drop_succ_cons, List.drop_succ_cons]; exact t.drop n
theorem mem : ∀ {as : List α} {bs : List β}, All2 p as bs → ∀ {a : α}, a ∈ as → ∃ b, b ∈ bs ∧ p a b
  | _, _, .nil, _, h => nomatch h
  | _, _, .cons (b := b) h t, a, hm => by
    rcases List.mem_cons.mp hm with e | e
    · subst e
      exact ⟨b, List.mem_cons_self, h⟩
    · obtain ⟨c, hc, hp⟩ := t.mem e
      exact ⟨c, List.mem_cons_of_mem _ hc, hp⟩
end All2
theorem iteA {p q : Prop} {b : Bool} (h : b = true) (x : p) : if b = true then p else q := by rw [if_pos h]; exact x
theorem iteB {b : Bool} {A B : Prop} (h : b = false) (k : B) : if b = true then A else B := by
  subst h
  exact k
theorem set_last (xs : List V) (v u : V) : (xs ++ [v]).set xs.length u = xs ++ [u] := by
  rw [List.set_append_right _ _ (Nat.le_refl _), Nat.sub_self]
  rfl
theorem ixN_last (n : Nat) : ixN (n + 1) (-1) = some n := by
  unfold ixN
  rw [if_neg (by omega), if_pos (by omega)]
  congr 1
  omega
def rTupOf (K : PySem.W.Frag) : List V → Hp → VK → Prop := fun xs H Q => ∃ p ys, xs = [.ref p] ∧ ((SqL K H p ys ∧ ∀ l, H l = none → Q (.ref l) (upd H l (.tup ys))) ∨ (SqT K H p ys ∧ Q (.ref p) H))
theorem call_tupOf {X : Cx} (K : PySem.W.Frag) (h : X.K = K) : CallR X (.type "tuple") (rTupOf K) := by
  subst h
  exact call_tuple_of
theorem all2_get {α β : Type} {p : α → β → Prop} : ∀ {xs : List α} {ys : List β}, All2 p xs ys → ∀ {i : Nat} {x : α}, xs[i]? = some x → ∃ y, ys[i]? = some y ∧ p x y
  | _, _, .nil, i, x, h => by simp at h
  | _, _, .cons (b := b) a t, 0, x, h => by cases (show _ = x from Option.some.inj h); exact ⟨b, rfl, a⟩
  | _, _, .cons a t, i + 1, x, h => all2_get t (i := i) h
section
variable {P : Program} {w : World} {K : PySem.W.Frag} {mg : Str → Option Value} {base : Heap} {C : Nat → Addr} {CP CR EB : Addr}
theorem all2_snoc {α β : Type} {q : α → β → Prop} {xs : List α} {ys : List β} {x : α} {y : β} (h : All2 q xs ys) (e : q x y) : All2 q (xs ++ [x]) (ys ++ [y]) := h.append (.cons e .nil)
end
/-- an item of a list or a tuple -/
def rIxA (K : PySem.W.Frag) : R2 := fun x y H Q => ∃ p xs i v, x = .ref p ∧ y = .int i ∧ (SqL K H p xs ∨ SqT K H p xs) ∧ atI xs i = some v ∧ Q v H
theorem ix_any {X : Cx} (K : PySem.W.Frag) (hK : X.K = K) : IxR X (rIxA K) := by
  subst hK
  intro value slice pins s σ H x y v u Q I rx ry h hs
  obtain ⟨p, xs, i, z, hx, hy, hq | hq, he, q⟩ := h
  · exact ix_list value slice pins s σ H x y v u Q I rx ry ⟨p, xs, i, z, hx, hy, hq, he, q⟩ hs
  · exact ix_tup value slice pins s σ H x y v u Q I rx ry ⟨p, xs, i, z, hx, hy, hq, he, q⟩ hs
theorem at0 {a b : V} : atI [a, b] 0 = some a := atI_nat (j := 0) rfl
theorem ix_listK {X : Cx} (K : PySem.W.Frag) (hK : X.K = K) : IxR X (rIxL K) := by
  subst hK
  exact ix_list
theorem ix_tupK {X : Cx} (K : PySem.W.Frag) (hK : X.K = K) : IxR X (rIxT K) := by
  subst hK
  exact ix_tup
end OR

namespace OR
open PySem PySem.Spec PyProof.Rows L2
/-! ### lines and pieces as they stand -/
def LnAt (CL : Addr) (H : Hp) (v : V) : Option LnR → Prop
  | none => v = .non
  | some r => ∃ y, v = .ref y ∧ IsL CL H y r.1 r.2
theorem LnAt.same {CL : Addr} {H H' : Hp} {v : V} {l : Option LnR} (h : LnAt CL H v l) (s : Same H H') : LnAt CL H' v l := by
  cases l with
  | none => exact h
  | some r => obtain ⟨y, e, h⟩ := h; exact ⟨y, e, h.same s⟩
def PcT (CL : Addr) (H : Hp) (v : V) (q : Pce) : Prop := ∃ t u, v = .ref t ∧ H t = some (.tup [.int q.1, .int q.2.1, u]) ∧ LnAt CL H u q.2.2
theorem PcT.same {CL : Addr} {H H' : Hp} {v : V} {q : Pce} (h : PcT CL H v q) (s : Same H H') : PcT CL H' v q := by
  obtain ⟨t, u, e, h1, h2⟩ := h
  exact ⟨t, u, e, s _ _ h1, h2.same s⟩
/-- a piece as it is told: a tuple or a list -/
def PcA (CL : Addr) (H : Hp) (v : V) (q : Pce) : Prop := ∃ t u, v = .ref t ∧ (H t = some (.tup [.int q.1, .int q.2.1, u]) ∨ H t = some (.lst [.int q.1, .int q.2.1, u])) ∧ LnAt CL H u q.2.2
theorem PcA.same {CL : Addr} {H H' : Hp} {v : V} {q : Pce} (h : PcA CL H v q) (s : Same H H') : PcA CL H' v q := by
  obtain ⟨t, u, e, h1, h2⟩ := h
  exact ⟨t, u, e, h1.imp (fun z => s _ _ z) (fun z => s _ _ z), h2.same s⟩
theorem PcT.pcA {CL : Addr} {H : Hp} {v : V} {q : Pce} (h : PcT CL H v q) : PcA CL H v q := by
  obtain ⟨t, u, e, h1, h2⟩ := h
  exact ⟨t, u, e, .inl h1, h2⟩
def spValW (CL : Addr) : Sp := fun vs H Q _ => ∃ (x : Addr) (r : LnR) (t : Int), vs = [.ref x, .int t] ∧ IsL CL H x r.1 r.2 ∧ CMulW r.1 t ∧ Q (.int (lv r t)) H
def spThru (CL : Addr) : Sp := fun vs H Q _ => ∃ x h b : Int, vs = [.int x, .int h, .int b] ∧ CMulW (b - h) x ∧ ∀ y H', H y = none → IsL CL H' y (thru x h b).1 (thru x h b).2 → Same H H' → Q (.ref y) H'
def spCont (CL : Addr) : Sp := fun vs H Q _ => ∃ (t : Addr) (u : V) (q p : Pce), vs = [.ref t, .int p.1, .int p.2.1, u] ∧ PcT CL H (.ref t) q ∧ LnAt CL H u p.2.2 ∧ q.1 ≤ q.2.1 ∧ p.1 ≤ p.2.1 ∧ q.2.1 + 1 = p.1 ∧ Bq q ∧ Bq p ∧
  ∀ v H', PcT CL H' v (cont q p.1 p.2.1 p.2.2) → Same H H' → Q v H'
def spPlain (CL : Addr) : Sp := fun vs H Q _ => ∃ (q : Pce) (u : V), vs = [.int q.1, .int q.2.1, u] ∧ LnAt CL H u q.2.2 ∧ Bq q ∧ ∀ v H', PcT CL H' v (plainP q) → Same H H' → Q v H'
theorem pow200 : (2 : Nat) ^ 200 ≤ 2 ^ 420 := Nat.pow_le_pow_right (by decide) (by decide)
theorem cwWP {a n : Int} (h : a.natAbs < 2 ^ 420) (h2 : n.natAbs < 2 ^ 101) : CMulW a n := wide_mul (a := 420) (b := 101) h h2 (by decide) (by decide) (by decide)
theorem cw303 {a n : Int} (h : a.natAbs < 2 ^ 303) (h2 : n.natAbs < 2 ^ 101) : CMulW a n := wide_mul (a := 303) (b := 101) h h2 (by decide) (by decide) (by decide)
theorem Plc.b1 {x : Int} (h : Plc x) : x.natAbs < 2 ^ 101 := Nat.lt_of_lt_of_le h.bits (Nat.pow_le_pow_right (by decide) (by decide))
theorem thru_cw {x h b : Int} (hx : Plc x) (hh : h.natAbs < 2 ^ 302) (hb : b.natAbs < 2 ^ 302) : CMulW (b - h) x := by
  have e1 : (2 : Nat) ^ 303 = 2 ^ 302 + 2 ^ 302 := by rw [show (303 : Nat) = 302 + 1 from rfl, Nat.pow_succ]; omega
  exact cw303 (by omega) hx.b1
section
variable {P : Program} {w : World} {K : PySem.W.Frag} {mg : Str → Option Value} {base : Heap} {CL : Addr}
theorem scVA : FnScope ["line", "x"] ["line", "x"] (defScope sVal) := ⟨rfl, rfl, rfl, by decide +kernel, rfl, by decide +kernel, by decide +kernel⟩
theorem ok_valW {f : Addr} {fd : FuncData} (F : Fun K "value_at" "value_at" sVal f fd) (T : LTxt K mg CL) : FnOk P w K mg base CX0 1 f fd ["line", "x"] (spValW CL) := by
  refine F.ok scVA (fun vs H Q E h => ?_) (fun cdv A outer s H vs Q E hr h => ?_)
  · obtain ⟨x, r, t, rfl, _⟩ := h
    rfl
  · obtain ⟨x, r, t, rfl, ⟨dx, hx⟩, hm, q⟩ := h
    refine ⟨_, pss_one (ps_ret (pe_op op_add (pe_op op_mulW (pe_fld (pv 0) rfl) (pv 1)) (pe_fld (pv 0) rfl))), ?_⟩
    exact ⟨_, rfl, x, CL, dx, _, _, rfl, hx, T.cl, T.nS, lFl_slope _ _, _, rfl, r.1, t, rfl, rfl, hm, _, rfl, x, CL, dx, _, _, rfl, hx, T.cl, T.nH, lFl_height _ _, _, _, rfl, rfl, q⟩
theorem scLThru : FnScope ["x", "here", "beyond", "slope"] ["x", "here", "beyond"] (defScope pLineThrough) := ⟨rfl, rfl, rfl, by decide +kernel, rfl, by decide +kernel, by decide +kernel⟩
theorem ok_thru {f : Addr} {fd : FuncData} (F : Fun K "line_through" "line_through" pLineThrough f fd) (M : LMk P w K mg base CL) : FnOk P w K mg base CX0 3 f fd ["x", "here", "beyond"] (spThru CL) := by
  refine F.ok scLThru (fun vs H Q E h => ?_) (fun cdv A outer s H vs Q E hr h => ?_)
  · obtain ⟨x, h, b, rfl, _⟩ := h
    rfl
  · obtain ⟨x, h, b, rfl, hm, q⟩ := h
    have nd := scLThru.nd
    refine ⟨_, pss_cons (ps_set (i := 3) nd rfl (.inl rfl) (pe_op op_sub (pv 2) (pv 1)))
      (pss_one (ps_ret (pe_mkL M hr (by decide) (by rfl) (pa_cons (pv 3) (pa_cons (pe_op op_sub (pv 1) (pe_op op_mulW (pv 3) (pv 0))) pa_nil))))), ?_⟩
    exact ⟨_, rfl, _, rfl, _, _, rfl, rfl, _, rfl, _, rfl, _, rfl, _, rfl, _, _, rfl, rfl, hm, _, _, rfl, rfl, _, _, rfl, q⟩
theorem scContd : FnScope ["row", "first", "last", "line", "start", "end", "held"] ["row", "first", "last", "line"] (defScope pContinued) := ⟨rfl, rfl, rfl, by decide +kernel, rfl, by decide +kernel, by decide +kernel⟩
theorem ok_cont {f : Addr} {fd : FuncData} (F : Fun K "_continued" "_continued" pContinued f fd) (T : LTxt K mg CL) (VA : Cl P w K mg base 1 "value_at" ["line", "x"] (spValW CL)) (LT : Cl P w K mg base 3 "line_through" ["x", "here", "beyond"] (spThru CL)) : FnOk P w K mg base CX0 4 f fd ["row", "first", "last", "line"] (spCont CL) := by
  refine F.ok scContd (fun vs H Q E h => ?_) (fun cdv A outer s H vs Q E hr h => ?_)
  · obtain ⟨t, u, q, p, rfl, _⟩ := h
    rfl
  · obtain ⟨t, u, q, p, rfl, ⟨t', hu, e, ht, hl⟩, hm, hq, hp, adj, B, Tp, R⟩ := h
    cases e
    have nd := scContd.nd
    refine ⟨_, pss_cons (ps_asg (pv 0) (pg_tup rfl (pgs_cons (pg_name (i := 4) nd rfl (.inl rfl)) (pgs_cons (pg_name (i := 5) nd rfl (.inl rfl)) (pgs_cons (pg_name (i := 6) nd rfl (.inl rfl)) pgs_nil)))))
      (pss_cons (ps_if (PW.pt (pw_or (pt_cmp (pc_isN (pv 6))) (pw_or1 (pt_cmp (pc_isN (pv 3))))))
          (pss_one (ps_ret (pe_ifExp (PW.pt (pw_and (pt_cmp (pc_isN (pv 6))) (pw_and1 (pt_cmp (pc_isN (pv 3)))))) (pe_tup (pa_cons (pv 4) (pa_cons (pv 2) (pa_cons pe_non pa_nil)))) (pv 0))))
          pss_nil)
      (pss_cons (ps_if (pt_cmpR op_eq (pv 4) (pv 5) (nomark _))
          (pss_one (ps_set (i := 6) nd rfl (.inl rfl) (pe_cl LT hr (by decide) (by rfl) (pa_cons (pv 4) (pa_cons (pe_cl VA hr (by decide) (by rfl) (pa_cons (pv 6) (pa_cons (pv 4) pa_nil))) (pa_cons (pe_cl VA hr (by decide) (by rfl) (pa_cons (pv 3) (pa_cons (pv 1) pa_nil))) pa_nil))))))
          (pss_one (ps_if (pt_cmpR op_ne (pe_cl VA hr (by decide) (by rfl) (pa_cons (pv 6) (pa_cons (pv 1) pa_nil))) (pe_cl VA hr (by decide) (by rfl) (pa_cons (pv 3) (pa_cons (pv 1) pa_nil))) (nomark _))
              (pss_one (ps_ret (pv 0)))
              pss_nil)))
      (pss_one (ps_ret (pe_tup (pa_cons (pv 4) (pa_cons (pe_ifExp (pt_cmpR op_eq (pe_fld (pv 6) rfl) (pe_fld (pv 3) rfl) (nomark _)) (pv 2) (pv 1)) (pa_cons (pv 6) pa_nil)))))))), ?_⟩
    have back : ∀ (Q' : Prop), (PcT CL H (.ref t) (cont q p.1 p.2.1 p.2.2) → Q') → cont q p.1 p.2.1 p.2.2 = q → Q' := fun Q' k e => k (by rw [e]; exact ⟨t, hu, rfl, ht, hl⟩)
    refine ⟨_, rfl, t, _, rfl, .inl (.inl ht), rfl, _, _, rfl, _, _, rfl, _, _, rfl, rfl, ?_⟩
    obtain ⟨s, e, l⟩ := q
    obtain ⟨f, t2, m⟩ := p
    simp only at hq hp adj hm hl ht
    cases l with
    | none =>
      obtain rfl : hu = .non := hl
      refine ⟨_, rfl, _, rfl, iteA (by simp) ?_⟩
      cases m with
      | none =>
        obtain rfl : u = .non := hm
        refine ⟨_, rfl, _, rfl, iteA (by simp) ⟨_, rfl, _, rfl, iteA (by simp) ⟨_, rfl, _, rfl, (by show 3 ≤ sizeLine; decide), fun z nz => R _ _ ⟨z, .non, rfl, upd_same, rfl⟩ (same_lay nz)⟩⟩⟩
      | some m =>
        obtain ⟨y, rfl, hy⟩ := hm
        exact ⟨_, rfl, _, rfl, iteA (by simp) ⟨_, rfl, _, rfl, iteB (by simp) ⟨_, rfl, R _ _ ⟨t, _, rfl, ht, rfl⟩ (Same.refl _)⟩⟩⟩
    | some h =>
      obtain ⟨yh, rfl, hyh⟩ := hl
      refine ⟨_, rfl, _, rfl, iteB (by simp) ?_⟩
      cases m with
      | none =>
        obtain rfl : u = .non := hm
        exact ⟨_, rfl, _, rfl, iteA (by simp) ⟨_, rfl, _, rfl, iteB (by simp) ⟨_, rfl, R _ _ ⟨t, _, rfl, ht, yh, rfl, hyh⟩ (Same.refl _)⟩⟩⟩
      | some m =>
        obtain ⟨y, rfl, hy⟩ := hm
        refine ⟨_, rfl, _, rfl, iteB (by simp) ?_⟩
        subst adj
        have vm := Tp.vb m rfl (e + 1) (Int.le_refl _) hp
        have cm : CMulW m.1 (e + 1) := cwWP (Tp.wd m rfl).1 Tp.p1.b1
        have wdh := B.wd h rfl
        refine ⟨_, rfl, _, rfl, rfl, _, rfl, ite2 (fun c => ?_) (fun c => ?_)⟩
        · have c : s = e := by simpa using c
          have vh := B.vb h rfl s (Int.le_refl _) (by simp only; omega)
          refine ⟨_, rfl, _, rfl, _, rfl, yh, h, s, rfl, hyh, cwWP wdh.1 B.p1.b1, _, rfl, _, rfl, y, m, e + 1, rfl, hy, cm, s, _, _, rfl, thru_cw B.p1 vh vm, fun z G hz hIz sG => ?_⟩
          obtain ⟨dz, hzz⟩ := id hIz
          obtain ⟨dy, hyy⟩ := hy.same sG
          refine ⟨_, rfl, _, rfl, z, CL, dz, _, _, rfl, hzz, T.cl, T.nS, lFl_slope _ _, _, rfl, y, CL, dy, _, _, rfl, hyy, T.cl, T.nS, lFl_slope _ _, rfl, _, rfl, ?_⟩
          have done : ∀ (E2 : Int), (if (thru s (lv h s) (lv m (e + 1))).1 = m.1 then t2 else e + 1) = E2 → ∀ z2, G z2 = none → Q (.ref z2) (upd G z2 (.tup [.int s, .int E2, .ref z])) := fun E2 hE z2 nz => by
            refine R _ _ ⟨z2, .ref z, rfl, ?_, ?_⟩ (sG.trans (same_lay nz))
            · unfold cont
              simp only
              rw [if_pos c, hE]
              exact upd_same
            · unfold cont
              simp only
              rw [if_pos c]
              exact ⟨z, rfl, hIz.same (same_lay nz)⟩
          refine ite2 (fun k => ?_) (fun k => ?_)
          · exact ⟨_, rfl, _, rfl, (by show 3 ≤ sizeLine; decide), done _ (if_pos (by simpa using k))⟩
          · exact ⟨_, rfl, _, rfl, (by show 3 ≤ sizeLine; decide), done _ (if_neg (by simpa using k))⟩
        · have c : ¬ s = e := by simpa using c
          have vb : CMulW h.1 (e + 1) := cwWP wdh.1 Tp.p1.b1
          refine ⟨_, rfl, _, rfl, yh, h, e + 1, rfl, hyh, vb, _, rfl, _, rfl, y, m, e + 1, rfl, hy, cm, rfl, _, rfl, ite2 (fun k => ?_) (fun k => ?_)⟩
          · have k : ¬ lv h (e + 1) = lv m (e + 1) := by simpa using k
            refine ⟨_, rfl, R _ _ ?_ (Same.refl _)⟩
            unfold cont
            simp only
            rw [if_neg c, if_neg k]
            exact ⟨t, _, rfl, ht, yh, rfl, hyh⟩
          · have k : lv h (e + 1) = lv m (e + 1) := by simpa using k
            obtain ⟨dh, hhh⟩ := id hyh
            obtain ⟨dy, hyy⟩ := id hy
            refine ⟨_, rfl, _, rfl, yh, CL, dh, _, _, rfl, hhh, T.cl, T.nS, lFl_slope _ _, _, rfl, y, CL, dy, _, _, rfl, hyy, T.cl, T.nS, lFl_slope _ _, rfl, _, rfl, ?_⟩
            have done : ∀ (E2 : Int), (if h.1 = m.1 then t2 else e + 1) = E2 → ∀ z2, H z2 = none → Q (.ref z2) (upd H z2 (.tup [.int s, .int E2, .ref yh])) := fun E2 hE z2 nz => by
              refine R _ _ ⟨z2, .ref yh, rfl, ?_, ?_⟩ (same_lay nz)
              · unfold cont
                simp only
                rw [if_neg c, if_pos k, hE]
                exact upd_same
              · unfold cont
                simp only
                rw [if_neg c, if_pos k]
                exact ⟨yh, rfl, hyh.same (same_lay nz)⟩
            refine ite2 (fun k => ?_) (fun k => ?_)
            · exact ⟨_, rfl, _, rfl, (by show 3 ≤ sizeLine; decide), done _ (if_pos (by simpa using k))⟩
            · exact ⟨_, rfl, _, rfl, (by show 3 ≤ sizeLine; decide), done _ (if_neg (by simpa using k))⟩
theorem scPlainP : FnScope ["first", "last", "line"] ["first", "last", "line"] (defScope pPlain) := ⟨rfl, rfl, rfl, by decide +kernel, rfl, by decide +kernel, by decide +kernel⟩
theorem ok_plain {f : Addr} {fd : FuncData} (F : Fun K "_plain" "_plain" pPlain f fd) (M : LMk P w K mg base CL) (VA : Cl P w K mg base 1 "value_at" ["line", "x"] (spValW CL)) : FnOk P w K mg base CX0 3 f fd ["first", "last", "line"] (spPlain CL) := by
  refine F.ok scPlainP (fun vs H Q E h => ?_) (fun cdv A outer s H vs Q E hr h => ?_)
  · obtain ⟨q, u, rfl, _⟩ := h
    rfl
  · obtain ⟨q, u, rfl, hl, B, R⟩ := h
    refine ⟨_, pss_one (ps_ret (pe_tup (pa_cons (pv 0) (pa_cons (pv 1) (pa_cons (pe_ifExp (PW.pt (pw_and (pt_cmp (pc_notN (pv 2))) (pw_and1 (pt_cmpR op_eq (pv 0) (pv 1) (nomark _))))) (pe_mkL M hr (by decide) (by rfl) (pa_cons pe_int (pa_cons (pe_cl VA hr (by decide) (by rfl) (pa_cons (pv 2) (pa_cons (pv 0) pa_nil))) pa_nil))) (pv 2)) pa_nil))))), ?_⟩
    obtain ⟨s, e, l⟩ := q
    simp only at hl
    have same : plainP (s, e, l) = (s, e, l) → ∀ z, H z = none → Q (.ref z) (upd H z (.tup [.int s, .int e, u])) := fun k z nz => R _ _ (by rw [k]; exact ⟨z, u, rfl, upd_same, hl.same (same_lay nz)⟩) (same_lay nz)
    refine ⟨_, rfl, _, rfl, ?_⟩
    cases l with
    | none =>
      obtain rfl : u = .non := hl
      refine ⟨_, rfl, _, rfl, iteB (by simp) ⟨_, rfl, (by show 3 ≤ sizeLine; decide), same ?_⟩⟩
      unfold plainP
      simp
    | some r =>
      obtain ⟨y, rfl, hy⟩ := id hl
      refine ⟨_, rfl, _, rfl, iteA (by simp) ⟨_, rfl, _, rfl, rfl, _, rfl, ite2 (fun c => ?_) (fun c => ?_)⟩⟩
      · have c : s = e := by simpa using c
        refine ⟨_, rfl, _, rfl, y, r, s, rfl, hy, cwWP (B.wd r rfl).1 B.p1.b1, _, _, rfl, fun z G hz hIz sG => ⟨(by show 3 ≤ sizeLine; decide), fun z2 nz => R _ _ ⟨z2, .ref z, rfl, upd_same, ?_⟩ (sG.trans (same_lay nz))⟩⟩
        unfold plainP
        simp only
        rw [if_pos c]
        exact ⟨z, rfl, hIz.same (same_lay nz)⟩
      · have c : ¬ s = e := by simpa using c
        refine ⟨_, rfl, (by show 3 ≤ sizeLine; decide), same ?_⟩
        unfold plainP
        simp only
        rw [if_neg c]
end
end OR

namespace OR
open PySem PySem.Spec PyProof.Rows L2
def KP (G G' : Hp) : Prop := ∀ b o, G b = some o → (∀ ys, o ≠ .lst ys) → (∀ kvs, o ≠ .dK kvs) → (∀ ps, o ≠ .tbl ps) → G' b = some o
theorem KP.trans {G G1 G2 : Hp} (a : KP G G1) (b : KP G1 G2) : KP G G2 := fun c o e h1 h2 h3 => b c o (a c o e h1 h2 h3) h1 h2 h3
theorem kp_same {G G' : Hp} (s : Same G G') : KP G G' := fun b o e _ _ _ => s b o e
theorem kp_frm {G G' : Hp} {p : Addr} {k : Nat} (F : Frm p G G') (P : Pen G p k) : KP G G' := fun b o e _ h _ => by
  obtain ⟨kvs, hp⟩ := P.dict
  exact F b o e (ne_of e hp (h kvs))
theorem kp_lst {G : Hp} {a : Addr} {ys : List V} {u : HO} (h : G a = some (.lst ys)) : KP G (upd G a u) := fun b o e h1 _ _ => by
  rw [upd_ne (ne_of e h (h1 ys))]
  exact e
theorem sqT_kp {K : PySem.W.Frag} {G G' : Hp} {a : Addr} {xs : List V} (h : SqT K G a xs) (k : KP G G') : SqT K G' a xs := by
  rcases h with (h | ⟨o, h⟩) | h
  · exact .inl (.inl (k _ _ h (fun _ z => nomatch z) (fun _ z => nomatch z) (fun _ z => nomatch z)))
  · exact .inl (.inr ⟨o, k _ _ h (fun _ z => nomatch z) (fun _ z => nomatch z) (fun _ z => nomatch z)⟩)
  · exact .inr h
theorem kp_dk {G : Hp} {a : Addr} {kvs : List (Key × V)} {u : HO} (h : G a = some (.dK kvs)) : KP G (upd G a u) := fun b o e _ h2 _ => by
  rw [upd_ne (ne_of e h (h2 kvs))]
  exact e
theorem KP.tup {G G' : Hp} {t : Addr} {xs : List V} (k : KP G G') (h : G t = some (.tup xs)) : G' t = some (.tup xs) := k _ _ h (fun _ z => nomatch z) (fun _ z => nomatch z) (fun _ z => nomatch z)
theorem KP.ins {G G' : Hp} {t C dx : Addr} {fs : List (Str × V)} (k : KP G G') (h : G t = some (.ins C dx fs)) : G' t = some (.ins C dx fs) := k _ _ h (fun _ z => nomatch z) (fun _ z => nomatch z) (fun _ z => nomatch z)
theorem LnAt.kp {CL : Addr} {H H' : Hp} {v : V} {l : Option LnR} (h : LnAt CL H v l) (k : KP H H') : LnAt CL H' v l := by
  cases l with
  | none => exact h
  | some r => obtain ⟨y, e, dx, h⟩ := h; exact ⟨y, e, dx, k.ins h⟩
theorem PcT.kp {CL : Addr} {H H' : Hp} {v : V} {q : Pce} (h : PcT CL H v q) (k : KP H H') : PcT CL H' v q := by
  obtain ⟨t, u, e, h1, h2⟩ := h
  exact ⟨t, u, e, k.tup h1, h2.kp k⟩
theorem all2_unsnoc {α β : Type} {p : α → β → Prop} : ∀ {xs : List α} {ys : List β} {y : β}, All2 p xs (ys ++ [y]) → ∃ xs0 x, xs = xs0 ++ [x] ∧ All2 p xs0 ys ∧ p x y
  | _, [], y, h => by
    cases h with
    | cons a t => cases t; exact ⟨[], _, rfl, .nil, a⟩
  | _, z :: ys, y, h => by
    cases h with
    | cons a t =>
      obtain ⟨xs0, x, rfl, h1, h2⟩ := all2_unsnoc t
      exact ⟨_ :: xs0, x, rfl, .cons a h1, h2⟩
/-! ### walks of a list or a tuple -/
def SqA (K : PySem.W.Frag) (H : Hp) (a : Addr) (xs : List V) : Prop := SqL K H a xs ∨ SqT K H a xs
theorem Same.tupS {K : PySem.W.Frag} {H H' : Hp} {a : Addr} {xs : List V} (e : Same H H') (h : SqT K H a xs) : SqT K H' a xs := by
  rcases h with (h | ⟨o, h⟩) | h
  · exact .inl (.inl (e _ _ h))
  · exact .inl (.inr ⟨o, e _ _ h⟩)
  · exact .inr h
theorem Same.any {K : PySem.W.Frag} {H H' : Hp} {a : Addr} {xs : List V} (e : Same H H') (h : SqA K H a xs) : SqA K H' a xs := h.imp e.seq (Same.tupS e)
structure Walks (it : It) (xs : List V) (J : Hp → Prop) : Prop where
  stop : ∀ H, J H → it.stop xs.length H
  go : ∀ i H, J H → i < xs.length → it.go i H
  yld : ∀ i H x H', J H → it.yld i H x H' → H' = H ∧ xs[i]? = some x
theorem walksL {K : PySem.W.Frag} {a : Addr} {xs : List V} : Walks (Itl K a) xs fun H => SqL K H a xs :=
  ⟨fun H h => ⟨xs, h, Nat.le_refl _⟩, fun i H h hi => ⟨xs, xs[i], h, by simp [hi]⟩, fun i H x H' h y => ⟨y.1, y.2 xs h⟩⟩
theorem walksT {K : PySem.W.Frag} {a : Addr} {xs : List V} : Walks (Itt K a) xs fun H => SqT K H a xs :=
  ⟨fun H h => ⟨xs, h, Nat.le_refl _⟩, fun i H h hi => ⟨xs, xs[i], h, by simp [hi]⟩, fun i H x H' h y => ⟨y.1, y.2 xs h⟩⟩
theorem for_any {it : It} {xs : List V} {J : Hp → Prop} {g : TG} {tb : TS} {D : Ends} {σ : L2.St} {H : Hp} (w : Walks it xs J) (Pv : Nat → L2.St → Hp → Prop) (h0 : Pv 0 σ H) (hl : ∀ i σ H, i ≤ xs.length → Pv i σ H → J H)
    (hs : ∀ i x σ H, xs[i]? = some x → Pv i σ H → g x σ H fun σ2 H2 => tb { D with nx := Pv (i + 1), ct := Pv (i + 1), bk := D.nx } σ2 H2) (hd : ∀ σ H, Pv xs.length σ H → D.nx σ H) :
    ∃ W : Nat → Nat → L2.St → Hp → Prop, (∃ m, W 0 m σ H) ∧ ∀ i m σ H, W i m σ H →
      (it.stop i H ∧ D.nx σ H) ∨ (it.go i H ∧ ∃ N : L2.St → Hp → Prop, (∀ σ' H', N σ' H' → ∃ m', m' < m ∧ W (i + 1) m' σ' H') ∧ ∀ x H', it.yld i H x H' → g x σ H' fun σ2 H2 => tb { D with nx := N, ct := N, bk := D.nx } σ2 H2) := by
  refine ⟨fun i m σ H => m = xs.length - i ∧ i ≤ xs.length ∧ Pv i σ H, ⟨xs.length, by simp, Nat.zero_le _, h0⟩, ?_⟩
  rintro i m σ H ⟨rfl, hi, p⟩
  have q := hl i σ H hi p
  by_cases hlt : i < xs.length
  · refine .inr ⟨w.go i H q hlt, Pv (i + 1), fun σ' H' p' => ⟨xs.length - (i + 1), by omega, rfl, hlt, p'⟩, fun x H' y => ?_⟩
    obtain ⟨e, y2⟩ := w.yld i H x H' q y
    subst e
    exact hs i x σ _ y2 p
  · have e : i = xs.length := by omega
    subst e
    exact .inl ⟨w.stop H q, hd σ H p⟩
theorem lc_any {it : It} {xs : List V} {J : Hp → Prop} {g : TG} {tt : TT} {te : TE} {vs : List Nat} {σ : L2.St} {H1 : Hp} {D : Addr} {Qd : Hp → Prop} (w : Walks it xs J) (Pv : Nat → Hp → Prop) (h0 : Pv 0 (upd H1 D (.lst []))) (hl : ∀ i H, i ≤ xs.length → Pv i H → J H)
    (hs : ∀ i x H, xs[i]? = some x → Pv i H → g x (wipe σ vs) H fun σ2 H2 => wipe σ2 vs = wipe σ vs ∧ tt σ2 H2 fun b H3 =>
      if b = true then te σ2 H3 fun y H4 => ∃ acc, H4 D = some (.lst acc) ∧ acc.length < sizeLine ∧ Pv (i + 1) (upd H4 D (.lst (acc ++ [y]))) else Pv (i + 1) H3) (hd : ∀ H, Pv xs.length H → Qd H) :
    ∃ W : Nat → Nat → Hp → Prop, (∃ m, W 0 m (upd H1 D (.lst []))) ∧ ∀ i m H, W i m H →
      (it.stop i H ∧ Qd H) ∨ (it.go i H ∧ ∃ Nx : Hp → Prop, (∀ H', Nx H' → ∃ m', m' < m ∧ W (i + 1) m' H') ∧ ∀ x H', it.yld i H x H' → g x (wipe σ vs) H' fun σ2 H2 => wipe σ2 vs = wipe σ vs ∧ tt σ2 H2 fun b H3 =>
        if b = true then te σ2 H3 fun y H4 => ∃ acc, H4 D = some (.lst acc) ∧ acc.length < sizeLine ∧ Nx (upd H4 D (.lst (acc ++ [y]))) else Nx H3) := by
  refine ⟨fun i m H => m = xs.length - i ∧ i ≤ xs.length ∧ Pv i H, ⟨xs.length, by simp, Nat.zero_le _, h0⟩, ?_⟩
  rintro i m H ⟨rfl, hi, p⟩
  have q := hl i H hi p
  by_cases hlt : i < xs.length
  · refine .inr ⟨w.go i H q hlt, Pv (i + 1), fun H' p' => ⟨xs.length - (i + 1), by omega, rfl, hlt, p'⟩, fun x H' y => ?_⟩
    obtain ⟨e, y2⟩ := w.yld i H x H' q y
    subst e
    exact hs i x _ y2 p
  · have e : i = xs.length := by omega
    subst e
    exact .inl ⟨w.stop H q, hd H p⟩
def gOr (g1 g2 : TG) : TG := fun v σ H Q => g1 v σ H Q ∨ g2 v σ H Q
theorem pg_orD {X : Cx} {tg : Expr} {g1 g2 : TG} (h1 : PG X tg g1) (h2 : PG X tg g2) : PG X tg (gOr g1 g2) := pg_or h1 h2
theorem unp3 {K : PySem.W.Frag} {i j k : Nat} {t : Addr} {x y z : V} {σ : L2.St} {H : Hp} {Q : L2.St → Hp → Prop} (h : H t = some (.tup [x, y, z]) ∨ H t = some (.lst [x, y, z])) (q : Q (((σ.set i (some x)).set j (some y)).set k (some z)) H) :
    gOr (gTup K 3 (gCons (gName i) (gCons (gName j) (gCons (gName k) gNil)))) (gUnl K 3 (gCons (gName i) (gCons (gName j) (gCons (gName k) gNil)))) (.ref t) σ H Q := by
  rcases h with e | e
  · exact .inl ⟨t, _, rfl, .inl (.inl e), rfl, _, _, rfl, _, _, rfl, _, _, rfl, rfl, q⟩
  · exact .inr ⟨t, _, rfl, .inl (.inl e), rfl, _, _, rfl, _, _, rfl, _, _, rfl, rfl, q⟩
/-- what is walked is a list or a tuple -/
def iSeq (K : PySem.W.Frag) (tl : TE) : TI := fun σ H R => tl σ H fun x H1 => ∃ a xs H0, x = .ref a ∧ SqA K H0 a xs ∧ Same H0 H1 ∧ ∀ (it : It) (J : Hp → Prop), Walks it xs J → (∀ G, Same H0 G → J G) → R it H1
theorem pi_seq {X : Cx} (K : PySem.W.Frag) (hK : X.K = K) {tg l : Expr} {tl : TE} (hl : PE X l tl) : PI X tg l (iSeq K tl) := by
  subst hK
  refine ⟨fun pins s σ H R I h => ?_⟩
  refine thn (hl.run pins s σ H _ I h) fun v s1 ⟨x, H1, I1, r1, q1⟩ => ?_
  obtain ⟨a, xs, H0, e, hS, sm, q⟩ := q1
  subst e
  cases r1
  rcases hS with hS | hS
  · obtain ⟨its, rv, p, hz⟩ := I1.list (sm.seq hS)
    refine wpAny_pyIter_list p.isList ?_
    refine ⟨s1.heap.objs.size, [s1.heap.objs.size], _, _, H1, rfl, I1.kept (t' := s1.toks) fun b o e => Heap.get?_push_of_some _ e, turn_list a _, ⟨_, Heap.get?_push_size _ rfl, rfl, rfl⟩, fun b hb => ?_, q _ _ walksL fun G z => z.seq hS⟩
    obtain rfl : b = s1.heap.objs.size := by simpa using hb
    exact I1.fpOk (Nat.le_refl _) (I1.hok.fresh (Nat.le_refl _))
  · obtain ⟨its, rv, p, hz⟩ := I1.tuple (Same.tupS sm hS)
    refine wpAny_pyIter_tuple (show s1.heap.IsTuple a its.toArray from p) ?_
    refine ⟨s1.heap.objs.size, [s1.heap.objs.size], _, _, H1, rfl, I1.kept (t' := s1.toks) fun b o e => Heap.get?_push_of_some _ e, turn_tuple a _, ⟨_, Heap.get?_push_size _ rfl, rfl, rfl⟩, fun b hb => ?_, q _ _ walksT fun G z => Same.tupS z hS⟩
    obtain rfl : b = s1.heap.objs.size := by simpa using hb
    exact I1.fpOk (Nat.le_refl _) (I1.hok.fresh (Nat.le_refl _))
end OR

namespace OR
open PySem PySem.Spec PyProof.Rows L2
def spOneF (K : PySem.W.Frag) (CL : Addr) : Sp := fun vs H Q _ => ∃ (a : Addr) (xs : List V) (L : List Pce) (b c : Int), vs = [.ref a] ∧ SqA K H a xs ∧ All2 (PcA CL H) xs L ∧ Til L b c ∧ (∀ q ∈ L, Bq q) ∧ L.length ≤ 1000 ∧
  ∀ t ys H', H t = none → H' t = some (.tup ys) → All2 (PcT CL H') ys (oneF L) → Same H H' → Q (.ref t) H'
theorem take_snoc {α : Type} {L : List α} {i : Nat} {x : α} (h : L[i]? = some x) : L.take (i + 1) = L.take i ++ [x] := by rw [List.take_add_one, h]; rfl
theorem til_take {L : List Pce} {b c : Int} (h : Til L b c) {i : Nat} {p : Pce} (hp : L[i]? = some p) : Til (L.take i) b p.1 ∧ p.1 ≤ p.2.1 := by
  obtain ⟨hi, e⟩ := List.getElem?_eq_some_iff.mp hp
  have sp : L = L.take i ++ p :: L.drop (i + 1) := by rw [← e, List.getElem_cons_drop, List.take_append_drop]
  rw [sp] at h
  obtain ⟨d, k1, k2⟩ := h.split
  have e1 := k2.1
  have e2 := k2.2.1
  exact ⟨by rw [e1]; exact k1, by omega⟩
section
variable {P : Program} {w : World} {K : PySem.W.Frag} {mg : Str → Option Value} {base : Heap} {CL : Addr}
theorem scOneF : FnScope ["pieces", "rows", "first", "last", "line", "start"] ["pieces"] (defScope pOneForm) := ⟨rfl, rfl, rfl, by decide +kernel, rfl, by decide +kernel, by decide +kernel⟩
theorem ok_oneF {f : Addr} {fd : FuncData} (F : Fun K "one_form" "one_form" pOneForm f fd) (N : NTxt mg) (CO : Cl P w K mg base 4 "_continued" ["row", "first", "last", "line"] (spCont CL)) (PL : Cl P w K mg base 3 "_plain" ["first", "last", "line"] (spPlain CL)) : FnOk P w K mg base CX0 5 f fd ["pieces"] (spOneF K CL) := by
  refine F.ok scOneF (fun vs H Q E h => ?_) (fun cdv A outer s H vs Q E hr h => ?_)
  · obtain ⟨a, xs, L, b, c, rfl, _⟩ := h
    rfl
  · obtain ⟨a, xs, L, b, c, rfl, hS, hA, hT, hq, hlen, R⟩ := h
    have nd := scOneF.nd
    refine ⟨_, pss_cons (ps_set (i := 1) nd rfl (.inl rfl) (pe_lst pa_nil))
      (pss_cons (ps_for PassesOwn.never rfl (pi_seq K rfl (pv 0)) (pg_orD (pg_tup rfl (pgs_cons (pg_name (i := 2) nd rfl (.inl rfl)) (pgs_cons (pg_name (i := 3) nd rfl (.inl rfl)) (pgs_cons (pg_name (i := 4) nd rfl (.inl rfl)) pgs_nil)))) (pg_unl rfl (pgs_cons (pg_name (i := 2) nd rfl (.inl rfl)) (pgs_cons (pg_name (i := 3) nd rfl (.inl rfl)) (pgs_cons (pg_name (i := 4) nd rfl (.inl rfl)) pgs_nil)))))
          (pss_cons (ps_set (i := 5) nd rfl (.inl rfl) (pv 2))
          (pss_cons (ps_if (pt_truth (pv 1) (by intro _; rfl))
              (pss_cons (ps_asg (pe_cl CO hr (by decide) (by rfl) (pa_cons (pe_ix (ix_listK K rfl) (pv 1) (pe_un un_neg pe_int) (fun _ _ => rfl)) (pa_cons (pv 2) (pa_cons (pv 3) (pa_cons (pv 4) pa_nil))))) (pg_sub (pv 1) (pe_un un_neg pe_int) set_list))
              (pss_one (ps_set (i := 5) nd rfl (.inl rfl) (pe_op op_add (pe_ix (ix_tupK K rfl) (pe_ix (ix_listK K rfl) (pv 1) (pe_un un_neg pe_int) (fun _ _ => rfl)) pe_int (fun _ _ => rfl)) pe_int))))
              pss_nil)
          (pss_one (ps_if (pt_cmpR op_le (pv 5) (pv 3) (nomark _))
              (pss_one (ps_expr (pe_bm PySem.F.plainAttrs_list PySem.F.slot_list_append PySem.F.type_list_append mt_append (pv 1) (pa_cons (pe_tup (pa_cons (pv 5) (pa_cons (pv 3) (pa_cons (pv 4) pa_nil)))) pa_nil))))
              pss_nil)))))
      (pss_one (ps_ret (pe_callTy call_tuple_of (by rfl) N.zTup bt_tup (pa_cons (pe_lc (own := [("first", 2), ("last", 3), ("line", 4)]) (g := (gTup K 3 (gCons (gName 2) (gCons (gName 3) (gCons (gName 4) gNil))))) (tt := tYes) rfl nd (pi_list (pv 1)) (blkOk_by (N := ["pieces", "rows", "first", "last", "line", "start"]) (sc := defScope pOneForm) (by decide +kernel)) (fun _ _ _ _ _ => pg_tup rfl (pgs_cons (pg_name (i := 2) nd rfl (.inl rfl)) (pgs_cons (pg_name (i := 3) nd rfl (.inl rfl)) (pgs_cons (pg_name (i := 4) nd rfl (.inl rfl)) pgs_nil)))) (fun _ _ _ _ _ => pts_nil) (fun _ _ _ _ _ => (pe_cl PL hr (by decide) (by rfl) (pa_cons (pv 2) (pa_cons (pv 3) (pa_cons (pv 4) pa_nil)))))) pa_nil))))), ?_⟩
    refine ⟨(by show 0 ≤ sizeLine; decide), fun o no => ?_⟩
    have s0 := same_lay (o := .lst []) no
    have lxs := hA.length
    refine ⟨_, rfl, a, xs, H, rfl, hS, s0, ?_⟩
    intro it J wk st
    refine for_any wk (fun i σ G => ∃ f l u z vs, σ = [some (.ref a), some (.ref o), f, l, u, z] ∧ G o = some (.lst vs) ∧ All2 (PcT CL G) vs (rowsF (L.take i)) ∧ Same H G)
      ⟨none, none, none, none, [], rfl, upd_same, .nil, s0⟩ (fun i σ G _ h => by obtain ⟨f, l, u, z, vs, _, _, _, s⟩ := h; exact st G s) ?_ ?_
    · rintro i x σ G hx ⟨f0, l0, u0, z0, vs, rfl, hoG, hR, sG⟩
      obtain ⟨p, hp, tp, u, rfl, hpt, hpl⟩ := all2_get hA hx
      have hpt := hpt.imp (fun z => sG _ _ z) (fun z => sG _ _ z)
      have hpl := hpl.same sG
      obtain ⟨tt, p12⟩ := til_take hT hp
      have Tp := hq p (List.mem_of_getElem? hp)
      have LK := rowsF_like _ (L.take i) _ rfl tt
      have hB := rowsF_bq _ (L.take i) _ rfl tt fun q m => hq q (List.mem_of_mem_take m)
      have eT := take_snoc hp
      have il : i < L.length := (List.getElem?_eq_some_iff.mp hp).1
      have rl := rowsF_len _ (L.take i) rfl
      rw [List.length_take, Nat.min_eq_left (by omega)] at rl
      have lvs := hR.length
      refine unp3 hpt ?_
      show _
      refine ⟨_, rfl, ?_⟩
      rw [eT, rowsF_snoc]
      have vl : vs.length < sizeLine := small1000 (by omega)
      have three : 3 ≤ sizeLine := by decide
      rcases List.eq_nil_or_concat (rowsF (L.take i)) with e0 | ⟨R0, q0, e0⟩
      · rw [e0] at hR
        cases hR
        refine ⟨_, rfl, false, .inl ⟨[], .inl (.inl hoG), rfl⟩, iteF ?_⟩
        refine ⟨_, rfl, _, rfl, _, _, rfl, rfl, _, rfl, iteA (decide_eq_true p12) ?_⟩
        refine ⟨_, rfl, .inl ⟨rfl, _, .inl (.inl hoG)⟩, _, rfl, _, rfl, _, rfl, three, fun t nt => ⟨_, _, _, rfl, rfl, same_lay nt _ _ hoG, by decide, ?_⟩⟩
        have s1 := same_lay (o := .tup [.int p.1, .int p.2.1, u]) nt
        refine ⟨_, _, _, _, _, rfl, upd_same, ?_, same_upd (sG.trans s1) no⟩
        rw [e0, stp_nil]
        have not_ : t ≠ o := fun z => by rw [z, hoG] at nt; cases nt
        exact .cons ⟨t, u, rfl, by rw [upd_ne not_, upd_same], by
          cases hpl2 : p.2.2 with
          | none => rw [hpl2] at hpl; exact hpl
          | some r =>
            rw [hpl2] at hpl
            obtain ⟨y, ey, dy, hy⟩ := hpl
            exact ⟨y, ey, dy, by rw [upd_ne (ne_of (s1 _ _ hy) (s1 _ _ hoG) (by intro z; cases z))]; exact s1 _ _ hy⟩⟩ .nil
      · rw [List.concat_eq_append] at e0
        rw [e0] at hR LK hB rl
        obtain ⟨vs0, v0, rfl, hR0, hv0⟩ := all2_unsnoc hR
        obtain ⟨d, k1, k2⟩ := LK.til.split
        obtain ⟨q1, q2, q3⟩ := k2.one
        have Bq0 := hB q0 (List.mem_append_right _ List.mem_cons_self)
        obtain ⟨t0, u1, rfl, hq0, hl0⟩ := id hv0
        have hSo : SqL K G o (vs0 ++ [.ref t0]) := .inl (.inl hoG)
        refine ⟨_, rfl, !(vs0 ++ [V.ref t0]).isEmpty, .inl ⟨_, .inl (.inl hoG), rfl⟩, iteA (by simp) ?_⟩
        refine ⟨_, rfl, 1, rfl, o, _, -1, _, rfl, rfl, hSo, atI_last _ _, _, rfl, _, rfl, _, rfl, t0, u, q0, p, rfl, hv0, hpl, by omega, p12, by omega, Bq0, Tp, fun v G1 hv s1 => ?_⟩
        have hoG1 := s1 _ _ hoG
        have ixe : ixN (vs0 ++ [V.ref t0]).length (-1) = some vs0.length := by rw [List.length_append]; exact ixN_last _
        refine ⟨_, rfl, 1, rfl, o, _, -1, _, rfl, rfl, hoG1, ixe, ?_⟩
        rw [set_last]
        have k1' := kp_lst (u := .lst (vs0 ++ [v])) hoG1
        have sG1 : Same H (upd G1 o (.lst (vs0 ++ [v]))) := same_upd (sG.trans s1) no
        have hv' := hv.kp k1'
        have hR0' : All2 (PcT CL (upd G1 o (.lst (vs0 ++ [v])))) vs0 R0 := hR0.imp fun _ _ h => (h.same s1).kp k1'
        have hpl' := (hpl.same s1).kp k1'
        obtain ⟨tv, uv, rfl, htv, huv⟩ := id hv'
        have hoG2 : upd G1 o (.lst (vs0 ++ [V.ref tv])) o = some (.lst (vs0 ++ [.ref tv])) := upd_same
        generalize upd G1 o (.lst (vs0 ++ [V.ref tv])) = G2 at sG1 hv' hR0' hpl' htv huv hoG2
        clear k1' hoG1 s1 hv hR0 hSo hq0 hl0 hv0 hpl hpt hoG sG
        refine ⟨_, rfl, 1, rfl, o, _, -1, _, rfl, rfl, .inl (.inl hoG2), atI_last _ _, tv, _, 1, _, rfl, rfl, .inl (.inl htv), atI_nat (j := 1) rfl, _, _, rfl, rfl, ?_⟩
        refine ⟨_, rfl, _, rfl, _, _, rfl, rfl, _, rfl, ite2 (fun k => ?_) (fun k => ?_)⟩
        · have k := of_decide_eq_true k
          refine ⟨_, rfl, .inl ⟨rfl, _, .inl (.inl hoG2)⟩, _, rfl, _, rfl, _, rfl, three, fun t nt => ⟨_, _, _, rfl, rfl, same_lay nt _ _ hoG2, by rw [List.length_append] at vl ⊢; exact vl, ?_⟩⟩
          have s2 := same_lay (o := .tup [.int ((cont q0 p.1 p.2.1 p.2.2).2.1 + 1), .int p.2.1, u]) nt
          have hoG3 := s2 _ _ hoG2
          have k3 := (kp_same s2).trans (kp_lst (u := .lst (vs0 ++ [V.ref tv] ++ [V.ref t])) hoG3)
          refine ⟨_, _, _, _, _, rfl, upd_same, ?_, same_upd (sG1.trans s2) no⟩
          rw [e0, stp_snoc]
          unfold more
          rw [if_pos k]
          have pt : PcT CL (upd (upd G2 t (.tup [.int ((cont q0 p.1 p.2.1 p.2.2).2.1 + 1), .int p.2.1, u])) o (.lst (vs0 ++ [V.ref tv] ++ [V.ref t]))) (.ref t) ((cont q0 p.1 p.2.1 p.2.2).2.1 + 1, p.2.1, p.2.2) :=
            ⟨t, u, rfl, (kp_lst hoG3).tup upd_same, hpl'.kp k3⟩
          have e2 : R0 ++ [cont q0 p.1 p.2.1 p.2.2] ++ [((cont q0 p.1 p.2.1 p.2.2).2.1 + 1, p.2.1, p.2.2)] = R0 ++ cont q0 p.1 p.2.1 p.2.2 :: [((cont q0 p.1 p.2.1 p.2.2).2.1 + 1, p.2.1, p.2.2)] := by simp
          rw [← e2]
          exact ((hR0'.imp fun _ _ h => h.kp k3).append (.cons (hv'.kp k3) .nil)).append (.cons pt .nil)
        · have k : ¬ (cont q0 p.1 p.2.1 p.2.2).2.1 + 1 ≤ p.2.1 := fun z => k (decide_eq_true z)
          refine ⟨_, _, _, _, _, rfl, hoG2, ?_, sG1⟩
          rw [e0, stp_snoc]
          unfold more
          rw [if_neg k]
          exact hR0'.append (.cons hv' .nil)
    · rintro σ G ⟨f0, l0, u0, z0, vs, rfl, hoG, hR, sG⟩
      have eL : L.take xs.length = L := List.take_of_length_le (by omega)
      rw [eL] at hR
      have hB := rowsF_bq _ L _ rfl hT hq
      have rl := rowsF_len _ L rfl
      have lvs := hR.length
      refine ⟨_, rfl, o, rfl, ⟨_, .inl (.inl hoG)⟩, fun D hD => lc_list (K := K) (a := o) (xs := vs) (fun i G2 => ∃ ys, G2 D = some (.lst ys) ∧ All2 (PcT CL G2) ys (((rowsF L).take i).map plainP) ∧ Same G G2) ⟨[], upd_same, .nil, same_lay hD⟩ (fun i G2 _ h => by obtain ⟨_, _, _, s⟩ := h; exact s.seq (.inl (.inl hoG))) ?_ ?_⟩
      · rintro i x G2 hx ⟨ys, hD2, hY, s2⟩
        obtain ⟨q0, hq0, hv0⟩ := all2_get hR hx
        obtain ⟨t0, u1, rfl, ht0, hl0⟩ := hv0.same s2
        have lys := hY.length
        rw [List.length_map, List.length_take] at lys
        refine ⟨t0, _, rfl, .inl (.inl ht0), rfl, _, _, rfl, _, _, rfl, _, _, rfl, rfl, rfl, yesT ?_⟩
        refine ⟨_, rfl, _, rfl, _, rfl, q0, u1, rfl, hl0, hB q0 (List.mem_of_getElem? hq0), fun v G3 hv s3 => ?_⟩
        have hD3 := s3 _ _ hD2
        have k3 := kp_lst (u := .lst (ys ++ [v])) hD3
        refine ⟨ys, hD3, small1000 (by omega), ys ++ [v], upd_same, ?_, same_upd (s2.trans s3) hD⟩
        rw [take_snoc hq0, List.map_append]
        exact (hY.imp fun _ _ h => (h.same s3).kp k3).append (.cons (hv.kp k3) .nil)
      · rintro G2 ⟨ys, hD2, hY, s2⟩
        rw [List.take_of_length_le (by omega)] at hY
        refine ⟨D, ys, rfl, .inl ⟨.inl (.inl hD2), fun t nt => ?_⟩⟩
        have s3 := same_lay (o := .tup ys) nt
        exact R t ys _ (sG.free (s2.free nt)) upd_same (hY.imp fun _ _ h => h.same s3) ((sG.trans s2).trans s3)
end
end OR

namespace OR
open PySem PySem.Spec PyProof.Rows L2
open TL (tl numL)
structure ErT (K : PySem.W.Frag) (mg : Str → Option Value) (x fl : Str) (CB CR fI : Addr) : Prop where
  gB : mg x = some (.ref CB)
  gR : mg "RangesError" = some (.ref CR)
  zV : mg "ValueError" = none
  ox : OexC K CB
  xf : XfC K CB
  xc : ExcC K CB
  noI : PySem.W.findIn K (.ref CB) fl = some none
  iC : PySem.W.findIn K (.ref CB) "__init__" = some (some (.ref fI))
  tI : PySem.W.typeIn K (.ref fI) = some (.type "function")
  self : PySem.W.exmOne K (.ref CB) (.ref CB) = some true
  kR : PySem.W.kitOne K (.ref CB) (.ref CR) = some true
  kV : PySem.W.kitOne K (.ref CB) (.type "ValueError") = some true
def spErI (CB : Addr) (fl : Str) : Sp := fun vs H Q _ => ∃ (a : Addr) (v : V), vs = [.ref a, v] ∧ H a = some (exo a CB none) ∧ ∀ dx, H dx = none → dx ≠ a → Q .non (upd (upd H dx (exd dx [(fl, v)])) a (exo a CB (some dx)))
/-- an error of the class at CB, with its field, is let out -/
def Raised (E : XK) (CB : Addr) (fl : Str) (v : V) (H : Hp) : Prop := ∀ (d : Addr) (H' : Hp), H d = none → H' d = some (.xd [(fl, v)]) → Same H H' → E (.ref CB) (some d) H'
theorem Raised.up {E : XK} {CB : Addr} {fl : Str} {v : V} {H H' : Hp} (h : Raised E CB fl v H) (s : Same H H') : Raised E CB fl v H' := fun d G nd hd s2 => h d G (s.free nd) hd (s.trans s2)
theorem raise_any {E : XK} {H : Hp} {CB : Addr} {fl : Str} {v : V} (q : Raised E CB fl v H) : [v].length ≤ 1000 ∧ ∀ a, H a = none → spErI CB fl (.ref a :: ([v] ++ [])) (upd H a (exo a CB none))
    (fun u H2 => u = .non ∧ ∃ (d : Addr) (fs : List (Str × V)), H2 a = some (exo a CB (some d)) ∧ H2 d = some (exd d fs) ∧ H d = none ∧ E (.ref CB) (some d) (upd (del H2 a) d (.xd fs))) (fun _ _ _ => False) := by
  refine ⟨by show 1 ≤ 1000; decide, fun a na => ⟨a, _, rfl, upd_same, fun d nd1 ne1 => ?_⟩⟩
  rw [upd_ne ne1] at nd1
  refine ⟨rfl, d, [(fl, v)], upd_same, by rw [upd_ne ne1]; exact upd_same, nd1, q d _ nd1 upd_same fun c o e => ?_⟩
  have nca : c ≠ a := ne_of_none e na
  have ncd : c ≠ d := ne_of_none e nd1
  rw [upd_ne ncd, del_ne nca, upd_ne nca, upd_ne ncd, upd_ne nca]
  exact e
section
variable {P : Program} {w : World} {K : PySem.W.Frag} {mg : Str → Option Value} {base : Heap} {ts tw : Addr}
/-- a class and its __init__ -/
structure ErK (P : Program) (w : World) (K : PySem.W.Frag) (mg : Str → Option Value) (base : Heap) (x fl : Str) (CB CR : Addr) : Prop where
  ex : ∃ (fI : Addr) (fd : FuncData), ErT K mg x fl CB CR fI ∧ FnOk P w K mg base CX0 1 fI fd ["self", fl] (spErI CB fl) ∧ Binds K fd ["self", fl] []
end
structure ClX (P : Program) (w : World) (K : PySem.W.Frag) (mg : Str → Option Value) (base : Heap) (k : Nat) (x : Str) (ps : List Str) (sp : Sp) : Prop where
  ex : ∃ (f : Addr) (fd : FuncData), FnOk P w K mg base (L2.CX P w) k f fd ps sp ∧ mg x = some (.ref f) ∧ PySem.W.keepIn K (.ref f) = true ∧ Binds K fd ps []
theorem pe_clX {X : Cx} {W : WX} {k j : Nat} {x : Str} {ps : List Str} {sp : Sp} {e : Expr} {es : List Expr} {t : TA} {p pos : Pos} (C : ClX X.prog X.w X.K X.mg X.base k x ps sp) (hr : Room j X.A) (hk : k ≤ j) (hg : Gl X x) (tk : Takes X W) (ha : PA X (e :: es) t)
    (hdb : (x == ("__debug__" : Str)) = false := by decide) (he : starEach (e :: es) X.env = (false, eval e X.env) :: starEach es X.env := by rfl) (hpl : (backTo pos (starEach es X.env)).any (·.1) = false := by rfl) :
    PE X (.Call (.Name x p) (e :: es) [] pos) (tCallS sp (WE W) t) := by
  obtain ⟨f, fd, F, hm, hkp, hb⟩ := C.ex
  exact pe_callS F (hr.mono hk) hg hm hkp hb (fun σ => passAt tk σ) ha hdb he hpl
structure MtX (P : Program) (w : World) (K : PySem.W.Frag) (mg : Str → Option Value) (base : Heap) (k : Nat) (C : Addr) (m : Str) (ps : List Str) (sp : Sp) : Prop where
  ex : ∃ (f : Addr) (fd : FuncData), Meth K C m f ∧ FnOk P w K mg base (L2.CX P w) k f fd ps sp ∧ Binds K fd ps []
def tMethX (C : Addr) (m : Str) (sp : Sp) (E : L2.St → XK) (ta : TE) (t : TA) : TE := fun σ H Q => ta σ H fun x H1 => ∃ a dx fs, x = .ref a ∧ H1 a = some (.ins C dx fs) ∧ fs.lookup m = none ∧ t σ H1 fun vs H2 => sp (.ref a :: vs) H2 Q (E σ)
theorem pe_mtX {X : Cx} {W : WX} {k j : Nat} {C : Addr} {m : Str} {ps : List Str} {sp : Sp} {o e : Expr} {es : List Expr} {ta : TE} {t : TA} {apos pos : Pos} {pl : Sem Bool} (M : MtX X.prog X.w X.K X.mg X.base k C m ps sp) (c : Cls X.K C) (hr : Room j X.A) (hk : k ≤ j) (tk : Takes X W) (he : PE X o ta) (ha : PA X (e :: es) t)
    (hst : starEach (e :: es) X.env = (false, eval e X.env) :: starEach es X.env := by rfl) (hpl : (backTo pos (starEach es X.env)).any (·.1) = false := by rfl)
    (ht : eval (.Call (.Attribute o m apos) (e :: es) [] pos) X.env = (do
      let ov ← eval o X.env
      standAt apos.atName
      let (f, first) ← holding [ov] (getMethod ov m pl)
      callWith pos f first (backTo pos (starEach (e :: es) X.env)) (backToKw pos (keywordEach [] X.env))) := by rfl) : PE X (.Call (.Attribute o m apos) (e :: es) [] pos) (tMethX C m sp (WE W) ta t) := by
  obtain ⟨f, fd, hm, F, hb⟩ := M.ex
  refine ⟨fun pins s σ H Q I h => ?_⟩
  refine PySem.W.methodCall_KW (pl := pl) (thn (he.run pins s σ H _ I h) fun u s1 ⟨x, H1, I1, rx, z, dx, fs, ex, ez, no, q⟩ => ?_) ht
  subst ex
  cases (show u = Value.ref z from rx)
  refine getmeth_ok I1 ez c hm no (PySem.W.callWith_K (first := [.ref z]) (h₀ := X.base) I.ok.mod.kin hm.kp (thn (ha.run pos pins s1 σ H1 _ I1 q) fun us s2 ⟨vs, H2, I2, r, q2⟩ => ⟨I2.kIn, ?_⟩) hst hpl)
  exact run_fnS (us := .ref z :: us) (vs := .ref z :: vs) F (hr.mono hk) hb (passAt tk σ) I2 (.cons rfl r) q2
structure PV (v : V) : Prop where
  flat : flatV v = true
  len : ∀ s, v = .str s → s.length ≤ 100
  sm : ∀ s, v = .str s → SmallS s
theorem pv_cases {v : V} (h : PV v) : (∃ s : Str, v = .str s ∧ s.length ≤ 100 ∧ SmallS s) ∨ (∃ i, v = .int i) ∨ v = .non ∨ ∃ b, v = .bl b := by
  have hf := h.flat
  cases v with
  | str s => exact .inl ⟨s, rfl, h.len s rfl, h.sm s rfl⟩
  | int i => exact .inr (.inl ⟨i, rfl⟩)
  | non => exact .inr (.inr (.inl rfl))
  | bl b => exact .inr (.inr (.inr ⟨b, rfl⟩))
  | byt b => exact Bool.noConfusion hf
  | flt b => exact Bool.noConfusion hf
  | ref b => exact Bool.noConfusion hf
  | ty b => exact Bool.noConfusion hf
theorem pv_str {s : Str} (h : s.length ≤ 100) (k : SmallS s) : PV (.str s) := ⟨rfl, (fun t e => by cases e; exact h), fun t e => by cases e; exact k⟩
theorem pv_int (i : Int) : PV (.int i) := ⟨rfl, (fun t e => by cases e), fun t e => by cases e⟩
theorem pv_non : PV .non := ⟨rfl, (fun t e => by cases e), fun t e => by cases e⟩
theorem pv_bl (b : Bool) : PV (.bl b) := ⟨rfl, (fun t e => by cases e), fun t e => by cases e⟩
def rIsX (K : PySem.W.Frag) (D a : Addr) (cls : Value) (d : Option Addr) : List V → Hp → VK → Prop := fun xs H Q => cls = .ref D ∧ ∃ (dd : Addr) (fs : List (Str × V)), d = some dd ∧ H dd = some (.xd fs) ∧ ∃ (c : V) (cv : Value) (b : Bool), xs = [.ref a, c] ∧ (∀ u, RelV c u → u = cv) ∧ PySem.W.kitOne K (.ref D) cv = some b ∧ Q (.bl b) H
theorem call_isX {X : Cx} {a D : Addr} {oe : Obj} {cls : Value} {d : Option Addr} {pn : List (Addr × Obj)} (G : ExcC X.K D) (hz : Zc cls d oe) (hf : ∃ vs, oe.data = .fields vs) : CallR (X.suite a ((a, oe) :: pn)) (.builtin "isinstance") (rIsX X.K D a cls d) := by
  intro pins s σ H xs us Q I r h
  obtain ⟨ec, dd, fs, ed, hdd, c, cv, b, rfl, hcv, hk, q⟩ := h
  subst ec ed
  obtain ⟨u1, u2, rfl, r1, r2⟩ := r.two
  cases r1
  have e2 := hcv _ r2
  subst e2
  have pinned := (I.pin (a, oe) (List.mem_append.mpr (.inl List.mem_cons_self))).1
  obtain ⟨vs, hdat⟩ := hf
  obtain ⟨mA, hns, _⟩ := I.hok dd _ hdd
  obtain ⟨od, ho, _⟩ := lookIn_ns hns
  have J : PySem.W.InstAt s.heap a oe D (some od) := ⟨pinned, hz.1, by unfold PySem.W.notCls; rw [hdat] <;> rfl, by rw [hz.2]; exact ho⟩
  have hcl : (PySem.W.clsIn X.K D).isSome = true := by
    obtain ⟨cd, hc, _⟩ := PySem.W.any_some G.hd
    rw [hc]
    rfl
  exact PySem.W.kia_one (PySem.W.kitx_exc hcl G.hg G.hk G.hs G.ha G.hn G.ht G.hm) I.kIn J hk (fun z => nomatch z) fun tk => ⟨.bl b, H, I.kept (t' := tk) fun _ _ z => z, rfl, q⟩
structure Mt (P : Program) (w : World) (K : PySem.W.Frag) (mg : Str → Option Value) (base : Heap) (k : Nat) (C : Addr) (m : Str) (ps : List Str) (sp : Sp) : Prop where
  ex : ∃ (f : Addr) (fd : FuncData), Meth K C m f ∧ FnOk P w K mg base CX0 k f fd ps sp ∧ Binds K fd ps []
theorem op_in_seqK {X : Cx} (K : PySem.W.Frag) (hK : X.K = K) : OpR X (compareOp .In) (rIn K false) := by
  subst hK
  exact op_in_seq
section
variable {P : Program} {w : World} {K : PySem.W.Frag} {mg : Str → Option Value} {base : Heap} {ts tw : Addr}
theorem op_notIn_seqK {X : Cx} (K : PySem.W.Frag) (hK : X.K = K) : OpR X (compareOp .NotIn) (rIn K true) := by
  subst hK
  exact op_notIn_seq
theorem in_strs {s : Str} {xs : List Str} (h : s ∈ xs) : inV (.str s) (xs.map V.str) = true := by
  unfold inV
  rw [List.any_eq_true]
  exact ⟨.str s, List.mem_map.mpr ⟨s, h, rfl⟩, by simp [eqV]⟩
theorem notin_strs {s : Str} {xs : List Str} (h : s ∉ xs) : inV (.str s) (xs.map V.str) = false := by
  unfold inV
  rw [List.any_eq_false]
  intro v hv
  obtain ⟨t, ht, rfl⟩ := List.mem_map.mp hv
  have : t ≠ s := fun e => h (e ▸ ht)
  simp [eqV, this]
theorem flat_strs (xs : List Str) : (xs.map V.str).all flatV = true := by
  rw [List.all_eq_true]
  intro v hv
  obtain ⟨t, ht, rfl⟩ := List.mem_map.mp hv
  rfl
end
end OR

namespace OR
open PySem PySem.Spec PyProof.Rows L2
/-! ### enumerate of a list or a tuple -/
structure WalksE (it : It) (xs : List V) (J : Hp → Prop) : Prop where
  stop : ∀ H, J H → it.stop xs.length H
  go : ∀ i H, J H → i < xs.length → it.go i H
  yld : ∀ i H v H', J H → it.yld i H v H' → ∃ T x, v = .ref T ∧ H T = none ∧ H' = upd H T (.tup [.int (i : Nat), x]) ∧ xs[i]? = some x
theorem walksEL {K : PySem.W.Frag} {a : Addr} {xs : List V} : WalksE (Ite K a) xs fun H => SqL K H a xs :=
  ⟨fun H h => ⟨xs, h, Nat.le_refl _⟩, fun i H h hi => ⟨xs, xs[i], h, by simp [hi]⟩, fun i H v H' h ⟨T, x, e1, e2, e3, y⟩ => ⟨T, x, e1, e2, e3, y xs h⟩⟩
theorem walksET {K : PySem.W.Frag} {a : Addr} {xs : List V} : WalksE (IteT K a) xs fun H => SqT K H a xs :=
  ⟨fun H h => ⟨xs, h, Nat.le_refl _⟩, fun i H h hi => ⟨xs, xs[i], h, by simp [hi]⟩, fun i H v H' h ⟨T, x, e1, e2, e3, y⟩ => ⟨T, x, e1, e2, e3, y xs h⟩⟩
theorem for_anyE {it : It} {xs : List V} {J : Hp → Prop} {g : TG} {tb : TS} {D : Ends} {σ : L2.St} {H : Hp} (w : WalksE it xs J) (Pv : Nat → L2.St → Hp → Prop) (h0 : Pv 0 σ H) (hl : ∀ i σ H, i ≤ xs.length → Pv i σ H → J H)
    (hs : ∀ i x σ H T, xs[i]? = some x → Pv i σ H → H T = none → g (.ref T) σ (upd H T (.tup [.int (i : Nat), x])) fun σ2 H2 => tb { D with nx := Pv (i + 1), ct := Pv (i + 1), bk := D.nx } σ2 H2) (hd : ∀ σ H, Pv xs.length σ H → D.nx σ H) :
    ∃ W : Nat → Nat → L2.St → Hp → Prop, (∃ m, W 0 m σ H) ∧ ∀ i m σ H, W i m σ H →
      (it.stop i H ∧ D.nx σ H) ∨ (it.go i H ∧ ∃ N : L2.St → Hp → Prop, (∀ σ' H', N σ' H' → ∃ m', m' < m ∧ W (i + 1) m' σ' H') ∧ ∀ x H', it.yld i H x H' → g x σ H' fun σ2 H2 => tb { D with nx := N, ct := N, bk := D.nx } σ2 H2) := by
  refine ⟨fun i m σ H => m = xs.length - i ∧ i ≤ xs.length ∧ Pv i σ H, ⟨xs.length, by simp, Nat.zero_le _, h0⟩, ?_⟩
  rintro i m σ H ⟨rfl, hi, p⟩
  have q := hl i σ H hi p
  by_cases hlt : i < xs.length
  · refine .inr ⟨w.go i H q hlt, Pv (i + 1), fun σ' H' p' => ⟨xs.length - (i + 1), by omega, rfl, hlt, p'⟩, fun v H' y => ?_⟩
    obtain ⟨T, x, rfl, hT, rfl, hx⟩ := w.yld i H v H' q y
    exact hs i x σ H T hx p hT
  · obtain rfl : i = xs.length := by omega
    exact .inl ⟨w.stop H q, hd σ H p⟩
def iEnumS (K : PySem.W.Frag) (ta : TA) : TI := fun σ H R => ta σ H fun vs H1 => ∃ a xs H0, vs = [.ref a] ∧ SqA K H0 a xs ∧ Same H0 H1 ∧ ∀ (it : It) (J : Hp → Prop), WalksE it xs J → (∀ G, Same H0 G → J G) → R it H1
theorem pi_enumS {X : Cx} (K : PySem.W.Frag) (hK : X.K = K) {e : Expr} {ta : TA} {p pos tpos : Pos} {elts : List Expr} {kk : Nat} (hg : Gl X "enumerate") (hm : X.mg "enumerate" = none) (ha : PA X [e] ta) (hs : starEach [e] X.env = [(false, eval e X.env)] := by rfl) :
    PI X (.Tuple elts kk tpos) (.Call (.Name "enumerate" p) [e] [] pos) (iEnumS K ta) := by
  subst hK
  refine ⟨fun pins s σ H R I h => ?_⟩
  refine Call_ (ld_blt I hg hm boot_enumerate (PyProof.Rows.callWith_type1 (thn (ha.run pos pins s σ H _ I h) fun us s1 ⟨vs, H1, I1, r1, q1⟩ => ?_) hs rfl))
  obtain ⟨a, xs, H0, ex, hS, sm, q⟩ := q1
  subst ex
  cases r1 with
  | cons r rr =>
    cases rr
    cases r
    rcases hS with hq | hq
    · obtain ⟨its, rv, p', hz⟩ := I1.list (sm.seq hq)
      refine call_enumerate_list p'.isList fun h' he hit hsz hk => wpAny_pyIter_enum he ?_
      have I2 : Inv X pins σ H1 { s1 with heap := h' } := I1.kept (t' := s1.toks) hk
      refine ⟨s1.heap.objs.size + 1, [s1.heap.objs.size + 1, s1.heap.objs.size], _, _, H1, rfl, I2, turn_enum a (s1.heap.objs.size + 1) s1.heap.objs.size, ⟨⟨.none, he⟩, hit, Nat.succ_ne_self _⟩, fun b hb => ?_, q _ _ walksEL fun G z => z.seq hq⟩
      have e' : b = s1.heap.objs.size + 1 ∨ b = s1.heap.objs.size := by simpa using hb
      have hle : s1.heap.objs.size ≤ b := by
        rcases e' with z | z
        · rw [z]; exact Nat.le_add_right _ _
        · rw [z]; exact Nat.le_refl _
      exact I1.fpOk hle (I1.hok.fresh hle)
    · obtain ⟨its, rv, p', hz⟩ := I1.tuple (Same.tupS sm hq)
      have pt : s1.heap.IsTuple a its.toArray := p'
      have hal : a < s1.heap.objs.size := by obtain ⟨o, ho, _⟩ := pt; exact Heap.lt_size ho
      refine call_enum_tup pt fun h' he hit hsz hk => wpAny_pyIter_enum he ?_
      have I2 : Inv X pins σ H1 { s1 with heap := h' } := I1.kept (t' := s1.toks) hk
      refine ⟨s1.heap.objs.size + 1, [s1.heap.objs.size + 1, s1.heap.objs.size], _, _, H1, rfl, I2, turn_enumT a (s1.heap.objs.size + 1) s1.heap.objs.size (Nat.ne_of_lt hal) (Nat.ne_of_gt (Nat.lt_succ_of_lt hal)), ⟨⟨.none, he⟩, hit, Nat.succ_ne_self _⟩, fun b hb => ?_, q _ _ walksET fun G z => Same.tupS z hq⟩
      have e' : b = s1.heap.objs.size + 1 ∨ b = s1.heap.objs.size := by simpa using hb
      have hle : s1.heap.objs.size ≤ b := by
        rcases e' with z | z
        · rw [z]; exact Nat.le_add_right _ _
        · rw [z]; exact Nat.le_refl _
      exact I1.fpOk hle (I1.hok.fresh hle)
/-! ### a program as it stands -/
theorem kFL : ¬ (("functions" : Str) = "last") := by decide +kernel
theorem kTLp : ¬ (("_told" : Str) = "last") := by decide +kernel
theorem kTFp : ¬ (("_told" : Str) = "functions") := by decide +kernel
def gFl (n : Int) (f t : Addr) : List (Str × V) := putF "_told" (.ref t) (putF "functions" (.ref f) (putF "last" (.int n) []))
theorem gFl_l (n : Int) (f t : Addr) : (gFl n f t).lookup ("last" : Str) = some (.int n) := by
  unfold gFl
  rw [lookup_putF, if_neg (fun e => kTLp e.symm), lookup_putF, if_neg (fun e => kFL e.symm), lookup_putF, if_pos rfl]
theorem gFl_f (n : Int) (f t : Addr) : (gFl n f t).lookup ("functions" : Str) = some (.ref f) := by
  unfold gFl
  rw [lookup_putF, if_neg (fun e => kTFp e.symm), lookup_putF, if_pos rfl]
theorem gFl_t (n : Int) (f t : Addr) : (gFl n f t).lookup ("_told" : Str) = some (.ref t) := by
  unfold gFl
  rw [lookup_putF, if_pos rfl]
theorem gFl_no (n : Int) (f t : Addr) {m : Str} (h1 : ¬ m = "_told") (h2 : ¬ m = "functions") (h3 : ¬ m = "last") : (gFl n f t).lookup m = none := by
  unfold gFl
  rw [lookup_putF, if_neg h1, lookup_putF, if_neg h2, lookup_putF, if_neg h3]
  all_goals rfl
structure GTxt (K : PySem.W.Frag) (mg : Str → Option Value) (CG : Addr) : Prop where
  cl : Cls K CG
  nL : NoAttr K CG "last"
  nF : NoAttr K CG "functions"
  nT : NoAttr K CG "_told"
  mgG : mg "Program" = some (.ref CG)
abbrev Tld := List (Str × List Pce)
/-- one function's pieces, a tuple, in the dict of a program -/
def EntP (CL : Addr) (H : Hp) (e : Key × V) (t : Str × List Pce) : Prop := e.1 = .inr t.1 ∧ ∃ p ys, e.2 = .ref p ∧ H p = some (.tup ys) ∧ All2 (PcT CL H) ys t.2
theorem EntP.kp {CL : Addr} {H H' : Hp} {e : Key × V} {t : Str × List Pce} (h : EntP CL H e t) (k : KP H H') : EntP CL H' e t := by
  obtain ⟨h0, p, ys, h1, h2, h3⟩ := h
  exact ⟨h0, p, ys, h1, k.tup h2, h3.imp fun _ _ e => e.kp k⟩
/-- .. in the dict that is told: a list or a tuple of pieces -/
def EntA (K : PySem.W.Frag) (CL : Addr) (H : Hp) (e : Key × V) (t : Str × List Pce) : Prop := e.1 = .inr t.1 ∧ ∃ p xs, e.2 = .ref p ∧ SqA K H p xs ∧ All2 (PcA CL H) xs t.2
theorem EntA.same {K : PySem.W.Frag} {CL : Addr} {H H' : Hp} {e : Key × V} {t : Str × List Pce} (h : EntA K CL H e t) (s : Same H H') : EntA K CL H' e t := by
  obtain ⟨h0, p, ys, h1, h2, h3⟩ := h
  exact ⟨h0, p, ys, h1, Same.any s h2, h3.imp fun _ _ e => e.same s⟩
/-- a program: its last place, its functions in order with their pieces in the one form -/
def IsG (CG CL : Addr) (H : Hp) (x : Addr) (n : Int) (T : Tld) : Prop := ∃ dx f t kvs, H x = some (.ins CG dx (gFl n f t)) ∧ H f = some (.tup (T.map fun e => V.str e.1)) ∧ H t = some (.dK kvs) ∧ All2 (EntP CL H) kvs T
theorem IsG.same {CG CL : Addr} {H H' : Hp} {x : Addr} {n : Int} {T : Tld} (h : IsG CG CL H x n T) (s : Same H H') : IsG CG CL H' x n T := by
  obtain ⟨dx, f, t, kvs, h1, h2, h3, h4⟩ := h
  exact ⟨dx, f, t, kvs, s _ _ h1, s _ _ h2, s _ _ h3, h4.imp fun _ _ e => e.kp (kp_same s)⟩
/-- the told pieces of functions -/
structure Told (n : Int) (T : Tld) : Prop where
  nd : (T.map (·.1)).Nodup
  few : T.length ≤ 60
  last : Plc n
  ok : ∀ e ∈ T, Word e.1 ∧ Til e.2 0 (n + 1) ∧ (∀ q ∈ e.2, Bq q) ∧ e.2.length ≤ 1000
def oneT (T : Tld) : Tld := T.map fun e => (e.1, oneF e.2)
theorem val_ent {α : Type} {p : Key × V → Str × α → Prop} (hp : ∀ e t, p e t → e.1 = .inr t.1) : ∀ {kvs : List (Key × V)} {T : List (Str × α)}, All2 p kvs T → (T.map (·.1)).Nodup → ∀ {t : Str × α}, t ∈ T → ∃ e, e ∈ kvs ∧ p e t ∧ valV kvs (.inr t.1) = some e.2
  | _, _, .nil, _, _, h => nomatch h
  | e :: kvs, t0 :: T, .cons h r, nd, t, ht => by
    rw [List.map_cons, List.nodup_cons] at nd
    rcases List.mem_cons.mp ht with z | z
    · subst z
      exact ⟨e, List.mem_cons_self, h, valV_pos (hp _ _ h)⟩
    · obtain ⟨e', m, k1, k2⟩ := val_ent hp r nd.2 z
      refine ⟨e', List.mem_cons_of_mem _ m, k1, ?_⟩
      rw [valV_neg]
      · exact k2
      · rw [hp _ _ h]
        intro q
        exact nd.1 (List.mem_map.mpr ⟨t, z, (Sum.inr.inj q).symm⟩)
def spRanked : Sp := fun vs H Q _ => ∃ x : Str, vs = [.str x] ∧ ∀ t, H t = none → Q (.ref t) (upd H t (.tup [.int 2, .str x, .str x]))
def spIsPc (CL : Addr) : Sp := fun vs H Q _ => ∃ v q, vs = [v] ∧ PcA CL H v q ∧ Plc q.1 ∧ Plc q.2.1 ∧ ∀ H', Same H H' → Q (.bl true) H'
def spChkPcs (K : PySem.W.Frag) (CL : Addr) : Sp := fun vs H Q _ => ∃ (x : Str) (a : Addr) (xs : List V) (L : List Pce) (n : Int), vs = [.str x, .ref a, .int n] ∧ SqA K H a xs ∧ All2 (PcA CL H) xs L ∧ Til L 0 (n + 1) ∧ (∀ q ∈ L, Bq q) ∧ ∀ H', Same H H' → Q .non H'
theorem plc_place {x : Int} (h : Plc x) : placeB x = true := by
  unfold placeB
  rw [decide_eq_true h.1, decide_eq_true (show x ≤ lastP from h.2)]
  rfl
section
variable {P : Program} {w : World} {K : PySem.W.Frag} {mg : Str → Option Value} {base : Heap} {CL CG ts tw : Addr}
theorem scRanked : FnScope ["word"] ["word"] (defScope pRanked) := ⟨rfl, rfl, rfl, by decide +kernel, rfl, by decide +kernel, by decide +kernel⟩
theorem ok_ranked {f : Addr} {fd : FuncData} (F : Fun K "_ranked" "_ranked" pRanked f fd) (W : WTxt K mg ts tw) : FnOk P w K mg base CX0 1 f fd ["word"] spRanked := by
  refine F.ok scRanked (fun vs H Q E h => ?_) (fun cdv A outer s H vs Q E hr h => ?_)
  · obtain ⟨x, rfl, _⟩ := h
    rfl
  · obtain ⟨x, rfl, q⟩ := h
    refine ⟨_, pss_cons (ps_if (pt_cmp (pc_isN (pv 0)))
          (pss_one (ps_ret (pe_tup (pa_cons pe_int (pa_cons pe_int (pa_cons (pv 0) pa_nil))))))
          pss_nil)
      (pss_one (ps_ret (pe_ifExp (pt_val (pe_callB call_isi (by rfl) W.zIsi bt_isi (pa_cons (pv 0) (pa_cons (pe_bltn (v := .ty "str") (by rfl) W.zStr boot_strT rfl) pa_nil)))) (pe_tup (pa_cons pe_int (pa_cons (pv 0) (pa_cons (pv 0) pa_nil)))) (pe_tup (pa_cons pe_int (pa_cons (pv 0) (pa_cons (pv 0) pa_nil))))))), ?_⟩
    refine ⟨_, rfl, _, rfl, iteB (by simp) ?_⟩
    exact ⟨_, rfl, _, .ty "str", _, _, true, rfl, .ty "str", .base (.str _), kit_ty (by decide +kernel), _, rfl, iteT ⟨_, rfl, _, rfl, (by show 3 ≤ sizeLine; decide), q⟩⟩
theorem scIsPc : FnScope ["value", "first", "last", "line"] ["value"] (defScope pIsPiece) := ⟨rfl, rfl, rfl, by decide +kernel, rfl, by decide +kernel, by decide +kernel⟩
theorem ok_ispc {f : Addr} {fd : FuncData} (F : Fun K "_is_piece" "_is_piece" pIsPiece f fd) (N : NTxt mg) (T : LTxt K mg CL) (DP : Cl P w K mg base 2 "is_place" ["value"] (spIsPlace K)) : FnOk P w K mg base CX0 3 f fd ["value"] (spIsPc CL) := by
  refine F.ok scIsPc (fun vs H Q E h => ?_) (fun cdv A outer s H vs Q E hr h => ?_)
  · obtain ⟨v, q, rfl, _⟩ := h
    rfl
  · obtain ⟨v, q, rfl, hpc, p1, p2, R⟩ := h
    have nd := scIsPc.nd
    refine ⟨_, pss_cons (ps_if (PW.pt (pw_or (pt_not (pt_val (pe_callB call_isiT (by rfl) N.zIsi bt_isi (pa_cons (pv 0) (pa_cons (pe_tup (pa_cons (pe_bltn (v := .ty "tuple") (by rfl) N.zTup bt_tup rfl) (pa_cons (pe_bltn (v := .ty "list") (by rfl) N.zList bt_list rfl) pa_nil))) pa_nil))))) (pw_or1 (pt_cmpR op_ne (pe_callB call_len_seq (by rfl) N.zLen PySem.boot_len (pa_cons (pv 0) pa_nil)) pe_int (nomark _)))))
          (pss_one (ps_ret pe_bl))
          pss_nil)
      (pss_cons (ps_asg (pv 0) (pg_orD (pg_tup rfl (pgs_cons (pg_name (i := 1) nd rfl (.inl rfl)) (pgs_cons (pg_name (i := 2) nd rfl (.inl rfl)) (pgs_cons (pg_name (i := 3) nd rfl (.inl rfl)) pgs_nil)))) (pg_unl rfl (pgs_cons (pg_name (i := 1) nd rfl (.inl rfl)) (pgs_cons (pg_name (i := 2) nd rfl (.inl rfl)) (pgs_cons (pg_name (i := 3) nd rfl (.inl rfl)) pgs_nil))))))
      (pss_one (ps_ret (pe_and (pe_cl DP hr (by decide) (by rfl) (pa_cons (pv 1) pa_nil)) (pe_and (pe_cl DP hr (by decide) (by rfl) (pa_cons (pv 2) pa_nil)) (pe_one (pe_or (pe_cmp (pc_isN (pv 3))) (pe_one (pe_callB call_isi (by rfl) N.zIsi bt_isi (pa_cons (pv 3) (pa_cons (pe_glob (v := .ref CL) (by rfl) T.mgC rfl) pa_nil))))))))))), ?_⟩
    refine ⟨_, rfl, by show 2 ≤ sizeLine; decide, fun t ht => ?_⟩
    have s1 := same_lay (o := .tup [.ty "tuple", .ty "list"]) ht
    obtain ⟨tp, u, rfl, hpt, hl⟩ := hpc.same s1
    have q1 := fun (H' : Hp) (z : Same (upd H t (.tup [.ty "tuple", .ty "list"])) H') => R H' (s1.trans z)
    have hT0 : (upd H t (.tup [.ty "tuple", .ty "list"])) t = some (.tup [.ty "tuple", .ty "list"]) := upd_same
    generalize upd H t (.tup [.ty "tuple", .ty "list"]) = G at hpt hl q1 hT0
    have hty : ∃ T, TyX K G (.ref tp) (.type T) ∧ PySem.W.kitAny K (.type T) [.type "tuple", .type "list"] = some true := by
      rcases hpt with e | e
      · exact ⟨"tuple", .base (.tup e), kitAny_cons (kit_ty (b := "tuple") (r := true) (by decide +kernel)) (fun z => nomatch z) fun _ => rfl⟩
      · exact ⟨"list", .base (.lst e), kitAny_cons (kit_ty (b := "tuple") (r := false) (by decide +kernel)) (fun _ => kitAny_cons (kit_ty (b := "list") (r := true) (by decide +kernel)) (fun z => nomatch z) fun _ => rfl) fun z => nomatch z⟩
    have hseq : SqL K G tp [.int q.1, .int q.2.1, u] ∨ SqT K G tp [.int q.1, .int q.2.1, u] := hpt.elim (fun e => .inr (.inl (.inl e))) fun e => .inl (.inl (.inl e))
    obtain ⟨ty, hT, hk⟩ := hty
    refine ⟨.ref tp, t, _, .type ty, [.type "tuple", .type "list"], true, rfl, hT0, .cons (.ty "tuple") (.cons (.ty "list") .nil), hT, hk, true, rfl, iteF ?_⟩
    refine ⟨_, rfl, tp, _, rfl, hseq, rfl, _, rfl, iteNS rfl ?_⟩
    refine ⟨_, rfl, unp3 hpt ?_⟩
    refine ⟨_, rfl, .int q.1, rfl, .inl ⟨q.1, rfl, _, rfl, ?_⟩⟩
    rw [plc_place p1]
    refine iteT ⟨_, rfl, .int q.2.1, rfl, .inl ⟨q.2.1, rfl, _, rfl, ?_⟩⟩
    rw [plc_place p2]
    refine iteT ?_
    cases hq : q.2.2 with
    | none =>
      rw [hq] at hl
      obtain rfl : u = .non := hl
      refine ⟨_, rfl, _, rfl, iteA (by simp) ?_⟩
      exact q1 G (Same.refl _)
    | some r =>
      rw [hq] at hl
      obtain ⟨y, rfl, dy, hy⟩ := hl
      refine ⟨_, rfl, _, rfl, iteB (by simp) ?_⟩
      exact ⟨_, rfl, .ref y, .ref CL, _, _, true, rfl, .own CL, tyL T hy, T.kLL, q1 G (Same.refl _)⟩
theorem scChkPcs : FnScope ["function", "pieces", "last", "start", "index", "piece"] ["function", "pieces", "last"] (defScope pCheckPieces) := ⟨rfl, rfl, rfl, by decide +kernel, rfl, by decide +kernel, by decide +kernel⟩
theorem ok_chkpcs {f : Addr} {fd : FuncData} (F : Fun K "_check_pieces" "_check_pieces" pCheckPieces f fd) (N : NTxt mg) (IP : Cl P w K mg base 3 "_is_piece" ["value"] (spIsPc CL)) : FnOk P w K mg base CX0 4 f fd ["function", "pieces", "last"] (spChkPcs K CL) := by
  refine F.ok scChkPcs (fun vs H Q E h => ?_) (fun cdv A outer s H vs Q E hr h => ?_)
  · obtain ⟨x, a, xs, L, n, rfl, _⟩ := h
    rfl
  · obtain ⟨x, a, xs, L, n, rfl, hS, hA, hT, hq, R⟩ := h
    have nd := scChkPcs.nd
    refine ⟨_, pss_cons (ps_set (i := 3) nd rfl (.inl rfl) pe_int)
      (pss_cons (ps_for PassesOwn.never rfl (pi_enumS K rfl (by rfl) N.zEnum (pa_cons (pv 1) pa_nil)) (pg_tup rfl (pgs_cons (pg_name (i := 4) nd rfl (.inl rfl)) (pgs_cons (pg_name (i := 5) nd rfl (.inl rfl)) pgs_nil)))
          (pss_cons (ps_if (PW.pt (pw_or (pt_not (pt_val (pe_cl IP hr (by decide) (by rfl) (pa_cons (pv 5) pa_nil)))) (pw_or (pt_cmpR op_ne (pe_ix (ix_any K rfl) (pv 5) pe_int (fun _ _ => rfl)) (pv 3) (nomark _)) (pw_or1 (pt_not (pt_chain op_le op_le (pv 3) (pe_ix (ix_any K rfl) (pv 5) pe_int (fun _ _ => rfl)) (pv 2)))))))
              (pss_one ps_never)
              pss_nil)
          (pss_one (ps_set (i := 3) nd rfl (.inl rfl) (pe_op op_add (pe_ix (ix_any K rfl) (pv 5) pe_int (fun _ _ => rfl)) pe_int)))))
      (pss_one (ps_if (pt_cmpR op_le (pv 3) (pv 2) (nomark _))
          (pss_one ps_never)
          pss_nil))), ?_⟩
    have lxs := hA.length
    have tl : ∀ i, i ≤ L.length → ∃ b, Til (L.take i) 0 b ∧ (i = L.length → b = n + 1) := fun i hi => by
      rw [← List.take_append_drop i L] at hT
      obtain ⟨c, k1, k2⟩ := hT.split
      refine ⟨c, k1, fun e => ?_⟩
      rw [e, List.drop_of_length_le (Nat.le_refl _)] at k2
      exact k2
    refine ⟨_, rfl, a, xs, H, rfl, hS, Same.refl _, fun it J wk st => ?_⟩
    refine for_anyE wk (fun i σ G => ∃ b u v, Til (L.take i) 0 b ∧ σ = [some (.str x), some (.ref a), some (.int n), some (.int b), u, v] ∧ Same H G) ⟨0, none, none, rfl, rfl, Same.refl _⟩ (fun i σ G _ ⟨_, _, _, _, _, s⟩ => st G s) ?_ ?_
    · rintro i v σ G T hv ⟨b, u0, v0, tb, rfl, sG⟩ nT
      obtain ⟨p, hp, hpc⟩ := all2_get hA hv
      obtain ⟨tt, p12⟩ := til_take hT hp
      have tu : b = p.1 := by
        have : ∀ {L : List Pce} {a b c : Int}, Til L a b → Til L a c → b = c := fun {L} => by
          induction L with
          | nil => intro a b c h k; have h : a = b := h; have k : a = c := k; omega
          | cons q r ih => intro a b c h k; exact ih h.2.2 k.2.2
        exact this tb tt
      subst tu
      have Tp := hq p (List.mem_of_getElem? hp)
      have s1 := same_lay (o := .tup [.int (i : Nat), v]) nT
      have hend : p.2.1 ≤ n := by have := (hT.mem p (List.mem_of_getElem? hp)).2.2; omega
      refine ⟨T, _, rfl, .inl (.inl upd_same), rfl, _, _, rfl, _, _, rfl, rfl, ?_⟩
      refine ⟨_, rfl, v, p, rfl, hpc.same (sG.trans s1), Tp.p1, Tp.p2, fun G2 s2 => ⟨_, rfl, iteF ?_⟩⟩
      obtain ⟨tp, u, rfl, hpt, hl⟩ := hpc.same ((sG.trans s1).trans s2)
      have hseq : SqL K G2 tp [.int p.1, .int p.2.1, u] ∨ SqT K G2 tp [.int p.1, .int p.2.1, u] := hpt.elim (fun e => .inr (.inl (.inl e))) fun e => .inl (.inl (.inl e))
      refine ⟨_, rfl, tp, _, 0, _, rfl, rfl, hseq, atI_nat (j := 0) rfl, _, rfl, rfl, _, rfl, iteB (by simp) ?_⟩
      refine ⟨_, rfl, _, rfl, tp, _, 1, _, rfl, rfl, hseq, atI_nat (j := 1) rfl, _, _, rfl, rfl, _, rfl, iteA (decide_eq_true p12) ?_⟩
      refine ⟨_, rfl, _, _, rfl, rfl, _, rfl, ?_⟩
      rw [decide_eq_true hend]
      refine iteF ?_
      refine ⟨_, rfl, tp, _, 1, _, rfl, rfl, hseq, atI_nat (j := 1) rfl, _, _, rfl, rfl, ?_⟩
      refine ⟨p.2.1 + 1, _, _, ?_, rfl, (sG.trans s1).trans s2⟩
      rw [take_snoc hp]
      exact tt.app ⟨rfl, p12, rfl⟩
    · rintro σ G ⟨b, u0, v0, tb, rfl, sG⟩
      have eb : b = n + 1 := by
        rw [List.take_of_length_le (by omega)] at tb
        have : ∀ {L : List Pce} {a b c : Int}, Til L a b → Til L a c → b = c := fun {L} => by
          induction L with
          | nil => intro a b c h k; have h : a = b := h; have k : a = c := k; omega
          | cons q r ih => intro a b c h k; exact ih h.2.2 k.2.2
        exact this tb hT
      refine ⟨_, rfl, _, rfl, _, _, rfl, rfl, _, rfl, ?_⟩
      rw [decide_eq_false (by omega)]
      exact iteF (R G sG)
end
end OR

namespace OR
open PySem PySem.Spec PyProof.Rows L2
/-! ### the piece at a place; calls of a program -/
theorem til_fun : ∀ {L : List Pce} {a b c : Int}, Til L a b → Til L a c → b = c
  | [], _, _, _, h, k => by have h : _ = _ := h; have k : _ = _ := k; omega
  | _ :: _, _, _, _, h, k => til_fun h.2.2 k.2.2
theorem til_pair {L : List Pce} {a b : Int} (h : Til L a b) {i j : Nat} {p q : Pce} (hp : L[i]? = some p) (hq : L[j]? = some q) (hij : i < j) : p.2.1 < q.1 := by
  obtain ⟨tp, p12⟩ := til_take h hp
  obtain ⟨tq, q12⟩ := til_take h hq
  obtain ⟨hi, ep⟩ := List.getElem?_eq_some_iff.mp hp
  have sp : L.take j = L.take i ++ p :: (L.take j).drop (i + 1) := by
    have e1 : (L.take j)[i]? = some p := by rw [List.getElem?_take_of_lt hij]; exact hp
    obtain ⟨hi2, e2⟩ := List.getElem?_eq_some_iff.mp e1
    have e3 := List.take_append_drop i (L.take j)
    rw [← List.getElem_cons_drop hi2, e2, List.take_take, Nat.min_eq_left (by omega)] at e3
    exact e3.symm
  rw [sp] at tq
  obtain ⟨c, k1, k2⟩ := tq.split
  have e1 := til_fun k1 tp
  have k3 := k2.2.2
  have := k3.le
  omega
def spPieceAt (K : PySem.W.Frag) : Sp := fun vs H Q _ => ∃ (a : Addr) (xs : List V) (L : List Pce) (x b : Int), vs = [.ref a, .int x] ∧ SqA K H a xs ∧ All2 (fun (v : V) (q : Pce) => ∃ t u, v = V.ref t ∧ H t = some (.tup [.int q.1, .int q.2.1, u])) xs L ∧ Til L 0 b ∧ L.length ≤ 1000 ∧ 0 ≤ x ∧ x < b ∧
  ∀ (v : V) (q : Pce), (∃ i : Nat, xs[i]? = some v ∧ L[i]? = some q) → q.1 ≤ x → x ≤ q.2.1 → Q v H
def placeV (n : Int) : V → Bool
  | .int x => placeB x && decide (x ≤ n)
  | _ => false
def spChkPlace (CP : Addr) : Sp := fun vs H Q E => ∃ (v : V) (n : Int), vs = [v, .int n] ∧ PV v ∧ (placeV n v = true → Q .non H) ∧ (placeV n v = false → Raised E CP "place" v H)
def spChkFns (CG CL CF : Addr) : Sp := fun vs H Q E => ∃ (x t : Addr) (n : Int) (T : Tld) (s : Str), vs = [.ref x, .ref t] ∧ IsG CG CL H x n T ∧ H t = some (.tup [.str s]) ∧ (s ∈ T.map (·.1) → Q .non H) ∧ (s ∉ T.map (·.1) → Raised E CF "function" (.str s) H)
/-- the outcome as a value -/
def oVal : Option Int → V
  | none => .non
  | some k => .int k
def spGCall (CG CL CF CP : Addr) : Sp := fun vs H Q E => ∃ (x : Addr) (s : Str) (v : V) (n : Int) (T : Tld), vs = [.ref x, .str s, v] ∧ IsG CG CL H x n (oneT T) ∧ Told n T ∧ PV v ∧
  (s ∈ T.map (·.1) → placeV n v = true → ∀ e ∈ T, e.1 = s → ∀ k H', v = .int k → Same H H' → Q (oVal (outc e.2 k)) H') ∧
  (s ∉ T.map (·.1) → Raised E CF "function" (.str s) H) ∧ (s ∈ T.map (·.1) → placeV n v = false → Raised E CP "place" v H)
theorem oneT_fst (T : Tld) : (oneT T).map (·.1) = T.map (·.1) := by unfold oneT; rw [List.map_map]; rfl
theorem flat1 {s : Str} : ([V.str s] : List V).all flatV = true := rfl
def gap : L2.St → Nat
  | [_, _, some (.int lo), some (.int hi), _] => (hi - lo).toNat
  | _ => 0
section
variable {P : Program} {w : World} {K : PySem.W.Frag} {mg : Str → Option Value} {base : Heap} {CL CG ts tw : Addr}
theorem scPieceAt : FnScope ["pieces", "x", "low", "high", "middle"] ["pieces", "x"] (defScope pPieceAt) := ⟨rfl, rfl, rfl, by decide +kernel, rfl, by decide +kernel, by decide +kernel⟩
theorem ok_pieceat {f : Addr} {fd : FuncData} (F : Fun K "_piece_at" "_piece_at" pPieceAt f fd) (N : NTxt mg) : FnOk P w K mg base CX0 1 f fd ["pieces", "x"] (spPieceAt K) := by
  refine F.ok scPieceAt (fun vs H Q E h => ?_) (fun cdv A outer s H vs Q E hr h => ?_)
  · obtain ⟨a, xs, L, x, b, rfl, _⟩ := h
    rfl
  · obtain ⟨a, xs, L, x, b, rfl, hS, hA, hT, hlen, h0, hb, R⟩ := h
    have nd := scPieceAt.nd
    refine ⟨_, pss_cons (ps_set (i := 2) nd rfl (.inl rfl) pe_int)
      (pss_cons (ps_set (i := 3) nd rfl (.inl rfl) (pe_op op_sub (pe_callB call_len_seq (by rfl) N.zLen PySem.boot_len (pa_cons (pv 0) pa_nil)) pe_int))
      (pss_cons (ps_while PassesOwn.never (pt_cmpR op_lt (pv 2) (pv 3) (nomark _))
          (pss_cons (ps_set (i := 4) nd rfl (.inl rfl) (pe_op op_fdivW (pe_op op_add (pv 2) (pv 3)) pe_int))
          (pss_one (ps_if (pt_cmpR op_le (pv 1) (pe_ix (ix_any K rfl) (pe_ix (ix_any K rfl) (pv 0) (pv 4) (fun _ _ => rfl)) pe_int (fun _ _ => rfl)) (nomark _))
              (pss_one (ps_set (i := 3) nd rfl (.inl rfl) (pv 4)))
              (pss_one (ps_set (i := 2) nd rfl (.inl rfl) (pe_op op_add (pv 4) pe_int)))))))
      (pss_one (ps_ret (pe_ix (ix_any K rfl) (pv 0) (pv 2) (fun _ _ => rfl)))))), ?_⟩
    have lxs := hA.length
    have ne : 0 < L.length := by
      rcases L with _ | ⟨q, r⟩
      · have : (0 : Int) = b := hT
        omega
      · exact Nat.succ_pos _
    refine ⟨_, rfl, a, xs, rfl, hS, _, _, rfl, rfl, ?_⟩
    -- the piece lies between low and high
    let INV : L2.St → Hp → Prop := fun σ G => ∃ (lo hi : Nat) (m : Option V), σ = [some (.ref a), some (.int x), some (.int lo), some (.int hi), m] ∧ G = H ∧ lo ≤ hi ∧ hi < L.length ∧ (∀ p, L[lo]? = some p → p.1 ≤ x) ∧ (∀ p, L[hi]? = some p → x ≤ p.2.1)
    refine while_by INV (fun σ _ => gap σ) ?_ ?_ (fun σ H Q Q' hQ h => by
      obtain ⟨u, e, v, e2, i, j, e3, e4, k, e5, q⟩ := h
      exact ⟨u, e, v, e2, i, j, e3, e4, k, e5, hQ _ _ q⟩)
    · refine ⟨0, L.length - 1, none, ?_, rfl, Nat.zero_le _, by omega, fun p hp => ?_, fun p hp => ?_⟩
      · show [some (V.ref a), some (V.int x), some (V.int 0), some (V.int ((xs.length : Int) - 1)), none] = _
        rw [show ((xs.length : Int) - 1) = ((L.length - 1 : Nat) : Int) by omega]
        rfl
      · have := (til_take hT hp).1
        have : (0 : Int) = p.1 := this
        omega
      · have e := hT.mem p (List.mem_of_getElem? hp)
        have sp : L = L.take (L.length - 1) ++ [p] := by
          obtain ⟨hi, e⟩ := List.getElem?_eq_some_iff.mp hp
          conv => lhs; rw [← List.take_append_drop (L.length - 1) L]
          rw [← List.getElem_cons_drop hi, e, List.drop_of_length_le (by omega)]
        rw [sp] at hT
        obtain ⟨c, k1, k2⟩ := hT.split
        have := k2.one.2.2
        omega
    · rintro σ G ⟨lo, hi, m, rfl, rfl, hlh, hhi, h1, h2⟩
      refine ⟨_, rfl, _, rfl, _, _, rfl, rfl, _, rfl, ite2 (fun z => ?_) (fun z => ?_)⟩
      · have z := of_decide_eq_true z
        have hm : (lo + hi) / 2 < xs.length := by omega
        obtain ⟨q, hq, t, u, ev, ht⟩ := all2_get hA (show xs[(lo + hi) / 2]? = some xs[(lo + hi) / 2] by simp [hm])
        have em : ((lo : Int) + hi) / 2 = ((lo + hi) / 2 : Nat) := by omega
        refine ⟨_, rfl, _, rfl, _, _, rfl, rfl, _, _, rfl, rfl, div200 (by decide) (by decide) _, ?_⟩
        refine ⟨_, rfl, _, rfl, _, rfl, a, xs, ((lo + hi) / 2 : Nat), xs[(lo + hi) / 2], rfl, congrArg V.int em, hS, atI_nat (by simp [hm]), t, _, 1, _, ev, rfl, .inr (.inl (.inl ht)), atI_nat (j := 1) rfl, _, _, rfl, rfl, _, rfl, ite2 (fun k => ?_) (fun k => ?_)⟩
        · have k := of_decide_eq_true k
          refine ⟨_, rfl, ⟨lo, (lo + hi) / 2, some (.int (((lo + hi) / 2 : Nat) : Int)), ?_, rfl, by omega, by omega, h1, fun p hp => ?_⟩, ?_⟩
          · show [some (V.ref a), some (V.int x), some (V.int lo), some (V.int (((lo : Int) + hi) / 2)), some (V.int (((lo : Int) + hi) / 2))] = _
            rw [em]
          · rw [hq] at hp
            cases hp
            exact k
          · show gap [some (V.ref a), some (V.int x), some (V.int lo), some (V.int (((lo : Int) + hi) / 2)), some (V.int (((lo : Int) + hi) / 2))] < gap [some (V.ref a), some (V.int x), some (V.int lo), some (V.int hi), m]
            unfold gap
            simp only
            omega
        · have k : ¬ x ≤ q.2.1 := fun h => k (decide_eq_true h)
          refine ⟨_, rfl, _, _, rfl, rfl, ⟨(lo + hi) / 2 + 1, hi, some (.int (((lo + hi) / 2 : Nat) : Int)), ?_, rfl, by omega, hhi, fun p hp => ?_, h2⟩, ?_⟩
          · show [some (V.ref a), some (V.int x), some (V.int (((lo : Int) + hi) / 2 + 1)), some (V.int hi), some (V.int (((lo : Int) + hi) / 2))] = _
            rw [em]
            rfl
          · have e1 := til_take hT hp
            rw [take_snoc hq] at e1
            obtain ⟨c, k1, k2⟩ := e1.1.split
            have := k2.one.2.2
            omega
          · show gap [some (V.ref a), some (V.int x), some (V.int (((lo : Int) + hi) / 2 + 1)), some (V.int hi), some (V.int (((lo : Int) + hi) / 2))] < gap [some (V.ref a), some (V.int x), some (V.int lo), some (V.int hi), m]
            unfold gap
            simp only
            omega
      · have z : ¬ (lo : Int) < hi := fun h => z (decide_eq_true h)
        obtain rfl : lo = hi := by omega
        have hl : lo < xs.length := by omega
        obtain ⟨q, hq, t, u, ev, ht⟩ := all2_get hA (show xs[lo]? = some xs[lo] by simp [hl])
        exact ⟨_, rfl, _, rfl, a, xs, lo, xs[lo], rfl, rfl, hS, atI_nat (by simp [hl]), R _ q ⟨lo, by simp [hl], hq⟩ (h1 q hq) (h2 q hq)⟩
theorem scChkPlace : FnScope ["x", "last"] ["x", "last"] (defScope pCheckPlace) := ⟨rfl, rfl, rfl, by decide +kernel, rfl, by decide +kernel, by decide +kernel⟩
theorem ok_chkplace {f CP CR : Addr} {fd : FuncData} (F : Fun K "_check_place" "_check_place" pCheckPlace f fd) (EK : ErK P w K mg base "NoPlace" "place" CP CR) (DP : Cl P w K mg base 2 "is_place" ["value"] (spIsPlace K)) : FnOk P w K mg base (L2.CX P w) 3 f fd ["x", "last"] (spChkPlace CP) := by
  obtain ⟨fI, fdI, T, FN, bN⟩ := EK.ex
  refine F.okX scChkPlace (fun vs H Q E h => ?_) (fun cdv A outer s H vs Q E hr h => ?_)
  · obtain ⟨v, n, rfl, _⟩ := h
    rfl
  · obtain ⟨v, n, rfl, hv, qy, qn⟩ := h
    have room : Room (1 + 1) _ := hr.mono (by decide)
    refine ⟨_, pss_one (ps_if (PW.pt (pw_or (pt_not (pt_val (pe_cl DP hr (by decide) (by rfl) (pa_cons (pv 0) pa_nil)))) (pw_or1 (pt_cmpR op_gt (pv 0) (pv 1) (nomark _)))))
          (pss_one (ps_raise rfl (takes_of rfl rfl rfl rfl) (pmk_oex T.ox T.iC T.tI FN room bN .nil pass0 (by rfl) T.gB (pa_cons (pv 0) pa_nil))))
          pss_nil), ?_⟩
    rcases pv_cases hv with ⟨s, rfl, _⟩ | ⟨i, rfl⟩ | rfl | ⟨b, rfl⟩
    · exact ⟨_, rfl, .str s, rfl, .inr ⟨"str", false, false, .base (.str _), by decide +kernel, by decide +kernel, rfl, _, rfl, iteT ⟨_, rfl, raise_any (qn rfl)⟩⟩⟩
    · refine ⟨_, rfl, .int i, rfl, .inl ⟨i, rfl, _, rfl, ?_⟩⟩
      cases hp : placeB i with
      | false => exact iteT ⟨_, rfl, raise_any (qn (by show (placeB i && _) = false; rw [hp]; rfl))⟩
      | true =>
        refine iteF ⟨_, rfl, _, rfl, _, _, rfl, rfl, _, rfl, ite2 (fun z => ?_) (fun z => ?_)⟩
        · have z := of_decide_eq_true z
          exact ⟨_, rfl, raise_any (qn (by show (placeB i && _) = false; rw [decide_eq_false (by omega), Bool.and_false]))⟩
        · have z : ¬ i > n := fun h => z (decide_eq_true h)
          exact qy (by show (placeB i && _) = true; rw [hp, decide_eq_true (by omega)]; rfl)
    · exact ⟨_, rfl, .non, rfl, .inr ⟨"NoneType", false, false, .base .non, by decide +kernel, by decide +kernel, rfl, _, rfl, iteT ⟨_, rfl, raise_any (qn rfl)⟩⟩⟩
    · exact ⟨_, rfl, .bl b, rfl, .inr ⟨"bool", true, true, .base (.bl _), by decide +kernel, by decide +kernel, rfl, _, rfl, iteT ⟨_, rfl, raise_any (qn rfl)⟩⟩⟩
theorem scChkFns : FnScope ["self", "functions", "function"] ["self", "functions"] (defScope sProgramCheckFunctions) := ⟨rfl, rfl, rfl, by decide +kernel, rfl, by decide +kernel, by decide +kernel⟩
theorem ok_chkfns {f CF CR : Addr} {fd : FuncData} (F : Fun K "_check_functions" "Program._check_functions" sProgramCheckFunctions f fd) (GT : GTxt K mg CG) (EK : ErK P w K mg base "NoFunction" "function" CF CR) : FnOk P w K mg base (L2.CX P w) 3 f fd ["self", "functions"] (spChkFns CG CL CF) := by
  obtain ⟨fI, fdI, T, FN, bN⟩ := EK.ex
  refine F.okX scChkFns (fun vs H Q E h => ?_) (fun cdv A outer s H vs Q E hr h => ?_)
  · obtain ⟨x, t, n, T, s, rfl, _⟩ := h
    rfl
  · obtain ⟨x, t, n, Tl, sx, rfl, ⟨dx, fa, ta, kvs, h1, h2, h3, h4⟩, ht, qy, qn⟩ := h
    have em : Tl.map (fun e => V.str e.1) = (Tl.map (·.1)).map V.str := by rw [List.map_map]; rfl
    rw [em] at h2
    have nd := scChkFns.nd
    have room : Room (1 + 1) _ := hr.mono (by decide)
    refine ⟨_, pss_one (ps_for PassesOwn.leaving rfl (pi_tup (pv 1)) (pg_name (i := 2) nd rfl (.inl rfl))
          (pss_one (ps_if (pt_cmpR (op_notIn_seqK K rfl) (pv 2) (pe_fld (pv 0) rfl) (by rfl))
              (pss_one (ps_raise rfl (takes_of rfl rfl rfl rfl) (pmk_oex T.ox T.iC T.tI FN room bN .nil pass0 (by rfl) T.gB (pa_cons (pv 2) pa_nil))))
              pss_nil))), ?_⟩
    refine ⟨_, rfl, t, rfl, ⟨_, .inl (.inl ht)⟩, for_tup (K := K) (a := t) (xs := [.str sx]) (fun i σ G => (∃ u, σ = [some (.ref x), some (.ref t), u]) ∧ G = H ∧ (i = 1 → sx ∈ Tl.map (·.1))) ⟨⟨none, rfl⟩, rfl, fun z => by cases z⟩ (fun i σ G _ ⟨_, e, _⟩ => by rw [e]; exact .inl (.inl ht)) ?_ ?_⟩
    · rintro i y σ G hy ⟨⟨u, rfl⟩, rfl, _⟩
      obtain ⟨hi, ey⟩ := List.getElem?_eq_some_iff.mp hy
      have hi : i < 1 := hi
      obtain rfl : i = 0 := by omega
      obtain rfl : V.str sx = y := ey
      refine ⟨_, rfl, _, rfl, x, CG, dx, _, _, rfl, h1, GT.cl, GT.nF, gFl_f _ _ _, fa, _, rfl, .inr (.inl (.inl h2)), rfl, flat_strs _, _, rfl, ?_⟩
      by_cases hs : sx ∈ Tl.map (·.1)
      · rw [in_strs hs]
        exact iteF ⟨⟨_, rfl⟩, rfl, fun _ => hs⟩
      · rw [notin_strs hs]
        exact iteT ⟨_, rfl, raise_any (qn hs)⟩
    · rintro σ G ⟨_, rfl, h⟩
      exact qy (h rfl)
theorem scGCall : FnScope ["self", "function", "x", "line"] ["self", "function", "x"] (defScope sProgramCall) := ⟨rfl, rfl, rfl, by decide +kernel, rfl, by decide +kernel, by decide +kernel⟩
end
end OR

namespace OR
open PySem PySem.Spec PyProof.Rows L2
/-! ### a program made -/
theorem walksK {d : Addr} {o : Obj} {kvs : List (Key × V)} : Walks (Itk d o kvs) (kvs.map fun e => kV e.1) fun H => H d = some (.frz o (.dK kvs)) :=
  ⟨fun H h => ⟨h, by rw [List.length_map]; exact Nat.le_refl _⟩, fun i H h hi => ⟨h, by rw [List.length_map] at hi; exact hi⟩, fun i H x H' h ⟨e, k, v, y, ex⟩ => ⟨e, by rw [List.getElem?_map, y, ex]; rfl⟩⟩
theorem same_lock {H G : Hp} {d : Addr} {od : Obj} {u : HO} (h : H d = some u) (s : Same (upd H d (.frz od u)) G) : Same H (upd G d u) ∧ G d = some (.frz od u) := by
  refine ⟨fun b o e => ?_, s _ _ upd_same⟩
  by_cases hb : b = d
  · subst hb
    rw [h] at e
    rw [upd_same]
    exact e
  · rw [upd_ne hb]
    exact s b o (by rw [upd_ne hb]; exact e)
def Off (p : Addr) (H G : Hp) : Prop := ∀ c o, H c = some o → c ≠ p → G c = some o
theorem Off.same {p : Addr} {H G G' : Hp} (h : Off p H G) (s : Same G G') : Off p H G' := fun c o e n => s _ _ (h c o e n)
theorem Off.put {p : Addr} {H G : Hp} {o : HO} (h : Off p H G) : Off p H (upd G p o) := fun c u e n => by rw [upd_ne n]; exact h c u e n
theorem SqA.off {K : PySem.W.Frag} {H G : Hp} {p a C dx : Addr} {fs : List (Str × V)} {xs : List V} (h : SqA K H a xs) (hp : H p = some (.ins C dx fs)) (f : Off p H G) : SqA K G a xs := by
  rcases h with ((h | ⟨o, h⟩) | h) | ((h | ⟨o, h⟩) | h)
  · exact .inl (.inl (.inl (f _ _ h (ne_of h hp (by intro z; cases z)))))
  · exact .inl (.inl (.inr ⟨o, f _ _ h (ne_of h hp (by intro z; cases z))⟩))
  · exact .inl (.inr h)
  · exact .inr (.inl (.inl (f _ _ h (ne_of h hp (by intro z; cases z)))))
  · exact .inr (.inl (.inr ⟨o, f _ _ h (ne_of h hp (by intro z; cases z))⟩))
  · exact .inr (.inr h)
theorem lFl_ne (a b : Int) : lFl a b ≠ [] := fun e => by
  have := lFl_slope a b
  rw [e] at this
  cases this
theorem PcA.off {CL C dx p : Addr} {H G : Hp} {v : V} {q : Pce} (h : PcA CL H v q) (hp : H p = some (.ins C dx [])) (f : Off p H G) : PcA CL G v q := by
  obtain ⟨t, u, e, h1, h2⟩ := h
  refine ⟨t, u, e, h1.imp (fun z => f _ _ z (ne_of z hp (by intro z; cases z))) (fun z => f _ _ z (ne_of z hp (by intro z; cases z))), ?_⟩
  cases hl : q.2.2 with
  | none => rw [hl] at h2; exact h2
  | some r =>
    rw [hl] at h2
    obtain ⟨y, ey, dy, hy⟩ := h2
    refine ⟨y, ey, dy, f _ _ hy fun z => ?_⟩
    rw [z, hp] at hy
    have hy := Option.some.inj hy
    injection hy with _ _ h3
    exact lFl_ne _ _ h3.symm
theorem EntA.off {K : PySem.W.Frag} {CL C dx p : Addr} {H G : Hp} {e : Key × V} {t : Str × List Pce} (h : EntA K CL H e t) (hp : H p = some (.ins C dx [])) (f : Off p H G) : EntA K CL G e t := by
  obtain ⟨h0, a, ys, h1, h2, h3⟩ := h
  exact ⟨h0, a, ys, h1, h2.off hp f, h3.imp fun _ _ e => e.off hp f⟩
theorem perm_lift {α β : Type} (f : α → β) {m n : List β} (h : m.Perm n) : ∀ l : List α, l.map f = n → ∃ l' : List α, l'.Perm l ∧ l'.map f = m := by
  induction h with
  | nil => intro l e; exact ⟨l, List.Perm.refl _, e⟩
  | cons x _ ih =>
    intro l e
    obtain ⟨a, r, rfl, ea, er⟩ := List.map_eq_cons_iff.mp e
    obtain ⟨l', p, e'⟩ := ih r er
    exact ⟨a :: l', p.cons a, by rw [List.map_cons, ea, e']⟩
  | swap x y l0 =>
    intro l e
    obtain ⟨a, r, rfl, ea, er⟩ := List.map_eq_cons_iff.mp e
    obtain ⟨b, r2, rfl, eb, er2⟩ := List.map_eq_cons_iff.mp er
    exact ⟨b :: a :: r2, List.Perm.swap a b r2, by rw [List.map_cons, List.map_cons, ea, eb, er2]⟩
  | trans _ _ ih1 ih2 =>
    intro l e
    obtain ⟨l2, p2, e2⟩ := ih2 l e
    obtain ⟨l1, p1, e1⟩ := ih1 l2 e2
    exact ⟨l1, p1.trans p2, e1⟩
theorem dc_any {it : It} {xs : List V} {J : Hp → Prop} {g : TG} {tt : TT} {tk tv : TE} {vs : List Nat} {σ : L2.St} {H1 : Hp} {D : Addr} {Qd : Hp → Prop} (w : Walks it xs J) (Pv : Nat → Hp → Prop) (h0 : Pv 0 (upd H1 D (.dK []))) (hl : ∀ i H, i ≤ xs.length → Pv i H → J H)
    (hs : ∀ i x H, xs[i]? = some x → Pv i H → g x (wipe σ vs) H fun σ2 H2 => wipe σ2 vs = wipe σ vs ∧ tt σ2 H2 fun b H3 =>
      if b = true then tk σ2 H3 fun y H4 => tv σ2 H4 fun z H5 => ∃ kvs k, y = kV k ∧ H5 D = some (.dK kvs) ∧ kvs.length < sizeLine ∧ Pv (i + 1) (upd H5 D (.dK (putK kvs k z))) else Pv (i + 1) H3) (hd : ∀ H, Pv xs.length H → Qd H) :
    ∃ W : Nat → Nat → Hp → Prop, (∃ m, W 0 m (upd H1 D (.dK []))) ∧ ∀ i m H, W i m H →
      (it.stop i H ∧ Qd H) ∨ (it.go i H ∧ ∃ Nx : Hp → Prop, (∀ H', Nx H' → ∃ m', m' < m ∧ W (i + 1) m' H') ∧ ∀ x H', it.yld i H x H' → g x (wipe σ vs) H' fun σ2 H2 => wipe σ2 vs = wipe σ vs ∧ tt σ2 H2 fun b H3 =>
        if b = true then tk σ2 H3 fun y H4 => tv σ2 H4 fun z H5 => ∃ kvs k, y = kV k ∧ H5 D = some (.dK kvs) ∧ kvs.length < sizeLine ∧ Nx (upd H5 D (.dK (putK kvs k z))) else Nx H3) := by
  refine ⟨fun i m H => m = xs.length - i ∧ i ≤ xs.length ∧ Pv i H, ⟨xs.length, by simp, Nat.zero_le _, h0⟩, ?_⟩
  rintro i m H ⟨rfl, hi, p⟩
  have q := hl i H hi p
  by_cases hlt : i < xs.length
  · refine .inr ⟨w.go i H q hlt, Pv (i + 1), fun H' p' => ⟨xs.length - (i + 1), by omega, rfl, hlt, p'⟩, fun x H' y => ?_⟩
    obtain ⟨e, y2⟩ := w.yld i H x H' q y
    subst e
    exact hs i x _ y2 p
  · have e : i = xs.length := by omega
    subst e
    exact .inl ⟨w.stop H q, hd H p⟩
theorem val_none {α : Type} {p : Key × V → Str × α → Prop} (hp : ∀ e t, p e t → e.1 = .inr t.1) {x : Str} : ∀ {kvs : List (Key × V)} {T : List (Str × α)}, All2 p kvs T → x ∉ T.map (·.1) → valV kvs (.inr x) = none
  | _, _, .nil, _ => rfl
  | e :: kvs, t :: T, .cons h r, n => by
    rw [List.map_cons, List.mem_cons, not_or] at n
    rw [valV_neg]
    · exact val_none hp r n.2
    · rw [hp _ _ h]
      intro q
      exact n.1 (Sum.inr.inj q).symm
theorem kSlF : ¬ (("slope" : Str) = "functions") := by decide +kernel
theorem kSlL : ¬ (("slope" : Str) = "last") := by decide +kernel
theorem LnAt.put {CL C dx p : Addr} {G : Hp} {fs : List (Str × V)} {o : HO} {v : V} {l : Option LnR} (h : LnAt CL G v l) (hp : G p = some (.ins C dx fs)) (hs : fs.lookup ("slope" : Str) = none) : LnAt CL (upd G p o) v l := by
  cases l with
  | none => exact h
  | some r =>
    obtain ⟨y, e, dy, hy⟩ := h
    refine ⟨y, e, dy, ?_⟩
    rw [upd_ne]
    · exact hy
    · intro z
      rw [z, hp] at hy
      have hy := Option.some.inj hy
      injection hy with _ _ h3
      rw [h3, lFl_slope] at hs
      cases hs
theorem EntP.put {CL C dx p : Addr} {G : Hp} {fs : List (Str × V)} {o : HO} {e : Key × V} {t : Str × List Pce} (h : EntP CL G e t) (hp : G p = some (.ins C dx fs)) (hs : fs.lookup ("slope" : Str) = none) : EntP CL (upd G p o) e t := by
  obtain ⟨h0, a, ys, h1, h2, h3⟩ := h
  refine ⟨h0, a, ys, h1, by rw [upd_ne (ne_of h2 hp (by intro z; cases z))]; exact h2, h3.imp fun v q ⟨t, u, ev, ht, hl⟩ => ⟨t, u, ev, by rw [upd_ne (ne_of ht hp (by intro z; cases z))]; exact ht, hl.put hp hs⟩⟩
def spGInit (K : PySem.W.Frag) (CG CL : Addr) : Sp := fun vs H Q _ => ∃ (p dx d : Addr) (n : Int) (kvs : List (Key × V)) (T : Tld), vs = [.ref p, .int n, .ref d] ∧ H p = some (.ins CG dx []) ∧ H d = some (.dK kvs) ∧ All2 (EntA K CL H) kvs T ∧ Told n T ∧
  ∀ H' T', T'.Perm T → Asc (T'.map (·.1)) → IsG CG CL H' p n (oneT T') → Off p H H' → Q .non H'
section
variable {P : Program} {w : World} {K : PySem.W.Frag} {mg : Str → Option Value} {base : Heap} {CL CG ts tw : Addr}
theorem scGInit : FnScope ["self", "last", "told", "word", "words", "_"] ["self", "last", "told"] (defScope sProgramInit) := ⟨rfl, rfl, rfl, by decide +kernel, rfl, by decide +kernel, by decide +kernel⟩
theorem ok_ginit {f : Addr} {fd : FuncData} (F : Fun K "__init__" "Program.__init__" sProgramInit f fd) (N : NTxt mg) (GT : GTxt K mg CG) (RK : Cl P w K mg base 1 "_ranked" ["word"] spRanked) (KW : Cl P w K mg base 2 "check_word" ["value"] spChkW) (CE : Cl P w K mg base 4 "_check_pieces" ["function", "pieces", "last"] (spChkPcs K CL))
    (OF : Cl P w K mg base 5 "one_form" ["pieces"] (spOneF K CL)) : FnOk P w K mg base CX0 6 f fd ["self", "last", "told"] (spGInit K CG CL) := by
  refine F.ok scGInit (fun vs H Q E h => ?_) (fun cdv A outer s H vs Q E hr h => ?_)
  · obtain ⟨p, dx, d, n, kvs, T, rfl, _⟩ := h
    rfl
  · obtain ⟨p, dx, d, n, kvs, T, rfl, hp, hd, hA, hT, R⟩ := h
    have nd := scGInit.nd
    have hu := hu_of hr
    refine ⟨_, pss_cons (ps_setLc (i := 4) (own := [("_", 5), ("_", 5), ("word", 3)]) (g := (gTup K 3 (gCons (gName 5) (gCons (gName 5) (gCons (gName 3) gNil))))) (tt := tYes) rfl nd rfl rfl (sw_true rfl rfl rfl (by decide +kernel)) (pi_list (pe_callB (cr_sort3 K rfl) (by rfl) N.zSort bt_sorted (pa_cons (pe_lock (pe_lc (own := [("word", 3)]) (g := (gName 3)) (tt := tYes) rfl nd (pi_keys (pv 2)) (blkOk_by (N := ["self", "last", "told", "word", "words", "_"]) (sc := defScope sProgramInit) (by decide +kernel)) (fun _ _ _ _ _ => pg_name (i := 3) nd rfl (.inl rfl)) (fun _ _ _ _ _ => pts_nil) (fun _ _ _ _ _ => (pe_cl RK hr (by decide) (by rfl) (pa_cons (pv 3) pa_nil))))) pa_nil))) (blkOk_by (N := ["self", "last", "told", "word", "words", "_"]) (sc := defScope sProgramInit) (by decide +kernel)) (fun _ _ _ _ _ => pg_tup rfl (pgs_cons (pg_name (i := 5) nd rfl (.inl rfl)) (pgs_cons (pg_name (i := 5) nd rfl (.inl rfl)) (pgs_cons (pg_name (i := 3) nd rfl (.inl rfl)) pgs_nil)))) (fun _ _ _ _ _ => pts_nil) (fun _ _ _ _ _ => (pv 3)))
      (pss_cons (ps_for PassesOwn.never rfl (pi_list (pv 4)) (pg_name (i := 3) nd rfl (.inl rfl))
          (pss_one (ps_expr (pe_cl KW hr (by decide) (by rfl) (pa_cons (pv 3) pa_nil)))))
      (pss_cons (ps_for PassesOwn.never rfl (pi_list (pv 4)) (pg_name (i := 3) nd rfl (.inl rfl))
          (pss_one (ps_expr (pe_cl CE hr (by decide) (by rfl) (pa_cons (pv 3) (pa_cons (pe_dget hu (pv 2) (pv 3) (fun _ _ => rfl)) (pa_cons (pv 1) pa_nil)))))))
      (pss_cons (ps_fld (pv 0) (pv 1) rfl)
      (pss_cons (ps_fld (pv 0) (pe_callTy call_tuple_of (by rfl) N.zTup bt_tup (pa_cons (pv 4) pa_nil)) rfl)
      (pss_one (ps_fld (pv 0) (pe_dc (own := [("word", 3)]) (g := (gName 3)) (tt := tYes) rfl nd (pi_list (pv 4)) (blkOk_by (N := ["self", "last", "told", "word", "words", "_"]) (sc := defScope sProgramInit) (by decide +kernel)) (fun _ _ _ _ _ => pg_name (i := 3) nd rfl (.inl rfl)) (fun _ _ _ _ _ => pts_nil) (fun _ _ _ _ _ => pv 3) (fun _ _ _ _ _ => pe_cl OF hr (by decide) (by rfl) (pa_cons (pe_dget hu (pv 2) (pv 3) (fun _ _ => rfl)) pa_nil))) rfl)))))), ?_⟩
    have hdp : d ≠ p := ne_of hd hp (by intro z; cases z)
    have nk := hT.few
    have lk := hA.length
    have key : ∀ i (hi : i < kvs.length), ∃ t, T[i]? = some t ∧ EntA K CL H kvs[i] t := fun i hi => by
      obtain ⟨t, ht, e⟩ := all2_get hA (show kvs[i]? = some kvs[i] by simp [hi])
      exact ⟨t, ht, e⟩
    -- the words in order
    refine ⟨d, .dK kvs, hd, trivial, fun od => ?_⟩
    refine ⟨_, rfl, d, od, rfl, .inl ⟨kvs, upd_same, fun D hD => lc_any (walksK (d := d) (o := od) (kvs := kvs)) (fun i G => ∃ L : List (Addr × Str), G D = some (.lst (L.map fun p => V.ref p.1)) ∧ (∀ p ∈ L, G p.1 = some (.tup [.int 2, .str p.2, .str p.2])) ∧ L.map (·.2) = (T.map (·.1)).take i ∧ Same (upd H d (.frz od (.dK kvs))) G)
      ⟨[], upd_same, (fun _ z => nomatch z), rfl, same_lay hD⟩ (fun i G _ ⟨_, _, _, _, s⟩ => s _ _ upd_same) ?_ ?_⟩⟩
    · rintro i x G hx ⟨L, hL, hL2, eL, sG⟩
      rw [List.getElem?_map] at hx
      obtain ⟨e, he, rfl⟩ := Option.map_eq_some_iff.mp hx
      obtain ⟨hi, ee⟩ := List.getElem?_eq_some_iff.mp he
      obtain ⟨t, ht, hE⟩ := key i hi
      rw [ee] at hE
      rw [hE.1]
      have lL : L.length = i := by
        have := congrArg List.length eL
        rw [List.length_map, List.length_take, List.length_map] at this
        omega
      refine ⟨rfl, yesT ⟨_, rfl, t.1, rfl, fun z nz => ?_⟩⟩
      have s1 := same_lay (o := .tup [.int 2, .str t.1, .str t.1]) nz
      have hD1 := s1 _ _ hL
      refine ⟨_, hD1, small1000 (by rw [List.length_map]; omega), L ++ [(z, t.1)], by rw [upd_same, List.map_append]; rfl, fun q hq => ?_, ?_, same_upd (sG.trans s1) hD⟩
      · refine (kp_lst hD1).tup ?_
        rcases List.mem_append.mp hq with m | m
        · exact s1 _ _ (hL2 q m)
        · rw [List.mem_singleton.mp m]; exact upd_same
      · rw [List.map_append, eL, take_snoc (i := i) (x := t.1) (by rw [List.getElem?_map, ht]; rfl)]
        rfl
    rintro G ⟨L, hL, hL2, eL, sG⟩
    rw [List.take_of_length_le (by rw [List.length_map, List.length_map]; omega)] at eL
    obtain ⟨s0, hfz⟩ := same_lock hd sG
    refine ⟨hfz, ?_⟩
    have nDd : D ≠ d := fun e => by rw [e, upd_same] at hD; cases hD
    have hL' : (upd G d (.dK kvs)) D = some (.lst (L.map fun p => V.ref p.1)) := by rw [upd_ne nDd]; exact hL
    have hL2' : ∀ p ∈ L, (upd G d (.dK kvs)) p.1 = some (.tup [.int 2, .str p.2, .str p.2]) := fun q hq => by
      rw [upd_ne (ne_of (hL2 q hq) hfz (by intro z; cases z))]
      exact hL2 q hq
    generalize upd G d (.dK kvs) = G1 at s0 hL' hL2'
    clear hL hL2 sG hfz hD nDd
    have lL : L.length = T.length := by
      have := congrArg List.length eL
      rw [List.length_map, List.length_map] at this
      exact this
    refine ⟨D, L, rfl, .inl (.inl hL'), by omega, hL2', fun L' a hperm hasc na => ?_⟩
    obtain ⟨T', hT', eT'⟩ := perm_lift (fun e : Str × List Pce => e.1) (show (L'.map (·.2)).Perm (T.map (·.1)) by rw [← eL]; exact hperm.map _) T rfl
    have eT' : T'.map (·.1) = L'.map (·.2) := eT'
    have hnd : (T'.map (·.1)).Nodup := (hT'.map _).nodup_iff.mpr hT.nd
    have lT' : T'.length = T.length := hT'.length_eq
    have lL' : L'.length = T'.length := by
      have := congrArg List.length eT'
      rw [List.length_map, List.length_map] at this
      exact this.symm
    have okT' : ∀ e ∈ T', Word e.1 ∧ Til e.2 0 (n + 1) ∧ (∀ q ∈ e.2, Bq q) ∧ e.2.length ≤ 1000 := fun e he => hT.ok e (hT'.mem_iff.mp he)
    have entT' : ∀ e ∈ T', ∃ v, valV kvs (.inr e.1) = some v ∧ ∃ z xs, v = .ref z ∧ SqA K H z xs ∧ All2 (PcA CL H) xs e.2 := fun e he => by
      obtain ⟨k, _, ⟨_, z, xs, e1, e2, e3⟩, hv⟩ := val_ent (fun _ _ h => h.1) hA hT.nd (hT'.mem_iff.mp he)
      exact ⟨_, hv, z, xs, e1, e2, e3⟩
    have sa := same_lay (o := .lst (L'.map fun p => V.ref p.1)) na
    have t1 : ∀ q ∈ L', (upd G1 a (.lst (L'.map fun p => V.ref p.1))) q.1 = some (.tup [.int 2, .str q.2, .str q.2]) := fun q hq => sa _ _ (hL2' q (hperm.mem_iff.mp hq))
    have ha : (upd G1 a (.lst (L'.map fun p => V.ref p.1))) a = some (.lst (L'.map fun p => V.ref p.1)) := upd_same
    have s1 := s0.trans sa
    generalize upd G1 a (.lst (L'.map fun p => V.ref p.1)) = G2 at s1 t1 ha
    clear sa hL' hL2' s0 na
    refine ⟨a, rfl, ⟨_, .inl (.inl ha)⟩, fun Dw hDw => lc_list (K := K) (a := a) (xs := L'.map fun p => V.ref p.1) (fun i G => G Dw = some (.lst (((T'.map (·.1)).take i).map V.str)) ∧ Same G2 G) ⟨upd_same, same_lay hDw⟩ (fun i G _ h => h.2.seq (.inl (.inl ha))) ?_ ?_⟩
    · rintro i x G hx ⟨hG, sG⟩
      rw [List.getElem?_map] at hx
      obtain ⟨q, hq, rfl⟩ := Option.map_eq_some_iff.mp hx
      have hi := (List.getElem?_eq_some_iff.mp hq).1
      have hw : (T'.map (·.1))[i]? = some q.2 := by rw [eT', List.getElem?_map, hq]; rfl
      refine ⟨q.1, _, rfl, .inl (.inl (sG _ _ (t1 q (List.mem_of_getElem? hq)))), rfl, _, _, rfl, _, _, rfl, _, _, rfl, rfl, rfl, yesT ⟨_, rfl, _, hG, small1000 (by rw [List.length_map, List.length_take, List.length_map]; omega), ?_, same_upd sG hDw⟩⟩
      rw [upd_same, take_snoc hw, List.map_append]
      rfl
    rintro G ⟨hW, sG⟩
    rw [List.take_of_length_le (by rw [List.length_map, List.length_map]; omega)] at hW
    have s2 := s1.trans sG
    clear ha t1 hDw sG s1
    -- they are words
    refine ⟨_, rfl, Dw, rfl, ⟨_, .inl (.inl hW)⟩, for_list (K := K) (a := Dw) (xs := (T'.map (·.1)).map V.str) (fun i σ G3 => (∃ u, σ = [some (.ref p), some (.int n), some (.ref d), u, some (.ref Dw), none]) ∧ Same G G3) ⟨⟨none, rfl⟩, Same.refl _⟩ (fun i σ G3 _ h => h.2.seq (.inl (.inl hW))) ?_ ?_⟩
    · rintro i y σ G3 hy ⟨⟨u, rfl⟩, s3⟩
      rw [List.getElem?_map] at hy
      obtain ⟨x, hx, rfl⟩ := Option.map_eq_some_iff.mp hy
      obtain ⟨e, he, rfl⟩ := List.mem_map.mp (List.mem_of_getElem? hx)
      exact ⟨_, rfl, e.1, rfl, (okT' e he).1, fun G4 s4 => ⟨⟨_, rfl⟩, s3.trans s4⟩⟩
    rintro σ G3 ⟨⟨u, rfl⟩, s3⟩
    have hW3 := s3 _ _ hW
    -- their pieces are right
    refine ⟨_, rfl, Dw, rfl, ⟨_, .inl (.inl hW3)⟩, for_list (K := K) (a := Dw) (xs := (T'.map (·.1)).map V.str) (fun i σ G4 => (∃ u, σ = [some (.ref p), some (.int n), some (.ref d), u, some (.ref Dw), none]) ∧ Same G3 G4) ⟨⟨u, rfl⟩, Same.refl _⟩ (fun i σ G4 _ h => h.2.seq (.inl (.inl hW3))) ?_ ?_⟩
    · rintro i y σ G4 hy ⟨⟨u, rfl⟩, s4⟩
      rw [List.getElem?_map] at hy
      obtain ⟨x, hx, rfl⟩ := Option.map_eq_some_iff.mp hy
      obtain ⟨e, he, rfl⟩ := List.mem_map.mp (List.mem_of_getElem? hx)
      obtain ⟨v, hv, z, xs, rfl, hS, hP⟩ := entT' e he
      have s5 := (s2.trans s3).trans s4
      obtain ⟨_, o2, o3, _⟩ := okT' e he
      exact ⟨_, rfl, _, rfl, _, rfl, d, _, rfl, dg (s5 _ _ hd) hv, _, rfl, e.1, z, xs, e.2, n, rfl, Same.any s5 hS, hP.imp (fun _ _ h => h.same s5), o2, o3, fun G5 s6 => ⟨⟨_, rfl⟩, s4.trans s6⟩⟩
    rintro σ G4 ⟨⟨u2, rfl⟩, s4⟩
    have sH := (s2.trans s3).trans s4
    have hW4 := s4 _ _ hW3
    have hp4 := sH _ _ hp
    have hd4 := sH _ _ hd
    clear hW hW3 s2 s3 s4
    -- the fields
    refine ⟨_, rfl, _, rfl, p, CG, dx, [], rfl, hp4, GT.cl, GT.nL, (by show 0 < 1000; decide), ?_⟩
    have o1 : Off p H (upd G4 p (.ins CG dx (putF "last" (.int n) []))) := Off.put fun c o e _ => sH c o e
    have nWp : Dw ≠ p := ne_of hW4 hp4 (by intro z; cases z)
    have hW5 : (upd G4 p (.ins CG dx (putF "last" (.int n) []))) Dw = some (.lst ((T'.map (·.1)).map V.str)) := by rw [upd_ne nWp]; exact hW4
    have hp5 : (upd G4 p (.ins CG dx (putF "last" (.int n) []))) p = some (.ins CG dx (putF "last" (.int n) [])) := upd_same
    generalize upd G4 p (.ins CG dx (putF "last" (.int n) [])) = G5 at o1 hW5 hp5
    refine ⟨_, rfl, Dw, _, rfl, .inl ⟨.inl (.inl hW5), fun fa nfa => ?_⟩⟩
    have s6 := same_lay (o := .tup ((T'.map (·.1)).map V.str)) nfa
    have nfp : fa ≠ p := fun e => by rw [e, hp5] at nfa; cases nfa
    refine ⟨_, rfl, p, CG, dx, _, rfl, s6 _ _ hp5, GT.cl, GT.nF, (by show 1 < 1000; decide), ?_⟩
    have o2 : Off p H (upd (upd G5 fa (.tup ((T'.map (·.1)).map V.str))) p (.ins CG dx (putF "functions" (.ref fa) (putF "last" (.int n) [])))) := (o1.same s6).put
    have hf6 : (upd (upd G5 fa (.tup ((T'.map (·.1)).map V.str))) p (.ins CG dx (putF "functions" (.ref fa) (putF "last" (.int n) [])))) fa = some (.tup ((T'.map (·.1)).map V.str)) := by rw [upd_ne nfp, upd_same]
    have hp6 : (upd (upd G5 fa (.tup ((T'.map (·.1)).map V.str))) p (.ins CG dx (putF "functions" (.ref fa) (putF "last" (.int n) [])))) p = some (.ins CG dx (putF "functions" (.ref fa) (putF "last" (.int n) []))) := upd_same
    have hW6 : (upd (upd G5 fa (.tup ((T'.map (·.1)).map V.str))) p (.ins CG dx (putF "functions" (.ref fa) (putF "last" (.int n) [])))) Dw = some (.lst ((T'.map (·.1)).map V.str)) := by rw [upd_ne nWp]; exact s6 _ _ hW5
    generalize upd (upd G5 fa (.tup ((T'.map (·.1)).map V.str))) p (.ins CG dx (putF "functions" (.ref fa) (putF "last" (.int n) []))) = G6 at o2 hf6 hp6 hW6
    clear hp5 hW5 s6 o1 nfa nfp hW4 hp4 sH
    refine ⟨_, rfl, Dw, rfl, ⟨_, .inl (.inl hW6)⟩, fun D hD => dc_any (walksL (K := K) (a := Dw) (xs := (T'.map (·.1)).map V.str)) (fun i G => ∃ kv, G D = some (.dK kv) ∧ All2 (EntP CL G) kv (oneT (T'.take i)) ∧ Same G6 G) ⟨[], upd_same, .nil, same_lay hD⟩ (fun i G _ ⟨_, _, _, s⟩ => s.seq (.inl (.inl hW6))) ?_ ?_⟩
    · rintro i y G hy ⟨kv, hkv, hE, sG⟩
      rw [List.getElem?_map, List.getElem?_map] at hy
      obtain ⟨e, he, rfl⟩ : ∃ e, T'[i]? = some e ∧ V.str e.1 = y := by
        cases h : T'[i]? with
        | none => rw [h] at hy; cases hy
        | some e => rw [h] at hy; exact ⟨e, rfl, Option.some.inj hy⟩
      have hi := (List.getElem?_eq_some_iff.mp he).1
      have me := List.mem_of_getElem? he
      obtain ⟨v, hv, z, xs, rfl, hS, hP⟩ := entT' e me
      obtain ⟨_, w2, w3, w4⟩ := okT' e me
      have off := o2.same sG
      have lkv := hE.length
      rw [oneT, List.length_map, List.length_take] at lkv
      refine ⟨rfl, yesT ⟨_, rfl, _, rfl, _, rfl, d, _, rfl, dg (off _ _ hd hdp) hv, z, xs, e.2, 0, n + 1, rfl, hS.off hp off, hP.imp (fun _ _ h => h.off hp off), w2, w3, w4, fun t ys G7 nt ht hY s7 => ?_⟩⟩
      have hkv7 := s7 _ _ hkv
      have hno : e.1 ∉ (oneT (T'.take i)).map (·.1) := by
        rw [oneT_fst]
        intro m
        have e1 : T'.map (·.1) = (T'.take i).map (·.1) ++ (T'.drop i).map (·.1) := by rw [← List.map_append, List.take_append_drop]
        rw [e1, List.nodup_append] at hnd
        refine hnd.2.2 _ m _ (List.mem_map.mpr ⟨e, ?_, rfl⟩) rfl
        rw [← (List.getElem?_eq_some_iff.mp he).2, ← List.getElem_cons_drop hi]
        exact List.mem_cons_self
      refine ⟨kv, .inr e.1, rfl, hkv7, small1000 (by omega), kv ++ [(.inr e.1, .ref t)], ?_, ?_, same_upd (sG.trans s7) hD⟩
      · rw [upd_same, putK_new _ (val_none (fun _ _ h => h.1) hE hno)]
      · have e2 : oneT (T'.take (i + 1)) = oneT (T'.take i) ++ [(e.1, oneF e.2)] := by rw [take_snoc he, oneT, List.map_append]; rfl
        rw [e2]
        have k7 := kp_dk (u := .dK (putK kv (.inr e.1) (.ref t))) hkv7
        exact (hE.imp fun _ _ h => (h.kp (kp_same s7)).kp k7).append (.cons ⟨rfl, t, ys, rfl, k7.tup ht, hY.imp fun _ _ h => h.kp k7⟩ .nil)
    rintro G ⟨kv, hkv, hE, sG⟩
    rw [List.take_of_length_le (by rw [List.length_map, List.length_map]; exact Nat.le_refl _)] at hE
    have hp7 := sG _ _ hp6
    refine ⟨_, rfl, p, CG, dx, _, rfl, hp7, GT.cl, GT.nT, (by show 2 < 1000; decide), ?_⟩
    have fin := R (upd G p (.ins CG dx (gFl n fa D))) T' hT' (by rw [eT']; exact hasc) ?_ (o2.same sG).put
    · exact fin
    · have nDp : D ≠ p := ne_of hkv hp7 (by intro z; cases z)
      have nfp : fa ≠ p := ne_of (sG _ _ hf6) hp7 (by intro z; cases z)
      refine ⟨dx, fa, D, kv, upd_same, ?_, by rw [upd_ne nDp]; exact hkv, hE.imp fun e t h => ?_⟩
      · rw [upd_ne nfp, sG _ _ hf6, ← oneT_fst, List.map_map]
        rfl
      · exact h.put hp7 (by rw [lookup_putF, if_neg kSlF, lookup_putF, if_neg kSlL]; rfl)
end
end OR

namespace OR
open PySem PySem.Spec PyProof.Rows L2
/-! ### Program(last, told) as an expression; a program called -/
def tMkG (K : PySem.W.Frag) (CG CL : Addr) (t : TA) : TE := fun σ H Q => t σ H fun vs H1 => ∃ (d : Addr) (n : Int) (kvs : List (Key × V)) (T : Tld), vs = [.int n, .ref d] ∧ H1 d = some (.dK kvs) ∧ All2 (EntA K CL H1) kvs T ∧ Told n T ∧
  ∀ x H' T', H1 x = none → T'.Perm T → Asc (T'.map (·.1)) → IsG CG CL H' x n (oneT T') → Same H1 H' → Q (.ref x) H'
structure GMk (P : Program) (w : World) (K : PySem.W.Frag) (mg : Str → Option Value) (base : Heap) (CG CL : Addr) : Prop where
  T : GTxt K mg CG
  made : ∃ f fd, Mk K CG f ∧ FnOk P w K mg base CX0 6 f fd ["self", "last", "told"] (spGInit K CG CL) ∧ Binds K fd ["self", "last", "told"] []
theorem pe_mkG {X : Cx} {CG CL : Addr} {j : Nat} {e : Expr} {es : List Expr} {t : TA} {p pos : Pos} (M : GMk X.prog X.w X.K X.mg X.base CG CL) (hr : Room j X.A) (hj : 7 ≤ j) (hg : Gl X "Program") (ha : PA X (e :: es) t)
    (he : starEach (e :: es) X.env = (false, eval e X.env) :: starEach es X.env := by rfl) (hpl : (backTo pos (starEach es X.env)).any (·.1) = false := by rfl) : PE X (.Call (.Name "Program" p) (e :: es) [] pos) (tMkG X.K CG CL t) := by
  obtain ⟨f, fd, mk, F, hb⟩ := M.made
  refine ⟨fun pins s σ H Q I h => ?_⟩
  refine wpAny_Call_Name_kw (ld_glob I hg M.T.mgG ?_ (by decide))
  refine PySem.W.callWith_K (h₀ := X.base) I.ok.mod.kin mk.kp (thn (ha.run pos pins s σ H _ I h) fun us s1 ⟨vs, H1, I1, r, q⟩ => ⟨I1.kIn, ?_⟩) he hpl
  obtain ⟨d, n, kvs, T, rfl, hd, hA, hT, q⟩ := q
  refine run_make mk F (hr.mono hj) hb .nil pass0 I1 r fun x dx nx ndx nex => ?_
  have s1 : Same H1 (upd (upd H1 dx (.own x)) x (.ins CG dx [])) := fun c o e => by rw [upd_ne (ne_of_none e nx), upd_ne (ne_of_none e ndx)]; exact e
  refine ⟨x, dx, d, n, kvs, T, rfl, upd_same, s1 _ _ hd, hA.imp fun _ _ h => h.same s1, hT, fun H' T' hp ha hG off => ⟨rfl, q x H' T' nx hp ha hG fun c o e => off c o (s1 c o e) (ne_of_none e nx)⟩⟩
section
variable {P : Program} {w : World} {K : PySem.W.Frag} {mg : Str → Option Value} {base : Heap} {CL CG ts tw : Addr}
theorem oneF_wd {T : List Pce} {a b : Int} (h : Til T a b) (hT : ∀ q ∈ T, Bq q) : ∀ q ∈ oneF T, ∀ r, q.2.2 = some r → r.1.natAbs < 2 ^ 420 := fun q hq r hr => ((oneF_bq h hT q hq).wd r hr).1
theorem scGCallP : FnScope ["self", "function", "x", "line"] ["self", "function", "x"] (defScope sProgramCall) := ⟨rfl, rfl, rfl, by decide +kernel, rfl, by decide +kernel, by decide +kernel⟩
theorem kCk : ¬ (("_check_functions" : Str) = "_told") ∧ ¬ (("_check_functions" : Str) = "functions") ∧ ¬ (("_check_functions" : Str) = "last") := by decide +kernel
theorem ok_gcall {f CF CP : Addr} {fd : FuncData} (F : Fun K "__call__" "Program.__call__" sProgramCall f fd) (GT : GTxt K mg CG) (CK : MtX P w K mg base 3 CG "_check_functions" ["self", "functions"] (spChkFns CG CL CF)) (CPl : ClX P w K mg base 3 "_check_place" ["x", "last"] (spChkPlace CP))
    (PA : Cl P w K mg base 1 "_piece_at" ["pieces", "x"] (spPieceAt K)) (VA : Cl P w K mg base 1 "value_at" ["line", "x"] (spValW CL)) : FnOk P w K mg base (L2.CX P w) 4 f fd ["self", "function", "x"] (spGCall CG CL CF CP) := by
  refine F.okX scGCallP (fun vs H Q E h => ?_) (fun cdv A outer s H vs Q E hr h => ?_)
  · obtain ⟨x, sx, v, n, T, rfl, _⟩ := h
    rfl
  · obtain ⟨x, sx, v, n, T, rfl, hG, hT, hv, q1, q2, q3⟩ := h
    have nd := scGCallP.nd
    have hu := hu_of hr
    refine ⟨_, pss_cons (ps_expr (pe_mtX CK GT.cl hr (by decide) (takes_of rfl rfl rfl rfl) (pv 0) (pa_cons (pe_tup (pa_cons (pv 1) pa_nil)) pa_nil)))
      (pss_cons (ps_expr (pe_clX CPl hr (by decide) (by rfl) (takes_of rfl rfl rfl rfl) (pa_cons (pv 2) (pa_cons (pe_fld (pv 0) rfl) pa_nil))))
      (pss_cons (ps_set (i := 3) nd rfl (.inl rfl) (pe_ix (ix_any K rfl) (pe_cl PA hr (by decide) (by rfl) (pa_cons (pe_dget hu (pe_fld (pv 0) rfl) (pv 1) (fun _ _ => rfl)) (pa_cons (pv 2) pa_nil))) pe_int (fun _ _ => rfl)))
      (pss_one (ps_ret (pe_ifExp (pt_cmp (pc_isN (pv 3))) pe_non (pe_cl VA hr (by decide) (by rfl) (pa_cons (pv 3) (pa_cons (pv 2) pa_nil)))))))), ?_⟩
    obtain ⟨dx, fa, ta, kv, h1, _⟩ := id hG
    refine ⟨_, rfl, x, dx, _, rfl, h1, gFl_no _ _ _ kCk.1 kCk.2.1 kCk.2.2, _, rfl, by show 1 ≤ sizeLine; decide, fun t nt => ?_⟩
    have s1 := same_lay (o := .tup [.str sx]) nt
    have hG1 := hG.same s1
    refine ⟨x, t, n, oneT T, sx, rfl, hG1, upd_same, fun hs => ?_, fun hs => ?_⟩
    · rw [oneT_fst] at hs
      generalize upd H t (.tup [.str sx]) = G at s1 hG1
      obtain ⟨dx, fa, ta, kv, h1, h2, h3, h4⟩ := id hG1
      refine ⟨_, rfl, _, rfl, x, CG, dx, _, _, rfl, h1, GT.cl, GT.nL, gFl_l _ _ _, v, n, rfl, hv, fun ok => ?_, fun no => (q3 hs no).up s1⟩
      obtain ⟨k, rfl⟩ : ∃ k, v = .int k := by
        cases v with
        | int k => exact ⟨k, rfl⟩
        | _ => exact Bool.noConfusion (show false = true from ok)
      have ok0 := ok
      unfold placeV placeB at ok
      rw [Bool.and_eq_true, Bool.and_eq_true] at ok
      have k0 := of_decide_eq_true ok.1.1
      have kn := of_decide_eq_true ok.2
      have kp : Plc k := ⟨k0, of_decide_eq_true ok.1.2⟩
      obtain ⟨e, me, ee⟩ := List.mem_map.mp hs
      obtain ⟨_, w2, w3, w4⟩ := hT.ok e me
      obtain ⟨e', m', hE, hval⟩ := val_ent (fun _ _ h => h.1) h4 (by rw [oneT_fst]; exact hT.nd) (List.mem_map.mpr ⟨e, me, rfl⟩ : (e.1, oneF e.2) ∈ oneT T)
      obtain ⟨_, tp, ys, e2, htp, hY⟩ := hE
      have hval : valV kv (.inr sx) = some (.ref tp) := by rw [← ee, ← e2]; exact hval
      have LK := oneF_like w2
      refine ⟨_, rfl, x, CG, dx, _, _, rfl, h1, GT.cl, GT.nT, gFl_t _ _ _, _, rfl, ta, _, rfl, dg h3 hval, _, rfl, tp, ys, oneF e.2, k, n + 1, rfl, .inr (.inl (.inl htp)), hY.imp (fun v q ⟨t, u, e1, e2, _⟩ => ⟨t, u, e1, e2⟩), LK.til, Nat.le_trans (oneF_len _) w4, k0, by omega, fun vv q ⟨i, hvv, hq⟩ g1 g2 => ?_⟩
      obtain ⟨q', hq', hpc⟩ := all2_get hY hvv
      rw [hq] at hq'
      cases hq'
      obtain ⟨t2, u, rfl, ht2, hl⟩ := hpc
      have out := (outc_at LK.til hq g1 g2).symm.trans (LK.out k k0 (by omega))
      refine ⟨t2, _, 2, u, rfl, rfl, .inr (.inl (.inl ht2)), atI_nat (j := 2) rfl, _, rfl, _, rfl, ?_⟩
      have fin : ∀ (r : V), r = oVal (outc e.2 k) → Q r G := fun r er => by rw [er]; exact q1 hs ok0 e me ee k G rfl s1
      cases hq2 : q.2.2 with
      | none =>
        rw [hq2] at hl out
        obtain rfl : u = .non := hl
        exact iteA (by simp) (fin .non (by rw [← out]; rfl))
      | some r =>
        rw [hq2] at hl out
        obtain ⟨y, rfl, hy⟩ := hl
        exact iteB (by simp) ⟨_, rfl, _, rfl, y, r, k, rfl, hy, cwWP (oneF_wd w2 w3 q (List.mem_of_getElem? hq) r hq2) kp.b1, fin _ (by rw [← out]; rfl)⟩
    · rw [oneT_fst] at hs
      exact (q2 hs).up s1
end
end OR

namespace OR
open PySem PySem.Spec PyProof.Rows L2
open TL (tl numL)
/-- set(xs), xs a list of integers -/
def rSetI (K : PySem.W.Frag) (w : World) : List V → Hp → VK → Prop := fun xs H Q => ∃ (l : Addr) (ns : List Int), xs = [V.ref l] ∧ SqL K H l (ns.map V.int) ∧ ns.length < 1000 ∧
  ∀ a c, H a = none → c ≤ ns.length → Q (.ref a) (upd H a (SetO w a (fun j => decide (j ∈ ns)) c))
section
variable {P : Program} {w : World} {A : Around} {E : Value → Shared → Prop} {s : Shared}
/-- what the filling leaves -/
def Filled (w : World) (s : Shared) (ns : List Int) (s2 : Shared) : Prop := ∃ (h' : Heap) (tk c : Nat), s2 = { s with heap := h', toks := tk } ∧ SetR w h' s.heap.objs.size (fun j => decide (j ∈ ns)) c ∧ c ≤ ns.length ∧ ∀ b o, s.heap.get? b = some o → h'.get? b = some o
end
abbrev eob (w : World) : Obj := { cls := .type "set", dict := none, data := .set #[] 0 (.fresh 0 0 (!w.params.followText "set-order")) }
section
variable {P : Program} {w : World} {A : Around} {E : Value → Shared → Prop} {s : Shared}
theorem int_at {items : Array Value} {ns : List Int} (hit : IntsAre items.toList ns) (i : Nat) (v : Value) (hv : items[i]? = some v) : ∃ k t, ns[i]? = some k ∧ v = .int k t := by
  obtain ⟨t, e⟩ := IntsAre.int_at hit i v (by rw [Array.getElem?_toList]; exact hv)
  have hl := IntsAre.length hit
  have hi : i < ns.length := by
    rw [← hl, Array.length_toList]
    exact (Array.getElem?_eq_some_iff.mp hv).1
  refine ⟨ns[i], t, List.getElem?_eq_getElem hi, ?_⟩
  rw [e, List.getD_eq_getElem?_getD, List.getElem?_eq_getElem hi]
  rfl
set_option maxHeartbeats 3200000 in
theorem set_ints {l : Addr} {items : Array Value} (ns : List Int) {Q : Value → Shared → Prop} (hd : A.handled = none) (hl : s.heap.IsList l items) (hit : IntsAre items.toList ns) (few : ns.length + 1 < scanBound)
    (q : ∀ s2, Filled w s ns s2 → Q (.ref s.heap.objs.size) s2) : wpAny (model P w) A (call (.type "set") [.ref l]) Q E s := by
  have lens : items.size = ns.length := (Array.length_toList).symm.trans (IntsAre.length hit)
  obtain ⟨c0, tl0, mro0⟩ := F.called_set.mro
  have made0 := F.called_set.made
  have sub0 := F.called_set.sub
  have nt0 := F.called_set.notType
  have cc0 := F.called_set.canCreate
  have tc0 := F.typeCall_set_1 (.ref l)
  refine wpAny_call (codeAny_of_tree ?_)
  show wpAny _ _ (callAny (.type "set") _) _ _ _
  refine wpAny_pure ⟨Code.quiet_builtin _ (by decide +kernel), codeAny_builtin F.entry_type_call ?_⟩
  rw [Around.under_plain (weight_type_call_type "set" [.ref l] []) rfl]
  repeat (any_goals (first | assumption | wp_step))
  refine codeAny_mono (code_set_led1 (.ref l) (E := E) (Q₁ := fun ob z => ob = .ref s.heap.objs.size ∧ z = { s with heap := s.heap.push (eob w) }) ⟨rfl, rfl⟩) fun r z hz => ?_
  rcases r with e | fl
  · exact hz
  cases fl with
  | ret ob =>
    obtain ⟨rfl, rfl⟩ := hz
    have top0 : (s.heap.push (eob w)).get? s.heap.objs.size = some (eob w) := Heap.get?_push_size _ rfl
    have ty0 : Shared.TypeIs { s with heap := s.heap.push (eob w) } (.ref s.heap.objs.size) "set" := ⟨_, top0, rfl⟩
    have look0 := F.called_set.init.lookup
    have bind0 := F.called_set.init.bind (.ref s.heap.objs.size)
    repeat (any_goals (first | assumption | wp_step))
    refine codeAny_mono (codeAny_call_builtin (R := wants (fun r z => r = .none ∧ Filled w s ns z) E) F.called_set.init.plain F.entry_set_init (check_set_init_1 ty0 ?_)) fun r2 z2 hz2 => ?_
    · obtain ⟨⟨oc, od, odt, osl⟩, hol, hcl, nl, hdl⟩ := hl
      simp only at hcl hdl
      subst hcl hdl
      have hol1 : (s.heap.push (eob w)).get? l = some { cls := .type "list", dict := od, data := .seq items nl, slots := osl } := Heap.get?_push_of_some _ hol
      have lst1 : (s.heap.push (eob w)).IsList l items := ⟨_, hol1, rfl, nl, rfl⟩
      have ns1 := F.sub_list_set
      have nf1 := F.sub_list_frozenset
      have nd1 : (Value.type "list" == Value.type "dict") = false := by decide
      unfold Builtin.«set.__init__» noKeywords Builtin.Frozenset.updateFrom
      generalize hPI : pyIter = PI
      wp_walk
      subst hPI
      refine wpAny_pyIter_list lst1 (wpAny_bind (wpAny_runValue ?_))
      have size1 : (s.heap.push (eob w)).objs.size = s.heap.objs.size + 1 := Heap.size_push ..
      have below : l < s.heap.objs.size := Heap.lt_size hol
      have lI : l ≠ (s.heap.push (eob w)).objs.size := fun e => absurd below (by rw [e, size1]; exact Nat.not_lt.mpr (Nat.le_succ _))
      have away : s.heap.objs.size ∉ [(s.heap.push (eob w)).objs.size, l] := by
        rw [size1]
        intro m
        rcases List.mem_cons.mp m with e | m
        · exact Nat.succ_ne_self _ e.symm
        · exact absurd below (by rw [← List.mem_singleton.mp m]; exact Nat.lt_irrefl _)
      have hd3 : A.in1.in1.in1.handled = none := by simp [hd]
      have start : ((s.heap.push (eob w)).push { cls := .type "list_iterator", data := .fields #[.ref l, .int 0 0] }).get? s.heap.objs.size = some (eob w) := Heap.get?_push_of_some _ top0
      refine set_update_ints ((Walks.list hd3 _ l lI items).toS) s.heap.objs.size away ns lens few (int_at hit) (items.size - 0) 0 _ (by omega) (Nat.zero_le _) ⟨⟨_, Heap.get?_push_size _ rfl, rfl, rfl⟩, lst1.push _⟩
        ⟨0, Nat.le_refl 0, setR_new_at start⟩ ?_
      intro z c mvd lec setz
      obtain ⟨hz, gz, dz, tz, oz⟩ := z
      have g1 : gz = s.gens := mvd.gens
      have g2 : dz = s.drawn := mvd.drawn
      have g3 : oz = s.os := mvd.os
      subst g1 g2 g3
      show wpAny _ _ _ _ _ _
      refine wpAny_pure ?_
      show wpAny _ _ (ret Value.none) _ _ _
      rw [lens] at lec
      refine wpAny_pure ⟨rfl, hz, tz, c, rfl, setz, lec, fun b o e => mvd.heap b o ?_ (Heap.get?_push_of_some _ (Heap.get?_push_of_some _ e))⟩
      have lb : b < s.heap.objs.size := Heap.lt_size e
      rw [size1]
      intro m
      rcases List.mem_cons.mp m with e | m
      · exact absurd lb (by rw [e]; exact Nat.lt_irrefl _)
      · exact absurd lb (by rw [List.mem_singleton.mp m]; exact Nat.not_lt.mpr (Nat.le_succ _))
    · rcases r2 with e | fl2
      · exact hz2
      cases fl2 with
      | ret r =>
        obtain ⟨rfl, fz⟩ := hz2
        obtain ⟨h', tk, c, rfl, R, lc, kp⟩ := id fz
        repeat (any_goals (first | assumption | wp_step))
        exact q _ fz
      | _ => exact hz2.elim
  | _ => exact hz.elim
end
theorem call_setI {X : Cx} (K : PySem.W.Frag) (w : World) (hK : X.K = K) (hw : X.w = w) (hc : X.calm = true) : CallR X (.type "set") (rSetI K w) := by
  subst hK hw
  intro pins s σ H xs us Q I r h
  obtain ⟨l, ns, rfl, hl, hf, q⟩ := h
  rw [Vals.ref1 r]
  obtain ⟨its, rv, pl, hz⟩ := I.list hl
  have hn : H s.heap.objs.size = none := I.hok.fresh (Nat.le_refl _)
  refine set_ints (P := X.prog) (w := X.w) ns (I.ok.hd hc) pl.isList (by simpa using intsAre_of rv) (by show ns.length + 1 < scanBound; unfold scanBound; omega) fun s2 ⟨h', tk, c, e, R, lc, k⟩ => ?_
  subst e
  exact ⟨.ref s.heap.objs.size, upd H s.heap.objs.size (SetO X.w s.heap.objs.size (fun j => decide (j ∈ ns)) c), I.laid (t' := tk) k (Nat.le_refl _) (setO_new R), rfl, q _ c hn lc⟩
section
variable {P : Program} {w : World} {K : PySem.W.Frag} {mg : Str → Option Value} {base : Heap}
theorem boot_minO : bootBuiltins ("min" : Str) = some (.builtin "min") := by decide +kernel
end
theorem Pen.putNew {H0 G : Hp} {p o : Addr} {n m : Nat} {xs : List V} {u : HO} (P0 : Pen H0 p m) (P : Pen G p n) (f : Frm p H0 G) (no : H0 o = none) (h : G o = some (.lst xs)) : Pen (upd G o u) p n := by
  obtain ⟨c0, hc0, hcn⟩ := P0.cells
  exact P.put (f.ce c0 hc0) h fun e => hcn (by rw [e]; exact no)
end OR

namespace OR
open PySem PySem.Spec PyProof.Rows L2
theorem bt_set : bootBuiltins ("set" : Str) = some (.type "set") := by decide +kernel
/-! ### rows of the law: tuples with a tuple or None -/
theorem Frm.tup0 {H H' : Hp} {p a : Addr} {n : Nat} {xs : List V} (f : Frm p H H') (P : Pen H p n) (h : H a = some (.tup xs)) : H' a = some (.tup xs) := (kp_frm f P).tup h
def LnT (H : Hp) (v : V) : Option LnR → Prop
  | none => v = .non
  | some r => ∃ y, v = .ref y ∧ H y = some (.tup [.int r.1, .int r.2])
theorem LnT.kp {H H' : Hp} {v : V} {l : Option LnR} (h : LnT H v l) (k : KP H H') : LnT H' v l := by
  cases l with
  | none => exact h
  | some r => obtain ⟨y, e, h⟩ := h; exact ⟨y, e, k.tup h⟩
def RwT (H : Hp) (v : V) (q : Pce) : Prop := ∃ t u, v = .ref t ∧ H t = some (.tup [.int q.1, .int q.2.1, u]) ∧ LnT H u q.2.2
theorem RwT.kp {H H' : Hp} {v : V} {q : Pce} (h : RwT H v q) (k : KP H H') : RwT H' v q := by
  obtain ⟨t, u, e, h1, h2⟩ := h
  exact ⟨t, u, e, k.tup h1, h2.kp k⟩
def spWorthT : Sp := fun vs H Q _ => ∃ (t : Addr) (r : LnR) (x : Int), vs = [.ref t, .int x] ∧ H t = some (.tup [.int r.1, .int r.2]) ∧ CMulW r.1 x ∧ Q (.int (lv r x)) H
def spLastP : Sp := fun vs H Q _ => ∃ (p : Addr) (n : Nat), vs = [.ref p] ∧ Pen H p n ∧ n ≤ 800000 ∧ ∀ (x : Int) (H' : Hp), Plc x → Pen H' p (n + 10) → Frm p H H' → Q (.int x) H'
def spPieceL (CL : Addr) : Sp := fun vs H Q _ => ∃ (v : V) (q : Pce), vs = [v] ∧ RwT H v q ∧ ∀ z H', PcT CL H' z q → Same H H' → Q z H'
def spOutc : Sp := fun vs H Q _ => ∃ (a : Addr) (xs : List V) (L : List Pce) (x b c : Int), vs = [.ref a, .int x] ∧ H a = some (.lst xs) ∧ All2 (RwT H) xs L ∧ Til L b c ∧ b ≤ x ∧ x < c ∧ (∀ q ∈ L, Tq q) ∧ Plc x ∧ L.length ≤ 900 ∧ ∀ H', Same H H' → Q (oVal (outc L x)) H'
theorem outc_hit {L : List Pce} {b c x : Int} (h : Til L b c) (h0 : b ≤ x) (h1 : x < c) : ∃ q, q ∈ L ∧ hit x q = true ∧ L.filter (hit x) = [q] := by
  induction L generalizing b with
  | nil => have e : b = c := h; omega
  | cons p r ih =>
    obtain ⟨e1, e2, e3⟩ := h
    by_cases z : x ≤ p.2.1
    · have hp : hit x p = true := by unfold hit; rw [decide_eq_true (by omega), decide_eq_true z]; rfl
      refine ⟨p, List.mem_cons_self, hp, ?_⟩
      rw [List.filter_cons_of_pos hp, e3.lo (by omega)]
    · have hp : ¬ hit x p = true := by unfold hit; rw [decide_eq_false z, Bool.and_false]; simp
      obtain ⟨q, m, hq, e⟩ := ih e3 (by omega)
      exact ⟨q, List.mem_cons_of_mem _ m, hq, by rw [List.filter_cons_of_neg hp]; exact e⟩
theorem outc_of {L : List Pce} {x : Int} {q : Pce} (h : L.filter (hit x) = [q]) : outc L x = oV q.2.2 x := by unfold outc; rw [h]
theorem outc_small {L : List Pce} {x k : Int} (hT : ∀ q ∈ L, Tq q) (hx : Plc x) (h : outc L x = some k) : k.natAbs < 2 ^ 302 := by
  unfold outc at h
  cases hf : L.filter (hit x) with
  | nil => rw [hf] at h; cases h
  | cons q r =>
    rw [hf] at h
    have m : q ∈ L := (List.mem_filter.mp (hf ▸ List.mem_cons_self : q ∈ L.filter (hit x))).1
    simp only at h
    unfold oV at h
    cases hq : q.2.2 with
    | none => rw [hq] at h; cases h
    | some r =>
      rw [hq] at h
      have := ((hT q m).sm r hq).val hx.b1
      have e : lv r x = k := Option.some.inj h
      rw [← e]
      exact this
section
variable {P : Program} {w : World} {K : PySem.W.Frag} {mg : Str → Option Value} {base : Heap} {CL CG ts tw : Addr}
theorem scWorthT : FnScope ["_law_line_here", "_law_x"] ["_law_line_here", "_law_x"] (defScope sWorth) := ⟨rfl, rfl, rfl, by decide +kernel, rfl, by decide +kernel, by decide +kernel⟩
theorem ok_worthT {f : Addr} {fd : FuncData} (F : Fun K "_law_worth" "_law_worth" sWorth f fd) : FnOk P w K mg base CX0 1 f fd ["_law_line_here", "_law_x"] spWorthT := by
  refine F.ok scWorthT (fun vs H Q E h => ?_) (fun cdv A outer s H vs Q E hr h => ?_)
  · obtain ⟨t, r, x, rfl, _⟩ := h
    rfl
  · obtain ⟨t, r, x, rfl, ht, hm, q⟩ := h
    refine ⟨_, pss_one (ps_ret (pe_op op_add (pe_op op_mulW (pe_ix (ix_tupK K rfl) (pv 0) pe_int (fun _ _ => rfl)) (pv 1)) (pe_ix (ix_tupK K rfl) (pv 0) pe_int (fun _ _ => rfl)))), ?_⟩
    exact ⟨_, rfl, t, _, 0, _, rfl, rfl, .inl (.inl ht), atI_nat (j := 0) rfl, _, rfl, r.1, x, rfl, rfl, hm, _, rfl, t, _, 1, _, rfl, rfl, .inl (.inl ht), atI_nat (j := 1) rfl, _, _, rfl, rfl, q⟩
theorem scLastP : FnScope ["_law_pen_here"] ["_law_pen_here"] (defScope sLast) := ⟨rfl, rfl, rfl, by decide +kernel, rfl, by decide +kernel, by decide +kernel⟩
theorem ok_last {f : Addr} {fd : FuncData} (F : Fun K "_law_last" "_law_last" sLast f fd) (D : Cl P w K mg base 1 "_law_draw" ["_law_pen_here", "_law_many"] spDraw) (PI : Cl P w K mg base 2 "_law_pick" ["_law_pen_here", "_law_items"] (spPick K)) : FnOk P w K mg base CX0 3 f fd ["_law_pen_here"] spLastP := by
  refine F.ok scLastP (fun vs H Q E h => ?_) (fun cdv A outer s H vs Q E hr h => ?_)
  · obtain ⟨p, n, rfl, _⟩ := h
    rfl
  · obtain ⟨p, n, rfl, hP, hn, R⟩ := h
    refine ⟨_, pss_one (ps_ret (pe_cl PI hr (by decide) (by rfl) (pa_cons (pv 0) (pa_cons (pe_lst (pa_cons (pe_cl D hr (by decide) (by rfl) (pa_cons (pv 0) (pa_cons pe_int pa_nil))) (pa_cons (pe_cl D hr (by decide) (by rfl) (pa_cons (pv 0) (pa_cons pe_int pa_nil))) (pa_cons pe_int (pa_cons (pe_op op_add (pe_op op_pow pe_int pe_int) (pe_cl D hr (by decide) (by rfl) (pa_cons (pv 0) (pa_cons pe_int pa_nil)))) (pa_cons (pe_op op_pow pe_int pe_int) pa_nil)))))) pa_nil)))), ?_⟩
    have pw15 : CPow 10 15 := ⟨by decide, by decide, by decide⟩
    have pw30 : CPow 10 30 := ⟨by decide, by decide, by decide⟩
    refine ⟨_, rfl, _, rfl, p, 4, n, rfl, by decide, by decide, hP, by omega, fun a H1 a0 a1 P1 F1 => ?_⟩
    refine ⟨_, rfl, p, 13, _, rfl, by decide, by decide, P1, by omega, fun b H2 b0 b1 P2 F2 => ?_⟩
    refine ⟨_, _, rfl, rfl, pw15, _, rfl, p, 99, _, rfl, by decide, by decide, P2, by omega, fun c H3 c0 c1 P3 F3 => ?_⟩
    refine ⟨_, _, rfl, rfl, _, _, rfl, rfl, pw30, by show 5 ≤ sizeLine; decide, fun l nl => ?_⟩
    refine ⟨p, l, [.int a, .int b, .int 40, .int (10 ^ 15 + c), .int (10 ^ 30)], _, rfl, .inl (.inl upd_same), by show 0 < 5; decide, by show 5 ≤ 1000; decide, P3.new nl, by omega, fun v H4 hv P4 F4 => ?_⟩
    have F := ((F1.trans F2).trans F3).trans ((Frm.new nl).trans F4)
    have fin : ∀ x : Int, Plc x → v = .int x → Q v H4 := fun x hx e => by rw [e]; exact R x H4 hx (P4.mono (by omega)) F
    simp only [List.mem_cons, List.not_mem_nil, or_false] at hv
    rcases hv with e | e | e | e | e
    · exact fin a ⟨a0, by omega⟩ e
    · exact fin b ⟨b0, by omega⟩ e
    · exact fin 40 ⟨by decide, by decide⟩ e
    · exact fin _ ⟨by omega, by omega⟩ e
    · exact fin _ ⟨by decide, by decide⟩ e
theorem scPieceL : FnScope ["_law_row"] ["_law_row"] (defScope sPiece) := ⟨rfl, rfl, rfl, by decide +kernel, rfl, by decide +kernel, by decide +kernel⟩
theorem ok_piece {f : Addr} {fd : FuncData} (F : Fun K "_law_piece" "_law_piece" sPiece f fd) (M : LMk P w K mg base CL) : FnOk P w K mg base CX0 3 f fd ["_law_row"] (spPieceL CL) := by
  refine F.ok scPieceL (fun vs H Q E h => ?_) (fun cdv A outer s H vs Q E hr h => ?_)
  · obtain ⟨v, q, rfl, _⟩ := h
    rfl
  · obtain ⟨v, q, rfl, ⟨t, u, rfl, ht, hl⟩, R⟩ := h
    refine ⟨_, pss_one (ps_ret (pe_tup (pa_cons (pe_ix (ix_tupK K rfl) (pv 0) pe_int (fun _ _ => rfl)) (pa_cons (pe_ix (ix_tupK K rfl) (pv 0) pe_int (fun _ _ => rfl)) (pa_cons (pe_ifExp (pt_cmp (pc_isN (pe_ix (ix_tupK K rfl) (pv 0) pe_int (fun _ _ => rfl)))) pe_non (pe_mkL M hr (by decide) (by rfl) (pa_cons (pe_ix (ix_tupK K rfl) (pe_ix (ix_tupK K rfl) (pv 0) pe_int (fun _ _ => rfl)) pe_int (fun _ _ => rfl)) (pa_cons (pe_ix (ix_tupK K rfl) (pe_ix (ix_tupK K rfl) (pv 0) pe_int (fun _ _ => rfl)) pe_int (fun _ _ => rfl)) pa_nil)))) pa_nil))))), ?_⟩
    have S0 : SqT K H t [.int q.1, .int q.2.1, u] := .inl (.inl ht)
    refine ⟨_, rfl, t, _, 0, _, rfl, rfl, S0, atI_nat (j := 0) rfl, _, rfl, t, _, 1, _, rfl, rfl, S0, atI_nat (j := 1) rfl, _, rfl, t, _, 2, _, rfl, rfl, S0, atI_nat (j := 2) rfl, _, rfl, ?_⟩
    cases hq : q.2.2 with
    | none =>
      rw [hq] at hl
      obtain rfl : u = .non := hl
      refine iteA (by simp) ⟨by show 3 ≤ sizeLine; decide, fun z nz => R _ _ ⟨z, .non, rfl, upd_same, by rw [hq]; rfl⟩ (same_lay nz)⟩
    | some r =>
      rw [hq] at hl
      obtain ⟨y, rfl, hy⟩ := hl
      have Sy : SqT K H y [.int r.1, .int r.2] := .inl (.inl hy)
      refine iteB (by simp) ⟨_, rfl, t, _, 2, _, rfl, rfl, S0, atI_nat (j := 2) rfl, y, _, 0, _, rfl, rfl, Sy, atI_nat (j := 0) rfl, _, rfl, t, _, 2, _, rfl, rfl, S0, atI_nat (j := 2) rfl, y, _, 1, _, rfl, rfl, Sy, atI_nat (j := 1) rfl, r.1, r.2, rfl, fun x H1 nx hx s1 => ⟨by show 3 ≤ sizeLine; decide, fun z nz => R _ _ ⟨z, .ref x, rfl, upd_same, ?_⟩ (s1.trans (same_lay nz))⟩⟩
      rw [hq]
      exact ⟨x, rfl, hx.same (same_lay nz)⟩
theorem scOutc : FnScope ["_law_rows_here", "_law_x", "_law_line_here", "_law_row"] ["_law_rows_here", "_law_x"] (defScope sOutcome) := ⟨rfl, rfl, rfl, by decide +kernel, rfl, by decide +kernel, by decide +kernel⟩
theorem ok_outc {f : Addr} {fd : FuncData} (F : Fun K "_law_outcome" "_law_outcome" sOutcome f fd) (WO : Cl P w K mg base 1 "_law_worth" ["_law_line_here", "_law_x"] spWorthT) : FnOk P w K mg base CX0 2 f fd ["_law_rows_here", "_law_x"] spOutc := by
  refine F.ok scOutc (fun vs H Q E h => ?_) (fun cdv A outer s H vs Q E hr h => ?_)
  · obtain ⟨a, xs, L, x, b, c, rfl, _⟩ := h
    rfl
  · obtain ⟨a, xs, L, x, b, c, rfl, ha, hA, hT, h0, h1, hq, hx, hlen, R⟩ := h
    have nd := scOutc.nd
    refine ⟨_, pss_cons (ps_set (i := 2) nd rfl (.inl rfl) (pe_ix (ix_listK K rfl) (pe_lc (own := [("_law_row", 3)]) (g := (gName 3)) rfl nd (pi_list (pv 0)) (blkOk_by (N := ["_law_rows_here", "_law_x", "_law_line_here", "_law_row"]) (sc := defScope sOutcome) (by decide +kernel)) (fun _ _ _ _ _ => pg_name (i := 3) nd rfl (.inl rfl)) (fun _ _ _ _ _ => pts_one (pt_chain op_le op_le (pe_ix (ix_tupK K rfl) (pv 3) pe_int (fun _ _ => rfl)) (pv 1) (pe_ix (ix_tupK K rfl) (pv 3) pe_int (fun _ _ => rfl)))) (fun _ _ _ _ _ => (pe_ix (ix_tupK K rfl) (pv 3) pe_int (fun _ _ => rfl)))) pe_int (fun _ _ => rfl)))
      (pss_one (ps_ret (pe_ifExp (pt_cmp (pc_isN (pv 2))) pe_non (pe_cl WO hr (by decide) (by rfl) (pa_cons (pv 2) (pa_cons (pv 1) pa_nil)))))), ?_⟩
    have lxs := hA.length
    refine ⟨_, rfl, a, rfl, ⟨_, .inl (.inl ha)⟩, fun D hD => lc_list (K := K) (a := a) (xs := xs) (fun i G => ∃ us, G D = some (.lst us) ∧ All2 (fun u (q : Pce) => LnT G u q.2.2) us ((L.take i).filter (hit x)) ∧ Same H G) ⟨[], upd_same, .nil, same_lay hD⟩ (fun i G _ ⟨_, _, _, s⟩ => s.seq (.inl (.inl ha))) ?_ ?_⟩
    · rintro i v G hv ⟨us, hU, hUs, sG⟩
      obtain ⟨q, hqi, hr0⟩ := all2_get hA hv
      obtain ⟨t, u, rfl, ht, hl⟩ := hr0.kp (kp_same sG)
      have S0 : SqT K G t [.int q.1, .int q.2.1, u] := .inl (.inl ht)
      have lus := hUs.length
      have lf := List.length_filter_le (hit x) (L.take i)
      rw [List.length_take] at lf
      have et : (L.take (i + 1)).filter (hit x) = (L.take i).filter (hit x) ++ (if hit x q = true then [q] else []) := by
        rw [take_snoc hqi, List.filter_append]
        by_cases hh : hit x q = true
        · rw [if_pos hh, List.filter_cons_of_pos hh]; rfl
        · rw [if_neg hh, List.filter_cons_of_neg hh]; rfl
      have yes : hit x q = true → ∃ us', (upd G D (.lst (us ++ [u]))) D = some (.lst us') ∧ All2 (fun z (q : Pce) => LnT (upd G D (.lst (us ++ [u]))) z q.2.2) us' ((L.take (i + 1)).filter (hit x)) ∧ Same H (upd G D (.lst (us ++ [u]))) := fun hh => by
        have k1 := kp_lst (u := .lst (us ++ [u])) hU
        refine ⟨_, upd_same, ?_, same_upd sG hD⟩
        rw [et, if_pos hh]
        exact (hUs.imp fun _ _ h => h.kp k1).append (.cons (hl.kp k1) .nil)
      have no : ¬ hit x q = true → ∃ us', G D = some (.lst us') ∧ All2 (fun u (q : Pce) => LnT G u q.2.2) us' ((L.take (i + 1)).filter (hit x)) ∧ Same H G := fun hh => ⟨us, hU, by rw [et, if_neg hh, List.append_nil]; exact hUs, sG⟩
      refine ⟨rfl, _, rfl, t, _, 0, _, rfl, rfl, S0, atI_nat (j := 0) rfl, _, rfl, _, _, rfl, rfl, _, rfl, ?_⟩
      by_cases c1 : q.1 ≤ x
      · refine iteA (decide_eq_true c1) ⟨_, rfl, t, _, 1, _, rfl, rfl, S0, atI_nat (j := 1) rfl, _, _, rfl, rfl, _, rfl, ?_⟩
        by_cases c2 : x ≤ q.2.1
        · rw [decide_eq_true c2]
          refine iteT ⟨_, rfl, t, _, 2, _, rfl, rfl, S0, atI_nat (j := 2) rfl, us, hU, small1000 (by omega), yes ?_⟩
          unfold hit
          rw [decide_eq_true c1, decide_eq_true c2]; rfl
        · rw [decide_eq_false c2]
          refine iteF (no ?_)
          unfold hit
          rw [decide_eq_false c2, Bool.and_false]; simp
      · refine iteB (decide_eq_false c1) ⟨false, rfl, iteF (no ?_)⟩
        unfold hit
        rw [decide_eq_false c1, Bool.false_and]; simp
    rintro G ⟨us, hU, hUs, sG⟩
    rw [List.take_of_length_le (by omega)] at hUs
    obtain ⟨q, mq, hh, ef⟩ := outc_hit hT h0 h1
    rw [ef] at hUs
    have eo := outc_of ef
    cases hUs with
    | cons hu hr2 =>
      cases hr2
      rename_i u
      refine ⟨D, _, 0, u, rfl, rfl, .inl (.inl hU), atI_nat (j := 0) rfl, _, rfl, _, rfl, ?_⟩
      have fin : ∀ v : V, v = oVal (outc L x) → Q v G := fun v e => by rw [e]; exact R G sG
      cases hq2 : q.2.2 with
      | none =>
        rw [hq2] at hu eo
        obtain rfl : u = .non := hu
        exact iteA (by simp) (fin .non (by rw [eo]; rfl))
      | some r =>
        rw [hq2] at hu eo
        obtain ⟨y, rfl, hy⟩ := hu
        exact iteB (by simp) ⟨_, rfl, _, rfl, y, r, x, rfl, hy, cwWP (((hq q mq).sm r hq2).wd).1 hx.b1, fin _ (by rw [eo]; rfl)⟩
end
end OR

namespace OR
open PySem PySem.Spec PyProof.Rows L2
/-! ### drawn rows -/
/-- a piece with a line of a small slope and a height of up to k times 10 ** 42 -/
structure Hq (k : Nat) (q : Pce) : Prop where
  p1 : Plc q.1
  p2 : Plc q.2.1
  gw : ∀ r, q.2.2 = some r → r.1.natAbs ≤ 10 ^ 9 ∧ r.2.natAbs ≤ k * 10 ^ 42
theorem Hq.tq {k : Nat} {q : Pce} (h : Hq k q) (hk : k ≤ 100) : Tq q := ⟨h.p1, h.p2, fun r e => by
  obtain ⟨h1, h2⟩ := h.gw r e
  have e1 : (10 : Nat) ^ 9 < 2 ^ 200 := by decide
  have e2 : 100 * (10 : Nat) ^ 42 < 2 ^ 200 := by decide
  have := Nat.mul_le_mul_right (10 ^ 42) hk
  exact ⟨by omega, by omega⟩⟩
theorem Hq.mono {j k : Nat} {q : Pce} (h : Hq j q) (hk : j ≤ k) : Hq k q := ⟨h.p1, h.p2, fun r e => ⟨(h.gw r e).1, Nat.le_trans (h.gw r e).2 (Nat.mul_le_mul_right _ hk)⟩⟩
def spRowsL : Sp := fun vs H Q _ => ∃ (p : Addr) (n : Nat) (last : Int), vs = [.ref p, .int last] ∧ Plc last ∧ Pen H p n ∧ n ≤ 700000 ∧
  ∀ a xs L H', H a = none → H' a = some (.lst xs) → All2 (RwT H') xs L → Til L 0 (last + 1) → (∀ q ∈ L, Hq 1 q) → L.length ≤ 6 → Pen H' p (n + 100) → Frm p H H' → Q (.ref a) H'
/-- a line that is not too great after i rows -/
def Gw (i : Nat) (r : LnR) : Prop := r.1.natAbs ≤ 10 ^ 9 ∧ r.2.natAbs ≤ i * 10 ^ 41
theorem Gw.sm {i : Nat} {r : LnR} (h : Gw i r) (hi : i ≤ 100) : Sm r := by
  obtain ⟨h1, h2⟩ := h
  have e : (10 : Nat) ^ 9 < 2 ^ 200 := by decide
  have e2 : 100 * (10 : Nat) ^ 41 < 2 ^ 200 := by decide
  have := Nat.mul_le_mul_right (10 ^ 41) hi
  exact ⟨by omega, by omega⟩
theorem Gw.hw {i : Nat} {r : LnR} (h : Gw i r) (hi : i ≤ 10) : r.1.natAbs ≤ 10 ^ 9 ∧ r.2.natAbs ≤ 1 * 10 ^ 42 := by
  obtain ⟨h1, h2⟩ := h
  have e2 : 10 * (10 : Nat) ^ 41 = 1 * 10 ^ 42 := by decide
  have := Nat.mul_le_mul_right (10 ^ 41) hi
  exact ⟨h1, Nat.le_trans h2 (Nat.le_trans this (Nat.le_of_eq e2))⟩
theorem Gw.up {i : Nat} {r : LnR} (h : Gw i r) : Gw (i + 1) r := ⟨h.1, Nat.le_trans h.2 (Nat.mul_le_mul_right _ (Nat.le_succ _))⟩
theorem abs_mul9 {a x : Int} (ha : a.natAbs ≤ 10 ^ 9) (hx : Plc x) : (a * x).natAbs ≤ 10 ^ 39 := by
  rw [Int.natAbs_mul]
  have h1 : x.natAbs ≤ 10 ^ 30 := by have := hx.1; have := hx.2; omega
  have := Nat.mul_le_mul ha h1
  have e : (10 : Nat) ^ 9 * 10 ^ 30 = 10 ^ 39 := by decide
  omega
theorem asc_head {ns : List Int} (hs : ns.Pairwise (· < ·)) (h0 : (0 : Int) ∈ ns) (hp : ∀ z ∈ ns, 0 ≤ z) : ∃ r, ns = 0 :: r := by
  cases ns with
  | nil => cases h0
  | cons a r =>
    rcases List.mem_cons.mp h0 with e | e
    · exact ⟨r, by rw [e]⟩
    · have := (List.pairwise_cons.mp hs).1 0 e
      have := hp a List.mem_cons_self
      omega
/-- the rows so far reach the next cut -/
def upTo (ns : List Int) (last : Int) (i : Nat) : Int := if i < ns.length then ns.getD i 0 else last + 1
theorem upTo_at {ns : List Int} {last : Int} {i : Nat} {a : Int} (h : ns[i]? = some a) : upTo ns last i = a := by
  obtain ⟨hi, e⟩ := List.getElem?_eq_some_iff.mp h
  unfold upTo
  rw [if_pos hi, List.getD_eq_getElem?_getD, h]
  rfl
theorem upTo_end {ns : List Int} {last : Int} : upTo ns last ns.length = last + 1 := by unfold upTo; rw [if_neg (Nat.lt_irrefl _)]
section
variable {P : Program} {w : World} {K : PySem.W.Frag} {mg : Str → Option Value} {base : Heap} {CL CG ts tw : Addr}
theorem scRowsL : FnScope ["_law_pen_here", "_law_last_here", "_law_near", "_law_cuts", "_law_found", "_law_before", "_law_k", "_law_cut", "_law_end", "_law_slope", "_law_start", "_law_line_here"] ["_law_pen_here", "_law_last_here"] (defScope sRows) := ⟨rfl, rfl, rfl, by decide +kernel, rfl, by decide +kernel, by decide +kernel⟩
theorem ok_rowsL {f : Addr} {fd : FuncData} (F : Fun K "_law_rows" "_law_rows" sRows f fd) (B : Bd mg) (D : Cl P w K mg base 1 "_law_draw" ["_law_pen_here", "_law_many"] spDraw) (PI : Cl P w K mg base 2 "_law_pick" ["_law_pen_here", "_law_items"] (spPick K))
    (WH : Cl P w K mg base 3 "_law_whole" ["_law_pen_here"] spWhole) (WO : Cl P w K mg base 1 "_law_worth" ["_law_line_here", "_law_x"] spWorthT) : FnOk P w K mg base CX0 4 f fd ["_law_pen_here", "_law_last_here"] spRowsL := by
  refine F.ok scRowsL (fun vs H Q E h => ?_) (fun cdv A outer s H vs Q E hr h => ?_)
  · obtain ⟨p, n, last, rfl, _⟩ := h
    rfl
  · obtain ⟨p, n, last, rfl, hlast, hP, hn, R⟩ := h
    have nd := scRowsL.nd
    refine ⟨_, pss_cons (ps_asg (pe_tup (pa_cons (pe_callB (call_min2 rfl) (by rfl) B.min bt_min (pa_cons (pe_callTy call_int1 (by rfl) B.int bt_int (pa_cons (pv 1) pa_nil)) (pa_cons pe_int pa_nil))) (pa_cons (pe_lst (pa_cons pe_int pa_nil)) (pa_cons (pe_lst pa_nil) (pa_cons (pe_tup (pa_cons pe_int (pa_cons pe_int pa_nil))) pa_nil))))) (pg_tup rfl (pgs_cons (pg_name (i := 2) nd rfl (.inl rfl)) (pgs_cons (pg_name (i := 3) nd rfl (.inl rfl)) (pgs_cons (pg_name (i := 4) nd rfl (.inl rfl)) (pgs_cons (pg_name (i := 5) nd rfl (.inl rfl)) pgs_nil))))))
      (pss_cons (ps_for PassesOwn.never rfl (pi_range1 (by rfl) B.range (pa_cons (pe_cl D hr (by decide) (by rfl) (pa_cons (pv 0) (pa_cons pe_int pa_nil))) pa_nil)) (pg_name (i := 6) nd rfl (.inl rfl))
          (pss_cons (ps_set (i := 7) nd rfl (.inl rfl) (pe_cl D hr (by decide) (by rfl) (pa_cons (pv 0) (pa_cons (pe_op op_add (pv 2) pe_int) pa_nil))))
          (pss_one (ps_expr (pe_bm PySem.F.plainAttrs_list PySem.F.slot_list_append PySem.F.type_list_append mt_append (pv 3) (pa_cons (pe_cl PI hr (by decide) (by rfl) (pa_cons (pv 0) (pa_cons (pe_lst (pa_cons (pv 7) (pa_cons (pe_op op_sub (pv 1) (pv 7)) (pa_cons (pe_cl D hr (by decide) (by rfl) (pa_cons (pv 0) (pa_cons (pe_op op_add (pv 1) pe_int) pa_nil))) pa_nil)))) pa_nil))) pa_nil))))))
      (pss_cons (ps_set (i := 3) nd rfl (.inl rfl) (pe_callB (cr_sortedSet rfl) (by rfl) B.sorted bt_sorted (pa_cons (pe_callTy (call_setI K w rfl rfl rfl) (by rfl) B.set bt_set (pa_cons (pv 3) pa_nil)) pa_nil)))
      (pss_cons (ps_for PassesOwn.never rfl (pi_range1 (by rfl) B.range (pa_cons (pe_callB call_len_seq (by rfl) B.len PySem.boot_len (pa_cons (pv 3) pa_nil)) pa_nil)) (pg_name (i := 6) nd rfl (.inl rfl))
          (Evl.pss_cut (ps_set (i := 8) nd rfl (.inl rfl) (pe_ifExp (pt_cmpR op_lt (pe_op op_add (pv 6) pe_int) (pe_callB call_len_seq (by rfl) B.len PySem.boot_len (pa_cons (pv 3) pa_nil)) (nomark _)) (pe_op op_sub (pe_ix (ix_listK K rfl) (pv 3) (pe_op op_add (pv 6) pe_int) (fun _ _ => rfl)) pe_int) (pv 1)))
          (pss_cons (ps_set (i := 9) nd rfl (.inl rfl) (pe_cl PI hr (by decide) (by rfl) (pa_cons (pv 0) (pa_cons (pe_lst (pa_cons pe_int (pa_cons pe_int (pa_cons pe_int (pa_cons (pe_un un_neg pe_int) (pa_cons pe_int (pa_cons (pe_un un_neg pe_int) (pa_cons (pe_op op_pow pe_int pe_int) pa_nil)))))))) pa_nil))))
          (pss_cons (ps_set (i := 10) nd rfl (.inl rfl) (pe_op op_add (pe_cl WO hr (by decide) (by rfl) (pa_cons (pv 5) (pa_cons (pe_ix (ix_listK K rfl) (pv 3) (pv 6) (fun _ _ => rfl)) pa_nil))) (pe_cl PI hr (by decide) (by rfl) (pa_cons (pv 0) (pa_cons (pe_lst (pa_cons pe_int (pa_cons pe_int (pa_cons pe_int (pa_cons (pe_un un_neg pe_int) (pa_cons pe_int (pa_cons pe_int (pa_cons (pe_cl WH hr (by decide) (by rfl) (pa_cons (pv 0) pa_nil)) pa_nil)))))))) pa_nil)))))
          (pss_cons (ps_set (i := 11) nd rfl (.inl rfl) (pe_tup (pa_cons (pv 9) (pa_cons (pe_op op_sub (pv 10) (pe_op op_mulW (pv 9) (pe_ix (ix_listK K rfl) (pv 3) (pv 6) (fun _ _ => rfl)))) pa_nil))))
          (pss_cons (ps_set (i := 11) nd rfl (.inl rfl) (pe_cl PI hr (by decide) (by rfl) (pa_cons (pv 0) (pa_cons (pe_lst (pa_cons (pv 11) (pa_cons (pv 11) (pa_cons (pv 11) (pa_cons (pv 5) (pa_cons pe_non pa_nil)))))) pa_nil))))
          (Evl.pss_cut (ps_set (i := 5) nd rfl (.inl rfl) (pe_ifExp (pt_cmp (pc_isN (pv 11))) (pv 5) (pv 11)))
          (pss_one (ps_expr (pe_bm PySem.F.plainAttrs_list PySem.F.slot_list_append PySem.F.type_list_append mt_append (pv 4) (pa_cons (pe_tup (pa_cons (pe_ix (ix_listK K rfl) (pv 3) (pv 6) (fun _ _ => rfl)) (pa_cons (pv 8) (pa_cons (pv 11) pa_nil)))) pa_nil)))))))))))
      (pss_one (ps_ret (pv 4)))))), ?_⟩
    have pw9 : CPow 10 9 := ⟨by decide, by decide, by decide⟩
    have l0 := hlast.1
    have l1 := hlast.2
    generalize hnear : (if (12 : Int) < last then (12 : Int) else last) = near
    have hn0 : 0 ≤ near ∧ near ≤ 12 ∧ near ≤ last := by subst hnear; split <;> omega
    refine ⟨_, rfl, .inl ⟨last, rfl, _, _, rfl, by show 1 ≤ sizeLine; decide, fun c nc => ?_⟩⟩
    rw [hnear]
    refine ⟨by show 0 ≤ sizeLine; decide, fun fo nfo => ?_⟩
    refine ⟨by show 2 ≤ sizeLine; decide, fun bt nbt => ?_⟩
    refine ⟨by show 4 ≤ sizeLine; decide, fun tt ntt => ?_⟩
    have nfc : H fo = none := (same_lay (o := .lst [.int 0]) nc).free nfo
    have ncf : c ≠ fo := fun e => by rw [← e, upd_same] at nfo; cases nfo
    have P0 := ((hP.new (o := .lst [.int 0]) nc).new (o := .lst []) nfo |>.new (o := .tup [.int 0, .int 0]) nbt).new (o := .tup [.int near, .ref c, .ref fo, .ref bt]) ntt
    have S4 := same_lay (o := .tup [.int near, .ref c, .ref fo, .ref bt]) ntt
    have S3 := same_lay (o := .tup [.int 0, .int 0]) nbt
    have S2 := same_lay (o := .lst []) nfo
    have F0 : Frm p H _ := frmS (((same_lay (o := .lst [.int 0]) nc).trans S2).trans (S3.trans S4))
    have hc0 := S4 _ _ (S3 _ _ (S2 _ _ (upd_same : (upd H c (.lst [.int 0])) c = some (.lst [.int 0]))))
    have hf0 := S4 _ _ (S3 _ _ (upd_same : (upd (upd H c (.lst [.int 0])) fo (.lst [])) fo = some (.lst [])))
    have hb0 := S4 _ _ (upd_same : (upd (upd (upd H c (.lst [.int 0])) fo (.lst [])) bt (.tup [.int 0, .int 0])) bt = some (.tup [.int 0, .int 0]))
    refine ⟨tt, _, rfl, .inl (.inl upd_same), rfl, _, _, rfl, _, _, rfl, _, _, rfl, _, _, rfl, rfl, ?_⟩
    generalize upd (upd (upd (upd H c (.lst [.int 0])) fo (.lst [])) bt (.tup [.int 0, .int 0])) tt (.tup [.int near, .ref c, .ref fo, .ref bt]) = G0 at P0 F0 hc0 hf0 hb0
    clear S2 S3 S4 ntt nbt nfo
    -- the cuts
    refine ⟨_, rfl, p, 6, n, rfl, by decide, by decide, P0, by omega, fun cnt G1 c0 c1 P1 F1 => ⟨cnt, rfl, by omega, by omega, for_range (lo := 0) (n := cnt.toNat) (fun i σ G => ∃ cs s6 s7, σ = [some (.ref p), some (.int last), some (.int near), some (.ref c), some (.ref fo), some (.ref bt), s6, s7, none, none, none, none] ∧ G c = some (.lst (cs.map V.int)) ∧ (0 : Int) ∈ cs ∧ (∀ z ∈ cs, 0 ≤ z ∧ z ≤ last) ∧ cs.length = 1 + i ∧ G fo = some (.lst []) ∧ G bt = some (.tup [.int 0, .int 0]) ∧ Pen G p (n + 1 + 3 * i) ∧ Frm p H G)
      ⟨[0], none, none, rfl, F1.lst P0 hc0, List.mem_singleton.mpr rfl, (fun z hz => by rw [List.mem_singleton.mp hz]; omega), rfl, F1.lst P0 hf0, F1.tup0 P0 hb0, P1, F0.trans F1⟩ ?_ ?_⟩⟩
    · rintro i σ G hi ⟨cs, s6, s7, rfl, hc, h0, hcs, lcs, hf, hb, PG, FG⟩
      refine ⟨_, rfl, _, rfl, _, _, rfl, rfl, p, near + 1, _, rfl, by omega, ?_, PG, by omega, fun x G2 x0 x1 P2 F2 => ?_⟩
      · exact Nat.lt_of_le_of_lt (show (near + 1).natAbs ≤ 13 by omega) (by decide)
      refine ⟨_, rfl, .inl ⟨rfl, _, .inl (.inl (F2.lst PG hc))⟩, _, rfl, _, rfl, _, rfl, _, rfl, _, _, rfl, rfl, _, rfl, _, rfl, _, _, rfl, rfl, p, last + 1, _, rfl, by omega, ?_, P2, by omega, fun y G3 y0 y1 P3 F3 => ?_⟩
      · exact Nat.lt_of_le_of_lt (show (last + 1).natAbs ≤ 10 ^ 30 + 1 by omega) (by decide)
      refine ⟨by show 3 ≤ sizeLine; decide, fun l nl => ?_⟩
      refine ⟨p, l, [.int x, .int (last - x), .int y], _, rfl, .inl (.inl upd_same), by show 0 < 3; decide, by show 3 ≤ 1000; decide, P3.new nl, by omega, fun v G4 hv P4 F4 => ?_⟩
      have FF := ((F2.trans F3).trans (Frm.new nl)).trans F4
      have hc4 := FF.lst PG hc
      have F4' := FG.trans FF
      obtain ⟨z, rfl, z0, z1⟩ : ∃ z, v = .int z ∧ 0 ≤ z ∧ z ≤ last := by
        simp only [List.mem_cons, List.not_mem_nil, or_false] at hv
        rcases hv with e | e | e
        · exact ⟨_, e, x0, by omega⟩
        · exact ⟨_, e, by omega, by omega⟩
        · exact ⟨_, e, y0, by omega⟩
      refine ⟨c, _, _, rfl, rfl, hc4, small1000 (by rw [List.length_map]; omega), ?_⟩
      refine ⟨cs ++ [z], _, _, rfl, by rw [upd_same, List.map_append]; rfl, List.mem_append_left _ h0, fun y hy => ?_, by rw [List.length_append, lcs]; exact Nat.add_assoc _ _ _, ?_, ?_, (hP.putNew P4 F4' nc hc4).mono (by omega), F4'.putNew nc hc4⟩
      · rcases List.mem_append.mp hy with m | m
        · exact hcs y m
        · rw [List.mem_singleton.mp m]; exact ⟨z0, z1⟩
      · rw [upd_ne ncf.symm]; exact FF.lst PG hf
      · rw [upd_ne (ne_of (FF.tup0 PG hb) hc4 (by intro z; cases z))]; exact FF.tup0 PG hb
    rintro σ G ⟨cs, s6, s7, rfl, hc, h0, hcs, lcs, hf, hb, PG, FG⟩
    refine ⟨_, rfl, c, cs, rfl, .inl (.inl hc), by omega, fun u cc nu hcc => ⟨u, _, cc, rfl, upd_same, by omega, fun ns o hs hm hln no => ?_⟩⟩
    have SS := (same_lay (o := SetO w u (fun j => decide (j ∈ cs)) cc) nu).trans (same_lay (o := .lst (ns.map V.int)) no)
    have ho4 : (upd (upd G u (SetO w u (fun j => decide (j ∈ cs)) cc)) o (.lst (ns.map V.int))) o = some (.lst (ns.map V.int)) := upd_same
    have hm' : ∀ z, z ∈ ns ↔ z ∈ cs := fun z => (hm z).trans decide_eq_true_iff
    have P4 := PG.same' SS
    have F4 := FG.trans (frmS SS)
    have hf4 := SS _ _ hf
    have hb4 := SS _ _ hb
    have nof : o ≠ fo := fun e => by
      rw [e] at no
      rw [(same_lay (o := SetO w u (fun j => decide (j ∈ cs)) cc) nu) _ _ hf] at no
      cases no
    generalize upd (upd G u (SetO w u (fun j => decide (j ∈ cs)) cc)) o (.lst (ns.map V.int)) = G2 at ho4 P4 F4 hf4 hb4
    clear SS nu no hb hf PG FG hc
    have h0' := (hm' 0).mpr h0
    have hns : ∀ z ∈ ns, 0 ≤ z ∧ z ≤ last := fun z hz => hcs z ((hm' z).mp hz)
    obtain ⟨rr, ers⟩ := asc_head hs h0' fun z hz => (hns z hz).1
    have lns : ns.length ≤ 6 := by omega
    have up0 : upTo ns last 0 = 0 := upTo_at (by rw [ers]; rfl)
    have Tl0 : Til ([] : List Pce) 0 (upTo ns last 0) := up0.symm
    let S : Addr → Option V → Option V → Option V → Option V → Option V → Option V → L2.St := fun b s6 s7 s8 s9 s10 s11 => [some (.ref p), some (.int last), some (.int near), some (.ref o), some (.ref fo), some (.ref b), s6, s7, s8, s9, s10, s11]
    let I2 : Nat → Hp → Addr → Prop := fun i G b => ∃ (L : List Pce) (fxs : List V) (r : LnR), G o = some (.lst (ns.map V.int)) ∧ G fo = some (.lst fxs) ∧ All2 (RwT G) fxs L ∧ Til L 0 (upTo ns last i) ∧ (∀ q ∈ L, Hq 1 q) ∧ L.length = i ∧ G b = some (.tup [.int r.1, .int r.2]) ∧ Gw i r ∧ Pen G p (n + 19 + 10 * i) ∧ Frm p H G
    refine ⟨_, rfl, o, _, rfl, .inl (.inl (.inl ho4)), _, rfl, by rw [List.length_map]; omega, by rw [List.length_map]; omega, for_range (lo := 0) (n := (((ns.map V.int).length : Nat) : Int).toNat) (fun i σ G => ∃ b s6 s7 s8 s9 s10 s11, σ = S b s6 s7 s8 s9 s10 s11 ∧ I2 i G b) ⟨bt, _, _, _, _, _, _, rfl, [], [], (0, 0), ho4, hf4, .nil, Tl0, (fun _ z => nomatch z), rfl, hb4, ⟨by decide, by decide⟩, P4.mono (by omega), F4⟩ ?_ ?_⟩
    · rintro i σ G hi ⟨b, s6, s7, s8, s9, s10, s11, rfl, L, fxs, r, hO, hF, hR, hT, hq, hl, hb, hg, PG, FG⟩
      rw [List.length_map, Int.toNat_natCast] at hi
      have hai : ns[i]? = some ns[i] := by simp [hi]
      generalize ns[i] = a at hai
      have ma := hns a (List.mem_of_getElem? hai)
      have ua := upTo_at (last := last) hai
      have ati : atI (ns.map V.int) (0 + (i : Int)) = some (.int a) := by rw [Int.zero_add]; exact atI_nat (by rw [List.getElem?_map, hai]; rfl)
      refine ⟨fun σ G' => ∃ e : Int, σ = S b (some (.int (0 + (i : Int)))) s7 (some (.int e)) s9 s10 s11 ∧ G' = G ∧ upTo ns last (i + 1) = e + 1 ∧ a ≤ e ∧ e ≤ last, ?_, ?_⟩
      · refine ⟨_, rfl, _, _, rfl, rfl, _, rfl, o, _, rfl, .inl (.inl (.inl hO)), _, _, rfl, rfl, _, rfl, ?_⟩
        by_cases hj : i + 1 < ns.length
        · have haj : ns[i + 1]? = some ns[i + 1] := by simp [hj]
          generalize ns[i + 1] = a2 at haj
          have lt : a < a2 := by
            have := List.pairwise_iff_getElem.mp hs i (i + 1) hi hj (Nat.lt_succ_self i)
            rw [(List.getElem?_eq_some_iff.mp hai).2, (List.getElem?_eq_some_iff.mp haj).2] at this
            exact this
          have m2 := hns a2 (List.mem_of_getElem? haj)
          have atj : atI (ns.map V.int) (0 + (i : Int) + 1) = some (.int a2) := by
            rw [Int.zero_add, show (i : Int) + 1 = ((i + 1 : Nat) : Int) by omega]; exact atI_nat (by rw [List.getElem?_map, haj]; rfl)
          refine iteA (decide_eq_true (by rw [List.length_map]; omega)) ⟨_, rfl, _, rfl, _, _, rfl, rfl, o, _, _, _, rfl, rfl, .inl (.inl hO), atj, _, _, rfl, rfl, a2 - 1, rfl, rfl, ?_, by omega, by omega⟩
          rw [upTo_at haj]; omega
        · refine iteB (decide_eq_false (by rw [List.length_map]; omega)) ⟨_, rfl, last, rfl, rfl, ?_, by omega, Int.le_refl _⟩
          rw [show i + 1 = ns.length by omega, upTo_end]
      rintro σ G' ⟨e, rfl, rfl, ue, ae, el⟩
      have oi : (0 : Int) + (i : Int) = i := Int.zero_add _
      -- the slope
      refine ⟨_, rfl, _, rfl, _, rfl, _, _, rfl, rfl, pw9, by show 7 ≤ sizeLine; decide, fun l nl => ?_⟩
      refine ⟨p, l, [.int 0, .int 0, .int 1, .int (-1), .int 2, .int (-3), .int (10 ^ 9)], _, rfl, .inl (.inl upd_same), by show 0 < 7; decide, by show 7 ≤ 1000; decide, PG.new nl, by omega, fun v G1 hv P1 F1 => ?_⟩
      obtain ⟨sl, rfl, hsl⟩ : ∃ z, v = .int z ∧ z.natAbs ≤ 10 ^ 9 := by
        simp only [List.mem_cons, List.not_mem_nil, or_false] at hv
        rcases hv with e | e | e | e | e | e | e <;> exact ⟨_, e, by decide⟩
      have FA := (Frm.new nl).trans F1
      have hO1 := FA.lst PG hO
      have hb1 := FA.tup0 PG hb
      have kA := kp_frm FA PG
      -- the start
      have pa : Plc a := ⟨ma.1, by omega⟩
      refine ⟨_, rfl, _, rfl, _, rfl, o, _, _, _, rfl, rfl, .inl (.inl hO1), ati, b, r, a, rfl, hb1, cwWP ((hg.sm (by omega)).wd).1 pa.b1, ?_⟩
      refine ⟨_, rfl, _, rfl, _, rfl, p, _, rfl, P1, by omega, fun wz G2 w0 w1 P2 F2 => ⟨by show 7 ≤ sizeLine; decide, fun l2 nl2 => ?_⟩⟩
      refine ⟨p, l2, [.int 0, .int 0, .int 1, .int (-1), .int 2, .int 7, .int wz], _, rfl, .inl (.inl upd_same), by show 0 < 7; decide, by show 7 ≤ 1000; decide, P2.new nl2, by omega, fun v G3 hv2 P3 F3 => ?_⟩
      obtain ⟨ad, rfl, had⟩ : ∃ z, v = .int z ∧ z.natAbs ≤ 10 ^ 30 := by
        simp only [List.mem_cons, List.not_mem_nil, or_false] at hv2
        rcases hv2 with e | e | e | e | e | e | e
        · exact ⟨_, e, by decide⟩
        · exact ⟨_, e, by decide⟩
        · exact ⟨_, e, by decide⟩
        · exact ⟨_, e, by decide⟩
        · exact ⟨_, e, by decide⟩
        · exact ⟨_, e, by decide⟩
        · exact ⟨_, e, by omega⟩
      have FB := (FA.trans F2).trans ((Frm.new nl2).trans F3)
      have hO3 := FB.lst PG hO
      have hb3 := FB.tup0 PG hb
      have hF3 := FB.lst PG hF
      have kB := kp_frm FB PG
      have hR3 : All2 (RwT G3) fxs L := hR.imp fun _ _ h => h.kp kB
      have FG3 := FG.trans FB
      refine ⟨_, _, rfl, rfl, ?_⟩
      -- the line
      have vb : (lv r a).natAbs ≤ 10 ^ 39 + i * 10 ^ 41 := by
        unfold lv
        have h1 := abs_mul9 hg.1 pa
        have h2 := hg.2
        omega
      have mb := abs_mul9 hsl pa
      refine ⟨_, rfl, _, rfl, _, rfl, _, rfl, _, rfl, o, _, _, _, rfl, rfl, .inl (.inl hO3), ati, _, _, rfl, rfl, cwWP (Nat.lt_of_le_of_lt hsl (by decide)) pa.b1, _, _, rfl, rfl, by show 2 ≤ sizeLine; decide, fun t nt => ?_⟩
      have st := same_lay (o := .tup [.int sl, .int (lv r a + ad - sl * a)]) nt
      have g2 : Gw (i + 1) (sl, lv r a + ad - sl * a) := by
        refine ⟨hsl, ?_⟩
        have h1 : (lv r a + ad - sl * a).natAbs ≤ 10 ^ 39 + i * 10 ^ 41 + 10 ^ 30 + 10 ^ 39 := by omega
        have e1 : (10 : Nat) ^ 39 + 10 ^ 30 + 10 ^ 39 ≤ 10 ^ 41 := by decide
        show (lv r a + ad - sl * a).natAbs ≤ (i + 1) * 10 ^ 41
        rw [Nat.succ_mul]
        generalize (10 : Nat) ^ 41 = X at *
        generalize i * X = Y at *
        generalize (10 : Nat) ^ 39 = Z at *
        generalize (10 : Nat) ^ 30 = Z2 at *
        omega
      have ht : (upd G3 t (.tup [.int sl, .int (lv r a + ad - sl * a)])) t = some (.tup [.int sl, .int (lv r a + ad - sl * a)]) := upd_same
      have hO4 := st _ _ hO3
      have hb4' := st _ _ hb3
      have hF4 := st _ _ hF3
      have hR4 : All2 (RwT _) fxs L := hR3.imp fun _ _ h => h.kp (kp_same st)
      have P4' := P3.same' st
      have FG4 := FG3.trans (frmS st)
      show _
      generalize upd G3 t (.tup [.int sl, .int (lv r a + ad - sl * a)]) = G4 at ht hO4 hb4' hF4 hR4 P4' FG4
      -- which line
      refine ⟨_, rfl, _, rfl, _, rfl, _, rfl, _, rfl, by show 5 ≤ sizeLine; decide, fun l3 nl3 => ?_⟩
      refine ⟨p, l3, [.ref t, .ref t, .ref t, .ref b, .non], _, rfl, .inl (.inl upd_same), by show 0 < 5; decide, by show 5 ≤ 1000; decide, P4'.new nl3, by omega, fun v G5 hv3 P5 F5 => ?_⟩
      have FC := (Frm.new nl3).trans F5
      have hO5 := FC.lst P4' hO4
      have hb5 := FC.tup0 P4' hb4'
      have ht5 := FC.tup0 P4' ht
      have hF5 := FC.lst P4' hF4
      have kC := kp_frm FC P4'
      have hR5 : All2 (RwT G5) fxs L := hR4.imp fun _ _ h => h.kp kC
      have FG5 := FG4.trans FC
      clear hO4 hb4' ht hF4 hR4 hO3 hb3 hF3 hR3 hO1 hb1 hR hF hb hO
      obtain ⟨ln, hln, hsl2⟩ : ∃ ln : Option LnR, LnT G5 v ln ∧ ∀ r, ln = some r → Gw (i + 1) r := by
        simp only [List.mem_cons, List.not_mem_nil, or_false] at hv3
        rcases hv3 with e | e | e | e | e
        · exact ⟨some (sl, lv r a + ad - sl * a), ⟨t, e, ht5⟩, fun _ h => by cases h; exact g2⟩
        · exact ⟨some (sl, lv r a + ad - sl * a), ⟨t, e, ht5⟩, fun _ h => by cases h; exact g2⟩
        · exact ⟨some (sl, lv r a + ad - sl * a), ⟨t, e, ht5⟩, fun _ h => by cases h; exact g2⟩
        · exact ⟨some r, ⟨b, e, hb5⟩, fun _ h => by cases h; exact hg.up⟩
        · exact ⟨none, e, fun _ h => nomatch h⟩
      -- what goes on
      refine ⟨fun σ G' => ∃ (b2 : Addr) (r2 : LnR), σ = S b2 (some (.int (0 + (i : Int)))) s7 (some (.int e)) (some (.int sl)) (some (.int (lv r a + ad))) (some v) ∧ G' = G5 ∧ G5 b2 = some (.tup [.int r2.1, .int r2.2]) ∧ Gw (i + 1) r2, ?_, ?_⟩
      · refine ⟨_, rfl, _, rfl, ?_⟩
        cases ln with
        | none =>
          obtain rfl : v = .non := hln
          exact iteA (by simp) ⟨_, rfl, b, r, rfl, rfl, hb5, hg.up⟩
        | some r2 =>
          obtain ⟨y, rfl, hy⟩ := hln
          exact iteB (by simp) ⟨_, rfl, y, r2, rfl, rfl, hy, hsl2 r2 rfl⟩
      rintro σ G' ⟨b2, r2, rfl, rfl, hb6, hg6⟩
      refine ⟨_, rfl, .inl ⟨rfl, _, .inl (.inl hF5)⟩, _, rfl, _, rfl, o, _, _, _, rfl, rfl, .inl (.inl hO5), ati, _, rfl, _, rfl, by show 3 ≤ sizeLine; decide, fun tt nt2 => ?_⟩
      have s6' := same_lay (o := .tup [.int a, .int e, v]) nt2
      have lfx := hR5.length
      have hF6 := s6' _ _ hF5
      refine ⟨fo, _, _, rfl, rfl, hF6, small1000 (by omega), ?_⟩
      have kF := (kp_same s6').trans (kp_lst (u := .lst (fxs ++ [V.ref tt])) hF6)
      refine ⟨b2, _, _, _, _, _, _, rfl, L ++ [(a, e, ln)], fxs ++ [.ref tt], r2, ?_, upd_same, ?_, ?_, ?_, by rw [List.length_append, hl]; rfl, kF.tup hb6, hg6, ?_, ?_⟩
      · rw [upd_ne nof]; exact s6' _ _ hO5
      · exact (hR5.imp fun _ _ h => h.kp kF).append (.cons ⟨tt, v, rfl, (kp_lst hF6).tup upd_same, hln.kp kF⟩ .nil)
      · rw [ue]
        rw [ua] at hT
        exact hT.app ⟨rfl, ae, rfl⟩
      · intro q hq2
        rcases List.mem_append.mp hq2 with m | m
        · exact hq q m
        · rw [List.mem_singleton.mp m]
          exact ⟨pa, ⟨by simp only; omega, by simp only; omega⟩, fun r h => (hsl2 r h).hw (by omega)⟩
      · exact (hP.putNew (P5.same' s6') (FG5.trans (frmS s6')) nfc hF6).mono (by omega)
      · exact (FG5.trans (frmS s6')).putNew nfc hF6
    · rintro σ G ⟨b, s6, s7, s8, s9, s10, s11, rfl, L, fxs, r, hO, hF, hR, hT, hq, hl, hb, hg, PG, FG⟩
      rw [List.length_map, Int.toNat_natCast] at hT hl PG
      rw [upTo_end] at hT
      exact ⟨_, rfl, R fo fxs L G nfc hF hR hT hq (by omega) (PG.mono (by omega)) FG⟩
end
end OR

namespace OR
open PySem PySem.Spec PyProof.Rows L2
theorem Told.perm {n : Int} {T T' : Tld} (h : Told n T) (p : T'.Perm T) : Told n T' := ⟨(p.map _).nodup_iff.mpr h.nd, by rw [p.length_eq]; exact h.few, h.last, fun e he => h.ok e (p.mem_iff.mp he)⟩
theorem nodup_fst {α : Type} : ∀ {T : List (Str × α)} {e t : Str × α}, (T.map (·.1)).Nodup → e ∈ T → t ∈ T → e.1 = t.1 → e = t
  | [], _, _, _, h, _, _ => nomatch h
  | q :: T, e, t, nd, he, ht, eq => by
    rw [List.map_cons, List.nodup_cons] at nd
    rcases List.mem_cons.mp he with h1 | h1 <;> rcases List.mem_cons.mp ht with h2 | h2
    · rw [h1, h2]
    · exact absurd (List.mem_map.mpr ⟨t, h2, by rw [← eq, h1]⟩) nd.1
    · exact absurd (List.mem_map.mpr ⟨e, h1, by rw [eq, h2]⟩) nd.1
    · exact nodup_fst nd.2 h1 h2 eq
end OR

namespace OR
open PySem PySem.Spec PyProof.Rows L2
/-! ### one piece in the place of what pieces have there -/
def ahd (f : Int) (L : List Pce) : List Pce := (L.filter fun q => decide (q.1 < f)).map fun q => (q.1, if f - 1 < q.2.1 then f - 1 else q.2.1, q.2.2)
def bhd (e : Int) (L : List Pce) : List Pce := (L.filter fun q => decide (q.2.1 > e)).map fun q => (if e + 1 > q.1 then e + 1 else q.1, q.2.1, q.2.2)
def exch (f e : Int) (l : Option LnR) (L : List Pce) : List Pce := ahd f L ++ [(f, e, l)] ++ bhd e L
theorem outc_cons {q : Pce} {r : List Pce} {a b x : Int} (h : Til (q :: r) a b) (hx : a ≤ x) : outc (q :: r) x = if x ≤ q.2.1 then oV q.2.2 x else outc r x := by
  obtain ⟨h1, h2, h3⟩ := h
  show outc ([q] ++ r) x = _
  by_cases c : x ≤ q.2.1
  · rw [if_pos c, outc_left h3 (by omega), outc_one (by omega) c]
  · rw [if_neg c, outc_right (A := [q]) (a := a) (c := q.2.1 + 1) ⟨h1, h2, rfl⟩ (by omega)]
theorem ahd_nil {f : Int} : ∀ {L : List Pce} {a b : Int}, Til L a b → f ≤ a → ahd f L = []
  | [], _, _, _, _ => rfl
  | q :: r, a, b, ⟨h1, h2, h3⟩, hf => by
    have ih := ahd_nil h3 (by omega : f ≤ q.2.1 + 1)
    unfold ahd at ih ⊢
    rw [List.filter_cons_of_neg (by simp; omega)]
    exact ih
theorem ahd_ok {f : Int} : ∀ {L : List Pce} {a b : Int}, Til L a b → a ≤ f → f ≤ b → Til (ahd f L) a f ∧ ∀ x, a ≤ x → x < f → outc (ahd f L) x = outc L x
  | [], a, b, h, h0, h1 => by
    have e : a = b := h
    exact ⟨show a = f by omega, fun x h2 h3 => rfl⟩
  | q :: r, a, b, h, h0, h1 => by
    obtain ⟨e1, e2, e3⟩ := id h
    by_cases c : q.1 < f
    · have e : ahd f (q :: r) = (q.1, if f - 1 < q.2.1 then f - 1 else q.2.1, q.2.2) :: ahd f r := by
        unfold ahd
        rw [List.filter_cons_of_pos (by simpa using c)]
        rfl
      rw [e]
      by_cases c2 : f - 1 < q.2.1
      · rw [if_pos c2, ahd_nil e3 (by omega)]
        have t : Til [((q.1, f - 1, q.2.2) : Pce)] a f := ⟨e1, by simp only; omega, show f - 1 + 1 = f by omega⟩
        refine ⟨t, fun x h2 h3 => ?_⟩
        rw [outc_one (by simp only; omega) (by simp only; omega), outc_cons h h2, if_pos (by omega)]
      · rw [if_neg c2]
        obtain ⟨i1, i2⟩ := ahd_ok e3 (show q.2.1 + 1 ≤ f by omega) h1
        have t : Til (((q.1, q.2.1, q.2.2) : Pce) :: ahd f r) a f := ⟨e1, e2, i1⟩
        refine ⟨t, fun x h2 h3 => ?_⟩
        rw [outc_cons t h2, outc_cons h h2]
        simp only
        split
        · rfl
        · exact i2 x (by omega) h3
    · rw [ahd_nil h (by omega)]
      exact ⟨show a = f by omega, fun x h2 h3 => by omega⟩
theorem bhd_all {e : Int} : ∀ {L : List Pce} {a b : Int}, Til L a b → e < a → bhd e L = L
  | [], _, _, _, _ => rfl
  | q :: r, a, b, ⟨h1, h2, h3⟩, he => by
    have ih := bhd_all h3 (by omega : e < q.2.1 + 1)
    unfold bhd at ih ⊢
    rw [List.filter_cons_of_pos (by simp; omega), List.map_cons, ih, ]
    congr 1
    by_cases c : e + 1 > q.1
    · omega
    · rw [if_neg c]
theorem bhd_ok {e : Int} : ∀ {L : List Pce} {a b : Int}, Til L a b → a ≤ e + 1 → e < b → Til (bhd e L) (e + 1) b ∧ ∀ x, e < x → outc (bhd e L) x = outc L x
  | [], a, b, h, h0, h1 => by
    have e2 : a = b := h
    exact ⟨show e + 1 = b by omega, fun x _ => rfl⟩
  | q :: r, a, b, h, h0, h1 => by
    obtain ⟨e1, e2, e3⟩ := id h
    by_cases c : q.2.1 > e
    · have e4 : bhd e (q :: r) = (if e + 1 > q.1 then e + 1 else q.1, q.2.1, q.2.2) :: r := by
        have := bhd_all (e := e) e3 (by omega)
        unfold bhd at this ⊢
        rw [List.filter_cons_of_pos (by simpa using c), List.map_cons, this]
      have e5 : (if e + 1 > q.1 then e + 1 else q.1) = e + 1 := by split <;> omega
      rw [e4, e5]
      have t : Til (((e + 1, q.2.1, q.2.2) : Pce) :: r) (e + 1) b := ⟨rfl, by simp only; omega, e3⟩
      refine ⟨t, fun x hx => ?_⟩
      rw [outc_cons t (by omega), outc_cons h (by omega)]
    · have e4 : bhd e (q :: r) = bhd e r := by
        unfold bhd
        rw [List.filter_cons_of_neg (by simpa using c)]
      rw [e4]
      obtain ⟨i1, i2⟩ := bhd_ok (e := e) e3 (by omega) h1
      refine ⟨i1, fun x hx => ?_⟩
      rw [i2 x hx, outc_cons h (by omega), if_neg (by omega)]
theorem exch_ok {f e : Int} {l : Option LnR} {L : List Pce} {a b : Int} (h : Til L a b) (hf : a ≤ f) (hfe : f ≤ e) (he : e < b) :
    Til (exch f e l L) a b ∧ ∀ x, a ≤ x → outc (exch f e l L) x = if x < f then outc L x else if x ≤ e then oV l x else outc L x := by
  obtain ⟨a1, a2⟩ := ahd_ok (f := f) h hf (by omega)
  obtain ⟨b1, b2⟩ := bhd_ok (e := e) h (by omega) he
  have m : Til [((f, e, l) : Pce)] f (e + 1) := ⟨rfl, hfe, rfl⟩
  have am := a1.app m
  refine ⟨am.app b1, fun x hx => ?_⟩
  unfold exch
  by_cases c : x < f
  · rw [if_pos c, outc_left b1 (by omega), outc_left m c, a2 x hx c]
  · rw [if_neg c]
    by_cases c2 : x ≤ e
    · rw [if_pos c2, outc_left b1 (by omega), outc_right a1 (by omega), outc_one (by simp only; omega) c2]
    · rw [if_neg c2, outc_right am (by omega), b2 x (by omega)]
theorem exch_len (f e : Int) (l : Option LnR) (L : List Pce) : (exch f e l L).length ≤ 2 * L.length + 1 := by
  unfold exch ahd bhd
  rw [List.length_append, List.length_append, List.length_map, List.length_map]
  have h1 := List.length_filter_le (fun q : Pce => decide (q.1 < f)) L
  have h2 := List.length_filter_le (fun q : Pce => decide (q.2.1 > e)) L
  show _ + 1 + _ ≤ _
  omega
theorem exch_bq {f e : Int} {l : Option LnR} {L : List Pce} {a b : Int} (h : Til L a b) (hB : ∀ q ∈ L, Bq q) (hf : Plc f) (he : Plc e) (hl : Bq (f, e, l)) : ∀ q ∈ exch f e l L, Bq q := by
  intro z hz
  unfold exch at hz
  rcases List.mem_append.mp hz with m | m
  · rcases List.mem_append.mp m with m | m
    · obtain ⟨q, hq, rfl⟩ := List.mem_map.mp m
      obtain ⟨hq, c⟩ := List.mem_filter.mp hq
      have c : q.1 < f := by simpa using c
      have B := hB q hq
      refine ⟨B.p1, ?_, B.wd, fun r er x h1 h2 => B.vb r er x h1 ?_⟩
      · show Plc (if f - 1 < q.2.1 then f - 1 else q.2.1)
        split
        · exact ⟨by have := B.p1.1; omega, by have := hf.2; omega⟩
        · exact B.p2
      · have h2 : x ≤ (if f - 1 < q.2.1 then f - 1 else q.2.1) := h2
        split at h2 <;> omega
    · rw [List.mem_singleton.mp m]; exact hl
  · obtain ⟨q, hq, rfl⟩ := List.mem_map.mp m
    obtain ⟨hq, c⟩ := List.mem_filter.mp hq
    have c : q.2.1 > e := by simpa using c
    have B := hB q hq
    refine ⟨?_, B.p2, B.wd, fun r er x h1 h2 => B.vb r er x ?_ h2⟩
    · show Plc (if e + 1 > q.1 then e + 1 else q.1)
      split
      · exact ⟨by have := he.1; omega, by have := B.p2.2; omega⟩
      · exact B.p1
    · have h1 : (if e + 1 > q.1 then e + 1 else q.1) ≤ x := h1
      split at h1 <;> omega
end OR

namespace OR
open PySem PySem.Spec PyProof.Rows L2
/-! ### name = {..: .. for ..} on one line, the name a local -/
section
variable {X : Cx}
theorem ps_setDc {i : Nat} {y : Str} {py : Pos} {kx vx tg iter : Expr} {ifs : List Expr} {scope : Scope} {own : List (Str × Nat)} {pos spos : Pos} {wi : TI} {g : TG} {tt : TT} {tk tv : TE} (hc : X.calm = true) (hN : X.N.Nodup) (hy : X.N[i]? = some y) (hyl : X.env.scope.names.lookup y = some .local)
    (hsw : swapsWith (.DictComp kx vx [⟨tg, iter, ifs, 0⟩] scope pos) (some (.Name y py)) spos.line X.env = pure true) (hi : PI X tg iter wi) (ok : BlkOk X.N X.env.scope scope own)
    (hg : ∀ (s : Shared) (H : Hp) (C : Addr) (cl : List (Str × Addr)) (fp : List Addr), PG (X.blk s H scope (compEnvC scope cl C X.env) fp) tg g) (ht : ∀ (s : Shared) (H : Hp) (C : Addr) (cl : List (Str × Addr)) (fp : List Addr), PTs (X.blk s H scope (compEnvC scope cl C X.env) fp) ifs tt)
    (hk : ∀ (s : Shared) (H : Hp) (C : Addr) (cl : List (Str × Addr)) (fp : List Addr), PE (X.blk s H scope (compEnvC scope cl C X.env) fp) kx tk)
    (he : ∀ (s : Shared) (H : Hp) (C : Addr) (cl : List (Str × Addr)) (fp : List Addr), PE (X.blk s H scope (compEnvC scope cl C X.env) fp) vx tv) (hs : ∀ x, foldedSetIterable iter X.env x = pure x := by intro _; rfl) :
    PS X (.Assign [.Name y py] (.DictComp kx vx [⟨tg, iter, ifs, 0⟩] scope pos) spos) (tAsg (tDc wi g tt tk tv (own.map (·.2))) (gName i)) := by
  refine ⟨fun pins s σ H D I h => ?_⟩
  rw [exec_Assign_Name_used _ _ _ _ hsw]
  refine wpAny_bind (wpAny_standAt (wpAny_bind ?_))
  show wpAny _ X.A (do let _ ← comprehension (.DictComp kx vx [⟨tg, iter, ifs, 0⟩] scope pos) scope X.env (firstIterPos [⟨tg, iter, ifs, 0⟩] pos) newDict false (eval iter X.env) (some (assign (.Name y py) X.env))) _ _ s
  have h : tDc wi g tt tk tv (own.map (·.2)) σ H (fun x H1 => gName i x σ H1 D.nx) := h
  refine wpAny_bind (thn (dc_core (Qf := fun _ s' => SP X pins D .next s') hc hN I hi ok hg ht hk he hs h fun L C s' m H' I' q hn f => ?_) fun _ s' hq => wpAny_pure (wpAny_pure hq))
  show wpAny _ _ (assign (.Name y py) X.env (.ref L)) _ _ _
  refine wpAny_assign_Name (store_ok2 (v := V.ref L) I' hN hy (.inl hyl) rfl (fun s2 I2 ⟨a, sb, ha⟩ => ?_) (.inr hyl))
  obtain ⟨f0, f1, f2, f3, f4, f5⟩ := f
  have haC : C ≠ a := by
    rcases ha with z | z
    · rw [z]; exact f1
    · exact fun e => f4 y a z e.symm
  exact ⟨m, hn.sameBut sb haC, fun h3 sb3 => ⟨_, H', I2.turned (t' := s2.toks) (fun b o hb e => (sb3.2 b hb).trans e) f0 f1 f3 f4 f5, q⟩⟩
end
theorem swd_true {kx vx : Expr} {gs : List Comprehension} {scope : Scope} {pos py : Pos} {y : Str} {l : Nat} {env : Env} (hk : env.scope.kind = .function) (hy : env.scope.names.lookup y = some .local) (hl : (py.line == pos.line) = true)
    (ha : (scope.names.any fun (n, k) => n == y && (k == .local || k == .cell)) = false) : swapsWith (.DictComp kx vx gs scope pos) (some (.Name y py)) l env = pure true := by
  have ky : env.kindOf y = some .local := hy
  have hb : env.blockKind = .function := by unfold Env.blockKind; rw [hk]; rfl
  unfold swapsWith
  simp only [hb, ky, ha, Expr.pos, hl]
  rfl
theorem pe_fldK {X : Cx} {e : Expr} {f : Str} {pos : Pos} {ta : TE} (K : PySem.W.Frag) (hK : X.K = K) (he : PE X e ta) (hb : attributeBase e f X.env (eval e X.env) = eval e X.env) : PE X (.Attribute e f pos) (tFld K ta f) := by
  subst hK
  exact pe_fld he hb
end OR

namespace OR
open PySem PySem.Spec PyProof.Rows L2
def spPieces (CG CL CF : Addr) : Sp := fun vs H Q E => ∃ (x : Addr) (s : Str) (n : Int) (T : Tld), vs = [.ref x, .str s] ∧ IsG CG CL H x n (oneT T) ∧ (T.map (·.1)).Nodup ∧ (s ∉ T.map (·.1) → Raised E CF "function" (.str s) H) ∧
  (∀ e ∈ T, e.1 = s → ∀ b ys H', H b = none → H' b = some (.lst ys) → All2 (PcT CL H') ys (oneF e.2) → Same H H' → Q (.ref b) H')
section
variable {P : Program} {w : World} {K : PySem.W.Frag} {mg : Str → Option Value} {base : Heap} {CL CG : Addr}
def rListA (K : PySem.W.Frag) : List V → Hp → VK → Prop := fun xs H Q => ∃ p ys, xs = [V.ref p] ∧ (SqL K H p ys ∨ SqT K H p ys) ∧ ∀ l, H l = none → Q (.ref l) (upd H l (.lst ys))
theorem call_listA {X : Cx} (K : PySem.W.Frag) (hK : X.K = K) : CallR X (.type "list") (rListA K) := by subst hK; exact call_list_of
theorem scPieces : FnScope ["self", "function"] ["self", "function"] (defScope sProgramPieces) := ⟨rfl, rfl, rfl, by decide +kernel, rfl, by decide +kernel, by decide +kernel⟩
theorem ok_pieces {f CF : Addr} {fd : FuncData} (F : Fun K "pieces" "Program.pieces" sProgramPieces f fd) (N : NTxt mg) (GT : GTxt K mg CG) (CK : MtX P w K mg base 3 CG "_check_functions" ["self", "functions"] (spChkFns CG CL CF)) :
    FnOk P w K mg base (L2.CX P w) 4 f fd ["self", "function"] (spPieces CG CL CF) := by
  refine F.okX scPieces (fun vs H Q E h => ?_) (fun cdv A outer s H vs Q E hr h => ?_)
  · obtain ⟨x, sx, n, T, rfl, _⟩ := h
    rfl
  · obtain ⟨x, sx, n, T, rfl, hG, hnd, q1, q2⟩ := h
    have nd := scPieces.nd
    have hu := hu_of hr
    refine ⟨_, pss_cons (ps_expr (pe_mtX CK GT.cl hr (by decide) (takes_of rfl rfl rfl rfl) (pv 0) (pa_cons (pe_tup (pa_cons (pv 1) pa_nil)) pa_nil)))
      (pss_one (ps_ret (pe_callTy (call_listA K rfl) (by rfl) N.zList bt_list (pa_cons (pe_dget hu (pe_fld (pv 0) rfl) (pv 1) (fun _ _ => rfl)) pa_nil)))), ?_⟩
    obtain ⟨dx, fa, ta, kv, h1, _⟩ := id hG
    refine ⟨_, rfl, x, dx, _, rfl, h1, gFl_no _ _ _ kCk.1 kCk.2.1 kCk.2.2, _, rfl, by show 1 ≤ sizeLine; decide, fun t nt => ?_⟩
    have s1 := same_lay (o := .tup [.str sx]) nt
    have hG1 := hG.same s1
    refine ⟨x, t, n, oneT T, sx, rfl, hG1, upd_same, fun hs => ?_, fun hs => ?_⟩
    · rw [oneT_fst] at hs
      generalize upd H t (.tup [.str sx]) = G at s1 hG1
      obtain ⟨dx, fa, ta, kv, h1, h2, h3, h4⟩ := id hG1
      obtain ⟨e0, me0, ee0⟩ := List.mem_map.mp hs
      obtain ⟨e', m', hE, hval⟩ := val_ent (fun _ _ h => h.1) h4 (by rw [oneT_fst]; exact hnd) (List.mem_map.mpr ⟨e0, me0, rfl⟩ : (e0.1, oneF e0.2) ∈ oneT T)
      obtain ⟨_, tp, ys, e2, htp, hY⟩ := hE
      have hval : valV kv (.inr sx) = some (.ref tp) := by rw [← ee0, ← e2]; exact hval
      refine ⟨_, rfl, x, CG, dx, _, _, rfl, h1, GT.cl, GT.nT, gFl_t _ _ _, _, rfl, ta, _, rfl, dg h3 hval, tp, ys, rfl, .inr (.inl (.inl htp)), fun b nb => ?_⟩
      have s2 := same_lay (o := .lst ys) nb
      exact q2 e0 me0 ee0 b ys _ (s1.free nb) upd_same (hY.imp fun _ _ h => h.same s2) (s1.trans s2)
    · rw [oneT_fst] at hs
      exact (q1 hs).up s1
end
end OR

namespace OR
open PySem PySem.Spec PyProof.Rows L2
open PySem.SeqAt
open AutoSeq1 (wpAny_loadPart')
open MeetsSeq MeetsSeq2 MeetsSeq3 SeqRoads2
abbrev Rep (α : Type) := Hp → V → α → Prop
/-- the same of the comparison itself; neg: of != -/
def RcR {α : Type} [DecidableEq α] (X : Cx) (n : Nat) (neg : Bool) (Rp : Rep α) : Prop :=
  ∀ (A : Around) (pins : List (Addr × Obj)) (s : Shared) (σ : L2.St) (H : Hp) (x y : V) (u v : Value) (a b : α), Sub X n A → Inv X pins σ H s → RelV x u → RelV y v → Rp H x a → Rp H y b →
    wpAny (model X.prog X.w) A (richCompare (if neg then .NotEq else .Eq) u v) (fun r t => r = .bool (xor neg (decide (a = b))) ∧ ∃ H', Inv X pins σ H' t ∧ Ext H H') X.xe s
section
variable {α : Type} [DecidableEq α] {X : Cx} {n : Nat} {Rp : Rep α}
/-- x == y, x != y as expressions -/
def rCmpR (neg : Bool) (Rp : Rep α) : R2 := fun x y H Q => ∃ a b, Rp H x a ∧ Rp H y b ∧ ∀ H', Ext H H' → Q (.bl (xor neg (decide (a = b)))) H'
theorem op_eqR (h : RcR X n false Rp) (hr : Room n X.A) : OpR X (compareOp .Eq) (rCmpR false Rp) := by
  intro pins s σ H x y v u Q I rx ry ⟨a, b, ha, hb, q⟩
  show wpAny (model X.prog X.w) X.A (richCompare .Eq v u) (EP X pins σ Q) X.xe s
  refine wpAny_mono (h X.A pins s σ H x y v u a b ⟨hr, rfl⟩ I rx ry ha hb) (fun r t z => ?_) fun _ _ x => x
  obtain ⟨er, H', I', e⟩ := z
  subst er
  exact ⟨.bl _, H', I', rfl, q H' e⟩
theorem op_neR (h : RcR X n true Rp) (hr : Room n X.A) : OpR X (compareOp .NotEq) (rCmpR true Rp) := by
  intro pins s σ H x y v u Q I rx ry ⟨a, b, ha, hb, q⟩
  show wpAny (model X.prog X.w) X.A (richCompare .NotEq v u) (EP X pins σ Q) X.xe s
  refine wpAny_mono (h X.A pins s σ H x y v u a b ⟨hr, rfl⟩ I rx ry ha hb) (fun r t z => ?_) fun _ _ x => x
  obtain ⟨er, H', I', e⟩ := z
  subst er
  exact ⟨.bl _, H', I', rfl, q H' e⟩
end
/-- == inside lists and tuples gives whether the models are equal, and only makes objects -/
def EqR {α : Type} [DecidableEq α] (X : Cx) (n : Nat) (Rp : Rep α) : Prop :=
  ∀ (A : Around) (pins : List (Addr × Obj)) (s : Shared) (σ : L2.St) (H : Hp) (x y : V) (u v : Value) (a b : α), Sub X n A → Inv X pins σ H s → RelV x u → RelV y v → Rp H x a → Rp H y b →
    wpAny (model X.prog X.w) A (eqBool u v) (fun r t => r = decide (a = b) ∧ ∃ H', Inv X pins σ H' t ∧ Ext H H') X.xe s
section
variable {α : Type} [DecidableEq α] {X : Cx} {n : Nat} {Rp : Rep α}
/-- what the loop over the items keeps, and what is left behind two items that differ -/
def KeepI (X : Cx) (pins : List (Addr × Obj)) (σ : L2.St) (H : Hp) (L M : List α) (i : Nat) (t : Shared) : Prop := (∃ H', Inv X pins σ H' t ∧ Ext H H') ∧ L.take i = M.take i
end
def LRep {α : Type} (Rp : Rep α) : Rep (List α) := fun H x L => ∃ a xs, x = .ref a ∧ H a = some (.lst xs) ∧ All2 (Rp H) xs L
structure MonR {α : Type} (Rp : Rep α) : Prop where
  up : ∀ {H H' : Hp} {x : V} {a : α}, Ext H H' → Rp H x a → Rp H' x a
  fn : ∀ {H : Hp} {x : V} {a b : α}, Rp H x a → Rp H x b → a = b
section
variable {α : Type} [DecidableEq α] {X : Cx} {n : Nat} {Rp : Rep α}
theorem len_ne {xs ys : List V} {H : Hp} {L M : List α} (pa : All2 (Rp H) xs L) (pb : All2 (Rp H) ys M) (hz : xs.length ≠ ys.length) : L ≠ M := fun e => hz (by rw [pa.length, pb.length, e])
end
section
variable {prog : Program} {w : World} {A : Around} {R : Result → Shared → Prop}
theorem listLen_eq (l b : Addr) (xs ys : Array Value) (n1 n2 : Nat) (hz : (xs.size != ys.size) = true) {s : Shared} (ga : s.heap.get? l = some { cls := .type "list", data := .seq xs n1 }) (gb : s.heap.get? b = some { cls := .type "list", data := .seq ys n2 }) (no : R (.ok (.ret (.bool false))) s) :
    wpAny (model prog w) A.in1 (Builtin.«list.__eq__» ⟨[.ref l, .ref b], []⟩) (GQ.FinOf prog w A R) (fun e t => R (.error e) t) s := by
  obtain ⟨hp, g, d, tk, os⟩ := s
  have f3 := AutoSeq1.sub_list_list
  wp_walk using wpAny_loadPart' ga, wpAny_loadPart' gb
  exact no
theorem listLen_ne (l b : Addr) (xs ys : Array Value) (n1 n2 : Nat) (hz : (xs.size != ys.size) = true) {s : Shared} (ga : s.heap.get? l = some { cls := .type "list", data := .seq xs n1 }) (gb : s.heap.get? b = some { cls := .type "list", data := .seq ys n2 }) (no : R (.ok (.ret (.bool true))) s) :
    wpAny (model prog w) A.in1 (Builtin.«list.__ne__» ⟨[.ref l, .ref b], []⟩) (GQ.FinOf prog w A R) (fun e t => R (.error e) t) s := by
  obtain ⟨hp, g, d, tk, os⟩ := s
  have f3 := AutoSeq1.sub_list_list
  wp_walk using wpAny_loadPart' ga, wpAny_loadPart' gb
  exact no
/-- what stands at two lists of N items each; J: behind two items that are not equal -/
structure TwoL (l b : Addr) (N : Nat) (s : Shared) (xs ys : Array Value) : Prop where
  ga : ∃ n, s.heap.get? l = some { cls := .type "list", data := .seq xs n }
  gb : ∃ n, s.heap.get? b = some { cls := .type "list", data := .seq ys n }
  za : xs.size = N
  zb : ys.size = N
structure Loop (prog : Program) (w : World) (A : Around) (E : Value → Shared → Prop) (l b : Addr) (N : Nat) (I : Nat → Shared → Prop) (J : Shared → Prop) : Prop where
  at_ : ∀ i s, I i s → ∃ xs ys, TwoL l b N s xs ys ∧ ∀ (h1 : i < xs.size) (h2 : i < ys.size),
    wpAny (model prog w) A.in1 (eqBool xs[i] ys[i]) (fun r t => (r = true ∧ I (i + 1) t) ∨ (r = false ∧ J t)) E s
  no : ∀ t, J t → ∃ xs ys, TwoL l b N t xs ys
theorem loop_eq (l b : Addr) (N : Nat) (I : Nat → Shared → Prop) (J : Shared → Prop) (hl : Loop prog w A (fun e t => R (.error e) t) l b N I J)
    (yes : ∀ t, I N t → R (.ok (.ret (.bool true))) t) (no : ∀ t, J t → R (.ok (.ret (.bool false))) t) (k : Nat) :
    ∀ i : Nat, N - i = k → i ≤ N → ∀ s, I i s →
      wpAny (model prog w) A.in1 (Builtin.«list.__eq__.loop» ⟨[.ref l, .ref b, rawInt i, rawInt 2], []⟩) (GQ.FinOf prog w A R) (fun e t => R (.error e) t) s := by
  induction k with
  | zero =>
    intro i hk hi s h
    obtain ⟨xs, ys, ⟨⟨n1, ga⟩, ⟨n2, gb⟩, za, zb⟩, _⟩ := hl.at_ _ _ h
    obtain rfl : i = N := by omega
    have hR := yes s h
    obtain ⟨hp, g, d, tk, os⟩ := s
    wp_walk using wpAny_loadPart' ga, wpAny_loadPart' gb
    have o1 : xs[((i : Nat) : Int).toNat]? = none := by simp; omega
    have o2 : ys[((i : Nat) : Int).toNat]? = none := by simp; omega
    rw [o1, o2]
    wp_walk using wpAny_loadPart' ga, wpAny_loadPart' gb
    show R (.ok (.ret (.bool (xs.size == ys.size)))) _
    rw [za, zb]
    simpa using hR
  | succ k ih =>
    intro i hk hi s h
    obtain ⟨xs, ys, ⟨⟨n1, ga⟩, ⟨n2, gb⟩, za, zb⟩, turn⟩ := hl.at_ _ _ h
    have i1 : i < xs.size := by omega
    have i2 : i < ys.size := by omega
    have ht := turn i1 i2
    obtain ⟨hp, g, d, tk, os⟩ := s
    wp_walk using wpAny_loadPart' ga, wpAny_loadPart' gb
    have o1 : xs[((i : Nat) : Int).toNat]? = some xs[i] := by simp [i1]
    have o2 : ys[((i : Nat) : Int).toNat]? = some ys[i] := by simp [i2]
    have hc : ((i : Int) + 1) = ((i + 1 : Nat) : Int) := by omega
    rw [o1, o2]
    refine wpAny_bind (wpAny_mono ht (fun r t h2 => ?_) fun _ _ x => x)
    rcases h2 with ⟨rfl, h2⟩ | ⟨rfl, h2⟩
    · have hrec := ih (i + 1) (by omega) (by omega) t h2
      obtain ⟨hp2, g2, d2, tk2, os2⟩ := t
      wp_walk
      rw [hc]
      exact ⟨plainId_quiet plain_eq_loop _, codeAny_builtin entry_eq_loop (by
        rw [Around.under_plainId plain_eq_loop _]; exact hrec)⟩
    · obtain ⟨us, vs, ⟨⟨m1, ha⟩, ⟨m2, hb⟩, ya, yb⟩⟩ := hl.no _ h2
      have hR := no _ h2
      have p1 : i < us.size := by omega
      have p2 : i < vs.size := by omega
      have q1 : us[((i : Nat) : Int).toNat]? = some us[i] := by simp [p1]
      have q2 : vs[((i : Nat) : Int).toNat]? = some vs[i] := by simp [p2]
      obtain ⟨hp2, g2, d2, tk2, os2⟩ := t
      wp_walk using wpAny_loadPart' ha, wpAny_loadPart' hb
      rw [q1, q2]
      wp_walk
      simpa using hR
theorem list_eq (l b : Addr) (N : Nat) (I : Nat → Shared → Prop) (J : Shared → Prop) (hl : Loop prog w A (fun e t => R (.error e) t) l b N I J)
    (yes : ∀ t, I N t → R (.ok (.ret (.bool true))) t) (no : ∀ t, J t → R (.ok (.ret (.bool false))) t) {s : Shared} (h : I 0 s) :
    wpAny (model prog w) A.in1 (Builtin.«list.__eq__» ⟨[.ref l, .ref b], []⟩) (GQ.FinOf prog w A R) (fun e t => R (.error e) t) s := by
  obtain ⟨xs, ys, ⟨⟨n1, ga⟩, ⟨n2, gb⟩, za, zb⟩, _⟩ := hl.at_ _ _ h
  have hrec := loop_eq (A := A) (R := R) l b N I J hl yes no _ 0 rfl (Nat.zero_le _) s h
  obtain ⟨hp, g, d, tk, os⟩ := s
  have f3 := AutoSeq1.sub_list_list
  have hz : ¬ (xs.size != ys.size) = true := by simp [za, zb]
  wp_walk using wpAny_loadPart' ga, wpAny_loadPart' gb
  exact ⟨plainId_quiet plain_eq_loop _, codeAny_builtin entry_eq_loop (by
    rw [Around.under_plainId plain_eq_loop _]; exact hrec)⟩
theorem loop_ne (l b : Addr) (N : Nat) (I : Nat → Shared → Prop) (J : Shared → Prop) (hl : Loop prog w A (fun e t => R (.error e) t) l b N I J)
    (yes : ∀ t, I N t → R (.ok (.ret (.bool false))) t) (no : ∀ t, J t → R (.ok (.ret (.bool true))) t) (k : Nat) :
    ∀ i : Nat, N - i = k → i ≤ N → ∀ s, I i s →
      wpAny (model prog w) A.in1 (Builtin.«list.__eq__.loop» ⟨[.ref l, .ref b, rawInt i, rawInt 3], []⟩) (GQ.FinOf prog w A R) (fun e t => R (.error e) t) s := by
  induction k with
  | zero =>
    intro i hk hi s h
    obtain ⟨xs, ys, ⟨⟨n1, ga⟩, ⟨n2, gb⟩, za, zb⟩, _⟩ := hl.at_ _ _ h
    obtain rfl : i = N := by omega
    have hR := yes s h
    obtain ⟨hp, g, d, tk, os⟩ := s
    wp_walk using wpAny_loadPart' ga, wpAny_loadPart' gb
    have o1 : xs[((i : Nat) : Int).toNat]? = none := by simp; omega
    have o2 : ys[((i : Nat) : Int).toNat]? = none := by simp; omega
    rw [o1, o2]
    wp_walk using wpAny_loadPart' ga, wpAny_loadPart' gb
    show R (.ok (.ret (.bool (xs.size != ys.size)))) _
    rw [za, zb]
    simpa using hR
  | succ k ih =>
    intro i hk hi s h
    obtain ⟨xs, ys, ⟨⟨n1, ga⟩, ⟨n2, gb⟩, za, zb⟩, turn⟩ := hl.at_ _ _ h
    have i1 : i < xs.size := by omega
    have i2 : i < ys.size := by omega
    have ht := turn i1 i2
    obtain ⟨hp, g, d, tk, os⟩ := s
    wp_walk using wpAny_loadPart' ga, wpAny_loadPart' gb
    have o1 : xs[((i : Nat) : Int).toNat]? = some xs[i] := by simp [i1]
    have o2 : ys[((i : Nat) : Int).toNat]? = some ys[i] := by simp [i2]
    have hc : ((i : Int) + 1) = ((i + 1 : Nat) : Int) := by omega
    rw [o1, o2]
    refine wpAny_bind (wpAny_mono ht (fun r t h2 => ?_) fun _ _ x => x)
    rcases h2 with ⟨rfl, h2⟩ | ⟨rfl, h2⟩
    · have hrec := ih (i + 1) (by omega) (by omega) t h2
      obtain ⟨hp2, g2, d2, tk2, os2⟩ := t
      wp_walk
      rw [hc]
      exact ⟨plainId_quiet plain_eq_loop _, codeAny_builtin entry_eq_loop (by
        rw [Around.under_plainId plain_eq_loop _]; exact hrec)⟩
    · obtain ⟨us, vs, ⟨⟨m1, ha⟩, ⟨m2, hb⟩, ya, yb⟩⟩ := hl.no _ h2
      have hR := no _ h2
      have p1 : i < us.size := by omega
      have p2 : i < vs.size := by omega
      have q1 : us[((i : Nat) : Int).toNat]? = some us[i] := by simp [p1]
      have q2 : vs[((i : Nat) : Int).toNat]? = some vs[i] := by simp [p2]
      obtain ⟨hp2, g2, d2, tk2, os2⟩ := t
      wp_walk using wpAny_loadPart' ha, wpAny_loadPart' hb
      rw [q1, q2]
      wp_walk
      simpa using hR
theorem list_ne (l b : Addr) (N : Nat) (I : Nat → Shared → Prop) (J : Shared → Prop) (hl : Loop prog w A (fun e t => R (.error e) t) l b N I J)
    (yes : ∀ t, I N t → R (.ok (.ret (.bool false))) t) (no : ∀ t, J t → R (.ok (.ret (.bool true))) t) {s : Shared} (h : I 0 s) :
    wpAny (model prog w) A.in1 (Builtin.«list.__ne__» ⟨[.ref l, .ref b], []⟩) (GQ.FinOf prog w A R) (fun e t => R (.error e) t) s := by
  obtain ⟨xs, ys, ⟨⟨n1, ga⟩, ⟨n2, gb⟩, za, zb⟩, _⟩ := hl.at_ _ _ h
  have hrec := loop_ne (A := A) (R := R) l b N I J hl yes no _ 0 rfl (Nat.zero_le _) s h
  obtain ⟨hp, g, d, tk, os⟩ := s
  have f3 := AutoSeq1.sub_list_list
  have hz : ¬ (xs.size != ys.size) = true := by simp [za, zb]
  wp_walk using wpAny_loadPart' ga, wpAny_loadPart' gb
  exact ⟨plainId_quiet plain_eq_loop _, codeAny_builtin entry_eq_loop (by
    rw [Around.under_plainId plain_eq_loop _]; exact hrec)⟩
end
section
variable {α : Type} [DecidableEq α] {X : Cx} {n : Nat} {Rp : Rep α}
def GoneJ (X : Cx) (pins : List (Addr × Obj)) (σ : L2.St) (H : Hp) (L M : List α) (t : Shared) : Prop := (∃ H', Inv X pins σ H' t ∧ Ext H H') ∧ L ≠ M
end
theorem ne_at {α : Type} {L M : List α} {i : Nat} {a b : α} (ha : L[i]? = some a) (hb : M[i]? = some b) (h : a ≠ b) : L ≠ M := fun e => h (by
  subst e
  rw [ha] at hb
  exact Option.some.inj hb)
theorem takes_step {α : Type} {L M : List α} {i : Nat} {a b : α} (ha : L[i]? = some a) (hb : M[i]? = some b) (h : L.take i = M.take i) (e : a = b) : L.take (i + 1) = M.take (i + 1) := by
  rw [List.take_add_one, List.take_add_one, h, ha, hb, e]
section
variable {α : Type} [DecidableEq α] {X : Cx} {n : Nat} {Rp : Rep α}
theorem step_items (m : MonR Rp) (h : EqR X n Rp) {A : Around} (sb : Sub X (n + 1) A) {pins : List (Addr × Obj)} {σ : L2.St} {H : Hp} {xs ys : List V} {L M : List α} {us vs : List Value} (pa : All2 (Rp H) xs L) (pb : All2 (Rp H) ys M) (r1 : Vals xs us) (r2 : Vals ys vs)
    (i : Nat) (h1 : i < us.toArray.size) (h2 : i < vs.toArray.size) (t : Shared) (k : KeepI X pins σ H L M i t) :
    wpAny (model X.prog X.w) A.in1 (eqBool us.toArray[i] vs.toArray[i]) (fun r t2 => (r = true ∧ KeepI X pins σ H L M (i + 1) t2) ∨ (r = false ∧ GoneJ X pins σ H L M t2)) X.xe t := by
  obtain ⟨⟨H1, I1, e1⟩, k⟩ := k
  have b1 : i < us.length := by simpa using h1
  have b2 : i < vs.length := by simpa using h2
  have g1 : us[i]? = some us.toArray[i] := by rw [List.getElem?_eq_getElem b1] <;> simp
  have g2 : vs[i]? = some vs.toArray[i] := by rw [List.getElem?_eq_getElem b2] <;> simp
  have c1 : i < xs.length := by rw [r1.length]; exact b1
  have c2 : i < ys.length := by rw [r2.length]; exact b2
  obtain ⟨u, hu, ru⟩ := r1.get (List.getElem?_eq_getElem c1)
  obtain ⟨v, hv, rv⟩ := r2.get (List.getElem?_eq_getElem c2)
  obtain ⟨a, ha, qa⟩ := pa.getL (List.getElem?_eq_getElem c1)
  obtain ⟨b, hb, qb⟩ := pb.getL (List.getElem?_eq_getElem c2)
  rw [g1] at hu
  rw [g2] at hv
  rw [Option.some.inj hu, Option.some.inj hv]
  refine wpAny_mono (h A.in1 pins t σ H1 _ _ u v a b sb.in1 I1 ru rv (m.up e1 qa) (m.up e1 qb)) (fun r t2 q => ?_) fun _ _ x => x
  obtain ⟨hr, H2, I2, e2⟩ := q
  by_cases e : a = b
  · exact .inl ⟨by rw [hr]; exact decide_eq_true e, ⟨H2, I2, e1.trans e2⟩, takes_step ha hb k e⟩
  · exact .inr ⟨by rw [hr]; exact decide_eq_false e, ⟨H2, I2, e1.trans e2⟩, ne_at ha hb e⟩
theorem two_lists {pins : List (Addr × Obj)} {σ : L2.St} {H H1 : Hp} {t : Shared} {a b : Addr} {xs ys : List V} (I : Inv X pins σ H1 t) (e : Ext H H1) (ha : H a = some (.lst xs)) (hb : H b = some (.lst ys)) (hz : xs.length = ys.length) :
    ∃ us vs, TwoL a b xs.length t us.toArray vs.toArray ∧ Vals xs us ∧ Vals ys vs := by
  obtain ⟨z, us, k, r, g⟩ := I.hok a _ (e _ _ ha)
  obtain ⟨z2, vs, k2, r2, g2⟩ := I.hok b _ (e _ _ hb)
  exact ⟨us, vs, ⟨⟨k, g⟩, ⟨k2, g2⟩, by rw [List.size_toArray, ← r.length], by rw [List.size_toArray, ← r2.length, ← hz]⟩, r, r2⟩
theorem loopI (m : MonR Rp) (h : EqR X n Rp) {A : Around} (sb : Sub X (n + 1) A) {pins : List (Addr × Obj)} {σ : L2.St} {H : Hp} {a b : Addr} {xs ys : List V} {L M : List α} (ha : H a = some (.lst xs)) (hb : H b = some (.lst ys)) (pa : All2 (Rp H) xs L) (pb : All2 (Rp H) ys M) (hz : xs.length = ys.length) :
    Loop X.prog X.w A X.xe a b xs.length (KeepI X pins σ H L M) (GoneJ X pins σ H L M) := by
  refine ⟨fun i t k => ?_, fun t k => ?_⟩
  · obtain ⟨H1, I1, e1⟩ := id k.1
    obtain ⟨us, vs, tw, r, r2⟩ := two_lists I1 e1 ha hb hz
    exact ⟨_, _, tw, fun h1 h2 => step_items m h sb pa pb r r2 i h1 h2 t k⟩
  · obtain ⟨H1, I1, e1⟩ := id k.1
    obtain ⟨us, vs, tw, _, _⟩ := two_lists I1 e1 ha hb hz
    exact ⟨_, _, tw⟩
theorem take_all {L M : List α} {xs ys : List V} {H : Hp} (pa : All2 (Rp H) xs L) (pb : All2 (Rp H) ys M) (hz : xs.length = ys.length) (h : L.take xs.length = M.take xs.length) : L = M := by
  rw [List.take_of_length_le (by rw [pa.length]; exact Nat.le_refl _), List.take_of_length_le (by rw [hz, pb.length]; exact Nat.le_refl _)] at h
  exact h
theorem rcR_list (m : MonR Rp) (h : EqR X n Rp) (neg : Bool) : RcR X (n + 1) neg (LRep Rp) := by
  intro A pins s σ H x y u v L M sb I rx ry ⟨a, xs, ex, ha, pa⟩ ⟨b, ys, ey, hb, pb⟩
  subst ex ey
  obtain rfl : u = Value.ref a := rx
  obtain rfl : v = Value.ref b := ry
  obtain ⟨z, us, k, r, g⟩ := I.hok a _ ha
  obtain ⟨z2, vs, k2, r2, g2⟩ := I.hok b _ hb
  have here : ∃ H', Inv X pins σ H' s ∧ Ext H H' := ⟨H, I, Ext.rfl'⟩
  by_cases hz : xs.length = ys.length
  · have lo := loopI (pins := pins) (σ := σ) m h sb ha hb pa pb hz
    have st : KeepI X pins σ H L M 0 s := ⟨here, by rw [List.take_zero, List.take_zero]⟩
    cases neg with
    | false =>
      refine wpAny_richCompare_same_room (op := .Eq) ⟨_, g, rfl⟩ ⟨_, g2, rfl⟩ F.slot_list_eq (GQ.call_here F.slot_list_eq ⟨_, g, rfl⟩ F.entry_list_eq (F.args_list_eq_2 _ _) ?_) sb.room.units0
      refine list_eq (R := wants (fun v s' => v ≠ .notImplemented ∧ _) X.xe) a b xs.length _ _ lo (fun t k => ⟨(fun x => nomatch x), ?_, k.1⟩) (fun t k => ⟨(fun x => nomatch x), ?_, k.1⟩) st
      · rw [decide_eq_true (take_all pa pb hz k.2)]; simp
      · rw [decide_eq_false k.2]; rfl
    | true =>
      refine wpAny_richCompare_same_room (op := .NotEq) ⟨_, g, rfl⟩ ⟨_, g2, rfl⟩ F.slot_list_ne (GQ.call_here F.slot_list_ne ⟨_, g, rfl⟩ F.entry_list_ne (F.args_list_ne_2 _ _) ?_) sb.room.units0
      refine list_ne (R := wants (fun v s' => v ≠ .notImplemented ∧ _) X.xe) a b xs.length _ _ lo (fun t k => ⟨(fun x => nomatch x), ?_, k.1⟩) (fun t k => ⟨(fun x => nomatch x), ?_, k.1⟩) st
      · rw [decide_eq_true (take_all pa pb hz k.2)]; simp
      · rw [decide_eq_false k.2]; rfl
  · have sz : (us.toArray.size != vs.toArray.size) = true := by
      rw [List.size_toArray, List.size_toArray, ← r.length, ← r2.length]
      exact bne_iff_ne.mpr hz
    have d := decide_eq_false (len_ne pa pb hz)
    cases neg with
    | false =>
      refine wpAny_richCompare_same_room (op := .Eq) ⟨_, g, rfl⟩ ⟨_, g2, rfl⟩ F.slot_list_eq (GQ.call_here F.slot_list_eq ⟨_, g, rfl⟩ F.entry_list_eq (F.args_list_eq_2 _ _) ?_) sb.room.units0
      refine listLen_eq (R := wants (fun v s' => v ≠ .notImplemented ∧ _) X.xe) a b _ _ _ _ sz g g2 ⟨(fun x => nomatch x), ?_, here⟩
      rw [d]; rfl
    | true =>
      refine wpAny_richCompare_same_room (op := .NotEq) ⟨_, g, rfl⟩ ⟨_, g2, rfl⟩ F.slot_list_ne (GQ.call_here F.slot_list_ne ⟨_, g, rfl⟩ F.entry_list_ne (F.args_list_ne_2 _ _) ?_) sb.room.units0
      refine listLen_ne (R := wants (fun v s' => v ≠ .notImplemented ∧ _) X.xe) a b _ _ _ _ sz g g2 ⟨(fun x => nomatch x), ?_, here⟩
      rw [d]; rfl
end
def TRep {α : Type} (K : PySem.W.Frag) (Rp : Rep α) : Rep (List α) := fun H x L => ∃ a xs, x = .ref a ∧ SqT K H a xs ∧ All2 (Rp H) xs L
section
variable {prog : Program} {w : World} {A : Around} {R : Result → Shared → Prop}
theorem tup_eq (l b : Addr) (xs ys : Array Value) (n1 n2 : Nat) (dd dd2 : Option Addr) (sl sl2 : Array (Option Value)) (I : Nat → Shared → Prop) (J : Shared → Prop)
    (turn : ∀ i (h1 : i < xs.size) (h2 : i < ys.size) s, I i s → wpAny (model prog w) A.in1 (eqBool xs[i] ys[i]) (fun r t => (r = true ∧ I (i + 1) t) ∨ (r = false ∧ J t)) (fun e t => R (.error e) t) s)
    (fin : ∀ s, I (min xs.size ys.size) s → R (.ok (.ret (.bool (xs.size == ys.size)))) s) (no : ∀ t, J t → R (.ok (.ret (.bool false))) t) {s : Shared} (ga : s.heap.get? l = some { cls := .type "tuple", dict := dd, data := .seq xs n1, slots := sl }) (gb : s.heap.get? b = some { cls := .type "tuple", dict := dd2, data := .seq ys n2, slots := sl2 }) (h : I 0 s) :
    wpAny (model prog w) A.in1 (Builtin.«tuple.__eq__» ⟨[.ref l, .ref b], []⟩) (GQ.FinOf prog w A R) (fun e t => R (.error e) t) s := by
  have f2 := AutoSeq1.sub_tuple_tuple
  have hZ : (xs.toList.zip ys.toList).length = min xs.size ys.size := by simp
  have h0 := h
  obtain ⟨hp, g, d, tk, os⟩ := s
  wp_walk using wpAny_loadPart' ga, wpAny_loadPart' gb, wpAny_forIn_list _ (fun rest z t => z.1 = none ∧ ∃ i, rest = (xs.toList.zip ys.toList).drop i ∧ i ≤ min xs.size ys.size ∧ I i t) _
  case turn =>
    rintro ⟨y, x⟩ rest z t ⟨hz', i, hz, hi, hI⟩
    have lt : i < (xs.toList.zip ys.toList).length := by
      rcases Nat.lt_or_ge i (xs.toList.zip ys.toList).length with k | k
      · exact k
      · rw [List.drop_of_length_le k] at hz; cases hz
    have h1 : i < xs.size := by omega
    have h2 : i < ys.size := by omega
    rw [List.drop_eq_getElem_cons lt] at hz
    injection hz with hyx hrest
    have hy : y = xs[i] := by have := congrArg Prod.fst hyx; simpa using this
    have hx : x = ys[i] := by have := congrArg Prod.snd hyx; simpa using this
    subst hy hx
    refine wpAny_bind (wpAny_mono (turn i h1 h2 t hI) (fun r t2 q2 => ?_) fun _ _ x => x)
    rcases q2 with ⟨rfl, q2⟩ | ⟨rfl, q2⟩
    · wp_walk
      exact ⟨rfl, i + 1, hrest, by omega, q2⟩
    · have hR := no _ q2
      wp_walk
      exact hR
  case fin =>
    rintro ⟨b1, b2⟩ t ⟨hb', i, hz, hi, hI⟩
    simp only at hb'
    subst hb'
    have ge : min xs.size ys.size ≤ i := by
      rcases Nat.lt_or_ge i (xs.toList.zip ys.toList).length with k | k
      · rw [List.drop_eq_getElem_cons k] at hz; cases hz
      · exact hZ ▸ k
    obtain rfl : i = min xs.size ys.size := by omega
    have hR := fin t hI
    wp_walk
    simpa [Builtin.Tuple.tupleCompareSizes, bne] using hR
  case h =>
    exact ⟨rfl, 0, rfl, Nat.zero_le _, h0⟩
theorem tup_ne (l b : Addr) (xs ys : Array Value) (n1 n2 : Nat) (dd dd2 : Option Addr) (sl sl2 : Array (Option Value)) (I : Nat → Shared → Prop) (J : Shared → Prop)
    (turn : ∀ i (h1 : i < xs.size) (h2 : i < ys.size) s, I i s → wpAny (model prog w) A.in1 (eqBool xs[i] ys[i]) (fun r t => (r = true ∧ I (i + 1) t) ∨ (r = false ∧ J t)) (fun e t => R (.error e) t) s)
    (fin : ∀ s, I (min xs.size ys.size) s → R (.ok (.ret (.bool (xs.size != ys.size)))) s) (no : ∀ t, J t → R (.ok (.ret (.bool true))) t) {s : Shared} (ga : s.heap.get? l = some { cls := .type "tuple", dict := dd, data := .seq xs n1, slots := sl }) (gb : s.heap.get? b = some { cls := .type "tuple", dict := dd2, data := .seq ys n2, slots := sl2 }) (h : I 0 s) :
    wpAny (model prog w) A.in1 (Builtin.«tuple.__ne__» ⟨[.ref l, .ref b], []⟩) (GQ.FinOf prog w A R) (fun e t => R (.error e) t) s := by
  have f2 := AutoSeq1.sub_tuple_tuple
  have hZ : (xs.toList.zip ys.toList).length = min xs.size ys.size := by simp
  have h0 := h
  obtain ⟨hp, g, d, tk, os⟩ := s
  wp_walk using wpAny_loadPart' ga, wpAny_loadPart' gb, wpAny_forIn_list _ (fun rest z t => z.1 = none ∧ ∃ i, rest = (xs.toList.zip ys.toList).drop i ∧ i ≤ min xs.size ys.size ∧ I i t) _
  case turn =>
    rintro ⟨y, x⟩ rest z t ⟨hz', i, hz, hi, hI⟩
    have lt : i < (xs.toList.zip ys.toList).length := by
      rcases Nat.lt_or_ge i (xs.toList.zip ys.toList).length with k | k
      · exact k
      · rw [List.drop_of_length_le k] at hz; cases hz
    have h1 : i < xs.size := by omega
    have h2 : i < ys.size := by omega
    rw [List.drop_eq_getElem_cons lt] at hz
    injection hz with hyx hrest
    have hy : y = xs[i] := by have := congrArg Prod.fst hyx; simpa using this
    have hx : x = ys[i] := by have := congrArg Prod.snd hyx; simpa using this
    subst hy hx
    refine wpAny_bind (wpAny_mono (turn i h1 h2 t hI) (fun r t2 q2 => ?_) fun _ _ x => x)
    rcases q2 with ⟨rfl, q2⟩ | ⟨rfl, q2⟩
    · wp_walk
      exact ⟨rfl, i + 1, hrest, by omega, q2⟩
    · have hR := no _ q2
      wp_walk
      exact hR
  case fin =>
    rintro ⟨b1, b2⟩ t ⟨hb', i, hz, hi, hI⟩
    simp only at hb'
    subst hb'
    have ge : min xs.size ys.size ≤ i := by
      rcases Nat.lt_or_ge i (xs.toList.zip ys.toList).length with k | k
      · rw [List.drop_eq_getElem_cons k] at hz; cases hz
      · exact hZ ▸ k
    obtain rfl : i = min xs.size ys.size := by omega
    have hR := fin t hI
    wp_walk
    simpa [Builtin.Tuple.tupleCompareSizes, bne] using hR
  case h =>
    exact ⟨rfl, 0, rfl, Nat.zero_le _, h0⟩
end
section
variable {α : Type} [DecidableEq α] {X : Cx} {n : Nat} {Rp : Rep α}
theorem rcR_tup (m : MonR Rp) (h : EqR X n Rp) (neg : Bool) : RcR X (n + 1) neg (TRep X.K Rp) := by
  intro A pins s σ H x y u v L M sb I rx ry ⟨a, xs, ex, ha, pa⟩ ⟨b, ys, ey, hb, pb⟩
  subst ex ey
  obtain rfl : u = Value.ref a := rx
  obtain rfl : v = Value.ref b := ry
  obtain ⟨us, r, e, z⟩ := I.tuple ha
  obtain ⟨vs, r2, e2, z2⟩ := I.tuple hb
  have here : ∃ H', Inv X pins σ H' s ∧ Ext H H' := ⟨H, I, Ext.rfl'⟩
  have st : KeepI X pins σ H L M 0 s := ⟨here, by rw [List.take_zero, List.take_zero]⟩
  have fin : ∀ t, KeepI X pins σ H L M (min us.toArray.size vs.toArray.size) t → (us.toArray.size == vs.toArray.size) = decide (L = M) := fun t k => by
    have k2 := k.2
    rw [List.size_toArray, List.size_toArray, ← r.length, ← r2.length] at k2 ⊢
    by_cases hz : xs.length = ys.length
    · rw [← hz, Nat.min_self] at k2
      rw [decide_eq_true (take_all pa pb hz k2), hz]
      simp
    · rw [decide_eq_false (len_ne pa pb hz)]
      exact beq_eq_false_iff_ne.mpr hz
  obtain ⟨⟨cls, dd, data, sl⟩, ho, hc, n1, hd⟩ := id e
  obtain ⟨⟨cls2, dd2, data2, sl2⟩, ho2, hc2, n2, hd2⟩ := id e2
  simp only at hc hd hc2 hd2
  subst hc hd hc2 hd2
  cases neg with
  | false =>
    refine wpAny_richCompare_same_room (op := .Eq) ⟨_, ho, rfl⟩ ⟨_, ho2, rfl⟩ F.slot_tuple_eq (GQ.call_here F.slot_tuple_eq ⟨_, ho, rfl⟩ F.entry_tuple_eq (F.args_tuple_eq_2 _ _) ?_) sb.room.units0
    refine tup_eq (R := wants (fun v s' => v ≠ .notImplemented ∧ _) X.xe) a b _ _ _ _ _ _ _ _ (KeepI X pins σ H L M) (GoneJ X pins σ H L M) (fun i h1 h2 t k => step_items m h sb pa pb r r2 i h1 h2 t k) (fun t k => ⟨(fun x => nomatch x), ?_, k.1⟩) (fun t k => ⟨(fun x => nomatch x), ?_, k.1⟩) ho ho2 st
    · rw [fin t k]; simp
    · rw [decide_eq_false k.2]; rfl
  | true =>
    refine wpAny_richCompare_same_room (op := .NotEq) ⟨_, ho, rfl⟩ ⟨_, ho2, rfl⟩ F.slot_tuple_ne (GQ.call_here F.slot_tuple_ne ⟨_, ho, rfl⟩ F.entry_tuple_ne (F.args_tuple_ne_2 _ _) ?_) sb.room.units0
    refine tup_ne (R := wants (fun v s' => v ≠ .notImplemented ∧ _) X.xe) a b _ _ _ _ _ _ _ _ (KeepI X pins σ H L M) (GoneJ X pins σ H L M) (fun i h1 h2 t k => step_items m h sb pa pb r r2 i h1 h2 t k) (fun t k => ⟨(fun x => nomatch x), ?_, k.1⟩) (fun t k => ⟨(fun x => nomatch x), ?_, k.1⟩) ho ho2 st
    · rw [bne, fin t k]; simp
    · rw [decide_eq_false k.2]; rfl
/-- from the comparison of references to == inside a list -/
theorem RcR.eqR (m : MonR Rp) (h : RcR X n false Rp) (hr : ∀ H x a, Rp H x a → ∃ p, x = .ref p) : EqR X n Rp := by
  intro A pins s σ H x y u v L M sb I rx ry hx hy
  obtain ⟨a, ea⟩ := hr _ _ _ hx
  obtain ⟨b, eb⟩ := hr _ _ _ hy
  subst ea eb
  obtain rfl : u = Value.ref a := rx
  obtain rfl : v = Value.ref b := ry
  by_cases hab : a = b
  · subst hab
    refine SeqAt.EqAt.same (A := A) (s := s) (.ref a) X.prog X.w X.xe _ ⟨?_, H, I, Ext.rfl'⟩
    rw [decide_eq_true (m.fn hx hy)]
  · refine GQ.eqBool_refG hab (wpAny_mono (h A pins s σ H (.ref a) (.ref b) _ _ L M sb I rfl rfl hx hy) (fun r t q => ?_) fun _ _ x => x)
    obtain ⟨er, q⟩ := q
    refine ⟨decide (L = M), ?_, rfl, q⟩
    rw [er]; simp
end
theorem all2_fn {α : Type} {Rp : V → α → Prop} (fn : ∀ (x : V) (a b : α), Rp x a → Rp x b → a = b) : ∀ {xs : List V} {L M : List α}, All2 Rp xs L → All2 Rp xs M → L = M
  | _, _, _, .nil, .nil => rfl
  | _, _, _, .cons h t, .cons h' t' => by rw [fn _ _ _ h h', all2_fn fn t t']
theorem mon_LRep {α : Type} {Rp : Rep α} (m : MonR Rp) : MonR (LRep Rp) := ⟨fun e ⟨a, xs, hx, h, p⟩ => ⟨a, xs, hx, e _ _ h, p.imp fun _ _ => m.up e⟩, fun ⟨a, xs, hx, h, p⟩ ⟨b, ys, hy, h', p'⟩ => by
  subst hx
  cases hy
  rw [h] at h'
  cases h'
  exact all2_fn (Rp := Rp _) (fun _ _ _ h h' => m.fn h h') p p'⟩
theorem env_sub {X : Cx} {n : Nat} {A : Around} (sb : Sub X n A) {pins : List (Addr × Obj)} {σ : L2.St} {H : Hp} {s : Shared} (I : Inv X pins σ H s) : Env0 X.prog X.w X.K X.mg X.base A X.stack s H := by
  have e := I.env0
  exact ⟨by rw [sb.fr]; exact e.frames, e.mod, e.bs, e.bsz, e.funs, e.frf, e.hok, e.bare⟩
section
variable {X : Cx} {n : Nat} {C : Addr} {sp : Sp}
/-- what stands on the right: an instance of the class, or a value of a type that is no class below -/
def RightOf (K : PySem.W.Frag) (C : Addr) (H : Hp) (y : V) : Prop := ∃ tb, TyX K H y tb ∧ PySem.W.notFirst K C tb = true
/-- x == y by the own == of x -/
def rEqO (K : PySem.W.Frag) (C : Addr) (sp : Sp) : R2 := fun x y H Q => ∃ a dx fs, x = .ref a ∧ H a = some (.ins C dx fs) ∧ RightOf K C H y ∧ sp [x, y] H Q E0
theorem op_eqO (K : PySem.W.Frag) (hK : X.K = K) (m : Md X.prog X.w X.K X.mg X.base n C "__eq__" sp) (hr : Room n X.A) : OpR X (compareOp .Eq) (rEqO K C sp) := by
  subst hK
  intro pins s σ H x y v u Q I rx ry h
  obtain ⟨f, F, hs, hf, _⟩ := m.ex
  obtain ⟨a, dx, fs, rfl, ha, ⟨tb, hy, hn⟩, q⟩ := h
  cases (show v = Value.ref a from rx)
  obtain ⟨mA, J, _⟩ := ins_get I.hok ha
  obtain ⟨od, J, _⟩ := J.look
  obtain ⟨Pk, hk, hp, _⟩ := kit_of I ry hy
  obtain ⟨m, hF⟩ := I.fr
  refine PySem.W.cmp_K (op := .Eq) (tb := tb) hr.units0 hF I.ok.mod.kin J (hk.ty _ _ I.kIn hp) hn hs hf ?_
  refine wpAny_mono (wpAny_call (run_fnR (us := [.ref a, u]) (vs := [.ref a, y]) F hr pass0 I (.cons rfl (.cons ry .nil)) q)) (fun w s' z => ?_) fun _ _ x => x
  obtain ⟨z', H', I', rz, qz⟩ := z
  exact SlX.cmpback rz ⟨z', H', I', rz, qz⟩
end
section
variable {prog : Program} {w : World} {A : Around} {E : Value → Shared → Prop} {s : Shared} {K : PySem.W.Frag} {x C L f : Addr} {h₀ : Heap} {m : Str → Option Value} {ox : Obj} {od : Option Obj} {b tb : Value}
theorem check_ne {M : Model} {Q : Unit → Shared → Prop} (X : K.In s.heap) (I : PySem.W.InstAt s.heap x ox C od) (hm : PySem.W.mroIn K C (.type "object") = some true) (hq : Q () s) :
    wpAny M A (PySem.checkBuiltinCall "object.__ne__" ⟨[.ref x, b], []⟩) Q E s := by
  have hsig : ∃ sig, Manifest.signature? "object.__ne__" = sig := ⟨_, rfl⟩
  obtain ⟨sig, hsig⟩ := hsig
  have ha := PySem.F.cmpArgs_ne (.ref x) b
  unfold argsOk at ha
  simp only [PySem.checkBuiltinCall, PySem.F.cmpKind_ne, PySem.F.cmpSplit_ne]
  refine wpAny_bind (m := PySem.isInstance _ _) ?_
  unfold PySem.isInstance
  refine wpAny_bind (I.type.here ((PySem.W.looks_mroIn X hm).here ?_))
  rw [hsig] at ha ⊢
  cases sig with
  | none => exact wpAny_pure hq
  | some sg =>
    have h2 : Bind.checkArgs "object.__ne__" sg ⟨[.ref x, b], []⟩ = pure () := ha
    show wpAny M A (Bind.checkArgs "object.__ne__" sg ⟨[.ref x, b], []⟩) Q E _
    rw [h2]; exact wpAny_pure hq
theorem ifBound_ne {M : Model} {args : List Value} {Q : Option Value → Shared → Prop} (X : K.In s.heap) (I : PySem.W.InstAt s.heap x ox C od) (hs : PySem.W.findIn K (.ref C) "__ne__" = some (some (.builtin "object.__ne__")))
    (h : wpAny M A (call (.builtin "object.__ne__") (.ref x :: args)) (fun v => Q (some v)) E s) : wpAny M A (callSpecialIfBound? (.ref x) "__ne__" args) Q E s := by
  simp only [callSpecialIfBound?, bindSpecialIfBound?]
  refine wpAny_holding (wpAny_bind (wpAny_bind (wpAny_bind (I.type.here ((PySem.W.looks_findIn X hs).here ?_)))))
  simp only [PySem.F.cmp_object.ne.bind]
  refine wpAny_bind (wpAny_askSetting (wpAny_ite ?_))
  have fin : wpAny M A (call (.builtin "object.__ne__") ([.ref x] ++ args) >>= fun v => pure (some v)) Q E s := wpAny_bind (wpAny_mono h (fun v s' h' => wpAny_pure h') fun _ _ h' => h')
  split
  · exact wpAny_bind (wpAny_pure (wpAny_pure fin))
  · exact wpAny_tryCatch (wpAny_bind (wpAny_pure (wpAny_pure fin)))
/-- x != b by the own == of x -/
theorem ne_K {Q : Value → Shared → Prop} (hu : A.units + 1 < cLine) (F : PyProof.Rows.Fr h₀ L s.heap m) (X₀ : K.In h₀) (I : PySem.W.InstAt s.heap x ox C od) (hb : PySem.W.Looks (model prog w) s.heap (typeOf b) tb) (hn : PySem.W.notFirst K C tb = true)
    (h1 : PySem.W.findIn K (.ref C) "__ne__" = some (some (.builtin "object.__ne__"))) (hm : PySem.W.mroIn K C (.type "object") = some true) (hs : PySem.W.findIn K (.ref C) "__eq__" = some (some (.ref f))) (hf : PySem.W.isFn K (.ref f) = true)
    (h : wpAny (model prog w) A.in1 (call (.ref f) [.ref x, b]) (fun v s' => ∃ k, v = .bool k ∧ Q (.bool (!k)) s') E s) : wpAny (model prog w) A (richCompare .NotEq (.ref x) b) Q E s := by
  have X := X₀.keeps F.keep
  have entry : wpAny (model prog w) A.in1 (Builtin.«object.__ne__» ⟨[.ref x, b], []⟩) (fun r s' => ∃ k, r = .done (.ret (.bool (!k))) ∧ Q (.bool (!k)) s') E s := by
    unfold Builtin.«object.__ne__»
    refine wpAny_bind (m := PySem.slotArgs "__ne__" 1 _) (wpAny_pure ?_)
    refine wpAny_bind (wpAny_cRoomFor hu ?_)
    refine wpAny_bind (m := callSpecialIfBound? (.ref x) (Str.ofString "__eq__") [b]) (PySem.W.ifBound_K X I hs hf (wpAny_mono h (fun r s' hr => ?_) fun _ _ e => e))
    obtain ⟨k, rfl, hq⟩ := hr
    refine wpAny_bind (m := truthy (.bool k)) (wpAny_truthy_bool ?_)
    exact wpAny_pure ⟨k, rfl, hq⟩
  have one : wpAny (model prog w) A (tryCompare (.ref x) "__ne__" b) (fun r s' => ∃ v, r = some v ∧ Q v s') E s := by
    unfold tryCompare
    refine wpAny_bind (ifBound_ne X I h1 (wpAny_call (codeAny_call_builtin PySem.F.cmp_object.ne.plain PySem.F.cmpEntry_ne (check_ne X I hm (wpAny_mono entry (fun r s' z => ?_) fun _ _ e => e)))))
    obtain ⟨k, rfl, hq⟩ := z
    exact wpAny_pure ⟨_, rfl, hq⟩
  unfold richCompare
  simp only [oneThing_ref]
  refine wpAny_holding (wpAny_bind (wpAny_cRoomFor (by omega) ?_))
  refine wpAny_bind (I.type.here (wpAny_bind (hb.here ?_)))
  split
  · rename_i q
    have e : PySem.W.subIn K tb (.ref C) = some false := by
      rcases Bool.or_eq_true_iff.mp hn with e | e
      · rw [beq_iff_eq.mp e] at q; simp at q
      · exact beq_iff_eq.mp e
    refine wpAny_bind ((PySem.W.looks_subIn X e).here ?_)
    simp only [Bool.false_eq_true, if_false]
    refine wpAny_bind (wpAny_mono one (fun r s' z => ?_) fun _ _ e => e)
    obtain ⟨v, rfl, hq⟩ := z
    exact wpAny_pure hq
  · refine wpAny_bind (wpAny_pure ?_)
    simp only [Bool.false_eq_true, if_false]
    refine wpAny_bind (wpAny_mono one (fun r s' z => ?_) fun _ _ e => e)
    obtain ⟨v, rfl, hq⟩ := z
    exact wpAny_pure hq
end
section
variable {X : Cx} {n : Nat} {C : Addr} {sp : Sp}
/-- x != y by the own == of x -/
def rNeO (K : PySem.W.Frag) (C : Addr) (sp : Sp) : R2 := fun x y H Q => ∃ a dx fs, x = .ref a ∧ H a = some (.ins C dx fs) ∧ RightOf K C H y ∧ sp [x, y] H (fun z H' => ∃ k, z = .bl k ∧ Q (.bl (!k)) H') E0
theorem op_neO (K : PySem.W.Frag) (hK : X.K = K) (m : Md X.prog X.w X.K X.mg X.base n C "__eq__" sp) (h1 : PySem.W.findIn X.K (.ref C) "__ne__" = some (some (.builtin "object.__ne__"))) (hm : PySem.W.mroIn X.K C (.type "object") = some true) (hr : Room (n + 1) X.A) : OpR X (compareOp .NotEq) (rNeO K C sp) := by
  subst hK
  intro pins s σ H x y v u Q I rx ry h
  obtain ⟨f, F, hs, hf, _⟩ := m.ex
  obtain ⟨a, dx, fs, rfl, ha, ⟨tb, hy, hn⟩, q⟩ := h
  cases (show v = Value.ref a from rx)
  obtain ⟨mA, J, _⟩ := ins_get I.hok ha
  obtain ⟨od, J, _⟩ := J.look
  obtain ⟨Pk, hk, hp, _⟩ := kit_of I ry hy
  obtain ⟨m, hF⟩ := I.fr
  refine ne_K (tb := tb) (by have := hr.units; omega) hF I.ok.mod.kin J (hk.ty _ _ I.kIn hp) hn h1 hm hs hf ?_
  refine wpAny_mono (wpAny_call (SlX.run_at (us := [.ref a, u]) (ws := [.ref a, y]) F hr.in1 I.env0.in1 pass0 I (.cons rfl (.cons ry .nil)) q)) (fun w s' z => ?_) fun _ _ x => x
  obtain ⟨z', H', I', rz, k, ek, qz⟩ := z
  subst ek
  cases (show w = Value.bool k from rz)
  exact ⟨k, rfl, .bl (!k), H', I', rfl, qz⟩
end
end OR

namespace OR
open PySem PySem.Spec PyProof.Rows L2
/-! ### == of dicts whose values have their own ==: both answers -/
section
open PySem.W
variable {prog : Program} {w : World} {κ : Type} [DecidableEq κ] {knd : PySem.KeyKind prog w κ} {A : Around} {E : Value → Shared → Prop}
theorem samePairsS {nm : String} {a b : Addr} {oa ob : Obj} {es es' : Array DictEntry} {ep ep' : Nat} {ka kb : List (κ × Value)} {Q : Bool → Shared → Prop} (I : Nat → Shared → Prop) (J : Shared → Prop) (hsa : (a == sysModules) = false) (hsb : (b == sysModules) = false)
    (da : oa.data = .dict es ep) (db : ob.data = .dict es' ep') (kea : KeysOf knd es) (keb : KeysOf knd es') (pa : Pairs knd es.toList ka) (pb : Pairs knd es'.toList kb)
    (at_ : ∀ i s, I i s → s.heap.get? a = some oa ∧ s.heap.get? b = some ob)
    (hit : ka.length = kb.length → ∀ i k v y s, ka[i]? = some (k, v) → valueAt kb k = some y → I i s → wpAny (model prog w) A (eqBool v y) (fun r t => (r = true ∧ I (i + 1) t) ∨ (r = false ∧ J t)) E s)
    (miss : ka.length = kb.length → ∀ i k v s, ka[i]? = some (k, v) → valueAt kb k = none → I i s → Q false s)
    (no : ∀ t, J t → Q false t) (yes : ka.length = kb.length → ∀ t, I ka.length t → Q true t) (len : ka.length ≠ kb.length → ∀ t, I 0 t → Q false t) {s : Shared} (h : I 0 s) :
    wpAny (model prog w) A (Builtin.Dict.samePairs nm a b) Q E s := by
  have hla : ka.length = es.size := by rw [← pa.length]; exact Array.length_toList
  have hlb : kb.length = es'.size := by rw [← pb.length]; exact Array.length_toList
  have hfind : ∀ k, findBy knd.is es' k = valueAt kb k := fun k => by
    rw [← pb.find k]
    clear hlb pb keb db
    obtain ⟨l⟩ := es'
    simp [findBy]
  obtain ⟨hoa, hob⟩ := at_ 0 s h
  unfold Builtin.Dict.samePairs Builtin.Dict.showsAll
  rw [if_neg (show ¬ (a == sysModules) = true by rw [hsa]; exact Bool.false_ne_true), if_neg (show ¬ (b == sysModules) = true by rw [hsb]; exact Bool.false_ne_true)]
  refine wpAny_bind (wpAny_pure (wpAny_bind (wpAny_pure ?_)))
  refine wpAny_bind (wpAny_dictEntries hoa da ?_)
  dsimp only
  refine wpAny_bind (wpAny_dictEntries hob db ?_)
  by_cases hsz : es.size = es'.size
  case neg =>
    rw [if_pos (by simpa using hsz)]
    exact wpAny_bind (wpAny_rule (wpAny_pure (len (by rw [hla, hlb]; exact hsz) s h)))
  case pos =>
    have hL : ka.length = kb.length := by rw [hla, hlb]; exact hsz
    rw [if_neg (by rw [hsz]; simp)]
    refine wpAny_bind (wpAny_dictEpoch hoa da ?_)
    refine wpAny_bind ?_
    rw [Std.Legacy.Range.forIn_eq_forIn_range']
    simp only [Std.Legacy.Range.size, Nat.sub_zero, Nat.add_sub_cancel, Nat.div_one]
    refine wpAny_forIn_list _
      (fun rest q s' => q = (none, ()) ∧ ∃ i, rest = List.range' i (es.size - i) ∧ i ≤ es.size ∧ I i s')
      _ ?_ ?_ _ _ ⟨rfl, 0, by simp, Nat.zero_le _, h⟩
    · rintro x rest q s' ⟨rfl, i, hr, hi, hI⟩
      have hlt : i < es.size := by
        rcases Nat.lt_or_ge i es.size with h | h
        · exact h
        · rw [Nat.sub_eq_zero_of_le h] at hr; simp at hr
      obtain ⟨rfl, hrest⟩ : x = i ∧ rest = List.range' (i + 1) (es.size - (i + 1)) := by
        have e : es.size - i = (es.size - (i + 1)) + 1 := by omega
        rw [e, List.range'_succ] at hr
        injection hr with h1 h2
        exact ⟨h1, h2⟩
      obtain ⟨hoa, hob⟩ := at_ x s' hI
      refine wpAny_bind (wpAny_dictEntries hoa da ?_)
      rw [Array.getElem?_eq_getElem hlt]
      have hlt' : x < ka.length := by rw [hla]; exact hlt
      obtain ⟨k, v, hkv⟩ : ∃ k v, ka[x] = (k, v) := ⟨_, _, rfl⟩
      have hka : ka[x]? = some (k, v) := by rw [List.getElem?_eq_getElem hlt', hkv]
      obtain ⟨hkey, hval⟩ := pa.get? (i := x) (e := es[x]) (k := k) (v := v) (by rw [Array.getElem?_toList]; exact Array.getElem?_eq_getElem hlt) hka
      obtain ⟨k', hk', hh⟩ := kea es[x] (Array.getElem_mem hlt)
      have ekk : k' = k := knd.inj _ _ _ hk' hkey
      rw [ekk] at hh
      show wpAny _ _ (holding [es[x].key, es[x].val] _ >>= _) _ _ _
      rw [hh]
      refine wpAny_bind (wpAny_holding (wpAny_bind (wpAny_dictFind_of hkey hob db keb ?_)))
      cases hj : es'.findIdx? fun e => knd.is k e.key with
      | none =>
        have hn : valueAt kb k = none := by rw [← hfind k, findBy_of_findIdx?, hj]
        refine wpAny_pure ?_
        show wpAny _ _ (if (!false) = true then _ else _) _ _ _
        rw [if_pos (by decide)]
        exact wpAny_pure (wpAny_pure (miss hL x k v s' hka hn hI))
      | some j =>
        obtain ⟨hjlt, _, _⟩ := Array.findIdx?_eq_some_iff_getElem.mp hj
        have hv' : valueAt kb k = some es'[j].val := by
          rw [← hfind k, findBy_of_findIdx?, hj]
          simp [Array.getElem?_eq_getElem hjlt]
        refine wpAny_bind (wpAny_dictEntries hob db ?_)
        rw [Array.getElem?_eq_getElem hjlt]
        have st := hit hL x k v _ s' hka hv' hI
        rw [← hval] at st
        refine wpAny_holding (wpAny_mono st (fun r t z => ?_) fun _ _ e => e)
        rcases z with ⟨rfl, z⟩ | ⟨rfl, z⟩
        · show wpAny _ _ (if (!true) = true then _ else _) _ _ _
          rw [if_neg (by decide)]
          refine wpAny_bind (wpAny_dictEpoch (at_ _ t z).1 da ?_)
          rw [if_neg (by simp)]
          exact wpAny_pure ⟨rfl, x + 1, hrest, hlt, z⟩
        · show wpAny _ _ (if (!false) = true then _ else _) _ _ _
          rw [if_pos (by decide)]
          exact wpAny_pure (wpAny_pure (no t z))
    · rintro q s' ⟨rfl, i, hr, hi, hI⟩
      have hin : i = es.size := by
        rcases Nat.lt_or_ge i es.size with h | h
        · have e : es.size - i = (es.size - (i + 1)) + 1 := by omega
          rw [e, List.range'_succ] at hr; exact nomatch hr
        · exact Nat.le_antisymm hi h
      refine wpAny_pure ?_
      rw [hin, ← hla] at hI
      exact yes hL s' hI
theorem rcS_dicts {a b : Addr} {oa ob : Obj} {es es' : Array DictEntry} {ep ep' : Nat} {ka kb : List (κ × Value)} {Q : Value → Shared → Prop} (I : Nat → Shared → Prop) (J : Shared → Prop) (hsa : (a == sysModules) = false) (hsb : (b == sysModules) = false)
    (da : oa.data = .dict es ep) (db : ob.data = .dict es' ep') (xa : oa.ExactDict) (xb : ob.ExactDict) (kea : KeysOf knd es) (keb : KeysOf knd es') (pa : Pairs knd es.toList ka) (pb : Pairs knd es'.toList kb)
    (at_ : ∀ i s, I i s → s.heap.get? a = some oa ∧ s.heap.get? b = some ob)
    (hit : ka.length = kb.length → ∀ i k v y s, ka[i]? = some (k, v) → valueAt kb k = some y → I i s → wpAny (model prog w) A.in1 (eqBool v y) (fun r t => (r = true ∧ I (i + 1) t) ∨ (r = false ∧ J t)) E s)
    (miss : ka.length = kb.length → ∀ i k v s, ka[i]? = some (k, v) → valueAt kb k = none → I i s → Q (.bool false) s)
    (no : ∀ t, J t → Q (.bool false) t) (yes : ka.length = kb.length → ∀ t, I ka.length t → Q (.bool true) t) (len : ka.length ≠ kb.length → ∀ t, I 0 t → Q (.bool false) t) (hu : A.units < cLine) {s : Shared} (h : I 0 s) :
    wpAny (model prog w) A (richCompare .Eq (.ref a) (.ref b)) Q E s := by
  obtain ⟨hoa, hob⟩ := at_ 0 s h
  have ta : s.TypeIs (.ref a) "dict" := ⟨_, hoa, xa.1⟩
  have tb : s.TypeIs (.ref b) "dict" := ⟨_, hob, xb.1⟩
  refine wpAny_richCompare_same_room (op := .Eq) ta tb PySem.F.slot_dict_eq (wpAny_call_entry PySem.F.slot_dict_eq ta PySem.F.entry_dict_eq ?_ (PySem.F.args_dict_eq_2 _ _)) hu
  show wpAny _ _ (Builtin.Dict.dictSlotArgs "__eq__" ⟨[.ref a, .ref b], []⟩ >>= _) _ _ s
  refine wpAny_bind ?_
  unfold Builtin.Dict.dictSlotArgs
  refine wpAny_bind (wpAny_notOrdered_dict ta ?_)
  show wpAny _ _ (pure (Value.ref a, Value.ref b)) _ _ s
  refine wpAny_pure ?_
  refine wpAny_bind (wpAny_isInstance (T := "dict") tb PySem.F.sub_dict_dict ?_)
  simp only [Bool.not_true, Bool.false_eq_true, if_false]
  refine wpAny_bind (wpAny_pure (wpAny_bind (wpAny_pure ?_)))
  refine wpAny_bind (samePairsS (A := A.in1) I J hsa hsb da db kea keb pa pb at_ hit ?_ ?_ ?_ ?_ h)
  · exact fun hL i k v s h1 h2 h3 => wpAny_pure ⟨_, rfl, (fun x => nomatch x), miss hL i k v s h1 h2 h3⟩
  · exact fun t z => wpAny_pure ⟨_, rfl, (fun x => nomatch x), no t z⟩
  · exact fun hL t z => wpAny_pure ⟨_, rfl, (fun x => nomatch x), yes hL t z⟩
  · exact fun hL t z => wpAny_pure ⟨_, rfl, (fun x => nomatch x), len hL t z⟩
end
end OR

namespace OR
open PySem PySem.Spec PyProof.Rows L2
/-! ### None == a line, by the line's own == -/
section
open PySem.W
variable {prog : Program} {w : World} {A : Around} {E : Value → Shared → Prop} {s : Shared} {K : PySem.W.Frag} {x C L f : Addr} {h₀ : Heap} {m : Str → Option Value} {ox : Obj} {od : Option Obj}
theorem none_eq_ref {b : Addr} : Gives (Builtin.«NoneType.__eq__» ⟨[.none, .ref b], []⟩) (.val (Value.notImplemented)) :=
  .of_wp fun M A E s Q h => by obtain ⟨hp, g, d, tk, os⟩ := s; wp_walk; exact ⟨_, rfl, h⟩
theorem noneq_K {Q : Value → Shared → Prop} (hu : A.units < cLine) (F : PyProof.Rows.Fr h₀ L s.heap m) (X₀ : K.In h₀) (I : PySem.W.InstAt s.heap x ox C od) (hsub : PySem.W.subIn K (.ref C) (.type "NoneType") = some false)
    (hs : PySem.W.findIn K (.ref C) "__eq__" = some (some (.ref f))) (hf : PySem.W.isFn K (.ref f) = true)
    (h : wpAny (model prog w) A (call (.ref f) [.ref x, .none]) (PySem.W.CmpBack Q) E s) : wpAny (model prog w) A (richCompare .Eq .none (.ref x)) Q E s := by
  have X := X₀.keeps F.keep
  have one : wpAny (model prog w) A (tryCompare (.ref x) (cmpInfo .Eq).2.2 .none) (fun r s' => ∃ v, r = some v ∧ Q v s') E s := by
    unfold tryCompare
    refine wpAny_bind (ifBound_K X I hs hf (wpAny_mono h (fun v s' hv => ?_) fun _ _ e => e))
    cases v <;> first | exact hv.elim | exact wpAny_pure ⟨_, rfl, hv⟩
  have L5 := PySem.W.looks_subIn (M := model prog w) X hsub
  unfold richCompare
  have o1 : oneThing? .Eq Value.none (.ref x) = none := rfl
  simp only [o1]
  refine wpAny_holding (wpAny_bind (wpAny_cRoomFor hu ?_))
  refine wpAny_bind (wpAny_typeOf (T := "NoneType") rfl (wpAny_bind (I.type.here ?_)))
  have hne : (Value.type "NoneType" != Value.ref C) = true := rfl
  simp only [hne, if_true]
  refine wpAny_bind (L5.here ?_)
  simp only [Bool.false_eq_true, if_false, Bool.not_false, if_true]
  refine wpAny_bind (m := tryCompare .none _ (.ref x)) (wpAny_tryCompare_declines (s := s) (T := "NoneType") rfl PySem.F.slot_NoneType_eq (call_gives PySem.F.slot_NoneType_eq rfl PySem.F.entry_NoneType_eq (PySem.F.args_NoneType_eq_2 _ _) none_eq_ref ⟨rfl, ?_⟩))
  refine wpAny_bind (wpAny_mono one (fun r s' z => ?_) fun _ _ e => e)
  obtain ⟨v, rfl, hq⟩ := z
  exact wpAny_pure hq
theorem eqBool_nr {a b : Value} {Q : Bool → Shared → Prop} (hab : (a = .none ∧ ∃ p, b = .ref p) ∨ (b = .none ∧ ∃ p, a = .ref p)) (h : wpAny (model prog w) A (richCompare .Eq a b) (fun v s' => ∃ r, v = .bool r ∧ Q r s') E s) : wpAny (model prog w) A (eqBool a b) Q E s := by
  unfold eqBool
  refine wpAny_holding ?_
  refine wpAny_ite_split (fun e => ?_) (fun _ => ?_)
  · have e := eq_of_beq e
    rcases hab with ⟨rfl, p, rfl⟩ | ⟨rfl, p, rfl⟩ <;> cases e
  · rcases hab with ⟨rfl, p, rfl⟩ | ⟨rfl, p, rfl⟩ <;>
    · refine wpAny_bind (wpAny_mono h (fun v s' hv => ?_) fun _ _ x => x)
      obtain ⟨r, rfl, q⟩ := hv
      exact wpAny_truthy_bool q
end
/-! ### lines -/
def spLEqA (CL : Addr) : Sp := fun vs H Q _ => ∃ (x : Addr) (r : LnR) (y : V) (l : Option LnR), vs = [.ref x, y] ∧ IsL CL H x r.1 r.2 ∧ LnAt CL H y l ∧ Q (.bl (decide (some r = l))) H
section
variable {P : Program} {w : World} {K : PySem.W.Frag} {mg : Str → Option Value} {base : Heap} {CL CG : Addr}
theorem scLEqA : FnScope ["self", "other"] ["self", "other"] (defScope sLEq) := ⟨rfl, rfl, rfl, by decide +kernel, rfl, by decide +kernel, by decide +kernel⟩
theorem ok_leqA {f : Addr} {fd : FuncData} (F : Fun K "__eq__" "Line.__eq__" sLEq f fd) (T : LTxt K mg CL) (kN : PySem.W.kitOne K (.type "NoneType") (.ref CL) = some false) : FnOk P w K mg base CX0 1 f fd ["self", "other"] (spLEqA CL) := by
  refine F.ok scLEqA (fun vs H Q E h => ?_) (fun cdv A outer s H vs Q E hr h => ?_)
  · obtain ⟨x, r, y, l, rfl, _⟩ := h; rfl
  · obtain ⟨x, ⟨a, b⟩, y, l, rfl, ⟨dx, hx⟩, hl, q⟩ := h
    refine ⟨_, pss_one (ps_ret (pe_and (pe_callB call_isi (by rfl) T.zIsi bt_isi (pa_cons (pv 1) (pa_cons (pe_glob (v := .ref CL) (by rfl) T.mgC rfl) pa_nil)))
      (pe_and (pe_cmpR op_eq (pe_fld (pv 0) rfl) (pe_fld (pv 1) rfl) (nomark _)) (pe_one (pe_cmpR op_eq (pe_fld (pv 0) rfl) (pe_fld (pv 1) rfl) (nomark _)))))), ?_⟩
    cases l with
    | some r2 =>
      obtain ⟨c, d⟩ := r2
      obtain ⟨u, rfl, du, hu⟩ := hl
      have q : Q (.bl (decide (a = c ∧ b = d))) H := by
        have e : decide (some ((a, b) : LnR) = some (c, d)) = decide (a = c ∧ b = d) := by simp only [Option.some.injEq, Prod.mk.injEq]
        rw [← e]; exact q
      refine ⟨_, rfl, .ref u, .ref CL, _, _, true, rfl, .own CL, tyL T hu, T.kLL, true, rfl, iteT ?_⟩
      refine ⟨_, rfl, x, CL, dx, _, _, rfl, hx, T.cl, T.nS, lFl_slope a b, _, rfl, u, CL, du, _, _, rfl, hu, T.cl, T.nS, lFl_slope c d, rfl, _, rfl, ite2 (fun e => ?_) (fun e => ?_)⟩
      · have e1 : a = c := by have := of_decide_eq_true e; cases this; rfl
        refine ⟨_, rfl, x, CL, dx, _, _, rfl, hx, T.cl, T.nH, lFl_height a b, _, rfl, u, CL, du, _, _, rfl, hu, T.cl, T.nH, lFl_height c d, rfl, ?_⟩
        have : decide (V.int b = V.int d) = decide (a = c ∧ b = d) := by
          by_cases h : b = d <;> simp [h, e1]
        rw [this]; exact q
      · have e1 : ¬ a = c := fun z => e (decide_eq_true (by rw [z]))
        have : decide (a = c ∧ b = d) = false := by
          simp [e1]
        rw [this] at q; exact q
    | none =>
      obtain rfl : y = .non := hl
      exact ⟨_, rfl, .non, .ref CL, _, _, false, rfl, .own CL, .base .non, kN, false, rfl, iteF q⟩
end
structure LEqF (P : Program) (w : World) (K : PySem.W.Frag) (mg : Str → Option Value) (base : Heap) (CL : Addr) : Prop where
  eq : Md P w K mg base 1 CL "__eq__" (spLEqA CL)
  nf : PySem.W.notFirst K CL (.type "NoneType") = true
  sN : PySem.W.subIn K (.ref CL) (.type "NoneType") = some false
theorem LnAt.fn {CL : Addr} {H : Hp} {v : V} {l m : Option LnR} (h : LnAt CL H v l) (k : LnAt CL H v m) : l = m := by
  cases l with
  | none =>
    obtain rfl : v = .non := h
    cases m with
    | none => rfl
    | some r => obtain ⟨y, e, _⟩ := k; cases e
  | some r =>
    obtain ⟨y, rfl, dx, h⟩ := h
    cases m with
    | none => cases (show V.ref y = V.non from k)
    | some r2 =>
      obtain ⟨y2, e, dy, k⟩ := k
      cases e
      rw [h] at k
      injection k with k
      injection k with _ _ k
      have e1 := lFl_slope r.1 r.2
      have e2 := lFl_height r.1 r.2
      rw [k, lFl_slope] at e1
      rw [k, lFl_height] at e2
      injection e1 with e1; injection e1 with e1
      injection e2 with e2; injection e2 with e2
      rw [Prod.ext (x := r) (y := r2) e1.symm e2.symm]
theorem same_ext {H H' : Hp} (e : Ext H H') : Same H H' := e
theorem mon_ln {CL : Addr} : MonR (LnAt CL) := ⟨fun e h => h.same e, fun h k => h.fn k⟩
theorem eqR_ln {X : Cx} {CL : Addr} (EQ : LEqF X.prog X.w X.K X.mg X.base CL) : EqR X 1 (LnAt CL) := by
  intro A pins s σ H x y u v a b sb I rx ry hx hy
  obtain ⟨f, F, hs, hf, _⟩ := EQ.eq.ex
  obtain ⟨m, hF⟩ := I.fr
  have q : ∀ (z : Addr) (r : LnR) (v2 : V) (l : Option LnR), IsL CL H z r.1 r.2 → LnAt CL H v2 l → spLEqA CL [.ref z, v2] H (fun r' G => r' = .bl (decide (some r = l)) ∧ Ext H G) E0 := fun z r v2 l h1 h2 => ⟨z, r, v2, l, rfl, h1, h2, rfl, Ext.rfl'⟩
  cases a with
  | none =>
    obtain rfl : x = .non := hx
    obtain rfl : u = Value.none := rx
    cases b with
    | none =>
      obtain rfl : y = .non := hy
      obtain rfl : v = Value.none := ry
      exact SeqAt.EqAt.same (A := A) (s := s) (.none) X.prog X.w X.xe _ ⟨rfl, H, I, Ext.rfl'⟩
    | some r2 =>
      obtain ⟨z2, rfl, hz2⟩ := hy
      obtain rfl : v = Value.ref z2 := ry
      obtain ⟨dy, k1⟩ := id hz2
      obtain ⟨mB, J', _⟩ := ins_get I.hok k1
      obtain ⟨od', J', _⟩ := J'.look
      refine eqBool_nr (.inl ⟨rfl, _, rfl⟩) (noneq_K sb.room.units0 hF I.ok.mod.kin J' EQ.sN hs hf ?_)
      refine wpAny_mono (wpAny_call (SlX.run_at (us := [.ref z2, .none]) (ws := [.ref z2, .non]) F sb.room (env_sub sb I) pass0 I (.cons rfl (.cons rfl .nil)) (q z2 r2 .non none hz2 rfl))) (fun r t z => ?_) fun _ _ x => x
      obtain ⟨r', H', I', rz, er, e⟩ := z
      subst er
      cases (show r = Value.bool _ from rz)
      exact ⟨_, rfl, by simp, H', I', e⟩
  | some r1 =>
    obtain ⟨z1, rfl, hz1⟩ := hx
    obtain rfl : u = Value.ref z1 := rx
    obtain ⟨dx, h1⟩ := id hz1
    obtain ⟨mA, J, _⟩ := ins_get I.hok h1
    obtain ⟨od, J, _⟩ := J.look
    cases b with
    | none =>
      obtain rfl : y = .non := hy
      obtain rfl : v = Value.none := ry
      refine eqBool_nr (.inr ⟨rfl, _, rfl⟩) (PySem.W.cmp_K (op := .Eq) (tb := .type "NoneType") sb.room.units0 hF I.ok.mod.kin J (PySem.W.Looks.of_pure rfl) EQ.nf hs hf ?_)
      refine wpAny_mono (wpAny_call (SlX.run_at (us := [.ref z1, .none]) (ws := [.ref z1, .non]) F sb.room (env_sub sb I) pass0 I (.cons rfl (.cons rfl .nil)) (q z1 r1 .non none hz1 rfl))) (fun r t z => ?_) fun _ _ x => x
      obtain ⟨r', H', I', rz, er, e⟩ := z
      subst er
      cases (show r = Value.bool _ from rz)
      exact ⟨_, rfl, by simp, H', I', e⟩
    | some r2 =>
      obtain ⟨z2, rfl, hz2⟩ := id hy
      obtain rfl : v = Value.ref z2 := ry
      obtain ⟨dy, k1⟩ := id hz2
      obtain ⟨mB, J', _⟩ := ins_get I.hok k1
      obtain ⟨od', J', _⟩ := J'.look
      by_cases hab : z1 = z2
      · subst hab
        refine SeqAt.EqAt.same (A := A) (s := s) (.ref z1) X.prog X.w X.xe _ ⟨?_, H, I, Ext.rfl'⟩
        have e1 : LnAt CL H (.ref z1) (some r1) := ⟨z1, rfl, hz1⟩
        have e2 : LnAt CL H (.ref z1) (some r2) := ⟨z1, rfl, hz2⟩
        rw [decide_eq_true (e1.fn e2)]
      · refine GQ.eqBool_refG hab (PySem.W.cmp_K (op := .Eq) (tb := .ref CL) sb.room.units0 hF I.ok.mod.kin J J'.type (by unfold PySem.W.notFirst; simp) hs hf ?_)
        refine wpAny_mono (wpAny_call (SlX.run_at (us := [.ref z1, .ref z2]) (ws := [.ref z1, .ref z2]) F sb.room (env_sub sb I) pass0 I (.cons rfl (.cons rfl .nil)) (q z1 r1 (.ref z2) (some r2) hz1 ⟨z2, rfl, hz2⟩))) (fun r t z => ?_) fun _ _ x => x
        obtain ⟨r', H', I', rz, er, e⟩ := z
        subst er
        cases (show r = Value.bool _ from rz)
        exact ⟨_, rfl, rfl, H', I', e⟩
/-! ### pieces -/
theorem PcT.fn {CL : Addr} {H : Hp} {v : V} {p q : Pce} (h : PcT CL H v p) (k : PcT CL H v q) : p = q := by
  obtain ⟨t, u, rfl, h1, h2⟩ := h
  obtain ⟨t', u', e, k1, k2⟩ := k
  cases e
  rw [h1] at k1
  injection k1 with k1
  injection k1 with k1
  injection k1 with e1 k1
  injection k1 with e2 k1
  injection k1 with e3 _
  injection e1 with e1
  injection e2 with e2
  subst e3
  have e4 := h2.fn k2
  obtain ⟨p1, p2, p3⟩ := p
  obtain ⟨q1, q2, q3⟩ := q
  simp only at e1 e2 e4
  rw [e1, e2, e4]
theorem mon_pc {CL : Addr} : MonR (PcT CL) := ⟨fun e h => h.same e, fun h k => h.fn k⟩
theorem pce_ext {p q : Pce} (h1 : p.1 = q.1) (h2 : p.2.1 = q.2.1) (h3 : p.2.2 = q.2.2) : p = q := Prod.ext h1 (Prod.ext h2 h3)
def PcI (X : Cx) (pins : List (Addr × Obj)) (σ : L2.St) (H : Hp) (p q : Pce) (i : Nat) (t : Shared) : Prop := (∃ H', Inv X pins σ H' t ∧ Ext H H') ∧ (0 < i → p.1 = q.1) ∧ (1 < i → p.2.1 = q.2.1) ∧ (2 < i → p.2.2 = q.2.2)
def PcJ (X : Cx) (pins : List (Addr × Obj)) (σ : L2.St) (H : Hp) (p q : Pce) (t : Shared) : Prop := (∃ H', Inv X pins σ H' t ∧ Ext H H') ∧ p ≠ q
theorem rcR_pc {X : Cx} {CL : Addr} (h : EqR X 1 (LnAt CL)) (neg : Bool) : RcR X 2 neg (PcT CL) := by
  intro A pins s σ H x y u v p q sb I rx ry ⟨a, l1, ex, ha, pa⟩ ⟨b, l2, ey, hb, pb⟩
  subst ex ey
  obtain rfl : u = Value.ref a := rx
  obtain rfl : v = Value.ref b := ry
  obtain ⟨us, r, e, z⟩ := I.tuple (xs := [.int p.1, .int p.2.1, l1]) (.inl (.inl ha))
  obtain ⟨vs, r2, e2, z2⟩ := I.tuple (xs := [.int q.1, .int q.2.1, l2]) (.inl (.inl hb))
  have here : ∃ H', Inv X pins σ H' s ∧ Ext H H' := ⟨H, I, Ext.rfl'⟩
  obtain ⟨u0, u1, u2, rfl, ⟨t0, rfl⟩, ⟨t1, rfl⟩, ru⟩ : ∃ u0 u1 u2, us = [u0, u1, u2] ∧ RelV (.int p.1) u0 ∧ RelV (.int p.2.1) u1 ∧ RelV l1 u2 := by
    cases r with | cons a1 r => cases r with | cons a2 r => cases r with | cons a3 r => cases r with | nil => exact ⟨_, _, _, rfl, a1, a2, a3⟩
  obtain ⟨v0, v1, v2, rfl, ⟨k0, rfl⟩, ⟨k1, rfl⟩, rv⟩ : ∃ v0 v1 v2, vs = [v0, v1, v2] ∧ RelV (.int q.1) v0 ∧ RelV (.int q.2.1) v1 ∧ RelV l2 v2 := by
    cases r2 with | cons a1 r => cases r with | cons a2 r => cases r with | cons a3 r => cases r with | nil => exact ⟨_, _, _, rfl, a1, a2, a3⟩
  have st : PcI X pins σ H p q 0 s := ⟨here, fun c => absurd c (Nat.lt_irrefl _), fun c => absurd c (by omega), fun c => absurd c (by omega)⟩
  have turn : ∀ i (h1 : i < [Value.int p.1 t0, .int p.2.1 t1, u2].toArray.size) (h2 : i < [Value.int q.1 k0, .int q.2.1 k1, v2].toArray.size) t, PcI X pins σ H p q i t →
      wpAny (model X.prog X.w) A.in1 (eqBool [Value.int p.1 t0, .int p.2.1 t1, u2].toArray[i] [Value.int q.1 k0, .int q.2.1 k1, v2].toArray[i]) (fun r t2 => (r = true ∧ PcI X pins σ H p q (i + 1) t2) ∨ (r = false ∧ PcJ X pins σ H p q t2)) X.xe t := by
    intro i h1 h2 t ⟨ex, c1, c2, c3⟩
    match i, h1, h2, c1, c2, c3 with
    | 0, _, _, _, _, _ =>
      show wpAny _ _ (eqBool (Value.int p.1 t0) (.int q.1 k0)) _ _ _
      refine wpAny_eqBool_int ?_
      by_cases c : p.1 = q.1
      · exact .inl ⟨by simp [c], ex, fun _ => c, fun z => absurd z (by omega), fun z => absurd z (by omega)⟩
      · exact .inr ⟨by simp [c], ex, fun z => c (by rw [z])⟩
    | 1, _, _, c1, _, _ =>
      show wpAny _ _ (eqBool (Value.int p.2.1 t1) (.int q.2.1 k1)) _ _ _
      refine wpAny_eqBool_int ?_
      by_cases c : p.2.1 = q.2.1
      · exact .inl ⟨by simp [c], ex, fun _ => c1 (by omega), fun _ => c, fun z => absurd z (by omega)⟩
      · exact .inr ⟨by simp [c], ex, fun z => c (by rw [z])⟩
    | 2, _, _, c1, c2, _ =>
      show wpAny _ _ (eqBool u2 v2) _ _ _
      obtain ⟨H1, I1, e1⟩ := ex
      refine wpAny_mono (h A.in1 pins t σ H1 _ _ u2 v2 _ _ sb.in1 I1 ru rv (pa.same e1) (pb.same e1)) (fun r t2 q2 => ?_) fun _ _ x => x
      obtain ⟨hr, H2, I2, e2⟩ := q2
      by_cases c : p.2.2 = q.2.2
      · exact .inl ⟨by rw [hr]; exact decide_eq_true c, ⟨H2, I2, e1.trans e2⟩, fun _ => c1 (by omega), fun _ => c2 (by omega), fun _ => c⟩
      · exact .inr ⟨by rw [hr]; exact decide_eq_false c, ⟨H2, I2, e1.trans e2⟩, fun z => c (by rw [z])⟩
    | n + 3, h1, _, _, _, _ => exact absurd (show n + 3 < 3 from h1) (by omega)
  have fin : ∀ t, PcI X pins σ H p q 3 t → p = q := fun t k => pce_ext (k.2.1 (by omega)) (k.2.2.1 (by omega)) (k.2.2.2 (by omega))
  obtain ⟨⟨cls, dd, data, sl⟩, ho, hc, n1, hd⟩ := id e
  obtain ⟨⟨cls2, dd2, data2, sl2⟩, ho2, hc2, n2, hd2⟩ := id e2
  simp only at hc hd hc2 hd2
  subst hc hd hc2 hd2
  cases neg with
  | false =>
    refine wpAny_richCompare_same_room (op := .Eq) ⟨_, ho, rfl⟩ ⟨_, ho2, rfl⟩ F.slot_tuple_eq (GQ.call_here F.slot_tuple_eq ⟨_, ho, rfl⟩ F.entry_tuple_eq (F.args_tuple_eq_2 _ _) ?_) sb.room.units0
    refine tup_eq (R := wants (fun v s' => v ≠ .notImplemented ∧ _) X.xe) a b _ _ _ _ _ _ _ _ (PcI X pins σ H p q) (PcJ X pins σ H p q) turn (fun t k => ⟨(fun x => nomatch x), ?_, k.1⟩) (fun t k => ⟨(fun x => nomatch x), ?_, k.1⟩) ho ho2 st
    · rw [decide_eq_true (fin t k)]; rfl
    · rw [decide_eq_false k.2]; rfl
  | true =>
    refine wpAny_richCompare_same_room (op := .NotEq) ⟨_, ho, rfl⟩ ⟨_, ho2, rfl⟩ F.slot_tuple_ne (GQ.call_here F.slot_tuple_ne ⟨_, ho, rfl⟩ F.entry_tuple_ne (F.args_tuple_ne_2 _ _) ?_) sb.room.units0
    refine tup_ne (R := wants (fun v s' => v ≠ .notImplemented ∧ _) X.xe) a b _ _ _ _ _ _ _ _ (PcI X pins σ H p q) (PcJ X pins σ H p q) turn (fun t k => ⟨(fun x => nomatch x), ?_, k.1⟩) (fun t k => ⟨(fun x => nomatch x), ?_, k.1⟩) ho ho2 st
    · rw [decide_eq_true (fin t k)]; rfl
    · rw [decide_eq_false k.2]; rfl
theorem eqR_pc {X : Cx} {CL : Addr} (h : EqR X 1 (LnAt CL)) : EqR X 2 (PcT CL) := (rcR_pc h false).eqR mon_pc fun _ _ _ ⟨t, _, e, _⟩ => ⟨t, e⟩
/-! ### tuples of pieces -/
def TUp (CL : Addr) : Rep (List Pce) := fun H v L => ∃ p ys, v = .ref p ∧ H p = some (.tup ys) ∧ All2 (PcT CL H) ys L
theorem mon_tup {CL : Addr} : MonR (TUp CL) := ⟨fun e ⟨p, ys, h1, h2, h3⟩ => ⟨p, ys, h1, e _ _ h2, h3.imp fun _ _ h => h.same e⟩, fun ⟨p, ys, h1, h2, h3⟩ ⟨p', ys', k1, k2, k3⟩ => by
  subst h1
  cases k1
  rw [h2] at k2
  cases k2
  exact all2_fn (Rp := PcT CL _) (fun _ _ _ h h' => h.fn h') h3 k3⟩
theorem TUp.kp {CL : Addr} {H H' : Hp} {v : V} {L : List Pce} (h : TUp CL H v L) (k : KP H H') : TUp CL H' v L := by
  obtain ⟨p, ys, h1, h2, h3⟩ := h
  exact ⟨p, ys, h1, k.tup h2, h3.imp fun _ _ e => e.kp k⟩
theorem eqR_tup {X : Cx} {CL : Addr} (h : EqR X 1 (LnAt CL)) : EqR X 3 (TUp CL) := by
  refine RcR.eqR (n := 3) (Rp := TUp CL) mon_tup ?_ fun _ _ _ ⟨p, _, e, _⟩ => ⟨p, e⟩
  intro A pins s σ H x y u v L M sb I rx ry ⟨a, xs, h1, h2, h3⟩ ⟨b, ys, k1, k2, k3⟩
  exact rcR_tup mon_pc (eqR_pc h) false A pins s σ H x y u v L M sb I rx ry ⟨a, xs, h1, .inl (.inl h2), h3⟩ ⟨b, ys, k1, .inl (.inl k2), k3⟩
end OR

namespace OR
open PySem PySem.Spec PyProof.Rows L2
/-! ### the told pieces of two programs -/
def valT (N : Tld) (s : Str) : Option (List Pce) := (N.find? fun t => decide (t.1 = s)).map (·.2)
def dEq (M N : Tld) : Bool := decide (M.length = N.length) && M.all fun m => decide (valT N m.1 = some m.2)
def EntU (CL : Addr) (H : Hp) (e : Key × V) (t : Str × List Pce) : Prop := e.1 = .inr t.1 ∧ TUp CL H e.2 t.2
theorem entU {CL : Addr} {H : Hp} {e : Key × V} {t : Str × List Pce} (h : EntP CL H e t) : EntU CL H e t := by
  obtain ⟨h0, p, ys, h1, h2, h3⟩ := h
  exact ⟨h0, p, ys, h1, h2, h3⟩
theorem val_T {CL : Addr} {H : Hp} {s : Str} : ∀ {kvs : List (Key × V)} {N : Tld}, All2 (EntU CL H) kvs N → (valV kvs (.inr s) = none ∧ valT N s = none) ∨ ∃ y L, valV kvs (.inr s) = some y ∧ valT N s = some L ∧ TUp CL H y L
  | _, _, .nil => .inl ⟨rfl, rfl⟩
  | e :: kvs, t :: N, .cons h r => by
    by_cases c : t.1 = s
    · refine .inr ⟨e.2, t.2, valV_pos (by rw [h.1, c]), ?_, h.2⟩
      unfold valT
      rw [List.find?_cons, decide_eq_true c]; rfl
    · have e1 : valV (e :: kvs) (.inr s) = valV kvs (.inr s) := valV_neg (by rw [h.1]; exact fun z => c (Sum.inr.inj z))
      have e2 : valT (t :: N) s = valT N s := by
        unfold valT
        rw [List.find?_cons, decide_eq_false c]
      rw [e1, e2]
      exact val_T r
section
variable {X : Cx} {pins : List (Addr × Obj)} {σ : L2.St} {H : Hp} {s : Shared}
theorem lock2 {a b : Addr} {ka kb : List (Key × V)} (I : Inv X pins σ H s) (ha : H a = some (.dK ka)) (hb : H b = some (.dK kb)) :
    ∃ oa ob H2, Inv X pins σ H2 s ∧ H2 a = some (.frz oa (.dK ka)) ∧ H2 b = some (.frz ob (.dK kb)) ∧ KP H H2 ∧ ∀ H' t, Inv X pins σ H' t → Ext H2 H' → ∃ H'', Inv X pins σ H'' t ∧ Ext H H'' := by
  obtain ⟨oa, I1⟩ := I.lock ha trivial
  by_cases hab : a = b
  · subst hab
    rw [ha] at hb
    cases hb
    refine ⟨oa, oa, _, I1, upd_same, upd_same, kp_dk ha, fun H' t I' e => ⟨_, I'.unlock (e _ _ upd_same) (I.nofrz ha trivial), fun c o hc => ?_⟩⟩
    by_cases h : c = a
    · subst h; rw [ha] at hc; rw [upd_same, hc]
    · rw [upd_ne h]; exact e c o (by rw [upd_ne h]; exact hc)
  · have hb1 : (upd H a (.frz oa (.dK ka))) b = some (.dK kb) := by rw [upd_ne (Ne.symm hab)]; exact hb
    obtain ⟨ob, I2⟩ := I1.lock hb1 trivial
    have f1 : (upd (upd H a (.frz oa (.dK ka))) b (.frz ob (.dK kb))) a = some (.frz oa (.dK ka)) := by rw [upd_ne hab, upd_same]
    refine ⟨oa, ob, _, I2, f1, upd_same, (kp_dk ha).trans (kp_dk hb1), fun H' t I' e => ?_⟩
    have J1 := I'.unlock (e _ _ upd_same) (I.nofrz hb trivial)
    have J2 := J1.unlock (d := a) (od := oa) (u := .dK ka) (by rw [upd_ne hab]; exact e _ _ f1) (I.nofrz ha trivial)
    refine ⟨_, J2, fun c o hc => ?_⟩
    by_cases h : c = a
    · subst h; rw [ha] at hc; rw [upd_same, hc]
    · rw [upd_ne h]
      by_cases h2 : c = b
      · subst h2; rw [hb] at hc; rw [upd_same, hc]
      · rw [upd_ne h2]; exact e c o (by rw [upd_ne h2, upd_ne h]; exact hc)
end
theorem rc_told {X : Cx} {n : Nat} {CL : Addr} (h : EqR X n (TUp CL)) {A : Around} {pins : List (Addr × Obj)} {s : Shared} {σ : L2.St} {H : Hp} {a b : Addr} {ka kb : List (Key × V)} {M N : Tld} (sb : Sub X (n + 1) A) (I : Inv X pins σ H s)
    (ha : H a = some (.dK ka)) (hb : H b = some (.dK kb)) (hM : All2 (EntU CL H) ka M) (hN : All2 (EntU CL H) kb N) : wpAny (model X.prog X.w) A (richCompare .Eq (.ref a) (.ref b)) (fun r t => r = .bool (dEq M N) ∧ ∃ H', Inv X pins σ H' t ∧ Ext H H') X.xe s := by
  obtain ⟨oa, ob, H2, I2, f1, f2, k2, back⟩ := lock2 I ha hb
  obtain ⟨sa, ga, xa, es, ep, va, da, za, kva, ata⟩ := I2.frzK f1
  obtain ⟨sb', gb, xb, es', ep', vb, db, zb, kvb, atb⟩ := I2.frzK f2
  obtain ⟨o1, e1, h1, _, hd1, key1, pr1, _⟩ := ata
  rw [ga] at h1
  cases h1
  rw [da] at hd1
  cases hd1
  obtain ⟨o2, e2, h2, _, hd2, key2, pr2, _⟩ := atb
  rw [gb] at h2
  cases h2
  rw [db] at hd2
  cases hd2
  have hM2 : All2 (EntU CL H2) ka M := hM.imp fun _ _ h => ⟨h.1, h.2.kp k2⟩
  have hN2 : All2 (EntU CL H2) kb N := hN.imp fun _ _ h => ⟨h.1, h.2.kp k2⟩
  have la : va.length = M.length := (Paired.length kva).symm.trans hM2.length
  have lb : vb.length = N.length := (Paired.length kvb).symm.trans hN2.length
  have ext : ∀ t, (∃ H', Inv X pins σ H' t ∧ Ext H2 H') → ∃ H', Inv X pins σ H' t ∧ Ext H H' := fun t ⟨H', I', e⟩ => back H' t I' e
  have bad : ∀ m ∈ M, valT N m.1 ≠ some m.2 → dEq M N = false := fun m hm hne => by
    unfold dEq
    rw [Bool.and_eq_false_iff]
    refine .inr ?_
    rw [List.all_eq_false]
    exact ⟨m, hm, by simpa using hne⟩
  have at_i : ∀ (i : Nat) (k : Key) (v : Value), va[i]? = some (k, v) → ∃ (m : Str × List Pce) (v0 : V), M[i]? = some m ∧ k = .inr m.1 ∧ RelV v0 v ∧ TUp CL H2 v0 m.2 := fun i k v hv => by
    have hi := (List.getElem?_eq_some_iff.mp hv).1
    have hi2 : i < ka.length := by rw [show ka.length = va.length from Paired.length kva]; exact hi
    obtain ⟨q, hq, e1, e2⟩ := paired_get kva (List.getElem?_eq_getElem hi2)
    rw [hv] at hq
    cases hq
    obtain ⟨m, hm, hE⟩ := hM2.getL (List.getElem?_eq_getElem hi2)
    exact ⟨m, _, hm, by rw [← hE.1]; exact e1.symm, e2, hE.2⟩
  refine rcS_dicts (knd := mixKind X.prog X.w) (ka := va) (kb := vb) (fun i t => (∃ H', Inv X pins σ H' t ∧ Ext H2 H') ∧ ∀ m ∈ M.take i, valT N m.1 = some m.2) (fun t => (∃ H', Inv X pins σ H' t ∧ Ext H2 H') ∧ dEq M N = false) sa sb' da db xa xb key1 key2 pr1 pr2 ?_ ?_ ?_ ?_ ?_ ?_ sb.room.units0 ⟨⟨H2, I2, Ext.rfl'⟩, by simp⟩
  · rintro i t ⟨⟨H', I', e⟩, _⟩
    exact ⟨(I'.frzK (e _ _ f1)).2.1, (I'.frzK (e _ _ f2)).2.1⟩
  · rintro hL i k v y t hv hy ⟨⟨H', I', e⟩, hall⟩
    obtain ⟨m, v0, hm, rfl, rv, T1⟩ := at_i i k v hv
    have hrel := KV.val kvb (.inr m.1)
    rw [hy] at hrel
    rcases val_T (s := m.1) hN2 with ⟨z1, _⟩ | ⟨y0, L, z1, z2, T2⟩
    · rw [z1] at hrel; exact hrel.elim
    · rw [z1] at hrel
      refine wpAny_mono (h A.in1 pins t σ H' v0 y0 v y m.2 L sb.in1 I' rv hrel (mon_tup.up e T1) (mon_tup.up e T2)) (fun r t2 q => ?_) fun _ _ x => x
      obtain ⟨hr, H3, I3, e3⟩ := q
      by_cases c : m.2 = L
      · refine .inl ⟨by rw [hr]; exact decide_eq_true c, ⟨H3, I3, e.trans e3⟩, fun m' hm' => ?_⟩
        rw [List.take_add_one, hm] at hm'
        rcases List.mem_append.mp hm' with z | z
        · exact hall m' z
        · have : m' = m := by simpa using z
          rw [this, z2, c]
      · refine .inr ⟨by rw [hr]; exact decide_eq_false c, ⟨H3, I3, e.trans e3⟩, bad m (List.mem_of_getElem? hm) fun z => ?_⟩
        rw [z2] at z
        exact c (Option.some.inj z).symm
  · rintro hL i k v t hv hy ⟨ex, hall⟩
    obtain ⟨m, v0, hm, rfl, rv, T1⟩ := at_i i k v hv
    have hrel := KV.val kvb (.inr m.1)
    rw [hy] at hrel
    rcases val_T (s := m.1) hN2 with ⟨z1, z2⟩ | ⟨y0, L, z1, z2, T2⟩
    · exact ⟨by rw [bad m (List.mem_of_getElem? hm) (by rw [z2]; exact fun z => nomatch z)], ext t ex⟩
    · rw [z1] at hrel; exact hrel.elim
  · rintro t ⟨ex, e⟩
    exact ⟨by rw [e], ext t ex⟩
  · rintro hL t ⟨ex, hall⟩
    refine ⟨?_, ext t ex⟩
    rw [la, List.take_of_length_le (Nat.le_refl _)] at hall
    have : dEq M N = true := by
      unfold dEq
      rw [Bool.and_eq_true, List.all_eq_true]
      exact ⟨decide_eq_true (by omega), fun m hm => decide_eq_true (hall m hm)⟩
    rw [this]
  · rintro hL t ⟨ex, _⟩
    refine ⟨?_, ext t ex⟩
    have : dEq M N = false := by
      unfold dEq
      rw [decide_eq_false (by omega), Bool.false_and]
    rw [this]
/-- == of the told pieces as an expression -/
def rTldEq (CL : Addr) : R2 := fun x y H Q => ∃ a b ka kb M N, x = .ref a ∧ y = .ref b ∧ H a = some (.dK ka) ∧ H b = some (.dK kb) ∧ All2 (EntP CL H) ka M ∧ All2 (EntP CL H) kb N ∧ ∀ H', Same H H' → Q (.bl (dEq M N)) H'
theorem op_tldEq {X : Cx} {CL : Addr} {n : Nat} (h : EqR X n (TUp CL)) (hr : Room (n + 1) X.A) : OpR X (compareOp .Eq) (rTldEq CL) := by
  intro pins s σ H x y v u Q I rx ry ⟨a, b, ka, kb, M, N, ex, ey, ha, hb, hM, hN, q⟩
  subst ex ey
  obtain rfl : v = Value.ref a := rx
  obtain rfl : u = Value.ref b := ry
  show wpAny (model X.prog X.w) X.A (richCompare .Eq _ _) (EP X pins σ Q) X.xe s
  refine wpAny_mono (rc_told h ⟨hr, rfl⟩ I ha hb (hM.imp fun _ _ h => entU h) (hN.imp fun _ _ h => entU h)) (fun r t z => ?_) fun _ _ x => x
  obtain ⟨er, H', I', e⟩ := z
  subst er
  exact ⟨.bl _, H', I', rfl, q H' e⟩
/-! ### Program.__eq__ -/
def spGEq (K : PySem.W.Frag) (CG CL : Addr) : Sp := fun vs H Q _ => ∃ (x : Addr) (n : Int) (M : Tld) (y : V), vs = [.ref x, y] ∧ IsG CG CL H x n M ∧
  ((∃ (u : Addr) (m : Int) (N : Tld), y = .ref u ∧ IsG CG CL H u m N ∧ ∀ H', Same H H' → Q (.bl (decide (n = m) && dEq M N)) H') ∨ ((∃ tb, TyX K H y tb ∧ PySem.W.kitOne K tb (.ref CG) = some false) ∧ Q (.bl false) H))
section
variable {P : Program} {w : World} {K : PySem.W.Frag} {mg : Str → Option Value} {base : Heap} {CL CG : Addr}
theorem scGEq : FnScope ["self", "other"] ["self", "other"] (defScope sProgramEq) := ⟨rfl, rfl, rfl, by decide +kernel, rfl, by decide +kernel, by decide +kernel⟩
theorem tyGx (GT : GTxt K mg CG) (gi : SlX.SIsi K CG) {H : Hp} {x dx : Addr} {fs : List (Str × V)} (hx : H x = some (.ins CG dx fs)) : TyX K H (.ref x) (.ref CG) := .base (.ins hx GT.cl gi.ca gi.cn gi.ct gi.cm)
theorem ok_geq {f : Addr} {fd : FuncData} (F : Fun K "__eq__" "Program.__eq__" sProgramEq f fd) (GT : GTxt K mg CG) (gi : SlX.SIsi K CG) (kGG : PySem.W.kitOne K (.ref CG) (.ref CG) = some true) (zI : mg "isinstance" = none) (EQ : LEqF P w K mg base CL) : FnOk P w K mg base CX0 5 f fd ["self", "other"] (spGEq K CG CL) := by
  refine F.ok scGEq (fun vs H Q E h => ?_) (fun cdv A outer s H vs Q E hr h => ?_)
  · obtain ⟨x, n, M, y, rfl, _⟩ := h; rfl
  · obtain ⟨x, n, M, y, rfl, hG, h⟩ := h
    refine ⟨_, pss_one (ps_ret (pe_and (pe_callB call_isi (by rfl) zI bt_isi (pa_cons (pv 1) (pa_cons (pe_glob (v := .ref CG) (by rfl) GT.mgG rfl) pa_nil)))
      (pe_and (pe_cmpR op_eq (pe_fld (pv 0) rfl) (pe_fld (pv 1) rfl) (nomark _)) (pe_one (pe_cmpR (op_tldEq (n := 3) (eqR_tup (eqR_ln EQ)) (hr.mono (by decide))) (pe_fld (pv 0) rfl) (pe_fld (pv 1) rfl) (nomark _)))))), ?_⟩
    obtain ⟨dx, fa, ta, kv, h1, h2, h3, h4⟩ := id hG
    rcases h with ⟨u, m, N, rfl, hU, q⟩ | ⟨⟨tb, ty, kb⟩, q⟩
    · obtain ⟨dy, fb, tb, kv2, u1, u2, u3, u4⟩ := id hU
      refine ⟨_, rfl, .ref u, .ref CG, _, _, true, rfl, .own CG, tyGx GT gi u1, kGG, true, rfl, iteT ?_⟩
      refine ⟨_, rfl, x, CG, dx, _, _, rfl, h1, GT.cl, GT.nL, gFl_l _ _ _, _, rfl, u, CG, dy, _, _, rfl, u1, GT.cl, GT.nL, gFl_l _ _ _, rfl, _, rfl, ite2 (fun e => ?_) (fun e => ?_)⟩
      · have e1 : n = m := by have := of_decide_eq_true e; cases this; rfl
        refine ⟨_, rfl, x, CG, dx, _, _, rfl, h1, GT.cl, GT.nT, gFl_t _ _ _, _, rfl, u, CG, dy, _, _, rfl, u1, GT.cl, GT.nT, gFl_t _ _ _, ta, tb, kv, kv2, M, N, rfl, rfl, h3, u3, h4, u4, fun H' s' => ?_⟩
        have := q H' s'
        rw [decide_eq_true e1, Bool.true_and] at this
        exact this
      · have e1 : ¬ n = m := fun z => e (decide_eq_true (by rw [z]))
        have := q H (Same.refl _)
        rw [decide_eq_false e1, Bool.false_and] at this
        exact this
    · exact ⟨_, rfl, y, .ref CG, _, _, false, rfl, .own CG, ty, kb, false, rfl, iteF q⟩
end
end OR

namespace OR
open PySem PySem.Spec PyProof.Rows L2
/-! ### where two rows of stretches have places in common -/
abbrev Sch := Int × Int
def Upw (A : List Sch) : Prop := A.Pairwise (fun p q => p.2 < q.1) ∧ ∀ p ∈ A, p.1 ≤ p.2
abbrev Ovr := Sch × (Nat × Nat)
structure OvI (A B : List Sch) (i j : Nat) (R : List Ovr) : Prop where
  ok : ∀ r ∈ R, ∃ p q, A[r.2.1]? = some p ∧ B[r.2.2]? = some q ∧ p.1 ≤ r.1.1 ∧ q.1 ≤ r.1.1 ∧ r.1.1 ≤ r.1.2 ∧ r.1.2 ≤ p.2 ∧ r.1.2 ≤ q.2
  asc : R.Pairwise (fun r s => r.1.2 < s.1.1)
  bef : ∀ r ∈ R, (∀ p, A[i]? = some p → r.1.2 < p.1) ∨ (∀ q, B[j]? = some q → r.1.2 < q.1)
  all : ∀ (x : Int) (i' j' : Nat) (p q : Sch), A[i']? = some p → B[j']? = some q → p.1 ≤ x → x ≤ p.2 → q.1 ≤ x → x ≤ q.2 → (i' < i ∨ j' < j) → ∃ r ∈ R, r.1.1 ≤ x ∧ x ≤ r.1.2
  len : R.length ≤ i + j
theorem Upw.lt {A : List Sch} (h : Upw A) {i j : Nat} {p q : Sch} (hi : A[i]? = some p) (hj : A[j]? = some q) (lt : i < j) : p.2 < q.1 := by
  obtain ⟨i1, e1⟩ := List.getElem?_eq_some_iff.mp hi
  obtain ⟨j1, e2⟩ := List.getElem?_eq_some_iff.mp hj
  have := List.pairwise_iff_getElem.mp h.1 i j i1 j1 lt
  rw [e1, e2] at this
  exact this
theorem Upw.le {A : List Sch} (h : Upw A) {i : Nat} {p : Sch} (hi : A[i]? = some p) : p.1 ≤ p.2 := h.2 p (List.mem_of_getElem? hi)
def mxI (a b : Int) : Int := if b > a then b else a
def mnI (a b : Int) : Int := if b < a then b else a
def ovp (p q : Sch) (i j : Nat) : List Ovr := if mxI p.1 q.1 ≤ mnI p.2 q.2 then [((mxI p.1 q.1, mnI p.2 q.2), (i, j))] else []
theorem ov_push {A B : List Sch} (hA : Upw A) (hB : Upw B) {i j : Nat} {R : List Ovr} {p q : Sch} (h : OvI A B i j R) (hp : A[i]? = some p) (hq : B[j]? = some q) :
    (p.2 < q.2 → OvI A B (i + 1) j (R ++ ovp p q i j)) ∧ (¬ p.2 < q.2 → OvI A B i (j + 1) (R ++ ovp p q i j)) := by
  have lp := hA.le hp
  have lq := hB.le hq
  have mx1 : p.1 ≤ mxI p.1 q.1 ∧ q.1 ≤ mxI p.1 q.1 := by unfold mxI; split <;> omega
  have mn1 : mnI p.2 q.2 ≤ p.2 ∧ mnI p.2 q.2 ≤ q.2 := by unfold mnI; split <;> omega
  have both : ∀ x, p.1 ≤ x → x ≤ p.2 → q.1 ≤ x → x ≤ q.2 → ∃ r ∈ R ++ ovp p q i j, r.1.1 ≤ x ∧ x ≤ r.1.2 := fun x h1 h2 h3 h4 => by
    have a1 : mxI p.1 q.1 ≤ x := by unfold mxI; split <;> omega
    have a2 : x ≤ mnI p.2 q.2 := by unfold mnI; split <;> omega
    refine ⟨((mxI p.1 q.1, mnI p.2 q.2), (i, j)), List.mem_append_right _ ?_, a1, a2⟩
    unfold ovp
    rw [if_pos (by omega)]
    exact List.mem_cons_self
  have old : ∀ r ∈ R, ∃ r' ∈ R ++ ovp p q i j, r' = r := fun r hr => ⟨r, List.mem_append_left _ hr, rfl⟩
  have ok : ∀ r ∈ R ++ ovp p q i j, ∃ p q, A[r.2.1]? = some p ∧ B[r.2.2]? = some q ∧ p.1 ≤ r.1.1 ∧ q.1 ≤ r.1.1 ∧ r.1.1 ≤ r.1.2 ∧ r.1.2 ≤ p.2 ∧ r.1.2 ≤ q.2 := fun r hr => by
    rcases List.mem_append.mp hr with m | m
    · exact h.ok r m
    · unfold ovp at m
      split at m
      · next c =>
        rw [List.mem_singleton.mp m]
        exact ⟨p, q, hp, hq, mx1.1, mx1.2, c, mn1.1, mn1.2⟩
      · cases m
  have lowr : ∀ r ∈ R, r.1.2 < mxI p.1 q.1 := fun r hr => by
    rcases h.bef r hr with z | z
    · have := z p hp; omega
    · have := z q hq; omega
  have asc : (R ++ ovp p q i j).Pairwise (fun r s => r.1.2 < s.1.1) := by
    refine List.pairwise_append.mpr ⟨h.asc, ?_, fun r hr s hs => ?_⟩
    · unfold ovp; split <;> simp
    · unfold ovp at hs
      split at hs
      · rw [List.mem_singleton.mp hs]; exact lowr r hr
      · cases hs
  have lenp : (ovp p q i j).length ≤ 1 := by unfold ovp; split <;> simp
  have len : (R ++ ovp p q i j).length ≤ i + j + 1 := by rw [List.length_append]; have := h.len; omega
  refine ⟨fun c => ⟨ok, asc, fun r hr => ?_, fun x i' j' p' q' h1 h2 h3 h4 h5 h6 h7 => ?_, by omega⟩, fun c => ⟨ok, asc, fun r hr => ?_, fun x i' j' p' q' h1 h2 h3 h4 h5 h6 h7 => ?_, by omega⟩⟩
  · rcases List.mem_append.mp hr with m | m
    · rcases h.bef r m with z | z
      · refine .inl fun p' hp' => ?_
        have := z p hp
        have := hA.lt hp hp' (Nat.lt_succ_self i)
        omega
      · exact .inr z
    · unfold ovp at m
      split at m
      · rw [List.mem_singleton.mp m]
        refine .inl fun p' hp' => ?_
        have := hA.lt hp hp' (Nat.lt_succ_self i)
        show mnI p.2 q.2 < p'.1
        omega
      · cases m
  · by_cases c1 : i' < i ∨ j' < j
    · obtain ⟨r, hr, k1, k2⟩ := h.all x i' j' p' q' h1 h2 h3 h4 h5 h6 c1
      exact ⟨r, List.mem_append_left _ hr, k1, k2⟩
    · have e1 : i' = i := by omega
      subst e1
      rw [hp] at h1
      cases h1
      by_cases e2 : j' = j
      · subst e2
        rw [hq] at h2
        cases h2
        exact both x h3 h4 h5 h6
      · have := hB.lt hq h2 (by omega)
        omega
  · rcases List.mem_append.mp hr with m | m
    · rcases h.bef r m with z | z
      · exact .inl z
      · refine .inr fun q' hq' => ?_
        have := z q hq
        have := hB.lt hq hq' (Nat.lt_succ_self j)
        omega
    · unfold ovp at m
      split at m
      · rw [List.mem_singleton.mp m]
        refine .inr fun q' hq' => ?_
        have := hB.lt hq hq' (Nat.lt_succ_self j)
        show mnI p.2 q.2 < q'.1
        omega
      · cases m
  · by_cases c1 : i' < i ∨ j' < j
    · obtain ⟨r, hr, k1, k2⟩ := h.all x i' j' p' q' h1 h2 h3 h4 h5 h6 c1
      exact ⟨r, List.mem_append_left _ hr, k1, k2⟩
    · have e1 : j' = j := by omega
      subst e1
      rw [hq] at h2
      cases h2
      by_cases e2 : i' = i
      · subst e2
        rw [hp] at h1
        cases h1
        exact both x h3 h4 h5 h6
      · have := hA.lt hp h1 (by omega)
        omega
theorem ov_start (A B : List Sch) : OvI A B 0 0 [] := ⟨(fun _ h => nomatch h), List.Pairwise.nil, (fun _ h => nomatch h), (fun _ _ _ _ _ _ _ _ _ _ _ h => by omega), Nat.le_refl _⟩
/-- all places that two rows of stretches share, in order -/
structure OvD (A B : List Sch) (R : List Ovr) : Prop where
  ok : ∀ r ∈ R, ∃ p q, A[r.2.1]? = some p ∧ B[r.2.2]? = some q ∧ p.1 ≤ r.1.1 ∧ q.1 ≤ r.1.1 ∧ r.1.1 ≤ r.1.2 ∧ r.1.2 ≤ p.2 ∧ r.1.2 ≤ q.2
  asc : R.Pairwise (fun r s => r.1.2 < s.1.1)
  all : ∀ (x : Int) (p q : Sch), p ∈ A → q ∈ B → p.1 ≤ x → x ≤ p.2 → q.1 ≤ x → x ≤ q.2 → ∃ r ∈ R, r.1.1 ≤ x ∧ x ≤ r.1.2
  len : R.length ≤ A.length + B.length
theorem ov_end {A B : List Sch} {i j : Nat} {R : List Ovr} (h : OvI A B i j R) (hi : i ≤ A.length) (hj : j ≤ B.length) (e : A.length ≤ i ∨ B.length ≤ j) : OvD A B R := by
  refine ⟨h.ok, h.asc, fun x p q hp hq h1 h2 h3 h4 => ?_, by have := h.len; omega⟩
  obtain ⟨i', hi'⟩ := List.getElem?_of_mem hp
  obtain ⟨j', hj'⟩ := List.getElem?_of_mem hq
  have := (List.getElem?_eq_some_iff.mp hi').1
  have := (List.getElem?_eq_some_iff.mp hj').1
  exact h.all x i' j' p q hi' hj' h1 h2 h3 h4 (by omega)
/-- a row that begins with a stretch -/
def StR (H : Hp) (v : V) (p : Sch) : Prop := ∃ t u, v = .ref t ∧ H t = some (.tup [.int p.1, .int p.2, u])
def OvT (H : Hp) (v : V) (r : Ovr) : Prop := ∃ t, v = .ref t ∧ H t = some (.tup [.int r.1.1, .int r.1.2, .int (r.2.1 : Int), .int (r.2.2 : Int)])
theorem StR.same {H H' : Hp} {v : V} {p : Sch} (h : StR H v p) (s : Same H H') : StR H' v p := by obtain ⟨t, u, e, h⟩ := h; exact ⟨t, u, e, s _ _ h⟩
theorem OvT.kp {H H' : Hp} {v : V} {p : Ovr} (h : OvT H v p) (k : KP H H') : OvT H' v p := by obtain ⟨t, e, h⟩ := h; exact ⟨t, e, k.tup h⟩
def spOv : Sp := fun vs H Q _ => ∃ (a b : Addr) (xs ys : List V) (A B : List Sch), vs = [.ref a, .ref b] ∧ H a = some (.lst xs) ∧ H b = some (.lst ys) ∧ All2 (StR H) xs A ∧ All2 (StR H) ys B ∧ Upw A ∧ Upw B ∧ A.length ≤ 400 ∧ B.length ≤ 400 ∧
  ∀ c zs R H', H c = none → H' c = some (.lst zs) → All2 (OvT H') zs R → OvD A B R → Same H H' → Q (.ref c) H'
section
variable {P : Program} {w : World} {K : PySem.W.Frag} {mg : Str → Option Value} {base : Heap} {CL CG : Addr}
theorem scOv : FnScope ["ones", "others", "rows", "at", "beside", "first", "last"] ["ones", "others"] (defScope pOverlaps) := ⟨rfl, rfl, rfl, by decide +kernel, rfl, by decide +kernel, by decide +kernel⟩
set_option maxHeartbeats 1000000 in
theorem ok_ov {f : Addr} {fd : FuncData} (F : Fun K "overlaps" "overlaps" pOverlaps f fd) (N : NTxt mg) (zMin : mg "min" = none) (zMax : mg "max" = none) : FnOk P w K mg base CX0 1 f fd ["ones", "others"] spOv := by
  refine F.ok scOv (fun vs H Q E h => ?_) (fun cdv A outer s H vs Q E hr h => ?_)
  · obtain ⟨a, b, xs, ys, A, B, rfl, _⟩ := h
    rfl
  · obtain ⟨a, b, xs, ys, LA, LB, rfl, ha, hb, hX, hY, uA, uB, la, lb, q⟩ := h
    have nd := scOv.nd
    refine ⟨_, pss_cons (ps_set (i := 2) nd rfl (.inl rfl) (pe_lst pa_nil))
      (pss_cons (ps_set (i := 3) nd rfl (.inl rfl) pe_int)
      (pss_cons (ps_set (i := 4) nd rfl (.inl rfl) pe_int)
      (pss_cons (ps_while PassesOwn.never (PW.pt (pw_and (pt_cmpR op_lt (pv 3) (pe_callB call_len_seq (by rfl) N.zLen PySem.boot_len (pa_cons (pv 0) pa_nil)) (nomark _)) (pw_and1 (pt_cmpR op_lt (pv 4) (pe_callB call_len_seq (by rfl) N.zLen PySem.boot_len (pa_cons (pv 1) pa_nil)) (nomark _)))))
          (pss_cons (ps_set (i := 5) nd rfl (.inl rfl) (pe_callB (call_max2 rfl) (by rfl) zMax bt_max (pa_cons (pe_ix (ix_tupK K rfl) (pe_ix (ix_listK K rfl) (pv 0) (pv 3) (fun _ _ => rfl)) pe_int (fun _ _ => rfl)) (pa_cons (pe_ix (ix_tupK K rfl) (pe_ix (ix_listK K rfl) (pv 1) (pv 4) (fun _ _ => rfl)) pe_int (fun _ _ => rfl)) pa_nil))))
          (pss_cons (ps_set (i := 6) nd rfl (.inl rfl) (pe_callB (call_min2 rfl) (by rfl) zMin bt_min (pa_cons (pe_ix (ix_tupK K rfl) (pe_ix (ix_listK K rfl) (pv 0) (pv 3) (fun _ _ => rfl)) pe_int (fun _ _ => rfl)) (pa_cons (pe_ix (ix_tupK K rfl) (pe_ix (ix_listK K rfl) (pv 1) (pv 4) (fun _ _ => rfl)) pe_int (fun _ _ => rfl)) pa_nil))))
          (Evl.pss_cut (ps_if (pt_cmpR op_le (pv 5) (pv 6) (nomark _))
              (pss_one (ps_expr (pe_bm PySem.F.plainAttrs_list PySem.F.slot_list_append PySem.F.type_list_append mt_append (pv 2) (pa_cons (pe_tup (pa_cons (pv 5) (pa_cons (pv 6) (pa_cons (pv 3) (pa_cons (pv 4) pa_nil))))) pa_nil))))
              pss_nil)
          (pss_one (ps_if (pt_cmpR op_lt (pe_ix (ix_tupK K rfl) (pe_ix (ix_listK K rfl) (pv 0) (pv 3) (fun _ _ => rfl)) pe_int (fun _ _ => rfl)) (pe_ix (ix_tupK K rfl) (pe_ix (ix_listK K rfl) (pv 1) (pv 4) (fun _ _ => rfl)) pe_int (fun _ _ => rfl)) (nomark _))
              (pss_one (ps_aug (i := 3) nd rfl (.inl rfl) pe_int ip_add))
              (pss_one (ps_aug (i := 4) nd rfl (.inl rfl) pe_int ip_add))))))))
      (pss_one (ps_ret (pv 2)))))), ?_⟩
    have lxs := hX.length
    have lys := hY.length
    refine ⟨by show 0 ≤ sizeLine; decide, fun o no => ?_⟩
    have s1 := same_lay (o := .lst []) no
    refine ⟨fun m σ G => ∃ (i j : Nat) (s5 s6 : Option V) (zs : List V) (R : List Ovr), m = (LA.length - i) + (LB.length - j) ∧ σ = [some (.ref a), some (.ref b), some (.ref o), some (.int (i : Int)), some (.int (j : Int)), s5, s6] ∧ i ≤ LA.length ∧ j ≤ LB.length ∧ G o = some (.lst zs) ∧ All2 (OvT G) zs R ∧ OvI LA LB i j R ∧ Same H G,
      ⟨_, 0, 0, none, none, [], [], rfl, rfl, Nat.zero_le _, Nat.zero_le _, upd_same, .nil, ov_start _ _, s1⟩, ?_⟩
    rintro m σ G ⟨i, j, s5, s6, zs, R, rfl, rfl, hi, hj, ho, hR, hI, sG⟩
    have fin : LA.length ≤ i ∨ LB.length ≤ j → Q (.ref o) G := fun e => q o zs R G no ho hR (ov_end hI hi hj e) sG
    refine ⟨_, rfl, _, rfl, a, xs, rfl, .inl (.inl (.inl (sG _ _ ha))), _, _, rfl, rfl, _, rfl, ite2 (fun c1 => ?_) (fun c1 => ?_)⟩
    · have hi' : i < LA.length := by
        have := of_decide_eq_true c1
        omega
      refine ⟨_, rfl, _, rfl, b, ys, rfl, .inl (.inl (.inl (sG _ _ hb))), _, _, rfl, rfl, _, rfl, ite2 (fun c2 => ?_) (fun c2 => ?_)⟩
      · have hj' : j < LB.length := by
          have := of_decide_eq_true c2
          omega
        obtain ⟨p, hp, tp, up, ep, hp2⟩ := all2_get hX (show xs[i]? = some (xs[i]'(by omega)) by simp)
        obtain ⟨q', hq', tq, uq, eq, hq2⟩ := all2_get hY (show ys[j]? = some (ys[j]'(by omega)) by simp)
        have ai : atI xs (i : Int) = some (.ref tp) := by rw [← ep]; exact atI_nat (by simp)
        have aj : atI ys (j : Int) = some (.ref tq) := by rw [← eq]; exact atI_nat (by simp)
        have La : SqL K G a xs := .inl (.inl (sG _ _ ha))
        have Lb : SqL K G b ys := .inl (.inl (sG _ _ hb))
        have Tp : SqT K G tp [.int p.1, .int p.2, up] := .inl (.inl (sG _ _ hp2))
        have Tq : SqT K G tq [.int q'.1, .int q'.2, uq] := .inl (.inl (sG _ _ hq2))
        have push := ov_push uA uB hI hp hq'
        refine ⟨_, fun σ' H'' p => p, ?_⟩
        refine ⟨_, rfl, _, rfl, a, _, _, _, rfl, rfl, La, ai, tp, _, 0, _, rfl, rfl, Tp, atI_nat (j := 0) rfl, _, rfl, _, rfl, b, _, _, _, rfl, rfl, Lb, aj, tq, _, 0, _, rfl, rfl, Tq, atI_nat (j := 0) rfl, ?_⟩
        refine ⟨_, _, rfl, _, rfl, _, rfl, a, _, _, _, rfl, rfl, La, ai, tp, _, 1, _, rfl, rfl, Tp, atI_nat (j := 1) rfl, _, rfl, _, rfl, b, _, _, _, rfl, rfl, Lb, aj, tq, _, 1, _, rfl, rfl, Tq, atI_nat (j := 1) rfl, _, _, rfl, ?_⟩
        refine ⟨fun σ' G2 => ∃ zs', σ' = [some (.ref a), some (.ref b), some (.ref o), some (.int (i : Int)), some (.int (j : Int)), some (.int (mxI p.1 q'.1)), some (.int (mnI p.2 q'.2))] ∧ G2 o = some (.lst zs') ∧ All2 (OvT G2) zs' (R ++ ovp p q' i j) ∧ Same H G2, ?_, ?_⟩
        · refine ⟨_, rfl, _, rfl, _, _, rfl, rfl, _, rfl, ite2 (fun c => ?_) (fun c => ?_)⟩
          · have hc : mxI p.1 q'.1 ≤ mnI p.2 q'.2 := of_decide_eq_true c
            refine ⟨_, rfl, .inl ⟨rfl, _, .inl (.inl ho)⟩, _, rfl, _, rfl, _, rfl, _, rfl, by show 4 ≤ sizeLine; decide, fun T' hT => ?_⟩
            have s4 := same_lay (o := .tup [.int (mxI p.1 q'.1), .int (mnI p.2 q'.2), .int (i : Int), .int (j : Int)]) hT
            have ho4 := s4 _ _ ho
            have lz := hR.length
            have lr := hI.len
            refine ⟨o, zs, _, rfl, rfl, ho4, small1000 (by omega), ?_⟩
            have k4 := (kp_same s4).trans (kp_lst (u := .lst (zs ++ [V.ref T'])) ho4)
            refine ⟨zs ++ [.ref T'], rfl, upd_same, ?_, same_upd (sG.trans s4) no⟩
            have e1 : ovp p q' i j = [((mxI p.1 q'.1, mnI p.2 q'.2), (i, j))] := by unfold ovp; rw [if_pos hc]
            rw [e1]
            exact (hR.imp fun _ _ h => h.kp k4).append (.cons ⟨T', rfl, (kp_lst ho4).tup upd_same⟩ .nil)
          · have hc : ¬ mxI p.1 q'.1 ≤ mnI p.2 q'.2 := fun w => c (decide_eq_true w)
            have e1 : ovp p q' i j = [] := by unfold ovp; rw [if_neg hc]
            exact ⟨zs, rfl, ho, by rw [e1, List.append_nil]; exact hR, sG⟩
        · rintro σ' G2 ⟨zs', rfl, ho2, hR2, sG2⟩
          have La : SqL K G2 a xs := .inl (.inl (sG2 _ _ ha))
          have Lb : SqL K G2 b ys := .inl (.inl (sG2 _ _ hb))
          have Tp : SqT K G2 tp [.int p.1, .int p.2, up] := .inl (.inl (sG2 _ _ hp2))
          have Tq : SqT K G2 tq [.int q'.1, .int q'.2, uq] := .inl (.inl (sG2 _ _ hq2))
          refine ⟨_, rfl, _, rfl, a, _, _, _, rfl, rfl, La, ai, tp, _, 1, _, rfl, rfl, Tp, atI_nat (j := 1) rfl, _, rfl, _, rfl, b, _, _, _, rfl, rfl, Lb, aj, tq, _, 1, _, rfl, rfl, Tq, atI_nat (j := 1) rfl, _, _, rfl, rfl, _, rfl, ite2 (fun c => ?_) (fun c => ?_)⟩
          · exact ⟨_, rfl, _, _, rfl, rfl, (LA.length - (i + 1)) + (LB.length - j), by omega, i + 1, j, _, _, zs', _, rfl, rfl, hi', hj, ho2, hR2, push.1 (of_decide_eq_true c), sG2⟩
          · exact ⟨_, rfl, _, _, rfl, rfl, (LA.length - i) + (LB.length - (j + 1)), by omega, i, j + 1, _, _, zs', _, rfl, rfl, hi, hj', ho2, hR2, push.2 (fun w => c (decide_eq_true w)), sG2⟩
      · exact ⟨_, rfl, fin (.inr (by have : ¬ ((j : Int) < (ys.length : Int)) := fun w => c2 (decide_eq_true w); omega))⟩
    · exact iteF ⟨_, rfl, fin (.inl (by have : ¬ ((i : Int) < (xs.length : Int)) := fun w => c1 (decide_eq_true w); omega))⟩
end
end OR

namespace OR
open PySem PySem.Spec PyProof.Rows L2
/-! ### two rows of pieces side by side -/
abbrev Sbr := Sch × (Option LnR × Option LnR)
def sch (L : List Pce) : List Sch := L.map fun q => (q.1, q.2.1)
def SbT (CL : Addr) (H : Hp) (v : V) (r : Sbr) : Prop := ∃ t u w, v = .ref t ∧ H t = some (.tup [.int r.1.1, .int r.1.2, u, w]) ∧ LnAt CL H u r.2.1 ∧ LnAt CL H w r.2.2
theorem SbT.kp {CL : Addr} {H H' : Hp} {v : V} {r : Sbr} (h : SbT CL H v r) (k : KP H H') : SbT CL H' v r := by
  obtain ⟨t, u, w, e, h, h1, h2⟩ := h
  exact ⟨t, u, w, e, k.tup h, h1.kp k, h2.kp k⟩
/-- the rows that lie side by side: in order, all places -/
structure SbD (A B : List Pce) (S : List Sbr) : Prop where
  ok : ∀ r ∈ S, ∃ p ∈ A, ∃ q ∈ B, p.1 ≤ r.1.1 ∧ q.1 ≤ r.1.1 ∧ r.1.1 ≤ r.1.2 ∧ r.1.2 ≤ p.2.1 ∧ r.1.2 ≤ q.2.1 ∧ r.2.1 = p.2.2 ∧ r.2.2 = q.2.2
  asc : S.Pairwise (fun r s => r.1.2 < s.1.1)
  all : ∀ (x : Int) (p q : Pce), p ∈ A → q ∈ B → p.1 ≤ x → x ≤ p.2.1 → q.1 ≤ x → x ≤ q.2.1 → ∃ r ∈ S, r.1.1 ≤ x ∧ x ≤ r.1.2
  len : S.length ≤ A.length + B.length
def spSb (CL : Addr) : Sp := fun vs H Q _ => ∃ (a b : Addr) (xs ys : List V) (A B : List Pce), vs = [.ref a, .ref b] ∧ H a = some (.lst xs) ∧ H b = some (.lst ys) ∧ All2 (PcT CL H) xs A ∧ All2 (PcT CL H) ys B ∧ Upw (sch A) ∧ Upw (sch B) ∧ A.length ≤ 400 ∧ B.length ≤ 400 ∧
  ∀ c zs S H', H c = none → H' c = some (.lst zs) → All2 (SbT CL H') zs S → SbD A B S → Same H H' → Q (.ref c) H'
theorem all2_map {α β γ : Type} {p : α → β → Prop} {q : α → γ → Prop} {g : β → γ} (f : ∀ a b, p a b → q a (g b)) : ∀ {as : List α} {bs : List β}, All2 p as bs → All2 q as (bs.map g)
  | _, _, .nil => .nil
  | _, _, .cons h t => .cons (f _ _ h) (all2_map f t)
theorem til_upw {L : List Pce} {a b : Int} (h : Til L a b) : Upw (sch L) := by
  induction L generalizing a with
  | nil => exact ⟨.nil, fun _ h => nomatch h⟩
  | cons q r ih =>
    obtain ⟨h1, h2, h3⟩ := h
    obtain ⟨i1, i2⟩ := ih h3
    refine ⟨List.pairwise_cons.mpr ⟨fun p hp => ?_, i1⟩, fun p hp => ?_⟩
    · obtain ⟨z, hz, rfl⟩ := List.mem_map.mp hp
      have := (h3.mem z hz).1
      show q.2.1 < z.1
      omega
    · rcases List.mem_cons.mp hp with e | e
      · rw [e]; show q.1 ≤ q.2.1; omega
      · exact i2 p e
section
variable {P : Program} {w : World} {K : PySem.W.Frag} {mg : Str → Option Value} {base : Heap} {CL CG : Addr}
theorem scSb : FnScope ["ones", "others", "found", "first", "last", "at", "beside"] ["ones", "others"] (defScope pSideBySide) := ⟨rfl, rfl, rfl, by decide +kernel, rfl, by decide +kernel, by decide +kernel⟩
set_option maxHeartbeats 1000000 in
theorem ok_sb {f : Addr} {fd : FuncData} (F : Fun K "side_by_side" "side_by_side" pSideBySide f fd) (OV : Cl P w K mg base 1 "overlaps" ["ones", "others"] spOv) : FnOk P w K mg base CX0 2 f fd ["ones", "others"] (spSb CL) := by
  refine F.ok scSb (fun vs H Q E h => ?_) (fun cdv A outer s H vs Q E hr h => ?_)
  · obtain ⟨a, b, xs, ys, A, B, rfl, _⟩ := h
    rfl
  · obtain ⟨a, b, xs, ys, LA, LB, rfl, ha, hb, hX, hY, uA, uB, la, lb, q⟩ := h
    have nd := scSb.nd
    refine ⟨_, pss_cons (ps_set (i := 2) nd rfl (.inl rfl) (pe_cl OV hr (by decide) (by rfl) (pa_cons (pv 0) (pa_cons (pv 1) pa_nil))))
      (pss_one (ps_ret (pe_lc (own := [("first", 3), ("last", 4), ("at", 5), ("beside", 6)]) (g := (gTup K 4 (gCons (gName 3) (gCons (gName 4) (gCons (gName 5) (gCons (gName 6) gNil)))))) (tt := tYes) rfl nd (pi_list (pv 2)) (blkOk_by (N := ["ones", "others", "found", "first", "last", "at", "beside"]) (sc := defScope pSideBySide) (by decide +kernel)) (fun _ _ _ _ _ => pg_tup rfl (pgs_cons (pg_name (i := 3) nd rfl (.inl rfl)) (pgs_cons (pg_name (i := 4) nd rfl (.inl rfl)) (pgs_cons (pg_name (i := 5) nd rfl (.inl rfl)) (pgs_cons (pg_name (i := 6) nd rfl (.inl rfl)) pgs_nil))))) (fun _ _ _ _ _ => pts_nil) (fun _ _ _ _ _ => (pe_tup (pa_cons (pv 3) (pa_cons (pv 4) (pa_cons (pe_ix (ix_tupK K rfl) (pe_ix (ix_listK K rfl) (pv 0) (pv 5) (fun _ _ => rfl)) pe_int (fun _ _ => rfl)) (pa_cons (pe_ix (ix_tupK K rfl) (pe_ix (ix_listK K rfl) (pv 1) (pv 6) (fun _ _ => rfl)) pe_int (fun _ _ => rfl)) pa_nil))))))))), ?_⟩
    have str : ∀ {xs : List V} {L : List Pce}, All2 (PcT CL H) xs L → All2 (StR H) xs (sch L) := fun h => all2_map (fun v q ⟨t, u, e, h, _⟩ => ⟨t, u, e, h⟩) h
    have lA : (sch LA).length = LA.length := List.length_map ..
    have lB : (sch LB).length = LB.length := List.length_map ..
    refine ⟨_, rfl, _, rfl, a, b, xs, ys, sch LA, sch LB, rfl, ha, hb, str hX, str hY, uA, uB, by omega, by omega, fun c zs R H1 nc hc hR hD s1 => ?_⟩
    have lz := hR.length
    have lr := hD.len
    let row : Ovr → Sbr := fun r => (r.1, ((LA[r.2.1]?).bind (·.2.2), (LB[r.2.2]?).bind (·.2.2)))
    refine ⟨_, rfl, c, rfl, ⟨_, .inl (.inl hc)⟩, fun D hD1 => lc_list (K := K) (a := c) (xs := zs) (fun i G => ∃ us, G D = some (.lst us) ∧ All2 (SbT CL G) us ((R.take i).map row) ∧ Same H1 G) ⟨[], upd_same, .nil, same_lay hD1⟩ (fun i G _ ⟨_, _, _, s⟩ => .inl (.inl (s _ _ hc))) ?_ ?_⟩
    · rintro i v G hv ⟨us, hU, hUs, sG⟩
      obtain ⟨r, hr2, t, rfl, ht⟩ := all2_get hR hv
      have ht2 := sG _ _ ht
      obtain ⟨p', q', hp', hq', _⟩ := hD.ok r (List.mem_of_getElem? hr2)
      unfold sch at hp' hq'
      rw [List.getElem?_map] at hp' hq'
      obtain ⟨p, hp, _⟩ := Option.map_eq_some_iff.mp hp'
      obtain ⟨z, hz, _⟩ := Option.map_eq_some_iff.mp hq'
      have s0 := s1.trans sG
      have iA := (List.getElem?_eq_some_iff.mp hp).1
      have iB := (List.getElem?_eq_some_iff.mp hz).1
      have lxs := hX.length
      have lys := hY.length
      obtain ⟨p2, hp2, tp, up, ep, htp, hlp⟩ := all2_get hX (show xs[r.2.1]? = some (xs[r.2.1]'(by omega)) by simp)
      rw [hp] at hp2
      cases hp2
      obtain ⟨z2, hz2, tz, uz, ez, htz, hlz⟩ := all2_get hY (show ys[r.2.2]? = some (ys[r.2.2]'(by omega)) by simp)
      rw [hz] at hz2
      cases hz2
      have ai : atI xs (r.2.1 : Int) = some (.ref tp) := by rw [← ep]; exact atI_nat (by simp)
      have aj : atI ys (r.2.2 : Int) = some (.ref tz) := by rw [← ez]; exact atI_nat (by simp)
      have lus := hUs.length
      rw [List.length_map, List.length_take] at lus
      refine ⟨t, _, rfl, .inl (.inl ht2), rfl, _, _, rfl, _, _, rfl, _, _, rfl, _, _, rfl, rfl, rfl, yesT ?_⟩
      refine ⟨_, rfl, _, rfl, _, rfl, _, rfl, a, xs, (r.2.1 : Int), _, rfl, rfl, .inl (.inl (s0 _ _ ha)), ai, tp, _, 2, _, rfl, rfl, .inl (.inl (s0 _ _ htp)), atI_nat (j := 2) rfl, _, rfl, _, rfl, b, ys, (r.2.2 : Int), _, rfl, rfl, .inl (.inl (s0 _ _ hb)), aj, tz, _, 2, _, rfl, rfl, .inl (.inl (s0 _ _ htz)), atI_nat (j := 2) rfl, by show 4 ≤ sizeLine; decide, fun T nT => ?_⟩
      have s4 := same_lay (o := .tup [.int r.1.1, .int r.1.2, up, uz]) nT
      have hU4 := s4 _ _ hU
      refine ⟨_, hU4, small1000 (by omega), us ++ [.ref T], upd_same, ?_, same_upd (sG.trans s4) hD1⟩
      have k4 := (kp_same s4).trans (kp_lst (u := .lst (us ++ [V.ref T])) hU4)
      rw [take_snoc hr2, List.map_append]
      refine (hUs.imp fun _ _ h => h.kp k4).append (.cons ⟨T, up, uz, rfl, (kp_lst hU4).tup upd_same, ?_, ?_⟩ .nil)
      · show LnAt CL _ up ((LA[r.2.1]?).bind (·.2.2))
        rw [hp]
        exact (hlp.same s0).kp k4
      · show LnAt CL _ uz ((LB[r.2.2]?).bind (·.2.2))
        rw [hz]
        exact (hlz.same s0).kp k4
    · rintro G ⟨us, hU, hUs, sG⟩
      rw [List.take_of_length_le (by omega)] at hUs
      refine q D us _ G (s1.free hD1) hU hUs ⟨fun r hr2 => ?_, ?_, fun x p q hp hq h1 h2 h3 h4 => ?_, by rw [List.length_map]; omega⟩ (s1.trans sG)
      · obtain ⟨r0, m0, rfl⟩ := List.mem_map.mp hr2
        obtain ⟨p', q', hp', hq', h1, h2, h3, h4, h5⟩ := hD.ok r0 m0
        unfold sch at hp' hq'
        rw [List.getElem?_map] at hp' hq'
        obtain ⟨p, hp, rfl⟩ := Option.map_eq_some_iff.mp hp'
        obtain ⟨z, hz, rfl⟩ := Option.map_eq_some_iff.mp hq'
        refine ⟨p, List.mem_of_getElem? hp, z, List.mem_of_getElem? hz, h1, h2, h3, h4, h5, ?_, ?_⟩
        · show (LA[r0.2.1]?).bind (·.2.2) = p.2.2
          rw [hp]; rfl
        · show (LB[r0.2.2]?).bind (·.2.2) = z.2.2
          rw [hz]; rfl
      · exact List.pairwise_map.mpr hD.asc
      · obtain ⟨r, m, h5, h6⟩ := hD.all x (p.1, p.2.1) (q.1, q.2.1) (List.mem_map.mpr ⟨p, hp, rfl⟩) (List.mem_map.mpr ⟨q, hq, rfl⟩) h1 h2 h3 h4
        exact ⟨row r, List.mem_map.mpr ⟨r, m, rfl⟩, h5, h6⟩
end
/-! ### the least place at which two rows of pieces differ -/
def LD (f g : Int → Option Int) (b c : Int) : Option Int → Prop
  | none => ∀ z, b ≤ z → z < c → f z = g z
  | some x => b ≤ x ∧ x < c ∧ f x ≠ g x ∧ ∀ z, b ≤ z → z < x → f z = g z
theorem LD.fn {f g : Int → Option Int} {b c : Int} {r s : Option Int} (h : LD f g b c r) (k : LD f g b c s) : r = s := by
  cases r with
  | none =>
    cases s with
    | none => rfl
    | some y => exact absurd (h y k.1 k.2.1) k.2.2.1
  | some x =>
    cases s with
    | none => exact absurd (k x h.1 h.2.1) h.2.2.1
    | some y =>
      by_cases c1 : x < y
      · exact absurd (k.2.2.2 x h.1 c1) h.2.2.1
      · by_cases c2 : y < x
        · exact absurd (h.2.2.2 y k.1 c2) k.2.2.1
        · rw [show x = y by omega]
theorem LD.symm {f g : Int → Option Int} {b c : Int} {r : Option Int} (h : LD f g b c r) : LD g f b c r := by
  cases r with
  | none => exact fun z h1 h2 => (h z h1 h2).symm
  | some x => exact ⟨h.1, h.2.1, fun e => h.2.2.1 e.symm, fun z h1 h2 => (h.2.2.2 z h1 h2).symm⟩
def iV : Option Int → V
  | none => .non
  | some x => .int x
def spFu (CL : Addr) : Sp := fun vs H Q _ => ∃ (a b : Addr) (xs ys : List V) (A B : List Pce) (c d : Int), vs = [.ref a, .ref b] ∧ H a = some (.lst xs) ∧ H b = some (.lst ys) ∧ All2 (PcT CL H) xs A ∧ All2 (PcT CL H) ys B ∧ Til A c d ∧ Til B c d ∧ (∀ q ∈ A, Bq q) ∧ (∀ q ∈ B, Bq q) ∧ A.length ≤ 400 ∧ B.length ≤ 400 ∧
  ∀ r H', LD (outc A) (outc B) c d r → Same H H' → Q (iV r) H'
theorem outc_in {L : List Pce} {a b x : Int} (h : Til L a b) {q : Pce} (m : q ∈ L) (h1 : q.1 ≤ x) (h2 : x ≤ q.2.1) : outc L x = oV q.2.2 x := by
  obtain ⟨i, hi⟩ := List.getElem?_of_mem m
  exact outc_at h hi h1 h2
theorem sb_cover {A B : List Pce} {S : List Sbr} {c d z : Int} (hA : Til A c d) (hB : Til B c d) (hS : SbD A B S) (h0 : c ≤ z) (h1 : z < d) : ∃ r ∈ S, r.1.1 ≤ z ∧ z ≤ r.1.2 := by
  obtain ⟨p, mp, hp, _⟩ := outc_hit hA h0 h1
  obtain ⟨q, mq, hq, _⟩ := outc_hit hB h0 h1
  unfold hit at hp hq
  rw [Bool.and_eq_true] at hp hq
  exact hS.all z p q mp mq (of_decide_eq_true hp.1) (of_decide_eq_true hp.2) (of_decide_eq_true hq.1) (of_decide_eq_true hq.2)
/-- what stands ahead of a place of a row is known -/
theorem sb_ahead {A B : List Pce} {S : List Sbr} {c d : Int} (hA : Til A c d) (hB : Til B c d) (hS : SbD A B S) {i : Nat} {r : Sbr} (hr : S[i]? = some r) (hk : ∀ s ∈ S.take i, ∀ z, s.1.1 ≤ z → z ≤ s.1.2 → outc A z = outc B z) {z : Int} (h0 : c ≤ z) (h1 : z < d) (h2 : z < r.1.1) : outc A z = outc B z := by
  obtain ⟨s, ms, s1, s2⟩ := sb_cover hA hB hS h0 h1
  obtain ⟨j, hj⟩ := List.getElem?_of_mem ms
  obtain ⟨j1, ej⟩ := List.getElem?_eq_some_iff.mp hj
  obtain ⟨i1, ei⟩ := List.getElem?_eq_some_iff.mp hr
  by_cases c1 : j < i
  · exact hk s (List.mem_iff_getElem?.mpr ⟨j, by rw [List.getElem?_take, if_pos c1]; exact hj⟩) z s1 s2
  · by_cases c2 : j = i
    · subst c2
      rw [hj] at hr
      cases hr
      omega
    · have := List.pairwise_iff_getElem.mp hS.asc i j i1 j1 (by omega)
      rw [ei, ej] at this
      have lr : r.1.1 ≤ r.1.2 := by
        obtain ⟨_, _, _, _, _, _, h, _⟩ := hS.ok r (List.mem_of_getElem? hr)
        exact h
      omega
section
variable {P : Program} {w : World} {K : PySem.W.Frag} {mg : Str → Option Value} {base : Heap} {CL CG : Addr}
theorem scFu : FnScope ["ones", "others", "first", "last", "line", "beside"] ["ones", "others"] (defScope pFirstUnequal) := ⟨rfl, rfl, rfl, by decide +kernel, rfl, by decide +kernel, by decide +kernel⟩
set_option maxHeartbeats 1000000 in
theorem ok_fu {f : Addr} {fd : FuncData} (F : Fun K "_first_unequal" "_first_unequal" pFirstUnequal f fd) (T : LTxt K mg CL) (SB : Cl P w K mg base 2 "side_by_side" ["ones", "others"] (spSb CL)) (VA : Cl P w K mg base 1 "value_at" ["line", "x"] (spValW CL)) : FnOk P w K mg base CX0 3 f fd ["ones", "others"] (spFu CL) := by
  refine F.ok scFu (fun vs H Q E h => ?_) (fun cdv A outer s H vs Q E hr h => ?_)
  · obtain ⟨a, b, xs, ys, A, B, c, d, rfl, _⟩ := h
    rfl
  · obtain ⟨a, b, xs, ys, LA, LB, c, d, rfl, ha, hb, hX, hY, tA, tB, bA, bB, la, lb, Rq⟩ := h
    have nd := scFu.nd
    refine ⟨_, pss_cons (ps_for PassesOwn.never rfl (pi_list (pe_cl SB hr (by decide) (by rfl) (pa_cons (pv 0) (pa_cons (pv 1) pa_nil)))) (pg_tup rfl (pgs_cons (pg_name (i := 2) nd rfl (.inl rfl)) (pgs_cons (pg_name (i := 3) nd rfl (.inl rfl)) (pgs_cons (pg_name (i := 4) nd rfl (.inl rfl)) (pgs_cons (pg_name (i := 5) nd rfl (.inl rfl)) pgs_nil)))))
          (pss_one (ps_if (PW.pt (pw_or (pt_cmp (pc_isN (pv 4))) (pw_or1 (pt_cmp (pc_isN (pv 5))))))
              (pss_one (ps_if (PW.pt (pw_or (pt_cmp (pc_notN (pv 4))) (pw_or1 (pt_cmp (pc_notN (pv 5))))))
                  (pss_one (ps_ret (pv 2)))
                  pss_nil))
              (pss_one (ps_if (pt_cmpR op_ne (pe_cl VA hr (by decide) (by rfl) (pa_cons (pv 4) (pa_cons (pv 2) pa_nil))) (pe_cl VA hr (by decide) (by rfl) (pa_cons (pv 5) (pa_cons (pv 2) pa_nil))) (nomark _))
                  (pss_one (ps_ret (pv 2)))
                  (pss_one (ps_if (PW.pt (pw_and (pt_cmpR op_lt (pv 2) (pv 3) (nomark _)) (pw_and1 (pt_cmpR op_ne (pe_fld (pv 4) rfl) (pe_fld (pv 5) rfl) (nomark _)))))
                      (pss_one (ps_ret (pe_op op_add (pv 2) pe_int)))
                      pss_nil)))))))
      (pss_one (ps_ret pe_non)), ?_⟩
    refine ⟨_, rfl, _, rfl, a, b, xs, ys, LA, LB, rfl, ha, hb, hX, hY, til_upw tA, til_upw tB, la, lb, fun sl zs S H1 nsl hsl hS hD s1 => ?_⟩
    have lz := hS.length
    refine ⟨sl, rfl, ⟨_, .inl (.inl hsl)⟩, for_list (K := K) (a := sl) (xs := zs) (fun i σ G => ∃ s2 s3 s4 s5, σ = [some (.ref a), some (.ref b), s2, s3, s4, s5] ∧ (∀ r ∈ S.take i, ∀ z, r.1.1 ≤ z → z ≤ r.1.2 → outc LA z = outc LB z) ∧ Same H1 G)
      ⟨none, none, none, none, rfl, (by simp), Same.refl _⟩ (fun i σ G _ ⟨_, _, _, _, _, _, s⟩ => .inl (.inl (s _ _ hsl))) ?_ ?_⟩
    · rintro i v σ G hv ⟨s2, s3, s4, s5, rfl, hk, sG⟩
      obtain ⟨r, hr2, t, u, w', rfl, ht, hu, hw⟩ := all2_get hS hv
      have ht2 := sG _ _ ht
      have hu := hu.same sG
      have hw := hw.same sG
      obtain ⟨p, mp, z, mz, p1, z1, fl, p2, z2, e1, e2⟩ := hD.ok r (List.mem_of_getElem? hr2)
      have bdA := tA.mem p mp
      have vA : ∀ x, r.1.1 ≤ x → x ≤ r.1.2 → outc LA x = oV r.2.1 x := fun x h1 h2 => by rw [outc_in tA mp (by omega) (by omega), e1]
      have vB : ∀ x, r.1.1 ≤ x → x ≤ r.1.2 → outc LB x = oV r.2.2 x := fun x h1 h2 => by rw [outc_in tB mz (by omega) (by omega), e2]
      have ahead : ∀ x, c ≤ x → x < r.1.1 → outc LA x = outc LB x := fun x h0 h1 => sb_ahead tA tB hD hr2 hk h0 (by omega) h1
      have sGG := s1.trans sG
      have here : oV r.2.1 r.1.1 ≠ oV r.2.2 r.1.1 → Q (.int r.1.1) G := fun ne => Rq (some r.1.1) G ⟨by omega, by omega, by rw [vA _ (Int.le_refl _) fl, vB _ (Int.le_refl _) fl]; exact ne, fun z h0 h1 => ahead z h0 h1⟩ sGG
      have next : (∀ x, r.1.1 ≤ x → x ≤ r.1.2 → oV r.2.1 x = oV r.2.2 x) → ∀ x ∈ S.take (i + 1), ∀ z, x.1.1 ≤ z → z ≤ x.1.2 → outc LA z = outc LB z := fun eq x hx z h1 h2 => by
        rw [take_snoc hr2] at hx
        rcases List.mem_append.mp hx with m | m
        · exact hk x m z h1 h2
        · rw [List.mem_singleton.mp m] at h1 h2
          rw [vA z h1 h2, vB z h1 h2, eq z h1 h2]
      have pl : Plc r.1.1 := ⟨by have := (bA p mp).p1.1; omega, by have := (bA p mp).p2.2; omega⟩
      have wA : ∀ m, r.2.1 = some m → m.1.natAbs < 2 ^ 420 := fun m e => ((bA p mp).wd m (by rw [← e1]; exact e)).1
      have wB : ∀ m, r.2.2 = some m → m.1.natAbs < 2 ^ 420 := fun m e => ((bB z mz).wd m (by rw [← e2]; exact e)).1
      obtain ⟨⟨fs, ls⟩, l1, l2⟩ := r
      simp only at *
      refine ⟨t, _, rfl, .inl (.inl ht2), rfl, _, _, rfl, _, _, rfl, _, _, rfl, _, _, rfl, rfl, ?_⟩
      cases l1 with
      | none =>
        obtain rfl : u = .non := hu
        refine ⟨_, rfl, _, rfl, iteA (by simp) ⟨_, rfl, _, rfl, iteB (by simp) ?_⟩⟩
        cases l2 with
        | none =>
          obtain rfl : w' = .non := hw
          exact ⟨_, rfl, _, rfl, iteB (by simp) ⟨_, _, _, _, rfl, next (fun _ _ _ => rfl), sG⟩⟩
        | some m =>
          obtain ⟨y, rfl, hy⟩ := hw
          exact ⟨_, rfl, _, rfl, iteA (by simp) ⟨_, rfl, here (fun z => nomatch z)⟩⟩
      | some n =>
        obtain ⟨yn, rfl, hyn⟩ := hu
        refine ⟨_, rfl, _, rfl, iteB (by simp) ?_⟩
        cases l2 with
        | none =>
          obtain rfl : w' = .non := hw
          exact ⟨_, rfl, _, rfl, iteA (by simp) ⟨_, rfl, _, rfl, iteA (by simp) ⟨_, rfl, here (fun z => nomatch z)⟩⟩⟩
        | some m =>
          obtain ⟨ym, rfl, hym⟩ := hw
          obtain ⟨dn, hyn2⟩ := id hyn
          obtain ⟨dm, hym2⟩ := id hym
          refine ⟨_, rfl, _, rfl, iteB (by simp) ⟨_, rfl, _, rfl, yn, n, fs, rfl, hyn, cwWP (wA n rfl) pl.b1, _, rfl, _, rfl, ym, m, fs, rfl, hym, cwWP (wB m rfl) pl.b1, rfl, _, rfl, ite2 (fun k => ?_) (fun k => ?_)⟩⟩
          · have k : ¬ lv n fs = lv m fs := by simpa using k
            exact ⟨_, rfl, here (fun z => k (Option.some.inj z))⟩
          · have k : lv n fs = lv m fs := by simpa using k
            refine ⟨_, rfl, _, rfl, _, _, rfl, rfl, _, rfl, ite2 (fun lt => ?_) (fun lt => ?_)⟩
            · have lt : fs < ls := of_decide_eq_true lt
              refine ⟨_, rfl, yn, CL, dn, _, _, rfl, hyn2, T.cl, T.nS, lFl_slope _ _, _, rfl, ym, CL, dm, _, _, rfl, hym2, T.cl, T.nS, lFl_slope _ _, rfl, _, rfl, ite2 (fun ne => ?_) (fun eq => ?_)⟩
              · have ne : ¬ n.1 = m.1 := by simpa using ne
                refine ⟨_, rfl, _, _, rfl, rfl, Rq (some (fs + 1)) G ⟨by omega, by omega, ?_, fun z h0 h1 => ?_⟩ sGG⟩
                · rw [vA _ (by omega) (by omega), vB _ (by omega) (by omega)]
                  intro e
                  exact ne (congrArg (·.1) (line_two k (Option.some.inj e)))
                · by_cases c1 : z < fs
                  · exact ahead z h0 c1
                  · obtain rfl : z = fs := by omega
                    rw [vA _ (Int.le_refl _) fl, vB _ (Int.le_refl _) fl]
                    show some (lv n z) = some (lv m z)
                    rw [k]
              · have eq : n.1 = m.1 := by simpa using eq
                exact ⟨_, _, _, _, rfl, next (fun x _ _ => by show some (lv n x) = some (lv m x); rw [same_slope k eq]), sG⟩
            · have lt : ¬ fs < ls := fun z => lt (decide_eq_true z)
              refine ⟨_, _, _, _, rfl, next (fun x h1 h2 => ?_), sG⟩
              obtain rfl : x = fs := by omega
              show some (lv n x) = some (lv m x)
              rw [k]
    · rintro σ G ⟨s2, s3, s4, s5, rfl, hk, sG⟩
      rw [List.take_of_length_le (by omega)] at hk
      refine Rq none G (fun z h0 h1 => ?_) (s1.trans sG)
      obtain ⟨r, m, h2, h3⟩ := sb_cover tA tB hD h0 h1
      exact hk r m z h2 h3
end
end OR

namespace OR
open PySem PySem.Spec PyProof.Rows L2
/-! ### an own error without fields -/
theorem pmk_own0 {X : Cx} {C : Addr} {bmB : List Value} {B newId initId : String} {x : Str} {p pos : Pos} (F : ExcBaseFacts B newId initId bmB) (q : PySem.W.excIn X.K C bmB newId = true) (gC : X.mg x = some (.ref C)) (kC : PySem.W.keepIn X.K (.ref C) = true) (r : Raises X (.ref C)) (hg : Gl X x)
    (hdb : (x == ("__debug__" : Str)) = false := by decide) : PMk X (.Call (.Name x p) [] [] pos) (fun _ H Q => Q (.ref C) none H) := by
  intro pins s σ H Q I h
  refine wpAny_Call_Name_kw (ld_glob I hg gC ?_ hdb)
  refine PySem.W.callWith_K0 I.kIn kC ?_
  show wpAny _ _ (call (.ref C) []) _ _ _
  obtain ⟨bm, N, nm, qn, bs, hdct, sn, sub, ab, col, dd, k0, k1, k2, k3, k5, mN, hC, hN, hni, T⟩ := exc_obj I.kIn q
  refine wpAny_call_exc_subT F T hC hN hni (fun h' e hm => ?_) (Nat.zero_le _)
  exact mk_of I hm r h (I.hok.gone hm.new)
theorem call_isN {X : Cx} {a D : Addr} {oe : Obj} {cls : Value} {d : Option Addr} {pn : List (Addr × Obj)} (C : ExcC X.K D) (hz : Zc cls d oe) (hf : ∃ vs, oe.data = .fields vs) : CallR (X.suite a ((a, oe) :: pn)) (.builtin "isinstance") (fun xs H Q => cls = .ref D ∧ d = none ∧ rIsE X.K D a xs H Q) := by
  intro pins s σ H xs us Q I r ⟨e1, e2, h⟩
  subst e1 e2
  exact call_isE C hz hf pins s σ H xs us Q I r h
/-- an own error without fields, directly below RangesError -/
structure Er0 (K : PySem.W.Frag) (mg : Str → Option Value) (x : Str) (CB CR : Addr) : Prop where
  gB : mg x = some (.ref CB)
  gR : mg "RangesError" = some (.ref CR)
  ex : PySem.W.excIn K CB [.type "ValueError", .type "Exception", .type "BaseException", .type "object"] "ValueError.__new__" = true
  kC : PySem.W.keepIn K (.ref CB) = true
  tyC : PySem.W.typeIn K (.ref CB) = some (.type "type")
  xc : ExcC K CB
  self : PySem.W.exmOne K (.ref CB) (.ref CB) = some true
  kR : PySem.W.kitOne K (.ref CB) (.ref CR) = some true
theorem strs_ok {ws : List Str} (h : ∀ w ∈ ws, SmallS w) : PyData.canLayAll0 (ws.map PyData.str) = true := by
  have := shp_strs h
  unfold SeqAt.shaped at this
  rw [Bool.and_eq_true] at this
  exact this.1
theorem eqv_strs : ∀ (ws us : List Str), PyData.eqvAll (ws.map PyData.str) (us.map PyData.str) = decide (ws = us)
  | [], [] => rfl
  | [], _ :: _ => by simp [PyData.eqvAll]
  | _ :: _, [] => by simp [PyData.eqvAll]
  | x :: xs, y :: ys => by
    rw [List.map_cons, List.map_cons]
    show (x == y && PyData.eqvAll (xs.map PyData.str) (ys.map PyData.str)) = _
    rw [eqv_strs xs ys]
    by_cases h : x = y
    · subst h; simp
    · have : (x == y) = false := by simpa using h
      rw [this, Bool.false_and]
      exact (decide_eq_false (fun e => h (by injection e))).symm
def shpD (n : Int) (ws : List Str) : PyData := .tuple [.int n, .tuple (ws.map PyData.str)]
theorem shpD_ok {n : Int} {ws : List Str} (h : ∀ w ∈ ws, SmallS w) (hl : ws.length ≤ 60) : SeqAt.shaped (shpD n ws) = true := by
  unfold SeqAt.shaped
  rw [Bool.and_eq_true]
  refine ⟨?_, ?_⟩
  · show (true && (PyData.canLayAll0 (ws.map PyData.str) && true)) = true
    rw [strs_ok h]; rfl
  · refine decide_eq_true ?_
    have d0 : ∀ us : List Str, PyData.depthAll (us.map PyData.str) = 0 := fun us => by
      induction us with
      | nil => rfl
      | cons u us ih => show max 0 (PyData.depthAll (us.map PyData.str)) = 0; rw [ih]; rfl
    show max 0 (max (PyData.depthAll (ws.map PyData.str) + 1) 0) + 1 ≤ 64
    rw [d0]
    decide
theorem shpD_eqv (n m : Int) (ws us : List Str) : PyData.eqv (shpD n ws) (shpD m us) = decide (n = m ∧ ws = us) := by
  show (n == m && (PyData.eqvAll (ws.map PyData.str) (us.map PyData.str) && true)) = _
  rw [eqv_strs, Bool.and_true]
  by_cases h : n = m
  · subst h; simp
  · have : (n == m) = false := by simpa using h
    rw [this, Bool.false_and]
    exact (decide_eq_false (fun e => h e.1)).symm
theorem op_neDK {X : Cx} (K : PySem.W.Frag) (hK : X.K = K) (hu : X.A.units + 64 < cLine) : OpR X (compareOp .NotEq) (rNeD K) := by subst hK; exact op_neD hu
theorem call_anyK {X : Cx} (K : PySem.W.Frag) (hK : X.K = K) (hc : X.calm = true := by rfl) : CallR X (.builtin "any") (rAny K) := by subst hK; exact cr_any hc
theorem bt_any : bootBuiltins ("any" : Str) = some (.builtin "any") := by decide +kernel
/-- a shape: a last place and words -/
def ShR (H : Hp) (v : V) (p : Int × List Str) : Prop := ∃ t f, v = .ref t ∧ H t = some (.tup [.int p.1, .ref f]) ∧ H f = some (.tup (p.2.map V.str))
theorem ShR.kp {H H' : Hp} {v : V} {p : Int × List Str} (h : ShR H v p) (k : KP H H') : ShR H' v p := by obtain ⟨t, f, e, h1, h2⟩ := h; exact ⟨t, f, e, k.tup h1, k.tup h2⟩
def spChkShapes (CG CL CO : Addr) : Sp := fun vs H Q E => ∃ (l x y : Addr) (n m : Int) (T U : Tld), vs = [.ref l] ∧ H l = some (.lst [.ref x, .ref y]) ∧ IsG CG CL H x n T ∧ IsG CG CL H y m U ∧ (∀ e ∈ T, SmallS e.1) ∧ (∀ e ∈ U, SmallS e.1) ∧ T.length ≤ 60 ∧ U.length ≤ 60 ∧
  (m = n ∧ U.map (·.1) = T.map (·.1) → ∀ H', Same H H' → Q .non H') ∧ (¬ (m = n ∧ U.map (·.1) = T.map (·.1)) → ∀ H', Same H H' → E (.ref CO) none H')
section
variable {P : Program} {w : World} {K : PySem.W.Frag} {mg : Str → Option Value} {base : Heap} {CL CG CO CR : Addr}
theorem scChkShapes : FnScope ["programs", "shapes", "program", "shape"] ["programs"] (defScope pCheckShapes) := ⟨rfl, rfl, rfl, by decide +kernel, rfl, by decide +kernel, by decide +kernel⟩
theorem dp_shape {H : Hp} {t f : Addr} {n : Int} {ws : List Str} (h : H t = some (.tup [.int n, .ref f])) (hf : H f = some (.tup (ws.map V.str))) : Dp K H (.ref t) (shpD n ws) :=
  .tup (.inl (.inl h)) (.cons (.int n) (.cons (.tup (.inl (.inl hf)) (dp_strs ws)) .nil))
set_option maxHeartbeats 1000000 in
theorem ok_chkshapes {f : Addr} {fd : FuncData} (F : Fun K "_check_shapes" "_check_shapes" pCheckShapes f fd) (zA : mg "any" = none) (GT : GTxt K mg CG) (EO : Er0 K mg "OtherShape" CO CR) : FnOk P w K mg base (L2.CX P w) 1 f fd ["programs"] (spChkShapes CG CL CO) := by
  refine F.okX scChkShapes (fun vs H Q E h => ?_) (fun cdv A outer s H vs Q E hr h => ?_)
  · obtain ⟨l, x, y, n, m, T, U, rfl, _⟩ := h
    rfl
  · obtain ⟨l, x, y, n, m, T, U, rfl, hl, hx, hy, sT, sU, lT, lU, q1, q2⟩ := h
    have nd := scChkShapes.nd
    have hu64 : (A.deeper (envOfC "_check_shapes" (defScope pCheckShapes) s.heap.objs.size f cdv)).units + 64 < cLine := hr.units
    refine ⟨_, pss_cons (ps_set (i := 1) nd rfl (.inr rfl) (pe_lc (own := [("program", 2)]) (g := (gName 2)) (tt := tYes) rfl nd (pi_list (pv 0)) (blkOk_by (N := ["programs", "shapes", "program", "shape"]) (sc := defScope pCheckShapes) (by decide +kernel)) (fun _ _ _ _ _ => pg_name (i := 2) nd rfl (.inl rfl)) (fun _ _ _ _ _ => pts_nil) (fun _ _ _ _ _ => (pe_tup (pa_cons (pe_fldK K rfl (pv 2) rfl) (pa_cons (pe_fldK K rfl (pv 2) rfl) pa_nil))))))
      (pss_one (ps_if (PW.pt (pw_or (pt_not (pt_truth (pv 1) (by intro _; rfl))) (pw_or1 (pt_val (pe_callB (call_anyK K rfl) (by rfl) zA bt_any (pa_cons (pe_lc (own := [("shape", 3)]) (g := (gName 3)) (tt := tYes) rfl nd (pi_list (pv 1)) (blkOk_by (N := ["programs", "shapes", "program", "shape"]) (sc := defScope pCheckShapes) (by decide +kernel)) (fun _ _ _ _ _ => pg_name (i := 3) nd rfl (.inl rfl)) (fun _ _ _ _ _ => pts_nil) (fun _ _ _ _ _ => (pe_cmpR (op_neDK K rfl hu64) (pv 3) (pe_ix (ix_listK K rfl) (pv 1) pe_int (fun _ _ => rfl)) (by rfl)))) pa_nil))))))
          (pss_one (ps_raise rfl (takes_of rfl rfl rfl rfl) (pmk_own0 PySem.F.excBase_ValueError EO.ex EO.gB EO.kC (raises_own EO.xc.hs EO.tyC) (by rfl))))
          pss_nil)), ?_⟩
    have HP : All2 (fun v (p : Int × List Str) => ∃ z T', v = V.ref z ∧ IsG CG CL H z p.1 T' ∧ p.2 = T'.map (·.1)) [.ref x, .ref y] [(n, T.map (·.1)), (m, U.map (·.1))] := .cons ⟨x, T, rfl, hx, rfl⟩ (.cons ⟨y, U, rfl, hy, rfl⟩ .nil)
    refine ⟨_, rfl, l, rfl, ⟨_, .inl (.inl hl)⟩, fun D hD => lc_list (K := K) (a := l) (xs := [.ref x, .ref y]) (fun i G => ∃ us, G D = some (.lst us) ∧ All2 (ShR G) us ([(n, T.map (·.1)), (m, U.map (·.1))].take i) ∧ Same H G) ⟨[], upd_same, .nil, same_lay hD⟩ (fun i G _ ⟨_, _, _, s⟩ => .inl (.inl (s _ _ hl))) ?_ ?_⟩
    · rintro i v G hv ⟨us, hU, hUs, sG⟩
      obtain ⟨p, hp, z, T', rfl, hz, e2⟩ := all2_get HP hv
      obtain ⟨dz, fa, ta, kv, h1, h2, _⟩ := hz.same sG
      have lus := hUs.length
      rw [List.length_take] at lus
      refine ⟨rfl, yesT ⟨_, rfl, z, CG, dz, _, _, rfl, h1, GT.cl, GT.nL, gFl_l _ _ _, _, rfl, z, CG, dz, _, _, rfl, h1, GT.cl, GT.nF, gFl_f _ _ _, by show 2 ≤ sizeLine; decide, fun t nt => ?_⟩⟩
      have s4 := same_lay (o := .tup [.int p.1, .ref fa]) nt
      have hU4 := s4 _ _ hU
      have li : i < 2 := (List.getElem?_eq_some_iff.mp hv).1
      refine ⟨_, hU4, small1000 (by omega), us ++ [.ref t], upd_same, ?_, same_upd (sG.trans s4) hD⟩
      rw [take_snoc hp]
      have k4 := (kp_same s4).trans (kp_lst (u := .lst (us ++ [V.ref t])) hU4)
      refine (hUs.imp fun _ _ h => h.kp k4).append (.cons ⟨t, fa, rfl, (kp_lst hU4).tup upd_same, k4.tup ?_⟩ .nil)
      rw [h2, e2, List.map_map]
      rfl
    rintro G ⟨us, hU, hUs, sG⟩
    have hUs : All2 (ShR G) us [(n, T.map (·.1)), (m, U.map (·.1))] := hUs
    obtain ⟨v1, v2, rfl, hs1, hs2⟩ : ∃ v1 v2, us = [v1, v2] ∧ ShR G v1 (n, T.map (·.1)) ∧ ShR G v2 (m, U.map (·.1)) := by
      cases hUs with | cons a r => cases r with | cons b r => cases r; exact ⟨_, _, rfl, a, b⟩
    have sm : ∀ p ∈ [(n, T.map (·.1)), (m, U.map (·.1))], ∀ w ∈ p.2, SmallS w := fun p hp w hw => by
      simp only [List.mem_cons, List.not_mem_nil, or_false] at hp
      rcases hp with rfl | rfl
      · obtain ⟨e, he, rfl⟩ := List.mem_map.mp hw; exact sT e he
      · obtain ⟨e, he, rfl⟩ := List.mem_map.mp hw; exact sU e he
    have sl : ∀ p ∈ [(n, T.map (·.1)), (m, U.map (·.1))], p.2.length ≤ 60 := fun p hp => by
      simp only [List.mem_cons, List.not_mem_nil, or_false] at hp
      rcases hp with rfl | rfl
      · rw [List.length_map]; exact lT
      · rw [List.length_map]; exact lU
    refine ⟨_, rfl, true, .inl ⟨_, .inl (.inl hU), rfl⟩, iteF ?_⟩
    refine ⟨_, rfl, D, rfl, ⟨_, .inl (.inl hU)⟩, fun D2 hD2 => lc_list (K := K) (a := D) (xs := [v1, v2]) (fun i G2 => G2 D2 = some (.lst ((([(n, T.map (·.1)), (m, U.map (·.1))].take i).map fun p => !decide (p.1 = n ∧ p.2 = T.map (·.1))).map V.bl)) ∧ Same G G2) ⟨upd_same, same_lay hD2⟩ (fun i G2 _ ⟨_, s⟩ => .inl (.inl (s _ _ hU))) ?_ ?_⟩
    · rintro i v G2 hv ⟨hB, sG2⟩
      obtain ⟨p, hp, hsp⟩ := all2_get hUs hv
      obtain ⟨tp, fp, rfl, hp1, hp2⟩ := hsp.kp (kp_same sG2)
      obtain ⟨t1, f1, rfl, h11, h12⟩ := hs1.kp (kp_same sG2)
      have li : i < 2 := (List.getElem?_eq_some_iff.mp hv).1
      have mp := List.mem_of_getElem? hp
      refine ⟨rfl, yesT ⟨_, rfl, _, rfl, D, _, 0, _, rfl, rfl, .inl (.inl (sG2 _ _ hU)), atI_nat (j := 0) rfl, shpD p.1 p.2, shpD n (T.map (·.1)), dp_shape hp1 hp2, dp_shape h11 h12, shpD_ok (sm p mp) (sl p mp), shpD_ok (sm _ List.mem_cons_self) (sl _ List.mem_cons_self), ?_⟩⟩
      refine ⟨_, hB, small1000 (by rw [List.length_map, List.length_map, List.length_take]; omega), ?_, same_upd sG2 hD2⟩
      rw [upd_same, take_snoc hp, shpD_eqv, List.map_append, List.map_append]
      rfl
    rintro G2 ⟨hB, sG2⟩
    have sH := sG.trans sG2
    refine ⟨D2, [!decide (n = n ∧ T.map (·.1) = T.map (·.1)), !decide (m = n ∧ U.map (·.1) = T.map (·.1))], rfl, .inl (.inl hB), _, rfl, ?_⟩
    by_cases c : m = n ∧ U.map (·.1) = T.map (·.1)
    · exact iteB (by simp [c]) (q1 c G2 sH)
    · exact iteA (by simp [c]) (q2 c G2 sH)
end
end OR

namespace OR
open PySem PySem.Spec PyProof.Rows L2
/-! ### the first difference of two programs -/
abbrev Dif := Option (Int × Str)
def lstep (f : Dif) (e : Str × Option Int) : Dif := match e.2 with
  | none => f
  | some x => match f with
    | none => some (x, e.1)
    | some g => if x < g.1 then some (x, e.1) else f
def least (l : List (Str × Option Int)) : Dif := l.foldl lstep none
/-- in which place two programs differ first in a function -/
def Dw (n : Int) (T U : Tld) (w : Str) (r : Option Int) : Prop := ∃ t ∈ T, ∃ u ∈ U, t.1 = w ∧ u.1 = w ∧ LD (outc t.2) (outc u.2) 0 (n + 1) r
def DifV (H : Hp) (v : V) : Dif → Prop
  | none => v = .non
  | some g => ∃ t, v = .ref t ∧ H t = some (.tup [.int g.1, .str g.2])
theorem DifV.kp {H H' : Hp} {v : V} {g : Dif} (h : DifV H v g) (k : KP H H') : DifV H' v g := by
  cases g with
  | none => exact h
  | some g => obtain ⟨t, e, h⟩ := h; exact ⟨t, e, k.tup h⟩
def spFd (CG CL CO : Addr) : Sp := fun vs H Q E => ∃ (x y : Addr) (n m : Int) (T U : Tld), vs = [.ref x, .ref y] ∧ IsG CG CL H x n (oneT T) ∧ IsG CG CL H y m (oneT U) ∧ Told n T ∧ Told m U ∧ (∀ e ∈ T, e.2.length ≤ 400) ∧ (∀ e ∈ U, e.2.length ≤ 400) ∧
  (¬ (m = n ∧ U.map (·.1) = T.map (·.1)) → ∀ H', Same H H' → E (.ref CO) none H') ∧
  (m = n ∧ U.map (·.1) = T.map (·.1) → ∀ l v H', l.map (·.1) = T.map (·.1) → (∀ e ∈ l, Dw n T U e.1 e.2) → DifV H' v (least l) → Same H H' → Q v H')
section
variable {P : Program} {w : World} {K : PySem.W.Frag} {mg : Str → Option Value} {base : Heap} {CL CG CO CF CR : Addr}
theorem scFd : FnScope ["one", "other", "found", "function", "x"] ["one", "other"] (defScope pFirstDifference) := ⟨rfl, rfl, rfl, by decide +kernel, rfl, by decide +kernel, by decide +kernel⟩
theorem gFl_pi (n : Int) (f t : Addr) : (gFl n f t).lookup ("pieces" : Str) = none := gFl_no n f t (by decide +kernel) (by decide +kernel) (by decide +kernel)
set_option maxHeartbeats 1000000 in
theorem ok_fd {f : Addr} {fd : FuncData} (F : Fun K "first_difference" "first_difference" pFirstDifference f fd) (GT : GTxt K mg CG) (CS : ClX P w K mg base 1 "_check_shapes" ["programs"] (spChkShapes CG CL CO)) (PIE : MtX P w K mg base 4 CG "pieces" ["self", "function"] (spPieces CG CL CF)) (FU : Cl P w K mg base 3 "_first_unequal" ["ones", "others"] (spFu CL)) :
    FnOk P w K mg base (L2.CX P w) 5 f fd ["one", "other"] (spFd CG CL CO) := by
  refine F.okX scFd (fun vs H Q E h => ?_) (fun cdv A outer s H vs Q E hr h => ?_)
  · obtain ⟨x, y, n, m, T, U, rfl, _⟩ := h
    rfl
  · obtain ⟨x, y, n, m, T, U, rfl, hx, hy, hT, hU, lT, lU, q1, q2⟩ := h
    have nd := scFd.nd
    refine ⟨_, pss_cons (ps_expr (pe_clX CS hr (by decide) (by rfl) (takes_of rfl rfl rfl rfl) (pa_cons (pe_lst (pa_cons (pv 0) (pa_cons (pv 1) pa_nil))) pa_nil)))
      (pss_cons (ps_set (i := 2) nd rfl (.inl rfl) pe_non)
      (pss_cons (ps_for PassesOwn.leaving rfl (pi_tup (pe_fldK K rfl (pv 0) rfl)) (pg_name (i := 3) nd rfl (.inl rfl))
          (pss_cons (ps_set (i := 4) nd rfl (.inl rfl) (pe_cl FU hr (by decide) (by rfl) (pa_cons (pe_mtX PIE GT.cl hr (by decide) (takes_of rfl rfl rfl rfl) (pv 0) (pa_cons (pv 3) pa_nil)) (pa_cons (pe_mtX PIE GT.cl hr (by decide) (takes_of rfl rfl rfl rfl) (pv 1) (pa_cons (pv 3) pa_nil)) pa_nil))))
          (pss_one (ps_if (PW.pt (pw_and (pt_cmp (pc_notN (pv 4))) (pw_and1 (PW.pt (pw_or (pt_cmp (pc_isN (pv 2))) (pw_or1 (pt_cmpR op_lt (pv 4) (pe_ix (ix_tupK K rfl) (pv 2) pe_int (fun _ _ => rfl)) (nomark _))))))))
              (pss_one (ps_set (i := 2) nd rfl (.inl rfl) (pe_tup (pa_cons (pv 4) (pa_cons (pv 3) pa_nil)))))
              pss_nil))))
      (pss_one (ps_ret (pv 2))))), ?_⟩
    have sm : ∀ {n : Int} {T : Tld}, Told n T → ∀ e ∈ oneT T, SmallS e.1 := fun h e he => by
      unfold oneT at he
      obtain ⟨z, hz, rfl⟩ := List.mem_map.mp he
      have := (h.ok z hz).1
      exact fun c hc => by have := this.az c hc; omega
    have lo : ∀ T : Tld, (oneT T).length = T.length := fun T => by unfold oneT; rw [List.length_map]
    refine ⟨_, rfl, _, rfl, by show 2 ≤ sizeLine; decide, fun l nl => ?_⟩
    have s1 := same_lay (o := .lst [.ref x, .ref y]) nl
    refine ⟨l, x, y, n, m, oneT T, oneT U, rfl, upd_same, hx.same s1, hy.same s1, sm hT, sm hU, by rw [lo]; exact hT.few, by rw [lo]; exact hU.few, ?_, ?_⟩
    rotate_left
    · intro ne H2 s2
      rw [oneT_fst, oneT_fst] at ne
      exact q1 ne H2 (s1.trans s2)
    intro same H2 s2
    rw [oneT_fst, oneT_fst] at same
    have q2 := q2 same
    obtain ⟨rfl, eF⟩ := same
    have s12 := s1.trans s2
    have hx2 := hx.same s12
    obtain ⟨dx, fa, ta, kv, h1, h2, _⟩ := id hx2
    have efs : ((oneT T).map fun e => V.str e.1) = (T.map (·.1)).map V.str := by rw [List.map_map]; unfold oneT; rw [List.map_map]; rfl
    rw [efs] at h2
    refine ⟨_, rfl, x, CG, dx, _, _, rfl, h1, GT.cl, GT.nF, gFl_f _ _ _, fa, rfl, ⟨_, .inl (.inl h2)⟩, for_tup (K := K) (a := fa) (xs := (T.map (·.1)).map V.str) (fun i σ G => ∃ v s3 s4 ls, σ = [some (.ref x), some (.ref y), some v, s3, s4] ∧ ls.map (·.1) = (T.map (·.1)).take i ∧ (∀ e ∈ ls, Dw m T U e.1 e.2) ∧ DifV G v (least ls) ∧ Same H2 G)
      ⟨.non, none, none, [], rfl, by simp, (fun _ z => nomatch z), rfl, Same.refl _⟩ (fun i σ G _ ⟨_, _, _, _, _, _, _, _, s⟩ => .inl (.inl (s _ _ h2))) ?_ ?_⟩
    · rintro i v σ G hv ⟨fv, s3, s4, ls, rfl, els, hls, hdf, sG⟩
      rw [List.getElem?_map] at hv
      obtain ⟨wd, hwd, rfl⟩ := Option.map_eq_some_iff.mp hv
      have hwd0 := hwd
      rw [List.getElem?_map] at hwd
      obtain ⟨t, ht, rfl⟩ := Option.map_eq_some_iff.mp hwd
      have mt := List.mem_of_getElem? ht
      have mw : t.1 ∈ U.map (·.1) := by rw [eF]; exact List.mem_map.mpr ⟨t, mt, rfl⟩
      obtain ⟨u, mu, eu⟩ := List.mem_map.mp mw
      obtain ⟨_, w2, w3, w4⟩ := hT.ok t mt
      obtain ⟨_, w2', w3', w4'⟩ := hU.ok u mu
      have sHG := s12.trans sG
      have hxG := hx.same sHG
      obtain ⟨dx, _, _, _, hx0, _⟩ := id hxG
      refine ⟨_, rfl, x, dx, _, rfl, hx0, gFl_pi _ _ _, _, rfl, x, t.1, m, T, rfl, hxG, hT.nd, (fun no => absurd (List.mem_map.mpr ⟨t, mt, rfl⟩) no), fun e he ee b1 ys1 G1 nb1 hb1 hY1 sG1 => ?_⟩
      obtain rfl : e = t := nodup_fst hT.nd he mt ee
      have hyG := (hy.same sHG).same sG1
      obtain ⟨dy, _, _, _, hy0, _⟩ := id hyG
      refine ⟨_, rfl, y, dy, _, rfl, hy0, gFl_pi _ _ _, _, rfl, y, e.1, m, U, rfl, hyG, hU.nd, (fun no => absurd mw no), fun e2 he2 ee2 b2 ys2 G2 nb2 hb2 hY2 sG2 => ?_⟩
      obtain rfl : e2 = u := nodup_fst hU.nd he2 mu (ee2.trans eu.symm)
      have LK := oneF_like w2
      have LK' := oneF_like w2'
      refine ⟨b1, b2, ys1, ys2, oneF e.2, oneF e2.2, 0, m + 1, rfl, sG2 _ _ hb1, hb2, hY1.imp (fun _ _ h => h.same sG2), hY2, LK.til, LK'.til, oneF_bq w2 w3, oneF_bq w2' w3', Nat.le_trans (oneF_len _) (lT e he), Nat.le_trans (oneF_len _) (lU e2 he2), fun r G3 hr3 sG3 => ?_⟩
      have hd : Dw m T U e.1 r := ⟨e, he, e2, he2, rfl, ee2, by
        cases r with
        | none => exact fun z z0 z1 => by rw [← LK.out z z0 z1, ← LK'.out z z0 z1]; exact hr3 z z0 z1
        | some x =>
          obtain ⟨k0, k1, k2, k3⟩ := hr3
          exact ⟨k0, k1, by rw [← LK.out x k0 k1, ← LK'.out x k0 k1]; exact k2, fun z z0 z1 => by rw [← LK.out z z0 (by omega), ← LK'.out z z0 (by omega)]; exact k3 z z0 z1⟩⟩
      have s13 := (sG1.trans sG2).trans sG3
      have hdf3 := hdf.kp (kp_same s13)
      have els2 : (ls ++ [(e.1, r)]).map (·.1) = (T.map (·.1)).take (i + 1) := by rw [List.map_append, els, take_snoc hwd0]; rfl
      have hls2 : ∀ z ∈ ls ++ [(e.1, r)], Dw m T U z.1 z.2 := fun z hz => by
        rcases List.mem_append.mp hz with k | k
        · exact hls z k
        · rw [List.mem_singleton.mp k]; exact hd
      have el : least (ls ++ [(e.1, r)]) = lstep (least ls) (e.1, r) := by unfold least; rw [List.foldl_append]; rfl
      have stay : lstep (least ls) (e.1, r) = least ls → ∀ sx, ∃ v' s3' s4' ls', [some (V.ref x), some (.ref y), some fv, some (.str e.1), sx] = [some (.ref x), some (.ref y), some v', s3', s4'] ∧ ls'.map (·.1) = (T.map (·.1)).take (i + 1) ∧ (∀ e ∈ ls', Dw m T U e.1 e.2) ∧ DifV G3 v' (least ls') ∧ Same H2 G3 := fun e1 sx =>
        ⟨fv, _, _, _, rfl, els2, hls2, by rw [el, e1]; exact hdf3, sG.trans s13⟩
      have put : ∀ k, r = some k → lstep (least ls) (e.1, r) = some (k, e.1) → (2 ≤ sizeLine ∧ ∀ t, G3 t = none → ∃ v' s3' s4' ls', [some (V.ref x), some (.ref y), some (.ref t), some (.str e.1), some (iV r)] = [some (.ref x), some (.ref y), some v', s3', s4'] ∧ ls'.map (·.1) = (T.map (·.1)).take (i + 1) ∧ (∀ e ∈ ls', Dw m T U e.1 e.2) ∧ DifV (upd G3 t (.tup [.int k, .str e.1])) v' (least ls') ∧ Same H2 (upd G3 t (.tup [.int k, .str e.1]))) := fun k ek e1 =>
        ⟨by decide, fun t nt => ⟨.ref t, _, _, _, rfl, els2, hls2, by rw [el, e1]; exact ⟨t, rfl, upd_same⟩, (sG.trans s13).trans (same_lay nt)⟩⟩
      refine ⟨_, rfl, _, rfl, ?_⟩
      cases r with
      | none => exact iteB (by simp [iV]) (stay rfl _)
      | some k =>
        refine iteA (by simp [iV]) ⟨_, rfl, _, rfl, ?_⟩
        cases hle : least ls with
        | none =>
          rw [hle] at hdf3 put stay
          obtain rfl : fv = .non := hdf3
          exact iteA (by simp) ⟨_, rfl, _, rfl, put k rfl rfl⟩
        | some g =>
          rw [hle] at hdf3 put stay
          obtain ⟨tg, rfl, htg⟩ := hdf3
          refine iteB (by simp) ⟨_, rfl, _, rfl, tg, _, 0, _, rfl, rfl, .inl (.inl htg), atI_nat (j := 0) rfl, _, _, rfl, rfl, _, rfl, ite2 (fun c => ?_) (fun c => ?_)⟩
          · have c : k < g.1 := of_decide_eq_true c
            exact ⟨_, rfl, _, rfl, put k rfl (by show (if k < g.1 then _ else _) = _; rw [if_pos c])⟩
          · have c : ¬ k < g.1 := fun z => c (decide_eq_true z)
            exact stay (by show (if k < g.1 then _ else _) = _; rw [if_neg c]) _
    · rintro σ G ⟨fv, s3, s4, ls, rfl, els, hls, hdf, sG⟩
      rw [List.take_of_length_le (by simp)] at els
      exact ⟨_, rfl, q2 ls fv G els hls hdf (s12.trans sG)⟩
end
end OR

namespace OR
open PySem PySem.Spec PyProof.Rows L2
open TL (tl numL)
structure CoX (P : Program) (w : World) (K : PySem.W.Frag) (mg : Str → Option Value) (base : Heap) (k : Nat) (C : Addr) (ps : List Str) (sp : Sp) : Prop where
  ex : ∃ g fd, StX.CallO K C g ∧ FnOk P w K mg base (L2.CX P w) k g fd ps sp ∧ Binds K fd ps []
def tCoX (C : Addr) (sp : Sp) (E : L2.St → XK) (tf : TE) (t : TA) : TE := fun σ H Q => tf σ H fun y H1 => ∃ a, y = V.ref a ∧ t σ H1 fun vs H2 => (∃ dx fs, H2 a = some (.ins C dx fs)) ∧ sp (V.ref a :: vs) H2 Q (E σ)
theorem pe_coX {X : Cx} {W : WX} {k j : Nat} {C : Addr} {ps : List Str} {sp : Sp} {fe e : Expr} {es : List Expr} {tf : TE} {t : TA} {pos : Pos} (c : CoX X.prog X.w X.K X.mg X.base k C ps sp) (hr : Room j X.A) (hk : k ≤ j) (tk : Takes X W) (hf : PE X fe tf) (ha : PA X (e :: es) t)
    (ht : eval (.Call fe (e :: es) [] pos) X.env = (do callWith pos (← eval fe X.env) [] (backTo pos (starEach (e :: es) X.env)) (backToKw pos (keywordEach [] X.env))) := by rfl)
    (he : starEach (e :: es) X.env = (false, eval e X.env) :: starEach es X.env := by rfl) (hpl : (backTo pos (starEach es X.env)).any (·.1) = false := by rfl) : PE X (.Call fe (e :: es) [] pos) (tCoX C sp (WE W) tf t) := by
  obtain ⟨g, fd, c, F, hb⟩ := c.ex
  refine ⟨fun pins s σ H Q I h => ?_⟩
  refine Call_ (thn (hf.run pins s σ H _ I h) fun u s1 ⟨y, H1, I1, ry, a, ey, q⟩ => ?_) ht
  subst ey
  obtain rfl : u = Value.ref a := ry
  refine StX.callO_with (thn (ha.run pos pins s1 σ H1 _ I1 q) fun us s2 ⟨vs, H2, I2, r, hi, q2⟩ => ?_) he hpl
  have hi' : StX.InsC X H2 a C := .inr hi
  obtain ⟨ox, od, J, hd⟩ := StX.insC_at I2 hi'
  refine ⟨⟨C, ox, od, J, hd⟩, wpAny_call (PySem.W.kco_code I2.kIn J hd c.at_ c.fn c.fi ?_)⟩
  have rr : Vals (V.ref a :: vs) (Value.ref a :: us) := .cons rfl r
  have hl : (Value.ref a :: us).length = ps.length := by rw [← rr.length]; exact F.len _ _ _ _ q2
  have b := hb s2 (Value.ref a :: us) I2.kIn (by rw [List.append_nil]; exact hl)
  rw [List.append_nil] at b
  refine codeAny_mono (F.run X.A X.stack s2 H2 ⟨Value.ref a :: us, []⟩ (Value.ref a :: us) (V.ref a :: vs) Q (WE W σ) (hr.mono hk) I2.env0 b rr q2) fun r s' hq => ?_
  cases r with
  | error e => exact passAt tk σ pins H2 s2 e s' I2 hq
  | ok fl =>
    cases fl with
    | ret u => exact I2.after hq
    | next => exact False.elim hq
    | brk => exact False.elim hq
    | cont => exact False.elim hq
structure KD (G G' : Hp) : Prop where
  at_ : ∀ b o, G b = some o → (∀ kvs, o ≠ .dK kvs) → G' b = some o
  lv : ∀ b, G' b = none → G b = none
theorem KD.ins {G G' : Hp} {t C dx : Addr} {fs : List (Str × V)} (k : KD G G') (h : G t = some (.ins C dx fs)) : G' t = some (.ins C dx fs) := k.at_ _ _ h fun _ z => nomatch z
theorem KD.tup {G G' : Hp} {t : Addr} {xs : List V} (k : KD G G') (h : G t = some (.tup xs)) : G' t = some (.tup xs) := k.at_ _ _ h fun _ z => nomatch z
theorem KD.lst {G G' : Hp} {t : Addr} {xs : List V} (k : KD G G') (h : G t = some (.lst xs)) : G' t = some (.lst xs) := k.at_ _ _ h fun _ z => nomatch z
theorem LnAt.kd {CL : Addr} {H H' : Hp} {v : V} {l : Option LnR} (h : LnAt CL H v l) (k : KD H H') : LnAt CL H' v l := by
  cases l with
  | none => exact h
  | some r => obtain ⟨y, e, dx, h⟩ := h; exact ⟨y, e, dx, k.ins h⟩
theorem PcA.kd {CL : Addr} {H H' : Hp} {v : V} {q : Pce} (h : PcA CL H v q) (k : KD H H') : PcA CL H' v q := by
  obtain ⟨t, u, e, h1, h2⟩ := h
  exact ⟨t, u, e, h1.imp k.tup k.lst, h2.kd k⟩
def EntL (H : Hp) (e : Key × V) (t : Str × List Pce) : Prop := e.1 = .inr t.1 ∧ ∃ a xs, e.2 = .ref a ∧ H a = some (.lst xs) ∧ All2 (RwT H) xs t.2
theorem IsG.frm {CG CL : Addr} {H H' : Hp} {x p : Addr} {n : Int} {k : Nat} {T : Tld} (h : IsG CG CL H x n T) (f : Frm p H H') (P : Pen H p k) : IsG CG CL H' x n T := by
  obtain ⟨dx, fa, t, kvs, h1, h2, h3, h4⟩ := h
  have kp := kp_frm f P
  have n : t ≠ p := fun e => by
    obtain ⟨c, ns, k, l, hp, _⟩ := P
    rw [← e, h3] at hp
    have ek : kvs = penK c k l := by injection (Option.some.inj hp)
    rw [ek] at h4
    clear h1 h2
    cases h4 with
    | cons z1 t1 =>
      cases t1 with
      | cons z2 t2 =>
        obtain ⟨_, a, _, e2, _⟩ := z2
        cases e2
  exact ⟨dx, fa, t, kvs, kp.ins h1, kp.tup h2, f _ _ h3 n, h4.imp fun _ _ e => e.kp kp⟩
theorem EntL.frm {H H' : Hp} {p : Addr} {n : Nat} {e : Key × V} {t : Str × List Pce} (h : EntL H e t) (f : Frm p H H') (P : Pen H p n) : EntL H' e t := by
  obtain ⟨h0, a, xs, h1, h2, h3⟩ := h
  exact ⟨h0, a, xs, h1, f.lst P h2, h3.imp fun _ _ e => e.kp (kp_frm f P)⟩
theorem EntL.same {H H' : Hp} {e : Key × V} {t : Str × List Pce} (h : EntL H e t) (s : Same H H') : EntL H' e t := by
  obtain ⟨h0, a, xs, h1, h2, h3⟩ := h
  exact ⟨h0, a, xs, h1, s _ _ h2, h3.imp fun _ _ e => e.kp (kp_same s)⟩
theorem Pen.putD {H : Hp} {p d : Addr} {n : Nat} {kvs : List (Key × V)} {o : HO} (P : Pen H p n) (hd : H d = some (.dK kvs)) (n1 : d ≠ p) : Pen (upd H d o) p n := by
  obtain ⟨c, ns, k, l, h1, h2, h⟩ := P
  exact ⟨c, ns, k, l, by rw [upd_ne n1.symm]; exact h1, by rw [upd_ne (ne_of h2 hd (by intro z; cases z))]; exact h2, h⟩
theorem EntL.putD {H : Hp} {d : Addr} {kvs : List (Key × V)} {o : HO} {e : Key × V} {t : Str × List Pce} (h : EntL H e t) (hd : H d = some (.dK kvs)) : EntL (upd H d o) e t := by
  obtain ⟨h0, a, xs, h1, h2, h3⟩ := h
  exact ⟨h0, a, xs, h1, by rw [upd_ne (ne_of h2 hd (by intro z; cases z))]; exact h2, h3.imp fun _ _ e => e.kp (kp_dk hd)⟩
theorem Frm.putAny {p d : Addr} {H G : Hp} {n : Nat} {o : HO} (f : Frm p H G) (P : Pen H p n) (nd : H d = none) : Frm p H (upd G d o) := by
  have ndp : d ≠ p := fun e => by
    obtain ⟨_, hp⟩ := P.dict
    rw [← e, nd] at hp
    cases hp
  refine ⟨fun b u e nb => by rw [upd_ne (ne_of_none e nd)]; exact f _ _ e nb, fun c hc => ?_⟩
  obtain ⟨k, l, e⟩ := f.ce c hc
  exact ⟨k, l, by rw [upd_ne ndp.symm]; exact e⟩
theorem dgF {H : Hp} {p : Addr} {kvs : List (Key × V)} {o : Obj} {x : Str} {v : V} (h : H p = some (.frz o (.dK kvs))) (e : valV kvs (.inr x) = some v) : DGet H p (.str x) (some v) := by
  have z : DGet H p (kV (.inr x)) (valV kvs (.inr x)) := .inl ⟨kvs, .inr x, .inr ⟨o, h⟩, rfl, rfl⟩
  rw [e] at z
  exact z
def IsT (H : Hp) (t : Addr) (a b : Int) : Prop := H t = some (.tup [.int a, .int b])
def spLine : Sp := fun vs H Q _ => ∃ (p : Addr) (n : Nat), vs = [.ref p] ∧ Pen H p n ∧ n ≤ 800000 ∧
  ∀ (t : Addr) (H' : Hp) (a b : Int), H t = none → -(10 ^ 9) ≤ a → a ≤ 10 ^ 9 → -(10 ^ 30) < b → b < 10 ^ 30 → Pen H' p (n + 6) → IsT H' t a b → Frm p H H' → Q (.ref t) H'
section
variable {P : Program} {w : World} {K : PySem.W.Frag} {mg : Str → Option Value} {base : Heap} {C : Nat → Addr} {CP CL : Addr} {ts tw : Addr}
theorem scLn : FnScope ["_law_pen_here", "_law_slope"] ["_law_pen_here"] (defScope sLine) := ⟨rfl, rfl, rfl, by decide +kernel, rfl, by decide +kernel, by decide +kernel⟩
end
theorem KD.trans {G G1 G2 : Hp} (a : KD G G1) (b : KD G1 G2) : KD G G2 := ⟨fun c o e h => b.at_ c o (a.at_ c o e h) h, fun c h => a.lv c (b.lv c h)⟩
section
variable {P : Program} {w : World} {K : PySem.W.Frag} {mg : Str → Option Value} {base : Heap} {C : Nat → Addr} {CP CL : Addr} {ts tw : Addr}
theorem ok_line {f : Addr} {fd : FuncData} (F : Fun K "_law_line" "_law_line" sLine f fd) (D : Cl P w K mg base 1 "_law_draw" ["_law_pen_here", "_law_many"] spDraw) (C : Cl P w K mg base 2 "_law_pick" ["_law_pen_here", "_law_items"] (spPick K)) (W : Cl P w K mg base 3 "_law_whole" ["_law_pen_here"] spWhole) :
    FnOk P w K mg base CX0 4 f fd ["_law_pen_here"] spLine := by
  refine F.ok scLn (fun vs H Q E h => ?_) (fun cdv A outer s H vs Q E hr h => ?_)
  · obtain ⟨p, n, rfl, _⟩ := h
    rfl
  · obtain ⟨p, n, rfl, hP, hn, q⟩ := h
    refine ⟨_, pss_cons (ps_set (i := 1) scLn.nd rfl (.inl rfl) (pe_cl C hr (by decide) (by rfl) (pa_cons (pv 0) (pa_cons (pe_lst (pa_cons pe_int (pa_cons pe_int (pa_cons (pe_un un_neg pe_int) (pa_cons pe_int (pa_cons (pe_un un_neg pe_int)
        (pa_cons (pe_cl D hr (by decide) (by rfl) (pa_cons (pv 0) (pa_cons (pe_op op_add (pe_op op_pow pe_int pe_int) pe_int) pa_nil)))
        (pa_cons (pe_un un_neg (pe_cl D hr (by decide) (by rfl) (pa_cons (pv 0) (pa_cons (pe_op op_add (pe_op op_pow pe_int pe_int) pe_int) pa_nil)))) pa_nil)))))))) pa_nil))))
      (pss_one (ps_ret (pe_tup (pa_cons (pv 1) (pa_cons (pe_cl W hr (by decide) (by rfl) (pa_cons (pv 0) pa_nil)) pa_nil))))), ?_⟩
    have hpow : CPow 10 9 := ⟨by decide, by decide, by decide⟩
    have hm0 : (0 : Int) < 10 ^ (9 : Int).toNat + 1 := by decide
    have hm1 : ((10 : Int) ^ (9 : Int).toNat + 1).natAbs < 2 ^ 200 := by decide
    refine ⟨_, rfl, 1, rfl, 3, rfl, _, rfl, _, _, rfl, rfl, hpow, _, _, rfl, rfl, p, _, n, rfl, hm0, hm1, hP, by omega, fun r1 H1 h10 h11 P1 F1 => ?_⟩
    refine ⟨_, rfl, _, _, rfl, rfl, hpow, _, _, rfl, rfl, p, _, n + 1, rfl, hm0, hm1, P1, by omega, fun r2 H2 h20 h21 P2 F2 => ?_⟩
    refine ⟨r2, rfl, by show 7 ≤ sizeLine; decide, fun q1 hq1 => ?_⟩
    refine ⟨p, q1, _, n + 2, rfl, .inl (.inl upd_same), by show 0 < 7; decide, by show 7 ≤ 1000; decide, P2.new hq1, by omega, fun v H3 hv P3 F3 => ?_⟩
    obtain ⟨a, rfl, ha1, ha2⟩ : ∃ a : Int, v = .int a ∧ -(10 ^ 9) ≤ a ∧ a ≤ 10 ^ 9 := by
      have h11' : r1 < 10 ^ 9 + 1 := h11
      have h21' : r2 < 10 ^ 9 + 1 := h21
      simp only [List.mem_cons, List.not_mem_nil, or_false] at hv
      rcases hv with e | e | e | e | e | e | e <;> subst e <;> exact ⟨_, rfl, by omega, by omega⟩
    refine ⟨_, rfl, _, rfl, p, n + 3, rfl, P3, by omega, fun b H4 hb1 hb2 P4 F4 => ?_⟩
    refine ⟨by show 2 ≤ sizeLine; decide, fun t ht => ?_⟩
    have FF : Frm p H H4 := ((F1.trans F2).trans ((Frm.new hq1).trans F3)).trans F4
    have nt : H t = none := by
      cases e : H t with
      | none => rfl
      | some o =>
        by_cases ep : t = p
        · subst ep
          obtain ⟨c, ns, k, l, hp, _⟩ := P4
          rw [hp] at ht
          cases ht
        · rw [FF t o e ep] at ht
          cases ht
    exact q t _ a b nt ha1 ha2 hb1 hb2 (P4.new ht) upd_same (FF.trans (Frm.new ht))
end
def spExch : Sp := fun vs H Q _ => ∃ (a : Addr) (u : V) (xs : List V) (L : List Pce) (f e : Int) (l : Option LnR), vs = [.ref a, .int f, .int e, u] ∧ H a = some (.lst xs) ∧ All2 (RwT H) xs L ∧ LnT H u l ∧ L.length ≤ 400 ∧
  ∀ b ys H', H b = none → H' b = some (.lst ys) → All2 (RwT H') ys (exch f e l L) → Same H H' → Q (.ref b) H'
theorem ahd_snoc (f : Int) (L : List Pce) (q : Pce) : ahd f (L ++ [q]) = ahd f L ++ (if q.1 < f then [(q.1, if f - 1 < q.2.1 then f - 1 else q.2.1, q.2.2)] else []) := by
  unfold ahd
  rw [List.filter_append, List.map_append]
  by_cases c : q.1 < f
  · rw [if_pos c, List.filter_cons_of_pos (by simpa using c)]; rfl
  · rw [if_neg c, List.filter_cons_of_neg (by simpa using c)]; rfl
theorem bhd_snoc (e : Int) (L : List Pce) (q : Pce) : bhd e (L ++ [q]) = bhd e L ++ (if q.2.1 > e then [(if e + 1 > q.1 then e + 1 else q.1, q.2.1, q.2.2)] else []) := by
  unfold bhd
  rw [List.filter_append, List.map_append]
  by_cases c : q.2.1 > e
  · rw [if_pos c, List.filter_cons_of_pos (by simpa using c)]; rfl
  · rw [if_neg c, List.filter_cons_of_neg (by simpa using c)]; rfl
section
variable {P : Program} {w : World} {K : PySem.W.Frag} {mg : Str → Option Value} {base : Heap} {CL CG : Addr}
theorem scExch : FnScope ["_law_rows_here", "_law_first", "_law_end", "_law_line_here", "_law_ahead", "_law_behind", "_law_row"] ["_law_rows_here", "_law_first", "_law_end", "_law_line_here"] (defScope sExchanged) := ⟨rfl, rfl, rfl, by decide +kernel, rfl, by decide +kernel, by decide +kernel⟩
set_option maxHeartbeats 2000000 in
theorem ok_exch {f : Addr} {fd : FuncData} (F : Fun K "_law_exchanged" "_law_exchanged" sExchanged f fd) (B : Bd mg) : FnOk P w K mg base CX0 2 f fd ["_law_rows_here", "_law_first", "_law_end", "_law_line_here"] spExch := by
  refine F.ok scExch (fun vs H Q E h => ?_) (fun cdv A outer s H vs Q E hr h => ?_)
  · obtain ⟨a, u, xs, L, f, e, l, rfl, _⟩ := h
    rfl
  · obtain ⟨a, u, xs, L, f, e, l, rfl, ha, hX, hu, hL, R⟩ := h
    have nd := scExch.nd
    refine ⟨_, pss_cons (ps_setLc (i := 4) (own := [("_law_row", 6)]) (g := (gName 6)) rfl nd rfl rfl (sw_true rfl rfl rfl (by decide +kernel)) (pi_list (pv 0)) (blkOk_by (N := ["_law_rows_here", "_law_first", "_law_end", "_law_line_here", "_law_ahead", "_law_behind", "_law_row"]) (sc := defScope sExchanged) (by decide +kernel)) (fun _ _ _ _ _ => pg_name (i := 6) nd rfl (.inl rfl)) (fun _ _ _ _ _ => pts_one (pt_cmpR op_lt (pe_ix (ix_tupK K rfl) (pv 6) pe_int (fun _ _ => rfl)) (pv 1) (nomark _))) (fun _ _ _ _ _ => (pe_tup (pa_cons (pe_ix (ix_tupK K rfl) (pv 6) pe_int (fun _ _ => rfl)) (pa_cons (pe_callB (call_min2 rfl) (by rfl) B.min bt_min (pa_cons (pe_callTy call_int1 (by rfl) B.int bt_int (pa_cons (pe_ix (ix_tupK K rfl) (pv 6) pe_int (fun _ _ => rfl)) pa_nil)) (pa_cons (pe_callTy call_int1 (by rfl) B.int bt_int (pa_cons (pe_op op_sub (pv 1) pe_int) pa_nil)) pa_nil))) (pa_cons (pe_ix (ix_tupK K rfl) (pv 6) pe_int (fun _ _ => rfl)) pa_nil))))))
      (pss_cons (ps_setLc (i := 5) (own := [("_law_row", 6)]) (g := (gName 6)) rfl nd rfl rfl (sw_true rfl rfl rfl (by decide +kernel)) (pi_list (pv 0)) (blkOk_by (N := ["_law_rows_here", "_law_first", "_law_end", "_law_line_here", "_law_ahead", "_law_behind", "_law_row"]) (sc := defScope sExchanged) (by decide +kernel)) (fun _ _ _ _ _ => pg_name (i := 6) nd rfl (.inl rfl)) (fun _ _ _ _ _ => pts_one (pt_cmpR op_gt (pe_ix (ix_tupK K rfl) (pv 6) pe_int (fun _ _ => rfl)) (pv 2) (nomark _))) (fun _ _ _ _ _ => (pe_tup (pa_cons (pe_callB (call_max2 rfl) (by rfl) B.max bt_max (pa_cons (pe_callTy call_int1 (by rfl) B.int bt_int (pa_cons (pe_ix (ix_tupK K rfl) (pv 6) pe_int (fun _ _ => rfl)) pa_nil)) (pa_cons (pe_callTy call_int1 (by rfl) B.int bt_int (pa_cons (pe_op op_add (pv 2) pe_int) pa_nil)) pa_nil))) (pa_cons (pe_ix (ix_tupK K rfl) (pv 6) pe_int (fun _ _ => rfl)) (pa_cons (pe_ix (ix_tupK K rfl) (pv 6) pe_int (fun _ _ => rfl)) pa_nil))))))
      (pss_one (ps_ret (pe_op op_cat (pe_op op_cat (pv 4) (pe_lst (pa_cons (pe_tup (pa_cons (pv 1) (pa_cons (pv 2) (pa_cons (pv 3) pa_nil)))) pa_nil))) (pv 5))))), ?_⟩
    have lxs := hX.length
    have lA : ∀ i, i ≤ xs.length → (ahd f (L.take i)).length ≤ 400 := fun i hi => by
      unfold ahd
      rw [List.length_map]
      exact Nat.le_trans (List.length_filter_le _ _) (by rw [List.length_take]; omega)
    have lB : ∀ i, i ≤ xs.length → (bhd e (L.take i)).length ≤ 400 := fun i hi => by
      unfold bhd
      rw [List.length_map]
      exact Nat.le_trans (List.length_filter_le _ _) (by rw [List.length_take]; omega)
    refine ⟨_, rfl, a, rfl, ⟨_, .inl (.inl ha)⟩, fun D1 hD1 => lc_list (K := K) (a := a) (xs := xs) (fun i G => ∃ us, G D1 = some (.lst us) ∧ All2 (RwT G) us (ahd f (L.take i)) ∧ Same H G) ⟨[], upd_same, .nil, same_lay hD1⟩ (fun i G _ ⟨_, _, _, s⟩ => s.seq (.inl (.inl ha))) ?_ ?_⟩
    · rintro i v G hv ⟨us, hU, hUs, sG⟩
      obtain ⟨q, hq, hr0⟩ := all2_get hX hv
      obtain ⟨t, u2, rfl, ht, hl⟩ := hr0.kp (kp_same sG)
      have S0 : SqT K G t [.int q.1, .int q.2.1, u2] := .inl (.inl ht)
      have lus := hUs.length
      have la := lA i (Nat.le_of_lt (List.getElem?_eq_some_iff.mp hv).1)
      refine ⟨rfl, _, rfl, t, _, 0, _, rfl, rfl, S0, atI_nat (j := 0) rfl, _, rfl, _, _, rfl, rfl, _, rfl, ?_⟩
      by_cases c : q.1 < f
      · refine iteA (decide_eq_true c) ⟨_, rfl, t, _, 0, _, rfl, rfl, S0, atI_nat (j := 0) rfl, _, rfl, t, _, 1, _, rfl, rfl, S0, atI_nat (j := 1) rfl, .inl ⟨_, rfl, _, rfl, _, _, rfl, rfl, .inl ⟨_, rfl, _, _, rfl, _, rfl, t, _, 2, _, rfl, rfl, S0, atI_nat (j := 2) rfl, by show 3 ≤ sizeLine; decide, fun z nz => ?_⟩⟩⟩
        have s4 := same_lay (o := .tup [.int q.1, .int (if f - 1 < q.2.1 then f - 1 else q.2.1), u2]) nz
        have hU4 := s4 _ _ hU
        refine ⟨_, hU4, small1000 (by omega), us ++ [.ref z], upd_same, ?_, same_upd (sG.trans s4) hD1⟩
        rw [take_snoc hq, ahd_snoc, if_pos c]
        exact (hUs.imp fun _ _ h => h.kp ((kp_same s4).trans (kp_lst hU4))).append (.cons ⟨z, u2, rfl, (kp_lst hU4).tup upd_same, hl.kp ((kp_same s4).trans (kp_lst hU4))⟩ .nil)
      · refine iteB (decide_eq_false c) ⟨us, hU, ?_, sG⟩
        rw [take_snoc hq, ahd_snoc, if_neg c, List.append_nil]; exact hUs
    rintro G1 ⟨ah, hA, hAs, sG1⟩
    have la1 := lA _ (Nat.le_refl _)
    rw [List.take_of_length_le (by omega)] at hAs la1
    refine ⟨_, rfl, a, rfl, ⟨_, .inl (.inl (sG1 _ _ ha))⟩, fun D2 hD2 => lc_list (K := K) (a := a) (xs := xs) (fun i G => ∃ us, G D2 = some (.lst us) ∧ All2 (RwT G) us (bhd e (L.take i)) ∧ Same G1 G) ⟨[], upd_same, .nil, same_lay hD2⟩ (fun i G _ ⟨_, _, _, s⟩ => s.seq (.inl (.inl (sG1 _ _ ha)))) ?_ ?_⟩
    · rintro i v G hv ⟨us, hU, hUs, sG⟩
      obtain ⟨q, hq, hr0⟩ := all2_get hX hv
      obtain ⟨t, u2, rfl, ht, hl⟩ := hr0.kp (kp_same (sG1.trans sG))
      have S0 : SqT K G t [.int q.1, .int q.2.1, u2] := .inl (.inl ht)
      have lus := hUs.length
      have la := lB i (Nat.le_of_lt (List.getElem?_eq_some_iff.mp hv).1)
      refine ⟨rfl, _, rfl, t, _, 1, _, rfl, rfl, S0, atI_nat (j := 1) rfl, _, rfl, _, _, rfl, rfl, _, rfl, ?_⟩
      by_cases c : q.2.1 > e
      · refine iteA (decide_eq_true c) ⟨_, rfl, t, _, 0, _, rfl, rfl, S0, atI_nat (j := 0) rfl, .inl ⟨_, rfl, _, rfl, _, _, rfl, rfl, .inl ⟨_, rfl, _, _, rfl, _, rfl, t, _, 1, _, rfl, rfl, S0, atI_nat (j := 1) rfl, _, rfl, t, _, 2, _, rfl, rfl, S0, atI_nat (j := 2) rfl, by show 3 ≤ sizeLine; decide, fun z nz => ?_⟩⟩⟩
        have s4 := same_lay (o := .tup [.int (if e + 1 > q.1 then e + 1 else q.1), .int q.2.1, u2]) nz
        have hU4 := s4 _ _ hU
        refine ⟨_, hU4, small1000 (by omega), us ++ [.ref z], upd_same, ?_, same_upd (sG.trans s4) hD2⟩
        rw [take_snoc hq, bhd_snoc, if_pos c]
        exact (hUs.imp fun _ _ h => h.kp ((kp_same s4).trans (kp_lst hU4))).append (.cons ⟨z, u2, rfl, (kp_lst hU4).tup upd_same, hl.kp ((kp_same s4).trans (kp_lst hU4))⟩ .nil)
      · refine iteB (decide_eq_false c) ⟨us, hU, ?_, sG⟩
        rw [take_snoc hq, bhd_snoc, if_neg c, List.append_nil]; exact hUs
    rintro G2 ⟨bh, hB, hBs, sG2⟩
    have lb1 := lB _ (Nat.le_refl _)
    rw [List.take_of_length_le (by omega)] at hBs lb1
    have lah := hAs.length
    have lbh := hBs.length
    refine ⟨_, rfl, _, rfl, _, rfl, _, rfl, by show 3 ≤ sizeLine; decide, fun t9 nt9 => ⟨by show 1 ≤ sizeLine; decide, fun l1 nl1 => ?_⟩⟩
    have st := same_lay (o := .tup [.int f, .int e, u]) nt9
    have s4 := st.trans (same_lay (o := .lst [.ref t9]) nl1)
    refine ⟨D1, l1, _, _, rfl, rfl, s4 _ _ (sG2 _ _ hA), upd_same, ?_, fun l2 nl2 => ?_⟩
    · exact Nat.le_trans (show ah.length + 1 ≤ 1000 by omega) (by decide)
    have s5 := s4.trans (same_lay (o := .lst (ah ++ [.ref t9])) nl2)
    refine ⟨_, rfl, l2, D2, _, _, rfl, rfl, upd_same, s5 _ _ hB, ?_, fun l3 nl3 => ?_⟩
    · rw [List.length_append]
      exact Nat.le_trans (show ah.length + 1 + bh.length ≤ 1000 by omega) (by decide)
    have s6 := s5.trans (same_lay (o := .lst ((ah ++ [.ref t9]) ++ bh)) nl3)
    have tot := (sG1.trans sG2).trans s6
    refine R l3 _ _ ((sG1.trans sG2).trans s5 |>.free nl3) upd_same ?_ tot
    refine ((hAs.imp fun _ _ h => h.kp (kp_same (sG2.trans s6))).append (.cons ⟨t9, u, rfl, ?_, hu.kp (kp_same tot)⟩ .nil)).append (hBs.imp fun _ _ h => h.kp (kp_same s6))
    exact (same_lay nl3) _ _ ((same_lay nl2) _ _ ((same_lay nl1) _ _ upd_same))
end
def EntG (CL : Addr) (G0 H : Hp) (e : Key × V) (t : Str × List Pce) : Prop := e.1 = .inr t.1 ∧ ∃ a xs, e.2 = .ref a ∧ G0 a = none ∧ H a = some (.lst xs) ∧ All2 (PcA CL H) xs t.2
structure KE (G G' : Hp) : Prop where
  l : ∀ b xs, G b = some (.lst xs) → G' b = some (.lst xs)
  t : ∀ b xs, G b = some (.tup xs) → G' b = some (.tup xs)
  i : ∀ b C dx fs, G b = some (.ins C dx fs) → G' b = some (.ins C dx fs)
theorem EntG.ke {CL : Addr} {G0 H H' : Hp} {e : Key × V} {t : Str × List Pce} (h : EntG CL G0 H e t) (k : KE H H') : EntG CL G0 H' e t := by
  obtain ⟨h0, a, xs, h1, h2, h3, h4⟩ := h
  refine ⟨h0, a, xs, h1, h2, k.l _ _ h3, h4.imp fun v q z => ?_⟩
  obtain ⟨t, u, e1, e2, e3⟩ := z
  refine ⟨t, u, e1, e2.imp (k.t _ _) (k.l _ _), ?_⟩
  cases hl : q.2.2 with
  | none => rw [hl] at e3; exact e3
  | some r => rw [hl] at e3; obtain ⟨y, e, dx, h⟩ := e3; exact ⟨y, e, dx, k.i _ _ _ _ h⟩
theorem ke_frz {G : Hp} {d : Addr} {ob : Obj} {u o : HO} (h : G d = some (.frz ob u)) : KE G (upd G d o) :=
  ⟨fun b xs e => by rw [upd_ne (ne_of e h (by intro z; cases z))]; exact e, fun b xs e => by rw [upd_ne (ne_of e h (by intro z; cases z))]; exact e, fun b C dx fs e => by rw [upd_ne (ne_of e h (by intro z; cases z))]; exact e⟩
theorem kd_dk {G : Hp} {a : Addr} {kvs : List (Key × V)} {u : HO} (h : G a = some (.dK kvs)) : KD G (upd G a u) := ⟨fun b o e h2 => by
  rw [upd_ne (ne_of e h (h2 kvs))]
  exact e, fun b hb => by
  by_cases e : b = a
  · rw [e, upd_same] at hb; cases hb
  · rw [upd_ne e] at hb; exact hb⟩
theorem kd_same {G G' : Hp} (s : Same G G') : KD G G' := ⟨fun b o e _ => s b o e, fun b h => s.free h⟩
theorem EntL.kd {H H' : Hp} {e : Key × V} {t : Str × List Pce} (h : EntL H e t) (k : KD H H') : EntL H' e t := by
  obtain ⟨h0, a, xs, h1, h2, h3⟩ := h
  refine ⟨h0, a, xs, h1, k.lst h2, h3.imp fun _ _ e => ?_⟩
  obtain ⟨t, u, e1, e2, e3⟩ := e
  refine ⟨t, u, e1, k.tup e2, ?_⟩
  revert e3
  generalize (_ : Pce).2.2 = l
  intro e3
  cases l with
  | none => exact e3
  | some r => obtain ⟨y, e4, e5⟩ := e3; exact ⟨y, e4, k.tup e5⟩
theorem EntG.kd {CL : Addr} {G0 H H' : Hp} {e : Key × V} {t : Str × List Pce} (h : EntG CL G0 H e t) (k : KD H H') : EntG CL G0 H' e t := by
  obtain ⟨h0, a, xs, h1, h2, h3, h4⟩ := h
  exact ⟨h0, a, xs, h1, h2, k.lst h3, h4.imp fun _ _ e => e.kd k⟩
theorem EntG.entA {K : PySem.W.Frag} {CL : Addr} {G0 H : Hp} {e : Key × V} {t : Str × List Pce} (h : EntG CL G0 H e t) : EntA K CL H e t := by
  obtain ⟨h0, a, xs, h1, h2, h3, h4⟩ := h
  exact ⟨h0, a, xs, h1, .inl (.inl (.inl h3)), h4⟩
def spLaw (K : PySem.W.Frag) : Sp := fun vs H Q _ => ∃ (a : Addr) (ns : List Int), vs = [.ref a] ∧ SqL K H a (ns.map V.int) ∧ ns.length ≤ 63 ∧ ∀ H', Q (.bl true) H'
structure FnG (P : Program) (w : World) (K : PySem.W.Frag) (mg : Str → Option Value) (base : Heap) (k : Nat) (f : Addr) (fd : FuncData) (ps : List Str) (sp : Sp) : Prop where
  len : ∀ vs H Q E, sp vs H Q E → vs.length = ps.length
  go : ∀ (A : Around) (outer : List Env) (s : Shared) (H : Hp) (args : Args) (us : List Value) (vs : List V) (Q : VK) (E : XK), A.guards = some [] → Room k A → Env0 P w K mg base A outer s H → BindsTo s fd args (ps.zip us) → Vals vs us → sp vs H Q E →
    codeAny (model P w) A (.call (.ref f) args) (CR CX0 outer P w H s Q E) s
section
variable {P : Program} {w : World} {K : PySem.W.Frag} {mg : Str → Option Value} {base : Heap}
theorem okG {x qual : Str} {st : Stmt} {f : Addr} {fd : FuncData} {N ps : List Str} {k : Nat} {sp : Sp} (F : Fun K x qual st f fd) (S : FnScope N ps (defScope st)) (len : ∀ vs H Q E, sp vs H Q E → vs.length = ps.length)
    (body : ∀ (cdv : Value) (A : Around) (outer : List Env) (s : Shared) (H : Hp) (vs : List V) (Q : VK) (E : XK), (A.deeper (envOfC qual (defScope st) s.heap.objs.size f cdv)).guards = some [] → Room k (A.deeper (envOfC qual (defScope st) s.heap.objs.size f cdv)) → sp vs H Q E →
      ∃ t, PSs (cxOf CX0 P w K mg base N qual (defScope st) f cdv A outer s H E).nox (defBody st) t ∧ t { nx := fun _ H' => Q .non H', rt := Q } (start N vs) H) : FnG P w K mg base (k + 1) f fd ps sp := by
  obtain ⟨oc, od, kV, doc, pm, an, cdv, ct, osl, rfl, lk, hcd⟩ := F.ex
  refine ⟨len, fun A outer s H args us vs Q E hg hr e0 hb r hsp => ?_⟩
  obtain ⟨t, ht, hq⟩ := body cdv A outer s H vs Q E hg (hr.deeper _) hsp
  have keep : ∀ b o, base.get? b = some o → s.heap.get? b = some o := fun b o e => (e0.bs b o e).1
  have hk : ∀ y ∈ ps.zip us, (defScope st).names.lookup y.1 = some .local ∨ ((defScope st).names.lookup y.1 = some .cell ∧ ((cellsFrom (s.heap.objs.size + 1) (defScope st).names []).lookup y.1).isSome = true) := fun ⟨n, v⟩ hy =>
    (S.par n (List.of_mem_zip hy).1).imp id fun q => ⟨q, PySem.W.cellsFrom_some _ _ _ (.inl q)⟩
  refine codeAny_call_function hr.depth (e0.mod.kin.keeps keep _ _ lk) rfl S.co S.gen rfl (PySem.W.codeRec_of (e0.mod.kin.keeps keep) hcd) (hb _ _ _ _ (wpAny_newFunctionEnv_cells S.kind hk fun env he s1 x => ?_))
  subst he
  refine ⟨(e0.mod.nolimit.keeps keep).keeps x.toInCall.keep, codeAny_func (wpAny_mono (ht.nox.run [] s1 (start N vs) H _ (inv_start S hr.hd e0 (len _ _ _ _ hsp) r x) hq) (fun fl s' hs => ?_) fun e s' hs => hs)⟩
  have fin : ∀ {σ' : L2.St} {H' : Hp} {v : V} {u : Value}, Inv (cxOf CX0 P w K mg base N qual (defScope st) f cdv A outer s H E) [] σ' H' s' → RelV v u → Q v H' → CE outer P w H s Q u s' := fun J rv q => ⟨_, _, J.os, J.bare, J.base, J.hok, rv, q⟩
  cases fl with
  | ret u => obtain ⟨v, σ', H', J, rv, q⟩ := hs; exact fin J rv q
  | next => obtain ⟨σ', H', J, q⟩ := hs; exact fin (v := V.non) (u := Value.none) J rfl q
  | brk => obtain ⟨_, _, _, q⟩ := hs; exact q.elim
  | cont => obtain ⟨_, _, _, q⟩ := hs; exact q.elim
end
section
variable {P : Program} {w : World} {K : PySem.W.Frag} {mg mb : Str → Option Value}
/-- the heap without what is tracked is a base; the call from it -/
theorem from_base {k : Nat} {fa a : Addr} {fd : FuncData} {x : Str} {sp : Sp} {s₁ : Shared} {us : List Value} {H : Hp}
    (KX : K.In s₁.heap) (hns : s₁.heap.Ns mainGlobals mg) (hb : s₁.heap.Ns builtinsNs mb) (hbb : ∀ x : Str, x ≠ "__name__" → mb x = bootBuiltins x) (hlim : s₁.heap.NoLimit) (hg : s₁.gens = #[])
    (ha : s₁.heap.get? a = some { cls := .type "list", data := .seq us.toArray }) (hr : Room k callerA)
    (F : ∀ base : Heap, K.In base → base.Ns mainGlobals mg → FnG P w K mg base k fa fd [x] sp) (hbind : ∀ (s : Shared) (u : Value), BindsTo s fd ⟨[u], []⟩ [(x, u)])
    (hsp : sp [.ref a] H (fun v _ => v = .bl true) fun _ _ _ => False) (hO : Only H) (hok : HOk P w H s₁.heap) (only : ∀ b, H b ≠ none → b = a) (out : H a ≠ none → K.lookup a = none) :
    codeAny (model P w) callerA (.call (.ref fa) ⟨[.ref a], []⟩) (fun r s' => r = .ok (.ret (.bool true)) ∧ OldK s₁.heap s'.heap ∧ s'.os = s₁.os ∧ AllBare s'.gens) s₁ := by
  have free : ∀ {b : Addr}, b ≠ a → H b = none := fun {b} n => Classical.byContradiction fun c => n (only b c)
  have dicts : ∀ {b : Addr} {m : Str → Option Value}, s₁.heap.Ns b m → (hidT s₁.heap H).Ns b m := fun {b m} ⟨o, es, ep, e, d, r⟩ => by
    refine ⟨o, es, ep, hidT_get e (free fun z => ?_), d, r⟩
    subst z
    rw [ha] at e
    cases e
    cases (show Data.seq us.toArray _ = Data.dict es ep from d)
  have hK : K.In (hidT s₁.heap H) := fun b o e => hidT_get (KX b o e) (Classical.byContradiction fun c => by
    cases only b c
    rw [out c] at e
    cases e)
  obtain ⟨mc, l1, l2⟩ := hlim
  have e0 : Env0 P w K mg (hidT s₁.heap H) callerA [] s₁ H := ⟨rfl, ⟨hK, dicts hns, ⟨mb, dicts hb, hbb⟩, ⟨mc, dicts l1, l2⟩⟩, fun b o e => of_hidT e, Nat.le_of_eq (hidT_size _ _), trivial, (fun b hb => by cases hb), hok, .of_eq hg⟩
  refine codeAny_mono ((F _ hK (dicts hns)).go callerA [] s₁ H ⟨[.ref a], []⟩ [.ref a] [.ref a] _ _ rfl hr e0 (hbind s₁ (.ref a)) (.cons rfl .nil) hsp) fun r s' h => ?_
  rcases r with e | fl
  · exact (show False from h).elim
  cases fl with
  | next => exact h.elim
  | brk => exact h.elim
  | cont => exact h.elim
  | ret u =>
    obtain ⟨v, H', os, bare, un, hok', rv, q⟩ := h
    cases (show v = .bl true from q)
    cases (show u = Value.bool true from rv)
    refine ⟨rfl, OldK.of_keep fun b o e => ?_, os, bare⟩
    rcases hO b with z | ⟨ob, xs, z⟩
    · exact un.keep b o e z (fun z => by cases z) (by simp)
    · obtain ⟨e1, _⟩ := hok b _ z
      obtain ⟨e2, _⟩ := hok' b _ (un.frzs b ob _ z)
      rw [e] at e1
      cases e1
      exact e2
theorem law_g {k : Nat} {fa a : Addr} {fd : FuncData} {x : Str} {sp : Sp} {s₁ : Shared} {us : List Value} {ns : List Int}
    (KX : K.In s₁.heap) (hns : s₁.heap.Ns mainGlobals mg) (hb : s₁.heap.Ns builtinsNs mb) (hbb : ∀ x : Str, x ≠ "__name__" → mb x = bootBuiltins x) (hlim : s₁.heap.NoLimit) (hg : s₁.gens = #[])
    (ha : s₁.heap.get? a = some { cls := .type "list", data := .seq us.toArray }) (hi : IntsAre us ns) (hl : ns.length ≤ sizeLine) (hr : Room k callerA)
    (F : ∀ base : Heap, K.In base → base.Ns mainGlobals mg → FnG P w K mg base k fa fd [x] sp) (hbind : ∀ (s : Shared) (u : Value), BindsTo s fd ⟨[u], []⟩ [(x, u)])
    (hsp : ∀ H : Hp, Only H → SqL K H a (ns.map V.int) → sp [.ref a] H (fun v _ => v = .bl true) fun _ _ _ => False) :
    codeAny (model P w) callerA (.call (.ref fa) ⟨[.ref a], []⟩) (fun r s' => r = .ok (.ret (.bool true)) ∧ OldK s₁.heap s'.heap ∧ s'.os = s₁.os ∧ AllBare s'.gens) s₁ := by
  have rv := vals_ints hi
  have ln : us.length ≤ sizeLine := by rw [hi.length]; exact hl
  by_cases hk : K.lookup a = none
  · -- the script is tracked, frozen
    generalize eH : (fun b => if b = a then some (.frz { cls := .type "list", data := .seq us.toArray } (.lst (ns.map V.int))) else none : Hp) = H
    have at_a : H a = some (.frz { cls := .type "list", data := .seq us.toArray } (.lst (ns.map V.int))) := by rw [← eH]; exact if_pos rfl
    have off : ∀ {b}, b ≠ a → H b = none := fun {b} n => by rw [← eH]; exact if_neg n
    have hO : Only H := fun b => if h : b = a then .inr ⟨_, _, h ▸ at_a⟩ else .inl (off h)
    refine from_base KX hns hb hbb hlim hg ha hr F hbind (hsp H hO (.inl (.inr ⟨_, at_a⟩))) hO (fun b u z => ?_) (fun b c => Classical.byContradiction fun n => c (off n)) fun _ => hk
    by_cases h : b = a
    · subst h
      rw [at_a] at z
      cases z
      exact ⟨ha, by rw [List.length_map]; exact hl, us, _, rv, ha⟩
    · rw [off h] at z
      cases z
  · -- the script is an object of the module
    obtain ⟨o, ho⟩ := Option.ne_none_iff_exists'.mp hk
    have e := KX a o ho
    rw [ha] at e
    cases e
    have hO : Only (fun _ => none) := fun _ => .inl rfl
    exact from_base KX hns hb hbb hlim hg ha hr F hbind (hsp _ hO (.inr ⟨_, us.toArray, _, ho, rfl, rfl, rfl, by rw [List.size_toArray]; exact ln, by simpa using rv⟩)) hO (fun b u z => by cases (show (none : Option HO) = some u from z)) (fun b c => absurd rfl c) fun c => absurd rfl c
end
theorem walk_g {l : PySem.W.OpenLaw} {n k : Nat} {q : Program} {loose : List Str} {XP : (Str → Option Value) → Heap → Prop} {YP : World → Heap → Prop} {d : DefRec} {K : Params → PySem.W.Frag} {sp : World → Sp} {x : Str}
    (hn : l.most = some n) (hn2 : n ≤ sizeLine) (hdf : d.params.defaults = []) (hr : Room k callerA) (hY : ∀ (w : World) (h : Heap), YP w h → (K w.params).In h)
    (F : ∀ (w : World) (mg : Str → Option Value) (fa : Addr) (h : Heap), (K w.params).In h → h.Ns mainGlobals mg → XP mg h → mg d.name = some (.ref fa) →
      ∃ fd : FuncData, (∀ (s : Shared) (u : Value), BindsTo s fd ⟨[u], []⟩ [(x, u)]) ∧ ∀ base : Heap, (K w.params).In base → base.Ns mainGlobals mg → FnG l.prog w (K w.params) mg base k fa fd [x] (sp w))
    (hsp : ∀ (w : World) (H : Hp) (a : Addr) (ns : List Int), ns.length ≤ n → Only H → SqL (K w.params) H a (ns.map V.int) → sp w [.ref a] H (fun v _ => v = .bl true) fun _ _ _ => False) : PySem.W.WalkO q loose XP YP l.row.toRowW d [] (fun f vs => PySem.call f vs) := by
  refine Att.attach_call hn hdf fun w s₀ s₁ mg mb fa o pm cd doc a vs ns G Y ho hd hcd hmg hobj hints hlen hg => ?_
  have KX := hY w _ Y
  obtain ⟨fd, hb, hF⟩ := F w mg fa _ KX G.T.g G.X hmg
  exact law_g KX G.T.g G.T.b G.T.builtins G.T.nolimit hg hobj hints (Nat.le_trans hlen hn2) hr hF hb fun H hO hS => hsp w H a ns hlen hO hS
theorem FnG.mono {P : Program} {w : World} {K : PySem.W.Frag} {mg : Str → Option Value} {base : Heap} {j k : Nat} {f : Addr} {fd : FuncData} {ps : List Str} {sp : Sp} (F : FnG P w K mg base j f fd ps sp) (h : j ≤ k) : FnG P w K mg base k f fd ps sp :=
  ⟨F.len, fun A outer s H args us vs Q E hg hr => F.go A outer s H args us vs Q E hg (hr.mono h)⟩
/-- clauses `except C as n`, each with its slot -/
inductive HdsN (X : Cx) : List ExceptHandler → List (Value × Nat × (Addr → Value → Option Addr → TS)) → Prop
  | none : HdsN X [] []
  | cons {cn vn : Str} {c : Value} {i : Nat} {ts : Addr → Value → Option Addr → TS} {st : Stmt} {su : List Stmt} {p1 p2 : Pos} {hl : List ExceptHandler} {tl : List (Value × Nat × (Addr → Value → Option Addr → TS))}
      (slot : X.N[i]? = some vn) (loc : X.env.kindOf vn = some .local) (nam : Names X cn c)
      (sui : ∀ (ea : Addr) (eo : Obj) (ec : Value) (ed : Option Addr) (pn : List (Addr × Obj)), Zc ec ed eo → (∃ vs, eo.data = .fields vs) → PSs (X.suite ea ((ea, eo) :: pn)) (st :: su) (ts ea ec ed))
      (rest : HdsN X hl tl) : HdsN X (.ExceptHandler (some (.Name cn p1)) (some vn) (st :: su) p2 :: hl) ((c, i, ts) :: tl)
section
variable {P : Program} {w : World} {K : PySem.W.Frag} {mg : Str → Option Value} {base : Heap} {C : Nat → Addr} {CP : Addr}
def told : Nat → Str → List V → List V
  | 2, f, [g] => [.str f, g]
  | 5, f, [_, g, _, _] => [.str f, g]
  | _, f, _ => [.str f]
end
/-- at which index the other function stands -/
def named (i : Nat) (f : Str) (x : List V) : List V := told i f x
/-- what the clauses ask of an exception of the body, clause by clause: (class, slot of the name, suite) -/
def wAsMany (K : PySem.W.Frag) (Wo : WX) (D : Ends) : List (Value × Nat × (Addr → Value → Option Addr → TS)) → WX
  | [] => Wo
  | (c, i, ts) :: rest => wAs K c i ts (wAsMany K Wo D rest) D
section
variable {X : Cx} {body : List Stmt} {h0 : ExceptHandler} {hl : List ExceptHandler} {tl : List (Value × Nat × (Addr → Value → Option Addr → TS))} {pos : Pos} {tb : WX → TS} {Wo : WX}
theorem ps_try_names (stk : X.stack = X.env :: X.outer) (frm : X.env.frame = some X.env.locals) (hN : X.N.Nodup) (out : Takes X Wo)
    (bod : ∀ (W : WX) (pn : List (Addr × Obj)) (xe : Value → Shared → Prop), Takes (X.tr pn xe) W → PassesOwn (model X.prog X.w) X.A X.env xe → PSs (X.tr pn xe) body (tb W))
    (cls : HdsN X (h0 :: hl) tl) : PS X (.Try body (h0 :: hl) [] [] pos) (fun D σ H => tb (wAsMany X.K Wo D tl) D σ H) := by
  refine ⟨fun pins s σ H D I hpre => ?_⟩
  have ok := I.ok
  have frs1 : X.A.frames = some (X.env :: X.outer) := by rw [ok.frames, stk]
  refine wpAny_Try_except (wpAny_mono ((bod (wAsMany X.K Wo D tl) (X.pn ++ pins) (fun e q1 => wpAny (model X.prog X.w) X.A (noteFrame e X.env) (fun _ q2 => wpAny (model X.prog X.w) X.A (setFlight e none)
    (fun _ q3 => wpAny (model X.prog X.w) X.A (handleBy e X.env (h0 :: hl)) (SP X pins D) X.xe q3) X.xe q2) X.xe q1) (fun _ sx raised => ?_) PassesOwn.looking).run [] s σ H D (I.toTry _) hpre) (fun fl sb endOf => ?_) (fun _ _ z => z))
  · obtain ⟨ea, Bd, sAt, pinsT, σT, HT, ecl, ed, rfl, invT, nb, upT, skyT, freeT, osT, agT, wish⟩ := raised
    have invA : Inv X pins σT HT sAt := invT.ofTry ok
    have sky0 : Sky Bd (X.env :: X.outer) ea (Zc ecl ed) X.env.locals sx.heap := by rw [← stk]; exact skyT
    show wpAny (model X.prog X.w) X.A (noteFrame (Value.ref ea) X.env) _ _ _
    refine Sky.land Zc.steady frs1 frm sky0 fun hp3 flown up1 => ?_
    have inv3 : Inv X pins σT HT { sx with heap := hp3 } := invA.landed nb flown.1 (upT.trans up1) osT agT
    obtain ⟨eo3, fs3, at3, zc3, dat3⟩ := flown.there
    have apart : ∀ {hp : Heap} {eo : Obj} {fs : Array Value}, hp.FunFrames Bd (X.env :: X.outer) → hp.get? ea = some eo → eo.data = .fields fs → ea ∉ frs (X.env :: X.outer) := by
      intro hp eo fs ffr eat edt mem
      obtain ⟨_, eo', eat', hnf⟩ := ffr.mem mem
      rw [eat] at eat'; cases eat'
      exact hnf _ edt
    have notIn := apart flown.2.2.1 at3 dat3
    have offL : ea ≠ X.env.locals := fun eq => notIn (List.mem_filterMap.mpr ⟨X.env, List.mem_cons_self, by rw [frm, eq]⟩)
    have offF : ea ∉ X.fs := by
      intro mem
      obtain ⟨en, hen, qen⟩ := List.mem_filterMap.mp mem
      exact notIn (List.mem_filterMap.mpr ⟨en, List.mem_cons_of_mem _ hen, qen⟩)
    have suit3 := inv3.suite at3 dat3 freeT offL offF
    have walk : ∀ {hl' : List ExceptHandler} {tl' : List (Value × Nat × (Addr → Value → Option Addr → TS))}, HdsN X hl' tl' → wAsMany X.K Wo D tl' ecl ed σT HT →
        wpAny (model X.prog X.w) X.A (handleBy (Value.ref ea) X.env hl') (SP X pins D) X.xe { sx with heap := hp3 } := by
      intro hl' tl' hk
      induction hk with
      | none =>
        intro wish
        refine wpAny_handleBy_nil ?_
        obtain ⟨k1, k2, k3, eo, fs, tb, tbo, tbs, eat, ezc, edt, e1, er⟩ := id flown
        unfold PySem.passOn
        refine wpAny_bind (wpAny_field eat edt e1 ?_)
        rw [if_neg (show ¬ (Value.ref tb == Value.none) = true by simp)]
        have onward : wpAny (model X.prog X.w) X.A (setFlight (Value.ref ea) X.env.frame) (fun _ s4 => wpAny (model X.prog X.w) X.A (throw (Value.ref ea) : Sem Flow) (SP X pins D) X.xe s4) X.xe { sx with heap := hp3 } := by
          rw [frm]
          refine HandSPX.setFlight_upZ flown fun hp4 hh4 up2 => wpAny_throw (out _ _ ?_)
          exact ⟨ea, Bd, sAt, pins, σT, HT, ecl, ed, rfl, invA, nb, (upT.trans up1).trans up2, .inr (.inr (by rw [stk]; exact hh4)), freeT, osT, agT, wish⟩
        first
          | exact wpAny_bind (wpAny_pure (wpAny_bind onward))
          | exact wpAny_bind onward
      | @cons cn vn c i ts st su p1 p2 hl2 tl2 slot loc nam sui rest ih =>
        intro wish
        obtain ⟨yn, exm, onYes, onNo⟩ := wish
        refine wpAny_handleBy_cons (codeAny_handlers_test ?_) (by intro y; cases y)
        have looks : PySem.W.Looks (model X.prog X.w) hp3 (typeOf (Value.ref ea)) ecl := fun A Q E s keep q => wpAny_typeOf_ref (keep _ _ at3) (by rw [zc3.1]; exact q)
        have matched := PySem.W.exm_one (M := model X.prog X.w) (inv3.kIn) looks exm
        have named : ∀ {Q : Value → Shared → Prop} {E : Value → Shared → Prop}, Q c { sx with heap := hp3 } → wpAny (model X.prog X.w) (X.A.mark (some (Value.ref ea))) (eval (.Name cn p1) X.env) Q E { sx with heap := hp3 } := by
          intro Q E q
          obtain ⟨gl, dbg, mgc | ⟨mgn, btc, nnm⟩⟩ := nam
          · exact ld_glob (X := X.suite ea ((ea, eo3) :: (X.pn ++ pins))) suit3 gl mgc q dbg
          · exact ld_blt (X := X.suite ea ((ea, eo3) :: (X.pn ++ pins))) suit3 gl mgn btc q nnm dbg
        refine named (matched.here ?_)
        cases yn with
        | false =>
          show wpAny _ X.A (handleBy (Value.ref ea) X.env hl2) _ _ _
          exact ih (onNo rfl)
        | true =>
          have isLoc : Loc X.env.scope vn := .inl loc
          apply codeAny_handlers_suite_as
          refine HandSPX.lands_againZ flown fun hp4 flown4 up2 => ?_
          have inv4 : Inv X pins σT HT { sx with heap := hp4 } := invA.landed nb flown4.1 ((upT.trans up1).trans up2) osT agT
          obtain ⟨eo4, fs4, at4, zc4, dat4⟩ := flown4.there
          have suit4 := inv4.suite at4 dat4 freeT offL offF
          refine store_ok (X := X.suite ea ((ea, eo4) :: (X.pn ++ pins))) (v := V.ref ea) suit4 hN slot isLoc rfl (fun s5 suit5 => ?_) (.inr loc)
          refine wpAny_mono ((sui ea eo4 ecl ed (X.pn ++ pins) zc4 ⟨_, dat4⟩).run [] s5 _ HT _ suit5 (onYes rfl ea freeT)) (fun fl s6 told => ?_) (fun _ _ z => False.elim z)
          have leave : ∀ {τ : L2.St} {Hτ : Hp} {Q : Shared → Prop}, Inv (X.suite ea ((ea, eo4) :: (X.pn ++ pins))) [] τ Hτ s6 → (∀ s7, Inv X pins (τ.set i none) Hτ s7 → Q s7) →
              wpAny (model X.prog X.w) X.A (do bindName X.env vn .none; unbindBehindTheSuite X.env vn p2) (fun _ s7 => Q s7) X.xe s6 := fun {τ Hτ Q} iv hq => gone_ok (iv.unsuite ok) hN slot loc hq
          cases fl with
          | ret u =>
            obtain ⟨v6, τ, Hτ, iv, rv, pv⟩ := told
            exact leave iv fun s7 jv => ⟨_, _, _, jv, rv, pv⟩
          | next =>
            obtain ⟨τ, Hτ, iv, pv⟩ := told
            exact leave iv fun s7 jv => ⟨_, _, jv, pv⟩
          | brk =>
            obtain ⟨τ, Hτ, iv, pv⟩ := told
            exact leave iv fun s7 jv => ⟨_, _, jv, pv⟩
          | cont =>
            obtain ⟨τ, Hτ, iv, pv⟩ := told
            exact leave iv fun s7 jv => ⟨_, _, jv, pv⟩
    exact walk cls wish
  · cases fl with
    | ret u =>
      obtain ⟨v, τ, Hτ, jv, rv, pv⟩ := endOf
      exact ⟨v, τ, Hτ, jv.ofTry ok, rv, pv⟩
    | next =>
      obtain ⟨τ, Hτ, jv, pv⟩ := endOf
      exact wpAny_execs_nil ⟨τ, Hτ, jv.ofTry ok, pv⟩
    | brk =>
      obtain ⟨τ, Hτ, jv, pv⟩ := endOf
      exact ⟨τ, Hτ, jv.ofTry ok, pv⟩
    | cont =>
      obtain ⟨τ, Hτ, jv, pv⟩ := endOf
      exact ⟨τ, Hτ, jv.ofTry ok, pv⟩
end
end OR

namespace OR
open PySem PySem.Spec PyProof.Rows L2
structure Rwh (n : Int) (k j : Nat) (T : Tld) : Prop where
  nd : (T.map (·.1)).Nodup
  few : T.length ≤ 3
  last : Plc n
  ok : ∀ e ∈ T, Word e.1 ∧ Til e.2 0 (n + 1) ∧ (∀ q ∈ e.2, Hq j q) ∧ e.2.length ≤ k
theorem Rwh.told {n : Int} {k j : Nat} {T : Tld} (h : Rwh n k j T) (hk : k ≤ 900) (hj : j ≤ 100) : Told n T := ⟨h.nd, by have := h.few; omega, h.last, fun e he => by obtain ⟨a, b, c, d⟩ := h.ok e he; exact ⟨a, b, fun q hq => ((c q hq).tq hj).bq, by omega⟩⟩
def spToldL (K : PySem.W.Frag) : Sp := fun vs H Q _ => ∃ (p a : Addr) (ws : List Str) (last : Int) (n : Nat), vs = [.ref p, .ref a, .int last] ∧ SqL K H a (ws.map V.str) ∧ ws.length ≤ 3 ∧ (∀ x ∈ ws, Word x) ∧ ws.Nodup ∧ Plc last ∧ Pen H p n ∧ n ≤ 600000 ∧
  ∀ d kvs T H', H d = none → H' d = some (.dK kvs) → All2 (EntL H') kvs T → T.map (·.1) = ws → Rwh last 6 1 T → Pen H' p (n + 400) → Frm p H H' → Q (.ref d) H'
section
variable {P : Program} {w : World} {K : PySem.W.Frag} {mg : Str → Option Value} {base : Heap} {CL CG ts tw : Addr}
theorem scToldL : FnScope ["_law_pen_here", "_law_words_here", "_law_last_here", "_law_told_here", "_law_word"] ["_law_pen_here", "_law_words_here", "_law_last_here"] (defScope sTold) := ⟨rfl, rfl, rfl, by decide +kernel, rfl, by decide +kernel, by decide +kernel⟩
theorem ok_toldL {f : Addr} {fd : FuncData} (F : Fun K "_law_told" "_law_told" sTold f fd) (RO : Cl P w K mg base 4 "_law_rows" ["_law_pen_here", "_law_last_here"] spRowsL) : FnOk P w K mg base CX0 5 f fd ["_law_pen_here", "_law_words_here", "_law_last_here"] (spToldL K) := by
  refine F.ok scToldL (fun vs H Q E h => ?_) (fun cdv A outer s H vs Q E hr h => ?_)
  · obtain ⟨p, a, ws, last, n, rfl, _⟩ := h
    rfl
  · obtain ⟨p, a, ws, last, n, rfl, hS, hl, hw, hnd, hla, hP, hn, R⟩ := h
    have nd := scToldL.nd
    have hu := hu_of hr
    refine ⟨_, pss_cons (ps_set (i := 3) nd rfl (.inl rfl) pe_dnewK)
      (pss_cons (ps_for PassesOwn.never rfl (pi_list (pv 1)) (pg_name (i := 4) nd rfl (.inl rfl))
          (pss_one (ps_dput hu (pv 3) (pv 4) (pe_cl RO hr (by decide) (by rfl) (pa_cons (pv 0) (pa_cons (pv 2) pa_nil))) rfl)))
      (pss_one (ps_ret (pv 3)))), ?_⟩
    refine fun d hd => ?_
    have s0 := same_lay (o := .dK []) hd
    have ndp : d ≠ p := fun e => by
      obtain ⟨_, hp⟩ := hP.dict
      rw [← e, hd] at hp
      cases hp
    refine ⟨_, rfl, a, rfl, ⟨_, s0.seq hS⟩, for_list (K := K) (a := a) (xs := ws.map V.str) (fun i σ G => ∃ u kvs T, σ = [some (.ref p), some (.ref a), some (.int last), some (.ref d), u] ∧ G d = some (.dK kvs) ∧ All2 (EntL G) kvs T ∧ T.map (·.1) = ws.take i ∧ (∀ e ∈ T, Word e.1 ∧ Til e.2 0 (last + 1) ∧ (∀ q ∈ e.2, Hq 1 q) ∧ e.2.length ≤ 6) ∧ Pen G p (n + 100 * i) ∧ Frm p H G)
      ⟨none, [], [], rfl, upd_same, .nil, rfl, (fun _ z => nomatch z), hP.same' s0, frmS s0⟩ (fun i σ G _ ⟨_, _, _, _, _, _, _, _, _, FG⟩ => FG.seq hP hS) ?_ ?_⟩
    · rintro i v σ G hv ⟨u, kvs, T, rfl, hk, hE, eT, hT, PG, FG⟩
      rw [List.getElem?_map] at hv
      obtain ⟨x, hx, rfl⟩ := Option.map_eq_some_iff.mp hv
      have hi := (List.getElem?_eq_some_iff.mp hx).1
      have mx := List.mem_of_getElem? hx
      refine ⟨_, rfl, _, rfl, p, _, last, rfl, hla, PG, by omega, fun z xs L G2 nz hz hZ t1 t2 t3 P2 F2 => ?_⟩
      have hk2 : G2 d = some (.dK kvs) := F2 _ _ hk ndp
      have hno : x ∉ T.map (·.1) := by
        rw [eT]
        intro m
        have e1 : ws = ws.take i ++ ws.drop i := (List.take_append_drop i ws).symm
        rw [e1, List.nodup_append] at hnd
        refine hnd.2.2 _ m _ ?_ rfl
        rw [← (List.getElem?_eq_some_iff.mp hx).2, ← List.getElem_cons_drop hi]
        exact List.mem_cons_self
      have hne := val_none (fun _ _ h => h.1) hE hno
      have lk := hE.length
      have lT : T.length = i := by
        have := congrArg List.length eT
        rw [List.length_map, List.length_take] at this
        omega
      refine ⟨_, rfl, _, rfl, d, _, rfl, DPut.k (k := .inr x) hk2 (small1000 (by omega)), ?_⟩
      have F3 := FG.trans F2
      refine ⟨_, kvs ++ [(.inr x, .ref z)], T ++ [(x, L)], rfl, by rw [upd_same, putK_new _ hne], ?_, ?_, fun e he => ?_, (P2.putD hk2 ndp).mono (by omega), F3.putAny hP hd⟩
      · exact (hE.imp fun _ _ h => (h.frm F2 PG).putD hk2).append (.cons ⟨rfl, z, xs, rfl, by rw [upd_ne (ne_of hz hk2 (by intro z; cases z))]; exact hz, hZ.imp fun _ _ h => h.kp (kp_dk hk2)⟩ .nil)
      · rw [List.map_append, eT, take_snoc hx]; rfl
      · rcases List.mem_append.mp he with m | m
        · exact hT e m
        · rw [List.mem_singleton.mp m]; exact ⟨hw x mx, t1, t2, t3⟩
    · rintro σ G ⟨u, kvs, T, rfl, hk, hE, eT, hT, PG, FG⟩
      rw [List.length_map] at eT PG
      rw [List.take_of_length_le (Nat.le_refl _)] at eT
      exact ⟨_, rfl, R d kvs T G hd hk hE eT ⟨by rw [eT]; exact hnd, by have := congrArg List.length eT; rw [List.length_map] at this; omega, hla, hT⟩ (PG.mono (by omega)) FG⟩
end
end OR

namespace OR
open PySem PySem.Spec PyProof.Rows L2
def spPrg (CG CL : Addr) : Sp := fun vs H Q _ => ∃ (d : Addr) (kvs : List (Key × V)) (T : Tld) (last : Int), vs = [.int last, .ref d] ∧ H d = some (.dK kvs) ∧ All2 (EntL H) kvs T ∧ Told last T ∧ T.length ≤ 3 ∧ (∀ e ∈ T, e.2.length ≤ 60) ∧
  ∀ y H' T', H y = none → T'.Perm T → Asc (T'.map (·.1)) → IsG CG CL H' y last (oneT T') → Same H H' → Q (.ref y) H'
section
variable {P : Program} {w : World} {K : PySem.W.Frag} {mg : Str → Option Value} {base : Heap} {CL CG : Addr}
theorem scPrg : FnScope ["_law_last_here", "_law_told_here", "_law_given", "_law_word", "_law_row"] ["_law_last_here", "_law_told_here"] (defScope sProgram) := ⟨rfl, rfl, rfl, by decide +kernel, rfl, by decide +kernel, by decide +kernel⟩
theorem ok_prg {f : Addr} {fd : FuncData} (F : Fun K "_law_program" "_law_program" sProgram f fd) (GM : GMk P w K mg base CG CL) (PC : Cl P w K mg base 3 "_law_piece" ["_law_row"] (spPieceL CL)) : FnOk P w K mg base CX0 8 f fd ["_law_last_here", "_law_told_here"] (spPrg CG CL) := by
  refine F.ok scPrg (fun vs H Q E h => ?_) (fun cdv A outer s H vs Q E hr h => ?_)
  · obtain ⟨d, kvs, T, last, rfl, _⟩ := h
    rfl
  · obtain ⟨d, kvs, T, last, rfl, hd, hE, hR, few, h60, R⟩ := h
    have nd := scPrg.nd
    have hu := hu_of hr
    refine ⟨_, pss_cons (ps_set (i := 2) nd rfl (.inl rfl) pe_dnewK)
      (pss_cons (ps_lock (ps_for PassesOwn.never rfl (pi_keys (pv 1)) (pg_name (i := 3) nd rfl (.inl rfl))
          (pss_one (ps_dput hu (pv 2) (pv 3) (pe_lc (own := [("_law_row", 4)]) (g := (gName 4)) (tt := tYes) rfl nd (pi_list (pe_dget hu (pv 1) (pv 3) (fun _ _ => rfl))) (blkOk_by (N := ["_law_last_here", "_law_told_here", "_law_given", "_law_word", "_law_row"]) (sc := defScope sProgram) (by decide +kernel)) (fun _ _ _ _ _ => pg_name (i := 4) nd rfl (.inl rfl)) (fun _ _ _ _ _ => pts_nil) (fun _ _ _ _ _ => (pe_cl PC hr (by decide) (by rfl) (pa_cons (pv 4) pa_nil)))) rfl))))
      (pss_one (ps_ret (pe_mkG GM hr (by decide) (by rfl) (pa_cons (pv 0) (pa_cons (pv 2) pa_nil)))))), ?_⟩
    refine fun z nz => ?_
    have s0 := same_lay (o := .dK []) nz
    have nzd : z ≠ d := fun e => by rw [e, hd] at nz; cases nz
    have hd1 := s0 _ _ hd
    refine ⟨d, .dK kvs, hd1, trivial, fun od => ?_⟩
    have hEl : All2 (EntL (upd (upd H z (.dK [])) d (.frz od (.dK kvs)))) kvs T := hE.imp fun _ _ h => (h.same s0).putD hd1
    have hz1 : (upd (upd H z (.dK [])) d (.frz od (.dK kvs))) z = some (.dK []) := by rw [upd_ne nzd, upd_same]
    have hz0 : (upd H d (.frz od (.dK kvs))) z = none := by rw [upd_ne nzd]; exact nz
    have comm : upd (upd H z (.dK [])) d (.frz od (.dK kvs)) = upd (upd H d (.frz od (.dK kvs))) z (.dK []) := by
      funext b
      by_cases e1 : b = d
      · rw [e1, upd_same, upd_ne nzd.symm, upd_same]
      · by_cases e2 : b = z
        · rw [e2, upd_ne nzd, upd_same, upd_same]
        · rw [upd_ne e1, upd_ne e2, upd_ne e2, upd_ne e1]
    rw [comm]
    have hEl : All2 (EntL (upd H d (.frz od (.dK kvs)))) kvs T := hE.imp fun _ _ h => h.putD hd
    refine ⟨_, rfl, d, od, rfl, .inl ⟨kvs, same_lay hz0 _ _ upd_same, for_any (walksK (d := d) (o := od) (kvs := kvs)) (fun i σ G => ∃ gv s3, σ = [some (.int last), some (.ref d), some (.ref z), s3, none] ∧ G z = some (.dK gv) ∧ All2 (EntG CL (fun _ => none) G) gv (T.take i) ∧ Same (upd H d (.frz od (.dK kvs))) G)
      ⟨[], none, rfl, upd_same, .nil, same_lay hz0⟩ (fun i σ G _ ⟨_, _, _, _, _, sG⟩ => sG _ _ upd_same) ?_ ?_⟩⟩
    · rintro i y σ G hy ⟨gv, s3, rfl, hgz, hgE, sG⟩
      rw [List.getElem?_map] at hy
      obtain ⟨e, he, rfl⟩ := Option.map_eq_some_iff.mp hy
      obtain ⟨t, ht, hent⟩ := all2_get hEl he
      have mt := List.mem_of_getElem? ht
      have hi : i < T.length := (List.getElem?_eq_some_iff.mp ht).1
      obtain ⟨e', _, he', hval⟩ := val_ent (fun _ _ h => h.1) hEl hR.nd mt
      obtain ⟨_, la, xs, e2, hla, hX⟩ := he'
      rw [e2] at hval
      rw [hent.1]
      have l60 := h60 t mt
      have lxs := hX.length
      have lgv := hgE.length
      rw [List.length_take] at lgv
      have hlaG := sG _ _ hla
      refine ⟨_, rfl, _, rfl, d, _, rfl, dgF (sG _ _ upd_same) hval, la, rfl, ⟨_, .inl (.inl hlaG)⟩, fun D hD => lc_list (K := K) (a := la) (xs := xs) (fun k G' => ∃ us, G' D = some (.lst us) ∧ All2 (PcT CL G') us (t.2.take k) ∧ Same G G') ⟨[], upd_same, .nil, same_lay hD⟩ (fun k G' _ ⟨_, _, _, s⟩ => s.seq (.inl (.inl hlaG))) ?_ ?_⟩
      · rintro k v G' hv ⟨us, hU, hUs, sG'⟩
        obtain ⟨q1, hq1, hr0⟩ := all2_get hX hv
        have lus := hUs.length
        rw [List.length_take] at lus
        refine ⟨rfl, yesT ⟨_, rfl, v, q1, rfl, hr0.kp (kp_same (sG.trans sG')), fun z2 G2 hz s2 => ?_⟩⟩
        have hU2 := s2 _ _ hU
        refine ⟨_, hU2, small1000 (by omega), us ++ [z2], upd_same, ?_, same_upd (sG'.trans s2) hD⟩
        rw [take_snoc hq1]
        exact (hUs.imp fun _ _ h => h.kp ((kp_same s2).trans (kp_lst hU2))).append (.cons (hz.kp (kp_lst hU2)) .nil)
      · rintro G1 ⟨us, hU, hUs, sG1⟩
        rw [List.take_of_length_le (by omega)] at hUs
        have g1 := sG1 _ _ hgz
        have k3 := kd_dk (u := .dK (putK gv (.inr t.1) (.ref D))) g1
        have hgE1 := hgE.imp fun _ _ h => h.kd (kd_same sG1)
        have nov : valV gv (.inr t.1) = none := by
          refine val_none (fun _ _ h => h.1) hgE fun c => ?_
          have e1 : T.map (·.1) = (T.take i).map (·.1) ++ (T.drop i).map (·.1) := by rw [← List.map_append, List.take_append_drop]
          have n2 := hR.nd
          rw [e1, List.nodup_append] at n2
          refine n2.2.2 _ c _ ?_ rfl
          rw [← (List.getElem?_eq_some_iff.mp ht).2, ← List.getElem_cons_drop hi]
          exact List.mem_cons_self
        refine ⟨_, rfl, _, rfl, z, _, rfl, DPut.k (k := .inr t.1) g1 (small1000 (by omega)), ⟨gv ++ [(.inr t.1, .ref D)], _, rfl, by rw [upd_same, putK_new _ nov], ?_, same_upd (sG.trans sG1) hz0⟩⟩
        rw [take_snoc ht]
        exact (hgE1.imp fun _ _ h => h.kd k3).append (.cons ⟨rfl, D, us, rfl, rfl, k3.lst hU, hUs.imp fun _ _ h => h.pcA.kd k3⟩ .nil)
    · rintro σ G ⟨gv, s3, rfl, hgz, hgE, sG⟩
      rw [List.length_map] at hgE
      rw [List.take_of_length_le (by have := hE.length; omega)] at hgE
      obtain ⟨sU, hfz⟩ := same_lock hd sG
      refine ⟨hfz, ?_⟩
      have hz2 : (upd G d (.dK kvs)) z = some (.dK gv) := by rw [upd_ne nzd]; exact hgz
      have hgE2 := hgE.imp fun _ _ h => h.ke (ke_frz (o := .dK kvs) hfz)
      refine ⟨_, rfl, _, rfl, z, last, gv, T, rfl, hz2, hgE2.imp fun _ _ h => h.entA, hR, fun y H' T' ny hp ha hG s' => ?_⟩
      exact R y H' T' (sU.free ny) hp ha hG (sU.trans s')
end
end OR

namespace OR
open PySem PySem.Spec PyProof.Rows L2
/-! ### rows with a stretch exchanged -/
def spBent : Sp := fun vs H Q _ => ∃ (p a : Addr) (xs : List V) (L : List Pce) (last : Int) (n j : Nat), vs = [.ref p, .ref a, .int last] ∧ H a = some (.lst xs) ∧ All2 (RwT H) xs L ∧ Til L 0 (last + 1) ∧ (∀ q ∈ L, Hq j q) ∧ j ≤ 50 ∧ L.length ≤ 100 ∧ Plc last ∧ Pen H p n ∧ n ≤ 600000 ∧
  ∀ b ys M H', H b = none → H' b = some (.lst ys) → All2 (RwT H') ys M → Til M 0 (last + 1) → (∀ q ∈ M, Hq (j + 1) q) → M.length ≤ 2 * L.length + 1 → Pen H' p (n + 50) → Frm p H H' → Q (.ref b) H'
theorem outc_hq {j : Nat} {L : List Pce} {x k : Int} (hT : ∀ q ∈ L, Hq j q) (hx : Plc x) (h : outc L x = some k) : k.natAbs ≤ 10 ^ 39 + j * 10 ^ 42 := by
  unfold outc at h
  cases hf : L.filter (hit x) with
  | nil => rw [hf] at h; cases h
  | cons q r =>
    rw [hf] at h
    have m : q ∈ L := (List.mem_filter.mp (hf ▸ List.mem_cons_self : q ∈ L.filter (hit x))).1
    simp only at h
    unfold oV at h
    cases hq : q.2.2 with
    | none => rw [hq] at h; cases h
    | some r =>
      rw [hq] at h
      obtain ⟨h1, h2⟩ := (hT q m).gw r hq
      have e : lv r x = k := Option.some.inj h
      have m1 := abs_mul9 h1 hx
      rw [← e]
      unfold lv
      have t := Int.natAbs_add_le (r.1 * x) r.2
      exact Nat.le_trans t (Nat.add_le_add m1 h2)
theorem bd_aux {a b : Int} {j : Nat} (ha : a.natAbs ≤ 10 ^ 39 + j * 10 ^ 42) (hb : b.natAbs ≤ 5 * 10 ^ 30) : (a - b).natAbs ≤ (j + 1) * 10 ^ 42 := by
  have t := Int.natAbs_sub_le a b
  have e1 : (10 : Nat) ^ 39 + 5 * 10 ^ 30 ≤ 10 ^ 42 := by decide
  rw [Nat.succ_mul]
  have key : ∀ Y A B C : Nat, A + B ≤ C → A + Y + B ≤ Y + C := by intro Y A B C h; omega
  exact Nat.le_trans t (Nat.le_trans (Nat.add_le_add ha hb) (key _ _ _ _ e1))
theorem bd_aux2 {a : Int} {j : Nat} (ha : a.natAbs ≤ 10 ^ 39 + j * 10 ^ 42) : a.natAbs ≤ (j + 1) * 10 ^ 42 := by
  have := bd_aux (b := 0) ha (by decide)
  rwa [Int.sub_zero] at this
theorem exch_hq {j : Nat} {f e : Int} {l : Option LnR} {L : List Pce} (hB : ∀ q ∈ L, Hq j q) (hf : Plc f) (he : Plc e) (hl : ∀ r, l = some r → r.1.natAbs ≤ 10 ^ 9 ∧ r.2.natAbs ≤ (j + 1) * 10 ^ 42) : ∀ q ∈ exch f e l L, Hq (j + 1) q := by
  intro z hz
  unfold exch at hz
  rcases List.mem_append.mp hz with m | m
  · rcases List.mem_append.mp m with m | m
    · obtain ⟨q, hq, rfl⟩ := List.mem_map.mp m
      obtain ⟨hq, c⟩ := List.mem_filter.mp hq
      have c : q.1 < f := by simpa using c
      have B := (hB q hq).mono (Nat.le_succ j)
      refine ⟨B.p1, ?_, B.gw⟩
      show Plc (if f - 1 < q.2.1 then f - 1 else q.2.1)
      split
      · exact ⟨by have := B.p1.1; omega, by have := hf.2; omega⟩
      · exact B.p2
    · rw [List.mem_singleton.mp m]; exact ⟨hf, he, hl⟩
  · obtain ⟨q, hq, rfl⟩ := List.mem_map.mp m
    obtain ⟨hq, c⟩ := List.mem_filter.mp hq
    have c : q.2.1 > e := by simpa using c
    have B := (hB q hq).mono (Nat.le_succ j)
    refine ⟨?_, B.p2, B.gw⟩
    show Plc (if e + 1 > q.1 then e + 1 else q.1)
    split
    · exact ⟨by have := he.1; omega, by have := B.p2.2; omega⟩
    · exact B.p1
section
variable {P : Program} {w : World} {K : PySem.W.Frag} {mg : Str → Option Value} {base : Heap} {CL CG : Addr}
theorem scBent : FnScope ["_law_pen_here", "_law_rows_here", "_law_last_here", "_law_first", "_law_end", "_law_here", "_law_slope", "_law_line_here"] ["_law_pen_here", "_law_rows_here", "_law_last_here"] (defScope sBent) := ⟨rfl, rfl, rfl, by decide +kernel, rfl, by decide +kernel, by decide +kernel⟩
set_option maxHeartbeats 2000000 in
theorem ok_bent {f : Addr} {fd : FuncData} (F : Fun K "_law_bent" "_law_bent" sBent f fd) (B : Bd mg) (D : Cl P w K mg base 1 "_law_draw" ["_law_pen_here", "_law_many"] spDraw) (PI : Cl P w K mg base 2 "_law_pick" ["_law_pen_here", "_law_items"] (spPick K))
    (OU : Cl P w K mg base 2 "_law_outcome" ["_law_rows_here", "_law_x"] spOutc) (LI : Cl P w K mg base 4 "_law_line" ["_law_pen_here"] spLine) (EX : Cl P w K mg base 2 "_law_exchanged" ["_law_rows_here", "_law_first", "_law_end", "_law_line_here"] spExch) :
    FnOk P w K mg base CX0 5 f fd ["_law_pen_here", "_law_rows_here", "_law_last_here"] spBent := by
  refine F.ok scBent (fun vs H Q E h => ?_) (fun cdv A outer s H vs Q E hr h => ?_)
  · obtain ⟨p, a, xs, L, last, n, j, rfl, _⟩ := h
    rfl
  · obtain ⟨p, a, xs, L, last, n, j, rfl, ha, hX, hT, hH, hj, hlen, hla, hP, hn, R⟩ := h
    have nd := scBent.nd
    refine ⟨_, pss_cons (ps_set (i := 3) nd rfl (.inl rfl) (pe_op op_sub (pv 2) (pe_cl D hr (by decide) (by rfl) (pa_cons (pv 0) (pa_cons (pe_op op_add (pe_callB (call_min2 rfl) (by rfl) B.min bt_min (pa_cons (pe_callTy call_int1 (by rfl) B.int bt_int (pa_cons (pv 2) pa_nil)) (pa_cons pe_int pa_nil))) pe_int) pa_nil)))))
      (pss_cons (ps_set (i := 3) nd rfl (.inl rfl) (pe_cl PI hr (by decide) (by rfl) (pa_cons (pv 0) (pa_cons (pe_lst (pa_cons (pe_cl D hr (by decide) (by rfl) (pa_cons (pv 0) (pa_cons (pe_op op_add (pv 2) pe_int) pa_nil))) (pa_cons (pe_ix (ix_tupK K rfl) (pe_cl PI hr (by decide) (by rfl) (pa_cons (pv 0) (pa_cons (pv 1) pa_nil))) pe_int (fun _ _ => rfl)) (pa_cons (pv 3) pa_nil)))) pa_nil))))
      (pss_cons (ps_set (i := 4) nd rfl (.inl rfl) (pe_callB (call_min2 rfl) (by rfl) B.min bt_min (pa_cons (pe_callTy call_int1 (by rfl) B.int bt_int (pa_cons (pv 2) pa_nil)) (pa_cons (pe_callTy call_int1 (by rfl) B.int bt_int (pa_cons (pe_op op_add (pv 3) (pe_cl PI hr (by decide) (by rfl) (pa_cons (pv 0) (pa_cons (pe_lst (pa_cons pe_int (pa_cons pe_int (pa_cons pe_int (pa_cons pe_int (pa_cons pe_int (pa_cons (pv 2) pa_nil))))))) pa_nil)))) pa_nil)) pa_nil))))
      (pss_cons (ps_par (i := 5) (j := 6) rfl nd rfl rfl (by decide) rfl rfl (pa_cons (pe_cl OU hr (by decide) (by rfl) (pa_cons (pv 1) (pa_cons (pv 3) pa_nil))) (pa_cons (pe_cl PI hr (by decide) (by rfl) (pa_cons (pv 0) (pa_cons (pe_lst (pa_cons pe_int (pa_cons pe_int (pa_cons (pe_un un_neg pe_int) (pa_cons pe_int (pa_cons pe_int pa_nil)))))) pa_nil))) pa_nil)) rfl)
      (pss_cons (ps_set (i := 7) nd rfl (.inl rfl) (pe_cl LI hr (by decide) (by rfl) (pa_cons (pv 0) pa_nil)))
      (Evl.pss_cut (ps_if (PW.pt (pw_and (pt_cmp (pc_notN (pv 5))) (pw_and1 (pt_cmpR op_gt (pe_cl D hr (by decide) (by rfl) (pa_cons (pv 0) (pa_cons pe_int pa_nil))) pe_int (nomark _)))))
          (pss_one (ps_set (i := 7) nd rfl (.inl rfl) (pe_cl PI hr (by decide) (by rfl) (pa_cons (pv 0) (pa_cons (pe_lst (pa_cons (pe_tup (pa_cons (pv 6) (pa_cons (pe_op op_sub (pv 5) (pe_op op_mulW (pv 6) (pv 3))) pa_nil))) (pa_cons (pe_tup (pa_cons (pv 6) (pa_cons (pe_op op_sub (pv 5) (pe_op op_mulW (pv 6) (pv 3))) pa_nil))) (pa_cons (pe_tup (pa_cons pe_int (pa_cons (pv 5) pa_nil))) (pa_cons pe_non pa_nil))))) pa_nil)))))
          pss_nil)
      (pss_one (ps_ret (pe_cl EX hr (by decide) (by rfl) (pa_cons (pv 1) (pa_cons (pv 3) (pa_cons (pv 4) (pa_cons (pv 7) pa_nil)))))))))))), ?_⟩
    have l0 := hla.1
    have l1 := hla.2
    have lxs := hX.length
    have xne : 0 < xs.length := by
      rw [lxs]
      cases L with
      | nil => have : (0 : Int) = last + 1 := hT; omega
      | cons _ _ => exact Nat.succ_pos _
    have hTq : ∀ q ∈ L, Tq q := fun q hq => (hH q hq).tq (by omega)
    have bl : (last + 1).natAbs < 2 ^ 200 := Nat.lt_of_le_of_lt (show (last + 1).natAbs ≤ 10 ^ 30 + 1 by omega) (by decide)
    generalize hmn : (if (9 : Int) < last then (9 : Int) else last) = mn
    have hmn0 : 0 ≤ mn ∧ mn ≤ 9 ∧ mn ≤ last := by subst hmn; split <;> omega
    refine ⟨_, rfl, _, rfl, _, rfl, .inl ⟨last, rfl, _, _, rfl, ?_⟩⟩
    rw [hmn]
    refine ⟨_, _, rfl, rfl, p, mn + 1, _, rfl, by omega, ?_, hP, by omega, fun d H1 d0 d1 P1 F1 => ⟨_, _, rfl, rfl, ?_⟩⟩
    · exact Nat.lt_of_le_of_lt (show (mn + 1).natAbs ≤ 10 by omega) (by decide)
    -- the first place
    have ha1 := F1.lst hP ha
    refine ⟨_, rfl, _, rfl, _, rfl, _, _, rfl, rfl, p, last + 1, _, rfl, by omega, bl, P1, by omega, fun z H2 z0 z1 P2 F2 => ?_⟩
    have F12 := F1.trans F2
    refine ⟨_, rfl, _, rfl, p, a, xs, _, rfl, .inl (.inl (F12.lst hP ha)), xne, by omega, P2, by omega, fun v H3 hv P3 F3 => ?_⟩
    have F13 := F12.trans F3
    obtain ⟨q1, mq1, t1, u1, rfl, ht1, _⟩ := (hX.imp fun _ _ h => h.kp (kp_frm F13 hP)).mem hv
    have bd := hT.mem q1 mq1
    refine ⟨t1, _, 0, _, rfl, rfl, .inl (.inl ht1), atI_nat (j := 0) rfl, _, rfl, by show 3 ≤ sizeLine; decide, fun lz nlz => ?_⟩
    refine ⟨p, lz, [.int z, .int q1.1, .int (last - d)], _, rfl, .inl (.inl upd_same), by show 0 < 3; decide, by show 3 ≤ 1000; decide, P3.new nlz, by omega, fun v H4 hv4 P4 F4 => ?_⟩
    have F14 := F13.trans ((Frm.new nlz).trans F4)
    obtain ⟨fs, rfl, f0, f1⟩ : ∃ fs, v = .int fs ∧ 0 ≤ fs ∧ fs ≤ last := by
      simp only [List.mem_cons, List.not_mem_nil, or_false] at hv4
      rcases hv4 with e | e | e
      · exact ⟨_, e, z0, by omega⟩
      · exact ⟨_, e, bd.1, by omega⟩
      · exact ⟨_, e, by omega, by omega⟩
    have pf : Plc fs := ⟨f0, by omega⟩
    clear ht1 hv hv4 nlz F4 F3 F2 F1 F12 F13 P1 P2 P3 ha1
    -- the last one
    refine ⟨_, rfl, .inl ⟨last, rfl, _, rfl, _, rfl, _, rfl, by show 6 ≤ sizeLine; decide, fun ly nly => ?_⟩⟩
    refine ⟨p, ly, [.int 0, .int 0, .int 1, .int 2, .int 9, .int last], _, rfl, .inl (.inl upd_same), by show 0 < 6; decide, by show 6 ≤ 1000; decide, P4.new nly, by omega, fun v H5 hv5 P5 F5 => ?_⟩
    have F15 := F14.trans ((Frm.new nly).trans F5)
    obtain ⟨k, rfl, k0⟩ : ∃ k, v = .int k ∧ 0 ≤ k := by
      simp only [List.mem_cons, List.not_mem_nil, or_false] at hv5
      rcases hv5 with e | e | e | e | e | e <;> exact ⟨_, e, by omega⟩
    refine ⟨_, _, rfl, rfl, .inl ⟨_, rfl, _, _, rfl, ?_⟩⟩
    generalize hen : (if fs + k < last then fs + k else last) = en
    have hen0 : fs ≤ en ∧ en ≤ last := by subst hen; split <;> omega
    have pe' : Plc en := ⟨by omega, by omega⟩
    show _
    clear hv5 nly F5 F14 P4 hen
    have ha5 := F15.lst hP ha
    have hX5 : All2 (RwT H5) xs L := hX.imp fun _ _ h => h.kp (kp_frm F15 hP)
    -- the outcome there, a slope
    refine ⟨_, rfl, _, rfl, a, xs, L, fs, 0, last + 1, rfl, ha5, hX5, hT, f0, by omega, hTq, pf, by omega, fun H6 s6 => ?_⟩
    have P6 := P5.same' s6
    have F16 := F15.trans (frmS s6)
    refine ⟨_, rfl, 1, rfl, by show 5 ≤ sizeLine; decide, fun lw nlw => ?_⟩
    refine ⟨p, lw, [.int 0, .int 1, .int (-1), .int 2, .int 5], _, rfl, .inl (.inl upd_same), by show 0 < 5; decide, by show 5 ≤ 1000; decide, P6.new nlw, by omega, fun v H7 hv7 P7 F7 => ?_⟩
    have F17 := F16.trans ((Frm.new nlw).trans F7)
    obtain ⟨sl, rfl, hsl⟩ : ∃ sl, v = .int sl ∧ sl.natAbs ≤ 5 := by
      simp only [List.mem_cons, List.not_mem_nil, or_false] at hv7
      rcases hv7 with e | e | e | e | e <;> exact ⟨_, e, by decide⟩
    refine ⟨_, _, rfl, ?_⟩
    clear hv7 nlw F7 F16 F15 P6 P5 s6 ha5 hX5
    -- a line
    refine ⟨_, rfl, p, _, rfl, P7, by omega, fun tl H8 la lb ntl a1 a2 b1 b2 P8 htl F8 => ?_⟩
    have F18 := F17.trans F8
    generalize ho : outc L fs = o
    let S : Option V → L2.St := fun s7 => [some (.ref p), some (.ref a), some (.int last), some (.int fs), some (.int en), some (oVal o), some (.int sl), s7]
    refine ⟨fun σ G => ∃ (v : V) (l : Option LnR), σ = S (some v) ∧ LnT G v l ∧ (∀ r, l = some r → r.1.natAbs ≤ 10 ^ 9 ∧ r.2.natAbs ≤ (j + 1) * 10 ^ 42) ∧ Pen G p (n + 40) ∧ Frm p H G, ?_, ?_⟩
    · have big : (10 : Nat) ^ 30 ≤ (j + 1) * 10 ^ 42 := Nat.le_trans (show (10 : Nat) ^ 30 ≤ 1 * 10 ^ 42 by decide) (Nat.mul_le_mul_right _ (by omega))
      have stay : ∀ G, Pen G p (n + 40) → Frm p H8 G → ∃ (v : V) (l : Option LnR), S (some (.ref tl)) = S (some v) ∧ LnT G v l ∧ (∀ r, l = some r → r.1.natAbs ≤ 10 ^ 9 ∧ r.2.natAbs ≤ (j + 1) * 10 ^ 42) ∧ Pen G p (n + 40) ∧ Frm p H G := fun G PG FG =>
        ⟨.ref tl, some (la, lb), rfl, ⟨tl, rfl, FG.tup0 P8 htl⟩, fun r e => by
          cases e
          refine ⟨by show la.natAbs ≤ 10 ^ 9; omega, ?_⟩
          show lb.natAbs ≤ (j + 1) * 10 ^ 42
          generalize (j + 1) * 10 ^ 42 = Y at *
          omega, PG, F18.trans FG⟩
      cases o with
      | none => exact ⟨_, rfl, _, rfl, iteB (by simp [oVal]) (stay H8 (P8.mono (by omega)) (Frm.refl _ _))⟩
      | some h =>
        have hh := outc_hq hH pf ho
        refine ⟨_, rfl, _, rfl, iteA (by simp [oVal]) ⟨_, rfl, p, 4, _, rfl, by decide, by decide, P8, by omega, fun e H9 e0 e1 P9 F9 => ⟨_, _, rfl, rfl, _, rfl, ite2 (fun _ => ?_) (fun _ => stay H9 (P9.mono (by omega)) F9)⟩⟩⟩
        have cw : CMulW sl fs := cwWP (Nat.lt_of_le_of_lt hsl (by decide)) pf.b1
        have hg1 : (h - sl * fs).natAbs ≤ (j + 1) * 10 ^ 42 := bd_aux hh (by
          rw [Int.natAbs_mul]
          exact Nat.mul_le_mul hsl (by omega))
        have hg2 : h.natAbs ≤ (j + 1) * 10 ^ 42 := bd_aux2 hh
        refine ⟨_, rfl, _, rfl, _, rfl, _, rfl, _, rfl, _, _, rfl, rfl, cw, _, _, rfl, rfl, by show 2 ≤ sizeLine; decide, fun t1 nt1 => ?_⟩
        refine ⟨_, rfl, _, rfl, _, rfl, _, rfl, _, _, rfl, rfl, cw, _, _, rfl, rfl, by show 2 ≤ sizeLine; decide, fun t2 nt2 => ?_⟩
        refine ⟨_, rfl, by show 2 ≤ sizeLine; decide, fun t3 nt3 => ⟨by show 4 ≤ sizeLine; decide, fun lq nlq => ?_⟩⟩
        have k1 := same_lay (o := .tup [.int sl, .int (h - sl * fs)]) nt1
        have k2 := same_lay (o := .tup [.int sl, .int (h - sl * fs)]) nt2
        have k3 := same_lay (o := .tup [.int 0, .int h]) nt3
        have k4 := same_lay (o := .lst [.ref t1, .ref t2, .ref t3, .non]) nlq
        have PQ := (((P9.same' k1).same' k2).same' k3).same' k4
        have kk := ((k1.trans k2).trans k3).trans k4
        have g1 := k4 _ _ (k3 _ _ (k2 _ _ (upd_same : (upd H9 t1 (.tup [.int sl, .int (h - sl * fs)])) t1 = some _)))
        have g2 := k4 _ _ (k3 _ _ (upd_same : (upd (upd H9 t1 (.tup [.int sl, .int (h - sl * fs)])) t2 (.tup [.int sl, .int (h - sl * fs)])) t2 = some _))
        have g3 := k4 _ _ (upd_same : (upd (upd (upd H9 t1 (.tup [.int sl, .int (h - sl * fs)])) t2 (.tup [.int sl, .int (h - sl * fs)])) t3 (.tup [.int 0, .int h])) t3 = some _)
        refine ⟨p, lq, [.ref t1, .ref t2, .ref t3, .non], _, rfl, .inl (.inl upd_same), by show 0 < 4; decide, by show 4 ≤ 1000; decide, PQ, by omega, fun v G hv PG FG => ?_⟩
        have FT := (F18.trans F9).trans ((frmS kk).trans FG)
        simp only [List.mem_cons, List.not_mem_nil, or_false] at hv
        have l1 : ∀ r, some (sl, h - sl * fs) = some r → r.1.natAbs ≤ 10 ^ 9 ∧ r.2.natAbs ≤ (j + 1) * 10 ^ 42 := fun r e => by
          cases e
          exact ⟨Nat.le_trans hsl (by decide), hg1⟩
        rcases hv with rfl | rfl | rfl | rfl
        · exact ⟨_, some (sl, h - sl * fs), rfl, ⟨t1, rfl, FG.tup0 PQ g1⟩, l1, PG.mono (by omega), FT⟩
        · exact ⟨_, some (sl, h - sl * fs), rfl, ⟨t2, rfl, FG.tup0 PQ g2⟩, l1, PG.mono (by omega), FT⟩
        · exact ⟨_, some (0, h), rfl, ⟨t3, rfl, FG.tup0 PQ g3⟩, fun r e => by cases e; exact ⟨by show (0 : Int).natAbs ≤ 10 ^ 9; decide, hg2⟩, PG.mono (by omega), FT⟩
        · exact ⟨_, none, rfl, rfl, (fun r e => nomatch e), PG.mono (by omega), FT⟩
    rintro σ G ⟨v, l, rfl, hv, hl, PG, FG⟩
    refine ⟨_, rfl, _, rfl, _, rfl, _, rfl, a, v, xs, L, fs, en, l, rfl, FG.lst hP ha, hX.imp (fun _ _ h => h.kp (kp_frm FG hP)), hv, by omega, fun b ys H' nb hb hY s' => ?_⟩
    have nb0 : H b = none := by
      cases e : H b with
      | none => rfl
      | some o =>
        by_cases ep : b = p
        · obtain ⟨_, hp⟩ := PG.dict
          rw [← ep, nb] at hp
          cases hp
        · rw [FG.at_ b o e ep] at nb
          cases nb
    exact R b ys _ H' nb0 hb hY (exch_ok hT f0 hen0.1 (by omega)).1 (exch_hq hH pf pe' hl) (exch_len _ _ _ _) ((PG.same' s').mono (by omega)) (FG.trans (frmS s'))
end
end OR

namespace OR
open PySem PySem.Spec PyProof.Rows L2
/-! ### the law's own walk to the least place that differs -/
theorem start_of {A : List Pce} {b c z : Int} (h : Til A b c) (h0 : b ≤ z) (h1 : z < c) : ∃ q ∈ A, q.1 ≤ z ∧ z ≤ q.2.1 ∧ ∀ y, q.1 ≤ y → y ≤ z → outc A y = oV q.2.2 y := by
  obtain ⟨q, m, hq, _⟩ := outc_hit h h0 h1
  unfold hit at hq
  rw [Bool.and_eq_true] at hq
  have a := of_decide_eq_true hq.1
  have b' := of_decide_eq_true hq.2
  exact ⟨q, m, a, b', fun y y0 y1 => outc_in h m y0 (by omega)⟩
/-- places that agree with all before them, and are no start nor behind one, agree -/
theorem agree_step {A B : List Pce} {b c z : Int} (hA : Til A b c) (hB : Til B b c) (h0 : b ≤ z) (h1 : z < c) (hk : ∀ y, b ≤ y → y < z → outc A y = outc B y) (hs : ∀ q, q ∈ A ++ B → z ≠ q.1 ∧ z ≠ q.1 + 1) : outc A z = outc B z := by
  obtain ⟨p, mp, p0, p1, vp⟩ := start_of hA h0 h1
  obtain ⟨q, mq, q0, q1, vq⟩ := start_of hB h0 h1
  have np := hs p (List.mem_append_left _ mp)
  have nq := hs q (List.mem_append_right _ mq)
  have bp := hA.mem p mp
  have e1 := hk (z - 1) (by omega) (by omega)
  have e2 := hk (z - 2) (by omega) (by omega)
  rw [vp _ (by omega) (by omega), vq _ (by omega) (by omega)] at e1 e2
  rw [vp z p0 (Int.le_refl _), vq z q0 (Int.le_refl _)]
  cases hp : p.2.2 with
  | none =>
    cases hq : q.2.2 with
    | none => rfl
    | some m => rw [hp, hq] at e1; cases e1
  | some n =>
    cases hq : q.2.2 with
    | none => rw [hp, hq] at e1; cases e1
    | some m =>
      rw [hp, hq] at e1 e2
      have e1 : lv n (z - 1) = lv m (z - 1) := Option.some.inj e1
      have e2 : lv n (z - 2) = lv m (z - 2) := Option.some.inj e2
      have := line_two (h := n) (h' := m) (a := z - 2) e2 (by rw [show z - 2 + 1 = z - 1 by omega]; exact e1)
      rw [this]
/-- all places below a bound agree, if all starts below it and the places behind them do -/
theorem agree_upto {A B : List Pce} {b c u : Int} (hA : Til A b c) (hB : Til B b c) (hu : u ≤ c) (hs : ∀ q, q ∈ A ++ B → ∀ z, z = q.1 ∨ z = q.1 + 1 → b ≤ z → z < u → outc A z = outc B z) : ∀ (n : Nat) (z : Int), b ≤ z → z < u → (z - b).toNat = n → outc A z = outc B z := by
  intro n
  induction n using Nat.strongRecOn with
  | ind n ih =>
    intro z h0 h1 hn
    by_cases k : ∃ q, q ∈ A ++ B ∧ (z = q.1 ∨ z = q.1 + 1)
    · obtain ⟨q, m, e⟩ := k
      exact hs q m z e h0 h1
    · refine agree_step hA hB h0 (by omega) (fun y y0 y1 => ih (y - b).toNat (by omega) y y0 (by omega) rfl) fun q m => ⟨fun e => k ⟨q, m, .inl e⟩, fun e => k ⟨q, m, .inr e⟩⟩
def spPart : Sp := fun vs H Q _ => ∃ (a b : Addr) (xs ys : List V) (A B : List Pce) (last : Int), vs = [.ref a, .ref b, .int last] ∧ H a = some (.lst xs) ∧ H b = some (.lst ys) ∧ All2 (RwT H) xs A ∧ All2 (RwT H) ys B ∧ Til A 0 (last + 1) ∧ Til B 0 (last + 1) ∧ (∀ q ∈ A, Tq q) ∧ (∀ q ∈ B, Tq q) ∧ A.length + B.length ≤ 60 ∧ Plc last ∧
  ∀ r H', LD (outc A) (outc B) 0 (last + 1) r → Same H H' → Q (iV r) H'
section
variable {P : Program} {w : World} {K : PySem.W.Frag} {mg : Str → Option Value} {base : Heap} {CL CG : Addr}
theorem scPart : FnScope ["_law_mine", "_law_others", "_law_last_here", "_law_starts", "_law_first", "_law_x", "_law_row"] ["_law_mine", "_law_others", "_law_last_here"] (defScope sParting) := ⟨rfl, rfl, rfl, by decide +kernel, rfl, by decide +kernel, by decide +kernel⟩
set_option maxHeartbeats 2000000 in
theorem ok_part {f : Addr} {fd : FuncData} (F : Fun K "_law_parting" "_law_parting" sParting f fd) (B : Bd mg) (OU : Cl P w K mg base 2 "_law_outcome" ["_law_rows_here", "_law_x"] spOutc) : FnOk P w K mg base CX0 3 f fd ["_law_mine", "_law_others", "_law_last_here"] spPart := by
  refine F.ok scPart (fun vs H Q E h => ?_) (fun cdv A outer s H vs Q E hr h => ?_)
  · obtain ⟨a, b, xs, ys, A, B, last, rfl, _⟩ := h
    rfl
  · obtain ⟨a, b, xs, ys, LA, LB, last, rfl, ha, hb, hX, hY, tA, tB, qA, qB, lab, hla, R⟩ := h
    have nd := scPart.nd
    refine ⟨_, pss_cons (ps_setLc (i := 3) (own := [("_law_row", 6)]) (g := (gName 6)) (tt := tYes) rfl nd rfl rfl (sw_true rfl rfl rfl (by decide +kernel)) (pi_list (pe_op op_cat (pv 0) (pv 1))) (blkOk_by (N := ["_law_mine", "_law_others", "_law_last_here", "_law_starts", "_law_first", "_law_x", "_law_row"]) (sc := defScope sParting) (by decide +kernel)) (fun _ _ _ _ _ => pg_name (i := 6) nd rfl (.inl rfl)) (fun _ _ _ _ _ => pts_nil) (fun _ _ _ _ _ => (pe_ix (ix_tupK K rfl) (pv 6) pe_int (fun _ _ => rfl))))
      (pss_cons (ps_for PassesOwn.never rfl (pi_list (pe_callB (cr_sortedSet rfl) (by rfl) B.sorted bt_sorted (pa_cons (pe_callTy (call_setI K w rfl rfl rfl) (by rfl) B.set bt_set (pa_cons (pv 3) pa_nil)) pa_nil))) (pg_name (i := 4) nd rfl (.inl rfl))
          (pss_one (ps_for PassesOwn.never rfl (pi_list (pe_lst (pa_cons (pv 4) (pa_cons (pe_op op_add (pv 4) pe_int) pa_nil)))) (pg_name (i := 5) nd rfl (.inl rfl))
              (pss_one (ps_if (PW.pt (pw_and (pt_cmpR op_le (pv 5) (pv 2) (nomark _)) (pw_and1 (pt_cmpR op_ne (pe_cl OU hr (by decide) (by rfl) (pa_cons (pv 0) (pa_cons (pv 5) pa_nil))) (pe_cl OU hr (by decide) (by rfl) (pa_cons (pv 1) (pa_cons (pv 5) pa_nil))) (nomark _)))))
                  (pss_one (ps_ret (pv 5)))
                  pss_nil)))))
      (pss_one (ps_ret pe_non))), ?_⟩
    have lxs := hX.length
    have lys := hY.length
    refine ⟨_, rfl, _, rfl, a, b, xs, ys, rfl, rfl, ha, hb, ?_, fun l nl => ?_⟩
    · exact Nat.le_trans (show xs.length + ys.length ≤ 1000 by omega) (by decide)
    have s1 := same_lay (o := .lst (xs ++ ys)) nl
    have hl1 : (upd H l (.lst (xs ++ ys))) l = some (.lst (xs ++ ys)) := upd_same
    have hXY := (hX.append hY).imp fun _ _ h => h.kp (kp_same s1)
    generalize upd H l (.lst (xs ++ ys)) = H1 at s1 hl1 hXY
    refine ⟨l, rfl, ⟨_, .inl (.inl hl1)⟩, fun D hD => lc_list (K := K) (a := l) (xs := xs ++ ys) (fun i G => G D = some (.lst ((((LA ++ LB).take i).map (·.1)).map V.int)) ∧ Same H1 G) ⟨upd_same, same_lay hD⟩ (fun i G _ ⟨_, s⟩ => .inl (.inl (s _ _ hl1))) ?_ ?_⟩
    · rintro i v G hv ⟨hU, sG⟩
      obtain ⟨q, hq, t, u, rfl, ht, _⟩ := all2_get hXY hv
      refine ⟨rfl, yesT ⟨_, rfl, t, _, 0, _, rfl, rfl, .inl (.inl (sG _ _ ht)), atI_nat (j := 0) rfl, _, hU, small1000 (by rw [List.length_map, List.length_map, List.length_take, List.length_append]; omega), ?_, same_upd sG hD⟩⟩
      rw [upd_same, take_snoc hq, List.map_append, List.map_append]
      rfl
    rintro G ⟨hU, sG⟩
    rw [List.length_append, List.take_of_length_le (by rw [List.length_append]; omega)] at hU
    have lst : ((LA ++ LB).map (·.1)).length ≤ 60 := by rw [List.length_map, List.length_append]; omega
    refine ⟨_, rfl, D, (LA ++ LB).map (·.1), rfl, .inl (.inl hU), by omega, fun us cc nu hcc => ⟨us, _, cc, rfl, upd_same, by omega, fun ns o hs hm hln no => ?_⟩⟩
    have SS := (same_lay (o := SetO w us (fun j => decide (j ∈ (LA ++ LB).map (·.1))) cc) nu).trans (same_lay (o := .lst (ns.map V.int)) no)
    have ho4 : (upd (upd G us (SetO w us (fun j => decide (j ∈ (LA ++ LB).map (·.1))) cc)) o (.lst (ns.map V.int))) o = some (.lst (ns.map V.int)) := upd_same
    have hm' : ∀ z, z ∈ ns ↔ z ∈ (LA ++ LB).map (·.1) := fun z => (hm z).trans decide_eq_true_iff
    have s2 := (s1.trans sG).trans SS
    generalize upd (upd G us (SetO w us (fun j => decide (j ∈ (LA ++ LB).map (·.1))) cc)) o (.lst (ns.map V.int)) = G2 at ho4 s2
    clear SS nu no hU sG hXY hl1 s1 nl
    have l0 := hla.1
    have l1 := hla.2
    have hns : ∀ z ∈ ns, 0 ≤ z ∧ z ≤ last := fun z hz => by
      obtain ⟨q, m, rfl⟩ := List.mem_map.mp ((hm' z).mp hz)
      rcases List.mem_append.mp m with k | k
      · have := tA.mem q k; omega
      · have := tB.mem q k; omega
    let S : Option V → Option V → L2.St := fun s4 s5 => [some (.ref a), some (.ref b), some (.int last), some (.ref D), s4, s5, none]
    refine ⟨o, rfl, ⟨_, .inl (.inl ho4)⟩, for_list (K := K) (a := o) (xs := ns.map V.int) (fun i σ G => ∃ s4 s5, σ = S s4 s5 ∧ (∀ z ∈ ns.take i, ∀ y, y = z ∨ y = z + 1 → y ≤ last → outc LA y = outc LB y) ∧ Same G2 G) ⟨_, _, rfl, (by simp), Same.refl _⟩ (fun i σ G _ ⟨_, _, _, _, s⟩ => .inl (.inl (s _ _ ho4))) ?_ ?_⟩
    · rintro i v σ G hv ⟨s4, s5, rfl, hk, sG⟩
      rw [List.getElem?_map] at hv
      obtain ⟨fs, hfs, rfl⟩ := Option.map_eq_some_iff.mp hv
      have mf := hns fs (List.mem_of_getElem? hfs)
      have i1 := (List.getElem?_eq_some_iff.mp hfs).1
      refine ⟨_, rfl, _, rfl, _, _, rfl, rfl, by show 2 ≤ sizeLine; decide, fun l2 nl2 => ?_⟩
      have s3 := same_lay (o := .lst [.int fs, .int (fs + 1)]) nl2
      have h3 : (upd G l2 (.lst [.int fs, .int (fs + 1)])) l2 = some (.lst [.int fs, .int (fs + 1)]) := upd_same
      show _
      generalize upd G l2 (.lst [.int fs, .int (fs + 1)]) = G3 at s3 h3
      have s03 := s2.trans (sG.trans s3)
      refine ⟨l2, rfl, ⟨_, .inl (.inl h3)⟩, for_list (K := K) (a := l2) (xs := [.int fs, .int (fs + 1)]) (fun j σ G4 => ∃ s5, σ = S (some (.int fs)) s5 ∧ (∀ y ∈ ([fs, fs + 1] : List Int).take j, y ≤ last → outc LA y = outc LB y) ∧ Same G3 G4) ⟨_, rfl, (by simp), Same.refl _⟩ (fun j σ G4 _ ⟨_, _, _, s⟩ => .inl (.inl (s _ _ h3))) ?_ ?_⟩
      · rintro j v σ G4 hv4 ⟨s5, rfl, hk2, s4'⟩
        obtain ⟨x, hx, rfl⟩ : ∃ x, ([fs, fs + 1] : List Int)[j]? = some x ∧ v = .int x := by
          have e : ([.int fs, .int (fs + 1)] : List V) = ([fs, fs + 1] : List Int).map V.int := rfl
          rw [e, List.getElem?_map] at hv4
          obtain ⟨x, hx, ex⟩ := Option.map_eq_some_iff.mp hv4
          exact ⟨x, hx, ex.symm⟩
        have mx := List.mem_of_getElem? hx
        have bx : fs ≤ x ∧ x ≤ fs + 1 := by
          simp only [List.mem_cons, List.not_mem_nil, or_false] at mx
          omega
        have s04 := s03.trans s4'
        have keep : ∀ G5, Same G4 G5 → (x ≤ last → outc LA x = outc LB x) → ∃ s5', S (some (.int fs)) (some (.int x)) = S (some (.int fs)) s5' ∧ (∀ y ∈ ([fs, fs + 1] : List Int).take (j + 1), y ≤ last → outc LA y = outc LB y) ∧ Same G3 G5 := fun G5 s5 hx5 => ⟨_, rfl, fun y hy => by
          rw [take_snoc hx] at hy
          rcases List.mem_append.mp hy with m | m
          · exact hk2 y m
          · rw [List.mem_singleton.mp m]; exact hx5, s4'.trans s5⟩
        refine ⟨_, rfl, _, rfl, _, _, rfl, rfl, _, rfl, ite2 (fun c => ?_) (fun c => ?_)⟩
        · have c : x ≤ last := of_decide_eq_true c
          have px : Plc x := ⟨by omega, by omega⟩
          refine ⟨_, rfl, _, rfl, a, xs, LA, x, 0, last + 1, rfl, s04 _ _ ha, hX.imp (fun _ _ h => h.kp (kp_same s04)), tA, px.1, by omega, qA, px, by omega, fun G5 s5' => ?_⟩
          have s05 := s04.trans s5'
          refine ⟨_, rfl, _, rfl, b, ys, LB, x, 0, last + 1, rfl, s05 _ _ hb, hY.imp (fun _ _ h => h.kp (kp_same s05)), tB, px.1, by omega, qB, px, by omega, fun G6 s6' => ?_⟩
          have s06 := s05.trans s6'
          by_cases e : outc LA x = outc LB x
          · have yes := keep G6 (s5'.trans s6') fun _ => e
            rw [e]
            cases outc LB x with
            | none => exact ⟨rfl, _, rfl, iteB (by simp [oVal]) yes⟩
            | some k => exact ⟨rfl, _, rfl, iteB (by simp [oVal]) yes⟩
          · -- here they part
            have rest : ∀ z, 0 ≤ z → z < x → outc LA z = outc LB z := fun z z0 z1 => by
              refine agree_upto tA tB (u := x) (by omega) (fun q m y ey y0 y1 => ?_) _ z z0 z1 rfl
              have mq : q.1 ∈ ns := (hm' q.1).mpr (List.mem_map.mpr ⟨q, m, rfl⟩)
              obtain ⟨k, hk'⟩ := List.getElem?_of_mem mq
              have kl := (List.getElem?_eq_some_iff.mp hk').1
              by_cases k1 : k < i
              · exact hk q.1 (List.mem_iff_getElem?.mpr ⟨k, by rw [List.getElem?_take, if_pos k1]; exact hk'⟩) y ey (by omega)
              · by_cases k2 : k = i
                · subst k2
                  rw [hfs] at hk'
                  injection hk' with ek
                  have ey2 : y = fs := by rw [← ek] at ey; omega
                  subst ey2
                  have j1 : j = 1 := by
                    have hj := (List.getElem?_eq_some_iff.mp hx).1
                    have hj : j < 2 := hj
                    by_cases j0 : j = 0
                    · subst j0
                      have : y = x := Option.some.inj hx
                      omega
                    · omega
                  subst j1
                  exact hk2 y List.mem_cons_self (by omega)
                · have := List.pairwise_iff_getElem.mp hs i k i1 kl (by omega)
                  rw [(List.getElem?_eq_some_iff.mp hfs).2, (List.getElem?_eq_some_iff.mp hk').2] at this
                  omega
            have ret : Q (.int x) G6 := R (some x) G6 ⟨px.1, by omega, e, rest⟩ s06
            cases oa : outc LA x with
            | none =>
              cases ob : outc LB x with
              | none => rw [oa, ob] at e; exact absurd rfl e
              | some k => exact ⟨rfl, _, rfl, iteA (by simp [oVal]) ⟨_, rfl, ret⟩⟩
            | some k1 =>
              cases ob : outc LB x with
              | none => exact ⟨rfl, _, rfl, iteA (by simp [oVal]) ⟨_, rfl, ret⟩⟩
              | some k2 =>
                have ne : k1 ≠ k2 := fun z => e (by rw [oa, ob, z])
                exact ⟨rfl, _, rfl, iteA (by simpa [oVal] using ne) ⟨_, rfl, ret⟩⟩
        · have c : ¬ x ≤ last := fun z => c (decide_eq_true z)
          exact keep G4 (Same.refl _) fun z => absurd z c
      · rintro σ G4 ⟨s5', rfl, hk2, s4'⟩
        refine ⟨_, _, rfl, fun z hz y ey yl => ?_, (sG.trans s3).trans s4'⟩
        rw [take_snoc hfs] at hz
        rcases List.mem_append.mp hz with m | m
        · exact hk z m y ey yl
        · rw [List.mem_singleton.mp m] at ey
          exact hk2 y (by show y ∈ [fs, fs + 1]; simp only [List.mem_cons, List.not_mem_nil, or_false]; exact ey) yl
    · rintro σ G ⟨s4, s5, rfl, hk, sG⟩
      rw [List.take_of_length_le (by simp)] at hk
      refine R none G (fun z z0 z1 => ?_) (s2.trans sG)
      refine agree_upto tA tB (u := last + 1) (Int.le_refl _) (fun q m y ey y0 y1 => ?_) _ z z0 z1 rfl
      exact hk q.1 ((hm' q.1).mpr (List.mem_map.mpr ⟨q, m, rfl⟩)) y ey (by omega)
end
end OR

namespace OR
open PySem PySem.Spec PyProof.Rows L2
open TL (tl numL)
theorem risingS_pair : ∀ (l : List Str) (p : Str), risingS p l = true → Asc (p :: l)
  | [], p, _ => by unfold Asc; simp
  | x :: r, p, h => by
    have h2 : (!ltCps x.cps.toList p.cps.toList && risingS x r) = true := h
    rw [Bool.and_eq_true, Bool.not_eq_true', ltCps_eq, decide_eq_false_iff_not] at h2
    have ih : Asc (x :: r) := risingS_pair r x h2.2
    unfold Asc at ih ⊢
    refine List.pairwise_cons.mpr ⟨fun y hy => ?_, ih⟩
    rcases List.mem_cons.mp hy with e | m
    · subst e; exact h2.1
    · have h3 := (List.pairwise_cons.mp ih).1 y m
      exact List.not_lt.mpr (List.le_trans (List.not_lt.mp h2.1) (List.not_lt.mp h3))
theorem sortedS_asc {l : List Str} (h : sortedS l = true) : Asc l := by
  cases l with
  | nil => exact List.Pairwise.nil
  | cons x r => exact risingS_pair r x h
theorem asc_anti {a b : Str} (h1 : ¬ a.cps.toList < b.cps.toList) (h2 : ¬ b.cps.toList < a.cps.toList) : a = b := by
  have := List.le_antisymm (List.not_lt.mp h1) (List.not_lt.mp h2)
  cases a; cases b
  simp only [Str.mk.injEq]
  exact Array.toList_inj.mp this.symm
theorem asc_perm : ∀ {l m : List Str}, l.Perm m → Asc l → Asc m → l = m
  | [], m, p, _, _ => by rw [List.Perm.nil_eq p]
  | x :: l, [], p, _, _ => by cases p.length_eq
  | x :: l, y :: m, p, h1, h2 => by
    unfold Asc at h1 h2
    have a1 := List.pairwise_cons.mp h1
    have a2 := List.pairwise_cons.mp h2
    have e : x = y := by
      rcases List.mem_cons.mp (p.mem_iff.mp List.mem_cons_self) with z | z
      · exact z
      rcases List.mem_cons.mp (p.mem_iff.mpr List.mem_cons_self : y ∈ x :: l) with u | u
      · exact u.symm
      · exact asc_anti (a2.1 x z) (a1.1 y u)
    subst e
    rw [asc_perm (List.Perm.cons_inv p) a1.2 a2.2]
end OR

namespace OR
open PySem PySem.Spec PyProof.Rows L2
/-! ### the law's own first difference -/
def spDue : Sp := fun vs H Q _ => ∃ (d1 d2 : Addr) (kvs kvs2 : List (Key × V)) (T U : Tld) (last : Int), vs = [.ref d1, .ref d2, .int last] ∧ H d1 = some (.dK kvs) ∧ H d2 = some (.dK kvs2) ∧ All2 (EntL H) kvs T ∧ All2 (EntL H) kvs2 U ∧ U.map (·.1) = T.map (·.1) ∧ Rwh last 6 1 T ∧ Rwh last 27 3 U ∧
  ∀ ws l v H', ws.Perm (T.map (·.1)) → Asc ws → l.map (·.1) = ws → (∀ e ∈ l, Dw last T U e.1 e.2) → DifV H' v (least l) → Same H H' → Q v H'
theorem keys_of' {H : Hp} : ∀ {kvs : List (Key × V)} {T : Tld}, All2 (EntL H) kvs T → (kvs.map fun e => kV e.1) = (T.map (·.1)).map V.str
  | _, _, .nil => rfl
  | _, _, .cons h r => by rw [List.map_cons, List.map_cons, List.map_cons, keys_of' r, h.1]; rfl
section
variable {P : Program} {w : World} {K : PySem.W.Frag} {mg : Str → Option Value} {base : Heap} {CL CG : Addr}
theorem scDue : FnScope ["_law_told_here", "_law_second", "_law_last_here", "_law_found", "_law_word", "_law_x"] ["_law_told_here", "_law_second", "_law_last_here"] (defScope sDue) := ⟨rfl, rfl, rfl, by decide +kernel, rfl, by decide +kernel, by decide +kernel⟩
theorem call_sortedSK {X : Cx} (K : PySem.W.Frag) (hK : X.K = K) : CallR X (.builtin "sorted") (rSortedS K) := by subst hK; exact cr_sortedS
set_option maxHeartbeats 1000000 in
theorem ok_due {f : Addr} {fd : FuncData} (F : Fun K "_law_due" "_law_due" sDue f fd) (B : Bd mg) (zS : mg "str" = none) (PA : Cl P w K mg base 3 "_law_parting" ["_law_mine", "_law_others", "_law_last_here"] spPart) : FnOk P w K mg base CX0 4 f fd ["_law_told_here", "_law_second", "_law_last_here"] spDue := by
  refine F.ok scDue (fun vs H Q E h => ?_) (fun cdv A outer s H vs Q E hr h => ?_)
  · obtain ⟨d1, d2, kvs, kvs2, T, U, last, rfl, _⟩ := h
    rfl
  · obtain ⟨d1, d2, kvs, kvs2, T, U, last, rfl, h1, h2, hT, hU, eF, RT, RU, R⟩ := h
    have nd := scDue.nd
    have hu := hu_of hr
    refine ⟨_, pss_cons (ps_set (i := 3) nd rfl (.inl rfl) pe_non)
      (pss_cons (ps_for PassesOwn.never rfl (pi_list (pe_callB (call_sortedSK K rfl) (by rfl) B.sorted bt_sorted (pa_cons (pe_lock (pe_lc (own := [("_law_word", 4)]) (g := (gName 4)) (tt := tYes) rfl nd (pi_keys (pv 0)) (blkOk_by (N := ["_law_told_here", "_law_second", "_law_last_here", "_law_found", "_law_word", "_law_x"]) (sc := defScope sDue) (by decide +kernel)) (fun _ _ _ _ _ => pg_name (i := 4) nd rfl (.inl rfl)) (fun _ _ _ _ _ => pts_nil) (fun _ _ _ _ _ => (pe_callTy SkE.call_str_str (by rfl) zS boot_strT (pa_cons (pv 4) pa_nil))))) pa_nil))) (pg_name (i := 4) nd rfl (.inl rfl))
          (pss_cons (ps_set (i := 5) nd rfl (.inl rfl) (pe_cl PA hr (by decide) (by rfl) (pa_cons (pe_dget hu (pv 0) (pv 4) (fun _ _ => rfl)) (pa_cons (pe_dget hu (pv 1) (pv 4) (fun _ _ => rfl)) (pa_cons (pv 2) pa_nil)))))
          (pss_one (ps_if (PW.pt (pw_and (pt_cmp (pc_notN (pv 5))) (pw_and1 (PW.pt (pw_or (pt_cmp (pc_isN (pv 3))) (pw_or1 (pt_cmpR op_lt (pv 5) (pe_ix (ix_tupK K rfl) (pv 3) pe_int (fun _ _ => rfl)) (nomark _))))))))
              (pss_one (ps_set (i := 3) nd rfl (.inl rfl) (pe_tup (pa_cons (pv 5) (pa_cons (pv 4) pa_nil)))))
              pss_nil))))
      (pss_one (ps_ret (pv 3)))), ?_⟩
    have hE : (kvs.map fun e => kV e.1) = (T.map (·.1)).map V.str := keys_of' hT
    have lk : kvs.length = T.length := hT.length
    have few := RT.few
    refine ⟨d1, .dK kvs, h1, trivial, fun od => ?_⟩
    refine ⟨_, rfl, d1, od, rfl, .inl ⟨kvs, upd_same, fun D hD => lc_any (walksK (d := d1) (o := od) (kvs := kvs)) (fun i G => G D = some (.lst (((T.map (·.1)).take i).map V.str)) ∧ Same (upd H d1 (.frz od (.dK kvs))) G)
      ⟨upd_same, same_lay hD⟩ (fun i G _ ⟨_, s⟩ => s _ _ upd_same) ?_ ?_⟩⟩
    · rintro i x G hx ⟨hU', sG⟩
      rw [hE, List.getElem?_map] at hx
      obtain ⟨x2, hx2, rfl⟩ := Option.map_eq_some_iff.mp hx
      refine ⟨rfl, yesT ⟨_, rfl, x2, rfl, _, hU', small1000 (by rw [List.length_map, List.length_take, List.length_map]; omega), ?_, same_upd sG hD⟩⟩
      rw [upd_same, take_snoc hx2, List.map_append]; rfl
    rintro G ⟨hU', sG⟩
    rw [List.take_of_length_le (by rw [List.length_map, List.length_map]; omega)] at hU'
    obtain ⟨sU, hfz⟩ := same_lock h1 sG
    have hD2 : (upd G d1 (.dK kvs)) D = some (.lst ((T.map (·.1)).map V.str)) := by rw [upd_ne (ne_of hU' hfz (by intro z; cases z))]; exact hU'
    refine ⟨hfz, D, T.map (·.1), rfl, .inl (.inl hD2), by rw [List.length_map]; omega, fun ws o hp hs no => ?_⟩
    have s2 := sU.trans (same_lay (o := .lst (ws.map V.str)) no)
    have ho : (upd (upd G d1 (.dK kvs)) o (.lst (ws.map V.str))) o = some (.lst (ws.map V.str)) := upd_same
    generalize upd (upd G d1 (.dK kvs)) o (.lst (ws.map V.str)) = G2 at s2 ho
    clear sU hfz hD2 no sG hU' hD
    have hasc := sortedS_asc hs
    refine ⟨o, rfl, ⟨_, .inl (.inl ho)⟩, for_list (K := K) (a := o) (xs := ws.map V.str) (fun i σ G => ∃ v s4 s5 ls, σ = [some (.ref d1), some (.ref d2), some (.int last), some v, s4, s5] ∧ ls.map (·.1) = ws.take i ∧ (∀ e ∈ ls, Dw last T U e.1 e.2) ∧ DifV G v (least ls) ∧ Same G2 G)
      ⟨.non, none, none, [], rfl, by simp, (fun _ z => nomatch z), rfl, Same.refl _⟩ (fun i σ G _ ⟨_, _, _, _, _, _, _, _, s⟩ => .inl (.inl (s _ _ ho))) ?_ ?_⟩
    · rintro i v σ G hv ⟨fv, s4, s5, ls, rfl, els, hls, hdf, sG⟩
      rw [List.getElem?_map] at hv
      obtain ⟨wd, hwd, rfl⟩ := Option.map_eq_some_iff.mp hv
      obtain ⟨t, mt, et⟩ := List.mem_map.mp (hp.mem_iff.mp (List.mem_of_getElem? hwd))
      obtain ⟨u, mu, eu⟩ := List.mem_map.mp (show wd ∈ U.map (·.1) by rw [eF]; exact List.mem_map.mpr ⟨t, mt, et⟩)
      obtain ⟨e1, _, he1, hv1⟩ := val_ent (fun _ _ h => h.1) hT RT.nd mt
      obtain ⟨e2, _, he2, hv2⟩ := val_ent (fun _ _ h => h.1) hU RU.nd mu
      obtain ⟨_, la, xs, ea, hla, hX⟩ := he1
      obtain ⟨_, lb, ys, eb, hlb, hY⟩ := he2
      rw [ea, et] at hv1
      rw [eb, eu] at hv2
      have s2G := s2.trans sG
      obtain ⟨_, w2, w3, w4⟩ := RT.ok t mt
      obtain ⟨_, w2', w3', w4'⟩ := RU.ok u mu
      refine ⟨_, rfl, _, rfl, d1, _, rfl, dg (s2G _ _ h1) hv1, _, rfl, _, rfl, d2, _, rfl, dg (s2G _ _ h2) hv2, _, rfl, la, lb, xs, ys, t.2, u.2, last, rfl, s2G _ _ hla, s2G _ _ hlb, hX.imp (fun _ _ h => h.kp (kp_same s2G)), hY.imp (fun _ _ h => h.kp (kp_same s2G)), w2, w2', (fun q hq => (w3 q hq).tq (by decide)), (fun q hq => (w3' q hq).tq (by decide)), by omega, RT.last, fun r G3 hr3 s13 => ?_⟩
      have hd : Dw last T U wd r := ⟨t, mt, u, mu, et, eu, hr3⟩
      have hdf3 := hdf.kp (kp_same s13)
      have els2 : (ls ++ [(wd, r)]).map (·.1) = ws.take (i + 1) := by rw [List.map_append, els, take_snoc hwd]; rfl
      have hls2 : ∀ z ∈ ls ++ [(wd, r)], Dw last T U z.1 z.2 := fun z hz => by
        rcases List.mem_append.mp hz with k | k
        · exact hls z k
        · rw [List.mem_singleton.mp k]; exact hd
      have el : least (ls ++ [(wd, r)]) = lstep (least ls) (wd, r) := by unfold least; rw [List.foldl_append]; rfl
      have stay : lstep (least ls) (wd, r) = least ls → ∀ sx, ∃ v' s4' s5' ls', [some (V.ref d1), some (.ref d2), some (.int last), some fv, some (.str wd), sx] = [some (.ref d1), some (.ref d2), some (.int last), some v', s4', s5'] ∧ ls'.map (·.1) = ws.take (i + 1) ∧ (∀ e ∈ ls', Dw last T U e.1 e.2) ∧ DifV G3 v' (least ls') ∧ Same G2 G3 := fun e1 sx =>
        ⟨fv, _, _, _, rfl, els2, hls2, by rw [el, e1]; exact hdf3, sG.trans s13⟩
      have put : ∀ k, r = some k → lstep (least ls) (wd, r) = some (k, wd) → (2 ≤ sizeLine ∧ ∀ t, G3 t = none → ∃ v' s4' s5' ls', [some (V.ref d1), some (.ref d2), some (.int last), some (.ref t), some (.str wd), some (iV r)] = [some (.ref d1), some (.ref d2), some (.int last), some v', s4', s5'] ∧ ls'.map (·.1) = ws.take (i + 1) ∧ (∀ e ∈ ls', Dw last T U e.1 e.2) ∧ DifV (upd G3 t (.tup [.int k, .str wd])) v' (least ls') ∧ Same G2 (upd G3 t (.tup [.int k, .str wd]))) := fun k ek e1 =>
        ⟨by decide, fun t nt => ⟨.ref t, _, _, _, rfl, els2, hls2, by rw [el, e1]; exact ⟨t, rfl, upd_same⟩, (sG.trans s13).trans (same_lay nt)⟩⟩
      refine ⟨_, rfl, _, rfl, ?_⟩
      cases r with
      | none => exact iteB (by simp [iV]) (stay rfl _)
      | some k =>
        refine iteA (by simp [iV]) ⟨_, rfl, _, rfl, ?_⟩
        cases hle : least ls with
        | none =>
          rw [hle] at hdf3 put stay
          obtain rfl : fv = .non := hdf3
          exact iteA (by simp) ⟨_, rfl, _, rfl, put k rfl rfl⟩
        | some g =>
          rw [hle] at hdf3 put stay
          obtain ⟨tg, rfl, htg⟩ := hdf3
          refine iteB (by simp) ⟨_, rfl, _, rfl, tg, _, 0, _, rfl, rfl, .inl (.inl htg), atI_nat (j := 0) rfl, _, _, rfl, rfl, _, rfl, ite2 (fun c => ?_) (fun c => ?_)⟩
          · have c : k < g.1 := of_decide_eq_true c
            exact ⟨_, rfl, _, rfl, put k rfl (by show (if k < g.1 then _ else _) = _; rw [if_pos c])⟩
          · have c : ¬ k < g.1 := fun z => c (decide_eq_true z)
            exact stay (by show (if k < g.1 then _ else _) = _; rw [if_neg c]) _
    · rintro σ G ⟨fv, s4, s5, ls, rfl, els, hls, hdf, sG⟩
      rw [List.take_of_length_le (by simp)] at els
      exact ⟨_, rfl, R ws ls fv G hp hasc els hls hdf (s2.trans sG)⟩
end
end OR

namespace OR
open PySem PySem.Spec PyProof.Rows L2
/-! ### when told pieces are equal -/
theorem valT_mem : ∀ {N : Tld} {t : Str × List Pce}, (N.map (·.1)).Nodup → t ∈ N → valT N t.1 = some t.2
  | [], _, _, h => nomatch h
  | q :: N, t, nd, h => by
    rw [List.map_cons, List.nodup_cons] at nd
    unfold valT
    rw [List.find?_cons]
    rcases List.mem_cons.mp h with e | e
    · subst e
      rw [decide_eq_true rfl]; rfl
    · have ne : ¬ q.1 = t.1 := fun z => nd.1 (List.mem_map.mpr ⟨t, e, z.symm⟩)
      rw [decide_eq_false ne]
      exact valT_mem nd.2 e
theorem valT_none : ∀ {N : Tld} {s : Str}, s ∉ N.map (·.1) → valT N s = none
  | [], _, _ => rfl
  | q :: N, s, h => by
    rw [List.map_cons, List.mem_cons, not_or] at h
    unfold valT
    rw [List.find?_cons, decide_eq_false (fun e => h.1 e.symm)]
    exact valT_none h.2
theorem dEq_bad {M N : Tld} {m : Str × List Pce} (hm : m ∈ M) (hne : valT N m.1 ≠ some m.2) : dEq M N = false := by
  unfold dEq
  rw [Bool.and_eq_false_iff]
  refine .inr ?_
  rw [List.all_eq_false]
  exact ⟨m, hm, by simpa using hne⟩
theorem dEq_key {T U : Tld} {w : Str} (h : w ∈ T.map (·.1)) (k : w ∉ U.map (·.1)) : dEq (oneT T) (oneT U) = false := by
  obtain ⟨t, mt, rfl⟩ := List.mem_map.mp h
  refine dEq_bad (m := (t.1, oneF t.2)) (List.mem_map.mpr ⟨t, mt, rfl⟩) ?_
  rw [valT_none (by rw [oneT_fst]; exact k)]
  exact fun z => nomatch z
theorem dEq_len {M N : Tld} (h : M.length ≠ N.length) : dEq M N = false := by
  unfold dEq
  rw [decide_eq_false h, Bool.false_and]
theorem oneT_len (T : Tld) : (oneT T).length = T.length := by unfold oneT; rw [List.length_map]
theorem dEq_same {T U : Tld} {n : Int} (hT : Told n T) (hU : Told n U) (hp : (U.map (·.1)).Perm (T.map (·.1))) (h : ∀ t ∈ T, ∀ u ∈ U, t.1 = u.1 → ∀ z, 0 ≤ z → z < n + 1 → outc t.2 z = outc u.2 z) : dEq (oneT T) (oneT U) = true := by
  unfold dEq
  rw [Bool.and_eq_true, List.all_eq_true]
  refine ⟨decide_eq_true ?_, fun m hm => ?_⟩
  · rw [oneT_len, oneT_len]
    have := hp.length_eq
    rw [List.length_map, List.length_map] at this
    exact this.symm
  · obtain ⟨t, mt, rfl⟩ := List.mem_map.mp hm
    obtain ⟨u, mu, eu⟩ := List.mem_map.mp (hp.mem_iff.mpr (List.mem_map.mpr ⟨t, mt, rfl⟩))
    refine decide_eq_true ?_
    have := valT_mem (N := oneT U) (t := (u.1, oneF u.2)) (by rw [oneT_fst]; exact hU.nd) (List.mem_map.mpr ⟨u, mu, rfl⟩)
    show valT (oneT U) t.1 = some (oneF t.2)
    rw [show t.1 = (u.1, oneF u.2).1 from eu.symm, this, oneF_canon (hT.ok t mt).2.1 (hU.ok u mu).2.1 (h t mt u mu eu.symm)]
theorem dEq_diff {T U : Tld} {n : Int} (hT : Told n T) (hU : Told n U) {t u : Str × List Pce} (mt : t ∈ T) (mu : u ∈ U) (e : t.1 = u.1) {z : Int} (z0 : 0 ≤ z) (z1 : z < n + 1) (h : outc t.2 z ≠ outc u.2 z) : dEq (oneT T) (oneT U) = false := by
  refine dEq_bad (m := (t.1, oneF t.2)) (List.mem_map.mpr ⟨t, mt, rfl⟩) ?_
  have := valT_mem (N := oneT U) (t := (u.1, oneF u.2)) (by rw [oneT_fst]; exact hU.nd) (List.mem_map.mpr ⟨u, mu, rfl⟩)
  show valT (oneT U) t.1 ≠ some (oneF t.2)
  rw [show t.1 = (u.1, oneF u.2).1 from e, this]
  intro c
  have c : oneF u.2 = oneF t.2 := Option.some.inj c
  refine h ?_
  rw [← (oneF_like (hT.ok t mt).2.1).out z z0 z1, ← (oneF_like (hU.ok u mu).2.1).out z z0 z1, c]
/-! ### the law's looks at programs of other shapes -/
def spRfd (CG CL : Addr) : Sp := fun vs H Q _ => ∃ (x y : Addr) (n m : Int) (T U : Tld), vs = [.ref x, .ref y] ∧ IsG CG CL H x n (oneT T) ∧ IsG CG CL H y m (oneT U) ∧ Told n T ∧ Told m U ∧ (∀ e ∈ T, e.2.length ≤ 400) ∧ (∀ e ∈ U, e.2.length ≤ 400) ∧
  ¬ (m = n ∧ U.map (·.1) = T.map (·.1)) ∧ ∀ H', Same H H' → Q (.bl true) H'
theorem tyGx2 {K : PySem.W.Frag} {mg : Str → Option Value} {CG : Addr} (GT : GTxt K mg CG) (gi : SlX.SIsi K CG) {H : Hp} {x dx : Addr} {fs : List (Str × V)} (hx : H x = some (.ins CG dx fs)) : TyX K H (.ref x) (.ref CG) := .base (.ins hx GT.cl gi.ca gi.cn gi.ct gi.cm)
section
variable {P : Program} {w : World} {K : PySem.W.Frag} {mg : Str → Option Value} {base : Heap} {CL CG CO CR : Addr}
theorem scRfd : FnScope ["_law_one", "_law_other", "e"] ["_law_one", "_law_other"] (defScope sIsRefused) := ⟨rfl, rfl, rfl, by decide +kernel, rfl, by decide +kernel, by decide +kernel⟩
theorem ok_rfd {f : Addr} {fd : FuncData} (F : Fun K "_law_is_refused" "_law_is_refused" sIsRefused f fd) (zI : mg "isinstance" = none) (EO : Er0 K mg "OtherShape" CO CR) (FD : ClX P w K mg base 5 "first_difference" ["one", "other"] (spFd CG CL CO)) : FnOk P w K mg base CX0 6 f fd ["_law_one", "_law_other"] (spRfd CG CL) := by
  refine F.ok scRfd (fun vs H Q E h => ?_) (fun cdv A outer s H vs Q E hr h => ?_)
  · obtain ⟨x, y, n, m, T, U, rfl, _⟩ := h
    rfl
  · obtain ⟨x, y, n, m, T, U, rfl, hx, hy, hT, hU, lT, lU, hne, q⟩ := h
    have nd := scRfd.nd
    refine ⟨_, pss_cons (ps_try_names (Wo := fun _ _ _ _ => False) rfl rfl nd takes0
        (fun W pn xe tk _ => pss_one (ps_expr (by exact (pe_clX FD hr (by decide) (by rfl) tk (pa_cons (pv 0) (pa_cons (pv 1) pa_nil))))))
        (.cons (i := 2) rfl rfl ⟨rfl, by decide, .inl EO.gB⟩ (fun a oe cls d pn hz hf => pss_one (ps_ret (by exact (pe_callB (call_isN EO.xc hz hf) (by rfl) zI bt_isi (pa_cons (pv 2) (pa_cons (pe_glob (v := .ref CR) (by rfl) EO.gR rfl) pa_nil))))))
          .none))
      (pss_one (ps_ret pe_bl)), ?_⟩
    refine ⟨_, rfl, _, rfl, x, y, n, m, T, U, rfl, hx, hy, hT, hU, lT, lU, fun _ H' s' => ?_, fun same => absurd same hne⟩
    refine ⟨true, EO.self, fun _ a0 na0 => ?_, fun q => Bool.noConfusion q⟩
    exact ⟨_, rfl, rfl, rfl, .ref CR, .ref CR, true, rfl, (fun _ h => h), EO.kR, q H' s'⟩
/-- programs compared -/
theorem g_eq {H : Hp} {x y : Addr} {n m : Int} {M N : Tld} {Q : VK} (nf : PySem.W.notFirst K CG (.ref CG) = true) (gi : SlX.SIsi K CG) (GT : GTxt K mg CG) (h : IsG CG CL H x n M) (k : IsG CG CL H y m N) (q : ∀ H', Same H H' → Q (.bl (decide (n = m) && dEq M N)) H') : rEqO K CG (spGEq K CG CL) (.ref x) (.ref y) H Q := by
  obtain ⟨dx, fa, ta, kv, h1, _⟩ := id h
  obtain ⟨dy, fb, tb, kv2, k1, _⟩ := id k
  exact ⟨x, dx, _, rfl, h1, ⟨.ref CG, tyGx GT gi k1, nf⟩, x, n, M, .ref y, rfl, h, .inl ⟨y, m, N, rfl, k, q⟩⟩
theorem g_ne {H : Hp} {x y : Addr} {n m : Int} {M N : Tld} {Q : VK} (nf : PySem.W.notFirst K CG (.ref CG) = true) (gi : SlX.SIsi K CG) (GT : GTxt K mg CG) (h : IsG CG CL H x n M) (k : IsG CG CL H y m N) (q : ∀ H', Same H H' → Q (.bl (!(decide (n = m) && dEq M N))) H') : rNeO K CG (spGEq K CG CL) (.ref x) (.ref y) H Q := by
  obtain ⟨dx, fa, ta, kv, h1, _⟩ := id h
  obtain ⟨dy, fb, tb, kv2, k1, _⟩ := id k
  exact ⟨x, dx, _, rfl, h1, ⟨.ref CG, tyGx GT gi k1, nf⟩, x, n, M, .ref y, rfl, h, .inl ⟨y, m, N, rfl, k, fun H' s => ⟨_, rfl, q H' s⟩⟩⟩
def spApart : Sp := fun vs H Q _ => ∃ (ra wl : Addr) (xs : List V) (R : List Pce) (ws : List Str) (last : Int), vs = [.int last, .ref ra, .ref wl] ∧ H ra = some (.lst xs) ∧ All2 (RwT H) xs R ∧ Til R 0 (last + 1) ∧ (∀ q ∈ R, Bq q) ∧ R.length ≤ 60 ∧ Plc last ∧ H wl = some (.lst (ws.map V.str)) ∧ ws.length = 4 ∧ (∀ w ∈ ws, Word w) ∧ ws.Nodup ∧
  ∀ H', Same H H' → Q (.bl true) H'
theorem scApart : FnScope ["_law_last_here", "_law_rows_here", "_law_words_here", "_law_one", "_law_two", "_law_both", "_law_long"] ["_law_last_here", "_law_rows_here", "_law_words_here"] (defScope sAreApart) := ⟨rfl, rfl, rfl, by decide +kernel, rfl, by decide +kernel, by decide +kernel⟩
theorem told_rows {n : Int} {R : List Pce} (hn : Plc n) (tR : Til R 0 (n + 1)) (hB : ∀ q ∈ R, Bq q) (hl : R.length ≤ 60) {ws : List Str} (hw : ∀ w ∈ ws, Word w) (nd : ws.Nodup) (h60 : ws.length ≤ 60) : Told n (ws.map fun w => (w, R)) := by
  refine ⟨?_, by rw [List.length_map]; exact h60, hn, fun e he => ?_⟩
  · rw [List.map_map, show ((fun e : Str × List Pce => e.1) ∘ fun w => (w, R)) = id from rfl, List.map_id]
    exact nd
  · obtain ⟨w, mw, rfl⟩ := List.mem_map.mp he
    exact ⟨hw w mw, tR, hB, by show R.length ≤ 1000; omega⟩
theorem merge2 {a b : Str} {v u : V} (h : a ≠ b) : mergeK ([] : List (Key × V)) [((.inr a : Key), v), ((.inr b : Key), u)] = [((.inr a : Key), v), ((.inr b : Key), u)] := by
  show putK (putK ([] : List (Key × V)) (.inr a) v) (.inr b) u = _
  have e1 : putK ([] : List (Key × V)) (.inr a) v = [(.inr a, v)] := rfl
  rw [e1, putK_new]
  · rfl
  · rw [valV_neg (fun e => h (Sum.inr.inj e))]; rfl
set_option maxHeartbeats 2000000 in
theorem ok_apart {f : Addr} {fd : FuncData} (F : Fun K "_law_are_apart" "_law_are_apart" sAreApart f fd) (GT : GTxt K mg CG) (gi : SlX.SIsi K CG) (nf : PySem.W.notFirst K CG (.ref CG) = true) (gne : PySem.W.findIn K (.ref CG) "__ne__" = some (some (.builtin "object.__ne__"))) (gm : PySem.W.mroIn K CG (.type "object") = some true)
    (GE : Md P w K mg base 5 CG "__eq__" (spGEq K CG CL)) (PR : Cl P w K mg base 8 "_law_program" ["_law_last_here", "_law_told_here"] (spPrg CG CL)) : FnOk P w K mg base CX0 9 f fd ["_law_last_here", "_law_rows_here", "_law_words_here"] spApart := by
  refine F.ok scApart (fun vs H Q E h => ?_) (fun cdv A outer s H vs Q E hr h => ?_)
  · obtain ⟨ra, wl, xs, R, ws, last, rfl, _⟩ := h
    rfl
  · obtain ⟨ra, wl, xs, R, ws, last, rfl, hra, hR, tR, hB, lR, hla, hwl, lws, wws, dws, q⟩ := h
    have nd := scApart.nd
    refine ⟨_, pss_cons (ps_par (i := 3) (j := 4) rfl nd rfl rfl (by decide) rfl rfl (pa_cons (pe_cl PR hr (by decide) (by rfl) (pa_cons (pv 0) (pa_cons (pe_disp (pps_cons (pe_ix (ix_listK K rfl) (pv 2) pe_int (fun _ _ => rfl)) (pv 1) pps_nil) rfl rfl (by simp) (by decide)) pa_nil))) (pa_cons (pe_cl PR hr (by decide) (by rfl) (pa_cons (pv 0) (pa_cons (pe_disp (pps_cons (pe_ix (ix_listK K rfl) (pv 2) pe_int (fun _ _ => rfl)) (pv 1) pps_nil) rfl rfl (by simp) (by decide)) pa_nil))) pa_nil)) rfl)
      (pss_cons (ps_set (i := 5) nd rfl (.inl rfl) (pe_cl PR hr (by decide) (by rfl) (pa_cons (pv 0) (pa_cons (pe_disp (pps_cons (pe_ix (ix_listK K rfl) (pv 2) pe_int (fun _ _ => rfl)) (pv 1) (pps_cons (pe_ix (ix_listK K rfl) (pv 2) pe_int (fun _ _ => rfl)) (pv 1) pps_nil)) rfl rfl (by simp) (by decide)) pa_nil))))
      (pss_cons (ps_set (i := 6) nd rfl (.inl rfl) (pe_cl PR hr (by decide) (by rfl) (pa_cons (pv 0) (pa_cons (pe_disp (pps_cons (pe_ix (ix_listK K rfl) (pv 2) pe_int (fun _ _ => rfl)) (pv 1) (pps_cons (pe_ix (ix_listK K rfl) (pv 2) pe_int (fun _ _ => rfl)) (pv 1) pps_nil)) rfl rfl (by simp) (by decide)) pa_nil))))
      (pss_one (ps_ret (pe_and (pe_cmpR (op_neO K rfl GE gne gm (hr.mono (by decide))) (pv 3) (pv 4) (by rfl)) (pe_and (pe_cmpR (op_neO K rfl GE gne gm (hr.mono (by decide))) (pv 3) (pv 5) (by rfl)) (pe_and (pe_cmpR (op_neO K rfl GE gne gm (hr.mono (by decide))) (pv 5) (pv 4) (by rfl)) (pe_and (pe_not (pe_cmpR (op_eqO K rfl GE (hr.mono (by decide))) (pv 3) (pv 4) (by rfl))) (pe_and (pe_not (pe_cmpR (op_eqO K rfl GE (hr.mono (by decide))) (pv 5) (pv 3) (by rfl))) (pe_one (pe_cmpR (op_eqO K rfl GE (hr.mono (by decide))) (pv 5) (pv 6) (by rfl)))))))))))), ?_⟩
    obtain ⟨w0, w1, w2, w3, rfl⟩ : ∃ w0 w1 w2 w3, ws = [w0, w1, w2, w3] := by
      match ws, lws with
      | [a, b, c, d], _ => exact ⟨a, b, c, d, rfl⟩
    have n01 : w0 ≠ w1 := fun e => (List.nodup_cons.mp dws).1 (by rw [e]; exact List.mem_cons_self)
    have nd2 : ([w0, w1] : List Str).Nodup := List.nodup_cons.mpr ⟨by simpa using n01, by simp⟩
    have nd2' : ([w1, w0] : List Str).Nodup := List.nodup_cons.mpr ⟨by simpa using n01.symm, by simp⟩
    have m0 : Word w0 := wws w0 (by simp)
    have m1 : Word w1 := wws w1 (by simp)
    have T0 : Told last [(w0, R)] := told_rows (ws := [w0]) hla tR hB lR (by intro w hw; rw [List.mem_singleton.mp hw]; exact m0) (by simp) (by simp)
    have T1 : Told last [(w1, R)] := told_rows (ws := [w1]) hla tR hB lR (by intro w hw; rw [List.mem_singleton.mp hw]; exact m1) (by simp) (by simp)
    have w2' : ∀ w ∈ [w0, w1], Word w := fun w hw => by
      simp only [List.mem_cons, List.not_mem_nil, or_false] at hw
      rcases hw with rfl | rfl
      · exact m0
      · exact m1
    have Tb : Told last [(w0, R), (w1, R)] := told_rows (ws := [w0, w1]) hla tR hB lR w2' nd2 (by simp)
    have Tl : Told last [(w1, R), (w0, R)] := told_rows (ws := [w1, w0]) hla tR hB lR (fun w hw => w2' w (by simp only [List.mem_cons, List.not_mem_nil, or_false] at hw ⊢; exact hw.symm)) nd2' (by simp)
    have l60 : ∀ (T : Tld), (∀ e ∈ T, e.2 = R) → ∀ e ∈ T, e.2.length ≤ 60 := fun T h e he => by rw [h e he]; exact lR
    -- one
    refine ⟨_, rfl, fun d nd0 => ⟨_, rfl, wl, _, 0, _, rfl, rfl, .inl (.inl ((same_lay nd0) _ _ hwl)), atI_nat (j := 0) rfl, _, rfl, upd_same, [(.inr w0, .ref ra)], rfl, by show 1 ≤ 15; decide, ?_⟩⟩
    have sd : Same H (upd (upd H d (.dK [])) d (.dK (mergeK [] [(.inr w0, .ref ra)]))) := same_upd (same_lay nd0) nd0
    have hd : (upd (upd H d (.dK [])) d (.dK (mergeK [] [(.inr w0, .ref ra)]))) d = some (.dK [(.inr w0, .ref ra)]) := by rw [upd_same]; rfl
    generalize upd (upd H d (.dK [])) d (.dK (mergeK [] [(.inr w0, .ref ra)])) = G at sd hd
    refine ⟨d, _, [(w0, R)], last, rfl, hd, .cons ⟨rfl, ra, xs, rfl, sd _ _ hra, hR.imp fun _ _ h => h.kp (kp_same sd)⟩ .nil, T0, by simp, l60 _ (by simp), fun y0 G1 T' _ hp0 _ hG0 s1 => ?_⟩
    rw [List.perm_singleton.mp hp0] at hG0
    have sG1 := sd.trans s1
    clear hp0 hd sd s1 nd0
    -- two
    refine ⟨_, rfl, fun d nd0 => ⟨_, rfl, wl, _, 1, _, rfl, rfl, .inl (.inl ((same_lay nd0) _ _ (sG1 _ _ hwl))), atI_nat (j := 1) rfl, _, rfl, upd_same, [(.inr w1, .ref ra)], rfl, by show 1 ≤ 15; decide, ?_⟩⟩
    have sd : Same G1 (upd (upd G1 d (.dK [])) d (.dK (mergeK [] [(.inr w1, .ref ra)]))) := same_upd (same_lay nd0) nd0
    have hd : (upd (upd G1 d (.dK [])) d (.dK (mergeK [] [(.inr w1, .ref ra)]))) d = some (.dK [(.inr w1, .ref ra)]) := by rw [upd_same]; rfl
    generalize upd (upd G1 d (.dK [])) d (.dK (mergeK [] [(.inr w1, .ref ra)])) = G2 at sd hd
    have sG2 := sG1.trans sd
    refine ⟨d, _, [(w1, R)], last, rfl, hd, .cons ⟨rfl, ra, xs, rfl, sG2 _ _ hra, hR.imp fun _ _ h => h.kp (kp_same sG2)⟩ .nil, T1, by simp, l60 _ (by simp), fun y1 G3 T' _ hp1 _ hG1 s3 => ?_⟩
    rw [List.perm_singleton.mp hp1] at hG1
    have s13 := sd.trans s3
    have sG3 := sG1.trans s13
    clear hp1 hd sd s3 nd0
    have hG0 := hG0.same s13
    refine ⟨_, _, rfl, ?_⟩
    -- both
    refine ⟨_, rfl, fun d nd0 => ⟨_, rfl, wl, _, 0, _, rfl, rfl, .inl (.inl ((same_lay nd0) _ _ (sG3 _ _ hwl))), atI_nat (j := 0) rfl, _, rfl, _, rfl, wl, _, 1, _, rfl, rfl, .inl (.inl ((same_lay nd0) _ _ (sG3 _ _ hwl))), atI_nat (j := 1) rfl, _, rfl, upd_same, [(.inr w0, .ref ra), (.inr w1, .ref ra)], rfl, by show 2 ≤ 15; decide, ?_⟩⟩
    have sd : Same G3 (upd (upd G3 d (.dK [])) d (.dK (mergeK [] [(.inr w0, .ref ra), (.inr w1, .ref ra)]))) := same_upd (same_lay nd0) nd0
    have hd : (upd (upd G3 d (.dK [])) d (.dK (mergeK [] [(.inr w0, .ref ra), (.inr w1, .ref ra)]))) d = some (.dK [(.inr w0, .ref ra), (.inr w1, .ref ra)]) := by rw [upd_same, merge2 n01]
    generalize upd (upd G3 d (.dK [])) d (.dK (mergeK [] [(.inr w0, .ref ra), (.inr w1, .ref ra)])) = G4 at sd hd
    have sG4 := sG3.trans sd
    have hR4 := hR.imp fun _ _ h => h.kp (kp_same sG4)
    refine ⟨d, _, [(w0, R), (w1, R)], last, rfl, hd, .cons ⟨rfl, ra, xs, rfl, sG4 _ _ hra, hR4⟩ (.cons ⟨rfl, ra, xs, rfl, sG4 _ _ hra, hR4⟩ .nil), Tb, by simp, l60 _ (by simp), fun y2 G5 Tb' _ hp2 _ hG2 s5 => ?_⟩
    have Tb2 := Tb.perm hp2
    have s35 := sd.trans s5
    have sG5 := sG3.trans s35
    clear hd sd s5 nd0 hR4
    have hG0 := hG0.same s35
    have hG1 := hG1.same s35
    -- long
    refine ⟨_, rfl, fun d nd0 => ⟨_, rfl, wl, _, 1, _, rfl, rfl, .inl (.inl ((same_lay nd0) _ _ (sG5 _ _ hwl))), atI_nat (j := 1) rfl, _, rfl, _, rfl, wl, _, 0, _, rfl, rfl, .inl (.inl ((same_lay nd0) _ _ (sG5 _ _ hwl))), atI_nat (j := 0) rfl, _, rfl, upd_same, [(.inr w1, .ref ra), (.inr w0, .ref ra)], rfl, by show 2 ≤ 15; decide, ?_⟩⟩
    have sd : Same G5 (upd (upd G5 d (.dK [])) d (.dK (mergeK [] [(.inr w1, .ref ra), (.inr w0, .ref ra)]))) := same_upd (same_lay nd0) nd0
    have hd : (upd (upd G5 d (.dK [])) d (.dK (mergeK [] [(.inr w1, .ref ra), (.inr w0, .ref ra)]))) d = some (.dK [(.inr w1, .ref ra), (.inr w0, .ref ra)]) := by rw [upd_same, merge2 n01.symm]
    generalize upd (upd G5 d (.dK [])) d (.dK (mergeK [] [(.inr w1, .ref ra), (.inr w0, .ref ra)])) = G6 at sd hd
    have sG6 := sG5.trans sd
    have hR6 := hR.imp fun _ _ h => h.kp (kp_same sG6)
    refine ⟨d, _, [(w1, R), (w0, R)], last, rfl, hd, .cons ⟨rfl, ra, xs, rfl, sG6 _ _ hra, hR6⟩ (.cons ⟨rfl, ra, xs, rfl, sG6 _ _ hra, hR6⟩ .nil), Tl, by simp, l60 _ (by simp), fun y3 G7 Tl' _ hp3 _ hG3 s7 => ?_⟩
    have Tl2 := Tl.perm hp3
    have s57 := sd.trans s7
    have sG7 := sG5.trans s57
    clear hd sd s7 nd0 hR6
    have hG0 := hG0.same s57
    have hG1 := hG1.same s57
    have hG2 := hG2.same s57
    have lb : Tb'.length = 2 := hp2.length_eq
    have e01 : dEq (oneT [(w0, R)]) (oneT [(w1, R)]) = false := dEq_key (w := w0) (by simp) (by simpa using n01)
    have e0b : dEq (oneT [(w0, R)]) (oneT Tb') = false := dEq_len (by rw [oneT_len, oneT_len, lb]; show (1:Nat) ≠ 2; decide)
    have eb1 : dEq (oneT Tb') (oneT [(w1, R)]) = false := dEq_len (by rw [oneT_len, oneT_len, lb]; show (2:Nat) ≠ 1; decide)
    have eb0 : dEq (oneT Tb') (oneT [(w0, R)]) = false := dEq_len (by rw [oneT_len, oneT_len, lb]; show (2:Nat) ≠ 1; decide)
    have allR : ∀ {T T0 : Tld}, T.Perm T0 → (∀ e ∈ T0, e.2 = R) → ∀ e ∈ T, e.2 = R := fun hp h e he => h e (hp.mem_iff.mp he)
    have ebl : dEq (oneT Tb') (oneT Tl') = true := by
      refine dEq_same Tb2 Tl2 ?_ fun t ht u hu _ z _ _ => by rw [allR hp2 (by simp) t ht, allR hp3 (by simp) u hu]
      refine ((hp3.map _).trans ?_).trans (hp2.map _).symm
      exact List.Perm.swap _ _ _
    refine ⟨_, rfl, _, rfl, g_ne nf gi GT hG0 hG1 fun K1 k1 => ⟨_, rfl, iteA (by rw [e01, Bool.and_false]; rfl) ?_⟩⟩
    refine ⟨_, rfl, _, rfl, g_ne nf gi GT (hG0.same k1) (hG2.same k1) fun K2 k2 => ⟨_, rfl, iteA (by rw [e0b, Bool.and_false]; rfl) ?_⟩⟩
    have k12 := k1.trans k2
    refine ⟨_, rfl, _, rfl, g_ne nf gi GT (hG2.same k12) (hG1.same k12) fun K3 k3 => ⟨_, rfl, iteA (by rw [eb1, Bool.and_false]; rfl) ?_⟩⟩
    have k13 := k12.trans k3
    refine ⟨_, rfl, _, rfl, g_eq nf gi GT (hG0.same k13) (hG1.same k13) fun K4 k4 => ⟨_, rfl, _, rfl, iteA (by rw [e01, Bool.and_false]; rfl) ?_⟩⟩
    have k14 := k13.trans k4
    refine ⟨_, rfl, _, rfl, g_eq nf gi GT (hG2.same k14) (hG0.same k14) fun K5 k5 => ⟨_, rfl, _, rfl, iteA (by rw [eb0, Bool.and_false]; rfl) ?_⟩⟩
    have k15 := k14.trans k5
    refine ⟨_, rfl, _, rfl, g_eq nf gi GT (hG2.same k15) (hG3.same k15) fun K6 k6 => ?_⟩
    rw [ebl, decide_eq_true rfl]
    exact q K6 (sG7.trans (k15.trans k6))
end
end OR

namespace OR
open PySem PySem.Spec PyProof.Rows L2
/-! ### the least difference -/
theorem Dw.fn {n : Int} {T U : Tld} (hT : (T.map (·.1)).Nodup) (hU : (U.map (·.1)).Nodup) {w : Str} {r s : Option Int} (h : Dw n T U w r) (k : Dw n T U w s) : r = s := by
  obtain ⟨t, mt, u, mu, e1, e2, h⟩ := h
  obtain ⟨t', mt', u', mu', e1', e2', k⟩ := k
  obtain rfl : t = t' := nodup_fst hT mt mt' (e1.trans e1'.symm)
  obtain rfl : u = u' := nodup_fst hU mu mu' (e2.trans e2'.symm)
  exact h.fn k
theorem Dw.symm {n : Int} {T U : Tld} {w : Str} {r : Option Int} (h : Dw n T U w r) : Dw n U T w r := by
  obtain ⟨t, mt, u, mu, e1, e2, h⟩ := h
  exact ⟨u, mu, t, mt, e2, e1, h.symm⟩
theorem Dw.perm {n : Int} {T U T' U' : Tld} (hT : T'.Perm T) (hU : U'.Perm U) {w : Str} {r : Option Int} (h : Dw n T' U' w r) : Dw n T U w r := by
  obtain ⟨t, mt, u, mu, e1, e2, h⟩ := h
  exact ⟨t, hT.mem_iff.mp mt, u, hU.mem_iff.mp mu, e1, e2, h⟩
theorem dw_list {n : Int} {T U : Tld} (hT : (T.map (·.1)).Nodup) (hU : (U.map (·.1)).Nodup) : ∀ {l m : List (Str × Option Int)}, l.map (·.1) = m.map (·.1) → (∀ e ∈ l, Dw n T U e.1 e.2) → (∀ e ∈ m, Dw n T U e.1 e.2) → l = m
  | [], [], _, _, _ => rfl
  | [], _ :: _, h, _, _ => by cases h
  | _ :: _, [], h, _, _ => by cases h
  | a :: l, b :: m, h, hl, hm => by
    injection h with h1 h2
    have h1 : a.1 = b.1 := h1
    have k1 := hl a List.mem_cons_self
    have k2 := hm b List.mem_cons_self
    rw [h1] at k1
    have e : a.2 = b.2 := k1.fn hT hU k2
    have ea : a = b := by cases a; cases b; cases h1; cases e; rfl
    rw [ea, dw_list hT hU h2 (fun e he => hl e (List.mem_cons_of_mem _ he)) (fun e he => hm e (List.mem_cons_of_mem _ he))]
theorem foldl_some : ∀ (l : List (Str × Option Int)) (f g : Dif), l.foldl lstep f = g → (g = f ∧ (f = none → ∀ e ∈ l, e.2 = none)) ∨ ∃ e ∈ l, ∃ x, e.2 = some x ∧ g = some (x, e.1)
  | [], f, g, h => .inl ⟨h.symm, fun _ _ z => nomatch z⟩
  | a :: l, f, g, h => by
    have h : l.foldl lstep (lstep f a) = g := h
    rcases foldl_some l _ g h with ⟨e1, e2⟩ | ⟨e, me, x, h1, h2⟩
    · cases ha : a.2 with
      | none =>
        have e3 : lstep f a = f := by unfold lstep; rw [ha]
        rw [e3] at e1 e2
        exact .inl ⟨e1, fun z e he => by
          rcases List.mem_cons.mp he with k | k
          · rw [k]; exact ha
          · exact e2 z e k⟩
      | some x =>
        cases f with
        | none =>
          refine .inr ⟨a, List.mem_cons_self, x, ha, ?_⟩
          rw [e1]; unfold lstep; rw [ha]
        | some g0 =>
          by_cases c : x < g0.1
          · refine .inr ⟨a, List.mem_cons_self, x, ha, ?_⟩
            rw [e1]; unfold lstep; rw [ha]; exact if_pos c
          · refine .inl ⟨?_, fun z => nomatch z⟩
            rw [e1]; unfold lstep; rw [ha]; exact if_neg c
    · exact .inr ⟨e, List.mem_cons_of_mem _ me, x, h1, h2⟩
theorem least_none {l : List (Str × Option Int)} (h : least l = none) : ∀ e ∈ l, e.2 = none := by
  rcases foldl_some l none none h with ⟨_, e2⟩ | ⟨e, me, x, h1, h2⟩
  · exact e2 rfl
  · cases h2
theorem least_some {l : List (Str × Option Int)} {g : Int × Str} (h : least l = some g) : ∃ e ∈ l, e.1 = g.2 ∧ e.2 = some g.1 := by
  rcases foldl_some l none (some g) h with ⟨e1, _⟩ | ⟨e, me, x, h1, h2⟩
  · cases e1
  · cases h2; exact ⟨e, me, rfl, h1⟩
theorem least_nil : ∀ {l : List (Str × Option Int)}, (∀ e ∈ l, e.2 = none) → least l = none := fun {l} h => by
  cases hl : least l with
  | none => rfl
  | some g =>
    obtain ⟨e, me, _, h2⟩ := least_some hl
    rw [h e me] at h2
    cases h2
theorem dEq_least {n : Int} {T U : Tld} (hT : Told n T) (hU : Told n U) (e : U.map (·.1) = T.map (·.1)) {l : List (Str × Option Int)} (hl : l.map (·.1) = T.map (·.1)) (h : ∀ e ∈ l, Dw n T U e.1 e.2) : dEq (oneT T) (oneT U) = decide (least l = none) := by
  cases hg : least l with
  | none =>
    rw [decide_eq_true rfl]
    refine dEq_same hT hU (by rw [e]) fun t mt u mu et z z0 z1 => ?_
    obtain ⟨x, mx, ex⟩ := List.mem_map.mp (show t.1 ∈ l.map (·.1) by rw [hl]; exact List.mem_map.mpr ⟨t, mt, rfl⟩)
    have d := h x mx
    rw [least_none hg x mx, ex] at d
    obtain ⟨t', mt', u', mu', e1, e2, d⟩ := d
    obtain rfl : t' = t := nodup_fst hT.nd mt' mt e1
    obtain rfl : u' = u := nodup_fst hU.nd mu' mu (e2.trans et)
    exact d z z0 z1
  | some g =>
    rw [decide_eq_false (fun z => nomatch z)]
    obtain ⟨x, mx, ex, ev⟩ := least_some hg
    have d := h x mx
    rw [ev] at d
    obtain ⟨t', mt', u', mu', e1, e2, d⟩ := d
    exact dEq_diff hT hU mt' mu' (e1.trans e2.symm) d.1 d.2.1 d.2.2.1
/-! ### a difference as a value compared -/
def difD : Dif → PyData
  | none => .none
  | some g => .tuple [.int g.1, .str g.2]
theorem DifV.dp {K : PySem.W.Frag} {H : Hp} {v : V} {g : Dif} (h : DifV H v g) : Dp K H v (difD g) := by
  cases g with
  | none => have e : v = .non := h; rw [e]; exact .non
  | some g => obtain ⟨t, rfl, h⟩ := h; exact .tup (.inl (.inl h)) (.cons (.int _) (.cons (.str _) .nil))
theorem difD_ok {g : Dif} (h : ∀ z, g = some z → SmallS z.2) : SeqAt.shaped (difD g) = true ∧ PyData.eqv (difD g) (difD g) = true := by
  cases g with
  | none => exact ⟨rfl, rfl⟩
  | some z =>
    have l : PyData.canLayAll0 [PyData.int z.1, PyData.str z.2] = true := by
      have := strs_ok (ws := [z.2]) (fun w hw => by rw [List.mem_singleton.mp hw]; exact h z rfl)
      show (true && PyData.canLayAll0 [PyData.str z.2]) = true
      rw [Bool.true_and]; exact this
    refine ⟨?_, SeqAt.eqv_refl _ l⟩
    unfold SeqAt.shaped
    rw [Bool.and_eq_true]
    exact ⟨l, rfl⟩
/-! ### the words of a turn -/
theorem cut_list (a b c d : V) (e : Int) (h : e = 0 ∨ e = 1) : cutV [a, b, c, d] none (some (2 + e)) = if e = 0 then [a, b] else [a, b, c] := by
  rcases h with rfl | rfl <;> rfl
theorem cut_list1 (a b c d : V) : cutV [a, b, c, d] (some 1) none = [b, c, d] := rfl
theorem putK_last {kvs : List (Key × V)} {k : Key} {v u : V} (h : valV kvs k = none) : putK (kvs ++ [(k, v)]) k u = kvs ++ [(k, u)] := by
  have hk : k ∉ kvs.map (·.1) := valV_not h
  unfold putK
  rw [if_pos (by simp)]
  rw [List.map_append]
  congr 1
  · conv => rhs; rw [← List.map_id kvs]
    refine List.map_congr_left fun e he => ?_
    rw [if_neg (fun c => hk (List.mem_map.mpr ⟨e, he, c⟩))]
    rfl
  · simp
end OR

namespace OR
open PySem PySem.Spec PyProof.Rows L2
section
variable {P : Program} {w : World} {K : PySem.W.Frag} {mg : Str → Option Value} {base : Heap} {CG CL CO CF CP : Addr}
theorem scLaw : FnScope ["_law_script", "_law_pen_here", "_law_turn", "_law_words_here", "_law_last_here", "_law_own", "_law_told_here", "_law_second", "_law_word", "_law_again", "_law_one", "_law_two", "_law_due_here", "_law_wide", "_law_small", "_law_large"] ["_law_script"] (defScope sLaw) := ⟨rfl, rfl, rfl, by decide +kernel, rfl, by decide +kernel, by decide +kernel⟩
/-- what is known of a turn once the two programs are made -/
structure Sit (CG CL p wl ow d1 d2 y1 y2 : Addr) (ws own : List Str) (last : Int) (T U T1 T2 : Tld) (kv1 kv2 : List (Key × V)) (k : Nat) (G : Hp) : Prop where
  wl : G wl = some (.lst (ws.map V.str))
  ow : G ow = some (.lst (own.map V.str))
  h1 : G d1 = some (.dK kv1)
  h2 : G d2 = some (.dK kv2)
  e1 : All2 (EntL G) kv1 T
  e2 : All2 (EntL G) kv2 U
  g1 : IsG CG CL G y1 last (oneT T1)
  g2 : IsG CG CL G y2 last (oneT T2)
  pen : Pen G p k
theorem Sit.frm {CG CL p wl ow d1 d2 y1 y2 : Addr} {ws own : List Str} {last : Int} {T U T1 T2 : Tld} {kv1 kv2 : List (Key × V)} {k k' : Nat} {G G' : Hp} (h : Sit CG CL p wl ow d1 d2 y1 y2 ws own last T U T1 T2 kv1 kv2 k G) (n1 : d1 ≠ p) (n2 : d2 ≠ p) (F : Frm p G G') (P : Pen G' p k') : Sit CG CL p wl ow d1 d2 y1 y2 ws own last T U T1 T2 kv1 kv2 k' G' :=
  ⟨F.lst h.pen h.wl, F.lst h.pen h.ow, F _ _ h.h1 n1, F _ _ h.h2 n2, h.e1.imp fun _ _ e => e.frm F h.pen, h.e2.imp fun _ _ e => e.frm F h.pen, h.g1.frm F h.pen, h.g2.frm F h.pen, P⟩
theorem Sit.same {CG CL p wl ow d1 d2 y1 y2 : Addr} {ws own : List Str} {last : Int} {T U T1 T2 : Tld} {kv1 kv2 : List (Key × V)} {k : Nat} {G G' : Hp} (h : Sit CG CL p wl ow d1 d2 y1 y2 ws own last T U T1 T2 kv1 kv2 k G) (s : Same G G') : Sit CG CL p wl ow d1 d2 y1 y2 ws own last T U T1 T2 kv1 kv2 k G' :=
  ⟨s _ _ h.wl, s _ _ h.ow, s _ _ h.h1, s _ _ h.h2, h.e1.imp fun _ _ e => e.same s, h.e2.imp fun _ _ e => e.same s, h.g1.same s, h.g2.same s, h.pen.same' s⟩
theorem fds {H : Hp} {x y : Addr} {n : Int} {T U : Tld} {Q : VK} {E : XK} (hx : IsG CG CL H x n (oneT T)) (hy : IsG CG CL H y n (oneT U)) (hT : Told n T) (hU : Told n U) (lT : ∀ e ∈ T, e.2.length ≤ 400) (lU : ∀ e ∈ U, e.2.length ≤ 400) (e : U.map (·.1) = T.map (·.1)) (q : ∀ l v H', l.map (·.1) = T.map (·.1) → (∀ e ∈ l, Dw n T U e.1 e.2) → DifV H' v (least l) → Same H H' → Q v H') : spFd CG CL CO [.ref x, .ref y] H Q E :=
  ⟨x, y, n, n, T, U, rfl, hx, hy, hT, hU, lT, lU, fun h => absurd ⟨rfl, e⟩ h, fun _ => q⟩
theorem own_ok {w0 w1 w2 w3 : Str} {own : List Str} (wws : ∀ w ∈ [w0, w1, w2, w3], Word w) (dws : List.Pairwise (· ≠ ·) [w0, w1, w2, w3]) (hown : own = [w0, w1] ∨ own = [w0, w1, w2]) : own.Nodup ∧ (∀ w ∈ own, Word w) ∧ own.length ≤ 3 ∧ (∃ r, own = w0 :: r) ∧ w3 ∉ own := by
  simp only [List.pairwise_cons, List.mem_cons, List.not_mem_nil, or_false, forall_eq_or_imp, forall_eq, List.Pairwise.nil, and_true] at dws wws
  obtain ⟨⟨a1, a2, a3⟩, ⟨b2, b3⟩, c3, _⟩ := dws
  obtain ⟨h0, h1, h2, h3⟩ := wws
  have c3' : ¬ w3 = w2 := fun e => absurd e.symm (by simpa using c3)
  rcases hown with rfl | rfl
  · exact ⟨by simp [a1], by simp [h0, h1], by simp, ⟨_, rfl⟩, by simp [Ne.symm a3, Ne.symm b3]⟩
  · exact ⟨by simp [a1, a2, b2], by simp [h0, h1, h2], by simp, ⟨_, rfl⟩, by simp [Ne.symm a3, Ne.symm b3, c3']⟩
theorem dw_self {n : Int} {T : Tld} (hT : (T.map (·.1)).Nodup) {l : List (Str × Option Int)} (h : ∀ e ∈ l, Dw n T T e.1 e.2) : ∀ e ∈ l, e.2 = none := fun e he => by
  obtain ⟨t, mt, u, mu, e1, e2, d⟩ := h e he
  obtain rfl : t = u := nodup_fst hT mt mu (e1.trans e2.symm)
  cases hx : e.2 with
  | none => rfl
  | some x => rw [hx] at d; exact absurd rfl d.2.2.1
theorem difV_non {H : Hp} {v : V} {g : Dif} (h : DifV H v g) : decide (v = .non) = decide (g = none) := by
  cases g with
  | none => have e : v = .non := h; rw [e]; rfl
  | some g => obtain ⟨t, rfl, _⟩ := h; rw [decide_eq_false (fun z => nomatch z), decide_eq_false (fun z => nomatch z)]
theorem scal_o (a b : Option Int) : scal (oVal a) (oVal b) = true := by cases a <;> cases b <;> rfl
theorem oVal_ne {a b : Option Int} (h : a ≠ b) : ¬ oVal a = oVal b := by
  cases a <;> cases b
  · exact absurd rfl h
  · exact fun z => nomatch z
  · exact fun z => nomatch z
  · exact fun z => h (by injection z with z; rw [z])
set_option maxHeartbeats 8000000 in
theorem ok_law {f : Addr} {fd : FuncData} (F : Fun K "law" "law" sLaw f fd) (B : Bd mg) (GT : GTxt K mg CG) (gi : SlX.SIsi K CG) (nf : PySem.W.notFirst K CG (.ref CG) = true) (gne : PySem.W.findIn K (.ref CG) "__ne__" = some (some (.builtin "object.__ne__"))) (gm : PySem.W.mroIn K CG (.type "object") = some true)
    (GE : Md P w K mg base 5 CG "__eq__" (spGEq K CG CL)) (GC : CoX P w K mg base 4 CG ["self", "function", "x"] (spGCall CG CL CF CP))
    (N : Cl P w K mg base 1 "_law_pen" ["_law_script"] (spPen K)) (D : Cl P w K mg base 1 "_law_draw" ["_law_pen_here", "_law_many"] spDraw) (WD : Cl P w K mg base 3 "_law_words" ["_law_pen_here", "_law_many"] spWords) (LA : Cl P w K mg base 3 "_law_last" ["_law_pen_here"] spLastP)
    (TO : Cl P w K mg base 5 "_law_told" ["_law_pen_here", "_law_words_here", "_law_last_here"] (spToldL K)) (BE : Cl P w K mg base 5 "_law_bent" ["_law_pen_here", "_law_rows_here", "_law_last_here"] spBent) (PR : Cl P w K mg base 8 "_law_program" ["_law_last_here", "_law_told_here"] (spPrg CG CL))
    (DU : Cl P w K mg base 4 "_law_due" ["_law_told_here", "_law_second", "_law_last_here"] spDue) (FD : ClX P w K mg base 5 "first_difference" ["one", "other"] (spFd CG CL CO)) (RF : Cl P w K mg base 6 "_law_is_refused" ["_law_one", "_law_other"] (spRfd CG CL)) (AP : Cl P w K mg base 9 "_law_are_apart" ["_law_last_here", "_law_rows_here", "_law_words_here"] spApart) :
    FnG P w K mg base 10 f fd ["_law_script"] (spLaw K) := by
  refine okG F scLaw (fun vs H Q E h => ?_) (fun cdv A outer s H vs Q E gd hr h => ?_)
  · obtain ⟨a, ns, rfl, _⟩ := h
    rfl
  · obtain ⟨sc, ns, rfl, hS, hlen, q⟩ := h
    have nd := scLaw.nd
    have hu := hu_of hr
    have hu64 : (A.deeper (envOfC "law" (defScope sLaw) s.heap.objs.size f cdv)).units + 64 < cLine := hr.units
    refine ⟨_, pss_cons (ps_set (i := 1) nd rfl (.inl rfl) (pe_cl N hr (by decide) (by rfl) (pa_cons (pv 0) pa_nil)))
      (pss_cons (ps_for PassesOwn.never rfl (pi_range1 (by rfl) B.range (pa_cons (pe_op op_add pe_int (pe_callB (call_min2 rfl) (by rfl) B.min bt_min (pa_cons pe_int (pa_cons (pe_callB call_len_seq (by rfl) B.len PySem.boot_len (pa_cons (pv 0) pa_nil)) pa_nil)))) pa_nil)) (pg_name (i := 2) nd rfl (.inl rfl))
          (pss_cons (ps_par (i := 3) (j := 4) rfl nd rfl rfl (by decide) rfl rfl (pa_cons (pe_cl WD hr (by decide) (by rfl) (pa_cons (pv 1) (pa_cons pe_int pa_nil))) (pa_cons (pe_cl LA hr (by decide) (by rfl) (pa_cons (pv 1) pa_nil)) pa_nil)) rfl)
          (Evl.pss_cut (ps_set (i := 5) nd rfl (.inl rfl) (pe_slice sl_list (pv 3) po_none (po_some (pe_op op_add pe_int (pe_cl D hr (by decide) (by rfl) (pa_cons (pv 1) (pa_cons pe_int pa_nil)))))))
          (pss_cons (ps_par (i := 6) (j := 7) rfl nd rfl rfl (by decide) rfl rfl (pa_cons (pe_cl TO hr (by decide) (by rfl) (pa_cons (pv 1) (pa_cons (pv 5) (pa_cons (pv 4) pa_nil)))) (pa_cons pe_dnewK pa_nil)) rfl)
          (pss_cons (ps_for PassesOwn.never rfl (pi_list (pv 5)) (pg_name (i := 8) nd rfl (.inl rfl))
              (pss_cons (ps_dput hu (pv 7) (pv 8) (pe_dget hu (pv 6) (pv 8) (fun _ _ => rfl)) rfl)
              (pss_one (ps_for PassesOwn.never rfl (pi_range1 (by rfl) B.range (pa_cons (pe_cl D hr (by decide) (by rfl) (pa_cons (pv 1) (pa_cons pe_int pa_nil))) pa_nil)) (pg_name (i := 9) nd rfl (.inl rfl))
                  (pss_one (ps_dput hu (pv 7) (pv 8) (pe_cl BE hr (by decide) (by rfl) (pa_cons (pv 1) (pa_cons (pe_dget hu (pv 7) (pv 8) (fun _ _ => rfl)) (pa_cons (pv 4) pa_nil)))) rfl))))))
          (pss_cons (ps_par (i := 10) (j := 11) rfl nd rfl rfl (by decide) rfl rfl (pa_cons (pe_cl PR hr (by decide) (by rfl) (pa_cons (pv 4) (pa_cons (pv 6) pa_nil))) (pa_cons (pe_cl PR hr (by decide) (by rfl) (pa_cons (pv 4) (pa_cons (pv 7) pa_nil))) pa_nil)) rfl)
          (pss_cons (ps_set (i := 12) nd rfl (.inl rfl) (pe_cl DU hr (by decide) (by rfl) (pa_cons (pv 6) (pa_cons (pv 7) (pa_cons (pv 4) pa_nil)))))
          (pss_cons (ps_if (PW.pt (pw_or (pt_cmpR (op_neDK K rfl hu64) (pe_clX (W := fun _ _ _ _ => False) FD hr (by decide) (by rfl) takes0 (pa_cons (pv 10) (pa_cons (pv 11) pa_nil))) (pv 12) (nomark _)) (pw_or (pt_cmpR (op_neDK K rfl hu64) (pe_clX (W := fun _ _ _ _ => False) FD hr (by decide) (by rfl) takes0 (pa_cons (pv 11) (pa_cons (pv 10) pa_nil))) (pv 12) (nomark _)) (pw_or1 (pt_cmpR op_ne (pe_cmpR (op_eqO K rfl GE (hr.mono (by decide))) (pv 10) (pv 11) (by rfl)) (pe_cmpR op_isN (pv 12) pe_non (by rfl)) (nomark _))))))
              (pss_one (ps_ret pe_bl))
              pss_nil)
          (pss_cons (ps_if (PW.pt (pw_or (pt_cmp (pc_notN (pe_clX (W := fun _ _ _ _ => False) FD hr (by decide) (by rfl) takes0 (pa_cons (pv 10) (pa_cons (pv 10) pa_nil))))) (pw_or1 (pt_cmp (pc_notN (pe_clX (W := fun _ _ _ _ => False) FD hr (by decide) (by rfl) takes0 (pa_cons (pv 10) (pa_cons (pe_cl PR hr (by decide) (by rfl) (pa_cons (pv 4) (pa_cons (pv 6) pa_nil))) pa_nil))))))))
              (pss_one (ps_ret pe_bl))
              pss_nil)
          (Evl.pss_cut (ps_if (PW.pt (pw_and (pt_cmp (pc_notN (pv 12))) (pw_and1 (pt_cmpR op_eq (pe_coX (W := fun _ _ _ _ => False) GC hr (by decide) takes0 (pv 10) (pa_cons (pe_ix (ix_tupK K rfl) (pv 12) pe_int (fun _ _ => rfl)) (pa_cons (pe_ix (ix_tupK K rfl) (pv 12) pe_int (fun _ _ => rfl)) pa_nil))) (pe_coX (W := fun _ _ _ _ => False) GC hr (by decide) takes0 (pv 11) (pa_cons (pe_ix (ix_tupK K rfl) (pv 12) pe_int (fun _ _ => rfl)) (pa_cons (pe_ix (ix_tupK K rfl) (pv 12) pe_int (fun _ _ => rfl)) pa_nil))) (nomark _)))))
              (pss_one (ps_ret pe_bl))
              pss_nil)
          (pss_cons (ps_set (i := 13) nd rfl (.inl rfl) (pe_cl PR hr (by decide) (by rfl) (pa_cons (pv 4) (pa_cons (pe_cl TO hr (by decide) (by rfl) (pa_cons (pv 1) (pa_cons (pe_slice sl_list (pv 3) (po_some pe_int) po_none) (pa_cons (pv 4) pa_nil)))) pa_nil))))
          (pss_cons (ps_if (PW.pt (pw_or (pt_not (pt_val (pe_cl RF hr (by decide) (by rfl) (pa_cons (pv 10) (pa_cons (pv 13) pa_nil))))) (pw_or (pt_not (pt_val (pe_cl RF hr (by decide) (by rfl) (pa_cons (pv 13) (pa_cons (pv 10) pa_nil))))) (pw_or (pt_cmpR (op_eqO K rfl GE (hr.mono (by decide))) (pv 10) (pv 13) (nomark _)) (pw_or1 (pt_not (pt_cmpR (op_neO K rfl GE gne gm (hr.mono (by decide))) (pv 13) (pv 10) (nomark _))))))))
              (pss_one (ps_ret pe_bl))
              pss_nil)
          (pss_cons (ps_set (i := 14) nd rfl (.inl rfl) (pe_cl PR hr (by decide) (by rfl) (pa_cons pe_int (pa_cons (pe_cl TO hr (by decide) (by rfl) (pa_cons (pv 1) (pa_cons (pv 5) (pa_cons pe_int pa_nil)))) pa_nil))))
          (pss_cons (ps_set (i := 15) nd rfl (.inl rfl) (pe_cl PR hr (by decide) (by rfl) (pa_cons pe_int (pa_cons (pe_cl TO hr (by decide) (by rfl) (pa_cons (pv 1) (pa_cons (pv 5) (pa_cons pe_int pa_nil)))) pa_nil))))
          (pss_cons (ps_if (PW.pt (pw_or (pt_not (pt_val (pe_cl RF hr (by decide) (by rfl) (pa_cons (pv 14) (pa_cons (pv 15) pa_nil))))) (pw_or (pt_cmpR (op_eqO K rfl GE (hr.mono (by decide))) (pv 14) (pv 15) (nomark _)) (pw_or1 (pt_not (pt_cmpR (op_neO K rfl GE gne gm (hr.mono (by decide))) (pv 15) (pv 14) (nomark _)))))))
              (pss_one (ps_ret pe_bl))
              pss_nil)
          (pss_one (ps_if (pt_not (pt_val (pe_cl AP hr (by decide) (by rfl) (pa_cons (pv 4) (pa_cons (pe_dget hu (pv 6) (pe_ix (ix_listK K rfl) (pv 5) pe_int (fun _ _ => rfl)) (fun _ _ => rfl)) (pa_cons (pv 3) pa_nil))))))
              (pss_one (ps_ret pe_bl))
              pss_nil)))))))))))))))))
      (pss_one (ps_ret pe_bl))), ?_⟩
    refine ⟨_, rfl, sc, ns, rfl, hS, hlen, fun p H1 np P0 S0 => ?_⟩
    generalize hJ : (3 : Int) + (if ((ns.map V.int).length : Int) < 3 then ((ns.map V.int).length : Int) else 3) = J
    have hJb : 0 ≤ J ∧ J ≤ 6 := by
      subst hJ
      split <;> omega
    let S : Option V → Option V → Option V → Option V → Option V → Option V → Option V → Option V → Option V → Option V → Option V → Option V → Option V → Option V → L2.St := fun s2 s3 s4 s5 s6 s7 s8 s9 s10 s11 s12 s13 s14 s15 => [some (.ref sc), some (.ref p), s2, s3, s4, s5, s6, s7, s8, s9, s10, s11, s12, s13, s14, s15]
    refine ⟨_, rfl, sc, _, rfl, .inl (S0.seq hS), 3, _, rfl, _, _, rfl, rfl, J, congrArg (fun z => [V.int z]) hJ, by omega, by omega, for_range (n := J.toNat) (fun i σ H2 => (∃ s2 s3 s4 s5 s6 s7 s8 s9 s10 s11 s12 s13 s14 s15, σ = S s2 s3 s4 s5 s6 s7 s8 s9 s10 s11 s12 s13 s14 s15) ∧ Pen H2 p (3000 * i))
      ⟨⟨none, none, none, none, none, none, none, none, none, none, none, none, none, none, rfl⟩, P0⟩ ?_ ?_⟩
    · rintro i σ H2 hi ⟨⟨s2, s3, s4, s5, s6, s7, s8, s9, s10, s11, s12, s13, s14, s15, rfl⟩, P1⟩
      have hi6 : i < 6 := by omega
      -- the words, the last place
      refine ⟨_, rfl, p, 4, _, rfl, by decide, P1, by omega, fun wl ws H3 nwl hwl lws wws dws P3 F3 => ?_⟩
      refine ⟨_, rfl, p, _, rfl, P3, by omega, fun last H4 hla P4 F4 => ⟨_, _, rfl, ?_⟩⟩
      have hwl4 := F4.lst P3 hwl
      clear F3 F4 P3 P1 hwl nwl
      obtain ⟨w0, w1, w2, w3, rfl⟩ : ∃ w0 w1 w2 w3, ws = [w0, w1, w2, w3] := by
        match ws, lws with
        | [a, b, c, d], _ => exact ⟨a, b, c, d, rfl⟩
      have l0 := hla.1
      -- their own words
      refine ⟨fun σ G => ∃ (ow : Addr) (own : List Str), σ = S (some (.int (0 + (i : Int)))) (some (.ref wl)) (some (.int last)) (some (.ref ow)) s6 s7 s8 s9 s10 s11 s12 s13 s14 s15 ∧ G wl = some (.lst ([w0, w1, w2, w3].map V.str)) ∧ G ow = some (.lst (own.map V.str)) ∧ (own = [w0, w1] ∨ own = [w0, w1, w2]) ∧ Pen G p (3000 * i + 40), ?_, ?_⟩
      · refine ⟨_, rfl, _, rfl, p, 2, _, rfl, by decide, by decide, P4, by omega, fun e H5 e0 e1 P5 F5 => ?_⟩
        have he : e = 0 ∨ e = 1 := by omega
        refine ⟨_, _, rfl, rfl, 2 + e, rfl, wl, _, rfl, .inl (.inl (F5.lst P4 hwl4)), fun ow now => ?_⟩
        have s6' := same_lay (o := .lst (cutV ([w0, w1, w2, w3].map V.str) none (some (2 + e)))) now
        refine ⟨ow, if e = 0 then [w0, w1] else [w0, w1, w2], rfl, s6' _ _ (F5.lst P4 hwl4), ?_, ?_, (P5.new now).mono (by omega)⟩
        · rw [upd_same]
          show some (HO.lst (cutV [V.str w0, .str w1, .str w2, .str w3] none (some (2 + e)))) = _
          rw [cut_list _ _ _ _ e he]
          split <;> rfl
        · split
          · exact .inl rfl
          · exact .inr rfl
      rintro σ G ⟨ow, own, rfl, hwl5, how5, hown, P5⟩
      clear P4 hwl4
      have eown : own.Nodup ∧ (∀ w ∈ own, Word w) ∧ own.length ≤ 3 ∧ (∃ r, own = w0 :: r) ∧ w3 ∉ own := own_ok wws dws hown
      obtain ⟨nown, wown, lown, ⟨rown, eo⟩, n3⟩ := eown
      -- told
      refine ⟨_, rfl, _, rfl, _, rfl, p, ow, own, last, _, rfl, .inl (.inl how5), lown, wown, nown, hla, P5, by omega, fun d1 kv1 T H6 nd1 h1 hE1 eT RT P6 F6 => ?_⟩
      have hwl6 := F6.lst P5 hwl5
      have how6 := F6.lst P5 how5
      have n1 : d1 ≠ p := fun e => by
        obtain ⟨_, hp⟩ := P5.dict
        rw [← e, nd1] at hp
        cases hp
      clear F6 P5 hwl5 how5 nd1
      refine fun d2 nd2 => ⟨_, _, rfl, ?_⟩
      have n2 : d2 ≠ p := fun e => by
        obtain ⟨_, hp⟩ := P6.dict
        rw [← e, nd2] at hp
        cases hp
      have s0 := same_lay (o := .dK []) nd2
      -- the second
      refine ⟨_, rfl, ow, rfl, ⟨_, .inl (.inl (s0 _ _ how6))⟩, for_list (K := K) (a := ow) (xs := own.map V.str) (fun j σ G => ∃ s8 s9 kv2 U, σ = S (some (.int (0 + (i : Int)))) (some (.ref wl)) (some (.int last)) (some (.ref ow)) (some (.ref d1)) (some (.ref d2)) s8 s9 s10 s11 s12 s13 s14 s15 ∧ G d2 = some (.dK kv2) ∧ All2 (EntL G) kv2 U ∧ U.map (·.1) = own.take j ∧ (∀ e ∈ U, Word e.1 ∧ Til e.2 0 (last + 1) ∧ (∀ q ∈ e.2, Hq 3 q) ∧ e.2.length ≤ 27) ∧ Pen G p (3000 * i + 440 + 110 * j) ∧ Frm p H6 G)
        ⟨s8, s9, [], [], rfl, upd_same, .nil, rfl, (fun _ z => nomatch z), (P6.same' s0).mono (by omega), frmS s0⟩ (fun i σ G _ ⟨_, _, _, _, _, _, _, _, _, _, FG⟩ => .inl (.inl (FG.lst P6 how6))) ?_ ?_⟩
      · rintro j v σ G hv ⟨s8, s9, kv2, U, rfl, hk, hE2, eU, hU, PG, FG⟩
        rw [List.getElem?_map] at hv
        obtain ⟨x, hx, rfl⟩ := Option.map_eq_some_iff.mp hv
        have hj := (List.getElem?_eq_some_iff.mp hx).1
        have mx := List.mem_of_getElem? hx
        obtain ⟨t, mt, et⟩ := List.mem_map.mp (show x ∈ T.map (·.1) by rw [eT]; exact mx)
        obtain ⟨et0, _, ⟨_, ra, xs, ea, hra, hR⟩, hv1⟩ := val_ent (fun _ _ h => h.1) hE1 RT.nd mt
        rw [ea, et] at hv1
        obtain ⟨w1', w2', w3', w4'⟩ := RT.ok t mt
        have hno : x ∉ U.map (·.1) := by
          rw [eU]
          intro m
          have e1 : own = own.take j ++ own.drop j := (List.take_append_drop j own).symm
          have nown := nown
          rw [e1, List.nodup_append] at nown
          refine nown.2.2 _ m _ ?_ rfl
          rw [← (List.getElem?_eq_some_iff.mp hx).2, ← List.getElem_cons_drop hj]
          exact List.mem_cons_self
        have hne := val_none (fun _ _ h => h.1) hE2 hno
        have lk := hE2.length
        have lU : U.length = j := by
          have := congrArg List.length eU
          rw [List.length_map, List.length_take] at this
          omega
        have s1 := FG
        refine ⟨_, rfl, _, rfl, d1, _, rfl, dg (FG _ _ h1 n1) hv1, _, rfl, _, rfl, d2, _, rfl, DPut.k (k := .inr x) hk (small1000 (by omega)), ?_⟩
        have nE : ∀ {b : Addr} {o : HO}, G b = some o → (∀ kvs, o ≠ .dK kvs) → b ≠ d2 := fun e h => ne_of e hk (h kv2)
        have hG2 : (upd G d2 (.dK (putK kv2 (.inr x) (.ref ra)))) d2 = some (.dK (kv2 ++ [(.inr x, .ref ra)])) := by rw [upd_same, putK_new _ hne]
        have hra2 : (upd G d2 (.dK (putK kv2 (.inr x) (.ref ra)))) ra = some (.lst xs) := by rw [upd_ne (ne_of (FG.lst P6 hra) hk (by intro z; cases z))]; exact FG.lst P6 hra
        have hR2 : All2 (RwT (upd G d2 (.dK (putK kv2 (.inr x) (.ref ra))))) xs t.2 := hR.imp fun _ _ h => (h.kp (kp_frm FG P6)).kp (kp_dk hk)
        have hE22 : All2 (EntL (upd G d2 (.dK (putK kv2 (.inr x) (.ref ra))))) kv2 U := hE2.imp fun _ _ h => h.putD hk
        have PG2 : Pen (upd G d2 (.dK (putK kv2 (.inr x) (.ref ra)))) p (3000 * i + 440 + 110 * j) := PG.putD hk n2
        have FG2 : Frm p H6 (upd G d2 (.dK (putK kv2 (.inr x) (.ref ra)))) := FG.putAny P6 nd2
        generalize upd G d2 (.dK (putK kv2 (.inr x) (.ref ra))) = G2 at hG2 hra2 hR2 hE22 PG2 FG2
        clear nE s1 hk hE2 PG FG hra hR hv1
        refine ⟨_, rfl, p, 3, _, rfl, by decide, by decide, PG2, by omega, fun m G3 m0 m1 P3 F3 => ⟨m, rfl, by omega, by omega, for_range (n := m.toNat) (fun jj σ G => ∃ s9 z ys L, σ = S (some (.int (0 + (i : Int)))) (some (.ref wl)) (some (.int last)) (some (.ref ow)) (some (.ref d1)) (some (.ref d2)) (some (.str x)) s9 s10 s11 s12 s13 s14 s15 ∧ G d2 = some (.dK (kv2 ++ [(.inr x, .ref z)])) ∧ G z = some (.lst ys) ∧ All2 (RwT G) ys L ∧ Til L 0 (last + 1) ∧ (∀ q ∈ L, Hq (1 + jj) q) ∧ L.length + 1 ≤ 7 * 2 ^ jj ∧ All2 (EntL G) kv2 U ∧ Pen G p (3000 * i + 440 + 110 * j + 1 + 50 * jj) ∧ Frm p H6 G)
          ⟨s9, ra, xs, t.2, rfl, F3 _ _ hG2 n2, F3.lst PG2 hra2, hR2.imp (fun _ _ h => h.kp (kp_frm F3 PG2)), w2', w3', by omega, hE22.imp (fun _ _ h => h.frm F3 PG2), P3.mono (by omega), FG2.trans F3⟩ ?_ ?_⟩⟩
        · rintro jj σ G hjj ⟨s9, z, ys, L, rfl, hGd, hz, hY, tL, qL, lL, hE2, PG, FG⟩
          have j2 : jj ≤ 1 := by omega
          have p2 : (2 : Nat) ^ jj ≤ 2 := by
            rcases (by omega : jj = 0 ∨ jj = 1) with rfl | rfl <;> decide
          refine ⟨_, rfl, _, rfl, _, rfl, d2, _, rfl, dg hGd (by rw [valV_snoc _ _ _ _ hne, if_pos rfl]), _, rfl, p, z, ys, L, last, _, 1 + jj, rfl, hz, hY, tL, qL, by omega, by omega, hla, PG, by omega, fun b ys' M G' nb hb hM tM qM lM P' F' => ?_⟩
          have hGd' := F' _ _ hGd n2
          refine ⟨_, rfl, _, rfl, d2, _, rfl, DPut.k (k := .inr x) hGd' (small1000 (by rw [List.length_append]; show kv2.length + 1 ≤ 1000; omega)), ?_⟩
          refine ⟨_, b, ys', M, rfl, by rw [upd_same, putK_last hne], by rw [upd_ne (ne_of hb hGd' (by intro z; cases z))]; exact hb, hM.imp (fun _ _ h => h.kp (kp_dk hGd')), tM, qM, by rw [Nat.pow_succ]; omega, hE2.imp (fun _ _ h => (h.frm F' PG).putD hGd'), (P'.putD hGd' n2).mono (by omega), (FG.trans F').putAny P6 nd2⟩
        · rintro σ G ⟨s9, z, ys, L, rfl, hGd, hz, hY, tL, qL, lL, hE2, PG, FG⟩
          have p2 : (2 : Nat) ^ m.toNat ≤ 4 := by
            rcases (by omega : m.toNat = 0 ∨ m.toNat = 1 ∨ m.toNat = 2) with e | e | e <;> rw [e] <;> decide
          refine ⟨_, _, _, U ++ [(x, L)], rfl, hGd, hE2.append (.cons ⟨rfl, z, ys, rfl, hz, hY⟩ .nil), by rw [List.map_append, eU, take_snoc hx]; rfl, fun e he => ?_, PG.mono (by omega), FG⟩
          rcases List.mem_append.mp he with k | k
          · exact hU e k
          · rw [List.mem_singleton.mp k]
            exact ⟨et ▸ w1', tL, fun q hq => (qL q hq).mono (by omega), by show L.length ≤ 27; omega⟩
      rintro σ G ⟨s8, s9, kv2, U, rfl, h2, hE2, eU, hU, PG, FG⟩
      rw [List.length_map] at eU PG
      rw [List.take_of_length_le (Nat.le_refl _)] at eU
      have RU : Rwh last 27 3 U := ⟨by rw [eU]; exact nown, by have := congrArg List.length eU; rw [List.length_map] at this; omega, hla, hU⟩
      have TT := RT.told (by decide) (by decide)
      have TU := RU.told (by decide) (by decide)
      have lT : ∀ e ∈ T, e.2.length ≤ 60 := fun e he => by have := (RT.ok e he).2.2.2; omega
      have lU : ∀ e ∈ U, e.2.length ≤ 60 := fun e he => by have := (RU.ok e he).2.2.2; omega
      have h1G := FG _ _ h1 n1
      have hE1G : All2 (EntL G) kv1 T := hE1.imp fun _ _ h => h.frm FG P6
      have hwlG := FG.lst P6 hwl6
      have howG := FG.lst P6 how6
      have PG := PG.mono (m := 3000 * i + 800) (by omega)
      clear FG P6 hwl6 how6 hE1 h1 nd2 s0
      -- the two programs
      refine ⟨_, rfl, _, rfl, d1, kv1, T, last, rfl, h1G, hE1G, TT, RT.few, lT, fun y1 H7 T1 ny1 hp1 ha1 hg1 s7' => ?_⟩
      refine ⟨_, rfl, _, rfl, d2, kv2, U, last, rfl, s7' _ _ h2, hE2.imp (fun _ _ h => h.same s7'), TU, RU.few, lU, fun y2 H8 T2 ny2 hp2 ha2 hg2 s8' => ⟨_, _, rfl, ?_⟩⟩
      have s78 := s7'.trans s8'
      have X : Sit CG CL p wl ow d1 d2 y1 y2 [w0, w1, w2, w3] own last T U T1 T2 kv1 kv2 (3000 * i + 800) H8 := ⟨s78 _ _ hwlG, s78 _ _ howG, s78 _ _ h1G, s78 _ _ h2, hE1G.imp fun _ _ h => h.same s78, hE2.imp fun _ _ h => h.same s78, hg1.same s8', hg2, PG.same' s78⟩
      clear PG hwlG howG h1G h2 hE1G hE2 hg1 hg2 s7' s8' s78 ny1 ny2
      have TT1 := TT.perm hp1
      have TU2 := TU.perm hp2
      have lT1 : ∀ e ∈ T1, e.2.length ≤ 400 := fun e he => by have := lT e (hp1.mem_iff.mp he); omega
      have lU2 : ∀ e ∈ T2, e.2.length ≤ 400 := fun e he => by have := lU e (hp2.mem_iff.mp he); omega
      have eF : U.map (·.1) = T.map (·.1) := by rw [eU, eT]
      have eF12 : T2.map (·.1) = T1.map (·.1) := asc_perm (((hp2.map _).trans (by rw [eF])).trans (hp1.map _).symm) ha2 ha1
      -- what is due
      refine ⟨_, rfl, _, rfl, _, rfl, d1, d2, kv1, kv2, T, U, last, rfl, X.h1, X.h2, X.e1, X.e2, eF, RT, RU, fun ws l v H9 hpw hasc el hl hdv s9' => ⟨_, rfl, ?_⟩⟩
      have X9 := X.same s9'
      clear X s9'
      have e1w : T1.map (·.1) = ws := asc_perm ((hp1.map _).trans hpw.symm) ha1 hasc
      have e2w : T2.map (·.1) = ws := eF12.trans e1w
      have smw : ∀ z, least l = some z → SmallS z.2 := fun z hz => by
        obtain ⟨e, me, ee, _⟩ := least_some hz
        obtain ⟨t, mt, et⟩ := List.mem_map.mp (show z.2 ∈ T.map (·.1) by rw [← ee, ← hpw.mem_iff, ← el]; exact List.mem_map.mpr ⟨e, me, rfl⟩)
        have := (RT.ok t mt).1
        rw [← et]
        exact fun c hc => by have := this.az c hc; omega
      obtain ⟨shD, eqD⟩ := difD_ok smw
      have dl := dEq_least TT1 TU2 eF12 (l := l) (el.trans e1w.symm) (fun e he => (hl e he).perm hp1.symm hp2.symm)
      -- the first differences of the two
      refine ⟨_, rfl, fds X9.g1 X9.g2 TT1 TU2 lT1 lU2 eF12 fun l1 v1 H10 el1 hl1 hv1 s10' => ?_⟩
      have X10 := X9.same s10'
      have hv := hdv.kp (kp_same s10')
      obtain rfl : l1 = l := dw_list RT.nd RU.nd (el1.trans (e1w.trans el.symm)) (fun e he => (hl1 e he).perm hp1 hp2) hl
      refine ⟨_, rfl, _, _, hv1.dp, hv.dp, shD, shD, _, rfl, iteB (by rw [eqD]; rfl) ?_⟩
      clear X9 hdv hv1 s10' hl1
      refine ⟨_, rfl, _, rfl, fds X10.g2 X10.g1 TU2 TT1 lU2 lT1 eF12.symm fun l2 v2 H11 el2 hl2 hv2 s11' => ?_⟩
      have X11 := X10.same s11'
      have hv := hv.kp (kp_same s11')
      obtain rfl : l2 = l1 := dw_list RT.nd RU.nd (el2.trans (e2w.trans el.symm)) (fun e he => (hl2 e he).symm.perm hp1 hp2) hl
      refine ⟨_, rfl, _, _, hv2.dp, hv.dp, shD, shD, _, rfl, iteB (by rw [eqD]; rfl) ?_⟩
      clear X10 hv2 s11' hl2
      refine ⟨_, rfl, _, rfl, g_eq nf gi GT X11.g1 X11.g2 fun H12 s12' => ⟨_, rfl, rfl, rfl, _, rfl, iteB (by rw [dl, decide_eq_true rfl, difV_non hv, Bool.true_and]; simp) ?_⟩⟩
      have X12 := X11.same s12'
      have hv := hv.kp (kp_same s12')
      clear X11 s12'
      -- a program and itself
      refine ⟨_, rfl, _, rfl, fds X12.g1 X12.g1 TT1 TT1 lT1 lT1 rfl fun l3 v3 H13 el3 hl3 hv3 s13' => ?_⟩
      have X13 := X12.same s13'
      have hv := hv.kp (kp_same s13')
      rw [least_nil (dw_self TT1.nd hl3)] at hv3
      obtain rfl : v3 = .non := hv3
      refine ⟨_, rfl, iteB (by simp) ?_⟩
      clear X12 s13' hl3
      refine ⟨_, rfl, _, rfl, _, rfl, d1, kv1, T, last, rfl, X13.h1, X13.e1, TT, RT.few, lT, fun y3 H14 T3 ny3 hp3 ha3 hg3 s14' => ?_⟩
      have X14 := X13.same s14'
      have hv := hv.kp (kp_same s14')
      have TT3 := TT.perm hp3
      have eF3 : T3.map (·.1) = T1.map (·.1) := asc_perm ((hp3.map _).trans (hp1.map _).symm) ha3 ha1
      refine fds X14.g1 hg3 TT1 TT3 lT1 (fun e he => by have := lT e (hp3.mem_iff.mp he); omega) eF3 fun l4 v4 H15 el4 hl4 hv4 s15' => ?_
      have X15 := X14.same s15'
      have hv := hv.kp (kp_same s15')
      rw [least_nil (dw_self TT.nd (fun e he => (hl4 e he).perm hp1 hp3))] at hv4
      obtain rfl : v4 = .non := hv4
      refine ⟨_, rfl, iteB (by simp) ?_⟩
      clear X13 X14 s14' s15' hl4 hg3 TT3 eF3 ha3 hp3 ny3
      -- a call
      refine ⟨fun σ G => σ = S (some (.int (0 + (i : Int)))) (some (.ref wl)) (some (.int last)) (some (.ref ow)) (some (.ref d1)) (some (.ref d2)) s8 s9 (some (.ref y1)) (some (.ref y2)) (some v) s13 s14 s15 ∧ Sit CG CL p wl ow d1 d2 y1 y2 [w0, w1, w2, w3] own last T U T1 T2 kv1 kv2 (3000 * i + 800) G, ?_, ?_⟩
      · cases hg : least l2 with
        | none =>
          rw [hg] at hv
          obtain rfl : v = .non := hv
          exact ⟨_, rfl, _, rfl, iteB (by simp) ⟨rfl, X15⟩⟩
        | some g =>
          rw [hg] at hv
          obtain ⟨td, rfl, htd⟩ := hv
          obtain ⟨e, me, ee, ev⟩ := least_some hg
          have d := (hl e me)
          rw [ee, ev] at d
          obtain ⟨t, mt, u, mu, et, eu, z0, z1, zn, _⟩ := d
          have mt1 := hp1.mem_iff.mpr mt
          have mu2 := hp2.mem_iff.mpr mu
          have pg : placeV last (.int g.1) = true := by
            have := hla.2
            show (placeB g.1 && decide (g.1 ≤ last)) = true
            have k1 : g.1 ≤ lastP := by show g.1 ≤ 10 ^ 30; omega
            unfold placeB
            rw [decide_eq_true z0, decide_eq_true k1, decide_eq_true (by omega)]; rfl
          have kx : ∀ {y : Addr} {M : Tld}, IsG CG CL H15 y last M → ∃ dx fs, H15 y = some (.ins CG dx fs) := fun ⟨dx, _, _, _, h, _⟩ => ⟨dx, _, h⟩
          refine ⟨_, rfl, _, rfl, iteA (by simp) ⟨_, rfl, y1, rfl, _, rfl, td, _, 1, _, rfl, rfl, .inl (.inl htd), atI_nat (j := 1) rfl, _, rfl, td, _, 0, _, rfl, rfl, .inl (.inl htd), atI_nat (j := 0) rfl, kx X15.g1, y1, g.2, .int g.1, last, T1, rfl, X15.g1, TT1, pv_int _, (fun _ _ e1 he1 ee1 k H16 ek s16' => ?_), (fun no => absurd (List.mem_map.mpr ⟨t, mt1, et⟩) no), (fun _ no => by rw [pg] at no; cases no)⟩⟩
          obtain rfl : e1 = t := nodup_fst TT1.nd he1 mt1 (ee1.trans et.symm)
          cases ek
          have X16 := X15.same s16'
          have htd := s16' _ _ htd
          refine ⟨_, rfl, y2, rfl, _, rfl, td, _, 1, _, rfl, rfl, .inl (.inl htd), atI_nat (j := 1) rfl, _, rfl, td, _, 0, _, rfl, rfl, .inl (.inl htd), atI_nat (j := 0) rfl, (by obtain ⟨dx, _, _, _, h, _⟩ := id X16.g2; exact ⟨dx, _, h⟩), y2, g.2, .int g.1, last, T2, rfl, X16.g2, TU2, pv_int _, (fun _ _ e2 he2 ee2 k H17 ek s17' => ?_), (fun no => absurd (List.mem_map.mpr ⟨u, mu2, eu⟩) no), (fun _ no => by rw [pg] at no; cases no)⟩
          obtain rfl : e2 = u := nodup_fst TU2.nd he2 mu2 (ee2.trans eu.symm)
          cases ek
          exact ⟨scal_o _ _, _, rfl, iteB (decide_eq_false (oVal_ne zn)) ⟨rfl, X16.same s17'⟩⟩
      rintro σ G ⟨rfl, XG⟩
      clear X15 hv
      have mem1 : ∀ w, w ∈ T1.map (·.1) ↔ w ∈ own := fun w => by rw [(hp1.map _).mem_iff, eT]
      have m0 : w0 ∈ T1.map (·.1) := (mem1 w0).mpr (by rw [eo]; exact List.mem_cons_self)
      have n3' : w3 ∉ T1.map (·.1) := fun c => n3 ((mem1 w3).mp c)
      have dw0 := List.pairwise_cons.mp dws
      have n0 : w0 ∉ [w1, w2, w3] := fun c => dw0.1 w0 c rfl
      -- another's words
      refine ⟨_, rfl, _, rfl, _, rfl, 1, rfl, wl, _, rfl, .inl (.inl XG.wl), fun ow2 now2 => ?_⟩
      have so := same_lay (o := .lst (cutV ([w0, w1, w2, w3].map V.str) (some 1) none)) now2
      have XO := XG.same so
      have ho2 : (upd G ow2 (.lst (cutV ([w0, w1, w2, w3].map V.str) (some 1) none))) ow2 = some (.lst ([w1, w2, w3].map V.str)) := by rw [upd_same]; rfl
      generalize upd G ow2 (.lst (cutV ([w0, w1, w2, w3].map V.str) (some 1) none)) = G1 at XO ho2
      clear XG so now2
      refine ⟨_, rfl, p, ow2, [w1, w2, w3], last, _, rfl, .inl (.inl ho2), by simp, (fun w hw => wws w (List.mem_cons_of_mem _ hw)), dw0.2, hla, XO.pen, by omega, fun dW kvW TW G2 ndW hdW hEW eTW RTW PW2 FW2 => ?_⟩
      have XW := XO.frm n1 n2 FW2 (PW2.mono (m := 3000 * i + 1200) (by omega))
      clear XO ho2 FW2 PW2
      refine ⟨dW, kvW, TW, last, rfl, hdW, hEW, RTW.told (by decide) (by decide), RTW.few, (fun e he => by have := (RTW.ok e he).2.2.2; omega), fun yW G3 TV nyW hpW haW hgW s3' => ⟨_, rfl, ?_⟩⟩
      have XV := XW.same s3'
      have TTV := (RTW.told (by decide) (by decide)).perm hpW
      have lV : ∀ e ∈ TV, e.2.length ≤ 400 := fun e he => by have := (RTW.ok e (hpW.mem_iff.mp he)).2.2.2; omega
      have memV : ∀ w, w ∈ TV.map (·.1) ↔ w ∈ [w1, w2, w3] := fun w => by rw [(hpW.map _).mem_iff, eTW]
      have n0V : w0 ∉ TV.map (·.1) := fun c => n0 ((memV w0).mp c)
      have m3V : w3 ∈ TV.map (·.1) := (memV w3).mpr (by simp)
      clear XW hdW hEW nyW ndW s3'
      refine ⟨_, rfl, y1, yW, last, last, T1, TV, rfl, XV.g1, hgW, TT1, TTV, lT1, lV, (fun c => n0V (c.2 ▸ m0)), fun G4 s4' => ⟨true, rfl, iteF ?_⟩⟩
      have X4 := XV.same s4'
      have hgW := hgW.same s4'
      clear XV s4'
      refine ⟨_, rfl, _, rfl, yW, y1, last, last, TV, T1, rfl, hgW, X4.g1, TTV, TT1, lV, lT1, (fun c => n0V (c.2 ▸ m0)), fun G5 s5' => ⟨true, rfl, iteF ?_⟩⟩
      have X5 := X4.same s5'
      have hgW := hgW.same s5'
      clear X4 s5'
      refine ⟨_, rfl, _, rfl, g_eq nf gi GT X5.g1 hgW fun G6 s6' => ⟨_, rfl, iteB (by rw [dEq_key m0 n0V, Bool.and_false]) ?_⟩⟩
      have X6 := X5.same s6'
      have hgW := hgW.same s6'
      clear X5 s6'
      refine ⟨_, rfl, _, rfl, g_ne nf gi GT hgW X6.g1 fun G7 s7' => ⟨_, rfl, iteB (by rw [dEq_key m3V n3', Bool.and_false]; rfl) ?_⟩⟩
      have X7 := X6.same s7'
      clear X6 s7' hgW
      -- other last places
      refine ⟨_, rfl, _, rfl, p, ow, own, 2, _, rfl, .inl (.inl X7.ow), lown, wown, nown, ⟨by decide, by decide⟩, X7.pen, by omega, fun dS kvS TS G8 ndS hdS hES eTS RTS PS8 FS8 => ?_⟩
      have X8 := X7.frm n1 n2 FS8 (PS8.mono (m := 3000 * i + 1600) (by omega))
      clear X7 FS8 PS8
      refine ⟨dS, kvS, TS, 2, rfl, hdS, hES, RTS.told (by decide) (by decide), RTS.few, (fun e he => by have := (RTS.ok e he).2.2.2; omega), fun yS G9 TSp nyS hpS haS hgS s9' => ⟨_, rfl, ?_⟩⟩
      have X9 := X8.same s9'
      have TTS := (RTS.told (by decide) (by decide)).perm hpS
      have lS : ∀ e ∈ TSp, e.2.length ≤ 400 := fun e he => by have := (RTS.ok e (hpS.mem_iff.mp he)).2.2.2; omega
      clear X8 s9' hdS hES ndS nyS
      refine ⟨_, rfl, p, ow, own, 3, _, rfl, .inl (.inl X9.ow), lown, wown, nown, ⟨by decide, by decide⟩, X9.pen, by omega, fun dL kvL TL G10 ndL hdL hEL eTL RTL PL10 FL10 => ?_⟩
      have X10 := X9.frm n1 n2 FL10 (PL10.mono (m := 3000 * i + 2000) (by omega))
      have hgS := hgS.frm FL10 X9.pen
      clear X9 FL10 PL10
      refine ⟨dL, kvL, TL, 3, rfl, hdL, hEL, RTL.told (by decide) (by decide), RTL.few, (fun e he => by have := (RTL.ok e he).2.2.2; omega), fun yL G11 TLp nyL hpL haL hgL s11' => ⟨_, rfl, ?_⟩⟩
      have X11 := X10.same s11'
      have hgS := hgS.same s11'
      have TTL := (RTL.told (by decide) (by decide)).perm hpL
      have lL : ∀ e ∈ TLp, e.2.length ≤ 400 := fun e he => by have := (RTL.ok e (hpL.mem_iff.mp he)).2.2.2; omega
      clear X10 s11' hdL hEL ndL nyL
      refine ⟨_, rfl, yS, yL, 2, 3, TSp, TLp, rfl, hgS, hgL, TTS, TTL, lS, lL, (fun c => absurd c.1 (by decide)), fun G12 s12' => ⟨true, rfl, iteF ?_⟩⟩
      have X12 := X11.same s12'
      have hgS := hgS.same s12'
      have hgL := hgL.same s12'
      clear X11 s12'
      refine ⟨_, rfl, _, rfl, g_eq nf gi GT hgS hgL fun G13 s13' => ⟨_, rfl, iteB rfl ?_⟩⟩
      have X13 := X12.same s13'
      have hgS := hgS.same s13'
      have hgL := hgL.same s13'
      clear X12 s13'
      refine ⟨_, rfl, _, rfl, g_ne nf gi GT hgL hgS fun G14 s14' => ⟨_, rfl, iteB rfl ?_⟩⟩
      have X14 := X13.same s14'
      clear X13 s14' hgS hgL
      -- programs of other words
      obtain ⟨t, mt, et⟩ := List.mem_map.mp (show w0 ∈ T.map (·.1) by rw [eT, eo]; exact List.mem_cons_self)
      obtain ⟨et0, _, ⟨_, ra, xs, ea, hra, hR⟩, hv1⟩ := val_ent (fun _ _ h => h.1) X14.e1 RT.nd mt
      rw [ea, et] at hv1
      obtain ⟨w1', w2', w3', w4'⟩ := RT.ok t mt
      have how := X14.ow
      rw [eo] at how
      refine ⟨_, rfl, _, rfl, _, rfl, ow, _, 0, _, rfl, rfl, .inl (.inl how), atI_nat (j := 0) rfl, d1, _, rfl, dg X14.h1 hv1, _, rfl, ra, wl, xs, t.2, [w0, w1, w2, w3], last, rfl, hra, hR, w2', (fun q hq => ((w3' q hq).tq (by decide)).bq), by omega, hla, X14.wl, rfl, wws, dws, fun G15 s15' => ⟨true, rfl, iteF ?_⟩⟩
      exact ⟨⟨_, _, _, _, _, _, _, _, _, _, _, _, _, _, rfl⟩, (X14.pen.same' s15').mono (by omega)⟩
    · rintro σ G ⟨⟨_, _, _, _, _, _, _, _, _, _, _, _, _, _, rfl⟩, _⟩
      exact q G
end
end OR

namespace OR
open PySem PySem.Spec PyProof.Rows L2
structure ZAt (K : PySem.W.Frag) : Prop where
  isi : PySem.W.nsIn K mainGlobals "isinstance" = some none
  int : PySem.W.nsIn K mainGlobals "int" = some none
  bool : PySem.W.nsIn K mainGlobals "bool" = some none
  tup : PySem.W.nsIn K mainGlobals "tuple" = some none
  list : PySem.W.nsIn K mainGlobals "list" = some none
  len : PySem.W.nsIn K mainGlobals "len" = some none
  max : PySem.W.nsIn K mainGlobals "max" = some none
  min : PySem.W.nsIn K mainGlobals "min" = some none
  sorted : PySem.W.nsIn K mainGlobals "sorted" = some none
  enum : PySem.W.nsIn K mainGlobals "enumerate" = some none
  range : PySem.W.nsIn K mainGlobals "range" = some none
  set : PySem.W.nsIn K mainGlobals "set" = some none
  abs : PySem.W.nsIn K mainGlobals "abs" = some none
  str : PySem.W.nsIn K mainGlobals "str" = some none
  all : PySem.W.nsIn K mainGlobals "all" = some none
  any : PySem.W.nsIn K mainGlobals "any" = some none
  verr : PySem.W.nsIn K mainGlobals "ValueError" = some none
theorem lastP_lit : lastP = 1000000000000000000000000000000 := by decide
theorem lp_of {p : Program} {lv : List (Str × PySem.W.WData)} {mg : Str → Option Value} {h : Heap} (X : PySem.W.XL p lv mg h) (hm : (("LAST_PLACE" : Str), PySem.W.WData.int 1000000000000000000000000000000) ∈ lv) : ∃ t, mg "LAST_PLACE" = some (.int lastP t) := by
  obtain ⟨v, hv, hr⟩ := X.2.val _ hm
  cases hr with
  | int i t => exact ⟨t, by rw [lastP_lit]; exact hv⟩
/-- the class Line behind the top -/
structure LAt (K : PySem.W.Frag) (C : Addr) : Prop where
  aC : PySem.W.nsIn K mainGlobals "Line" = some (some (.ref C))
  pg : PySem.W.plainGet K C Str.empty = true
  hd : PySem.W.hasDictIn K C = true
  po : PySem.W.plainOver K C = true
  sa : PySem.W.findIn K (.ref C) "__setattr__" = some (some (.builtin "object.__setattr__"))
  mks : PySem.W.makesIn K C = true
  kc : PySem.W.keepIn K (.ref C) = true
  nS : PySem.W.findIn K (.ref C) "slope" = some none
  nH : PySem.W.findIn K (.ref C) "height" = some none
  sf : PySem.W.selfFirst K C = true
  ca : PySem.W.findIn K (.ref C) "__class__" = some (some (.builtin "object.__class__"))
  cn : PySem.W.specialIn K (.builtin "object.__class__") "__get__" = some (some (.builtin "getset_descriptor.__get__"))
  ct : PySem.W.takesIn K (.builtin "object.__class__") = some true
  cm : PySem.W.mroIn K C (.type "object") = some true
  kLL : PySem.W.kitOne K (.ref C) (.ref C) = some true
  kIL : PySem.W.kitOne K (.type "int") (.ref C) = some false
theorem LAt.txt {K : PySem.W.Frag} {C : Addr} {h : Heap} {mg : Str → Option Value} (L : LAt K C) (X : K.In h) (G : h.Ns mainGlobals mg) (Z : ZAt K) : LTxt K mg C :=
  ⟨⟨L.pg, L.hd, L.po, L.sa⟩, L.nS, L.nH, PySem.W.mg_of X G L.aC, L.sf, ⟨L.ca, L.cn, L.ct, L.cm⟩, L.kLL, L.kIL, PySem.W.mg_none_of X G Z.isi, PySem.W.mg_none_of X G Z.int, PySem.W.mg_none_of X G Z.bool⟩
theorem lmk_of {P : Program} {w : World} {K : PySem.W.Frag} {mg : Str → Option Value} {base : Heap} {C : Addr} (T : LTxt K mg C) (L : LAt K C) (mI : MtAt K C "__init__" "__init__" "Line.__init__" sLInit) : LMk P w K mg base C := ⟨T, by
    obtain ⟨f, fd, F, a, b, c⟩ := mI.ex
    exact ⟨f, fd, ⟨L.mks, a, b, L.kc⟩, ok_linit F T, F.binds fun _ _ _ _ _ _ us hl => match us, hl with | [_, _, _], _ => rfl⟩⟩
/-- the class Program behind the top -/
structure GAt (K : PySem.W.Frag) (C : Addr) : Prop where
  aC : PySem.W.nsIn K mainGlobals "Program" = some (some (.ref C))
  pg : PySem.W.plainGet K C Str.empty = true
  hd : PySem.W.hasDictIn K C = true
  po : PySem.W.plainOver K C = true
  sa : PySem.W.findIn K (.ref C) "__setattr__" = some (some (.builtin "object.__setattr__"))
  mks : PySem.W.makesIn K C = true
  kc : PySem.W.keepIn K (.ref C) = true
  nL : PySem.W.findIn K (.ref C) "last" = some none
  nF : PySem.W.findIn K (.ref C) "functions" = some none
  nT : PySem.W.findIn K (.ref C) "_told" = some none
  ca : PySem.W.findIn K (.ref C) "__class__" = some (some (.builtin "object.__class__"))
  cn : PySem.W.specialIn K (.builtin "object.__class__") "__get__" = some (some (.builtin "getset_descriptor.__get__"))
  ct : PySem.W.takesIn K (.builtin "object.__class__") = some true
  cm : PySem.W.mroIn K C (.type "object") = some true
  kGG : PySem.W.kitOne K (.ref C) (.ref C) = some true
theorem GAt.txt {K : PySem.W.Frag} {C : Addr} {h : Heap} {mg : Str → Option Value} (L : GAt K C) (X : K.In h) (G : h.Ns mainGlobals mg) : GTxt K mg C :=
  ⟨⟨L.pg, L.hd, L.po, L.sa⟩, L.nL, L.nF, L.nT, PySem.W.mg_of X G L.aC⟩
theorem gmk_of {P : Program} {w : World} {K : PySem.W.Frag} {mg : Str → Option Value} {base : Heap} {C CL : Addr} (T : GTxt K mg C) (L : GAt K C) (mI : MtAt K C "__init__" "__init__" "Program.__init__" sProgramInit)
    (ok : ∀ f fd, Fun K "__init__" "Program.__init__" sProgramInit f fd → FnOk P w K mg base CX0 6 f fd ["self", "last", "told"] (spGInit K C CL)) : GMk P w K mg base C CL := ⟨T, by
    obtain ⟨f, fd, F, a, b, c⟩ := mI.ex
    exact ⟨f, fd, ⟨L.mks, a, b, L.kc⟩, ok f fd F, F.binds fun _ _ _ _ _ _ us hl => match us, hl with | [_, _, _], _ => rfl⟩⟩
section
variable {P : Program} {w : World} {K : PySem.W.Frag} {mg : Str → Option Value} {base : Heap}
theorem scErNF : FnScope ["self", "function"] ["self", "function"] (defScope sNoFunctionInit) := ⟨rfl, rfl, rfl, by decide +kernel, rfl, by decide +kernel, by decide +kernel⟩
theorem ok_erNF {f CB CR fI : Addr} {fd : FuncData} (F : Fun K "__init__" "NoFunction.__init__" sNoFunctionInit f fd) (T : ErT K mg "NoFunction" "function" CB CR fI) : FnOk P w K mg base CX0 1 f fd ["self", "function"] (spErI CB "function") := by
  refine F.ok scErNF (fun vs H Q E h => ?_) (fun cdv A outer s H vs Q E hr h => ?_)
  · obtain ⟨a, v, rfl, _⟩ := h
    rfl
  · obtain ⟨a, v, rfl, ha, q⟩ := h
    refine ⟨_, pss_one (ps_ost (pv 0) (pv 1)), ?_⟩
    exact ⟨_, rfl, _, rfl, a, CB, rfl, T.ox, T.noI, .inl ⟨ha, q⟩⟩
theorem scErNP : FnScope ["self", "place"] ["self", "place"] (defScope sNoPlaceInit) := ⟨rfl, rfl, rfl, by decide +kernel, rfl, by decide +kernel, by decide +kernel⟩
theorem ok_erNP {f CB CR fI : Addr} {fd : FuncData} (F : Fun K "__init__" "NoPlace.__init__" sNoPlaceInit f fd) (T : ErT K mg "NoPlace" "place" CB CR fI) : FnOk P w K mg base CX0 1 f fd ["self", "place"] (spErI CB "place") := by
  refine F.ok scErNP (fun vs H Q E h => ?_) (fun cdv A outer s H vs Q E hr h => ?_)
  · obtain ⟨a, v, rfl, _⟩ := h
    rfl
  · obtain ⟨a, v, rfl, ha, q⟩ := h
    refine ⟨_, pss_one (ps_ost (pv 0) (pv 1)), ?_⟩
    exact ⟨_, rfl, _, rfl, a, CB, rfl, T.ox, T.noI, .inl ⟨ha, q⟩⟩
end
/-- an own error with one field, behind the top -/
structure ErAt (K : PySem.W.Frag) (x q fl : Str) (st : Stmt) (CB CR : Addr) : Prop where
  aB : PySem.W.nsIn K mainGlobals x = some (some (.ref CB))
  aR : PySem.W.nsIn K mainGlobals "RangesError" = some (some (.ref CR))
  cls : ∃ nm q N bs bm sn sub ab col dd k0 k1 k2 k3 k5, K.lookup CB = some (excClassObj nm q CB N bs bm true sn sub ab col dd k0 k1 k2 k3 k5 "ValueError.__new__") ∧ PySem.HandSPX.refsVE bm = true
  sa : PySem.W.findIn K (.ref CB) "__setattr__" = some (some (.builtin "object.__setattr__"))
  ga : PySem.W.findIn K (.ref CB) "__getattribute__" = some (some (.builtin "BaseException.__getattribute__"))
  gg : PySem.W.findIn K (.ref CB) "__getattr__" = some none
  noF : PySem.W.findIn K (.ref CB) fl = some none
  kC : PySem.W.keepIn K (.ref CB) = true
  exC : PySem.W.subIn K (.ref CB) (.type "BaseException") = some true
  tyC : PySem.W.typeIn K (.ref CB) = some (.type "type")
  hdC : PySem.W.hasDictIn K CB = true
  ca : PySem.W.findIn K (.ref CB) "__class__" = some (some (.builtin "object.__class__"))
  cn : PySem.W.specialIn K (.builtin "object.__class__") "__get__" = some (some (.builtin "getset_descriptor.__get__"))
  ct : PySem.W.takesIn K (.builtin "object.__class__") = some true
  cm : PySem.W.mroIn K CB (.type "object") = some true
  sub : PySem.W.subIn K (.ref CB) (.ref CB) = some true
  kR : PySem.W.kitOne K (.ref CB) (.ref CR) = some true
  kV : PySem.W.kitOne K (.ref CB) (.type "ValueError") = some true
  init : ∃ f fd, Fun K "__init__" q st f fd ∧ PySem.W.findIn K (.ref CB) "__init__" = some (some (.ref f)) ∧ PySem.W.typeIn K (.ref f) = some (.type "function")
theorem erCls {K : PySem.W.Frag} {h : Heap} {CB : Addr} {nm q : Str} {N : Addr} {bs bm : List Value} {sn : List Str} {sub : List Value} {ab : Bool} {col : Option Bool} {dd : Option Addr} {m0 m1 m2 m3 m5 : Option Value} (_X : K.In h)
    (l : K.lookup CB = some (excClassObj nm q CB N bs bm true sn sub ab col dd m0 m1 m2 m3 m5 "ValueError.__new__")) (b : PySem.HandSPX.refsVE bm = true) :
    ∃ nm q N bs bm sn sub ab col dd k0 k1 k2 k3 k5, K.lookup CB = some (excClassObj nm q CB N bs bm true sn sub ab col dd k0 k1 k2 k3 k5 "ValueError.__new__") ∧ PySem.HandSPX.refsVE bm = true := ⟨nm, q, N, bs, bm, sn, sub, ab, col, dd, m0, m1, m2, m3, m5, l, b⟩
theorem erInit {K : PySem.W.Frag} {h : Heap} {CB f : Addr} {q : Str} {st : Stmt} {oc : Value} {od an : Option Addr} {osl : Array (Option Value)} {kV doc pm cdv ct : Value} (_X : K.In h) (a : PySem.W.findIn K (.ref CB) "__init__" = some (some (.ref f)))
    (l : K.lookup f = some ⟨oc, od, .func (PySem.W.fnOf "__init__" q (defArgs st) (defBody st) (defScope st) .none kV doc pm an cdv ct), osl⟩) (c : PySem.W.codeIn K cdv q = true) (k : PySem.W.keepIn K (.ref f) = true) (t : PySem.W.typeIn K (.ref f) = some (.type "function")) :
    ∃ f fd, Fun K "__init__" q st f fd ∧ PySem.W.findIn K (.ref CB) "__init__" = some (some (.ref f)) ∧ PySem.W.typeIn K (.ref f) = some (.type "function") := ⟨f, _, fun_mk l c k, a, t⟩
theorem er_of {P : Program} {w : World} {K : PySem.W.Frag} {mg : Str → Option Value} {base h : Heap} {x q fl : Str} {st : Stmt} {CB CR : Addr} (X : K.In h) (G : h.Ns mainGlobals mg) (e : ErAt K x q fl st CB CR) (zV : mg "ValueError" = none)
    (hb : ∀ (kV doc pm : Value) (an : Option Addr) (cdv ct : Value) (us : List Value), us.length = (["self", fl] : List Str).length → bindArgs (PySem.W.fnOf "__init__" q (defArgs st) (defBody st) (defScope st) .none kV doc pm an cdv ct) ⟨us, []⟩ = pure ((["self", fl] : List Str).zip us))
    (ok : ∀ f fd, Fun K "__init__" q st f fd → ErT K mg x fl CB CR f → FnOk P w K mg base CX0 1 f fd ["self", fl] (spErI CB fl)) : ErK P w K mg base x fl CB CR := by
  obtain ⟨f, fd, F, i, t⟩ := e.init
  have T : ErT K mg x fl CB CR f := ⟨PySem.W.mg_of X G e.aB, PySem.W.mg_of X G e.aR, zV, ⟨e.cls, e.sa, e.exC, e.tyC, e.kC⟩, ⟨e.ga, e.gg, e.exC, e.hdC⟩, ⟨e.ga, e.gg, e.exC, e.hdC, e.ca, e.cn, e.ct, e.cm⟩, e.noF, i, t, PySem.W.exm_ref e.exC e.hdC e.tyC e.sub, e.kR, e.kV⟩
  exact ⟨f, fd, T, ok f fd F T, F.binds hb⟩
theorem clX_of {P : Program} {w : World} {K : PySem.W.Frag} {mg : Str → Option Value} {base h : Heap} {x : Str} {st : Stmt} {k : Nat} {ps : List Str} {sp : Sp} (a : FnAt K x st) (X : K.In h) (G : h.Ns mainGlobals mg)
    (hb : ∀ (kV doc pm : Value) (an : Option Addr) (cdv ct : Value) (us : List Value), us.length = ps.length → bindArgs (PySem.W.fnOf x x (defArgs st) (defBody st) (defScope st) .none kV doc pm an cdv ct) ⟨us, []⟩ = pure (ps.zip us))
    (ok : ∀ f fd, Fun K x x st f fd → FnOk P w K mg base (L2.CX P w) k f fd ps sp) : ClX P w K mg base k x ps sp := by
  obtain ⟨f, fd, F, e⟩ := a.ex
  exact ⟨f, fd, ok f fd F, PySem.W.mg_of X G e, F.kp, F.binds hb⟩

theorem mtX_of {P : Program} {w : World} {K : PySem.W.Frag} {mg : Str → Option Value} {base : Heap} {C : Addr} {m m' qual : Str} {st : Stmt} {k : Nat} {ps : List Str} {sp : Sp} (a : MtAt K C m m' qual st)
    (hb : ∀ (kV doc pm : Value) (an : Option Addr) (cdv ct : Value) (us : List Value), us.length = ps.length → bindArgs (PySem.W.fnOf m qual (defArgs st) (defBody st) (defScope st) .none kV doc pm an cdv ct) ⟨us, []⟩ = pure (ps.zip us))
    (ok : ∀ f fd, Fun K m qual st f fd → FnOk P w K mg base (L2.CX P w) k f fd ps sp) : MtX P w K mg base k C m' ps sp := by
  obtain ⟨f, fd, F, e, i, n⟩ := a.ex
  exact ⟨f, fd, ⟨e, i, F.kp⟩, ok f fd F, F.binds hb⟩
theorem notFirst_of {K : PySem.W.Frag} {C : Addr} {tb : Value} (h : PySem.W.subIn K tb (.ref C) = some false) : PySem.W.notFirst K C tb = true := by
  unfold PySem.W.notFirst
  rw [h]
  simp
theorem coX_of {P : Program} {w : World} {K : PySem.W.Frag} {mg : Str → Option Value} {base : Heap} {C : Addr} {qual : Str} {st : Stmt} {k : Nat} {ps : List Str} {sp : Sp} (a : MtAt K C "__call__" "__call__" qual st)
    (hb : ∀ (kV doc pm : Value) (an : Option Addr) (cdv ct : Value) (us : List Value), us.length = ps.length → bindArgs (PySem.W.fnOf "__call__" qual (defArgs st) (defBody st) (defScope st) .none kV doc pm an cdv ct) ⟨us, []⟩ = pure (ps.zip us))
    (ok : ∀ f fd, Fun K "__call__" qual st f fd → FnOk P w K mg base (L2.CX P w) k f fd ps sp) : CoX P w K mg base k C ps sp := by
  obtain ⟨f, fd, F, e, i, n⟩ := a.ex
  exact ⟨f, fd, ⟨e, i, n⟩, ok f fd F, F.binds hb⟩
/-- an own error without fields, behind the top -/
structure E0At (K : PySem.W.Frag) (x : Str) (CB CR : Addr) : Prop where
  aB : PySem.W.nsIn K mainGlobals x = some (some (.ref CB))
  aR : PySem.W.nsIn K mainGlobals "RangesError" = some (some (.ref CR))
  ex : PySem.W.excIn K CB [.type "ValueError", .type "Exception", .type "BaseException", .type "object"] "ValueError.__new__" = true
  kC : PySem.W.keepIn K (.ref CB) = true
  tyC : PySem.W.typeIn K (.ref CB) = some (.type "type")
  hg : PySem.W.findIn K (.ref CB) "__getattribute__" = some (some (.builtin "BaseException.__getattribute__"))
  hk : PySem.W.findIn K (.ref CB) "__getattr__" = some none
  hs : PySem.W.subIn K (.ref CB) (.type "BaseException") = some true
  hd : PySem.W.hasDictIn K CB = true
  ha : PySem.W.findIn K (.ref CB) "__class__" = some (some (.builtin "object.__class__"))
  hn : PySem.W.specialIn K (.builtin "object.__class__") "__get__" = some (some (.builtin "getset_descriptor.__get__"))
  ht : PySem.W.takesIn K (.builtin "object.__class__") = some true
  hm : PySem.W.mroIn K CB (.type "object") = some true
  sub : PySem.W.subIn K (.ref CB) (.ref CB) = some true
  kR : PySem.W.kitOne K (.ref CB) (.ref CR) = some true
theorem E0At.txt {K : PySem.W.Frag} {x : Str} {CB CR : Addr} {h : Heap} {mg : Str → Option Value} (e : E0At K x CB CR) (X : K.In h) (G : h.Ns mainGlobals mg) : Er0 K mg x CB CR :=
  ⟨PySem.W.mg_of X G e.aB, PySem.W.mg_of X G e.aR, e.ex, e.kC, e.tyC, ⟨e.hg, e.hk, e.hs, e.hd, e.ha, e.hn, e.ht, e.hm⟩, PySem.W.exm_ref e.hs e.hd e.tyC e.sub, e.kR⟩
end OR

namespace OR
open PySem PySem.Spec PyProof.Rows L2
set_option maxHeartbeats 0 in
theorem all_mk {l : PySem.W.OpenLaw} {w : World} {K : PySem.W.Frag} {h : Heap} {mg : Str → Option Value} {fa CL CG CF CP CO CR : Addr} (X : K.In h) (G : h.Ns mainGlobals mg) (hfa : mg "law" = some (.ref fa)) (LL : LAt K CL) (LG : GAt K CG) (Z : ZAt K)
    (lp : ∃ t, mg "LAST_PLACE" = some (.int lastP t)) (let_ : ∃ t, PySem.W.nsIn K mainGlobals "_LETTERS" = some (some (.str "abcdefghijklmnopqrstuvwxyz" t))) (most : ∃ t, PySem.W.nsIn K mainGlobals "_MOST_LETTERS" = some (some (.int 8 t))) (sNL : PySem.W.subIn K (.type "NoneType") (.ref CL) = some false) (sLN : PySem.W.subIn K (.ref CL) (.type "NoneType") = some false) (kN : PySem.W.kitOne K (.type "NoneType") (.ref CL) = some false) (gne : PySem.W.findIn K (.ref CG) "__ne__" = some (some (.builtin "object.__ne__")))
    (fDI : FnAt K "is_integer" sIsInt) (fDP : FnAt K "is_place" sIsPlace) (mIL : MtAt K CL "__init__" "__init__" "Line.__init__" sLInit) (fVA : FnAt K "value_at" sVal) (fLTh : FnAt K "line_through" pLineThrough) (fCNT : FnAt K "_continued" pContinued) (fPLn : FnAt K "_plain" pPlain) (fOF : FnAt K "one_form" pOneForm) (fRK : FnAt K "_ranked" pRanked) (fIW : FnAt K "is_word" sIsWord) (fKW : FnAt K "check_word" sChkW) (fIP : FnAt K "_is_piece" pIsPiece) (fCE : FnAt K "_check_pieces" pCheckPieces) (fPA : FnAt K "_piece_at" pPieceAt) (eF : ErAt K "NoFunction" "NoFunction.__init__" "function" sNoFunctionInit CF CR) (eP : ErAt K "NoPlace" "NoPlace.__init__" "place" sNoPlaceInit CP CR) (fCPl : FnAt K "_check_place" pCheckPlace) (mGI : MtAt K CG "__init__" "__init__" "Program.__init__" sProgramInit) (mGK : MtAt K CG "_check_functions" "_check_functions" "Program._check_functions" sProgramCheckFunctions) (mGP : MtAt K CG "pieces" "pieces" "Program.pieces" sProgramPieces) (mLE : MtAt K CL "__eq__" "__eq__" "Line.__eq__" sLEq) (mGE : MtAt K CG "__eq__" "__eq__" "Program.__eq__" sProgramEq) (mGC : MtAt K CG "__call__" "__call__" "Program.__call__" sProgramCall) (eO : E0At K "OtherShape" CO CR) (fOV : FnAt K "overlaps" pOverlaps) (fSB : FnAt K "side_by_side" pSideBySide) (fFU : FnAt K "_first_unequal" pFirstUnequal) (fCS : FnAt K "_check_shapes" pCheckShapes) (fFD : FnAt K "first_difference" pFirstDifference) (fDPen : FnAt K "_law_pen" sPen) (fDDraw : FnAt K "_law_draw" sDraw) (fDPick : FnAt K "_law_pick" sPick) (fDWords : FnAt K "_law_words" sWords) (fDWhole : FnAt K "_law_whole" sWhole) (fDWorth : FnAt K "_law_worth" sWorth) (fDLast : FnAt K "_law_last" sLast) (fDRows : FnAt K "_law_rows" sRows) (fDPiece : FnAt K "_law_piece" sPiece) (fDOutc : FnAt K "_law_outcome" sOutcome) (fDPrg : FnAt K "_law_program" sProgram) (fDLine : FnAt K "_law_line" sLine) (fDExch : FnAt K "_law_exchanged" sExchanged) (fDTold : FnAt K "_law_told" sTold) (fDBent : FnAt K "_law_bent" sBent) (fDPart : FnAt K "_law_parting" sParting) (fDDue : FnAt K "_law_due" sDue) (fDRef : FnAt K "_law_is_refused" sIsRefused) (fDApart : FnAt K "_law_are_apart" sAreApart) (fLaw : FnAt K "law" sLaw) :
    ∃ fd : FuncData, (∀ (s : Shared) (v : Value), BindsTo s fd ⟨[v], []⟩ [("_law_script", v)]) ∧ ∀ base : Heap, K.In base → base.Ns mainGlobals mg → FnG l.prog w K mg base 10 fa fd ["_law_script"] (spLaw K) := by
  obtain ⟨f, fd, F, e⟩ := fLaw.ex
  have e := hfa.symm.trans (PySem.W.mg_of X G e)
  cases e
  refine ⟨fd, fun s v => ?_, fun base _ _ => ?_⟩
  · obtain ⟨oc, od, kV, doc, pm, an, cdv, ct, osl, rfl, _⟩ := F.ex
    exact .of_eq rfl
  have LT : LTxt K mg CL := LL.txt X G Z
  have GT : GTxt K mg CG := LG.txt X G
  have none : ∀ {x : Str}, PySem.W.nsIn K mainGlobals x = some none → mg x = none := fun z => PySem.W.mg_none_of X G z
  have NT : NTxt mg := ⟨none Z.isi, none Z.int, none Z.bool, none Z.tup, none Z.list, none Z.len, none Z.sorted, none Z.enum, lp⟩
  have BL : Bl mg := ⟨none Z.int, none Z.len, none Z.abs, none Z.list⟩
  have B : Bd mg := ⟨none Z.range, none Z.min, none Z.max, none Z.int, none Z.len, none Z.list, none Z.set, none Z.sorted⟩
  have WT : WTxt K mg 0 0 := ⟨none Z.isi, none Z.str, none Z.len, none Z.all, let_.imp fun t e => PySem.W.mg_of X G e, most.imp fun t e => PySem.W.mg_of X G e⟩
  have DI : Cl l.prog w K mg base 1 "is_integer" ["value"] (spIsIntG K) := cl_of fDI X G (fun _ _ _ _ _ _ us hl => match us, hl with | [_], _ => rfl) fun f fd F => ok_isintG F NT
  have DP : Cl l.prog w K mg base 2 "is_place" ["value"] (spIsPlace K) := cl_of fDP X G (fun _ _ _ _ _ _ us hl => match us, hl with | [_], _ => rfl) fun f fd F => ok_isplace F NT DI
  have LM : LMk l.prog w K mg base CL := lmk_of LT LL mIL
  have VA : Cl l.prog w K mg base 1 "value_at" ["line", "x"] (spValW CL) := cl_of fVA X G (fun _ _ _ _ _ _ us hl => match us, hl with | [_, _], _ => rfl) fun f fd F => ok_valW F LT
  have LTh : Cl l.prog w K mg base 3 "line_through" ["x", "here", "beyond"] (spThru CL) := cl_of fLTh X G (fun _ _ _ _ _ _ us hl => match us, hl with | [_, _, _], _ => rfl) fun f fd F => ok_thru F LM
  have CNT : Cl l.prog w K mg base 4 "_continued" ["row", "first", "last", "line"] (spCont CL) := cl_of fCNT X G (fun _ _ _ _ _ _ us hl => match us, hl with | [_, _, _, _], _ => rfl) fun f fd F => ok_cont F LT VA LTh
  have PLn : Cl l.prog w K mg base 3 "_plain" ["first", "last", "line"] (spPlain CL) := cl_of fPLn X G (fun _ _ _ _ _ _ us hl => match us, hl with | [_, _, _], _ => rfl) fun f fd F => ok_plain F LM VA
  have OF : Cl l.prog w K mg base 5 "one_form" ["pieces"] (spOneF K CL) := cl_of fOF X G (fun _ _ _ _ _ _ us hl => match us, hl with | [_], _ => rfl) fun f fd F => ok_oneF F NT CNT PLn
  have RK : Cl l.prog w K mg base 1 "_ranked" ["word"] spRanked := cl_of fRK X G (fun _ _ _ _ _ _ us hl => match us, hl with | [_], _ => rfl) fun f fd F => ok_ranked F WT
  have IW : Cl l.prog w K mg base 1 "is_word" ["value"] spIsWord := cl_of fIW X G (fun _ _ _ _ _ _ us hl => match us, hl with | [_], _ => rfl) fun f fd F => ok_isword F WT
  have KW : Cl l.prog w K mg base 2 "check_word" ["value"] spChkW := cl_of fKW X G (fun _ _ _ _ _ _ us hl => match us, hl with | [_], _ => rfl) fun f fd F => ok_chkw F IW
  have IP : Cl l.prog w K mg base 3 "_is_piece" ["value"] (spIsPc CL) := cl_of fIP X G (fun _ _ _ _ _ _ us hl => match us, hl with | [_], _ => rfl) fun f fd F => ok_ispc F NT LT DP
  have CE : Cl l.prog w K mg base 4 "_check_pieces" ["function", "pieces", "last"] (spChkPcs K CL) := cl_of fCE X G (fun _ _ _ _ _ _ us hl => match us, hl with | [_, _, _], _ => rfl) fun f fd F => ok_chkpcs F NT IP
  have PA : Cl l.prog w K mg base 1 "_piece_at" ["pieces", "x"] (spPieceAt K) := cl_of fPA X G (fun _ _ _ _ _ _ us hl => match us, hl with | [_, _], _ => rfl) fun f fd F => ok_pieceat F NT
  have EF : ErK l.prog w K mg base "NoFunction" "function" CF CR := er_of X G eF (none Z.verr) (fun _ _ _ _ _ _ us hl => match us, hl with | [_, _], _ => rfl) fun f fd F T => ok_erNF F T
  have EP : ErK l.prog w K mg base "NoPlace" "place" CP CR := er_of X G eP (none Z.verr) (fun _ _ _ _ _ _ us hl => match us, hl with | [_, _], _ => rfl) fun f fd F T => ok_erNP F T
  have CPl : ClX l.prog w K mg base 3 "_check_place" ["x", "last"] (spChkPlace CP) := clX_of fCPl X G (fun _ _ _ _ _ _ us hl => match us, hl with | [_, _], _ => rfl) fun f fd F => ok_chkplace F EP DP
  have GM : GMk l.prog w K mg base CG CL := gmk_of GT LG mGI fun f fd F => ok_ginit F NT GT RK KW CE OF
  have CK : MtX l.prog w K mg base 3 CG "_check_functions" ["self", "functions"] (spChkFns CG CL CF) := mtX_of mGK (ps := ["self", "functions"]) (fun _ _ _ _ _ _ us hl => match us, hl with | [_, _], _ => rfl) fun f fd F => ok_chkfns F GT EF
  have PIE : MtX l.prog w K mg base 4 CG "pieces" ["self", "function"] (spPieces CG CL CF) := mtX_of mGP (ps := ["self", "function"]) (fun _ _ _ _ _ _ us hl => match us, hl with | [_, _], _ => rfl) fun f fd F => ok_pieces F NT GT CK
  have EQ : LEqF l.prog w K mg base CL := ⟨md_of mLE (ps := ["self", "other"]) (fun _ _ _ _ _ _ us hl => match us, hl with | [_, _], _ => rfl) fun f fd F => ok_leqA F LT kN, notFirst_of sNL, sLN⟩
  have GE : Md l.prog w K mg base 5 CG "__eq__" (spGEq K CG CL) := md_of mGE (ps := ["self", "other"]) (fun _ _ _ _ _ _ us hl => match us, hl with | [_, _], _ => rfl) fun f fd F => ok_geq F GT ⟨LG.ca, LG.cn, LG.ct, LG.cm⟩ LG.kGG (none Z.isi) EQ
  have GC : CoX l.prog w K mg base 4 CG ["self", "function", "x"] (spGCall CG CL CF CP) := coX_of mGC (ps := ["self", "function", "x"]) (fun _ _ _ _ _ _ us hl => match us, hl with | [_, _, _], _ => rfl) fun f fd F => ok_gcall F GT CK CPl PA VA
  have EO : Er0 K mg "OtherShape" CO CR := eO.txt X G
  have OV : Cl l.prog w K mg base 1 "overlaps" ["ones", "others"] spOv := cl_of fOV X G (fun _ _ _ _ _ _ us hl => match us, hl with | [_, _], _ => rfl) fun f fd F => ok_ov F NT (none Z.min) (none Z.max)
  have SB : Cl l.prog w K mg base 2 "side_by_side" ["ones", "others"] (spSb CL) := cl_of fSB X G (fun _ _ _ _ _ _ us hl => match us, hl with | [_, _], _ => rfl) fun f fd F => ok_sb F OV
  have FU : Cl l.prog w K mg base 3 "_first_unequal" ["ones", "others"] (spFu CL) := cl_of fFU X G (fun _ _ _ _ _ _ us hl => match us, hl with | [_, _], _ => rfl) fun f fd F => ok_fu F LT SB VA
  have CS : ClX l.prog w K mg base 1 "_check_shapes" ["programs"] (spChkShapes CG CL CO) := clX_of fCS X G (fun _ _ _ _ _ _ us hl => match us, hl with | [_], _ => rfl) fun f fd F => ok_chkshapes F (none Z.any) GT EO
  have FD : ClX l.prog w K mg base 5 "first_difference" ["one", "other"] (spFd CG CL CO) := clX_of fFD X G (fun _ _ _ _ _ _ us hl => match us, hl with | [_, _], _ => rfl) fun f fd F => ok_fd F GT CS PIE FU
  have DPen : Cl l.prog w K mg base 1 "_law_pen" ["_law_script"] (spPen K) := cl_of fDPen X G (fun _ _ _ _ _ _ us hl => match us, hl with | [_], _ => rfl) fun f fd F => ok_pen F BL
  have DDraw : Cl l.prog w K mg base 1 "_law_draw" ["_law_pen_here", "_law_many"] spDraw := cl_of fDDraw X G (fun _ _ _ _ _ _ us hl => match us, hl with | [_, _], _ => rfl) fun f fd F => ok_draw F BL
  have DPick : Cl l.prog w K mg base 2 "_law_pick" ["_law_pen_here", "_law_items"] (spPick K) := cl_of fDPick X G (fun _ _ _ _ _ _ us hl => match us, hl with | [_, _], _ => rfl) fun f fd F => ok_pick F BL DDraw
  have DPickS : Cl l.prog w K mg base 2 "_law_pick" ["_law_pen_here", "_law_items"] spPickS := cl_of fDPick X G (fun _ _ _ _ _ _ us hl => match us, hl with | [_, _], _ => rfl) fun f fd F => ok_pickS F BL DDraw
  have DWords : Cl l.prog w K mg base 3 "_law_words" ["_law_pen_here", "_law_many"] spWords := cl_of fDWords X G (fun _ _ _ _ _ _ us hl => match us, hl with | [_, _], _ => rfl) fun f fd F => ok_words F B DDraw DPick DPickS
  have DWhole : Cl l.prog w K mg base 3 "_law_whole" ["_law_pen_here"] spWhole := cl_of fDWhole X G (fun _ _ _ _ _ _ us hl => match us, hl with | [_], _ => rfl) fun f fd F => ok_whole F DDraw DPick
  have DWorth : Cl l.prog w K mg base 1 "_law_worth" ["_law_line_here", "_law_x"] spWorthT := cl_of fDWorth X G (fun _ _ _ _ _ _ us hl => match us, hl with | [_, _], _ => rfl) fun f fd F => ok_worthT F
  have DLast : Cl l.prog w K mg base 3 "_law_last" ["_law_pen_here"] spLastP := cl_of fDLast X G (fun _ _ _ _ _ _ us hl => match us, hl with | [_], _ => rfl) fun f fd F => ok_last F DDraw DPick
  have DRows : Cl l.prog w K mg base 4 "_law_rows" ["_law_pen_here", "_law_last_here"] spRowsL := cl_of fDRows X G (fun _ _ _ _ _ _ us hl => match us, hl with | [_, _], _ => rfl) fun f fd F => ok_rowsL F B DDraw DPick DWhole DWorth
  have DPiece : Cl l.prog w K mg base 3 "_law_piece" ["_law_row"] (spPieceL CL) := cl_of fDPiece X G (fun _ _ _ _ _ _ us hl => match us, hl with | [_], _ => rfl) fun f fd F => ok_piece F LM
  have DOutc : Cl l.prog w K mg base 2 "_law_outcome" ["_law_rows_here", "_law_x"] spOutc := cl_of fDOutc X G (fun _ _ _ _ _ _ us hl => match us, hl with | [_, _], _ => rfl) fun f fd F => ok_outc F DWorth
  have DPrg : Cl l.prog w K mg base 8 "_law_program" ["_law_last_here", "_law_told_here"] (spPrg CG CL) := cl_of fDPrg X G (fun _ _ _ _ _ _ us hl => match us, hl with | [_, _], _ => rfl) fun f fd F => ok_prg F GM DPiece
  have DLine : Cl l.prog w K mg base 4 "_law_line" ["_law_pen_here"] spLine := cl_of fDLine X G (fun _ _ _ _ _ _ us hl => match us, hl with | [_], _ => rfl) fun f fd F => ok_line F DDraw DPick DWhole
  have DExch : Cl l.prog w K mg base 2 "_law_exchanged" ["_law_rows_here", "_law_first", "_law_end", "_law_line_here"] spExch := cl_of fDExch X G (fun _ _ _ _ _ _ us hl => match us, hl with | [_, _, _, _], _ => rfl) fun f fd F => ok_exch F B
  have DTold : Cl l.prog w K mg base 5 "_law_told" ["_law_pen_here", "_law_words_here", "_law_last_here"] (spToldL K) := cl_of fDTold X G (fun _ _ _ _ _ _ us hl => match us, hl with | [_, _, _], _ => rfl) fun f fd F => ok_toldL F DRows
  have DBent : Cl l.prog w K mg base 5 "_law_bent" ["_law_pen_here", "_law_rows_here", "_law_last_here"] spBent := cl_of fDBent X G (fun _ _ _ _ _ _ us hl => match us, hl with | [_, _, _], _ => rfl) fun f fd F => ok_bent F B DDraw DPick DOutc DLine DExch
  have DPart : Cl l.prog w K mg base 3 "_law_parting" ["_law_mine", "_law_others", "_law_last_here"] spPart := cl_of fDPart X G (fun _ _ _ _ _ _ us hl => match us, hl with | [_, _, _], _ => rfl) fun f fd F => ok_part F B DOutc
  have DDue : Cl l.prog w K mg base 4 "_law_due" ["_law_told_here", "_law_second", "_law_last_here"] spDue := cl_of fDDue X G (fun _ _ _ _ _ _ us hl => match us, hl with | [_, _, _], _ => rfl) fun f fd F => ok_due F B (none Z.str) DPart
  have DRef : Cl l.prog w K mg base 6 "_law_is_refused" ["_law_one", "_law_other"] (spRfd CG CL) := cl_of fDRef X G (fun _ _ _ _ _ _ us hl => match us, hl with | [_, _], _ => rfl) fun f fd F => ok_rfd F (none Z.isi) EO FD
  have DApart : Cl l.prog w K mg base 9 "_law_are_apart" ["_law_last_here", "_law_rows_here", "_law_words_here"] spApart := cl_of fDApart X G (fun _ _ _ _ _ _ us hl => match us, hl with | [_, _, _], _ => rfl) fun f fd F => ok_apart F GT ⟨LG.ca, LG.cn, LG.ct, LG.cm⟩ (by unfold PySem.W.notFirst; simp) gne LG.cm GE DPrg
  exact ok_law F B GT ⟨LG.ca, LG.cn, LG.ct, LG.cm⟩ (by unfold PySem.W.notFirst; simp) gne LG.cm GE GC DPen DDraw DWords DLast DTold DBent DPrg DDue FD DRef DApart
end OR
open PySem PySem.W PyProof.Rows
set_option maxRecDepth 100000 in
set_option maxHeartbeats 0 in
theorem PySem.Challenge.cw_openranges_k23_first_difference_holds : PySem.Challenge.rw_openranges_k23_first_difference.Holds := by
  w_on; o_law; k_head; (case hw => w_witness2)
  k_fill
  refine OR.walk_g (l := PySem.Challenge.rw_openranges_k23_first_difference) (n := 63) (k := 10) (x := "_law_script") (sp := fun w => OR.spLaw _) rfl (by decide) rfl ⟨rfl, by decide, by decide⟩ (fun w h Y => PySem.W.kIn_of Y) ?F (fun _ _ a ns hl _ hS => ⟨a, ns, rfl, hS, hl, fun _ => rfl⟩)
  case F =>
    intro w mg fa h KX G XL hmg
    refine' OR.all_mk KX G hmg ?LL ?LG ?Z ?lp ?let_ ?most ?sNL ?sLN ?kN ?gne ?fDI ?fDP ?mIL ?fVA ?fLTh ?fCNT ?fPLn ?fOF ?fRK ?fIW ?fKW ?fIP ?fCE ?fPA ?eF ?eP ?fCPl ?mGI ?mGK ?mGP ?mLE ?mGE ?mGC ?eO ?fOV ?fSB ?fFU ?fCS ?fFD ?fDPen ?fDDraw ?fDPick ?fDWords ?fDWhole ?fDWorth ?fDLast ?fDRows ?fDPiece ?fDOutc ?fDPrg ?fDLine ?fDExch ?fDTold ?fDBent ?fDPart ?fDDue ?fDRef ?fDApart ?fLaw
    case lp => exact OR.lp_of XL (by first | exact List.Mem.head _ | exact .tail _ (.head _) | exact .tail _ (.tail _ (.head _)))
    all_goals try clear hmg XL
    case LL =>
      refine' OR.LAt.mk ?aC ?pg ?hd ?po ?sa ?mks ?kc ?nS ?nH ?sf ?ca ?cn ?ct ?cm ?kLL ?kIL
      (case aC => k_is); (case pg => k_is); (case hd => k_is); (case po => k_is); (case sa => k_is); (case mks => k_is); (case kc => k_is); (case nS => k_is); (case nH => k_is); (case sf => k_is); (case ca => k_is); (case cn => k_is); (case ct => k_is); (case cm => k_is); (case kLL => kit_is); (case kIL => kit_is)
    case LG =>
      refine' OR.GAt.mk ?aC ?pg ?hd ?po ?sa ?mks ?kc ?nL ?nF ?nT ?ca ?cn ?ct ?cm ?kGG
      (case aC => k_is); (case pg => k_is); (case hd => k_is); (case po => k_is); (case sa => k_is); (case mks => k_is); (case kc => k_is); (case nL => k_is); (case nF => k_is); (case nT => k_is); (case ca => k_is); (case cn => k_is); (case ct => k_is); (case cm => k_is); (case kGG => kit_is)
    case Z =>
      refine' OR.ZAt.mk ?isi ?int ?bool ?tup ?list ?len ?max ?min ?sorted ?enum ?range ?set ?abs ?str ?all ?any ?verr
      (case isi => k_is); (case int => k_is); (case bool => k_is); (case tup => k_is); (case list => k_is); (case len => k_is); (case max => k_is); (case min => k_is); (case sorted => k_is); (case enum => k_is); (case range => k_is); (case set => k_is); (case abs => k_is); (case str => k_is); (case all => k_is); (case any => k_is); (case verr => k_is)
    case let_ => exact ⟨_, by k_is⟩
    case most => exact ⟨_, by k_is⟩
    case fDI => refine' OR.fnAt KX ?a ?l ?c ?k; (case a => k_is); (case l => k_is); (case c => k_is); (case k => k_is)
    case fDP => refine' OR.fnAt KX ?a ?l ?c ?k; (case a => k_is); (case l => k_is); (case c => k_is); (case k => k_is)
    case mIL => refine' OR.mtAt KX ?a ?l ?c ?k ?i ?nn; (case a => k_is); (case l => k_is); (case c => k_is); (case k => k_is); (case i => k_is); (case nn => k_is)
    case fVA => refine' OR.fnAt KX ?a ?l ?c ?k; (case a => k_is); (case l => k_is); (case c => k_is); (case k => k_is)
    case fLTh => refine' OR.fnAt KX ?a ?l ?c ?k; (case a => k_is); (case l => k_is); (case c => k_is); (case k => k_is)
    case fCNT => refine' OR.fnAt KX ?a ?l ?c ?k; (case a => k_is); (case l => k_is); (case c => k_is); (case k => k_is)
    case fPLn => refine' OR.fnAt KX ?a ?l ?c ?k; (case a => k_is); (case l => k_is); (case c => k_is); (case k => k_is)
    case fOF => refine' OR.fnAt KX ?a ?l ?c ?k; (case a => k_is); (case l => k_is); (case c => k_is); (case k => k_is)
    case fRK => refine' OR.fnAt KX ?a ?l ?c ?k; (case a => k_is); (case l => k_is); (case c => k_is); (case k => k_is)
    case fIW => refine' OR.fnAt KX ?a ?l ?c ?k; (case a => k_is); (case l => k_is); (case c => k_is); (case k => k_is)
    case fKW => refine' OR.fnAt KX ?a ?l ?c ?k; (case a => k_is); (case l => k_is); (case c => k_is); (case k => k_is)
    case fIP => refine' OR.fnAt KX ?a ?l ?c ?k; (case a => k_is); (case l => k_is); (case c => k_is); (case k => k_is)
    case fCE => refine' OR.fnAt KX ?a ?l ?c ?k; (case a => k_is); (case l => k_is); (case c => k_is); (case k => k_is)
    case fPA => refine' OR.fnAt KX ?a ?l ?c ?k; (case a => k_is); (case l => k_is); (case c => k_is); (case k => k_is)
    case eF => refine' OR.ErAt.mk ?aB ?aR ?cls ?sa ?ga ?gg ?noF ?kC ?exC ?tyC ?hdC ?ca ?cn ?ct ?cm ?sub ?kR ?kV ?init; (case aB => k_is); (case aR => k_is); (case cls => refine' OR.erCls KX ?l ?b; (case l => k_is); (case b => decide +kernel)); (case sa => k_is); (case ga => k_is); (case gg => k_is); (case noF => k_is); (case kC => k_is); (case exC => k_is); (case tyC => k_is); (case hdC => k_is); (case ca => k_is); (case cn => k_is); (case ct => k_is); (case cm => k_is); (case sub => first | rfl | k_is); (case kR => kit_is); (case kV => kit_is); (case init => refine' OR.erInit KX ?a ?l ?c ?k ?t; (case a => k_is); (case l => k_is); (case c => k_is); (case k => k_is); (case t => k_is))
    case eP => refine' OR.ErAt.mk ?aB ?aR ?cls ?sa ?ga ?gg ?noF ?kC ?exC ?tyC ?hdC ?ca ?cn ?ct ?cm ?sub ?kR ?kV ?init; (case aB => k_is); (case aR => k_is); (case cls => refine' OR.erCls KX ?l ?b; (case l => k_is); (case b => decide +kernel)); (case sa => k_is); (case ga => k_is); (case gg => k_is); (case noF => k_is); (case kC => k_is); (case exC => k_is); (case tyC => k_is); (case hdC => k_is); (case ca => k_is); (case cn => k_is); (case ct => k_is); (case cm => k_is); (case sub => first | rfl | k_is); (case kR => kit_is); (case kV => kit_is); (case init => refine' OR.erInit KX ?a ?l ?c ?k ?t; (case a => k_is); (case l => k_is); (case c => k_is); (case k => k_is); (case t => k_is))
    case fCPl => refine' OR.fnAt KX ?a ?l ?c ?k; (case a => k_is); (case l => k_is); (case c => k_is); (case k => k_is)
    case mGI => refine' OR.mtAt KX ?a ?l ?c ?k ?i ?nn; (case a => k_is); (case l => k_is); (case c => k_is); (case k => k_is); (case i => k_is); (case nn => k_is)
    case mGK => refine' OR.mtAt KX ?a ?l ?c ?k ?i ?nn; (case a => k_is); (case l => k_is); (case c => k_is); (case k => k_is); (case i => k_is); (case nn => k_is)
    case mGP => refine' OR.mtAt KX ?a ?l ?c ?k ?i ?nn; (case a => k_is); (case l => k_is); (case c => k_is); (case k => k_is); (case i => k_is); (case nn => k_is)
    case mLE => refine' OR.mtAt KX ?a ?l ?c ?k ?i ?nn; (case a => k_is); (case l => k_is); (case c => k_is); (case k => k_is); (case i => k_is); (case nn => k_is)
    case mGE => refine' OR.mtAt KX ?a ?l ?c ?k ?i ?nn; (case a => k_is); (case l => k_is); (case c => k_is); (case k => k_is); (case i => k_is); (case nn => k_is)
    case mGC => refine' OR.mtAt KX ?a ?l ?c ?k ?i ?nn; (case a => k_is); (case l => k_is); (case c => k_is); (case k => k_is); (case i => k_is); (case nn => k_is)
    case eO => refine' OR.E0At.mk ?aB ?aR ?ex ?kC ?tyC ?hg ?hk ?hs ?hd ?ha ?hn ?ht ?hm ?sub ?kR; (case aB => k_is); (case aR => k_is); (case ex => k_exc); (case kC => k_is); (case tyC => k_is); (case hg => k_is); (case hk => k_is); (case hs => k_is); (case hd => k_is); (case ha => k_is); (case hn => k_is); (case ht => k_is); (case hm => k_is); (case sub => first | rfl | k_is); (case kR => kit_is)
    case fOV => refine' OR.fnAt KX ?a ?l ?c ?k; (case a => k_is); (case l => k_is); (case c => k_is); (case k => k_is)
    case fSB => refine' OR.fnAt KX ?a ?l ?c ?k; (case a => k_is); (case l => k_is); (case c => k_is); (case k => k_is)
    case fFU => refine' OR.fnAt KX ?a ?l ?c ?k; (case a => k_is); (case l => k_is); (case c => k_is); (case k => k_is)
    case fCS => refine' OR.fnAt KX ?a ?l ?c ?k; (case a => k_is); (case l => k_is); (case c => k_is); (case k => k_is)
    case fFD => refine' OR.fnAt KX ?a ?l ?c ?k; (case a => k_is); (case l => k_is); (case c => k_is); (case k => k_is)
    case fDPen => refine' OR.fnAt KX ?a ?l ?c ?k; (case a => k_is); (case l => k_is); (case c => k_is); (case k => k_is)
    case fDDraw => refine' OR.fnAt KX ?a ?l ?c ?k; (case a => k_is); (case l => k_is); (case c => k_is); (case k => k_is)
    case fDPick => refine' OR.fnAt KX ?a ?l ?c ?k; (case a => k_is); (case l => k_is); (case c => k_is); (case k => k_is)
    case fDWords => refine' OR.fnAt KX ?a ?l ?c ?k; (case a => k_is); (case l => k_is); (case c => k_is); (case k => k_is)
    case fDWhole => refine' OR.fnAt KX ?a ?l ?c ?k; (case a => k_is); (case l => k_is); (case c => k_is); (case k => k_is)
    case fDWorth => refine' OR.fnAt KX ?a ?l ?c ?k; (case a => k_is); (case l => k_is); (case c => k_is); (case k => k_is)
    case fDLast => refine' OR.fnAt KX ?a ?l ?c ?k; (case a => k_is); (case l => k_is); (case c => k_is); (case k => k_is)
    case fDRows => refine' OR.fnAt KX ?a ?l ?c ?k; (case a => k_is); (case l => k_is); (case c => k_is); (case k => k_is)
    case fDPiece => refine' OR.fnAt KX ?a ?l ?c ?k; (case a => k_is); (case l => k_is); (case c => k_is); (case k => k_is)
    case fDOutc => refine' OR.fnAt KX ?a ?l ?c ?k; (case a => k_is); (case l => k_is); (case c => k_is); (case k => k_is)
    case fDPrg => refine' OR.fnAt KX ?a ?l ?c ?k; (case a => k_is); (case l => k_is); (case c => k_is); (case k => k_is)
    case fDLine => refine' OR.fnAt KX ?a ?l ?c ?k; (case a => k_is); (case l => k_is); (case c => k_is); (case k => k_is)
    case fDExch => refine' OR.fnAt KX ?a ?l ?c ?k; (case a => k_is); (case l => k_is); (case c => k_is); (case k => k_is)
    case fDTold => refine' OR.fnAt KX ?a ?l ?c ?k; (case a => k_is); (case l => k_is); (case c => k_is); (case k => k_is)
    case fDBent => refine' OR.fnAt KX ?a ?l ?c ?k; (case a => k_is); (case l => k_is); (case c => k_is); (case k => k_is)
    case fDPart => refine' OR.fnAt KX ?a ?l ?c ?k; (case a => k_is); (case l => k_is); (case c => k_is); (case k => k_is)
    case fDDue => refine' OR.fnAt KX ?a ?l ?c ?k; (case a => k_is); (case l => k_is); (case c => k_is); (case k => k_is)
    case fDRef => refine' OR.fnAt KX ?a ?l ?c ?k; (case a => k_is); (case l => k_is); (case c => k_is); (case k => k_is)
    case fDApart => refine' OR.fnAt KX ?a ?l ?c ?k; (case a => k_is); (case l => k_is); (case c => k_is); (case k => k_is)
    case fLaw => refine' OR.fnAt KX ?a ?l ?c ?k; (case a => k_is); (case l => k_is); (case c => k_is); (case k => k_is)
    case sNL => k_is
    case sLN => k_is
    case kN => kit_is
    case gne => k_is

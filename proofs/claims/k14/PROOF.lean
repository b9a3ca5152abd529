import PyProof.Rows.All
import Wide.All
import OpenK.AllK
import Wide.FinOn
import HandS.ForMost
import HandS.Wide
import HandS.IsInst
import HandS.TupAny
import HandS.TupLe
import HandS.Star
import HandS.Evl
import HandS.SortRule
import HandS.NoneIn
import HandS.Defaults
import HandS.TupSets
import HandS.Keys
import HandS.Small
import KE.KOpsOwn
import HandS.SlotsOwn
import KE.RegKIsAll
import PyProof.Draws
import HandS.ForExc
import HandS.Text
import HandS.FStr
import HandS.StrMore
import HandS.MapJoin
import HandS.Style
import HandS.Records
import HandS.Rev
import HandS.Flow
import HandS.WideBits
import HandS.CallLocal
import HandS.Codes
import HandS.DictTup
import KE.KSortTup
import HandS.ExcField
import HandS.ExcInit
import HandS.ExcIs
import HandS.ExcOwn
import KE.KExcIs
import HandS.DictComp
import HandS.SetFor
import HandS.Strs
import HandS.WordsExc
import HandS.RaiseMore
import HandS.Conv
import PySem.Challenge.RW_openranges_k14_programs_refused
set_option Elab.async false
set_option linter.all false
set_option maxRecDepth 100000
namespace OR
open PySem PySem.Spec PyProof.Rows L2
def top (i : Nat) : Stmt := PySem.Challenge.pw_openranges_k14_programs_refused.main.body.getD i (.Pass ⟨0, 0, 0, 0⟩)
abbrev pWall : Stmt := top 0
abbrev sIsInt : Stmt := top 3
abbrev sIsPlace : Stmt := top 4
abbrev sLInit : Stmt := inClass (top 6) 0
abbrev sLCall : Stmt := inClass (top 6) 1
abbrev sLEq : Stmt := inClass (top 6) 2
abbrev sLAdd : Stmt := inClass (top 6) 3
abbrev sLineRadd : Stmt := inClass (top 6) 4
abbrev sLNeg : Stmt := inClass (top 6) 5
abbrev sLSub : Stmt := inClass (top 6) 6
abbrev sLineRsub : Stmt := inClass (top 6) 7
abbrev sLineMul : Stmt := inClass (top 6) 8
abbrev sLineRmul : Stmt := inClass (top 6) 9
abbrev sLineMoved : Stmt := inClass (top 6) 10
abbrev sLineMirrored : Stmt := inClass (top 6) 11
abbrev sLText : Stmt := inClass (top 6) 12
abbrev sVal : Stmt := top 7
abbrev pFirstAbove : Stmt := top 8
abbrev pLowest : Stmt := top 9
abbrev pTakesOver : Stmt := top 10
abbrev pHighest : Stmt := top 11
abbrev sBadWordInit : Stmt := inClass (top 14) 0
abbrev sBadPiecesInit : Stmt := inClass (top 15) 0
abbrev sNoFunctionInit : Stmt := inClass (top 17) 0
abbrev sNoPlaceInit : Stmt := inClass (top 18) 0
abbrev sIsWord : Stmt := top 22
abbrev sChkW : Stmt := top 23
abbrev pOverlaps : Stmt := top 25
abbrev pOneForm : Stmt := top 27
abbrev pContinued : Stmt := top 28
abbrev pLineThrough : Stmt := top 29
abbrev pPlain : Stmt := top 30
abbrev pSideBySide : Stmt := top 31
abbrev sProgramInit : Stmt := inClass (top 33) 0
abbrev sProgramCall : Stmt := inClass (top 33) 1
abbrev sProgramEq : Stmt := inClass (top 33) 2
abbrev sProgramAnd : Stmt := inClass (top 33) 3
abbrev sProgramOr : Stmt := inClass (top 33) 4
abbrev sProgramPieces : Stmt := inClass (top 33) 5
abbrev sProgramAnswered : Stmt := inClass (top 33) 6
abbrev sProgramBreaches : Stmt := inClass (top 33) 7
abbrev sProgramBreach : Stmt := inClass (top 33) 8
abbrev sProgramKeeps : Stmt := inClass (top 33) 9
abbrev sProgramChanged : Stmt := inClass (top 33) 10
abbrev sProgramNegated : Stmt := inClass (top 33) 11
abbrev sProgramTimes : Stmt := inClass (top 33) 12
abbrev sProgramMirrored : Stmt := inClass (top 33) 13
abbrev sProgramCheckFunctions : Stmt := inClass (top 33) 14
abbrev sProgramAnswers : Stmt := inClass (top 33) 15
abbrev sProgramAnswersBeyond : Stmt := inClass (top 33) 16
abbrev sProgramTimesP : Stmt := inClass (top 33) 17
abbrev pRanked : Stmt := top 34
abbrev pCheckPlace : Stmt := top 35
abbrev pCheckPieces : Stmt := top 36
abbrev pIsPiece : Stmt := top 37
abbrev pCheckShapes : Stmt := top 38
abbrev pPieceAt : Stmt := top 39
abbrev sJoined : Stmt := top 40
abbrev pChosen : Stmt := top 41
abbrev sPen : Stmt := top 43
abbrev sDraw : Stmt := top 44
abbrev sPick : Stmt := top 45
abbrev sShuffled : Stmt := top 46
abbrev sWords : Stmt := top 47
abbrev sWhole : Stmt := top 48
abbrev sWorth : Stmt := top 49
abbrev sLast : Stmt := top 50
abbrev sRows : Stmt := top 51
abbrev sPiece : Stmt := top 52
abbrev sRefused : Stmt := top 53
abbrev sSpoilt : Stmt := top 54
abbrev sOddKey : Stmt := top 55
abbrev sLaw : Stmt := top 56
end OR

namespace OR
open PySem PySem.Spec PyProof.Rows L2
/-! ### the pen: a dict of the cells, how many have begun, what is left of the last one -/
theorem kBC : ¬ ((Sum.inr ("begun" : Str) : Key) = Sum.inr ("cells" : Str)) := by decide +kernel
theorem kLC : ¬ ((Sum.inr ("left" : Str) : Key) = Sum.inr ("cells" : Str)) := by decide +kernel
theorem kLB : ¬ ((Sum.inr ("left" : Str) : Key) = Sum.inr ("begun" : Str)) := by decide +kernel
def penK (c : Addr) (k l : Int) : List (Key × V) := [(.inr ("cells" : Str), .ref c), (.inr ("begun" : Str), .int k), (.inr ("left" : Str), .int l)]
theorem pen_cells (c : Addr) (k l : Int) : valV (penK c k l) (.inr ("cells" : Str)) = some (.ref c) := valV_pos rfl
theorem pen_begun (c : Addr) (k l : Int) : valV (penK c k l) (.inr ("begun" : Str)) = some (.int k) :=
  (valV_neg (fun e => kBC e.symm)).trans (valV_pos rfl)
theorem pen_left (c : Addr) (k l : Int) : valV (penK c k l) (.inr ("left" : Str)) = some (.int l) :=
  (valV_neg (fun e => kLC e.symm)).trans ((valV_neg (fun e => kLB e.symm)).trans (valV_pos rfl))
theorem pen_put_left (c : Addr) (k l y : Int) : putK (penK c k l) (.inr ("left" : Str)) (.int y) = penK c k y := by
  have h1 : ¬ ((Sum.inr ("cells" : Str) : Key) = Sum.inr ("left" : Str)) := fun e => kLC e.symm
  have h2 : ¬ ((Sum.inr ("begun" : Str) : Key) = Sum.inr ("left" : Str)) := fun e => kLB e.symm
  unfold putK penK
  simp only [List.any_cons, List.any_nil, List.map_cons, List.map_nil, h1, h2, decide_true, decide_false, Bool.or_false, Bool.false_or, if_true, if_false]
theorem pen_put_begun (c : Addr) (k l y : Int) : putK (penK c k l) (.inr ("begun" : Str)) (.int y) = penK c y l := by
  have h1 : ¬ ((Sum.inr ("cells" : Str) : Key) = Sum.inr ("begun" : Str)) := fun e => kBC e.symm
  have h2 : ¬ ((Sum.inr ("left" : Str) : Key) = Sum.inr ("begun" : Str)) := kLB
  unfold putK penK
  simp only [List.any_cons, List.any_nil, List.map_cons, List.map_nil, h1, h2, decide_true, decide_false, Bool.or_false, Bool.false_or, Bool.or_true, if_true, if_false]
/-- a pen at p after at most n draws -/
def Pen (H : Hp) (p : Addr) (n : Nat) : Prop := ∃ (c : Addr) (ns : List Int) (k l : Int), H p = some (.dK (penK c k l)) ∧ H c = some (.lst (ns.map V.int)) ∧ ns.length ≤ 63 ∧ 0 ≤ k ∧ k ≤ n ∧ 0 ≤ l
/-- where the pen at p keeps its cells -/
def cellsAt (H : Hp) (p c : Addr) : Prop := ∃ k l, H p = some (.dK (penK c k l))
theorem penK_inj {c c' : Addr} {k l k' l' : Int} (h : penK c k l = penK c' k' l') : c = c' := by
  unfold penK at h
  injection h with h1 _
  injection h1 with _ h2
  injection h2
theorem cellsAt.inj {H : Hp} {p c : Addr} {k l : Int} {c' : Addr} (h : cellsAt H p c) (e : H p = some (.dK (penK c' k l))) : c = c' := by
  obtain ⟨k', l', e'⟩ := h
  rw [e] at e'
  injection e' with e'
  injection e' with e'
  exact (penK_inj e').symm
/-- all but what stands at p is as it was, and the pen there has the same cells -/
structure Frm (p : Addr) (H H' : Hp) : Prop where
  at_ : ∀ b o, H b = some o → b ≠ p → H' b = some o
  ce : ∀ c, cellsAt H p c → cellsAt H' p c
instance {p : Addr} {H H' : Hp} : CoeFun (Frm p H H') (fun _ => ∀ b o, H b = some o → b ≠ p → H' b = some o) := ⟨Frm.at_⟩
theorem Frm.refl (p : Addr) (H : Hp) : Frm p H H := ⟨fun _ _ h _ => h, fun _ h => h⟩
theorem Frm.trans {p : Addr} {H H1 H2 : Hp} (a : Frm p H H1) (b : Frm p H1 H2) : Frm p H H2 := ⟨fun c o h n => b c o (a c o h n) n, fun c h => b.ce c (a.ce c h)⟩
theorem Frm.pen {p c : Addr} {H : Hp} {k l k' l' : Int} (h : H p = some (.dK (penK c k l))) : Frm p H (upd H p (.dK (penK c k' l'))) :=
  ⟨fun b x e n => by rw [upd_ne n]; exact e, fun c' h' => by rw [h'.inj h]; exact ⟨k', l', upd_same⟩⟩
theorem Frm.new {p q : Addr} {H : Hp} {o : HO} (h : H q = none) : Frm p H (upd H q o) :=
  ⟨fun b x e _ => by rw [upd_ne (ne_of_none e h)]; exact e, fun c ⟨k, l, e⟩ => ⟨k, l, by rw [upd_ne (ne_of_none e h)]; exact e⟩⟩
/-- a list that is not the pen's cells is changed -/
theorem Pen.put {H : Hp} {p c a : Addr} {n : Nat} {xs : List V} {o : HO} (P : Pen H p n) (hc : cellsAt H p c) (h : H a = some (.lst xs)) (n1 : c ≠ a) : Pen (upd H a o) p n := by
  obtain ⟨c', ns, k, l, h1, h2, h3⟩ := P
  obtain rfl := hc.inj h1
  exact ⟨c, ns, k, l, by rw [upd_ne (ne_of h1 h (by intro z; cases z))]; exact h1, by rw [upd_ne n1]; exact h2, h3⟩
theorem Pen.cells {H : Hp} {p : Addr} {n : Nat} (P : Pen H p n) : ∃ c, cellsAt H p c ∧ H c ≠ none := by
  obtain ⟨c, ns, k, l, h1, h2, _⟩ := P
  exact ⟨c, ⟨k, l, h1⟩, by rw [h2]; exact fun z => nomatch z⟩
theorem Pen.dict {H : Hp} {p : Addr} {n : Nat} (P : Pen H p n) : ∃ kvs, H p = some (.dK kvs) := by
  obtain ⟨c, ns, k, l, h1, _⟩ := P
  exact ⟨_, h1⟩
/-- what stands at a list, a tuple or an object is not the pen -/
theorem Frm.lst {H H' : Hp} {p a : Addr} {n : Nat} {xs : List V} (f : Frm p H H') (P : Pen H p n) (h : H a = some (.lst xs)) : H' a = some (.lst xs) := by
  obtain ⟨kvs, hp⟩ := P.dict
  exact f _ _ h (ne_of h hp (by intro z; cases z))
theorem Pen.mono {H : Hp} {p : Addr} {n m : Nat} (P : Pen H p n) (h : n ≤ m) : Pen H p m := by
  obtain ⟨c, ns, k, l, h1, h2, h3, h4, h5, h6⟩ := P
  exact ⟨c, ns, k, l, h1, h2, h3, h4, by omega, h6⟩
theorem Pen.new {H : Hp} {p q : Addr} {n : Nat} {o : HO} (P : Pen H p n) (h : H q = none) : Pen (upd H q o) p n := by
  obtain ⟨c, ns, k, l, h1, h2, h3, h4, h5, h6⟩ := P
  exact ⟨c, ns, k, l, by rw [upd_ne (ne_of_none h1 h)]; exact h1, by rw [upd_ne (ne_of_none h2 h)]; exact h2, h3, h4, h5, h6⟩
/-! ### the promises -/
/-- a draw: some number below m -/
def spDraw : Sp := fun vs H Q _ => ∃ (p : Addr) (m : Int) (n : Nat), vs = [.ref p, .int m] ∧ 0 < m ∧ m.natAbs < 2 ^ 200 ∧ Pen H p n ∧ n ≤ 1000000 ∧
  ∀ (r : Int) (H' : Hp), 0 ≤ r → r < m → Pen H' p (n + 1) → Frm p H H' → Q (.int r) H'
/-- a def that lets nothing out, as it is called by its name -/
structure Cl (P : Program) (w : World) (K : PySem.W.Frag) (mg : Str → Option Value) (base : Heap) (k : Nat) (x : Str) (ps : List Str) (sp : Sp) : Prop where
  ex : ∃ (f : Addr) (fd : FuncData), FnOk P w K mg base CX0 k f fd ps sp ∧ mg x = some (.ref f) ∧ PySem.W.keepIn K (.ref f) = true ∧ Binds K fd ps []
theorem pe_cl {X : Cx} {k j : Nat} {x : Str} {ps : List Str} {sp : Sp} {e : Expr} {es : List Expr} {t : TA} {p pos : Pos} (c : Cl X.prog X.w X.K X.mg X.base k x ps sp) (hr : Room j X.A) (hk : k ≤ j) (hg : Gl X x) (ha : PA X (e :: es) t)
    (hdb : (x == ("__debug__" : Str)) = false := by decide) (he : starEach (e :: es) X.env = (false, eval e X.env) :: starEach es X.env := by rfl) (hpl : (backTo pos (starEach es X.env)).any (·.1) = false := by rfl) :
    PE X (.Call (.Name x p) (e :: es) [] pos) (tCall sp [] E0 t) := by
  obtain ⟨f, fd, F, hm, hkp, hb⟩ := c.ex
  exact pe_call F (hr.mono hk) hg hm hkp hb .nil pass0 ha hdb he hpl
theorem Frm.seq {K : PySem.W.Frag} {H H' : Hp} {p a : Addr} {n : Nat} {xs : List V} (f : Frm p H H') (P : Pen H p n) (h : SqL K H a xs) : SqL K H' a xs := by
  obtain ⟨c, ns, k, l, hp, _⟩ := P
  rcases h with (h | ⟨o, h⟩) | h
  · exact .inl (.inl (f _ _ h (ne_of h hp (by intro z; cases z))))
  · exact .inl (.inr ⟨o, f _ _ h (ne_of h hp (by intro z; cases z))⟩)
  · exact .inr h
theorem Frm.tup {K : PySem.W.Frag} {H H' : Hp} {p a : Addr} {n : Nat} {xs : List V} (f : Frm p H H') (P : Pen H p n) (h : SqT K H a xs) : SqT K H' a xs := by
  obtain ⟨c, ns, k, l, hp, _⟩ := P
  rcases h with (h | ⟨o, h⟩) | h
  · exact .inl (.inl (f _ _ h (ne_of h hp (by intro z; cases z))))
  · exact .inl (.inr ⟨o, f _ _ h (ne_of h hp (by intro z; cases z))⟩)
  · exact .inr h
/-- an item of a list that is not empty -/
def spPick (K : PySem.W.Frag) : Sp := fun vs H Q _ => ∃ (p a : Addr) (xs : List V) (n : Nat), vs = [.ref p, .ref a] ∧ SqL K H a xs ∧ 0 < xs.length ∧ xs.length ≤ 1000 ∧ Pen H p n ∧ n ≤ 1000000 ∧
  ∀ (v : V) (H' : Hp), v ∈ xs → Pen H' p (n + 1) → Frm p H H' → Q v H'
/-- some number, not too great -/
def spWhole : Sp := fun vs H Q _ => ∃ (p : Addr) (n : Nat), vs = [.ref p] ∧ Pen H p n ∧ n ≤ 900000 ∧
  ∀ (r : Int) (H' : Hp), -(10 ^ 30) < r → r < 10 ^ 30 → Pen H' p (n + 3) → Frm p H H' → Q (.int r) H'
/-- the pen, made of the script -/
def spPen (K : PySem.W.Frag) : Sp := fun vs H Q _ => ∃ (a : Addr) (ns : List Int), vs = [.ref a] ∧ SqL K H a (ns.map V.int) ∧ ns.length ≤ 63 ∧
  ∀ (p : Addr) (H' : Hp), H p = none → Pen H' p 0 → Same H H' → Q (.ref p) H'
structure Bl (mg : Str → Option Value) : Prop where
  int : mg "int" = none
  len : mg "len" = none
  abs : mg "abs" = none
  list : mg "list" = none
theorem dg {H : Hp} {p : Addr} {kvs : List (Key × V)} {x : Str} {v : V} (h : H p = some (.dK kvs)) (e : valV kvs (.inr x) = some v) : DGet H p (.str x) (some v) := e ▸ DGet.k (k := .inr x) h
theorem dp {H : Hp} {p : Addr} {kvs kvs' : List (Key × V)} {x : Str} {v : V} (h : H p = some (.dK kvs)) (e : putK kvs (.inr x) v = kvs') (hl : kvs.length < sizeLine) : DPut H p (.str x) v (upd H p (.dK kvs')) := e ▸ DPut.k (k := .inr x) h hl
theorem pen_small (c : Addr) (k l : Int) : (penK c k l).length < sizeLine := by show 3 < sizeLine; decide
theorem mod_bd (a b : Int) (h : 0 < b) : 0 ≤ a % b ∧ a % b < b := ⟨Int.emod_nonneg a (by omega), Int.emod_lt_of_pos a h⟩
theorem boot_absO : bootBuiltins ("abs" : Str) = some (.builtin "abs") := by decide +kernel
section
variable {P : Program} {w : World} {K : PySem.W.Frag} {mg : Str → Option Value} {base : Heap}
theorem scDraw : FnScope ["_law_pen_here", "_law_many", "_law_digit", "_law_k", "_law_size", "_law_cell", "_law_mix"] ["_law_pen_here", "_law_many"] (defScope sDraw) := ⟨rfl, rfl, rfl, by decide +kernel, rfl, by decide +kernel, by decide +kernel⟩
theorem div200 {m : Int} (h : 0 < m) (h2 : m.natAbs < 2 ^ 200) (i : Int) : CDivW i m := wide_div h h2 (by decide) (by decide)
theorem ok_draw {f : Addr} {fd : FuncData} (F : Fun K "_law_draw" "_law_draw" sDraw f fd) (B : Bl mg) : FnOk P w K mg base CX0 1 f fd ["_law_pen_here", "_law_many"] spDraw := by
  refine F.ok scDraw (fun vs H Q E h => ?_) (fun cdv A outer s H vs Q E hr h => ?_)
  · obtain ⟨p, m, n, rfl, _⟩ := h
    rfl
  · obtain ⟨p, m, n, rfl, hm, hmb, ⟨c, ns, k, l, hp, hc, hns, hk0, hkn, hl⟩, hn, q⟩ := h
    have hu := hu_of hr
    have ncp : c ≠ p := ne_of hc hp (by intro z; cases z)
    have nd := scDraw.nd
    refine ⟨_, pss_cons (ps_if (pt_cmpR op_gt (pe_dget hu (pv 0) pe_str (fun _ _ => rfl)) pe_int (nomark _))
        (pss_cons (ps_set (i := 2) nd rfl (.inl rfl) (pe_op op_mod (pe_callTy call_int1 (by rfl) B.int boot_int (pa_cons (pe_dget hu (pv 0) pe_str (fun _ _ => rfl)) pa_nil)) (pv 1)))
        (pss_cons (ps_dput hu (pv 0) pe_str (pe_op op_fdivW (pe_dget hu (pv 0) pe_str (fun _ _ => rfl)) (pv 1)) rfl)
        (pss_one (ps_ret (pv 2))))) pss_nil)
      (pss_cons (ps_par (i := 3) (j := 4) rfl nd rfl rfl (by decide) rfl rfl (pa_cons (pe_dget hu (pv 0) pe_str (fun _ _ => rfl)) (pa_cons (pe_callB call_len_seq (by rfl) B.len PySem.boot_len (pa_cons (pe_dget hu (pv 0) pe_str (fun _ _ => rfl)) pa_nil)) pa_nil)) rfl)
      (pss_cons (ps_dput hu (pv 0) pe_str (pe_op op_add (pv 3) pe_int) rfl)
      (Evl.pss_cut (ps_set (i := 5) nd rfl (.inl rfl) (pe_ifExp (pt_cmpR op_gt (pv 4) pe_int (nomark _))
          (pe_ix ix_list (pe_dget hu (pv 0) pe_str (fun _ _ => rfl)) (pe_op op_mod (pe_callTy call_int1 (by rfl) B.int boot_int (pa_cons (pv 3) pa_nil)) (pv 4)) (fun _ _ => rfl))
          (pe_op op_add (pe_op op_mul pe_int (pv 3)) pe_int)))
      (Evl.pss_cut (ps_if (PW.pt (pw_and (pt_cmpR op_lt (pv 3) (pv 4) (nomark _)) (pw_and1 (pt_cmpR op_ge (pe_callB call_abs (by rfl) B.abs boot_absO (pa_cons (pv 5) pa_nil)) (pe_op op_pow pe_int pe_int) (nomark _)))))
        (pss_cons (ps_dput hu (pv 0) pe_str (pe_op op_fdivW (pe_op op_sub (pe_callB call_abs (by rfl) B.abs boot_absO (pa_cons (pv 5) pa_nil)) (pe_op op_pow pe_int pe_int)) (pv 1)) rfl)
        (pss_one (ps_ret (pe_op op_mod (pe_callTy call_int1 (by rfl) B.int boot_int (pa_cons (pe_op op_sub (pe_callB call_abs (by rfl) B.abs boot_absO (pa_cons (pv 5) pa_nil)) (pe_op op_pow pe_int pe_int)) pa_nil)) (pv 1))))) pss_nil)
      (pss_cons (ps_set (i := 6) nd rfl (.inl rfl) (pe_op op_mod (pe_callTy call_int1 (by rfl) B.int boot_int (pa_cons
          (pe_op op_add (pe_op op_add (pe_op op_add (pe_op op_mul (pe_op op_mod (pe_callTy call_int1 (by rfl) B.int boot_int (pa_cons (pv 5) pa_nil)) pe_int) pe_int) (pe_op op_mul (pe_op op_mul pe_int (pv 3)) (pv 3))) (pe_op op_mul pe_int (pv 3))) pe_int) pa_nil)) pe_int))
      (pss_cons (ps_set (i := 6) nd rfl (.inl rfl) (pe_op op_mod (pe_callTy call_int1 (by rfl) B.int boot_int (pa_cons
          (pe_op op_add (pe_op op_add (pe_op op_mul (pv 6) (pv 6)) (pe_op op_mul pe_int (pv 6))) (pe_op op_mul pe_int (pv 3))) pa_nil)) pe_int))
      (pss_one (ps_ret (pe_op op_mod (pe_callTy call_int1 (by rfl) B.int boot_int (pa_cons (pe_op op_fdiv (pe_op op_mod (pe_callTy call_int1 (by rfl) B.int boot_int (pa_cons (pe_op op_mul (pv 6) (pe_op op_add (pv 6) pe_int)) pa_nil)) pe_int) pe_int) pa_nil)) (pv 1)))))))))), ?_⟩
    -- if pen['left'] > 0
    have dL : DGet H p (.str "left") (some (.int l)) := dg hp (pen_left c k l)
    have dB : DGet H p (.str "begun") (some (.int k)) := dg hp (pen_begun c k l)
    have dC : DGet H p (.str "cells") (some (.ref c)) := dg hp (pen_cells c k l)
    refine ⟨_, rfl, p, .int l, rfl, dL, _, _, rfl, rfl, _, rfl, ite2 (fun e => ?_) (fun e => ?_)⟩
    · have hl1 : 0 < l := of_decide_eq_true e
      refine ⟨_, rfl, p, .int l, rfl, dL, .inl ⟨l, rfl, _, rfl, l, m, rfl, rfl, hm, ?_⟩⟩
      refine ⟨_, rfl, p, .int l, rfl, dL, _, rfl, l, m, rfl, rfl, div200 hm hmb l, _, rfl, p, _, rfl, dp hp (pen_put_left c k l _) (pen_small c k l), _, rfl, ?_⟩
      refine q (l % m) _ (mod_bd l m hm).1 (mod_bd l m hm).2 ⟨c, ns, k, l / m, upd_same, by rw [upd_ne ncp]; exact hc, hns, hk0, by omega, Int.ediv_nonneg hl (by omega)⟩ (Frm.pen hp)
    · -- k, size = pen['begun'], len(pen['cells'])
      have hcL : SqL K H c (ns.map V.int) := .inl (.inl hc)
      refine ⟨_, rfl, p, .int k, rfl, dB, _, rfl, p, .ref c, rfl, dC, c, _, rfl, .inl hcL, _, _, rfl, ?_⟩
      refine ⟨_, rfl, _, _, rfl, rfl, _, rfl, p, _, rfl, dp hp (pen_put_begun c k l _) (pen_small c k l), ?_⟩
      -- cell = ..
      have hl0 : l = 0 := by
        have : ¬ (0 < l) := fun z => e (decide_eq_true z)
        omega
      have hp1 : (upd H p (.dK (penK c (k + 1) l))) p = some (.dK (penK c (k + 1) l)) := upd_same
      have hc1 : (upd H p (.dK (penK c (k + 1) l))) c = some (.lst (ns.map V.int)) := by rw [upd_ne ncp]; exact hc
      have dC1 := dg (x := "cells") hp1 (pen_cells c (k + 1) l)
      have hcL1 : SqL K (upd H p (.dK (penK c (k + 1) l))) c (ns.map V.int) := .inl (.inl hc1)
      have fin : ∀ (r y : Int), 0 ≤ r → r < m → 0 ≤ y → ∀ H', H' = upd H p (.dK (penK c (k + 1) y)) → Q (.int r) H' := fun r y h0 h1 hy H' e => by
        subst e
        exact q r _ h0 h1 ⟨c, ns, k + 1, y, upd_same, by rw [upd_ne ncp]; exact hc, hns, by omega, by omega, hy⟩ (Frm.pen hp)
      refine ⟨fun σ' H' => ∃ cell : Int, σ' = [some (.ref p), some (.int m), none, some (.int k), some (.int ((ns.map V.int).length : Int)), some (.int cell), none] ∧ H' = upd H p (.dK (penK c (k + 1) l)), ?_, ?_⟩
      · refine ⟨_, rfl, _, _, rfl, rfl, _, rfl, ite2 (fun e2 => ?_) (fun e2 => ?_)⟩
        · have hsz : (0 : Int) < ((ns.map V.int).length : Int) := of_decide_eq_true e2
          have hb := mod_bd k _ hsz
          have hj : (k % ((ns.map V.int).length : Int)).toNat < ns.length := by
            rw [List.length_map] at hb ⊢
            omega
          refine ⟨_, rfl, p, _, rfl, dC1, _, rfl, .inl ⟨k, rfl, _, rfl, k, _, rfl, rfl, hsz, c, ns.map V.int, _, .int ns[(k % ((ns.map V.int).length : Int)).toNat], rfl, rfl, hcL1, ?_, ?_⟩⟩
          · have := atI_nat (xs := ns.map V.int) (j := (k % ((ns.map V.int).length : Int)).toNat) (v := .int ns[(k % ((ns.map V.int).length : Int)).toNat]) (by rw [List.getElem?_map, List.getElem?_eq_getElem hj]; rfl)
            rw [Int.toNat_of_nonneg hb.1] at this
            exact this
          · exact ⟨_, rfl, rfl⟩
        · refine ⟨_, rfl, _, _, rfl, rfl, .inl ⟨by decide, by decide⟩, _, _, rfl, rfl, ?_⟩
          exact ⟨_, rfl, rfl⟩
      · rintro σ' H' ⟨cell, rfl, rfl⟩
        refine ⟨fun σ' H' => σ' = [some (.ref p), some (.int m), none, some (.int k), some (.int ((ns.map V.int).length : Int)), some (.int cell), none] ∧ H' = upd H p (.dK (penK c (k + 1) l)), ?_, ?_⟩
        · have hpow : CPow 10 18 := ⟨by decide, by decide, by decide⟩
          refine ⟨_, rfl, _, rfl, _, _, rfl, rfl, _, rfl, ite2 (fun e2 => ?_) (fun e2 => ?_)⟩
          · refine ⟨_, rfl, cell, rfl, _, _, rfl, rfl, hpow, _, _, rfl, rfl, _, rfl, ite2 (fun e3 => ?_) (fun e3 => ?_)⟩
            · have hge := of_decide_eq_true e3
              refine ⟨_, rfl, cell, rfl, _, _, rfl, rfl, hpow, _, _, rfl, rfl, _, rfl, _, _, rfl, rfl, div200 hm hmb _, _, rfl, p, _, rfl, dp hp1 (pen_put_left c (k + 1) l _) (pen_small c _ l), ?_⟩
              refine ⟨_, rfl, cell, rfl, _, _, rfl, rfl, hpow, _, _, rfl, rfl, .inl ⟨_, rfl, _, rfl, _, _, rfl, rfl, hm, ?_⟩⟩
              refine fin _ (((if cell < 0 then -cell else cell) - 10 ^ (18 : Int).toNat) / m) (mod_bd _ m hm).1 (mod_bd _ m hm).2 (Int.ediv_nonneg ?_ (by omega)) _ ?_
              · show (0 : Int) ≤ (if cell < 0 then -cell else cell) - 10 ^ (18 : Int).toNat
                have : (10 : Int) ^ (18 : Int).toNat ≤ (if cell < 0 then -cell else cell) := hge
                omega
              · rw [upd_upd]
            · exact ⟨rfl, rfl⟩
          · exact iteF ⟨rfl, rfl⟩
        · rintro σ' H' ⟨rfl, rfl⟩
          -- mix
          refine ⟨_, rfl, .inl ⟨_, rfl, _, _, rfl, rfl, (by show (0 : Int) < 4294966769; decide), _, _, rfl, rfl, .inr ⟨by decide, by decide⟩, _, rfl, _, _, rfl, rfl, .inl ⟨by decide, by decide⟩, _, rfl, _, _, rfl, rfl, .inl ?_, _, _, rfl, rfl, _, rfl, _, _, rfl, rfl, .inl ⟨by decide, by decide⟩, _, _, rfl, rfl, _, _, rfl, rfl, .inl ⟨_, rfl, _, _, rfl, rfl, (by show (0 : Int) < 4294966813; decide), ?_⟩⟩⟩
          · constructor <;> omega
          -- mix again
          generalize hM : (cell % 4294966769 * 43313 + 31699 * k * k + 613 * k + 41) % 4294966813 = M
          have hMb : 0 ≤ M ∧ M < 4294966813 := hM ▸ mod_bd _ _ (by decide)
          refine ⟨_, rfl, _, rfl, _, _, rfl, rfl, .inl (by constructor <;> omega), _, rfl, _, _, rfl, rfl, .inl ⟨by decide, by decide⟩, _, _, rfl, rfl, _, rfl, _, _, rfl, rfl, .inl ⟨by decide, by decide⟩, _, _, rfl, rfl, .inl ⟨_, rfl, _, _, rfl, rfl, (by show (0 : Int) < 4294966787; decide), ?_⟩⟩
          generalize hM2 : (M * M + 40961 * M + 17 * k) % 4294966787 = M2
          have hMb2 : 0 ≤ M2 ∧ M2 < 4294966787 := hM2 ▸ mod_bd _ _ (by decide)
          refine ⟨_, rfl, _, rfl, _, _, rfl, rfl, _, _, rfl, rfl, .inl (by constructor <;> omega), .inl ⟨_, rfl, _, _, rfl, rfl, (by show (0 : Int) < 4294966661; decide), _, _, rfl, rfl, ⟨by decide, by decide⟩, .inl ⟨_, rfl, _, rfl, _, _, rfl, rfl, hm, ?_⟩⟩⟩
          exact fin _ l (mod_bd _ m hm).1 (mod_bd _ m hm).2 hl _ rfl
theorem scPick : FnScope ["_law_pen_here", "_law_items"] ["_law_pen_here", "_law_items"] (defScope sPick) := ⟨rfl, rfl, rfl, by decide +kernel, rfl, by decide +kernel, by decide +kernel⟩
theorem ok_pick {f : Addr} {fd : FuncData} (F : Fun K "_law_pick" "_law_pick" sPick f fd) (B : Bl mg) (D : Cl P w K mg base 1 "_law_draw" ["_law_pen_here", "_law_many"] spDraw) : FnOk P w K mg base CX0 2 f fd ["_law_pen_here", "_law_items"] (spPick K) := by
  refine F.ok scPick (fun vs H Q E h => ?_) (fun cdv A outer s H vs Q E hr h => ?_)
  · obtain ⟨p, a, xs, n, rfl, _⟩ := h
    rfl
  · obtain ⟨p, a, xs, n, rfl, hS, h0, h1, hP, hn, q⟩ := h
    refine ⟨_, pss_one (ps_ret (pe_ix ix_list (pv 1) (pe_cl D hr (by decide) (by rfl) (pa_cons (pv 0) (pa_cons (pe_callB call_len_seq (by rfl) B.len PySem.boot_len (pa_cons (pv 1) pa_nil)) pa_nil))) (fun _ _ => rfl))), ?_⟩
    refine ⟨_, rfl, _, rfl, _, rfl, a, xs, rfl, .inl hS, p, xs.length, n, rfl, by omega, ?_, hP, hn, fun r H' hr0 hr1 hP' hF => ?_⟩
    · have : xs.length < 2 ^ 200 := Nat.lt_of_le_of_lt h1 (by decide)
      simpa using this
    · have hj : r.toNat < xs.length := by omega
      refine ⟨a, xs, r, xs[r.toNat], rfl, rfl, hF.seq hP hS, ?_, q _ _ (List.getElem_mem hj) hP' hF⟩
      have := atI_nat (xs := xs) (j := r.toNat) (v := xs[r.toNat]) (List.getElem?_eq_getElem hj)
      rw [Int.toNat_of_nonneg hr0] at this
      exact this
theorem scPen : FnScope ["_law_script"] ["_law_script"] (defScope sPen) := ⟨rfl, rfl, rfl, by decide +kernel, rfl, by decide +kernel, by decide +kernel⟩
theorem cut63 (ns : List Int) : cutV (ns.map V.int) none (some 63) = (ns.take 63).map V.int := by
  unfold cutV
  rw [HT.sIx_none, show HT.sIx (ns.map V.int).length (ns.map V.int).length (some 63) = min 63 (ns.map V.int).length from HT.sIx_nat _ _ 63, List.drop_zero, Nat.sub_zero, List.map_take]
  rcases Nat.le_total 63 (ns.map V.int).length with h | h
  · rw [Nat.min_eq_left h]
  · rw [Nat.min_eq_right h, List.take_of_length_le (Nat.le_refl _), List.take_of_length_le h]
theorem ok_pen {f : Addr} {fd : FuncData} (F : Fun K "_law_pen" "_law_pen" sPen f fd) (B : Bl mg) : FnOk P w K mg base CX0 1 f fd ["_law_script"] (spPen K) := by
  refine F.ok scPen (fun vs H Q E h => ?_) (fun cdv A outer s H vs Q E hr h => ?_)
  · obtain ⟨a, ns, rfl, _⟩ := h
    rfl
  · obtain ⟨a, ns, rfl, hS, hlen, q⟩ := h
    refine ⟨_, pss_one (ps_ret (pe_disp (pps_cons pe_str (pe_callTy call_list_of (by rfl) B.list (by decide +kernel) (pa_cons (pe_slice sl_list (pv 0) po_none (po_some pe_int)) pa_nil)) (pps_cons pe_str pe_int (pps_cons pe_str pe_int pps_nil))) rfl rfl (by simp) (by decide))), ?_⟩
    intro p hp
    have s1 : Same H (upd H p (.dK [])) := fun b o e => by rw [upd_ne (ne_of_none e hp)]; exact e
    refine ⟨_, rfl, _, rfl, a, _, rfl, s1.seq hS, fun x hx => ?_⟩
    refine ⟨x, _, rfl, .inl (.inl (.inl upd_same)), fun c hc => ?_⟩
    have npx : p ≠ x := ne_of_none upd_same hx
    have npc : p ≠ c := by
      intro e
      subst e
      rw [upd_ne npx, upd_same] at hc
      cases hc
    have a1 : putK ([] : List (Key × V)) (.inr ("cells" : Str)) (.ref c) = [(.inr ("cells" : Str), .ref c)] := putK_new _ valV_nil
    have a2 : putK ([(.inr ("cells" : Str), .ref c)] : List (Key × V)) (.inr ("begun" : Str)) (.int 0) = [(.inr ("cells" : Str), .ref c), (.inr ("begun" : Str), .int 0)] := putK_new _ ((valV_neg (fun e => kBC e.symm)).trans valV_nil)
    have a3 : putK ([(.inr ("cells" : Str), .ref c), (.inr ("begun" : Str), .int 0)] : List (Key × V)) (.inr ("left" : Str)) (.int 0) = penK c 0 0 := putK_new _ ((valV_neg (fun e => kLC e.symm)).trans ((valV_neg (fun e => kLB e.symm)).trans valV_nil))
    have e3 : mergeK [] (penK c 0 0) = penK c 0 0 := by
      show putK (putK (putK ([] : List (Key × V)) (.inr ("cells" : Str)) (.ref c)) (.inr ("begun" : Str)) (.int 0)) (.inr ("left" : Str)) (.int 0) = penK c 0 0
      rw [a1, a2, a3]
    refine ⟨by rw [upd_ne npc, upd_ne npx, upd_same], penK c 0 0, rfl, by show 3 ≤ 15; decide, ?_⟩
    rw [e3]
    refine q p _ hp ⟨c, ns.take 63, 0, 0, upd_same, ?_, by rw [List.length_take]; omega, by omega, by omega, by omega⟩ fun b o e => ?_
    · rw [upd_ne npc.symm, upd_same, cut63]
    · have h1 := s1 b o e
      have nbx : b ≠ x := ne_of_none h1 hx
      have h2 : (upd (upd H p (.dK [])) x (.lst (cutV (ns.map V.int) none (some 63)))) b = some o := by rw [upd_ne nbx]; exact h1
      rw [upd_ne (ne_of_none e hp), upd_ne (ne_of_none h2 hc)]
      exact h2
end
end OR

namespace OR
open PySem PySem.Spec PyProof.Rows L2
section
variable {P : Program} {w : World} {K : PySem.W.Frag} {mg : Str → Option Value} {base : Heap}
theorem scWhole : FnScope ["_law_pen_here", "_law_size"] ["_law_pen_here"] (defScope sWhole) := ⟨rfl, rfl, rfl, by decide +kernel, rfl, by decide +kernel, by decide +kernel⟩
theorem ok_whole {f : Addr} {fd : FuncData} (F : Fun K "_law_whole" "_law_whole" sWhole f fd) (D : Cl P w K mg base 1 "_law_draw" ["_law_pen_here", "_law_many"] spDraw) (C : Cl P w K mg base 2 "_law_pick" ["_law_pen_here", "_law_items"] (spPick K)) :
    FnOk P w K mg base CX0 3 f fd ["_law_pen_here"] spWhole := by
  refine F.ok scWhole (fun vs H Q E h => ?_) (fun cdv A outer s H vs Q E hr h => ?_)
  · obtain ⟨p, n, rfl, _⟩ := h
    rfl
  · obtain ⟨p, n, rfl, hP, hn, q⟩ := h
    refine ⟨_, pss_cons (ps_set (i := 1) scWhole.nd rfl (.inl rfl) (pe_cl C hr (by decide) (by rfl) (pa_cons (pv 0) (pa_cons (pe_lst (pa_cons pe_int (pa_cons pe_int (pa_cons pe_int (pa_cons (pe_op op_pow pe_int pe_int) (pa_cons (pe_op op_pow pe_int pe_int) pa_nil)))))) pa_nil))))
      (pss_one (ps_ret (pe_op op_mul (pe_cl D hr (by decide) (by rfl) (pa_cons (pv 0) (pa_cons (pv 1) pa_nil))) (pe_cl C hr (by decide) (by rfl) (pa_cons (pv 0) (pa_cons (pe_lst (pa_cons pe_int (pa_cons pe_int (pa_cons (pe_un un_neg pe_int) pa_nil)))) pa_nil)))))), ?_⟩
    refine ⟨_, rfl, _, _, rfl, rfl, ⟨by decide, by decide, by decide⟩, _, _, rfl, rfl, ⟨by decide, by decide, by decide⟩, by show 5 ≤ sizeLine; decide, fun a ha => ?_⟩
    have P1 := hP.new (o := .lst [.int 3, .int 10, .int 100, .int (10 ^ (6 : Int).toNat), .int (10 ^ (30 : Int).toNat)]) ha
    refine ⟨p, a, _, n, rfl, .inl (.inl upd_same), by show 0 < 5; decide, by show 5 ≤ 1000; decide, P1, by omega, fun v H2 hv P2 F2 => ?_⟩
    obtain ⟨m, rfl, hm0, hm1⟩ : ∃ m : Int, v = .int m ∧ 0 < m ∧ m ≤ 10 ^ 30 := by
      simp only [List.mem_cons, List.not_mem_nil, or_false] at hv
      rcases hv with e | e | e | e | e <;> subst e <;> exact ⟨_, rfl, by decide, by decide⟩
    have hmb : m.natAbs < 2 ^ 200 := by
      have : m.natAbs ≤ 10 ^ 30 := by omega
      exact Nat.lt_of_le_of_lt this (by decide)
    refine ⟨_, rfl, _, rfl, p, m, n + 1, rfl, hm0, hmb, P2, by omega, fun r H3 hr0 hr1 P3 F3 => ?_⟩
    refine ⟨_, rfl, _, rfl, by show 3 ≤ sizeLine; decide, fun b hb => ?_⟩
    refine ⟨p, b, _, n + 2, rfl, .inl (.inl upd_same), by show 0 < 3; decide, by show 3 ≤ 1000; decide, P3.new hb, by omega, fun v H4 hv P4 F4 => ?_⟩
    obtain ⟨s, rfl, hs⟩ : ∃ s : Int, v = .int s ∧ (s = 1 ∨ s = -1) := by
      simp only [List.mem_cons, List.not_mem_nil, or_false] at hv
      rcases hv with e | e | e <;> subst e
      · exact ⟨_, rfl, .inl rfl⟩
      · exact ⟨_, rfl, .inl rfl⟩
      · exact ⟨_, rfl, .inr rfl⟩
    refine ⟨r, s, rfl, rfl, .inr (by constructor <;> omega), q _ _ ?_ ?_ P4 ((((Frm.new ha).trans F2).trans F3).trans ((Frm.new hb).trans F4))⟩
    · rcases hs with rfl | rfl <;> omega
    · rcases hs with rfl | rfl <;> omega
end
end OR

namespace OR
open PySem PySem.Spec PyProof.Rows L2
/-! ### own classes: double-underscore methods behind the signs -/
/-- a method of the class at C, called with its object and arguments by position -/
structure Md (P : Program) (w : World) (K : PySem.W.Frag) (mg : Str → Option Value) (base : Heap) (k : Nat) (C : Addr) (m : Str) (sp : Sp) : Prop where
  ex : ∃ f, FnR P w K mg base CX0 k f sp ∧ PySem.W.findIn K (.ref C) m = some (some (.ref f)) ∧ PySem.W.isFn K (.ref f) = true ∧ PySem.W.fnIn K f = true
theorem fnR_of {P : Program} {w : World} {K : PySem.W.Frag} {mg : Str → Option Value} {base : Heap} {k : Nat} {f : Addr} {fd : FuncData} {ps : List Str} {sp : Sp} (F : FnOk P w K mg base CX0 k f fd ps sp) (hb : Binds K fd ps []) : FnR P w K mg base CX0 k f sp :=
  (F.raw hb .nil).imp fun vs H Q E h => by rw [List.append_nil]; exact h
section
variable {X : Cx} {n : Nat} {C : Addr} {sp : Sp}
def rBinS (C : Addr) (sp : Sp) : R2 := fun x y H Q => ∃ a b dx dy fs gs, x = .ref a ∧ y = .ref b ∧ H a = some (.ins C dx fs) ∧ H b = some (.ins C dy gs) ∧ sp [x, y] H Q E0
theorem op_binS {op : Operator} (m : Md X.prog X.w X.K X.mg X.base n C (PySem.dunder op.info.2) sp) (sf : PySem.W.selfFirst X.K C = true) (hr : Room n X.A) : OpR X (binaryOp op) (rBinS C sp) := by
  intro pins s σ H x y v u Q I rx ry h
  obtain ⟨f, F, hs, hf, _⟩ := m.ex
  obtain ⟨a, b, dx, dy, fs, gs, rfl, rfl, ha, hb, q⟩ := h
  cases (show v = Value.ref a from rx)
  cases (show u = Value.ref b from ry)
  obtain ⟨mA, J, _⟩ := ins_get I.hok ha
  obtain ⟨mB, J', _⟩ := ins_get I.hok hb
  obtain ⟨od, J, _⟩ := J.look
  obtain ⟨od', J', _⟩ := J'.look
  obtain ⟨m, hF⟩ := I.fr
  refine PySem.W.binop_K hF I.ok.mod.kin J J'.type sf hs hf ?_
  refine wpAny_mono (wpAny_call (run_fnR (us := [.ref a, .ref b]) (vs := [.ref a, .ref b]) F hr pass0 I (.cons rfl (.cons rfl .nil)) q)) (fun w s' z => ?_) fun _ _ x => x
  obtain ⟨z', H', I', rz, qz⟩ := z
  exact SlX.cmpback rz ⟨z', H', I', rz, qz⟩
/-- what + and the like ask of the class for an int on the right -/
structure BinI (K : PySem.W.Frag) (C : Addr) (op : Operator) : Prop where
  rc : ∃ rc, PySem.W.findIn K (.ref C) (PySem.dunderR op.info.2) = some rc ∧ (rc = none ∨ ∃ g : Addr, rc = some (.ref g))
  fo : ∃ fo, PySem.W.findIn K (.type "int") (PySem.dunder op.info.2) = some fo
  ro : ∃ ro, PySem.W.findIn K (.type "int") (PySem.dunderR op.info.2) = some ro
  sub : PySem.W.subIn K (.type "int") (.ref C) = some false
def rBinI (C : Addr) (sp : Sp) : R2 := fun x y H Q => ∃ a dx fs i, x = .ref a ∧ y = .int i ∧ H a = some (.ins C dx fs) ∧ sp [x, y] H Q E0
theorem op_binI {op : Operator} (m : Md X.prog X.w X.K X.mg X.base n C (PySem.dunder op.info.2) sp) (b : BinI X.K C op) (sf : PySem.W.selfFirst X.K C = true) (hr : Room n X.A) : OpR X (binaryOp op) (rBinI C sp) := by
  intro pins s σ H x y v u Q I rx ry h
  obtain ⟨f, F, hs, hf, _⟩ := m.ex
  obtain ⟨a, dx, fs, i, rfl, rfl, ha, q⟩ := h
  cases (show v = Value.ref a from rx)
  obtain ⟨t, rfl⟩ := (show ∃ t, u = Value.int i t from ry)
  obtain ⟨mA, J, _⟩ := ins_get I.hok ha
  obtain ⟨od, J, _⟩ := J.look
  obtain ⟨m, hF⟩ := I.fr
  obtain ⟨rc, hrc, hp⟩ := b.rc
  obtain ⟨fo, h1⟩ := b.fo
  obtain ⟨ro, h2⟩ := b.ro
  refine PySem.W.ksp_binT (T := "int") hF I.ok.mod.kin J rfl sf hs hf hrc hp h1 h2 b.sub ?_
  refine wpAny_mono (wpAny_call (run_fnR (us := [.ref a, .int i t]) (vs := [.ref a, .int i]) F hr pass0 I (.cons rfl (.cons ⟨t, rfl⟩ .nil)) q)) (fun w s' z => ?_) fun _ _ x => x
  obtain ⟨z', H', I', rz, qz⟩ := z
  exact SlX.cmpback rz ⟨z', H', I', rz, qz⟩
def rNegO (C : Addr) (sp : Sp) : V → Hp → VK → Prop := fun x H Q => ∃ a dx fs, x = .ref a ∧ H a = some (.ins C dx fs) ∧ sp [x] H Q E0
theorem un_negO (m : Md X.prog X.w X.K X.mg X.base n C "__neg__" sp) (hr : Room n X.A) : UnR X (unaryOp .USub) (rNegO C sp) := by
  intro pins s σ H x v Q I rx h
  obtain ⟨f, F, hs, hf, _⟩ := m.ex
  obtain ⟨a, dx, fs, rfl, ha, q⟩ := h
  cases (show v = Value.ref a from rx)
  obtain ⟨mA, J, _⟩ := ins_get I.hok ha
  obtain ⟨od, J, _⟩ := J.look
  obtain ⟨m, hF⟩ := I.fr
  refine PySem.W.ksp_neg hF I.ok.mod.kin J hs hf ?_
  refine wpAny_mono (wpAny_call (run_fnR (us := [.ref a]) (vs := [.ref a]) F hr pass0 I (.cons rfl .nil) q)) (fun w s' z => ?_) fun _ _ x => x
  exact z
end
/-- a reading may ask for more -/
theorem pe_imp {X : Cx} {e : Expr} {t t' : TE} (h : PE X e t) (i : ∀ σ H Q, t' σ H Q → t σ H Q) : PE X e t' := ⟨fun pins s σ H Q I q => h.run pins s σ H Q I (i σ H Q q)⟩
structure FnAt (K : PySem.W.Frag) (x : Str) (st : Stmt) : Prop where
  ex : ∃ f fd, Fun K x x st f fd ∧ PySem.W.nsIn K mainGlobals x = some (some (.ref f))
theorem fnAt {K : PySem.W.Frag} {h : Heap} {x : Str} {st : Stmt} {f : Addr} {oc : Value} {od an : Option Addr} {osl : Array (Option Value)} {kV doc pm cdv ct : Value} (_X : K.In h)
    (a : PySem.W.nsIn K mainGlobals x = some (some (.ref f))) (l : K.lookup f = some ⟨oc, od, .func (PySem.W.fnOf x x (defArgs st) (defBody st) (defScope st) .none kV doc pm an cdv ct), osl⟩)
    (c : PySem.W.codeIn K cdv x = true) (k : PySem.W.keepIn K (.ref f) = true) : FnAt K x st := ⟨f, _, fun_mk l c k, a⟩
structure MtAt (K : PySem.W.Frag) (C : Addr) (m m' qual : Str) (st : Stmt) : Prop where
  ex : ∃ f fd, Fun K m qual st f fd ∧ PySem.W.findIn K (.ref C) m' = some (some (.ref f)) ∧ PySem.W.isFn K (.ref f) = true ∧ PySem.W.fnIn K f = true
theorem mtAt {K : PySem.W.Frag} {h : Heap} {C : Addr} {m m' qual : Str} {st : Stmt} {f : Addr} {oc : Value} {od an : Option Addr} {osl : Array (Option Value)} {kV doc pm cdv ct : Value} (_X : K.In h)
    (a : PySem.W.findIn K (.ref C) m' = some (some (.ref f))) (l : K.lookup f = some ⟨oc, od, .func (PySem.W.fnOf m qual (defArgs st) (defBody st) (defScope st) .none kV doc pm an cdv ct), osl⟩)
    (c : PySem.W.codeIn K cdv qual = true) (k : PySem.W.keepIn K (.ref f) = true) (i : PySem.W.isFn K (.ref f) = true) (n : PySem.W.fnIn K f = true) : MtAt K C m m' qual st := ⟨f, _, fun_mk l c k, a, i, n⟩
section
variable {P : Program} {w : World} {K : PySem.W.Frag} {mg : Str → Option Value} {base h : Heap}
theorem cl_of {x : Str} {st : Stmt} {k : Nat} {ps : List Str} {sp : Sp} (a : FnAt K x st) (X : K.In h) (G : h.Ns mainGlobals mg)
    (hb : ∀ (kV doc pm : Value) (an : Option Addr) (cdv ct : Value) (us : List Value), us.length = ps.length → bindArgs (PySem.W.fnOf x x (defArgs st) (defBody st) (defScope st) .none kV doc pm an cdv ct) ⟨us, []⟩ = pure (ps.zip us))
    (ok : ∀ f fd, Fun K x x st f fd → FnOk P w K mg base CX0 k f fd ps sp) : Cl P w K mg base k x ps sp := by
  obtain ⟨f, fd, F, e⟩ := a.ex
  exact ⟨f, fd, ok f fd F, PySem.W.mg_of X G e, F.kp, F.binds hb⟩
theorem md_of {C : Addr} {m m' qual : Str} {st : Stmt} {k : Nat} {ps : List Str} {sp : Sp} (a : MtAt K C m m' qual st)
    (hb : ∀ (kV doc pm : Value) (an : Option Addr) (cdv ct : Value) (us : List Value), us.length = ps.length → bindArgs (PySem.W.fnOf m qual (defArgs st) (defBody st) (defScope st) .none kV doc pm an cdv ct) ⟨us, []⟩ = pure (ps.zip us))
    (ok : ∀ f fd, Fun K m qual st f fd → FnOk P w K mg base CX0 k f fd ps sp) : Md P w K mg base k C m' sp := by
  obtain ⟨f, fd, F, e, i, n⟩ := a.ex
  exact ⟨f, fnR_of (ok f fd F) (F.binds hb), e, i, n⟩
end
end OR

namespace OR
open PySem PySem.Spec PyProof.Rows L2
open AutoSeq1 (wpAny_loadPart')
/-! ### enumerate of a tuple -/
section
variable {prog : Program} {w : World} {A : Around} {E : Value → Shared → Prop} {s : Shared}
theorem nextOf_tup_item {it t : Addr} {i : Nat} {items : Array Value} {x : Value} {Q : Value → Shared → Prop} (hit : s.heap.IsTupleIter it t i) (ht : s.heap.IsTuple t items) (hx : items[i]? = some x)
    (hQ : ∀ h', h'.IsTupleIter it t (i + 1) → Heap.SameBut it s.heap h' → Q x { s with heap := h' }) : wpAny (model prog w) A (Builtin.SmallTypes.nextOf (.ref it)) Q E s := by
  obtain ⟨o, ho, hc, hd⟩ := id hit
  obtain ⟨ol, hol, _, nl, hdl⟩ := ht
  unfold Builtin.SmallTypes.nextOf
  refine wpAny_bind (wpAny_callSpecial?_slot (name := Str.ofString "__next__") hit.typeIs F.slot_tuple_iterator_next (wpAny_call_entry F.slot_tuple_iterator_next hit.typeIs F.entry_tuple_iterator_next ?_ (F.args_tuple_iterator_next_1 _)))
  show wpAny _ _ (field (.ref it) 0 >>= _) _ _ s
  refine wpAny_bind (wpAny_field ho hd (x := .ref t) rfl ?_)
  show wpAny _ _ (if (Value.ref t == Value.none) = true then _ else _) _ _ s
  rw [if_neg (show ¬ ((Value.ref t == Value.none) = true) by exact Bool.false_ne_true)]
  show wpAny _ _ (field (.ref it) 1 >>= _) _ _ s
  refine wpAny_bind (wpAny_field ho hd (x := .int i 0) rfl ?_)
  show wpAny _ _ (seqItems? (.ref t) >>= _) _ _ s
  refine wpAny_bind (wpAny_seqItems hol hdl ?_)
  simp only [Int.toNat_natCast, hx]
  refine wpAny_bind (wpAny_setField ho hd (by simp) (wpAny_pure ⟨x, rfl, wpAny_pure (hQ _ ⟨_, Heap.get?_update_self _ ho (Obj.isFreed_of_fields (Obj.data_mapFields hd _)), (Obj.cls_mapFields ..).trans hc, by
    rw [Obj.data_mapFields hd]; simp [rawInt]⟩ (Heap.SameBut.update ..))⟩))
theorem nextOf_tup_end {it t : Addr} {i : Nat} {items : Array Value} {Q : Value → Shared → Prop} (hh : A.handled = none) (hit : s.heap.IsTupleIter it t i) (ht : s.heap.IsTuple t items) (hx : items[i]? = none)
    (hE : ∀ h' e, Heap.ExtBut it s.heap h' → (∃ o, h'.get? e = some o ∧ o.cls = .type "StopIteration") → E (.ref e) { s with heap := h' }) : wpAny (model prog w) A (Builtin.SmallTypes.nextOf (.ref it)) Q E s := by
  obtain ⟨o, ho, hc, hd⟩ := id hit
  obtain ⟨ol, hol, _, nl, hdl⟩ := ht
  unfold Builtin.SmallTypes.nextOf
  refine wpAny_bind (wpAny_callSpecial?_slot (name := Str.ofString "__next__") hit.typeIs F.slot_tuple_iterator_next (wpAny_call_entry F.slot_tuple_iterator_next hit.typeIs F.entry_tuple_iterator_next ?_ (F.args_tuple_iterator_next_1 _)))
  show wpAny _ _ (field (.ref it) 0 >>= _) _ _ s
  refine wpAny_bind (wpAny_field ho hd (x := .ref t) rfl ?_)
  show wpAny _ _ (if (Value.ref t == Value.none) = true then _ else _) _ _ s
  rw [if_neg (show ¬ ((Value.ref t == Value.none) = true) by exact Bool.false_ne_true)]
  show wpAny _ _ (field (.ref it) 1 >>= _) _ _ s
  refine wpAny_bind (wpAny_field ho hd (x := .int i 0) rfl ?_)
  show wpAny _ _ (seqItems? (.ref t) >>= _) _ _ s
  refine wpAny_bind (wpAny_seqItems hol hdl ?_)
  simp only [Int.toNat_natCast, hx]
  refine wpAny_bind (wpAny_rule (wpAny_bind (wpAny_setField ho hd (by simp) ?_)))
  show wpAny _ _ (newExc (.type "StopIteration") [] >>= _) _ _ _
  refine wpAny_bind ?_
  simp only [newExc, newTuple]
  refine wpAny_bind (wpAny_newObj_type ?_ (by size_fits))
  refine wpAny_bind (m := firstArgMember _ _) (wpAny_of_eq (a := Value.none) (by first | rfl | (simp only [firstArgMember]; rfl)) ?_)
  refine wpAny_newObj_type ?_ (by size_fits)
  simp only [raiseNew]
  refine wpAny_bind (wpAny_handled ?_)
  first | rw [show A.in1.handled = none from hh] | rw [hh]
  refine wpAny_bind (wpAny_pure (wpAny_throw ?_))
  exact hE _ _ (((Heap.SameBut.update ..).extBut.push _).push _) ⟨_, Heap.get?_push_size _ rfl, rfl⟩
theorem draws_tup (hh : A.handled = none) (it t : Addr) (hne : t ≠ it) (items : Array Value) :
    Draws prog w A it [it, t] items.size (fun i v => items[i]? = some v) (fun i h => h.IsTupleIter it t i ∧ h.IsTuple t items) where
  live := fun _ _ st => let ⟨o, ho, _⟩ := st.1; ⟨o, ho⟩
  frame := fun _ _ _ st hk => ⟨let ⟨o, ho, r⟩ := st.1; ⟨o, hk it (by simp) o ho, r⟩, let ⟨o, ho, r⟩ := st.2; ⟨o, hk t (by simp) o ho, r⟩⟩
  item := fun i s Q E hi st hQ => by
    refine nextOf_tup_item st.1 st.2 (x := items[i]) (by simp [hi]) fun h' hit' hs' => ?_
    exact hQ _ h' s.toks (by simp [hi]) ⟨hit', st.2.extBut hs'.extBut hne⟩ hs'
  done := fun s Q E st hE => nextOf_tup_end hh st.1 st.2 (by simp) hE
theorem meets_enum_tup (l : Addr) (items : Array Value) (n : Nat) (dct : Option Addr) (sl : Array (Option Value)) :
    Meets (Builtin.«enumerate.__new__» ⟨[.type "enumerate", .ref l], []⟩) (fun _ R s => s.heap.get? l = some { cls := .type "tuple", dict := dct, data := .seq items n, slots := sl } ∧
      R (.ok (.ret (.ref (s.heap.push { cls := .type "tuple_iterator", data := .fields #[.ref l, .int 0 0] }).objs.size)))
        { s with heap := (s.heap.push { cls := .type "tuple_iterator", data := .fields #[.ref l, .int 0 0] }).push { cls := .type "enumerate", data := .fields #[.none, .bool false, .ref s.heap.objs.size, rawInt 0, .none, .none] } }) :=
  .of_wp fun prog w A R s h => by
    obtain ⟨hp, g, d, tk, os⟩ := s
    obtain ⟨hl, h⟩ := h
    have hsub := sub_enumerate
    have hL : Heap.IsTuple (Shared.heap ⟨hp, g, d, tk, os⟩) l items := ⟨_, hl, rfl, n, rfl⟩
    wp_walk using wpAny_loadPart' hl
    refine wpAny_stack_any fun st => wpAny_pure ?_
    split
    · rename_i c _ _ _ _ _
      cases (c == Value.type "enumerate")
      · wp_walk using wpAny_loadPart' hl, wpAny_pyIter_tuple hL
        exact ⟨_, rfl, h⟩
      · wp_walk using wpAny_loadPart' hl, wpAny_pyIter_tuple hL
        exact ⟨_, rfl, h⟩
    · wp_walk using wpAny_loadPart' hl, wpAny_pyIter_tuple hL
      exact ⟨_, rfl, h⟩
theorem call_enum_tup {l : Addr} {items : Array Value} {Q : Value → Shared → Prop} (hL : s.heap.IsTuple l items)
    (h : ∀ h', IsEnum h' (s.heap.objs.size + 1) s.heap.objs.size 0 .none → h'.IsTupleIter s.heap.objs.size l 0 → h'.objs.size = s.heap.objs.size + 2 →
      (∀ b o, s.heap.get? b = some o → h'.get? b = some o) → Q (.ref (s.heap.objs.size + 1)) { s with heap := h' }) :
    wpAny (model prog w) A (call (.type "enumerate") [.ref l]) Q E s := by
  obtain ⟨⟨c, dct, dt, sl⟩, hl, hc, n, hd⟩ := hL
  replace hc : c = .type "tuple" := hc
  replace hd : dt = .seq items n := hd
  subst hc hd
  refine callType_new F.called_enumerate (by decide) (F.typeCall_enumerate_1 _) (F.newCall_enumerate_1 _) (fun obj => F.args_object_init_2 obj _) F.entry_enumerate_new (meets_enum_tup l items n dct sl) ⟨hl, ?_⟩
  have hz : (s.heap.push { cls := .type "tuple_iterator", data := .fields #[.ref l, .int 0 0] }).objs.size = s.heap.objs.size + 1 := Heap.size_push ..
  show _ ∧ _
  rw [hz]
  have he : IsEnum ((s.heap.push { cls := .type "tuple_iterator", data := .fields #[.ref l, .int 0 0] }).push
      { cls := .type "enumerate", data := .fields #[.none, .bool false, .ref s.heap.objs.size, rawInt 0, .none, .none] }) (s.heap.objs.size + 1) s.heap.objs.size 0 .none := by
    have := Heap.get?_push_size (s.heap.push { cls := .type "tuple_iterator", data := .fields #[.ref l, .int 0 0] })
      (o := { cls := .type "enumerate", data := .fields #[.none, .bool false, .ref s.heap.objs.size, rawInt 0, .none, .none] }) rfl
    rw [hz] at this; exact this
  refine ⟨⟨_, he, rfl⟩, h _ he ⟨_, Heap.get?_push_of_some _ (Heap.get?_push_size _ rfl), rfl, rfl⟩ (by rw [Heap.size_push, hz]) fun b o x => Heap.get?_push_of_some _ (Heap.get?_push_of_some _ x)⟩
end
/-- the tuple at a as it stands at each turn, each item in a new pair -/
def IteT (K : PySem.W.Frag) (a : Addr) : It :=
  ⟨fun i H => ∃ (xs : List V) (x : V), SqT K H a xs ∧ xs[i]? = some x, fun i H v H' => ∃ T x, v = .ref T ∧ H T = none ∧ H' = upd H T (.tup [.int (i : Nat), x]) ∧ ∀ xs, SqT K H a xs → xs[i]? = some x, fun i H => ∃ xs : List V, SqT K H a xs ∧ xs.length ≤ i⟩
theorem turn_enumT {P : Program} {w : World} {K : PySem.W.Frag} {elts : List Expr} {kk : Nat} {tpos : Pos} (a e it : Addr) (hai : a ≠ it) (hea : e ≠ a) :
    Turn P w K (.Tuple elts kk tpos) (IteT K a) [e, it] e (fun i h => (∃ old, IsEnum h e it ((i : Nat) : Int) old) ∧ h.IsTupleIter it a i ∧ e ≠ it) where
  mem := by simp
  obj := fun i h st b hb => by
    obtain ⟨⟨old, he⟩, ⟨o, ho, hc, hd⟩, _⟩ := st
    have e' : b = e ∨ b = it := by simpa using hb
    rcases e' with z | z
    · rw [z]; exact ⟨_, he, fun v q => nomatch q⟩
    · rw [z]; exact ⟨o, ho, fun v q => by rw [hd] at q; cases q⟩
  keep := fun i h h' st k => by
    obtain ⟨⟨old, he⟩, ⟨o, ho, r⟩, hne⟩ := st
    exact ⟨⟨old, k e (by simp) _ he⟩, ⟨o, k it (by simp) o ho, r⟩, hne⟩
  item := by
    intro X hP hw hK hc i pins s σ H E I hf st hg
    subst hP hw hK
    obtain ⟨⟨old, he⟩, hit, hne⟩ := st
    obtain ⟨xs, x, hq, hx⟩ := hg
    obtain ⟨its, rv, p, hz⟩ := I.tuple hq
    obtain ⟨u, hu, ru⟩ := rv.get hx
    have hel : e < s.heap.objs.size := Heap.lt_size he
    have hil : it < s.heap.objs.size := by obtain ⟨_, q, _⟩ := hit; exact Heap.lt_size q
    have hD := draws_tup (prog := X.prog) (w := X.w) (A := X.A.in1) (I.ok.hd hc) it a hai its.toArray
    have hlt : i < its.toArray.size := by
      have := (List.getElem?_eq_some_iff.mp hu).1
      simpa using this
    refine wpAny_pyNext_enum_itemD hD he ⟨hit, show s.heap.IsTuple a its.toArray from p⟩ hlt hne (by simp [hne, hea]) fun y h' tk hy ho hst' hT hsz hk => ?_
    obtain rfl : y = u := by
      have h1 : its[i]? = some y := by simpa using hy
      rw [hu] at h1
      exact (Option.some.inj h1).symm
    refine ⟨_, rfl, wpAny_letOwnedTupleGo_enum (s := { s with heap := h', toks := tk + 1 }) ho fun h'' he' sb => ?_⟩
    have hT2 : h''.get? s.heap.objs.size = some { cls := .type "tuple", data := .seq #[.int i tk, y] } := (sb.2 _ (Nat.ne_of_gt hel)).trans hT
    have new : ObjOk X.prog X.w (upd H s.heap.objs.size (.tup [.int (i : Nat), x])) h'' s.heap.objs.size (.tup [.int (i : Nat), x]) :=
      ⟨by show 2 ≤ sizeLine; decide, [.int i tk, y], .cons ⟨_, rfl⟩ (.cons ru .nil), ⟨_, hT2, rfl, _, rfl⟩⟩
    have I1 : Inv X pins σ (upd H s.heap.objs.size (.tup [.int (i : Nat), x])) { s with heap := h'', toks := tk + 1 } :=
      I.turnedNew (ch := [e, it]) (fun b ob hb q => (sb.2 b (fun z => hb (by simp [z]))).trans (hk b ob (fun z => hb (by simp [z])) (fun z => hb (by simp [z])) q)) hf (Nat.le_refl _) new
    refine ⟨.ref s.heap.objs.size, _, I1, rfl, ⟨_, x, rfl, I.hok.fresh (Nat.le_refl _), rfl, fun ys hy => by rw [I.tuple_inj hy hq]; exact hx⟩, ⟨⟨y, ?_⟩, ?_, hne⟩, fun b hb => ?_⟩
    · have e1 : ((i + 1 : Nat) : Int) = (i : Int) + 1 := by omega
      rw [e1]; exact he'
    · obtain ⟨o, ho', r⟩ := hst'.1
      exact ⟨o, (sb.2 it (Ne.symm hne)).trans ho', r⟩
    · have hb' : b < s.heap.objs.size := by
        have e' : b = e ∨ b = it := by simpa using hb
        rcases e' with z | z
        · rw [z]; exact hel
        · rw [z]; exact hil
      rw [upd_ne (Nat.ne_of_lt hb')]
      exact (hf b hb).1
  done := by
    intro X hP hw hK hc i pins s σ H E I hf st hg
    subst hP hw hK
    obtain ⟨⟨old, he⟩, hit, hne⟩ := st
    obtain ⟨xs, hq, hx⟩ := hg
    obtain ⟨its, rv, p, hz⟩ := I.tuple hq
    obtain ⟨f0, f1, f2, f3, f4, f5⟩ := hf it (by simp)
    have hl := rv.length
    have hT : s.TypeIs (.ref e) "enumerate" := ⟨_, he, rfl⟩
    unfold pyNext
    refine wpAny_bind (wpAny_attempt (wpAny_callSpecial?_slot (name := Str.ofString "__next__") hT F.slot_enumerate_next (wpAny_call_entry F.slot_enumerate_next hT F.entry_enumerate_next ?_ (F.args_enumerate_next_1 _))))
    show wpAny _ _ (field (.ref e) 2 >>= _) _ _ _
    refine wpAny_bind (wpAny_field he rfl (x := .ref it) rfl ?_)
    refine wpAny_bind (nextOf_tup_end (I.ok.hd hc) hit (show s.heap.IsTuple a its.toArray from p) (by simp; omega) fun h' x he' hx' => ?_)
    obtain ⟨o, ho, hc'⟩ := hx'
    refine wpAny_bind (wpAny_isInstance (T := "StopIteration") (b := true) ⟨o, ho, hc'⟩ isSubtype_stop ?_)
    exact wpAny_pure ⟨rfl, I.turned (t' := s.toks) (fun b o hb q => he' b o hb q) f0 f1 f3 f4 f5⟩
  self := fun A i s Q E st h => let ⟨⟨_, he⟩, _⟩ := st; wpAny_pyIter_enum he h
def iEnumT (K : PySem.W.Frag) (ta : TA) : TI := fun σ H R => ta σ H fun vs H1 => ∃ a xs, vs = [.ref a] ∧ SqT K H1 a xs ∧ R (IteT K a) H1
theorem pi_enumT {X : Cx} {e : Expr} {ta : TA} {p pos tpos : Pos} {elts : List Expr} {kk : Nat} (hg : Gl X "enumerate") (hm : X.mg "enumerate" = none) (ha : PA X [e] ta) (hs : starEach [e] X.env = [(false, eval e X.env)] := by rfl) :
    PI X (.Tuple elts kk tpos) (.Call (.Name "enumerate" p) [e] [] pos) (iEnumT X.K ta) := by
  refine ⟨fun pins s σ H R I h => ?_⟩
  refine Call_ (ld_blt I hg hm boot_enumerate (PyProof.Rows.callWith_type1 (thn (ha.run pos pins s σ H _ I h) fun us s1 ⟨vs, H1, I1, r1, q1⟩ => ?_) hs rfl))
  obtain ⟨a, xs, ex, hq, q⟩ := q1
  subst ex
  cases r1 with
  | cons r rr =>
    cases rr
    cases r
    obtain ⟨its, rv, p', hz⟩ := I1.tuple hq
    have pt : s1.heap.IsTuple a its.toArray := p'
    have hal : a < s1.heap.objs.size := by obtain ⟨o, ho, _⟩ := pt; exact Heap.lt_size ho
    refine call_enum_tup pt fun h' he hit hsz hk => wpAny_pyIter_enum he ?_
    have I2 : Inv X pins σ H1 { s1 with heap := h' } := I1.kept (t' := s1.toks) hk
    refine ⟨s1.heap.objs.size + 1, [s1.heap.objs.size + 1, s1.heap.objs.size], _, _, H1, rfl, I2, turn_enumT a (s1.heap.objs.size + 1) s1.heap.objs.size (Nat.ne_of_lt hal) (Nat.ne_of_gt (Nat.lt_succ_of_lt hal)), ⟨⟨.none, he⟩, hit, Nat.succ_ne_self _⟩, fun b hb => ?_, q⟩
    have e' : b = s1.heap.objs.size + 1 ∨ b = s1.heap.objs.size := by simpa using hb
    have hle : s1.heap.objs.size ≤ b := by
      rcases e' with z | z
      · rw [z]; exact Nat.le_add_right _ _
      · rw [z]; exact Nat.le_refl _
    exact I1.fpOk hle (I1.hok.fresh hle)
/-- either reading of what is walked -/
theorem pi_or {X : Cx} {tg iter : Expr} {w1 w2 : TI} (h1 : PI X tg iter w1) (h2 : PI X tg iter w2) : PI X tg iter (fun σ H R => w1 σ H R ∨ w2 σ H R) :=
  ⟨fun pins s σ H R I q => q.elim (h1.run pins s σ H R I) (h2.run pins s σ H R I)⟩
theorem pg_or {X : Cx} {tg : Expr} {g1 g2 : TG} (h1 : PG X tg g1) (h2 : PG X tg g2) : PG X tg (fun v σ H Q => g1 v σ H Q ∨ g2 v σ H Q) :=
  ⟨fun pins s σ H x v Q I r q => q.elim (h1.run pins s σ H x v Q I r) (h2.run pins s σ H x v Q I r)⟩
end OR

namespace OR
open PySem PySem.Spec PyProof.Rows L2
theorem pt_neverO {X : Cx} {e : Expr} : PT X e (fun _ _ _ => False) := ⟨fun _ _ _ _ _ _ h => h.elim⟩
/-! ### a line as it stands -/
theorem kSH : ¬ (("slope" : Str) = "height") := by decide +kernel
def lFl (a b : Int) : List (Str × V) := putF "height" (.int b) (putF "slope" (.int a) [])
theorem lFl_slope (a b : Int) : (lFl a b).lookup ("slope" : Str) = some (.int a) := by
  unfold lFl
  rw [lookup_putF, if_neg kSH, lookup_putF, if_pos rfl]
theorem lFl_height (a b : Int) : (lFl a b).lookup ("height" : Str) = some (.int b) := by
  unfold lFl
  rw [lookup_putF, if_pos rfl]
theorem lFl_no (a b : Int) {m : Str} (h1 : ¬ m = "height") (h2 : ¬ m = "slope") : (lFl a b).lookup m = none := by
  unfold lFl
  rw [lookup_putF, if_neg h1, lookup_putF, if_neg h2]
  all_goals rfl
def IsL (C : Addr) (H : Hp) (x : Addr) (a b : Int) : Prop := ∃ dx, H x = some (.ins C dx (lFl a b))
theorem IsL.same {C : Addr} {H H' : Hp} {x : Addr} {a b : Int} (h : IsL C H x a b) (s : Same H H') : IsL C H' x a b := by
  obtain ⟨dx, e⟩ := h
  exact ⟨dx, s _ _ e⟩
theorem IsL.frm {C : Addr} {H H' : Hp} {x p : Addr} {a b : Int} {n : Nat} (h : IsL C H x a b) (s : Frm p H H') (P : Pen H p n) : IsL C H' x a b := by
  obtain ⟨dx, e⟩ := h
  obtain ⟨c, ns, k, l, hp, _⟩ := P
  exact ⟨dx, s _ _ e (ne_of e hp (by intro z; cases z))⟩
theorem Same.frm {p : Addr} {H H' : Hp} (s : Same H H') : Frm p H H' := ⟨fun b o e _ => s b o e, fun c ⟨k, l, e⟩ => ⟨k, l, s _ _ e⟩⟩
theorem Pen.same {H H' : Hp} {p : Addr} {n : Nat} (P : Pen H p n) (s : Same H H') : Pen H' p n := by
  obtain ⟨c, ns, k, l, h1, h2, h⟩ := P
  exact ⟨c, ns, k, l, s _ _ h1, s _ _ h2, h⟩
/-- what the text says of the class Line -/
structure LTxt (K : PySem.W.Frag) (mg : Str → Option Value) (C : Addr) : Prop where
  cl : Cls K C
  nS : NoAttr K C "slope"
  nH : NoAttr K C "height"
  mgC : mg "Line" = some (.ref C)
  sf : PySem.W.selfFirst K C = true
  isi : SlX.SIsi K C
  kLL : PySem.W.kitOne K (.ref C) (.ref C) = some true
  kIL : PySem.W.kitOne K (.type "int") (.ref C) = some false
  zIsi : mg "isinstance" = none
  zInt : mg "int" = none
  zBool : mg "bool" = none
def spLInit (C : Addr) : Sp := fun vs H Q _ => ∃ (p dx : Addr) (a b : Int), vs = [.ref p, .int a, .int b] ∧ H p = some (.ins C dx []) ∧ ∀ H', H' p = some (.ins C dx (lFl a b)) → (∀ c o, H c = some o → c ≠ p → H' c = some o) → Q .non H'
def spIsInt : Sp := fun vs H Q _ => ∃ n, vs = [.int n] ∧ Q (.bl true) H
def spLNeg (C : Addr) : Sp := fun vs H Q _ => ∃ x a b, vs = [.ref x] ∧ IsL C H x a b ∧ ∀ y H', H y = none → IsL C H' y (-a) (-b) → Same H H' → Q (.ref y) H'
def spLAdd (C : Addr) : Sp := fun vs H Q _ => ∃ (x : Addr) (a b : Int), IsL C H x a b ∧ ((∃ (y : Addr) (c d : Int), vs = [.ref x, .ref y] ∧ IsL C H y c d ∧ ∀ z H', H z = none → IsL C H' z (a + c) (b + d) → Same H H' → Q (.ref z) H') ∨
  (∃ n : Int, vs = [.ref x, .int n] ∧ ∀ z H', H z = none → IsL C H' z a (b + n) → Same H H' → Q (.ref z) H'))
def spLSub (C : Addr) : Sp := fun vs H Q _ => ∃ (x : Addr) (a b : Int) (y : Addr) (c d : Int), vs = [.ref x, .ref y] ∧ IsL C H x a b ∧ IsL C H y c d ∧ ∀ z H', H z = none → IsL C H' z (a - c) (b - d) → Same H H' → Q (.ref z) H'
def spLCall (C : Addr) : Sp := fun vs H Q _ => ∃ (x : Addr) (a b t : Int), vs = [.ref x, .int t] ∧ IsL C H x a b ∧ CMul a t ∧ Q (.int (a * t + b)) H
section
variable {P : Program} {w : World} {K : PySem.W.Frag} {mg : Str → Option Value} {base : Heap}
theorem scLI : FnScope ["self", "slope", "height"] ["self", "slope", "height"] (defScope sLInit) := ⟨rfl, rfl, rfl, by decide +kernel, rfl, by decide +kernel, by decide +kernel⟩
theorem ok_linit {f C : Addr} {fd : FuncData} (F : Fun K "__init__" "Line.__init__" sLInit f fd) (T : LTxt K mg C) : FnOk P w K mg base CX0 1 f fd ["self", "slope", "height"] (spLInit C) := by
  refine F.ok scLI (fun vs H Q E h => ?_) (fun cdv A outer s H vs Q E hr h => ?_)
  · obtain ⟨p, dx, a, b, rfl, _⟩ := h
    rfl
  · obtain ⟨p, dx, a, b, rfl, hp, q⟩ := h
    refine ⟨_, pss_cons (ps_fld (pv 0) (pv 1) rfl) (pss_one (ps_fld (pv 0) (pv 2) rfl)), ?_⟩
    refine ⟨_, rfl, _, rfl, p, C, dx, [], rfl, hp, T.cl, T.nS, (by show 0 < 1000; decide), _, rfl, _, rfl, p, C, dx, _, rfl, upd_same, T.cl, T.nH, (by show 1 < 1000; decide), ?_⟩
    refine q _ upd_same fun c o e n => ?_
    rw [upd_ne n, upd_ne n]
    exact e
/-- Line(a, b) -/
def tMkL (C : Addr) (t : TA) : TE := fun σ H Q => t σ H fun vs H1 => ∃ a b, vs = [.int a, .int b] ∧ ∀ x H', H1 x = none → IsL C H' x a b → Same H1 H' → Q (.ref x) H'
end
/-- the class Line as it is made -/
structure LMk (P : Program) (w : World) (K : PySem.W.Frag) (mg : Str → Option Value) (base : Heap) (C : Addr) : Prop where
  T : LTxt K mg C
  made : ∃ f fd, Mk K C f ∧ FnOk P w K mg base CX0 1 f fd ["self", "slope", "height"] (spLInit C) ∧ Binds K fd ["self", "slope", "height"] []
theorem pe_mkL {X : Cx} {C : Addr} {j : Nat} {e : Expr} {es : List Expr} {t : TA} {p pos : Pos} (M : LMk X.prog X.w X.K X.mg X.base C) (hr : Room j X.A) (hj : 2 ≤ j) (hg : Gl X "Line") (ha : PA X (e :: es) t)
    (he : starEach (e :: es) X.env = (false, eval e X.env) :: starEach es X.env := by rfl) (hpl : (backTo pos (starEach es X.env)).any (·.1) = false := by rfl) : PE X (.Call (.Name "Line" p) (e :: es) [] pos) (tMkL C t) := by
  obtain ⟨f, fd, mk, F, hb⟩ := M.made
  refine ⟨fun pins s σ H Q I h => ?_⟩
  refine wpAny_Call_Name_kw (ld_glob I hg M.T.mgC ?_ (by decide))
  refine PySem.W.callWith_K (h₀ := X.base) I.ok.mod.kin mk.kp (thn (ha.run pos pins s σ H _ I h) fun us s1 ⟨vs, H1, I1, r, q⟩ => ⟨I1.kIn, ?_⟩) he hpl
  obtain ⟨a, b, rfl, q⟩ := q
  refine run_make mk F (hr.mono hj) hb .nil pass0 I1 r fun x dx nx ndx nex => ?_
  refine ⟨x, dx, a, b, rfl, upd_same, fun H' hx hs => ⟨rfl, q x H' nx ⟨dx, hx⟩ fun c o e => ?_⟩⟩
  have ncx : c ≠ x := ne_of_none e nx
  refine hs c o ?_ ncx
  rw [upd_ne ncx, upd_ne (ne_of_none e ndx)]
  exact e
section
variable {P : Program} {w : World} {K : PySem.W.Frag} {mg : Str → Option Value} {base : Heap}
theorem scLN : FnScope ["self"] ["self"] (defScope sLNeg) := ⟨rfl, rfl, rfl, by decide +kernel, rfl, by decide +kernel, by decide +kernel⟩
theorem ok_lneg {f C : Addr} {fd : FuncData} (F : Fun K "__neg__" "Line.__neg__" sLNeg f fd) (M : LMk P w K mg base C) : FnOk P w K mg base CX0 3 f fd ["self"] (spLNeg C) := by
  have T := M.T
  refine F.ok scLN (fun vs H Q E h => ?_) (fun cdv A outer s H vs Q E hr h => ?_)
  · obtain ⟨x, a, b, rfl, _⟩ := h
    rfl
  · obtain ⟨x, a, b, rfl, ⟨dx, hx⟩, q⟩ := h
    refine ⟨_, pss_one (ps_ret (pe_mkL M hr (by decide) (by rfl) (pa_cons (pe_un un_neg (pe_fld (pv 0) rfl)) (pa_cons (pe_un un_neg (pe_fld (pv 0) rfl)) pa_nil)))), ?_⟩
    exact ⟨_, rfl, x, C, dx, _, _, rfl, hx, T.cl, T.nS, lFl_slope a b, a, rfl, _, rfl, x, C, dx, _, _, rfl, hx, T.cl, T.nH, lFl_height a b, b, rfl, -a, -b, rfl, q⟩
theorem scLC : FnScope ["line", "x"] ["line", "x"] (defScope sVal) := ⟨rfl, rfl, rfl, by decide +kernel, rfl, by decide +kernel, by decide +kernel⟩
theorem ok_lval {f C : Addr} {fd : FuncData} (F : Fun K "value_at" "value_at" sVal f fd) (T : LTxt K mg C) : FnOk P w K mg base CX0 1 f fd ["line", "x"] (spLCall C) := by
  refine F.ok scLC (fun vs H Q E h => ?_) (fun cdv A outer s H vs Q E hr h => ?_)
  · obtain ⟨x, a, b, t, rfl, _⟩ := h
    rfl
  · obtain ⟨x, a, b, t, rfl, ⟨dx, hx⟩, hm, q⟩ := h
    refine ⟨_, pss_one (ps_ret (pe_op op_add (pe_op op_mul (pe_fld (pv 0) rfl) (pv 1)) (pe_fld (pv 0) rfl))), ?_⟩
    exact ⟨_, rfl, x, C, dx, _, _, rfl, hx, T.cl, T.nS, lFl_slope a b, _, rfl, a, t, rfl, rfl, hm, _, rfl, x, C, dx, _, _, rfl, hx, T.cl, T.nH, lFl_height a b, _, _, rfl, rfl, q⟩
theorem scLK : FnScope ["self", "x"] ["self", "x"] (defScope sLCall) := ⟨rfl, rfl, rfl, by decide +kernel, rfl, by decide +kernel, by decide +kernel⟩
theorem ok_lcall {f C : Addr} {fd : FuncData} (F : Fun K "__call__" "Line.__call__" sLCall f fd) (T : LTxt K mg C) : FnOk P w K mg base CX0 1 f fd ["self", "x"] (spLCall C) := by
  refine F.ok scLK (fun vs H Q E h => ?_) (fun cdv A outer s H vs Q E hr h => ?_)
  · obtain ⟨x, a, b, t, rfl, _⟩ := h
    rfl
  · obtain ⟨x, a, b, t, rfl, ⟨dx, hx⟩, hm, q⟩ := h
    refine ⟨_, pss_one (ps_ret (pe_op op_add (pe_op op_mul (pe_fld (pv 0) rfl) (pv 1)) (pe_fld (pv 0) rfl))), ?_⟩
    exact ⟨_, rfl, x, C, dx, _, _, rfl, hx, T.cl, T.nS, lFl_slope a b, _, rfl, a, t, rfl, rfl, hm, _, rfl, x, C, dx, _, _, rfl, hx, T.cl, T.nH, lFl_height a b, _, _, rfl, rfl, q⟩
theorem tyL {C : Addr} (T : LTxt K mg C) {H : Hp} {x dx : Addr} {fs : List (Str × V)} (hx : H x = some (.ins C dx fs)) : TyX K H (.ref x) (.ref C) := .base (.ins hx T.cl T.isi.ca T.isi.cn T.isi.ct T.isi.cm)
theorem scII : FnScope ["value"] ["value"] (defScope sIsInt) := ⟨rfl, rfl, rfl, by decide +kernel, rfl, by decide +kernel, by decide +kernel⟩
theorem boot_isi : bootBuiltins ("isinstance" : Str) = some (.builtin "isinstance") := by decide +kernel
theorem boot_intT : bootBuiltins ("int" : Str) = some (.type "int") := by decide +kernel
theorem boot_boolT : bootBuiltins ("bool" : Str) = some (.type "bool") := by decide +kernel
theorem ok_isint {f C : Addr} {fd : FuncData} (F : Fun K "is_integer" "is_integer" sIsInt f fd) (T : LTxt K mg C) : FnOk P w K mg base CX0 1 f fd ["value"] spIsInt := by
  refine F.ok scII (fun vs H Q E h => ?_) (fun cdv A outer s H vs Q E hr h => ?_)
  · obtain ⟨n, rfl, _⟩ := h
    rfl
  · obtain ⟨n, rfl, q⟩ := h
    refine ⟨_, pss_one (ps_ret (pe_and (pe_callB call_isi (by rfl) T.zIsi boot_isi (pa_cons (pv 0) (pa_cons (pe_bltn (v := .ty "int") (by rfl) T.zInt boot_intT rfl) pa_nil)))
      (pe_one (pe_not (pe_callB call_isi (by rfl) T.zIsi boot_isi (pa_cons (pv 0) (pa_cons (pe_bltn (v := .ty "bool") (by rfl) T.zBool boot_boolT rfl) pa_nil))))))), ?_⟩
    refine ⟨_, rfl, .int n, .ty "int", _, _, true, rfl, .ty "int", .base (.int n), kit_ty (by decide +kernel), true, rfl, iteT ⟨_, rfl, .int n, .ty "bool", _, _, false, rfl, .ty "bool", .base (.int n), kit_ty (by decide +kernel), false, rfl, q⟩⟩
theorem scLA : FnScope ["self", "other"] ["self", "other"] (defScope sLAdd) := ⟨rfl, rfl, rfl, by decide +kernel, rfl, by decide +kernel, by decide +kernel⟩
theorem ok_ladd {f C : Addr} {fd : FuncData} (F : Fun K "__add__" "Line.__add__" sLAdd f fd) (M : LMk P w K mg base C) (D : Cl P w K mg base 1 "is_integer" ["value"] spIsInt) : FnOk P w K mg base CX0 3 f fd ["self", "other"] (spLAdd C) := by
  have T := M.T
  refine F.ok scLA (fun vs H Q E h => ?_) (fun cdv A outer s H vs Q E hr h => ?_)
  · obtain ⟨x, a, b, _, ⟨y, c, d, rfl, _⟩ | ⟨n, rfl, _⟩⟩ := h <;> rfl
  · refine ⟨_, pss_cons (ps_if (pt_val (pe_callB call_isi (by rfl) T.zIsi boot_isi (pa_cons (pv 1) (pa_cons (pe_glob (v := .ref C) (by rfl) T.mgC rfl) pa_nil))))
        (pss_one (ps_ret (pe_mkL M hr (by decide) (by rfl) (pa_cons (pe_op op_add (pe_fld (pv 0) rfl) (pe_fld (pv 1) rfl)) (pa_cons (pe_op op_add (pe_fld (pv 0) rfl) (pe_fld (pv 1) rfl)) pa_nil))))) pss_nil)
      (pss_cons (ps_if (pt_val (pe_cl D hr (by decide) (by rfl) (pa_cons (pv 1) pa_nil)))
        (pss_one (ps_ret (pe_mkL M hr (by decide) (by rfl) (pa_cons (pe_fld (pv 0) rfl) (pa_cons (pe_op op_add (pe_fld (pv 0) rfl) (pv 1)) pa_nil))))) pss_nil)
      (pss_one ps_never)), ?_⟩
    obtain ⟨x, a, b, ⟨dx, hx⟩, ⟨y, c, d, rfl, ⟨dy, hy⟩, q⟩ | ⟨n, rfl, q⟩⟩ := h
    · refine ⟨_, rfl, .ref y, .ref C, _, _, true, rfl, .own C, tyL T hy, T.kLL, true, rfl, iteT ?_⟩
      exact ⟨_, rfl, x, C, dx, _, _, rfl, hx, T.cl, T.nS, lFl_slope a b, _, rfl, y, C, dy, _, _, rfl, hy, T.cl, T.nS, lFl_slope c d, _, _, rfl, rfl, _, rfl, x, C, dx, _, _, rfl, hx, T.cl, T.nH, lFl_height a b, _, rfl, y, C, dy, _, _, rfl, hy, T.cl, T.nH, lFl_height c d, _, _, rfl, rfl, _, _, rfl, q⟩
    · refine ⟨_, rfl, .int n, .ref C, _, _, false, rfl, .own C, .base (.int n), T.kIL, false, rfl, iteF ?_⟩
      refine ⟨_, rfl, n, rfl, true, rfl, iteT ?_⟩
      exact ⟨_, rfl, x, C, dx, _, _, rfl, hx, T.cl, T.nS, lFl_slope a b, _, rfl, x, C, dx, _, _, rfl, hx, T.cl, T.nH, lFl_height a b, _, rfl, _, _, rfl, rfl, _, _, rfl, q⟩
theorem scLS : FnScope ["self", "other"] ["self", "other"] (defScope sLSub) := ⟨rfl, rfl, rfl, by decide +kernel, rfl, by decide +kernel, by decide +kernel⟩
theorem ok_lsub {f C : Addr} {fd : FuncData} (F : Fun K "__sub__" "Line.__sub__" sLSub f fd) (M : LMk P w K mg base C) (A1 : Md P w K mg base 3 C (PySem.dunder (Operator.info .Add).2) (spLAdd C)) (N1 : Md P w K mg base 3 C "__neg__" (spLNeg C)) : FnOk P w K mg base CX0 4 f fd ["self", "other"] (spLSub C) := by
  have T := M.T
  refine F.ok scLS (fun vs H Q E h => ?_) (fun cdv A outer s H vs Q E hr h => ?_)
  · obtain ⟨x, a, b, y, c, d, rfl, _⟩ := h
    rfl
  · obtain ⟨x, a, b, y, c, d, rfl, ⟨dx, hx⟩, ⟨dy, hy⟩, q⟩ := h
    refine ⟨_, pss_cons (ps_if (PW.pt (pw_or (pt_val (pe_callB call_isi (by rfl) T.zIsi boot_isi (pa_cons (pv 1) (pa_cons (pe_glob (v := .ref C) (by rfl) T.mgC rfl) pa_nil)))) (pw_or1 pt_neverO)))
        (pss_one (ps_ret (pe_op (op_binS A1 T.sf hr) (pv 0) (pe_un (un_negO N1 hr) (pv 1))))) pss_nil)
      (pss_one ps_never), ?_⟩
    refine ⟨_, rfl, .ref y, .ref C, _, _, true, rfl, .own C, tyL T hy, T.kLL, true, rfl, iteT (iteT ?_)⟩
    refine ⟨_, rfl, _, rfl, y, dy, _, rfl, hy, y, c, d, rfl, ⟨dy, hy⟩, fun z H1 nz hz s1 => ?_⟩
    obtain ⟨dz, hz'⟩ := hz
    refine ⟨x, z, dx, dz, _, _, rfl, rfl, s1 _ _ hx, hz', x, a, b, ⟨dx, s1 _ _ hx⟩, .inl ⟨z, -c, -d, rfl, ⟨dz, hz'⟩, fun z2 H2 nz2 hz2 s2 => ?_⟩⟩
    exact q z2 H2 (s1.free nz2) hz2 (s1.trans s2)
end
end OR

namespace OR
open PySem PySem.Spec PyProof.Rows L2
/-! ### names of the text, whole numbers and places -/
def lastP : Int := 10 ^ 30
def placeB (n : Int) : Bool := decide (0 ≤ n) && decide (n ≤ lastP)
structure NTxt (mg : Str → Option Value) : Prop where
  zIsi : mg "isinstance" = none
  zInt : mg "int" = none
  zBool : mg "bool" = none
  zTup : mg "tuple" = none
  zList : mg "list" = none
  zLen : mg "len" = none
  zSort : mg "sorted" = none
  zEnum : mg "enumerate" = none
  last : ∃ t, mg "LAST_PLACE" = some (.int lastP t)
theorem bt_isi : bootBuiltins ("isinstance" : Str) = some (.builtin "isinstance") := by decide +kernel
theorem bt_int : bootBuiltins ("int" : Str) = some (.type "int") := by decide +kernel
theorem bt_bool : bootBuiltins ("bool" : Str) = some (.type "bool") := by decide +kernel
theorem bt_tup : bootBuiltins ("tuple" : Str) = some (.type "tuple") := by decide +kernel
theorem bt_list : bootBuiltins ("list" : Str) = some (.type "list") := by decide +kernel
theorem bt_max : bootBuiltins ("max" : Str) = some (.builtin "max") := by decide +kernel
theorem bt_min : bootBuiltins ("min" : Str) = some (.builtin "min") := by decide +kernel
theorem bt_sorted : bootBuiltins ("sorted" : Str) = some (.builtin "sorted") := by decide +kernel
/-- any value whose type is known -/
def spIsIntG (K : PySem.W.Frag) : Sp := fun vs H Q _ => ∃ (x : V) (T : String) (b1 b2 : Bool), vs = [x] ∧ TyX K H x (.type T) ∧ kitB T "int" = some b1 ∧ kitB T "bool" = some b2 ∧ Q (.bl (b1 && !b2)) H
def spIsPlace (K : PySem.W.Frag) : Sp := fun vs H Q _ => ∃ x, vs = [x] ∧ ((∃ n, x = .int n ∧ Q (.bl (placeB n)) H) ∨ ∃ (T : String) (b1 b2 : Bool), TyX K H x (.type T) ∧ kitB T "int" = some b1 ∧ kitB T "bool" = some b2 ∧ (b1 && !b2) = false ∧ Q (.bl false) H)
section
variable {P : Program} {w : World} {K : PySem.W.Frag} {mg : Str → Option Value} {base : Heap}
theorem scIsI : FnScope ["value"] ["value"] (defScope sIsInt) := ⟨rfl, rfl, rfl, by decide +kernel, rfl, by decide +kernel, by decide +kernel⟩
theorem ok_isintG {f : Addr} {fd : FuncData} (F : Fun K "is_integer" "is_integer" sIsInt f fd) (T : NTxt mg) : FnOk P w K mg base CX0 1 f fd ["value"] (spIsIntG K) := by
  refine F.ok scIsI (fun vs H Q E h => ?_) (fun cdv A outer s H vs Q E hr h => ?_)
  · obtain ⟨x, _, _, _, rfl, _⟩ := h
    rfl
  · obtain ⟨x, ty, b1, b2, rfl, hT, h1, h2, q⟩ := h
    refine ⟨_, pss_one (ps_ret (pe_and (pe_callB call_isi (by rfl) T.zIsi bt_isi (pa_cons (pv 0) (pa_cons (pe_bltn (v := .ty "int") (by rfl) T.zInt bt_int rfl) pa_nil)))
      (pe_one (pe_not (pe_callB call_isi (by rfl) T.zIsi bt_isi (pa_cons (pv 0) (pa_cons (pe_bltn (v := .ty "bool") (by rfl) T.zBool bt_bool rfl) pa_nil))))))), ?_⟩
    refine ⟨_, rfl, x, .ty "int", _, _, b1, rfl, .ty "int", hT, kit_ty h1, b1, rfl, ?_⟩
    cases b1 with
    | true => exact iteT ⟨_, rfl, x, .ty "bool", _, _, b2, rfl, .ty "bool", hT, kit_ty h2, b2, rfl, q⟩
    | false => exact iteF q
theorem scIsP : FnScope ["value"] ["value"] (defScope sIsPlace) := ⟨rfl, rfl, rfl, by decide +kernel, rfl, by decide +kernel, by decide +kernel⟩
theorem ok_isplace {f : Addr} {fd : FuncData} (F : Fun K "is_place" "is_place" sIsPlace f fd) (T : NTxt mg) (I : Cl P w K mg base 1 "is_integer" ["value"] (spIsIntG K)) : FnOk P w K mg base CX0 2 f fd ["value"] (spIsPlace K) := by
  refine F.ok scIsP (fun vs H Q E h => ?_) (fun cdv A outer s H vs Q E hr h => ?_)
  · obtain ⟨x, rfl, _⟩ := h
    rfl
  · obtain ⟨x, rfl, h⟩ := h
    obtain ⟨tl, hl⟩ := T.last
    refine ⟨_, pss_one (ps_ret (pe_and (pe_cl I hr (by decide) (by rfl) (pa_cons (pv 0) pa_nil)) (pe_one (pe_chain op_le op_le pe_int (pv 0) (pe_glob (v := .int lastP) (by rfl) hl ⟨tl, rfl⟩))))), ?_⟩
    rcases h with ⟨n, rfl, q⟩ | ⟨ty, b1, b2, hT, h1, h2, hb, q⟩
    · refine ⟨_, rfl, .int n, "int", true, false, rfl, .base (.int n), by decide +kernel, by decide +kernel, true, rfl, iteT ?_⟩
      refine ⟨_, rfl, _, _, rfl, rfl, _, rfl, ?_⟩
      unfold placeB at q
      cases e : decide ((0 : Int) ≤ n) with
      | true =>
        rw [e] at q
        exact iteT ⟨_, _, rfl, rfl, q⟩
      | false =>
        rw [e] at q
        exact iteF q
    · exact ⟨_, rfl, x, ty, b1, b2, rfl, hT, h1, h2, _, rfl, by rw [hb]; exact iteF q⟩
end
end OR

namespace OR
open PySem PySem.Spec PyProof.Rows L2
open TL (tl numL)
structure Bd (mg : Str → Option Value) : Prop where
  range : mg "range" = none
  min : mg "min" = none
  max : mg "max" = none
  int : mg "int" = none
  len : mg "len" = none
  list : mg "list" = none
  set : mg "set" = none
  sorted : mg "sorted" = none
def ch (c : Nat) : Str := ⟨#[c]⟩
theorem frmS {p : Addr} {H H' : Hp} (s : Same H H') : Frm p H H' := ⟨fun b o e _ => s b o e, fun c ⟨k, l, e⟩ => ⟨k, l, s _ _ e⟩⟩
theorem len_app (a b : Str) : (a ++ b).length = a.length + b.length := by rw [TL.len_tl, TL.len_tl, TL.len_tl, TL.tl_append, List.length_append]
def letters : Str := "abcdefghijklmnopqrstuvwxyz"
theorem let_at {j : Nat} (h : j < 26) : (tl letters)[j]? = some (97 + j) := by
  have e : tl letters = (List.range 26).map (· + 97) := by decide +kernel
  rw [e, List.getElem?_map, List.getElem?_range h]
  show some (j + 97) = _
  rw [Nat.add_comm]
theorem let_az {c : Nat} (h : c ∈ tl letters) : 97 ≤ c ∧ c ≤ 122 := by
  have e : tl letters = (List.range 26).map (· + 97) := by decide +kernel
  rw [e] at h
  obtain ⟨j, hj, rfl⟩ := List.mem_map.mp h
  have := List.mem_range.mp hj
  omega
/-- the letter of the k-th word -/
def own (front step : Int) (k : Nat) : Nat := 97 + ((front + step * (k : Int)) % 26).toNat
def stepsL : List Int := [1, 3, 5, 7, 9, 11, 15, 17]
theorem own_ne {front step : Int} {k m : Nat} (h0 : 0 ≤ front) (hs : step ∈ stepsL) (hk : k < m) (hm : m < 4) : own front step k ≠ own front step m := by
  unfold own
  unfold stepsL at hs
  simp only [List.mem_cons, List.not_mem_nil, or_false] at hs
  rcases hs with e | e | e | e | e | e | e | e <;> subst e <;> omega
theorem same_lay {H : Hp} {q : Addr} {o : HO} (h : H q = none) : Same H (upd H q o) := fun b x e => by rw [upd_ne (ne_of_none e h)]; exact e
theorem same_upd {H H' : Hp} {b : Addr} {u : HO} (s : Same H H') (h : H b = none) : Same H (upd H' b u) := fun c v e => by rw [upd_ne (ne_of_none e h)]; exact s c v e
section
variable {P : Program} {w : World} {K : PySem.W.Frag} {mg : Str → Option Value} {base : Heap}
theorem scWd : FnScope ["_law_pen_here", "_law_many", "_law_letters", "_law_stem", "_law_at", "_law_front", "_law_step", "_law_own", "_law_k", "_law_letter"] ["_law_pen_here", "_law_many"] (defScope sWords) := ⟨rfl, rfl, rfl, by decide +kernel, rfl, by decide +kernel, by decide +kernel⟩
end
theorem small1000 {n : Nat} (h : n ≤ 1000) : n < sizeLine := Nat.lt_of_le_of_lt h (by decide)
def spPickS : Sp := fun vs H Q _ => ∃ (p : Addr) (s : Str) (n : Nat), vs = [.ref p, .str s] ∧ 0 < s.length ∧ s.length ≤ 1000 ∧ Pen H p n ∧ n ≤ 1000000 ∧ ∀ (c : Nat) (H' : Hp), c ∈ tl s → Pen H' p (n + 1) → Frm p H H' → Q (.str (ch c)) H'
structure Word (s : Str) : Prop where
  pos : 1 ≤ s.length
  len : s.length ≤ 8
  az : ∀ c ∈ tl s, 97 ≤ c ∧ c ≤ 122
def spWords : Sp := fun vs H Q _ => ∃ (p : Addr) (m n : Nat), vs = [.ref p, .int (m : Nat)] ∧ m ≤ 4 ∧ Pen H p n ∧ n ≤ 800000 ∧
  ∀ (a : Addr) (ws : List Str) (H' : Hp), H a = none → H' a = some (.lst (ws.map V.str)) → ws.length = m → (∀ w ∈ ws, Word w) → ws.Pairwise (· ≠ ·) → Pen H' p (n + 20) → Frm p H H' → Q (.ref a) H'
theorem sum_le : ∀ (ws : List Str) (k : Nat), (∀ w ∈ ws, w.length ≤ k) → (ws.map (·.length)).sum ≤ ws.length * k
  | [], _, _ => by simp
  | w :: r, k, h => by
    have h1 := sum_le r k fun x hx => h x (List.mem_cons_of_mem _ hx)
    have h2 := h w List.mem_cons_self
    rw [List.map_cons, List.sum_cons, List.length_cons, Nat.succ_mul]
    omega
theorem sz1 {n : Nat} (h : n ≤ 20000) : n ≤ sizeLine := Nat.le_trans h (by decide)
theorem tl_join0 : ∀ cs : List Nat, tl (Txt.join ("" : Str) (cs.map ch)) = cs
  | [] => rfl
  | [c] => by rw [TL.join_eq]; rfl
  | c :: d :: r => by
    have ih := tl_join0 (d :: r)
    rw [TL.join_eq] at ih ⊢
    show tl ((ch c ++ ("" : Str)) ++ Str.join ("" : Str) ((d :: r).map ch)) = _
    rw [TL.tl_append, TL.tl_append, ih]
    rfl
section
variable {P : Program} {w : World} {K : PySem.W.Frag} {mg : Str → Option Value} {base : Heap}
abbrev wN : List Str := ["_law_pen_here", "_law_many", "_law_letters", "_law_stem", "_law_at", "_law_front", "_law_step", "_law_own", "_law_k", "_law_letter"]
end
def wordAt (stem : Str) (at_ : Nat) (c : Nat) : Str := (cutS stem none (some (at_ : Int)) ++ ch c) ++ cutS stem (some (at_ : Int)) none
theorem tl_ch (c : Nat) : tl (ch c) = [c] := rfl
theorem tl_cutA (z : Str) (k : Nat) : tl (cutS z none (some (k : Int))) = (tl z).take k := by
  show ((z.cps.toList.drop (HT.sIx z.length 0 none)).take (HT.sIx z.length z.length (some (k : Int)) - HT.sIx z.length 0 none)).toArray.toList = z.cps.toList.take k
  rw [HT.sIx_none, HT.sIx_nat, List.drop_zero, Nat.sub_zero]
  have hl : z.length = z.cps.toList.length := by rw [Array.length_toList]; rfl
  rcases Nat.le_total k z.length with h | h
  · rw [Nat.min_eq_left h]
  · rw [Nat.min_eq_right h, List.take_of_length_le (by rw [hl]; exact Nat.le_refl _), List.take_of_length_le (by rw [← hl]; exact h)]
theorem tl_cutB (z : Str) (k : Nat) : tl (cutS z (some (k : Int)) none) = (tl z).drop k := by
  show ((z.cps.toList.drop (HT.sIx z.length 0 (some (k : Int)))).take (HT.sIx z.length z.length none - HT.sIx z.length 0 (some (k : Int)))).toArray.toList = z.cps.toList.drop k
  rw [HT.sIx_none, HT.sIx_nat]
  have hl : z.length = z.cps.toList.length := by rw [Array.length_toList]; rfl
  rcases Nat.le_total k z.length with h | h
  · rw [Nat.min_eq_left h, List.take_of_length_le (by rw [List.length_drop, hl]; exact Nat.le_refl _)]
  · rw [Nat.min_eq_right h, List.drop_of_length_le (by rw [hl]; exact Nat.le_refl _), List.drop_of_length_le (by rw [← hl]; exact h), List.take_nil]
theorem tl_word (stem : Str) (a c : Nat) : tl (wordAt stem a c) = (tl stem).take a ++ c :: (tl stem).drop a := by
  unfold wordAt
  rw [TL.tl_append, TL.tl_append, tl_cutA, tl_cutB, tl_ch, List.append_assoc]
  rfl
theorem word_inj {stem : Str} {a c d : Nat} (h : wordAt stem a c = wordAt stem a d) : c = d := by
  have := congrArg tl h
  rw [tl_word, tl_word] at this
  exact (List.cons.inj (List.append_cancel_left this)).1
theorem word_ok {stem : Str} {a c : Nat} (hl : stem.length ≤ 7) (hs : ∀ x ∈ tl stem, 97 ≤ x ∧ x ≤ 122) (hc : 97 ≤ c ∧ c ≤ 122) : Word (wordAt stem a c) := by
  have len : (wordAt stem a c).length = stem.length + 1 := by
    rw [TL.len_tl, tl_word, TL.len_tl, List.length_append, List.length_cons]
    have := congrArg List.length (List.take_append_drop a (tl stem))
    rw [List.length_append] at this
    omega
  refine ⟨by omega, by omega, fun x hx => ?_⟩
  rw [tl_word] at hx
  rcases List.mem_append.mp hx with h | h
  · exact hs x (List.mem_of_mem_take h)
  · rcases List.mem_cons.mp h with h | h
    · rw [h]; exact hc
    · exact hs x (List.mem_of_mem_drop h)
theorem yesT {σ : L2.St} {H : Hp} {A B : Hp → Prop} (h : A H) : tYes σ H (fun b H3 => if b = true then A H3 else B H3) := by
  show if true = true then A H else B H
  rw [if_pos rfl]
  exact h
theorem Frm.putNew {p d : Addr} {H H2 : Hp} {xs : List V} {o : HO} (f : Frm p H H2) (nd : H d = none) (h : H2 d = some (.lst xs)) : Frm p H (upd H2 d o) := ⟨fun b u e nb => by rw [upd_ne (ne_of_none e nd)]; exact f _ _ e nb, fun c hc => by
  obtain ⟨k, l', e⟩ := f.ce c hc
  exact ⟨k, l', by rw [upd_ne (ne_of e h (by intro z; cases z))]; exact e⟩⟩
theorem Pen.same' {H H' : Hp} {p : Addr} {n : Nat} (P : Pen H p n) (s : Same H H') : Pen H' p n := by
  obtain ⟨c, ns, k, l, h1, h2, h⟩ := P
  exact ⟨c, ns, k, l, s _ _ h1, s _ _ h2, h⟩
section
variable {P : Program} {w : World} {K : PySem.W.Frag} {mg : Str → Option Value} {base : Heap}
theorem ok_words {f : Addr} {fd : FuncData} (F : Fun K "_law_words" "_law_words" sWords f fd) (B : Bd mg) (D : Cl P w K mg base 1 "_law_draw" ["_law_pen_here", "_law_many"] spDraw) (PI : Cl P w K mg base 2 "_law_pick" ["_law_pen_here", "_law_items"] (spPick K)) (PS : Cl P w K mg base 2 "_law_pick" ["_law_pen_here", "_law_items"] spPickS) :
    FnOk P w K mg base CX0 3 f fd ["_law_pen_here", "_law_many"] spWords := by
  refine F.ok scWd (fun vs H Q E h => ?_) (fun cdv A outer s H vs Q E hr h => ?_)
  · obtain ⟨p, m, n, rfl, _⟩ := h
    rfl
  · obtain ⟨p, m, n, rfl, hm, hP, hn, q⟩ := h
    have nd := scWd.nd
    refine ⟨_, pss_cons (ps_set (i := 2) nd rfl (.inr rfl) pe_str)
      (pss_cons (ps_set (i := 3) nd rfl (.inr rfl) (pe_join pe_str
        (pe_lc (own := [("_law_k", 8)]) (g := gName 8) (tt := tYes) rfl nd (pi_range1 (by rfl) B.range (pa_cons (pe_cl D hr (by decide) (by rfl) (pa_cons (pv 0) (pa_cons pe_int pa_nil))) pa_nil)) (blkOk_by (N := wN) (sc := defScope sWords) (by decide +kernel))
          (fun _ _ _ _ _ => pg_name (i := 8) nd rfl (.inl rfl)) (fun _ _ _ _ _ => pts_nil) (fun _ _ _ _ _ => pe_cl PS hr (by decide) (by rfl) (pa_cons (pv 0) (pa_cons (pv 2) pa_nil))))))
      (pss_cons (ps_asg (pe_tup (pa_cons (pe_cl D hr (by decide) (by rfl) (pa_cons (pv 0) (pa_cons (pe_op op_add (pe_callB call_len_str (by rfl) B.len PySem.boot_len (pa_cons (pv 3) pa_nil)) pe_int) pa_nil)))
          (pa_cons (pe_cl D hr (by decide) (by rfl) (pa_cons (pv 0) (pa_cons pe_int pa_nil))) (pa_cons (pe_cl PI hr (by decide) (by rfl) (pa_cons (pv 0) (pa_cons (pe_lst (pa_cons pe_int (pa_cons pe_int (pa_cons pe_int (pa_cons pe_int (pa_cons pe_int (pa_cons pe_int (pa_cons pe_int (pa_cons pe_int pa_nil))))))))) pa_nil))) pa_nil))))
          (pg_tup rfl (pgs_cons (pg_name (i := 4) nd rfl (.inr rfl)) (pgs_cons (pg_name (i := 5) nd rfl (.inr rfl)) (pgs_cons (pg_name (i := 6) nd rfl (.inr rfl)) pgs_nil)))))
      (pss_cons (ps_setLc (i := 7) (own := [("_law_k", 8)]) (g := gName 8) (tt := tYes) rfl nd rfl rfl (sw_true rfl rfl rfl (by decide +kernel)) (pi_range1 (by rfl) B.range (pa_cons (pv 1) pa_nil)) (blkOk_by (N := wN) (sc := defScope sWords) (by decide +kernel))
          (fun _ _ _ _ _ => pg_name (i := 8) nd rfl (.inl rfl)) (fun _ _ _ _ _ => pts_nil) (fun _ _ _ _ _ => pe_ix ix_str (pv 2) (pe_op op_mod (pe_callTy call_int1 (by rfl) B.int bt_int (pa_cons (pe_op op_add (pv 5) (pe_op op_mul (pv 6) (pv 8))) pa_nil)) pe_int) (fun _ _ => rfl)))
      (pss_one (ps_ret (pe_lc (own := [("_law_letter", 9)]) (g := gName 9) (tt := tYes) rfl nd (pi_list (pv 7)) (blkOk_by (N := wN) (sc := defScope sWords) (by decide +kernel))
          (fun _ _ _ _ _ => pg_name (i := 9) nd rfl (.inl rfl)) (fun _ _ _ _ _ => pts_nil) (fun _ _ _ _ _ => pe_op op_add_str (pe_op op_add_str (pe_slice sl_str (pv 3) po_none (po_some (pv 4))) (pv 9)) (pe_slice sl_str (pv 3) (po_some (pv 4)) po_none)))))))), ?_⟩
    obtain ⟨c0, hc0, hcn⟩ := hP.cells
    refine ⟨⟨_, rfl⟩, _, rfl, p, 8, n, rfl, by decide, by decide, hP, by omega, fun r H1 r0 r1 P1 F1 => ?_⟩
    have hc1 := F1.ce c0 hc0
    refine ⟨r, rfl, by omega, by omega, fun d hd => ?_⟩
    have ncd : c0 ≠ d := fun e => by
      cases hx : H c0 with
      | none => exact hcn hx
      | some o =>
        obtain ⟨kvs, hp⟩ := hP.dict
        obtain ⟨c1, ns1, k1, l1, hp1, hcs, _⟩ := hP
        obtain rfl := hc0.inj hp1
        have := F1 _ _ hcs (ne_of hcs hp1 (by intro z; cases z))
        rw [e, hd] at this
        cases this
    refine lc_range (lo := 0) (n := r.toNat) (fun i G => ∃ cs : List Nat, cs.length = i ∧ (∀ c ∈ cs, c ∈ tl letters) ∧ G d = some (.lst ((cs.map ch).map V.str)) ∧ Pen G p (n + 1 + i) ∧ Frm p H1 G)
      ⟨[], rfl, (fun _ z => nomatch z), upd_same, P1.new hd, Frm.new hd⟩ ?_ ?_
    · rintro i G hi ⟨cs, lc, hcs, hD, PG, FG⟩
      refine ⟨rfl, yesT ?_⟩
      refine ⟨_, rfl, _, rfl, p, letters, _, rfl, by decide, by decide, PG, by omega, fun c G2 hc P2 F2 => ?_⟩
      have hD2 := F2.lst PG hD
      have FF := FG.trans F2
      refine ⟨_, hD2, small1000 (by rw [List.length_map, List.length_map]; omega), cs ++ [c], by rw [List.length_append, lc]; rfl, fun x hx => ?_, ?_, (P2.put (FF.ce c0 hc1) hD2 ncd).mono (by omega), FF.putNew hd hD2⟩
      · rcases List.mem_append.mp hx with k | k
        · exact hcs x k
        · rw [List.mem_singleton.mp k]; exact hc
      · rw [upd_same, List.map_append, List.map_append]
        rfl
    · rintro G ⟨cs, lc, hcs, hD, PG, FG⟩
      have l0 : ("" : Str).length = 0 := by decide
      refine ⟨_, d, cs.map ch, rfl, rfl, .inl (.inl (.inl hD)), ?_, ?_⟩
      · have := sum_le (cs.map ch) 1 (fun w hw => by
          obtain ⟨c, _, rfl⟩ := List.mem_map.mp hw
          exact Nat.le_refl 1)
        rw [List.length_map] at this ⊢
        rw [l0]
        omega
      generalize hstem : Txt.join (Str.ofString "") (cs.map ch) = stem
      have tls : tl stem = cs := by rw [← hstem]; exact tl_join0 cs
      have lens : stem.length = cs.length := by rw [TL.len_tl, tls]
      have l7 : stem.length ≤ 7 := by omega
      have azs : ∀ x ∈ tl stem, 97 ≤ x ∧ x ≤ 122 := fun x hx => let_az (hcs x (by rw [← tls]; exact hx))
      have FH := F1.trans FG
      clear hD hd hstem tls FG
      refine ⟨_, rfl, _, rfl, stem, rfl, sz1 (by omega), _, _, rfl, rfl, p, _, _, rfl, by omega, ?_, PG, by omega, fun a0 H2 a00 a01 P2 F2 => ?_⟩
      · exact Nat.lt_of_le_of_lt (show (((stem.length : Nat) : Int) + 1).natAbs ≤ 20 by omega) (by decide)
      obtain ⟨a, rfl⟩ : ∃ a : Nat, a0 = (a : Int) := ⟨a0.toNat, by omega⟩
      refine ⟨_, rfl, p, 26, _, rfl, by decide, by decide, P2, by omega, fun front H3 f0 _ P3 F3 => ?_⟩
      refine ⟨_, rfl, by show 8 ≤ sizeLine; decide, fun l nl => ?_⟩
      refine ⟨p, l, stepsL.map V.int, _, rfl, .inl (.inl upd_same), by show 0 < 8; decide, by show 8 ≤ 1000; decide, P3.new nl, by omega, fun v H4 hv P4 F4 => ?_⟩
      obtain ⟨step, hs, rfl⟩ := List.mem_map.mp hv
      refine ⟨by show 3 ≤ sizeLine; decide, fun t nt => ?_⟩
      refine ⟨t, _, rfl, .inl (.inl upd_same), rfl, _, _, rfl, _, _, rfl, _, _, rfl, rfl, ?_⟩
      have st := same_lay (o := .tup [.int (a : Int), .int front, .int step]) nt
      have P5 := P4.same' st
      have FH5 := (((FH.trans F2).trans F3).trans ((Frm.new (o := .lst (stepsL.map V.int)) nl).trans F4)).trans (frmS st)
      generalize upd H4 t (.tup [.int (a : Int), .int front, .int step]) = H5 at P5 FH5 st
      clear st P4 F4 nt hv P3 F3 nl P2 F2 FH
      have sb : -200 ≤ step ∧ step ≤ 200 := by
        unfold stepsL at hs
        simp only [List.mem_cons, List.not_mem_nil, or_false] at hs
        omega
      -- the own letters
      refine ⟨_, rfl, m, rfl, by omega, by omega, fun d2 hd2 => lc_range (lo := 0) (n := ((m : Nat) : Int).toNat) (fun i G => G d2 = some (.lst (((List.range i).map fun k => ch (own front step k)).map V.str)) ∧ Same H5 G) ⟨upd_same, same_lay hd2⟩ ?_ ?_⟩
      · rintro i G hi ⟨hD, sG⟩
        have hi4 : i < 4 := by omega
        refine ⟨rfl, yesT ?_⟩
        have mb := mod_bd (front + step * (0 + (i : Int))) 26 (by decide)
        have hat : atI (tl letters) ((front + step * (0 + (i : Int))) % 26) = some (own front step i) := by
          have := atI_nat (let_at (j := ((front + step * (0 + (i : Int))) % 26).toNat) (by omega))
          rw [Int.toNat_of_nonneg mb.1] at this
          rw [this]
          unfold own
          rw [Int.zero_add]
        refine ⟨_, rfl, _, rfl, _, rfl, _, rfl, _, _, rfl, rfl, .inl (by constructor <;> omega), _, _, rfl, rfl, .inl ⟨_, rfl, _, _, rfl, rfl, (by show (0 : Int) < 26; decide), letters, _, own front step i, rfl, rfl, by decide, hat, _, hD, small1000 ?_, ?_, same_upd sG hd2⟩⟩
        · rw [List.length_map, List.length_map, List.length_range]; omega
        · rw [upd_same, List.range_succ, List.map_append, List.map_append]
          rfl
      · rintro G2 ⟨hD, sG⟩
        have em : ((m : Nat) : Int).toNat = m := Int.toNat_natCast m
        rw [em] at hD
        have P6 := P5.same' sG
        have F6 := FH5.trans (frmS sG)
        have lm : (((List.range m).map fun k => ch (own front step k)).map V.str).length = m := by rw [List.length_map, List.length_map, List.length_range]
        refine ⟨_, rfl, d2, rfl, ⟨_, .inl (.inl hD)⟩, fun d3 hd3 => lc_list (K := K) (a := d2) (xs := ((List.range m).map fun k => ch (own front step k)).map V.str) (fun i G => G d3 = some (.lst (((List.range i).map fun k => wordAt stem a (own front step k)).map V.str)) ∧ Same G2 G) ⟨upd_same, same_lay hd3⟩
          (fun i G _ ⟨_, s⟩ => .inl (.inl (s _ _ hD))) ?_ ?_⟩
        · rintro i y G3 hy ⟨hD3, sG3⟩
          have him : i < m := by
            have := (List.getElem?_eq_some_iff.mp hy).1
            rw [lm] at this
            exact this
          rw [List.getElem?_map, List.getElem?_map, List.getElem?_range him] at hy
          cases hy
          have la := cutS_length stem none (some (a : Int))
          have lb := cutS_length stem (some (a : Int)) none
          refine ⟨rfl, yesT ?_⟩
          refine ⟨_, rfl, _, rfl, _, rfl, stem, rfl, sz1 (by omega), _, rfl, _, _, rfl, rfl, sz1 ?_, _, rfl, _, rfl, _, rfl, stem, rfl, sz1 (by omega), _, _, rfl, rfl, sz1 ?_, _, hD3, small1000 ?_, ?_, same_upd sG3 hd3⟩
          · show (cutS stem none (some (a : Int))).length + 1 ≤ 20000
            omega
          · rw [len_app]
            show (cutS stem none (some (a : Int))).length + 1 + _ ≤ 20000
            omega
          · rw [List.length_map, List.length_map, List.length_range]; omega
          · rw [upd_same, List.range_succ, List.map_append, List.map_append]
            rfl
        · rintro G3 ⟨hD3, sG3⟩
          rw [lm] at hD3
          refine q d3 _ G3 ?_ hD3 (by rw [List.length_map, List.length_range]) (fun w hw => ?_) ?_ ((P6.same' sG3).mono (by omega)) (F6.trans (frmS sG3))
          · cases hx : H d3 with
            | none => rfl
            | some o =>
              exfalso
              by_cases ep : d3 = p
              · obtain ⟨kvs, hp⟩ := (P6).dict
                rw [ep, hp] at hd3
                cases hd3
              · have := F6 _ _ hx ep
                rw [this] at hd3
                cases hd3
          · obtain ⟨k, hk, rfl⟩ := List.mem_map.mp hw
            have mb := mod_bd (front + step * (k : Int)) 26 (by decide)
            exact word_ok l7 azs (by unfold own; omega)
          · refine List.pairwise_map.mpr ?_
            refine List.Pairwise.imp_of_mem (fun {x y} hx hy hxy e => ?_) (List.pairwise_lt_range (n := m))
            have hy4 := List.mem_range.mp hy
            exact own_ne f0 hs hxy (by omega) (word_inj e)
theorem ok_pickS {f : Addr} {fd : FuncData} (F : Fun K "_law_pick" "_law_pick" sPick f fd) (B : Bl mg) (D : Cl P w K mg base 1 "_law_draw" ["_law_pen_here", "_law_many"] spDraw) : FnOk P w K mg base CX0 2 f fd ["_law_pen_here", "_law_items"] spPickS := by
  refine F.ok scPick (fun vs H Q E h => ?_) (fun cdv A outer s H vs Q E hr h => ?_)
  · obtain ⟨p, s, n, rfl, _⟩ := h
    rfl
  · obtain ⟨p, x, n, rfl, h0, h1, hP, hn, q⟩ := h
    refine ⟨_, pss_one (ps_ret (pe_ix ix_str (pv 1) (pe_cl D hr (by decide) (by rfl) (pa_cons (pv 0) (pa_cons (pe_callB call_len_str (by rfl) B.len PySem.boot_len (pa_cons (pv 1) pa_nil)) pa_nil))) (fun _ _ => rfl))), ?_⟩
    refine ⟨_, rfl, _, rfl, _, rfl, x, rfl, sz1 (by omega), p, x.length, n, rfl, by omega, ?_, hP, hn, fun r H' hr0 hr1 hP' hF => ?_⟩
    · have : x.length < 2 ^ 200 := Nat.lt_of_le_of_lt h1 (by decide)
      simpa using this
    · have hj : r.toNat < (tl x).length := by rw [← TL.len_tl]; omega
      refine ⟨x, r, (tl x)[r.toNat], rfl, rfl, sz1 (by omega), ?_, q _ _ (List.getElem_mem hj) hP' hF⟩
      have := atI_nat (xs := tl x) (j := r.toNat) (v := (tl x)[r.toNat]) (List.getElem?_eq_getElem hj)
      rw [Int.toNat_of_nonneg hr0] at this
      exact this
end
def SmallS (w : Str) : Prop := ∀ c ∈ tl w, c < 200
theorem dp_strs {K : PySem.W.Frag} {H : Hp} : ∀ ws : List Str, DpAll K H (ws.map V.str) (ws.map PyData.str)
  | [] => .nil
  | w :: r => .cons (.str w) (dp_strs r)
theorem erase_permS : ∀ (L : List Str) (k : Nat) (h : k < L.length), (L[k] :: L.eraseIdx k).Perm L
  | p :: L, 0, _ => List.Perm.refl _
  | p :: L, k + 1, h => by
    have ih := erase_permS L k (Nat.lt_of_succ_lt_succ h)
    exact (List.Perm.swap p _ _).trans (ih.cons p)
theorem ixN_in {n : Nat} {r : Int} (h0 : 0 ≤ r) (h1 : r < n) : ixN n r = some r.toNat := by
  unfold ixN
  rw [if_pos h0, if_pos h1]
def lenAt (l : Addr) (H : Hp) : Nat := match H l with
  | some (.lst xs) => xs.length
  | _ => 0
theorem lenAt_of {l : Addr} {H : Hp} {xs : List V} (h : H l = some (.lst xs)) : lenAt l H = xs.length := by
  unfold lenAt
  rw [h]
theorem map_erase : ∀ (L : List Str) (k : Nat), (L.map V.str).eraseIdx k = (L.eraseIdx k).map V.str
  | [], _ => rfl
  | _ :: _, 0 => rfl
  | p :: L, k + 1 => by
    show V.str p :: (L.map V.str).eraseIdx k = V.str p :: (L.eraseIdx k).map V.str
    rw [map_erase L k]
section
variable {P : Program} {w : World} {K : PySem.W.Frag} {mg : Str → Option Value} {base : Heap}
end
theorem dep_strs : ∀ ws : List Str, PyData.depthAll (ws.map PyData.str) = 0
  | [] => rfl
  | w :: r => by
    show max (PyData.depth (.str w)) (PyData.depthAll (r.map PyData.str)) = 0
    rw [dep_strs r]
    rfl
theorem strOk_of {w : Str} (h : SmallS w) : PyData.strOk w = true := by
  unfold PyData.strOk
  rw [← Array.all_toList, List.all_eq_true]
  intro c hc
  have := h c hc
  exact decide_eq_true (by omega)
theorem lay_strs : ∀ {ws : List Str}, (∀ w ∈ ws, SmallS w) → PyData.canLayAll0 (ws.map PyData.str) = true
  | [], _ => rfl
  | w :: r, h => by
    show (PyData.strOk w && PyData.canLayAll0 (r.map PyData.str)) = true
    rw [lay_strs fun x hx => h x (List.mem_cons_of_mem _ hx), Bool.and_true]
    exact strOk_of (h w List.mem_cons_self)
theorem shp_strs {ws : List Str} (h : ∀ w ∈ ws, SmallS w) : SeqAt.shaped (.list (ws.map PyData.str)) = true := by
  unfold SeqAt.shaped
  rw [show PyData.canLay0 (.list (ws.map PyData.str)) = true from lay_strs h, Bool.true_and]
  refine decide_eq_true ?_
  show PyData.depthAll (ws.map PyData.str) + 1 ≤ 64
  rw [dep_strs]
  decide
def spShufS (K : PySem.W.Frag) : Sp := fun vs H Q _ => ∃ (p a : Addr) (L : List Str) (n : Nat), vs = [.ref p, .ref a] ∧ SqL K H a (L.map V.str) ∧ (∀ w ∈ L, SmallS w) ∧ L.length ≤ 100 ∧ Pen H p n ∧ n ≤ 800000 ∧
  ∀ (o : Addr) (M : List Str) (H' : Hp), H o = none → H' o = some (.lst (M.map V.str)) → M.Perm L → Pen H' p (n + 300) → Frm p H H' → Q (.ref o) H'
theorem Frm.free {p q : Addr} {H H' : Hp} {n : Nat} (f : Frm p H H') (P : Pen H' p n) (h : H' q = none) : H q = none := by
  obtain ⟨c, ns, k, l, hp, _⟩ := P
  cases e : H q with
  | none => rfl
  | some o =>
    by_cases ep : q = p
    · rw [ep, hp] at h
      cases h
    · rw [f q o e ep] at h
      cases h
section
variable {P : Program} {w : World} {K : PySem.W.Frag} {mg : Str → Option Value} {base : Heap}
end
theorem sameT {K : PySem.W.Frag} {H H' : Hp} {a : Addr} {xs : List V} (e : Same H H') (h : SqT K H a xs) : SqT K H' a xs := by
  rcases h with (h | ⟨o, h⟩) | h
  · exact .inl (.inl (e _ _ h))
  · exact .inl (.inr ⟨o, e _ _ h⟩)
  · exact .inr h
structure WTxt (K : PySem.W.Frag) (mg : Str → Option Value) (ts tw : Addr) : Prop where
  zIsi : mg "isinstance" = none
  zStr : mg "str" = none
  zLen : mg "len" = none
  zAll : mg "all" = none
  let_ : ∃ t, mg "_LETTERS" = some (.str letters t)
  most : ∃ t, mg "_MOST_LETTERS" = some (.int 8 t)




theorem az_in {c : Nat} (h0 : 97 ≤ c) (h1 : c ≤ 122) : c ∈ tl letters := by
  have e : tl letters = (List.range 26).map (· + 97) := by decide +kernel
  rw [e]
  exact List.mem_map.mpr ⟨c - 97, List.mem_range.mpr (by omega), by omega⟩
theorem boot_strT : bootBuiltins ("str" : Str) = some (.type "str") := by decide +kernel
theorem bt_all : bootBuiltins ("all" : Str) = some (.builtin "all") := by decide +kernel
theorem lc_str {x : Str} {g : TG} {tt : TT} {te : TE} {vs : List Nat} {σ : L2.St} {H1 : Hp} {D : Addr} {Qd : Hp → Prop} (Pv : Nat → Hp → Prop) (h0 : Pv 0 (upd H1 D (.lst [])))
    (hs : ∀ i c H, (tl x)[i]? = some c → Pv i H → g (.str ⟨#[c]⟩) (wipe σ vs) H fun σ2 H2 => wipe σ2 vs = wipe σ vs ∧ tt σ2 H2 fun b H3 =>
      if b = true then te σ2 H3 fun y H4 => ∃ acc, H4 D = some (.lst acc) ∧ acc.length < sizeLine ∧ Pv (i + 1) (upd H4 D (.lst (acc ++ [y]))) else Pv (i + 1) H3) (hd : ∀ H, Pv x.length H → Qd H) :
    ∃ W : Nat → Nat → Hp → Prop, (∃ m, W 0 m (upd H1 D (.lst []))) ∧ ∀ i m H, W i m H →
      ((Its x).stop i H ∧ Qd H) ∨ ((Its x).go i H ∧ ∃ Nx : Hp → Prop, (∀ H', Nx H' → ∃ m', m' < m ∧ W (i + 1) m' H') ∧ ∀ y H', (Its x).yld i H y H' → g y (wipe σ vs) H' fun σ2 H2 => wipe σ2 vs = wipe σ vs ∧ tt σ2 H2 fun b H3 =>
        if b = true then te σ2 H3 fun y H4 => ∃ acc, H4 D = some (.lst acc) ∧ acc.length < sizeLine ∧ Nx (upd H4 D (.lst (acc ++ [y]))) else Nx H3) := by
  have hl : x.length = x.cps.size := rfl
  refine ⟨fun i m H => m = x.length - i ∧ i ≤ x.length ∧ Pv i H, ⟨x.length, by simp, Nat.zero_le _, h0⟩, ?_⟩
  rintro i m H ⟨rfl, hi, p⟩
  by_cases hlt : i < x.length
  · refine .inr ⟨hlt, Pv (i + 1), fun H' p' => ⟨x.length - (i + 1), by omega, rfl, hlt, p'⟩, fun y H' hy => ?_⟩
    obtain ⟨e, c, hc, e2⟩ := hy
    subst e e2
    refine hs i c _ ?_ p
    show x.cps.toList[i]? = some c
    rw [Array.getElem?_toList]
    exact hc
  · have e : i = x.length := by omega
    subst e
    exact .inl ⟨Nat.le_refl _, hd H p⟩
section
variable {P : Program} {w : World} {K : PySem.W.Frag} {mg : Str → Option Value} {base : Heap} {ts tw : Addr}
theorem scIW : FnScope ["value", "letter"] ["value"] (defScope sIsWord) := ⟨rfl, rfl, rfl, by decide +kernel, rfl, by decide +kernel, by decide +kernel⟩
end
def spIsWord : Sp := fun vs H Q _ => ∃ s : Str, vs = [.str s] ∧ Word s ∧ ∀ H', Same H H' → Q (.bl true) H'
section
variable {P : Program} {w : World} {K : PySem.W.Frag} {mg : Str → Option Value} {base : Heap} {ts tw : Addr}
theorem ok_isword {f : Addr} {fd : FuncData} (F : Fun K "is_word" "is_word" sIsWord f fd) (T : WTxt K mg ts tw) : FnOk P w K mg base CX0 1 f fd ["value"] spIsWord := by
  obtain ⟨t1, hl⟩ := T.let_
  obtain ⟨t2, hm⟩ := T.most
  refine F.ok scIW (fun vs H Q E h => ?_) (fun cdv A outer s H vs Q E hr h => ?_)
  · obtain ⟨s, rfl, _⟩ := h
    rfl
  · obtain ⟨x, rfl, hw, q⟩ := h
    have nd := scIW.nd
    refine ⟨_, pss_cons (ps_if (PW.pt (pw_or (pt_not (pt_val (pe_callB call_isi (by rfl) T.zIsi bt_isi (pa_cons (pv 0) (pa_cons (pe_bltn (v := .ty "str") (by rfl) T.zStr boot_strT rfl) pa_nil)))))
          (pw_or1 (pt_not (pt_chain op_le op_le pe_int (pe_callB call_len_str (by rfl) T.zLen PySem.boot_len (pa_cons (pv 0) pa_nil)) (pe_glob (v := .int 8) (by rfl) hm ⟨_, rfl⟩)))))) (pss_one (ps_ret pe_bl)) pss_nil)
      (pss_one (ps_ret (pe_callB (cr_all rfl) (by rfl) T.zAll bt_all (pa_cons
        (pe_lc (own := [("letter", 1)]) (g := gName 1) (tt := tYes) rfl nd (pi_str (pv 0)) (blkOk_by (N := ["value", "letter"]) (sc := defScope sIsWord) (by decide +kernel))
          (fun _ _ _ _ _ => pg_name (i := 1) nd rfl (.inl rfl)) (fun _ _ _ _ _ => pts_nil) (fun _ _ _ _ _ => pe_cmpR op_in_sign (pv 1) (pe_glob (v := .str letters) (by rfl) hl ⟨_, rfl⟩) (by rfl))) pa_nil)))), ?_⟩
    have hp := hw.pos
    have hq := hw.len
    refine ⟨_, rfl, _, .ty "str", _, _, true, rfl, .ty "str", .base (.str _), kit_ty (by decide +kernel), _, rfl, iteF ?_⟩
    refine ⟨_, rfl, x, rfl, sz1 (by omega), _, _, rfl, rfl, _, rfl, ite2 (fun _ => ?_) (fun z => absurd (decide_eq_true (show (1 : Int) ≤ (x.length : Nat) by omega)) z)⟩
    refine ⟨_, _, rfl, rfl, _, rfl, ite2 (fun z => ?_) (fun _ => ?_)⟩
    · exfalso
      have h8 : decide (((x.length : Nat) : Int) ≤ 8) = true := decide_eq_true (by omega)
      rw [h8] at z
      exact absurd z (by decide)
    · refine ⟨_, rfl, x, rfl, fun D hD => lc_str (x := x) (fun i G => G D = some (.lst ((List.replicate i true).map V.bl)) ∧ Same H G) ⟨upd_same, same_lay hD⟩ ?_ ?_⟩
      · rintro i c G hc ⟨hd, s⟩
        have hz := hw.az c (List.mem_of_getElem? hc)
        have hi : i < x.length := by
          have := (List.getElem?_eq_some_iff.mp hc).1
          rw [TL.len_tl]
          exact this
        refine ⟨rfl, yesT ?_⟩
        refine ⟨_, rfl, c, letters, rfl, rfl, _, hd, small1000 (by rw [List.length_map, List.length_replicate]; omega), ?_, same_upd s hD⟩
        rw [upd_same, List.replicate_succ', List.map_append, show decide (c ∈ letters.cps.toList) = true from decide_eq_true (az_in hz.1 hz.2)]
        rfl
      · rintro G ⟨hd, s⟩
        refine ⟨D, _, rfl, .inl (.inl hd), ?_⟩
        have e : (List.replicate x.length true).all id = true := by
          rw [List.all_eq_true]
          intro b hb
          exact (List.mem_replicate.mp hb).2
        rw [e]
        exact q G s
theorem scKW : FnScope ["value"] ["value"] (defScope sChkW) := ⟨rfl, rfl, rfl, by decide +kernel, rfl, by decide +kernel, by decide +kernel⟩
end
def spChkW : Sp := fun vs H Q _ => ∃ s : Str, vs = [.str s] ∧ Word s ∧ ∀ H', Same H H' → Q .non H'
section
variable {P : Program} {w : World} {K : PySem.W.Frag} {mg : Str → Option Value} {base : Heap} {ts tw : Addr}
theorem ok_chkw {f : Addr} {fd : FuncData} (F : Fun K "check_word" "check_word" sChkW f fd) (IW : Cl P w K mg base 1 "is_word" ["value"] spIsWord) : FnOk P w K mg base CX0 2 f fd ["value"] spChkW := by
  refine F.ok scKW (fun vs H Q E h => ?_) (fun cdv A outer s H vs Q E hr h => ?_)
  · obtain ⟨s, rfl, _⟩ := h
    rfl
  · obtain ⟨x, rfl, hw, q⟩ := h
    refine ⟨_, pss_one (ps_if (pt_not (pt_val (pe_cl IW hr (by decide) (by rfl) (pa_cons (pv 0) pa_nil)))) (pss_one ps_never) pss_nil), ?_⟩
    exact ⟨_, rfl, x, rfl, hw, fun H' s => ⟨_, rfl, iteF (q H' s)⟩⟩
end
end OR

/-! ### sorted of a list of triples (2, text, the same text) -/
namespace TR
open PySem PySem.W PyProof.Rows
def TripAt (h : Heap) (v : Value) (y : Str) : Prop := ∃ (a : Addr) (t1 t2 t3 : Tok), v = .ref a ∧ IsTup h a #[.int 2 t1, .str y t2, .str y t3]
/-- the text of a triple, read off the heap -/
def keyT (h : Heap) (v : Value) : Str := match v with
  | .ref a => (match h.get? a with
    | some o => (match o.data with
      | .seq xs _ => DT.txOf (xs.toList[1]?)
      | _ => ⟨#[]⟩)
    | none => ⟨#[]⟩)
  | _ => ⟨#[]⟩
theorem TripAt.tx {h : Heap} {v : Value} {y : Str} (x : TripAt h v y) : keyT h v = y := by
  obtain ⟨a, t1, t2, t3, rfl, ⟨o, ho, hc, n, hd⟩⟩ := x
  simp only [keyT, ho, hd]
  rfl
theorem TripAt.keeps {h h' : Heap} {v : Value} {y : Str} (x : TripAt h v y) (k : ∀ b o, h.get? b = some o → o.cls = .type "tuple" → h'.get? b = some o) : TripAt h' v y := by
  obtain ⟨a, t1, t2, t3, e, ⟨o, ho, hc, r⟩⟩ := x
  exact ⟨a, t1, t2, t3, e, ⟨o, k _ _ ho hc, hc, r⟩⟩
theorem firsts_of {h : Heap} : ∀ vs : List Value, (∀ v ∈ vs, ∃ y, TripAt h v y) → ∃ fs : List Value, KatTups h vs fs ∧ fs.length = vs.length ∧ ∀ f ∈ fs, ∃ t, f = Value.int 2 t
  | [], _ => ⟨[], KatTups.nil, rfl, fun f hf => by simp at hf⟩
  | v :: vs, x => by
    obtain ⟨fs, k, hl, hi⟩ := firsts_of vs fun u hu => x u (List.mem_cons_of_mem _ hu)
    obtain ⟨y, a, t1, t2, t3, rfl, ⟨o, ho, hc, n, hd⟩⟩ := x v (List.mem_cons_self ..)
    refine ⟨.int 2 t1 :: fs, KatTups.cons ho hc hd rfl k, by rw [List.length_cons, List.length_cons, hl], fun f hf => ?_⟩
    rcases List.mem_cons.mp hf with rfl | hf
    · exact ⟨t1, rfl⟩
    · exact hi f hf
section
variable {prog : Program} {w : World} {A : Around} {E : Value → Shared → Prop} {s : Shared}
theorem kind_trip {vs : List Value} {ρ : Str → Int} (h2 : 2 ≤ vs.length) (x : ∀ v ∈ vs, ∃ y, TripAt s.heap v y)
    (hρ : ∀ v ∈ vs, ∀ u ∈ vs, decide ((keyT s.heap v).cps.toList < (keyT s.heap u).cps.toList) = decide (ρ (keyT s.heap v) < ρ (keyT s.heap u))) (Q : SortKind → Shared → Prop)
    (h : ∀ κ, TS.Cmp prog w A s κ (pairsOf vs) (fun v => ρ (keyT s.heap v)) → Q κ s) : wpAny (model prog w) A (keyKind' vs.toArray) Q E s := by
  obtain ⟨fs, k, hl, hi⟩ := firsts_of vs x
  refine kat_kind (T := Value.type "int") k (by omega) (fun f hf => ?_) rfl (h _ ?_)
  · obtain ⟨t, rfl⟩ := hi f hf
    exact PySem.W.Looks.now
  · have hb : (Value.type "int" != Value.type "tuple") = true := by first | rfl | decide | simp
    rw [hb]
    intro p q hp hq Q' E' hQ
    rw [pairsOf_toList] at hp hq
    have mp := (mem_zip_self hp).2
    have mq := (mem_zip_self hq).2
    obtain ⟨y, py⟩ := x _ mp
    obtain ⟨z, pz⟩ := x _ mq
    have hr := hρ _ mp _ mq
    have hQ' : Q' (decide (y.cps.toList < z.cps.toList)) s := by
      rw [py.tx, pz.tx] at hr
      rw [hr]
      have hQ2 : Q' (decide (ρ (keyT s.heap p.1) < ρ (keyT s.heap q.1))) s := hQ
      rw [py.tx, pz.tx] at hQ2
      exact hQ2
    obtain ⟨a, t1, t2, t3, e1, ⟨o, ho, hc, n, hd⟩⟩ := py
    obtain ⟨a', u1, u2, u3, e2, ⟨o', ho', hc', n', hd'⟩⟩ := pz
    rw [e1, e2]
    refine kat_lt ho hd ho' hd' ?_
    show KatLex prog w A true false Q' [(Value.int 2 t1, Value.int 2 u1), (Value.str y t2, Value.str z u2), (Value.str y t3, Value.str z u3)] 0 s
    refine kat_cons (wpAny_eqBool_int ?_)
    refine kat_go (fun _ => ?_) (fun e0 => by simp at e0)
    refine kat_yes (kat_cons (eqBool_str ?_))
    refine kat_go (fun e0 => ?_) (fun e0 => ?_)
    · have e : y = z := by simpa using e0
      have irr : decide (y.cps.toList < z.cps.toList) = false := by
        rw [e]
        first | exact decide_eq_false (List.lt_irrefl _) | simp
      rw [irr] at hQ'
      refine kat_yes (kat_cons (eqBool_str ?_))
      refine kat_go (fun _ => ?_) (fun e1 => by rw [e0] at e1; exact Bool.noConfusion e1)
      exact kat_yes (kat_nil hQ')
    · refine kat_no ?_
      show wpAny _ _ (oneLt' false _ _) _ _ _
      exact kat_one _ _ (PyProof.Rows.lt_str hQ')
/-- sorted(xs) of a list of triples -/
theorem sort_trip {a : Addr} {vs : List Value} {n : Nat} {P : PySem.Fin → Shared → Prop} (ho : s.heap.get? a = some (seqObj "list" vs.toArray n)) (h64 : vs.length < 64) (x : ∀ v ∈ vs, ∃ y, TripAt s.heap v y) {ρ : Str → Int}
    (hρ : ∀ v ∈ vs, ∀ u ∈ vs, decide ((keyT s.heap v).cps.toList < (keyT s.heap u).cps.toList) = decide (ρ (keyT s.heap v) < ρ (keyT s.heap u)))
    (h : ∀ out : Array Value, out.toList.Perm vs → out.toList.Pairwise (fun u v => ρ (keyT s.heap u) ≤ ρ (keyT s.heap v)) → P (.done (.ret .none)) { s with heap := sortedHeap s.heap a vs out }) :
    wpAny (model prog w) A (Builtin.«list.sort» ⟨[.ref a], []⟩) P E s := by
  have keep : ∀ b o, s.heap.get? b = some o → o.cls = .type "tuple" → (TS.midHeap s.heap a vs).get? b = some o := fun b o e hc => by
    refine TS.midHeap_old ?_ e
    rintro rfl
    rw [ho] at e
    have e' : seqObj "list" vs.toArray n = o := Option.some.inj e
    rw [← e'] at hc
    have c' : Value.type "list" = Value.type "tuple" := hc
    injection c' with c''
    exact absurd c'' (by decide)
  have same : ∀ v ∈ vs, keyT (TS.midHeap s.heap a vs) v = keyT s.heap v := fun v hv => by
    obtain ⟨y, t⟩ := x v hv
    rw [t.tx, (t.keeps keep).tx]
  refine SK.plain_sort (r := fun v => ρ (keyT (TS.midHeap s.heap a vs) v)) ho h64 (fun h2 Q hQ => ?_) fun ps out h1 h2 h3 => ?_
  · refine kind_trip (s := { s with heap := TS.midHeap s.heap a vs }) (ρ := ρ) h2 (fun v hv => ?_) (fun v hv u hu => ?_) Q hQ
    · obtain ⟨y, t⟩ := x v hv
      exact ⟨y, t.keeps keep⟩
    · show decide ((keyT (TS.midHeap s.heap a vs) v).cps.toList < (keyT (TS.midHeap s.heap a vs) u).cps.toList) = decide (ρ (keyT (TS.midHeap s.heap a vs) v) < ρ (keyT (TS.midHeap s.heap a vs) u))
      rw [same v hv, same u hu]
      exact hρ v hv u hu
  · obtain ⟨p, o⟩ := TS.out_rank (r := fun v => ρ (keyT (TS.midHeap s.heap a vs) v)) h1 h2 h3
    refine h out p (List.Pairwise.imp_of_mem (fun {u v} hu hv e => ?_) o)
    rw [same u (p.mem_iff.mp hu), same v (p.mem_iff.mp hv)] at e
    exact e
theorem sorted_trip {l : Addr} {vs : List Value} {Q : Value → Shared → Prop} (hl : s.heap.IsList l vs.toArray) (h64 : vs.length < 64) (x : ∀ v ∈ vs, ∃ y, TripAt s.heap v y) {ρ : Str → Int}
    (hρ : ∀ v ∈ vs, ∀ u ∈ vs, decide ((keyT s.heap v).cps.toList < (keyT s.heap u).cps.toList) = decide (ρ (keyT s.heap v) < ρ (keyT s.heap u)))
    (h : ∀ out : Array Value, out.toList.Perm vs → out.toList.Pairwise (fun u v => ρ (keyT s.heap u) ≤ ρ (keyT s.heap v)) → Q (.ref (s.heap.objs.size + 1)) { s with heap := sortedAll s.heap vs out }) :
    wpAny (model prog w) A (call (.builtin "sorted") [.ref l]) Q E s := by
  refine Calls.call_function_entry kind_sorted plain_sorted entry_sorted (args_sorted1 _) ?_
  unfold Builtin.«sorted»
  refine wpAny_bind (m := checkCount "sorted" 1 1 _) (wpAny_pure ?_)
  refine wpAny_bind (collect_list hl ?_ (by rw [sizeLine_eq]; omega))
  refine wpAny_bind (wpAny_newList ?_ (by rw [sizeLine_eq]; omega))
  have hsz : ((s.heap.push (seqObj "list" #[] 0)).update s.heap.objs.size (Obj.mapSeq (· ++ vs.toArray))).objs.size = s.heap.objs.size + 1 := by
    rw [Heap.size_update, size_push']
  have hoL : (((s.heap.push (seqObj "list" #[] 0)).update s.heap.objs.size (Obj.mapSeq (· ++ vs.toArray))).push (seqObj "list" vs.toArray 0)).get? (s.heap.objs.size + 1) = some (seqObj "list" vs.toArray 0) := by
    rw [← hsz]; exact Heap.get?_push_size _ rfl
  have keep : ∀ b o, s.heap.get? b = some o → o.cls = .type "tuple" → (((s.heap.push (seqObj "list" #[] 0)).update s.heap.objs.size (Obj.mapSeq (· ++ vs.toArray))).push (seqObj "list" vs.toArray 0)).get? b = some o := fun b o q _ => by
    have hlt : b < s.heap.objs.size := Heap.lt_size q
    rw [Heap.get?_push_ne _ _ _ (by rw [hsz]; exact Nat.ne_of_lt (Nat.lt_succ_of_lt hlt)), Heap.get?_update_ne _ _ _ _ (Nat.ne_of_lt hlt), Heap.get?_push_ne _ _ _ (Nat.ne_of_lt hlt)]
    exact q
  have x2 : ∀ v ∈ vs, ∃ y, TripAt (((s.heap.push (seqObj "list" #[] 0)).update s.heap.objs.size (Obj.mapSeq (· ++ vs.toArray))).push (seqObj "list" vs.toArray 0)) v y := fun v hv => by
    obtain ⟨y, t⟩ := x v hv
    exact ⟨y, t.keeps keep⟩
  have same : ∀ v ∈ vs, keyT (((s.heap.push (seqObj "list" #[] 0)).update s.heap.objs.size (Obj.mapSeq (· ++ vs.toArray))).push (seqObj "list" vs.toArray 0)) v = keyT s.heap v := fun v hv => by
    obtain ⟨y, t⟩ := x v hv
    rw [t.tx, (t.keeps keep).tx]
  show wpAny _ _ _ _ _ { s with heap := ((s.heap.push (seqObj "list" #[] 0)).update s.heap.objs.size (Obj.mapSeq (· ++ vs.toArray))).push (seqObj "list" vs.toArray 0) }
  rw [hsz]
  refine wpAny_bind (wpAny_holding (wpAny_call_entry slot_list_sort ⟨_, hoL, rfl⟩ entry_list_sort (sort_trip (s := { s with heap := ((s.heap.push (seqObj "list" #[] 0)).update s.heap.objs.size (Obj.mapSeq (· ++ vs.toArray))).push (seqObj "list" vs.toArray 0) }) hoL h64 x2 (ρ := ρ) (fun v hv u hu => ?_) fun out a1 a2 => ⟨_, rfl, ?_⟩) (args_list_sort _)))
  · show decide ((keyT (((s.heap.push (seqObj "list" #[] 0)).update s.heap.objs.size (Obj.mapSeq (· ++ vs.toArray))).push (seqObj "list" vs.toArray 0)) v).cps.toList < (keyT (((s.heap.push (seqObj "list" #[] 0)).update s.heap.objs.size (Obj.mapSeq (· ++ vs.toArray))).push (seqObj "list" vs.toArray 0)) u).cps.toList) = _
    rw [same v hv, same u hu, hρ v hv u hu]
  · refine wpAny_pure ⟨_, rfl, h out a1 (List.Pairwise.imp_of_mem (fun {u v} hu hv e => ?_) a2)⟩
    have e' : ρ (keyT (((s.heap.push (seqObj "list" #[] 0)).update s.heap.objs.size (Obj.mapSeq (· ++ vs.toArray))).push (seqObj "list" vs.toArray 0)) u) ≤ ρ (keyT (((s.heap.push (seqObj "list" #[] 0)).update s.heap.objs.size (Obj.mapSeq (· ++ vs.toArray))).push (seqObj "list" vs.toArray 0)) v) := e
    rw [same u (a1.mem_iff.mp hu), same v (a1.mem_iff.mp hv)] at e'
    exact e'
end
/-- a rank of texts within a list -/
def rankS (L : List Str) (y : Str) : Int := (L.countP fun z => decide (z.cps.toList < y.cps.toList) : Nat)
theorem rank_lt {L : List Str} {x y : Str} (hx : x ∈ L) (h : x.cps.toList < y.cps.toList) : rankS L x < rankS L y := by
  unfold rankS
  have le : ∀ M : List Str, M.countP (fun z => decide (z.cps.toList < x.cps.toList)) ≤ M.countP (fun z => decide (z.cps.toList < y.cps.toList)) := fun M => List.countP_mono_left fun z _ e => decide_eq_true (List.lt_trans (of_decide_eq_true e) h)
  have lt : ∀ M : List Str, x ∈ M → M.countP (fun z => decide (z.cps.toList < x.cps.toList)) < M.countP (fun z => decide (z.cps.toList < y.cps.toList)) := by
    intro M
    induction M with
    | nil => intro z; cases z
    | cons a M ih =>
      intro hm
      have l1 := le M
      rw [List.countP_cons, List.countP_cons]
      rcases List.mem_cons.mp hm with e | e
      · subst e
        rw [if_neg (by rw [decide_eq_false (List.lt_irrefl _)]; decide), if_pos (decide_eq_true h)]
        omega
      · have l2 := ih e
        by_cases c : a.cps.toList < x.cps.toList
        · rw [if_pos (decide_eq_true c), if_pos (decide_eq_true (List.lt_trans c h))]; omega
        · rw [if_neg (by rw [decide_eq_false c]; decide)]
          split <;> omega
  have := lt L hx
  omega
theorem rank_le {L : List Str} {x y : Str} (h : ¬ x.cps.toList < y.cps.toList) : rankS L y ≤ rankS L x := by
  unfold rankS
  have := List.countP_mono_left (l := L) (p := fun z => decide (z.cps.toList < y.cps.toList)) (q := fun z => decide (z.cps.toList < x.cps.toList)) fun z _ e => by
    refine decide_eq_true ?_
    have e := of_decide_eq_true e
    exact Classical.byContradiction fun c => h (List.lt_of_le_of_lt (List.not_lt.mp c) e)
  omega
theorem rank_dec {L : List Str} {x y : Str} (hx : x ∈ L) : decide (x.cps.toList < y.cps.toList) = decide (rankS L x < rankS L y) := by
  by_cases h : x.cps.toList < y.cps.toList
  · rw [decide_eq_true h, decide_eq_true (rank_lt hx h)]
  · have := rank_le (L := L) h
    rw [decide_eq_false h, decide_eq_false (by omega)]
theorem rank_ord {L : List Str} {x y : Str} (hy : y ∈ L) (h : rankS L x ≤ rankS L y) : ¬ y.cps.toList < x.cps.toList := fun e => by
  have := rank_lt hy e
  omega
end TR
namespace OR
open PySem PySem.Spec PyProof.Rows L2
/-- in order -/
def Asc (ys : List Str) : Prop := ys.Pairwise fun x y => ¬ y.cps.toList < x.cps.toList
/-- sorted of triples -/
def rSort3 (K : PySem.W.Frag) : List V → Hp → VK → Prop := fun vs H Q => ∃ (a : Addr) (L : List (Addr × Str)), vs = [V.ref a] ∧ SqL K H a (L.map fun p => V.ref p.1) ∧ L.length < 64 ∧ (∀ p ∈ L, H p.1 = some (.tup [.int 2, .str p.2, .str p.2])) ∧
  ∀ (L' : List (Addr × Str)) (p : Addr), L'.Perm L → Asc (L'.map (·.2)) → H p = none → Q (.ref p) (upd H p (.lst (L'.map fun p => V.ref p.1)))
theorem sl_of {X : Cx} {pins : List (Addr × Obj)} {σ : L2.St} {H : Hp} {s : Shared} (I : Inv X pins σ H s) {t : Addr} {y : Str} (h : H t = some (.tup [.int 2, .str y, .str y])) : TR.TripAt s.heap (.ref t) y := by
  obtain ⟨its, rv, hT, _⟩ := I.tuple (xs := [.int 2, .str y, .str y]) (.inl (.inl h))
  cases rv with
  | cons r1 rv =>
    cases rv with
    | cons r2 rv =>
      cases rv with
      | cons r3 rv =>
        cases rv
        obtain ⟨t1, rfl⟩ := r1
        obtain ⟨t2, rfl⟩ := r2
        obtain ⟨t3, rfl⟩ := r3
        exact ⟨t, t1, t2, t3, rfl, hT⟩
theorem vals_refs3 {L : List (Addr × Str)} : ∀ {us : List Value}, Vals (L.map fun p => V.ref p.1) us → us = L.map fun p => Value.ref p.1 := by
  induction L with
  | nil => intro us h; cases h; rfl
  | cons p L ih =>
    intro us h
    cases h with
    | cons r t =>
      rw [List.map_cons, ih t]
      cases r
      rfl
theorem refs_vals3 : ∀ (L : List (Addr × Str)), Vals (L.map fun p => V.ref p.1) (L.map fun p => Value.ref p.1)
  | [] => .nil
  | p :: L => .cons (show RelV (.ref p.1) (.ref p.1) from rfl) (refs_vals3 L)
theorem out3 (h : Heap) : ∀ (out : List Value), (∀ u ∈ out, ∃ a, u = Value.ref a) → ∃ L' : List (Addr × Str), out = L'.map (fun p => Value.ref p.1) ∧ L'.map (·.2) = out.map (TR.keyT h)
  | [], _ => ⟨[], rfl, rfl⟩
  | u :: out, hu => by
    obtain ⟨L', e1, e2⟩ := out3 h out fun v hv => hu v (List.mem_cons_of_mem _ hv)
    obtain ⟨a, rfl⟩ := hu u List.mem_cons_self
    exact ⟨(a, TR.keyT h (.ref a)) :: L', by rw [List.map_cons, ← e1], by rw [List.map_cons, List.map_cons, e2]⟩
theorem cr_sort3 {X : Cx} (K : PySem.W.Frag) (hK : X.K = K) : CallR X (.builtin "sorted") (rSort3 K) := by
  subst hK
  intro pins s σ H vs us Q I r h
  obtain ⟨a, L, rfl, hs, h64, hx, q⟩ := h
  obtain ⟨its, rv, hl, hz⟩ := I.list hs
  rw [Vals.ref1 r]
  have ei := vals_refs3 rv
  subst ei
  have tx : ∀ p ∈ L, TR.TripAt s.heap (.ref p.1) p.2 := fun p hp => sl_of I (hx p hp)
  have key : ∀ p ∈ L, TR.keyT s.heap (.ref p.1) = p.2 := fun p hp => (tx p hp).tx
  refine TR.sorted_trip (ρ := TR.rankS (L.map (·.2))) hl.isList (by rw [List.length_map]; exact h64) (fun v hv => ?_) (fun v hv u hu => ?_) fun out h1 h2 => ?_
  · obtain ⟨p, hp, rfl⟩ := List.mem_map.mp hv
    exact ⟨_, tx p hp⟩
  · obtain ⟨p, hp, rfl⟩ := List.mem_map.mp hv
    rw [key p hp]
    exact TR.rank_dec (List.mem_map.mpr ⟨p, hp, rfl⟩)
  · obtain ⟨ep, he'⟩ := PyProof.Rows.sortedAll_at s.heap (L.map fun p => Value.ref p.1) out
    have f1 : (L.map fun p => Value.ref p.1).map (fun u => match u with | .ref a => (a, TR.keyT s.heap u) | _ => (0, ⟨#[]⟩)) = L := by
      rw [List.map_map]
      conv => rhs; rw [← List.map_id L]
      refine List.map_congr_left fun p hp => ?_
      show (p.1, TR.keyT s.heap (.ref p.1)) = p
      rw [key p hp]
    obtain ⟨L', e1, e2⟩ := out3 s.heap out.toList fun u hu => by
      obtain ⟨p, _, rfl⟩ := List.mem_map.mp (h1.mem_iff.mp hu)
      exact ⟨_, rfl⟩
    have f2 : out.toList.map (fun u => match u with | .ref a => (a, TR.keyT s.heap u) | _ => ((0 : Addr), (⟨#[]⟩ : Str))) = L' := by
      have e3 : L'.map (·.2) = L'.map (fun p => TR.keyT s.heap (.ref p.1)) := by rw [e2, e1, List.map_map]; rfl
      rw [e1, List.map_map]
      conv => rhs; rw [← List.map_id L']
      refine List.map_congr_left fun p hp => ?_
      show (p.1, TR.keyT s.heap (.ref p.1)) = p
      have : p.2 = TR.keyT s.heap (.ref p.1) := by
        have := List.map_inj_left.mp e3 p hp
        exact this
      rw [← this]
    have hp : L'.Perm L := by
      rw [← f1, ← f2]
      exact h1.map _
    have hlen : (L'.map fun p => V.ref p.1).length ≤ sizeLine := by
      rw [List.length_map, hp.length_eq]
      rw [List.length_map] at hz
      exact hz
    refine ⟨.ref _, upd H (s.heap.objs.size + 1) (.lst (L'.map fun p => V.ref p.1)), I.laid (t' := s.toks) (fun _ _ => PyProof.Rows.sortedAll_old) (Nat.le_succ _) ⟨hlen, out.toList, ep, by rw [e1]; exact refs_vals3 L', he'⟩, rfl, q _ _ hp ?_ (I.hok.fresh (Nat.le_succ _))⟩
    unfold Asc
    rw [e2, List.pairwise_map]
    refine List.Pairwise.imp_of_mem (fun {u v} hu hv e => ?_) h2
    obtain ⟨p, hp2, rfl⟩ := List.mem_map.mp (h1.mem_iff.mp hv)
    rw [key p hp2] at e ⊢
    exact TR.rank_ord (List.mem_map.mpr ⟨p, hp2, rfl⟩) e
end OR

namespace OR
/-! ### pieces: tilings, outcomes, the one form -/
abbrev LnR := Int × Int
def lv (r : LnR) (x : Int) : Int := r.1 * x + r.2
abbrev Pce := Int × Int × Option LnR
def oV (l : Option LnR) (x : Int) : Option Int := l.map fun r => lv r x
def hit (x : Int) (q : Pce) : Bool := decide (q.1 ≤ x) && decide (x ≤ q.2.1)
def outc (L : List Pce) (x : Int) : Option Int := match L.filter (hit x) with
  | q :: _ => oV q.2.2 x
  | [] => none
/-- the pieces follow one another from a up to b - 1 -/
def Til : List Pce → Int → Int → Prop
  | [], a, b => a = b
  | q :: r, a, b => q.1 = a ∧ a ≤ q.2.1 ∧ Til r (q.2.1 + 1) b
theorem Til.le : ∀ {L : List Pce} {a b : Int}, Til L a b → a ≤ b
  | [], _, _, h => by have : _ = _ := h; omega
  | q :: r, a, b, ⟨h1, h2, h3⟩ => by have := Til.le h3; omega
theorem Til.app : ∀ {A B : List Pce} {a c b : Int}, Til A a c → Til B c b → Til (A ++ B) a b
  | [], B, a, c, b, h, k => by have : a = c := h; subst this; exact k
  | q :: r, B, a, c, b, ⟨h1, h2, h3⟩, k => ⟨h1, h2, Til.app h3 k⟩
theorem Til.split : ∀ {A B : List Pce} {a b : Int}, Til (A ++ B) a b → ∃ c, Til A a c ∧ Til B c b
  | [], B, a, b, h => ⟨a, rfl, h⟩
  | q :: r, B, a, b, ⟨h1, h2, h3⟩ => by
    obtain ⟨c, k1, k2⟩ := Til.split (A := r) h3
    exact ⟨c, ⟨h1, h2, k1⟩, k2⟩
theorem Til.one {q : Pce} {a b : Int} (h : Til [q] a b) : q.1 = a ∧ a ≤ q.2.1 ∧ b = q.2.1 + 1 := ⟨h.1, h.2.1, (show q.2.1 + 1 = b from h.2.2).symm⟩
theorem Til.mem : ∀ {L : List Pce} {a b : Int}, Til L a b → ∀ q ∈ L, a ≤ q.1 ∧ q.1 ≤ q.2.1 ∧ q.2.1 < b
  | [], _, _, _, q, hq => nomatch hq
  | p :: r, a, b, ⟨h1, h2, h3⟩, q, hq => by
    have h4 := h3.le
    rcases List.mem_cons.mp hq with e | e
    · subst e; exact ⟨by omega, by omega, by omega⟩
    · have := Til.mem h3 q e
      omega
theorem Til.lo {L : List Pce} {a b x : Int} (h : Til L a b) (hx : x < a) : L.filter (hit x) = [] := by
  rw [List.filter_eq_nil_iff]
  intro q hq
  have := h.mem q hq
  unfold hit
  rw [decide_eq_false (by omega)]
  simp
theorem Til.hi {L : List Pce} {a b x : Int} (h : Til L a b) (hx : b ≤ x) : L.filter (hit x) = [] := by
  rw [List.filter_eq_nil_iff]
  intro q hq
  have := h.mem q hq
  unfold hit
  rw [decide_eq_false (show ¬ x ≤ q.2.1 by omega), Bool.and_false]
  simp
theorem outc_left {A B : List Pce} {c b x : Int} (h : Til B c b) (hx : x < c) : outc (A ++ B) x = outc A x := by
  unfold outc
  rw [List.filter_append, h.lo hx, List.append_nil]
theorem outc_right {A B : List Pce} {a c x : Int} (h : Til A a c) (hx : c ≤ x) : outc (A ++ B) x = outc B x := by
  unfold outc
  rw [List.filter_append, h.hi hx, List.nil_append]
theorem outc_one {q : Pce} {x : Int} (h1 : q.1 ≤ x) (h2 : x ≤ q.2.1) : outc [q] x = oV q.2.2 x := by
  unfold outc hit
  rw [List.filter_cons_of_pos (by rw [decide_eq_true h1, decide_eq_true h2]; decide)]
/-- the piece with a place, told by an index -/
theorem outc_at {L : List Pce} {a b x : Int} (h : Til L a b) {i : Nat} {q : Pce} (hq : L[i]? = some q) (h1 : q.1 ≤ x) (h2 : x ≤ q.2.1) : outc L x = oV q.2.2 x := by
  obtain ⟨hi, e⟩ := List.getElem?_eq_some_iff.mp hq
  have sp : L = L.take i ++ q :: L.drop (i + 1) := by
    rw [← e, List.getElem_cons_drop, List.take_append_drop]
  rw [sp] at h ⊢
  obtain ⟨c, k1, k2⟩ := h.split
  rw [outc_right k1 (by have := k2.1; omega)]
  have k3 : Til ([q] ++ L.drop (i + 1)) c b := k2
  obtain ⟨d, m1, m2⟩ := k3.split
  have := m1.one
  show outc ([q] ++ L.drop (i + 1)) x = _
  rw [outc_left m2 (by omega), outc_one h1 h2]
/-! ### one more piece -/
def thru (x here beyond : Int) : LnR := (beyond - here, here - (beyond - here) * x)
theorem thru_here (x h b : Int) : lv (thru x h b) x = h := by unfold lv thru; simp only; omega
theorem thru_beyond (x h b : Int) : lv (thru x h b) (x + 1) = b := by
  unfold lv thru
  simp only
  rw [Int.mul_add]
  omega
def cont (q : Pce) (f e : Int) (l : Option LnR) : Pce :=
  match q.2.2, l with
  | none, none => (q.1, e, none)
  | none, some _ => q
  | some _, none => q
  | some h, some m =>
    if q.1 = q.2.1 then (q.1, if (thru q.1 (lv h q.1) (lv m f)).1 = m.1 then e else f, some (thru q.1 (lv h q.1) (lv m f)))
    else if lv h f = lv m f then (q.1, if h.1 = m.1 then e else f, some h) else q
structure Cont (q p q' : Pce) : Prop where
  fst : q'.1 = q.1
  lo : q.2.1 ≤ q'.2.1
  hi : q'.2.1 ≤ p.2.1
  old : ∀ x, q.1 ≤ x → x ≤ q.2.1 → oV q'.2.2 x = oV q.2.2 x
  new : ∀ x, p.1 ≤ x → x ≤ q'.2.1 → oV q'.2.2 x = oV p.2.2 x
theorem same_slope {h m : LnR} {f x : Int} (e : lv h f = lv m f) (s : h.1 = m.1) : lv h x = lv m x := by
  unfold lv at *
  rw [s] at e ⊢
  omega
theorem cont_ok {q p : Pce} (hq : q.1 ≤ q.2.1) (hp : p.1 ≤ p.2.1) (adj : q.2.1 + 1 = p.1) : Cont q p (cont q p.1 p.2.1 p.2.2) := by
  obtain ⟨s, e, l⟩ := q
  obtain ⟨f, t, m⟩ := p
  simp only at hq hp adj
  subst adj
  unfold cont
  cases l with
  | none =>
    cases m with
    | none => exact ⟨rfl, by simp only; omega, Int.le_refl _, fun _ _ _ => rfl, fun _ _ _ => rfl⟩
    | some m => exact ⟨rfl, Int.le_refl _, by simp only; omega, fun _ _ _ => rfl, fun x h1 h2 => absurd h1 (by simp only at h2 ⊢; omega)⟩
  | some h =>
    cases m with
    | none => exact ⟨rfl, Int.le_refl _, by simp only; omega, fun _ _ _ => rfl, fun x h1 h2 => absurd h1 (by simp only at h2 ⊢; omega)⟩
    | some m =>
      simp only
      by_cases c : s = e
      · rw [if_pos c]
        subst c
        refine ⟨rfl, ?_, ?_, fun x h1 h2 => ?_, fun x h1 h2 => ?_⟩
        · simp only; split <;> omega
        · simp only; split <;> omega
        · obtain rfl : x = s := by simp only at h1 h2; omega
          show some (lv _ _) = some (lv _ _)
          rw [thru_here]
        · show some (lv _ _) = some (lv _ _)
          simp only at h1 h2
          split at h2
          · next z =>
            rw [same_slope (f := s + 1) (thru_beyond _ _ _) z]
          · obtain rfl : x = s + 1 := by omega
            rw [thru_beyond]
      · rw [if_neg c]
        by_cases c2 : lv h (e + 1) = lv m (e + 1)
        · rw [if_pos c2]
          refine ⟨rfl, ?_, ?_, fun x h1 h2 => rfl, fun x h1 h2 => ?_⟩
          · simp only; split <;> omega
          · simp only; split <;> omega
          · show some (lv _ _) = some (lv _ _)
            simp only at h1 h2
            split at h2
            · next z => rw [same_slope c2 z]
            · obtain rfl : x = e + 1 := by omega
              rw [c2]
        · rw [if_neg c2]
          exact ⟨rfl, Int.le_refl _, by simp only; omega, fun _ _ _ => rfl, fun x h1 h2 => absurd h1 (by simp only at h2 ⊢; omega)⟩
def more (q' p : Pce) : List Pce := if q'.2.1 + 1 ≤ p.2.1 then [(q'.2.1 + 1, p.2.1, p.2.2)] else []
def stp (R : List Pce) (p : Pce) : List Pce :=
  match R.getLast? with
  | none => [p]
  | some q => R.dropLast ++ (cont q p.1 p.2.1 p.2.2 :: more (cont q p.1 p.2.1 p.2.2) p)
theorem stp_nil (p : Pce) : stp [] p = [p] := rfl
theorem stp_snoc (R : List Pce) (q p : Pce) : stp (R ++ [q]) p = R ++ (cont q p.1 p.2.1 p.2.2 :: more (cont q p.1 p.2.1 p.2.2) p) := by
  unfold stp
  rw [List.getLast?_append, List.dropLast_append]
  simp
/-- rows with the outcomes of pieces -/
structure Like (T R : List Pce) (a b : Int) : Prop where
  til : Til R a b
  out : ∀ x, a ≤ x → x < b → outc R x = outc T x
theorem Like.step {T R : List Pce} {a b : Int} {p : Pce} (hT : Til T a b) (h : Like T R a b) (hne : R ≠ [] ∨ T = []) (hp : p.1 = b) (hp2 : p.1 ≤ p.2.1) : Like (T ++ [p]) (stp R p) a (p.2.1 + 1) := by
  have tp : Til [p] b (p.2.1 + 1) := ⟨hp, by omega, rfl⟩
  rcases List.eq_nil_or_concat R with e | ⟨R', q, e⟩
  · subst e
    have hT0 : T = [] := hne.resolve_left (fun z => z rfl)
    subst hT0
    have ab : a = b := hT
    subst ab
    exact ⟨tp, fun x _ _ => rfl⟩
  · rw [List.concat_eq_append] at e
    subst e
    rw [stp_snoc]
    obtain ⟨c, k1, k2⟩ := h.til.split
    obtain ⟨q1, q2, q3⟩ := k2.one
    have C := cont_ok (q := q) (p := p) (by omega) hp2 (by omega)
    generalize cont q p.1 p.2.1 p.2.2 = q' at C
    obtain ⟨C1, C2, C3, C4, C5⟩ := C
    have t1 : Til [q'] c (q'.2.1 + 1) := ⟨by omega, by omega, rfl⟩
    have t2 : Til (more q' p) (q'.2.1 + 1) (p.2.1 + 1) := by
      unfold more
      by_cases z : q'.2.1 + 1 ≤ p.2.1
      · rw [if_pos z]; exact ⟨rfl, z, rfl⟩
      · rw [if_neg z]; show q'.2.1 + 1 = p.2.1 + 1; omega
    refine ⟨k1.app (t1.app t2), fun x hx1 hx2 => ?_⟩
    show outc (R' ++ ([q'] ++ more q' p)) x = _
    by_cases z1 : x < c
    · rw [outc_left (t1.app t2) z1, outc_left tp (by have := k2.le; omega), ← h.out x hx1 (by have := k2.le; omega), outc_left k2 z1]
    · rw [outc_right k1 (by omega)]
      by_cases z2 : x ≤ q'.2.1
      · rw [outc_left t2 (by omega), outc_one (by omega) z2]
        by_cases z3 : x ≤ q.2.1
        · rw [C4 x (by omega) z3, outc_left tp (by omega), ← h.out x hx1 (by omega), outc_right k1 (by omega), outc_one (by omega) z3]
        · rw [C5 x (by omega) z2, outc_right hT (by omega), outc_one (by omega) (by omega)]
      · rw [outc_right t1 (by omega), outc_right hT (by omega), outc_one (by omega) (by omega)]
        unfold more
        rw [if_pos (by omega), outc_one (by simp only; omega) (by simp only; omega)]
def plainP (q : Pce) : Pce := (q.1, q.2.1, if q.1 = q.2.1 then q.2.2.map (fun r => ((0 : Int), lv r q.1)) else q.2.2)
theorem til_plain : ∀ {L : List Pce} {a b : Int}, Til L a b → Til (L.map plainP) a b
  | [], _, _, h => h
  | q :: r, a, b, ⟨h1, h2, h3⟩ => ⟨h1, h2, til_plain h3⟩
theorem out_plain (L : List Pce) (x : Int) : outc (L.map plainP) x = outc L x := by
  unfold outc
  have e : (L.map plainP).filter (hit x) = (L.filter (hit x)).map plainP := by
    rw [List.filter_map]
    rfl
  rw [e]
  cases hL : L.filter (hit x) with
  | nil => rfl
  | cons q r =>
    have hq : hit x q = true := (List.mem_filter.mp (hL ▸ List.mem_cons_self : q ∈ L.filter (hit x))).2
    unfold hit at hq
    rw [Bool.and_eq_true] at hq
    have h1 := of_decide_eq_true hq.1
    have h2 := of_decide_eq_true hq.2
    show oV (plainP q).2.2 x = oV q.2.2 x
    unfold plainP
    simp only
    by_cases c : q.1 = q.2.1
    · rw [if_pos c]
      obtain rfl : x = q.1 := by omega
      cases q.2.2 with
      | none => rfl
      | some r =>
        show some (lv _ _) = some (lv _ _)
        unfold lv
        simp
    · rw [if_neg c]
def rowsF (L : List Pce) : List Pce := L.foldl stp []
def oneF (L : List Pce) : List Pce := (rowsF L).map plainP
theorem stp_ne (R : List Pce) (p : Pce) : stp R p ≠ [] := by
  rcases List.eq_nil_or_concat R with e | ⟨R', q, e⟩
  · subst e; rw [stp_nil]; simp
  · rw [List.concat_eq_append] at e
    subst e
    rw [stp_snoc]; simp
theorem rowsF_snoc (T : List Pce) (p : Pce) : rowsF (T ++ [p]) = stp (rowsF T) p := by unfold rowsF; rw [List.foldl_append]; rfl
theorem rowsF_ne {T : List Pce} (h : T ≠ []) : rowsF T ≠ [] := by
  rcases List.eq_nil_or_concat T with e | ⟨R', q, e⟩
  · exact absurd e h
  · rw [e, List.concat_eq_append, rowsF_snoc]; exact stp_ne _ _
theorem rowsF_like {a : Int} : ∀ (n : Nat) (T : List Pce) (b : Int), T.length = n → Til T a b → Like T (rowsF T) a b
  | 0, T, b, hn, h => by
    obtain rfl := List.eq_nil_of_length_eq_zero hn
    exact ⟨h, fun _ _ _ => rfl⟩
  | n + 1, T, b, hn, h => by
    rcases List.eq_nil_or_concat T with e | ⟨T', p, e⟩
    · subst e; cases hn
    · rw [List.concat_eq_append] at e
      subst e
      obtain ⟨c, k1, k2⟩ := h.split
      obtain ⟨p1, p2, p3⟩ := k2.one
      have ih := rowsF_like n T' c (by rw [List.length_append] at hn; simpa using hn) k1
      rw [rowsF_snoc, p3]
      refine ih.step k1 ?_ p1 (by omega)
      rcases List.eq_nil_or_concat T' with e | ⟨T2, p2, e⟩
      · exact .inr e
      · exact .inl (rowsF_ne (by rw [e]; simp))
theorem oneF_like {T : List Pce} {a b : Int} (h : Til T a b) : Like T (oneF T) a b := by
  have := rowsF_like _ T b rfl h
  exact ⟨til_plain this.til, fun x h1 h2 => by unfold oneF; rw [out_plain, this.out x h1 h2]⟩
theorem stp_len (R : List Pce) (p : Pce) : (stp R p).length ≤ R.length + 1 := by
  rcases List.eq_nil_or_concat R with e | ⟨R', q, e⟩
  · subst e; rw [stp_nil]; simp
  · rw [List.concat_eq_append] at e
    subst e
    rw [stp_snoc]
    unfold more
    split <;> simp
theorem rowsF_len : ∀ (n : Nat) (T : List Pce), T.length = n → (rowsF T).length ≤ n
  | 0, T, hn => by
    obtain rfl := List.eq_nil_of_length_eq_zero hn
    exact Nat.le_refl _
  | n + 1, T, hn => by
    rcases List.eq_nil_or_concat T with e | ⟨T', p, e⟩
    · subst e; cases hn
    · rw [List.concat_eq_append] at e
      subst e
      rw [List.length_append] at hn
      have ih := rowsF_len n T' (by simpa using hn)
      have := stp_len (rowsF T') p
      rw [rowsF_snoc]
      omega
theorem oneF_len (T : List Pce) : (oneF T).length ≤ T.length := by unfold oneF; rw [List.length_map]; exact rowsF_len _ T rfl
/-! ### how great the numbers are -/
def Sm (r : LnR) : Prop := r.1.natAbs < 2 ^ 200 ∧ r.2.natAbs < 2 ^ 200
def Wd (r : LnR) : Prop := r.1.natAbs < 2 ^ 420 ∧ r.2.natAbs < 2 ^ 420
theorem Sm.wd {r : LnR} (h : Sm r) : Wd r := ⟨Nat.lt_of_lt_of_le h.1 (Nat.pow_le_pow_right (by decide) (by decide)), Nat.lt_of_lt_of_le h.2 (Nat.pow_le_pow_right (by decide) (by decide))⟩
def Plc (x : Int) : Prop := 0 ≤ x ∧ x ≤ 10 ^ 30
theorem natAbs_mul_lt {a b : Int} {n m : Nat} (ha : a.natAbs < 2 ^ n) (hb : b.natAbs < 2 ^ m) : (a * b).natAbs < 2 ^ (n + m) := by
  rw [Int.natAbs_mul, Nat.pow_add]
  exact Nat.mul_lt_mul'' ha hb
theorem Plc.bits {x : Int} (h : Plc x) : x.natAbs < 2 ^ 100 := by
  obtain ⟨h0, h1⟩ := h
  have : x.natAbs ≤ 10 ^ 30 := by omega
  have e : (10 : Nat) ^ 30 < 2 ^ 100 := by decide
  omega
theorem Sm.val {r : LnR} (h : Sm r) {x : Int} (hx : x.natAbs < 2 ^ 101) : (lv r x).natAbs < 2 ^ 302 := by
  have h1 := natAbs_mul_lt h.1 hx
  have h2 := h.2
  have t := Int.natAbs_add_le (r.1 * x) r.2
  unfold lv
  have e1 : (2 : Nat) ^ 302 = 2 ^ 301 + 2 ^ 301 := by rw [show (302 : Nat) = 301 + 1 from rfl, Nat.pow_succ]; omega
  have e2 : (2 : Nat) ^ 200 ≤ 2 ^ 301 := Nat.pow_le_pow_right (by decide) (by decide)
  have h1' : (r.1 * x).natAbs < 2 ^ 301 := h1
  omega
theorem thru_wd {x h b : Int} (hx : x.natAbs < 2 ^ 101) (hh : h.natAbs < 2 ^ 302) (hb : b.natAbs < 2 ^ 302) : Wd (thru x h b) := by
  have e1 : (2 : Nat) ^ 303 = 2 ^ 302 + 2 ^ 302 := by rw [show (303 : Nat) = 302 + 1 from rfl, Nat.pow_succ]; omega
  have s1 : (b - h).natAbs < 2 ^ 303 := by omega
  have s2 := natAbs_mul_lt s1 hx
  have e2 : (2 : Nat) ^ 303 ≤ 2 ^ 420 := Nat.pow_le_pow_right (by decide) (by decide)
  have e3 : (2 : Nat) ^ 302 ≤ 2 ^ 418 := Nat.pow_le_pow_right (by decide) (by decide)
  have e4 : (2 : Nat) ^ (303 + 101) ≤ 2 ^ 418 := Nat.pow_le_pow_right (by decide) (by decide)
  have e5 : (2 : Nat) ^ 420 = 2 ^ 418 + 2 ^ 418 + 2 ^ 418 + 2 ^ 418 := by rw [show (420 : Nat) = 418 + 1 + 1 from rfl, Nat.pow_succ, Nat.pow_succ]; omega
  refine ⟨by unfold thru; simp only; omega, ?_⟩
  unfold thru
  simp only
  have t := Int.natAbs_sub_le h ((b - h) * x)
  omega
/-- a piece's line is not too great, its values are small where it holds -/
structure Bq (q : Pce) : Prop where
  p1 : Plc q.1
  p2 : Plc q.2.1
  wd : ∀ r, q.2.2 = some r → Wd r
  vb : ∀ r, q.2.2 = some r → ∀ x, q.1 ≤ x → x ≤ q.2.1 → (lv r x).natAbs < 2 ^ 302
/-- a piece with a small line -/
structure Tq (q : Pce) : Prop where
  p1 : Plc q.1
  p2 : Plc q.2.1
  sm : ∀ r, q.2.2 = some r → Sm r
theorem Tq.bq {q : Pce} (h : Tq q) : Bq q := ⟨h.p1, h.p2, fun r e => (h.sm r e).wd, fun r e x h1 h2 => (h.sm r e).val (Nat.lt_of_lt_of_le (Plc.bits ⟨Int.le_trans h.p1.1 h1, Int.le_trans h2 h.p2.2⟩) (by decide))⟩
theorem oV_some {l : Option LnR} {x v : Int} (h : oV l x = some v) : ∃ r, l = some r ∧ lv r x = v := by
  cases l with
  | none => cases h
  | some r => exact ⟨r, rfl, Option.some.inj h⟩
theorem cont_bq {q p : Pce} (hq : q.1 ≤ q.2.1) (hp : p.1 ≤ p.2.1) (adj : q.2.1 + 1 = p.1) (B : Bq q) (T : Bq p) : Bq (cont q p.1 p.2.1 p.2.2) := by
  have C := cont_ok hq hp adj
  have P2 : Plc (cont q p.1 p.2.1 p.2.2).2.1 := ⟨by have := B.p2.1; have := C.lo; omega, by have := T.p2.2; have := C.hi; omega⟩
  have P1 : Plc (cont q p.1 p.2.1 p.2.2).1 := by rw [C.fst]; exact B.p1
  refine ⟨P1, P2, ?_, fun r hr x h1 h2 => ?_⟩
  · clear C P1 P2
    obtain ⟨s, e, l⟩ := q
    obtain ⟨f, t, m⟩ := p
    simp only at hq hp adj
    subst adj
    unfold cont
    intro r hr
    cases l with
    | none => cases m <;> simp only at hr <;> cases hr
    | some h =>
      cases m with
      | none => exact B.wd r hr
      | some m =>
        simp only at hr
        by_cases c : s = e
        · rw [if_pos c] at hr
          cases hr
          subst c
          exact thru_wd (Nat.lt_of_lt_of_le B.p1.bits (by decide)) (B.vb h rfl _ (Int.le_refl _) (Int.le_refl _)) (T.vb m rfl _ (Int.le_refl _) hp)
        · rw [if_neg c] at hr
          by_cases c2 : lv h (e + 1) = lv m (e + 1)
          · rw [if_pos c2] at hr
            cases hr
            exact B.wd _ rfl
          · rw [if_neg c2] at hr
            exact B.wd r hr
  · rw [C.fst] at h1
    by_cases hx : x ≤ q.2.1
    · have e := C.old x h1 hx
      rw [hr] at e
      obtain ⟨h, eh, ev⟩ := oV_some e.symm
      have ev : lv h x = lv r x := ev
      rw [← ev]
      exact B.vb h eh x h1 hx
    · have e := C.new x (by omega) h2
      rw [hr] at e
      obtain ⟨h, eh, ev⟩ := oV_some e.symm
      have ev : lv h x = lv r x := ev
      rw [← ev]
      exact T.vb h eh x (by omega) (Int.le_trans h2 C.hi)
theorem stp_bq {T R : List Pce} {a b : Int} {p : Pce} (h : Like T R a b) (hB : ∀ q ∈ R, Bq q) (hp : p.1 = b) (hp2 : p.1 ≤ p.2.1) (hT : Bq p) : ∀ q ∈ stp R p, Bq q := by
  rcases List.eq_nil_or_concat R with e | ⟨R', q, e⟩
  · subst e
    rw [stp_nil]
    intro q hq
    rw [List.mem_singleton.mp hq]
    exact hT
  · rw [List.concat_eq_append] at e
    subst e
    rw [stp_snoc]
    obtain ⟨c, k1, k2⟩ := h.til.split
    obtain ⟨q1, q2, q3⟩ := k2.one
    have B := hB q (List.mem_append_right _ List.mem_cons_self)
    have C := cont_ok (q := q) (p := p) (by omega) hp2 (by omega)
    have D := cont_bq (q := q) (p := p) (by omega) hp2 (by omega) B hT
    intro z hz
    rcases List.mem_append.mp hz with m | m
    · exact hB z (List.mem_append_left _ m)
    · rcases List.mem_cons.mp m with m | m
      · rw [m]; exact D
      · unfold more at m
        split at m
        · rw [List.mem_singleton.mp m]
          have := C.lo
          have := B.p2.1
          have t2 := hT.p2.2
          exact ⟨⟨by simp only; omega, by simp only; omega⟩, hT.p2, hT.wd, fun r e x h1 h2 => hT.vb r e x (by simp only at h1; omega) h2⟩
        · cases m
theorem rowsF_bq {a : Int} : ∀ (n : Nat) (T : List Pce) (b : Int), T.length = n → Til T a b → (∀ q ∈ T, Bq q) → ∀ q ∈ rowsF T, Bq q
  | 0, T, b, hn, h, _ => by
    obtain rfl := List.eq_nil_of_length_eq_zero hn
    intro q hq
    cases hq
  | n + 1, T, b, hn, h, hT => by
    rcases List.eq_nil_or_concat T with e | ⟨T', p, e⟩
    · subst e; cases hn
    · rw [List.concat_eq_append] at e
      subst e
      obtain ⟨c, k1, k2⟩ := h.split
      obtain ⟨p1, p2, p3⟩ := k2.one
      have hn' : T'.length = n := by rw [List.length_append] at hn; simpa using hn
      have ih := rowsF_bq n T' c hn' k1 fun q hq => hT q (List.mem_append_left _ hq)
      rw [rowsF_snoc]
      exact stp_bq (rowsF_like n T' c hn' k1) ih p1 (by omega) (hT p (List.mem_append_right _ List.mem_cons_self))
theorem plain_bq {q : Pce} (h : Bq q) : Bq (plainP q) := by
  refine ⟨h.p1, h.p2, fun r e => ?_, fun r e x h1 h2 => ?_⟩
  · unfold plainP at e
    simp only at e
    split at e
    · next z =>
      cases h0 : q.2.2 with
      | none => rw [h0] at e; cases e
      | some r0 =>
        rw [h0] at e
        cases e
        exact ⟨Nat.pow_pos (by decide), Nat.lt_of_lt_of_le (h.vb r0 h0 q.1 (Int.le_refl _) (by omega)) (Nat.pow_le_pow_right (by decide) (by decide))⟩
    · exact h.wd r e
  · unfold plainP at e h1 h2
    simp only at e h1 h2
    split at e
    · next z =>
      cases h0 : q.2.2 with
      | none => rw [h0] at e; cases e
      | some r0 =>
        rw [h0] at e
        cases e
        have e2 : lv ((0 : Int), lv r0 q.1) x = lv r0 q.1 := by show 0 * x + lv r0 q.1 = _; omega
        rw [e2]
        exact h.vb r0 h0 q.1 (Int.le_refl _) (by omega)
    · exact h.vb r e x h1 h2
theorem oneF_bq {T : List Pce} {a b : Int} (h : Til T a b) (hT : ∀ q ∈ T, Bq q) : ∀ q ∈ oneF T, Bq q := by
  intro q hq
  unfold oneF at hq
  obtain ⟨q0, m, rfl⟩ := List.mem_map.mp hq
  exact plain_bq (rowsF_bq _ T b rfl h hT q0 m)
end OR

namespace OR
/-! ### the one form depends on the outcomes alone -/
/-- where a piece must end, by the outcome f at the next place -/
def Stop (q : Pce) (v : Option Int) : Prop := match q.2.2 with
  | none => v ≠ none
  | some h => if q.1 = q.2.1 then v = none else v ≠ some (lv h (q.2.1 + 1))
def Can (f : Int → Option Int) : List Pce → Int → Int → Prop
  | [], a, b => a = b
  | q :: r, a, b => q.1 = a ∧ a ≤ q.2.1 ∧ (∀ x, a ≤ x → x ≤ q.2.1 → oV q.2.2 x = f x) ∧ Can f r (q.2.1 + 1) b ∧ (r ≠ [] → Stop q (f (q.2.1 + 1))) ∧ (q.1 = q.2.1 → ∀ h, q.2.2 = some h → h.1 = 0)
theorem Can.le {f : Int → Option Int} : ∀ {L : List Pce} {a b : Int}, Can f L a b → a ≤ b
  | [], _, _, h => by have : _ = _ := h; omega
  | q :: r, a, b, ⟨h1, h2, _, h3, _⟩ => by have := Can.le h3; omega
theorem line_two {h h' : LnR} {a : Int} (e1 : lv h a = lv h' a) (e2 : lv h (a + 1) = lv h' (a + 1)) : h = h' := by
  obtain ⟨s, t⟩ := h
  obtain ⟨s', t'⟩ := h'
  unfold lv at e1 e2
  simp only at e1 e2
  rw [Int.mul_add, Int.mul_add] at e2
  have : s = s' := by omega
  subst this
  have : t = t' := by omega
  rw [this]
theorem can_end {f : Int → Option Int} {q q' : Pce} {r r' : List Pce} {a b : Int} (h : Can f (q :: r) a b) (h' : Can f (q' :: r') a b) : ¬ q.2.1 < q'.2.1 := by
  obtain ⟨h1, h2, h3, h4, h5, h6⟩ := h
  obtain ⟨k1, k2, k3, k4, k5, k6⟩ := h'
  intro lt
  have le' := k4.le
  have rne : r ≠ [] := fun e => by
    rw [e] at h4
    have : q.2.1 + 1 = b := h4
    omega
  have st := h5 rne
  have fx := k3 (q.2.1 + 1) (by omega) (by omega)
  have fa := h3 a (Int.le_refl _) h2
  have fa' := k3 a (Int.le_refl _) k2
  unfold Stop at st
  cases hl : q.2.2 with
  | none =>
    rw [hl] at st fa
    simp only at st
    cases hl' : q'.2.2 with
    | none => rw [hl'] at fx; exact st fx.symm
    | some m => rw [hl', ← fa] at fa'; cases fa'
  | some h =>
    rw [hl] at st fa h3
    simp only at st
    cases hl' : q'.2.2 with
    | none => rw [hl', ← fa] at fa'; cases fa'
    | some m =>
      rw [hl'] at fx k3
      by_cases c : q.1 = q.2.1
      · rw [if_pos c, ← fx] at st; cases st
      · rw [if_neg c] at st
        have e1 : lv h a = lv m a := Option.some.inj ((h3 a (Int.le_refl _) h2).trans (k3 a (Int.le_refl _) k2).symm)
        have e2 : lv h (a + 1) = lv m (a + 1) := Option.some.inj ((h3 (a + 1) (by omega) (by omega)).trans (k3 (a + 1) (by omega) (by omega)).symm)
        rw [line_two e1 e2] at st
        exact st fx.symm
theorem can_uniq {f : Int → Option Int} : ∀ {R R' : List Pce} {a b : Int}, Can f R a b → Can f R' a b → R = R'
  | [], [], _, _, _, _ => rfl
  | [], q :: r, a, b, h, ⟨_, k2, _, k4, _⟩ => by
    have e : a = b := h
    have := k4.le
    omega
  | q :: r, [], a, b, ⟨_, k2, _, k4, _⟩, h => by
    have e : a = b := h
    have := k4.le
    omega
  | q :: r, q' :: r', a, b, h, h' => by
    have n1 := can_end h h'
    have n2 := can_end h' h
    obtain ⟨h1, h2, h3, h4, h5, h6⟩ := h
    obtain ⟨k1, k2, k3, k4, k5, k6⟩ := h'
    have ee : q.2.1 = q'.2.1 := by omega
    have el : q.2.2 = q'.2.2 := by
      have fa := (h3 a (Int.le_refl _) h2).trans (k3 a (Int.le_refl _) k2).symm
      cases hl : q.2.2 with
      | none =>
        cases hl' : q'.2.2 with
        | none => rfl
        | some m => rw [hl, hl'] at fa; cases fa
      | some h =>
        cases hl' : q'.2.2 with
        | none => rw [hl, hl'] at fa; cases fa
        | some m =>
          rw [hl, hl'] at fa
          have e1 : lv h a = lv m a := Option.some.inj fa
          by_cases c : q.1 = q.2.1
          · have s1 := h6 c h hl
            have s2 := k6 (by omega) m hl'
            obtain ⟨s, t⟩ := h
            obtain ⟨s', t'⟩ := m
            simp only at s1 s2
            subst s1 s2
            unfold lv at e1
            simp only at e1
            have : t = t' := by omega
            rw [this]
          · have e2 : lv h (a + 1) = lv m (a + 1) := by
              have z := (h3 (a + 1) (by omega) (by omega)).trans (k3 (a + 1) (by omega) (by omega)).symm
              rw [hl, hl'] at z
              exact Option.some.inj z
            rw [line_two e1 e2]
    have eq : q = q' := by
      obtain ⟨s, e, l⟩ := q
      obtain ⟨s', e', l'⟩ := q'
      simp only at ee el h1 k1
      rw [h1, k1, ee, el]
    rw [eq] at h4 ⊢
    rw [can_uniq h4 k4]
/-- rows whose last piece is open -/
def CanP (f : Int → Option Int) : List Pce → Int → Int → Prop
  | [], a, b => a = b
  | q :: r, a, b => q.1 = a ∧ a ≤ q.2.1 ∧ (∀ x, a ≤ x → x ≤ q.2.1 → oV q.2.2 x = f x) ∧ CanP f r (q.2.1 + 1) b ∧ (r ≠ [] → Stop q (f (q.2.1 + 1)))
theorem canP_split {f : Int → Option Int} : ∀ {R : List Pce} {q : Pce} {a c : Int}, CanP f (R ++ [q]) a c → ∃ d, CanP f R a d ∧ (∀ R0 z, R = R0 ++ [z] → Stop z (f d)) ∧ q.1 = d ∧ d ≤ q.2.1 ∧ (∀ x, d ≤ x → x ≤ q.2.1 → oV q.2.2 x = f x) ∧ c = q.2.1 + 1
  | [], q, a, c, ⟨h1, h2, h3, h4, _⟩ => ⟨a, rfl, (fun R0 z e => absurd e.symm (List.append_ne_nil_of_right_ne_nil _ (List.cons_ne_nil _ _))), h1, h2, h3, (show q.2.1 + 1 = c from h4).symm⟩
  | p :: R, q, a, c, ⟨h1, h2, h3, h4, h5⟩ => by
    obtain ⟨d, k1, k2, k3⟩ := canP_split h4
    have st := h5 (List.append_ne_nil_of_right_ne_nil _ (List.cons_ne_nil _ _))
    refine ⟨d, ⟨h1, h2, h3, k1, fun _ => st⟩, fun R0 z e => ?_, k3⟩
    cases R with
    | nil =>
      have e0 : p.2.1 + 1 = d := k1
      cases R0 with
      | nil =>
        rw [List.nil_append] at e
        cases e
        rw [← e0]; exact st
      | cons x R0 =>
        rw [List.cons_append] at e
        injection e with _ e
        exact absurd e.symm (List.append_ne_nil_of_right_ne_nil _ (List.cons_ne_nil _ _))
    | cons y R =>
      cases R0 with
      | nil => rw [List.nil_append] at e; injection e with _ e; cases e
      | cons x R0 =>
        rw [List.cons_append] at e
        injection e with _ e
        exact k2 R0 z e
theorem canP_join {f : Int → Option Int} : ∀ {R : List Pce} {q : Pce} {a d : Int}, CanP f R a d → (∀ R0 z, R = R0 ++ [z] → Stop z (f d)) → q.1 = d → d ≤ q.2.1 → (∀ x, d ≤ x → x ≤ q.2.1 → oV q.2.2 x = f x) → CanP f (R ++ [q]) a (q.2.1 + 1)
  | [], q, a, d, h, _, h1, h2, h3 => by
    have e : a = d := h
    subst e
    exact ⟨h1, h2, h3, rfl, fun z => absurd rfl z⟩
  | p :: R, q, a, d, ⟨h1, h2, h3, h4, h5⟩, k, k1, k2, k3 => by
    refine ⟨h1, h2, h3, canP_join h4 (fun R0 z e => k (p :: R0) z (by rw [e]; rfl)) k1 k2 k3, fun _ => ?_⟩
    cases R with
    | nil =>
      have e0 : p.2.1 + 1 = d := h4
      rw [e0]
      exact k [] p rfl
    | cons y R => exact h5 (List.cons_ne_nil _ _)
theorem cont_stop {f : Int → Option Int} {q p : Pce} (hq : q.1 ≤ q.2.1) (adj : q.2.1 + 1 = p.1) (hf : ∀ x, p.1 ≤ x → x ≤ p.2.1 → oV p.2.2 x = f x) (hm : (cont q p.1 p.2.1 p.2.2).2.1 + 1 ≤ p.2.1) : Stop (cont q p.1 p.2.1 p.2.2) (f ((cont q p.1 p.2.1 p.2.2).2.1 + 1)) := by
  obtain ⟨s, e, l⟩ := q
  obtain ⟨g, t, m⟩ := p
  simp only at hq adj hf
  subst adj
  unfold cont at hm ⊢
  unfold Stop
  cases l with
  | none =>
    cases m with
    | none => simp only at hm; omega
    | some m =>
      simp only at hm ⊢
      rw [← hf (e + 1) (Int.le_refl _) (by omega)]
      exact fun z => nomatch z
  | some h =>
    cases m with
    | none =>
      simp only at hm ⊢
      rw [← hf (e + 1) (Int.le_refl _) (by omega)]
      split
      · rfl
      · exact fun z => nomatch z
    | some m =>
      simp only at hm ⊢
      by_cases c : s = e
      · rw [if_pos c] at hm ⊢
        simp only at hm ⊢
        by_cases c2 : (thru s (lv h s) (lv m (e + 1))).1 = m.1
        · rw [if_pos c2] at hm; omega
        · rw [if_neg c2] at hm ⊢
          rw [if_neg (by omega), ← hf (e + 1 + 1) (by omega) (by omega)]
          intro z
          have z : lv m (e + 1 + 1) = lv (thru s (lv h s) (lv m (e + 1))) (e + 1 + 1) := Option.some.inj z
          have y : lv m (e + 1) = lv (thru s (lv h s) (lv m (e + 1))) (e + 1) := by
            rw [← c]; exact (thru_beyond _ _ _).symm
          exact c2 (congrArg (·.1) (line_two y z)).symm
      · rw [if_neg c] at hm ⊢
        by_cases c3 : lv h (e + 1) = lv m (e + 1)
        · rw [if_pos c3] at hm ⊢
          simp only at hm ⊢
          by_cases c2 : h.1 = m.1
          · rw [if_pos c2] at hm; omega
          · rw [if_neg c2] at hm ⊢
            rw [if_neg (by omega), ← hf (e + 1 + 1) (by omega) (by omega)]
            intro z
            have z : lv m (e + 1 + 1) = lv h (e + 1 + 1) := Option.some.inj z
            exact c2 (congrArg (·.1) (line_two c3.symm z)).symm
        · rw [if_neg c3] at hm ⊢
          simp only at hm ⊢
          rw [if_neg c, ← hf (e + 1) (Int.le_refl _) (by omega)]
          intro z
          exact c3 (Option.some.inj z).symm
theorem stp_can {f : Int → Option Int} {R : List Pce} {a c : Int} {p : Pce} (h : CanP f R a c) (hne : R ≠ [] ∨ a = c) (hp : p.1 = c) (hp2 : p.1 ≤ p.2.1) (hf : ∀ x, p.1 ≤ x → x ≤ p.2.1 → oV p.2.2 x = f x) : CanP f (stp R p) a (p.2.1 + 1) := by
  rcases List.eq_nil_or_concat R with e | ⟨R', q, e⟩
  · subst e
    have e0 : a = c := h
    rw [stp_nil]
    exact ⟨by omega, by omega, (fun x h1 h2 => hf x (by omega) h2), rfl, fun z => absurd rfl z⟩
  · rw [List.concat_eq_append] at e
    subst e
    rw [stp_snoc]
    obtain ⟨d, k1, k2, k3, k4, k5, k6⟩ := canP_split h
    have C := cont_ok (q := q) (p := p) (by omega) hp2 (by omega)
    have val : ∀ x, d ≤ x → x ≤ (cont q p.1 p.2.1 p.2.2).2.1 → oV (cont q p.1 p.2.1 p.2.2).2.2 x = f x := fun x h1 h2 => by
      by_cases z : x ≤ q.2.1
      · rw [C.old x (by omega) z]; exact k5 x h1 z
      · rw [C.new x (by omega) h2]; exact hf x (by omega) (Int.le_trans h2 C.hi)
    have lo := C.lo
    have hi := C.hi
    have J := canP_join k1 k2 (C.fst.trans k3) (by omega) val
    unfold more
    split
    · next hm =>
      have e2 : R' ++ [cont q p.1 p.2.1 p.2.2, ((cont q p.1 p.2.1 p.2.2).2.1 + 1, p.2.1, p.2.2)] = (R' ++ [cont q p.1 p.2.1 p.2.2]) ++ [((cont q p.1 p.2.1 p.2.2).2.1 + 1, p.2.1, p.2.2)] := by rw [List.append_assoc]; rfl
      rw [e2]
      refine canP_join (q := ((cont q p.1 p.2.1 p.2.2).2.1 + 1, p.2.1, p.2.2)) J (fun R0 z ez => ?_) rfl hm (fun x h1 h2 => hf x (by omega) h2)
      have ez := List.append_inj_right' ez rfl
      cases ez
      exact cont_stop (by omega) (by omega) hf hm
    · next hm =>
      have e3 : (cont q p.1 p.2.1 p.2.2).2.1 = p.2.1 := by omega
      have J2 := J
      generalize (cont q p.1 p.2.1 p.2.2).2.1 = z at J2 e3
      subst e3
      exact J2
theorem rowsF_can {f : Int → Option Int} {a : Int} : ∀ (n : Nat) (T : List Pce) (b : Int), T.length = n → Til T a b → (∀ x, a ≤ x → x < b → outc T x = f x) → CanP f (rowsF T) a b
  | 0, T, b, hn, h, _ => by
    obtain rfl := List.eq_nil_of_length_eq_zero hn
    exact h
  | n + 1, T, b, hn, h, ho => by
    rcases List.eq_nil_or_concat T with e | ⟨T', p, e⟩
    · subst e; cases hn
    · rw [List.concat_eq_append] at e
      subst e
      obtain ⟨c, k1, k2⟩ := h.split
      obtain ⟨p1, p2, p3⟩ := k2.one
      have hn' : T'.length = n := by rw [List.length_append] at hn; simpa using hn
      have ih := rowsF_can (f := f) n T' c hn' k1 fun x h1 h2 => (outc_left k2 h2).symm.trans (ho x h1 (by omega))
      rw [rowsF_snoc, p3]
      refine stp_can ih ?_ p1 (by omega) fun x h1 h2 => ?_
      · cases T' with
        | nil => exact .inr k1
        | cons z r => exact .inl (rowsF_ne (List.cons_ne_nil _ _))
      · have ca := k1.le
        rw [← ho x (by omega) (by omega), outc_right k1 (by omega), outc_one h1 h2]
theorem can_plain {f : Int → Option Int} : ∀ {L : List Pce} {a b : Int}, CanP f L a b → Can f (L.map plainP) a b
  | [], _, _, h => h
  | q :: r, a, b, ⟨h1, h2, h3, h4, h5⟩ => by
    have pv : ∀ x, q.1 ≤ x → x ≤ q.2.1 → oV (plainP q).2.2 x = oV q.2.2 x := fun x k1 k2 => by
      unfold plainP
      simp only
      split
      · next z =>
        cases q.2.2 with
        | none => rfl
        | some h =>
          show some (lv (0, lv h q.1) x) = some (lv h x)
          have : x = q.1 := by omega
          rw [this]
          show some (0 * q.1 + lv h q.1) = _
          rw [Int.zero_mul, Int.zero_add]
      · rfl
    refine ⟨h1, h2, (fun x k1 k2 => by rw [pv x (by omega) k2]; exact h3 x k1 k2), can_plain h4, fun ne => ?_, fun e h eh => ?_⟩
    · have st := h5 fun e => ne (by rw [e]; rfl)
      unfold Stop at st ⊢
      show match (plainP q).2.2 with | none => _ | some h => if q.1 = q.2.1 then f (q.2.1 + 1) = none else f (q.2.1 + 1) ≠ some (lv h (q.2.1 + 1))
      unfold plainP
      simp only
      by_cases c : q.1 = q.2.1
      · rw [if_pos c]
        cases hl : q.2.2 with
        | none => rw [hl] at st; exact st
        | some h => rw [hl] at st; simp only at st; rw [if_pos c] at st; show if q.1 = q.2.1 then _ else _; rw [if_pos c]; exact st
      · rw [if_neg c]; exact st
    · have e : q.1 = q.2.1 := e
      unfold plainP at eh
      simp only at eh
      rw [if_pos e] at eh
      cases hl : q.2.2 with
      | none => rw [hl] at eh; cases eh
      | some h0 => rw [hl] at eh; cases eh; rfl
/-- pieces with the same outcomes have the same one form -/
theorem oneF_canon {T T' : List Pce} {a b : Int} (h : Til T a b) (h' : Til T' a b) (e : ∀ x, a ≤ x → x < b → outc T x = outc T' x) : oneF T = oneF T' :=
  can_uniq (can_plain (rowsF_can (f := outc T) _ T b rfl h fun _ _ _ => rfl)) (can_plain (rowsF_can (f := outc T) _ T' b rfl h' fun x h1 h2 => (e x h1 h2).symm))
end OR

namespace OR
open PySem PySem.Spec PyProof.Rows L2
open TL (tl numL)
inductive All2 {α β : Type} (p : α → β → Prop) : List α → List β → Prop where
  | nil : All2 p [] []
  | cons {a : α} {b : β} {as : List α} {bs : List β} (h : p a b) (t : All2 p as bs) : All2 p (a :: as) (b :: bs)
abbrev Row := Int × Int
def mem (l : List Row) (x : Int) : Prop := ∃ r ∈ l, r.1 ≤ x ∧ x ≤ r.2
namespace All2
variable {α β : Type} {p q : α → β → Prop}
theorem length : ∀ {as : List α} {bs : List β}, All2 p as bs → as.length = bs.length
  | _, _, .nil => rfl
  | _, _, .cons _ t => by rw [List.length_cons, List.length_cons, t.length]
theorem imp (f : ∀ a b, p a b → q a b) : ∀ {as : List α} {bs : List β}, All2 p as bs → All2 q as bs
  | _, _, .nil => .nil
  | _, _, .cons h t => .cons (f _ _ h) (t.imp f)
theorem append : ∀ {as as' : List α} {bs bs' : List β}, All2 p as bs → All2 p as' bs' → All2 p (as ++ as') (bs ++ bs')
  | _, _, _, _, .nil, h => h
  | _, _, _, _, .cons h t, h' => .cons h (t.append h')
theorem get : ∀ {as : List α} {bs : List β}, All2 p as bs → ∀ {i : Nat} {a : α} {b : β}, as[i]? = some a → bs[i]? = some b → p a b
  | _, _, .nil, _, _, _, h, _ => by simp at h
  | _, _, .cons h _, 0, _, _, h1, h2 => by
    simp at h1 h2
    subst h1 h2
    exact h
  | _, _, .cons _ t, i + 1, _, _, h1, h2 => t.get (i := i) (by simpa using h1) (by simpa using h2)
theorem getL : ∀ {as : List α} {bs : List β}, All2 p as bs → ∀ {i : Nat} {a : α}, as[i]? = some a → ∃ b, bs[i]? = some b ∧ p a b
  | _, _, .nil, _, _, h => by simp at h
  | _, _, .cons (b := b) h _, 0, _, h1 => by
    simp at h1
    subst h1
    exact ⟨b, rfl, h⟩
  | _, _, .cons _ t, i + 1, _, h1 => t.getL (i := i) (by simpa using h1)
theorem take : ∀ {as : List α} {bs : List β}, All2 p as bs → ∀ n, All2 p (as.take n) (bs.take n)
  | _, _, .nil, n => by simp; exact .nil
  | _, _, .cons h t, 0 => by simp; exact .nil
  | _, _, .cons h t, n + 1 => by rw [List.take_succ_cons, List.take_succ_cons]; exact .cons h (t.take n)
theorem drop : ∀ {as : List α} {bs : List β}, All2 p as bs → ∀ n, All2 p (as.drop n) (bs.drop n)
  | _, _, .nil, n => by simp; exact .nil
  | _, _, .cons h t, 0 => by rw [List.drop_zero, List.drop_zero]; exact .cons h t
  | _, _, .cons h t, n + 1 => by rw [List.drop_succ_cons, List.drop_succ_cons]; exact t.drop n
theorem mem : ∀ {as : List α} {bs : List β}, All2 p as bs → ∀ {a : α}, a ∈ as → ∃ b, b ∈ bs ∧ p a b
  | _, _, .nil, _, h => nomatch h
  | _, _, .cons (b := b) h t, a, hm => by
    rcases List.mem_cons.mp hm with e | e
    · subst e
      exact ⟨b, List.mem_cons_self, h⟩
    · obtain ⟨c, hc, hp⟩ := t.mem e
      exact ⟨c, List.mem_cons_of_mem _ hc, hp⟩
end All2
theorem iteA {p q : Prop} {b : Bool} (h : b = true) (x : p) : if b = true then p else q := by rw [if_pos h]; exact x
theorem iteB {b : Bool} {A B : Prop} (h : b = false) (k : B) : if b = true then A else B := by
  subst h
  exact k
theorem set_last (xs : List V) (v u : V) : (xs ++ [v]).set xs.length u = xs ++ [u] := by
  rw [List.set_append_right _ _ (Nat.le_refl _), Nat.sub_self]
  rfl
theorem ixN_last (n : Nat) : ixN (n + 1) (-1) = some n := by
  unfold ixN
  rw [if_neg (by omega), if_pos (by omega)]
  congr 1
  omega
def rTupOf (K : PySem.W.Frag) : List V → Hp → VK → Prop := fun xs H Q => ∃ p ys, xs = [.ref p] ∧ ((SqL K H p ys ∧ ∀ l, H l = none → Q (.ref l) (upd H l (.tup ys))) ∨ (SqT K H p ys ∧ Q (.ref p) H))
theorem call_tupOf {X : Cx} (K : PySem.W.Frag) (h : X.K = K) : CallR X (.type "tuple") (rTupOf K) := by
  subst h
  exact call_tuple_of
theorem all2_get {α β : Type} {p : α → β → Prop} : ∀ {xs : List α} {ys : List β}, All2 p xs ys → ∀ {i : Nat} {x : α}, xs[i]? = some x → ∃ y, ys[i]? = some y ∧ p x y
  | _, _, .nil, i, x, h => by simp at h
  | _, _, .cons (b := b) a t, 0, x, h => by cases (show _ = x from Option.some.inj h); exact ⟨b, rfl, a⟩
  | _, _, .cons a t, i + 1, x, h => all2_get t (i := i) h
section
variable {P : Program} {w : World} {K : PySem.W.Frag} {mg : Str → Option Value} {base : Heap} {C : Nat → Addr} {CP CR EB : Addr}
theorem all2_snoc {α β : Type} {q : α → β → Prop} {xs : List α} {ys : List β} {x : α} {y : β} (h : All2 q xs ys) (e : q x y) : All2 q (xs ++ [x]) (ys ++ [y]) := h.append (.cons e .nil)
end
/-- an item of a list or a tuple -/
def rIxA (K : PySem.W.Frag) : R2 := fun x y H Q => ∃ p xs i v, x = .ref p ∧ y = .int i ∧ (SqL K H p xs ∨ SqT K H p xs) ∧ atI xs i = some v ∧ Q v H
theorem ix_any {X : Cx} (K : PySem.W.Frag) (hK : X.K = K) : IxR X (rIxA K) := by
  subst hK
  intro value slice pins s σ H x y v u Q I rx ry h hs
  obtain ⟨p, xs, i, z, hx, hy, hq | hq, he, q⟩ := h
  · exact ix_list value slice pins s σ H x y v u Q I rx ry ⟨p, xs, i, z, hx, hy, hq, he, q⟩ hs
  · exact ix_tup value slice pins s σ H x y v u Q I rx ry ⟨p, xs, i, z, hx, hy, hq, he, q⟩ hs
theorem at0 {a b : V} : atI [a, b] 0 = some a := atI_nat (j := 0) rfl
theorem ix_listK {X : Cx} (K : PySem.W.Frag) (hK : X.K = K) : IxR X (rIxL K) := by
  subst hK
  exact ix_list
theorem ix_tupK {X : Cx} (K : PySem.W.Frag) (hK : X.K = K) : IxR X (rIxT K) := by
  subst hK
  exact ix_tup
end OR

namespace OR
open PySem PySem.Spec PyProof.Rows L2
/-! ### lines and pieces as they stand -/
def LnAt (CL : Addr) (H : Hp) (v : V) : Option LnR → Prop
  | none => v = .non
  | some r => ∃ y, v = .ref y ∧ IsL CL H y r.1 r.2
theorem LnAt.same {CL : Addr} {H H' : Hp} {v : V} {l : Option LnR} (h : LnAt CL H v l) (s : Same H H') : LnAt CL H' v l := by
  cases l with
  | none => exact h
  | some r => obtain ⟨y, e, h⟩ := h; exact ⟨y, e, h.same s⟩
def PcT (CL : Addr) (H : Hp) (v : V) (q : Pce) : Prop := ∃ t u, v = .ref t ∧ H t = some (.tup [.int q.1, .int q.2.1, u]) ∧ LnAt CL H u q.2.2
theorem PcT.same {CL : Addr} {H H' : Hp} {v : V} {q : Pce} (h : PcT CL H v q) (s : Same H H') : PcT CL H' v q := by
  obtain ⟨t, u, e, h1, h2⟩ := h
  exact ⟨t, u, e, s _ _ h1, h2.same s⟩
/-- a piece as it is told: a tuple or a list -/
def PcA (CL : Addr) (H : Hp) (v : V) (q : Pce) : Prop := ∃ t u, v = .ref t ∧ (H t = some (.tup [.int q.1, .int q.2.1, u]) ∨ H t = some (.lst [.int q.1, .int q.2.1, u])) ∧ LnAt CL H u q.2.2
theorem PcA.same {CL : Addr} {H H' : Hp} {v : V} {q : Pce} (h : PcA CL H v q) (s : Same H H') : PcA CL H' v q := by
  obtain ⟨t, u, e, h1, h2⟩ := h
  exact ⟨t, u, e, h1.imp (fun z => s _ _ z) (fun z => s _ _ z), h2.same s⟩
theorem PcT.pcA {CL : Addr} {H : Hp} {v : V} {q : Pce} (h : PcT CL H v q) : PcA CL H v q := by
  obtain ⟨t, u, e, h1, h2⟩ := h
  exact ⟨t, u, e, .inl h1, h2⟩
def spValW (CL : Addr) : Sp := fun vs H Q _ => ∃ (x : Addr) (r : LnR) (t : Int), vs = [.ref x, .int t] ∧ IsL CL H x r.1 r.2 ∧ CMulW r.1 t ∧ Q (.int (lv r t)) H
def spThru (CL : Addr) : Sp := fun vs H Q _ => ∃ x h b : Int, vs = [.int x, .int h, .int b] ∧ CMulW (b - h) x ∧ ∀ y H', H y = none → IsL CL H' y (thru x h b).1 (thru x h b).2 → Same H H' → Q (.ref y) H'
def spCont (CL : Addr) : Sp := fun vs H Q _ => ∃ (t : Addr) (u : V) (q p : Pce), vs = [.ref t, .int p.1, .int p.2.1, u] ∧ PcT CL H (.ref t) q ∧ LnAt CL H u p.2.2 ∧ q.1 ≤ q.2.1 ∧ p.1 ≤ p.2.1 ∧ q.2.1 + 1 = p.1 ∧ Bq q ∧ Bq p ∧
  ∀ v H', PcT CL H' v (cont q p.1 p.2.1 p.2.2) → Same H H' → Q v H'
def spPlain (CL : Addr) : Sp := fun vs H Q _ => ∃ (q : Pce) (u : V), vs = [.int q.1, .int q.2.1, u] ∧ LnAt CL H u q.2.2 ∧ Bq q ∧ ∀ v H', PcT CL H' v (plainP q) → Same H H' → Q v H'
theorem pow200 : (2 : Nat) ^ 200 ≤ 2 ^ 420 := Nat.pow_le_pow_right (by decide) (by decide)
theorem cwWP {a n : Int} (h : a.natAbs < 2 ^ 420) (h2 : n.natAbs < 2 ^ 101) : CMulW a n := wide_mul (a := 420) (b := 101) h h2 (by decide) (by decide) (by decide)
theorem cw303 {a n : Int} (h : a.natAbs < 2 ^ 303) (h2 : n.natAbs < 2 ^ 101) : CMulW a n := wide_mul (a := 303) (b := 101) h h2 (by decide) (by decide) (by decide)
theorem Plc.b1 {x : Int} (h : Plc x) : x.natAbs < 2 ^ 101 := Nat.lt_of_lt_of_le h.bits (Nat.pow_le_pow_right (by decide) (by decide))
theorem thru_cw {x h b : Int} (hx : Plc x) (hh : h.natAbs < 2 ^ 302) (hb : b.natAbs < 2 ^ 302) : CMulW (b - h) x := by
  have e1 : (2 : Nat) ^ 303 = 2 ^ 302 + 2 ^ 302 := by rw [show (303 : Nat) = 302 + 1 from rfl, Nat.pow_succ]; omega
  exact cw303 (by omega) hx.b1
section
variable {P : Program} {w : World} {K : PySem.W.Frag} {mg : Str → Option Value} {base : Heap} {CL : Addr}
theorem scVA : FnScope ["line", "x"] ["line", "x"] (defScope sVal) := ⟨rfl, rfl, rfl, by decide +kernel, rfl, by decide +kernel, by decide +kernel⟩
theorem ok_valW {f : Addr} {fd : FuncData} (F : Fun K "value_at" "value_at" sVal f fd) (T : LTxt K mg CL) : FnOk P w K mg base CX0 1 f fd ["line", "x"] (spValW CL) := by
  refine F.ok scVA (fun vs H Q E h => ?_) (fun cdv A outer s H vs Q E hr h => ?_)
  · obtain ⟨x, r, t, rfl, _⟩ := h
    rfl
  · obtain ⟨x, r, t, rfl, ⟨dx, hx⟩, hm, q⟩ := h
    refine ⟨_, pss_one (ps_ret (pe_op op_add (pe_op op_mulW (pe_fld (pv 0) rfl) (pv 1)) (pe_fld (pv 0) rfl))), ?_⟩
    exact ⟨_, rfl, x, CL, dx, _, _, rfl, hx, T.cl, T.nS, lFl_slope _ _, _, rfl, r.1, t, rfl, rfl, hm, _, rfl, x, CL, dx, _, _, rfl, hx, T.cl, T.nH, lFl_height _ _, _, _, rfl, rfl, q⟩
theorem scLThru : FnScope ["x", "here", "beyond", "slope"] ["x", "here", "beyond"] (defScope pLineThrough) := ⟨rfl, rfl, rfl, by decide +kernel, rfl, by decide +kernel, by decide +kernel⟩
theorem ok_thru {f : Addr} {fd : FuncData} (F : Fun K "line_through" "line_through" pLineThrough f fd) (M : LMk P w K mg base CL) : FnOk P w K mg base CX0 3 f fd ["x", "here", "beyond"] (spThru CL) := by
  refine F.ok scLThru (fun vs H Q E h => ?_) (fun cdv A outer s H vs Q E hr h => ?_)
  · obtain ⟨x, h, b, rfl, _⟩ := h
    rfl
  · obtain ⟨x, h, b, rfl, hm, q⟩ := h
    have nd := scLThru.nd
    refine ⟨_, pss_cons (ps_set (i := 3) nd rfl (.inl rfl) (pe_op op_sub (pv 2) (pv 1)))
      (pss_one (ps_ret (pe_mkL M hr (by decide) (by rfl) (pa_cons (pv 3) (pa_cons (pe_op op_sub (pv 1) (pe_op op_mulW (pv 3) (pv 0))) pa_nil))))), ?_⟩
    exact ⟨_, rfl, _, rfl, _, _, rfl, rfl, _, rfl, _, rfl, _, rfl, _, rfl, _, _, rfl, rfl, hm, _, _, rfl, rfl, _, _, rfl, q⟩
theorem scContd : FnScope ["row", "first", "last", "line", "start", "end", "held"] ["row", "first", "last", "line"] (defScope pContinued) := ⟨rfl, rfl, rfl, by decide +kernel, rfl, by decide +kernel, by decide +kernel⟩
theorem ok_cont {f : Addr} {fd : FuncData} (F : Fun K "_continued" "_continued" pContinued f fd) (T : LTxt K mg CL) (VA : Cl P w K mg base 1 "value_at" ["line", "x"] (spValW CL)) (LT : Cl P w K mg base 3 "line_through" ["x", "here", "beyond"] (spThru CL)) : FnOk P w K mg base CX0 4 f fd ["row", "first", "last", "line"] (spCont CL) := by
  refine F.ok scContd (fun vs H Q E h => ?_) (fun cdv A outer s H vs Q E hr h => ?_)
  · obtain ⟨t, u, q, p, rfl, _⟩ := h
    rfl
  · obtain ⟨t, u, q, p, rfl, ⟨t', hu, e, ht, hl⟩, hm, hq, hp, adj, B, Tp, R⟩ := h
    cases e
    have nd := scContd.nd
    refine ⟨_, pss_cons (ps_asg (pv 0) (pg_tup rfl (pgs_cons (pg_name (i := 4) nd rfl (.inl rfl)) (pgs_cons (pg_name (i := 5) nd rfl (.inl rfl)) (pgs_cons (pg_name (i := 6) nd rfl (.inl rfl)) pgs_nil)))))
      (pss_cons (ps_if (PW.pt (pw_or (pt_cmp (pc_isN (pv 6))) (pw_or1 (pt_cmp (pc_isN (pv 3))))))
          (pss_one (ps_ret (pe_ifExp (PW.pt (pw_and (pt_cmp (pc_isN (pv 6))) (pw_and1 (pt_cmp (pc_isN (pv 3)))))) (pe_tup (pa_cons (pv 4) (pa_cons (pv 2) (pa_cons pe_non pa_nil)))) (pv 0))))
          pss_nil)
      (pss_cons (ps_if (pt_cmpR op_eq (pv 4) (pv 5) (nomark _))
          (pss_one (ps_set (i := 6) nd rfl (.inl rfl) (pe_cl LT hr (by decide) (by rfl) (pa_cons (pv 4) (pa_cons (pe_cl VA hr (by decide) (by rfl) (pa_cons (pv 6) (pa_cons (pv 4) pa_nil))) (pa_cons (pe_cl VA hr (by decide) (by rfl) (pa_cons (pv 3) (pa_cons (pv 1) pa_nil))) pa_nil))))))
          (pss_one (ps_if (pt_cmpR op_ne (pe_cl VA hr (by decide) (by rfl) (pa_cons (pv 6) (pa_cons (pv 1) pa_nil))) (pe_cl VA hr (by decide) (by rfl) (pa_cons (pv 3) (pa_cons (pv 1) pa_nil))) (nomark _))
              (pss_one (ps_ret (pv 0)))
              pss_nil)))
      (pss_one (ps_ret (pe_tup (pa_cons (pv 4) (pa_cons (pe_ifExp (pt_cmpR op_eq (pe_fld (pv 6) rfl) (pe_fld (pv 3) rfl) (nomark _)) (pv 2) (pv 1)) (pa_cons (pv 6) pa_nil)))))))), ?_⟩
    have back : ∀ (Q' : Prop), (PcT CL H (.ref t) (cont q p.1 p.2.1 p.2.2) → Q') → cont q p.1 p.2.1 p.2.2 = q → Q' := fun Q' k e => k (by rw [e]; exact ⟨t, hu, rfl, ht, hl⟩)
    refine ⟨_, rfl, t, _, rfl, .inl (.inl ht), rfl, _, _, rfl, _, _, rfl, _, _, rfl, rfl, ?_⟩
    obtain ⟨s, e, l⟩ := q
    obtain ⟨f, t2, m⟩ := p
    simp only at hq hp adj hm hl ht
    cases l with
    | none =>
      obtain rfl : hu = .non := hl
      refine ⟨_, rfl, _, rfl, iteA (by simp) ?_⟩
      cases m with
      | none =>
        obtain rfl : u = .non := hm
        refine ⟨_, rfl, _, rfl, iteA (by simp) ⟨_, rfl, _, rfl, iteA (by simp) ⟨_, rfl, _, rfl, (by show 3 ≤ sizeLine; decide), fun z nz => R _ _ ⟨z, .non, rfl, upd_same, rfl⟩ (same_lay nz)⟩⟩⟩
      | some m =>
        obtain ⟨y, rfl, hy⟩ := hm
        exact ⟨_, rfl, _, rfl, iteA (by simp) ⟨_, rfl, _, rfl, iteB (by simp) ⟨_, rfl, R _ _ ⟨t, _, rfl, ht, rfl⟩ (Same.refl _)⟩⟩⟩
    | some h =>
      obtain ⟨yh, rfl, hyh⟩ := hl
      refine ⟨_, rfl, _, rfl, iteB (by simp) ?_⟩
      cases m with
      | none =>
        obtain rfl : u = .non := hm
        exact ⟨_, rfl, _, rfl, iteA (by simp) ⟨_, rfl, _, rfl, iteB (by simp) ⟨_, rfl, R _ _ ⟨t, _, rfl, ht, yh, rfl, hyh⟩ (Same.refl _)⟩⟩⟩
      | some m =>
        obtain ⟨y, rfl, hy⟩ := hm
        refine ⟨_, rfl, _, rfl, iteB (by simp) ?_⟩
        subst adj
        have vm := Tp.vb m rfl (e + 1) (Int.le_refl _) hp
        have cm : CMulW m.1 (e + 1) := cwWP (Tp.wd m rfl).1 Tp.p1.b1
        have wdh := B.wd h rfl
        refine ⟨_, rfl, _, rfl, rfl, _, rfl, ite2 (fun c => ?_) (fun c => ?_)⟩
        · have c : s = e := by simpa using c
          have vh := B.vb h rfl s (Int.le_refl _) (by simp only; omega)
          refine ⟨_, rfl, _, rfl, _, rfl, yh, h, s, rfl, hyh, cwWP wdh.1 B.p1.b1, _, rfl, _, rfl, y, m, e + 1, rfl, hy, cm, s, _, _, rfl, thru_cw B.p1 vh vm, fun z G hz hIz sG => ?_⟩
          obtain ⟨dz, hzz⟩ := id hIz
          obtain ⟨dy, hyy⟩ := hy.same sG
          refine ⟨_, rfl, _, rfl, z, CL, dz, _, _, rfl, hzz, T.cl, T.nS, lFl_slope _ _, _, rfl, y, CL, dy, _, _, rfl, hyy, T.cl, T.nS, lFl_slope _ _, rfl, _, rfl, ?_⟩
          have done : ∀ (E2 : Int), (if (thru s (lv h s) (lv m (e + 1))).1 = m.1 then t2 else e + 1) = E2 → ∀ z2, G z2 = none → Q (.ref z2) (upd G z2 (.tup [.int s, .int E2, .ref z])) := fun E2 hE z2 nz => by
            refine R _ _ ⟨z2, .ref z, rfl, ?_, ?_⟩ (sG.trans (same_lay nz))
            · unfold cont
              simp only
              rw [if_pos c, hE]
              exact upd_same
            · unfold cont
              simp only
              rw [if_pos c]
              exact ⟨z, rfl, hIz.same (same_lay nz)⟩
          refine ite2 (fun k => ?_) (fun k => ?_)
          · exact ⟨_, rfl, _, rfl, (by show 3 ≤ sizeLine; decide), done _ (if_pos (by simpa using k))⟩
          · exact ⟨_, rfl, _, rfl, (by show 3 ≤ sizeLine; decide), done _ (if_neg (by simpa using k))⟩
        · have c : ¬ s = e := by simpa using c
          have vb : CMulW h.1 (e + 1) := cwWP wdh.1 Tp.p1.b1
          refine ⟨_, rfl, _, rfl, yh, h, e + 1, rfl, hyh, vb, _, rfl, _, rfl, y, m, e + 1, rfl, hy, cm, rfl, _, rfl, ite2 (fun k => ?_) (fun k => ?_)⟩
          · have k : ¬ lv h (e + 1) = lv m (e + 1) := by simpa using k
            refine ⟨_, rfl, R _ _ ?_ (Same.refl _)⟩
            unfold cont
            simp only
            rw [if_neg c, if_neg k]
            exact ⟨t, _, rfl, ht, yh, rfl, hyh⟩
          · have k : lv h (e + 1) = lv m (e + 1) := by simpa using k
            obtain ⟨dh, hhh⟩ := id hyh
            obtain ⟨dy, hyy⟩ := id hy
            refine ⟨_, rfl, _, rfl, yh, CL, dh, _, _, rfl, hhh, T.cl, T.nS, lFl_slope _ _, _, rfl, y, CL, dy, _, _, rfl, hyy, T.cl, T.nS, lFl_slope _ _, rfl, _, rfl, ?_⟩
            have done : ∀ (E2 : Int), (if h.1 = m.1 then t2 else e + 1) = E2 → ∀ z2, H z2 = none → Q (.ref z2) (upd H z2 (.tup [.int s, .int E2, .ref yh])) := fun E2 hE z2 nz => by
              refine R _ _ ⟨z2, .ref yh, rfl, ?_, ?_⟩ (same_lay nz)
              · unfold cont
                simp only
                rw [if_neg c, if_pos k, hE]
                exact upd_same
              · unfold cont
                simp only
                rw [if_neg c, if_pos k]
                exact ⟨yh, rfl, hyh.same (same_lay nz)⟩
            refine ite2 (fun k => ?_) (fun k => ?_)
            · exact ⟨_, rfl, _, rfl, (by show 3 ≤ sizeLine; decide), done _ (if_pos (by simpa using k))⟩
            · exact ⟨_, rfl, _, rfl, (by show 3 ≤ sizeLine; decide), done _ (if_neg (by simpa using k))⟩
theorem scPlainP : FnScope ["first", "last", "line"] ["first", "last", "line"] (defScope pPlain) := ⟨rfl, rfl, rfl, by decide +kernel, rfl, by decide +kernel, by decide +kernel⟩
theorem ok_plain {f : Addr} {fd : FuncData} (F : Fun K "_plain" "_plain" pPlain f fd) (M : LMk P w K mg base CL) (VA : Cl P w K mg base 1 "value_at" ["line", "x"] (spValW CL)) : FnOk P w K mg base CX0 3 f fd ["first", "last", "line"] (spPlain CL) := by
  refine F.ok scPlainP (fun vs H Q E h => ?_) (fun cdv A outer s H vs Q E hr h => ?_)
  · obtain ⟨q, u, rfl, _⟩ := h
    rfl
  · obtain ⟨q, u, rfl, hl, B, R⟩ := h
    refine ⟨_, pss_one (ps_ret (pe_tup (pa_cons (pv 0) (pa_cons (pv 1) (pa_cons (pe_ifExp (PW.pt (pw_and (pt_cmp (pc_notN (pv 2))) (pw_and1 (pt_cmpR op_eq (pv 0) (pv 1) (nomark _))))) (pe_mkL M hr (by decide) (by rfl) (pa_cons pe_int (pa_cons (pe_cl VA hr (by decide) (by rfl) (pa_cons (pv 2) (pa_cons (pv 0) pa_nil))) pa_nil))) (pv 2)) pa_nil))))), ?_⟩
    obtain ⟨s, e, l⟩ := q
    simp only at hl
    have same : plainP (s, e, l) = (s, e, l) → ∀ z, H z = none → Q (.ref z) (upd H z (.tup [.int s, .int e, u])) := fun k z nz => R _ _ (by rw [k]; exact ⟨z, u, rfl, upd_same, hl.same (same_lay nz)⟩) (same_lay nz)
    refine ⟨_, rfl, _, rfl, ?_⟩
    cases l with
    | none =>
      obtain rfl : u = .non := hl
      refine ⟨_, rfl, _, rfl, iteB (by simp) ⟨_, rfl, (by show 3 ≤ sizeLine; decide), same ?_⟩⟩
      unfold plainP
      simp
    | some r =>
      obtain ⟨y, rfl, hy⟩ := id hl
      refine ⟨_, rfl, _, rfl, iteA (by simp) ⟨_, rfl, _, rfl, rfl, _, rfl, ite2 (fun c => ?_) (fun c => ?_)⟩⟩
      · have c : s = e := by simpa using c
        refine ⟨_, rfl, _, rfl, y, r, s, rfl, hy, cwWP (B.wd r rfl).1 B.p1.b1, _, _, rfl, fun z G hz hIz sG => ⟨(by show 3 ≤ sizeLine; decide), fun z2 nz => R _ _ ⟨z2, .ref z, rfl, upd_same, ?_⟩ (sG.trans (same_lay nz))⟩⟩
        unfold plainP
        simp only
        rw [if_pos c]
        exact ⟨z, rfl, hIz.same (same_lay nz)⟩
      · have c : ¬ s = e := by simpa using c
        refine ⟨_, rfl, (by show 3 ≤ sizeLine; decide), same ?_⟩
        unfold plainP
        simp only
        rw [if_neg c]
end
end OR

namespace OR
open PySem PySem.Spec PyProof.Rows L2
def KP (G G' : Hp) : Prop := ∀ b o, G b = some o → (∀ ys, o ≠ .lst ys) → (∀ kvs, o ≠ .dK kvs) → (∀ ps, o ≠ .tbl ps) → G' b = some o
theorem KP.trans {G G1 G2 : Hp} (a : KP G G1) (b : KP G1 G2) : KP G G2 := fun c o e h1 h2 h3 => b c o (a c o e h1 h2 h3) h1 h2 h3
theorem kp_same {G G' : Hp} (s : Same G G') : KP G G' := fun b o e _ _ _ => s b o e
theorem kp_frm {G G' : Hp} {p : Addr} {k : Nat} (F : Frm p G G') (P : Pen G p k) : KP G G' := fun b o e _ h _ => by
  obtain ⟨kvs, hp⟩ := P.dict
  exact F b o e (ne_of e hp (h kvs))
theorem kp_lst {G : Hp} {a : Addr} {ys : List V} {u : HO} (h : G a = some (.lst ys)) : KP G (upd G a u) := fun b o e h1 _ _ => by
  rw [upd_ne (ne_of e h (h1 ys))]
  exact e
theorem sqT_kp {K : PySem.W.Frag} {G G' : Hp} {a : Addr} {xs : List V} (h : SqT K G a xs) (k : KP G G') : SqT K G' a xs := by
  rcases h with (h | ⟨o, h⟩) | h
  · exact .inl (.inl (k _ _ h (fun _ z => nomatch z) (fun _ z => nomatch z) (fun _ z => nomatch z)))
  · exact .inl (.inr ⟨o, k _ _ h (fun _ z => nomatch z) (fun _ z => nomatch z) (fun _ z => nomatch z)⟩)
  · exact .inr h
theorem kp_dk {G : Hp} {a : Addr} {kvs : List (Key × V)} {u : HO} (h : G a = some (.dK kvs)) : KP G (upd G a u) := fun b o e _ h2 _ => by
  rw [upd_ne (ne_of e h (h2 kvs))]
  exact e
theorem KP.tup {G G' : Hp} {t : Addr} {xs : List V} (k : KP G G') (h : G t = some (.tup xs)) : G' t = some (.tup xs) := k _ _ h (fun _ z => nomatch z) (fun _ z => nomatch z) (fun _ z => nomatch z)
theorem KP.ins {G G' : Hp} {t C dx : Addr} {fs : List (Str × V)} (k : KP G G') (h : G t = some (.ins C dx fs)) : G' t = some (.ins C dx fs) := k _ _ h (fun _ z => nomatch z) (fun _ z => nomatch z) (fun _ z => nomatch z)
theorem LnAt.kp {CL : Addr} {H H' : Hp} {v : V} {l : Option LnR} (h : LnAt CL H v l) (k : KP H H') : LnAt CL H' v l := by
  cases l with
  | none => exact h
  | some r => obtain ⟨y, e, dx, h⟩ := h; exact ⟨y, e, dx, k.ins h⟩
theorem PcT.kp {CL : Addr} {H H' : Hp} {v : V} {q : Pce} (h : PcT CL H v q) (k : KP H H') : PcT CL H' v q := by
  obtain ⟨t, u, e, h1, h2⟩ := h
  exact ⟨t, u, e, k.tup h1, h2.kp k⟩
theorem all2_unsnoc {α β : Type} {p : α → β → Prop} : ∀ {xs : List α} {ys : List β} {y : β}, All2 p xs (ys ++ [y]) → ∃ xs0 x, xs = xs0 ++ [x] ∧ All2 p xs0 ys ∧ p x y
  | _, [], y, h => by
    cases h with
    | cons a t => cases t; exact ⟨[], _, rfl, .nil, a⟩
  | _, z :: ys, y, h => by
    cases h with
    | cons a t =>
      obtain ⟨xs0, x, rfl, h1, h2⟩ := all2_unsnoc t
      exact ⟨_ :: xs0, x, rfl, .cons a h1, h2⟩
/-! ### walks of a list or a tuple -/
def SqA (K : PySem.W.Frag) (H : Hp) (a : Addr) (xs : List V) : Prop := SqL K H a xs ∨ SqT K H a xs
theorem Same.tupS {K : PySem.W.Frag} {H H' : Hp} {a : Addr} {xs : List V} (e : Same H H') (h : SqT K H a xs) : SqT K H' a xs := by
  rcases h with (h | ⟨o, h⟩) | h
  · exact .inl (.inl (e _ _ h))
  · exact .inl (.inr ⟨o, e _ _ h⟩)
  · exact .inr h
theorem Same.any {K : PySem.W.Frag} {H H' : Hp} {a : Addr} {xs : List V} (e : Same H H') (h : SqA K H a xs) : SqA K H' a xs := h.imp e.seq (Same.tupS e)
structure Walks (it : It) (xs : List V) (J : Hp → Prop) : Prop where
  stop : ∀ H, J H → it.stop xs.length H
  go : ∀ i H, J H → i < xs.length → it.go i H
  yld : ∀ i H x H', J H → it.yld i H x H' → H' = H ∧ xs[i]? = some x
theorem walksL {K : PySem.W.Frag} {a : Addr} {xs : List V} : Walks (Itl K a) xs fun H => SqL K H a xs :=
  ⟨fun H h => ⟨xs, h, Nat.le_refl _⟩, fun i H h hi => ⟨xs, xs[i], h, by simp [hi]⟩, fun i H x H' h y => ⟨y.1, y.2 xs h⟩⟩
theorem walksT {K : PySem.W.Frag} {a : Addr} {xs : List V} : Walks (Itt K a) xs fun H => SqT K H a xs :=
  ⟨fun H h => ⟨xs, h, Nat.le_refl _⟩, fun i H h hi => ⟨xs, xs[i], h, by simp [hi]⟩, fun i H x H' h y => ⟨y.1, y.2 xs h⟩⟩
theorem for_any {it : It} {xs : List V} {J : Hp → Prop} {g : TG} {tb : TS} {D : Ends} {σ : L2.St} {H : Hp} (w : Walks it xs J) (Pv : Nat → L2.St → Hp → Prop) (h0 : Pv 0 σ H) (hl : ∀ i σ H, i ≤ xs.length → Pv i σ H → J H)
    (hs : ∀ i x σ H, xs[i]? = some x → Pv i σ H → g x σ H fun σ2 H2 => tb { D with nx := Pv (i + 1), ct := Pv (i + 1), bk := D.nx } σ2 H2) (hd : ∀ σ H, Pv xs.length σ H → D.nx σ H) :
    ∃ W : Nat → Nat → L2.St → Hp → Prop, (∃ m, W 0 m σ H) ∧ ∀ i m σ H, W i m σ H →
      (it.stop i H ∧ D.nx σ H) ∨ (it.go i H ∧ ∃ N : L2.St → Hp → Prop, (∀ σ' H', N σ' H' → ∃ m', m' < m ∧ W (i + 1) m' σ' H') ∧ ∀ x H', it.yld i H x H' → g x σ H' fun σ2 H2 => tb { D with nx := N, ct := N, bk := D.nx } σ2 H2) := by
  refine ⟨fun i m σ H => m = xs.length - i ∧ i ≤ xs.length ∧ Pv i σ H, ⟨xs.length, by simp, Nat.zero_le _, h0⟩, ?_⟩
  rintro i m σ H ⟨rfl, hi, p⟩
  have q := hl i σ H hi p
  by_cases hlt : i < xs.length
  · refine .inr ⟨w.go i H q hlt, Pv (i + 1), fun σ' H' p' => ⟨xs.length - (i + 1), by omega, rfl, hlt, p'⟩, fun x H' y => ?_⟩
    obtain ⟨e, y2⟩ := w.yld i H x H' q y
    subst e
    exact hs i x σ _ y2 p
  · have e : i = xs.length := by omega
    subst e
    exact .inl ⟨w.stop H q, hd σ H p⟩
theorem lc_any {it : It} {xs : List V} {J : Hp → Prop} {g : TG} {tt : TT} {te : TE} {vs : List Nat} {σ : L2.St} {H1 : Hp} {D : Addr} {Qd : Hp → Prop} (w : Walks it xs J) (Pv : Nat → Hp → Prop) (h0 : Pv 0 (upd H1 D (.lst []))) (hl : ∀ i H, i ≤ xs.length → Pv i H → J H)
    (hs : ∀ i x H, xs[i]? = some x → Pv i H → g x (wipe σ vs) H fun σ2 H2 => wipe σ2 vs = wipe σ vs ∧ tt σ2 H2 fun b H3 =>
      if b = true then te σ2 H3 fun y H4 => ∃ acc, H4 D = some (.lst acc) ∧ acc.length < sizeLine ∧ Pv (i + 1) (upd H4 D (.lst (acc ++ [y]))) else Pv (i + 1) H3) (hd : ∀ H, Pv xs.length H → Qd H) :
    ∃ W : Nat → Nat → Hp → Prop, (∃ m, W 0 m (upd H1 D (.lst []))) ∧ ∀ i m H, W i m H →
      (it.stop i H ∧ Qd H) ∨ (it.go i H ∧ ∃ Nx : Hp → Prop, (∀ H', Nx H' → ∃ m', m' < m ∧ W (i + 1) m' H') ∧ ∀ x H', it.yld i H x H' → g x (wipe σ vs) H' fun σ2 H2 => wipe σ2 vs = wipe σ vs ∧ tt σ2 H2 fun b H3 =>
        if b = true then te σ2 H3 fun y H4 => ∃ acc, H4 D = some (.lst acc) ∧ acc.length < sizeLine ∧ Nx (upd H4 D (.lst (acc ++ [y]))) else Nx H3) := by
  refine ⟨fun i m H => m = xs.length - i ∧ i ≤ xs.length ∧ Pv i H, ⟨xs.length, by simp, Nat.zero_le _, h0⟩, ?_⟩
  rintro i m H ⟨rfl, hi, p⟩
  have q := hl i H hi p
  by_cases hlt : i < xs.length
  · refine .inr ⟨w.go i H q hlt, Pv (i + 1), fun H' p' => ⟨xs.length - (i + 1), by omega, rfl, hlt, p'⟩, fun x H' y => ?_⟩
    obtain ⟨e, y2⟩ := w.yld i H x H' q y
    subst e
    exact hs i x _ y2 p
  · have e : i = xs.length := by omega
    subst e
    exact .inl ⟨w.stop H q, hd H p⟩
def gOr (g1 g2 : TG) : TG := fun v σ H Q => g1 v σ H Q ∨ g2 v σ H Q
theorem pg_orD {X : Cx} {tg : Expr} {g1 g2 : TG} (h1 : PG X tg g1) (h2 : PG X tg g2) : PG X tg (gOr g1 g2) := pg_or h1 h2
theorem unp3 {K : PySem.W.Frag} {i j k : Nat} {t : Addr} {x y z : V} {σ : L2.St} {H : Hp} {Q : L2.St → Hp → Prop} (h : H t = some (.tup [x, y, z]) ∨ H t = some (.lst [x, y, z])) (q : Q (((σ.set i (some x)).set j (some y)).set k (some z)) H) :
    gOr (gTup K 3 (gCons (gName i) (gCons (gName j) (gCons (gName k) gNil)))) (gUnl K 3 (gCons (gName i) (gCons (gName j) (gCons (gName k) gNil)))) (.ref t) σ H Q := by
  rcases h with e | e
  · exact .inl ⟨t, _, rfl, .inl (.inl e), rfl, _, _, rfl, _, _, rfl, _, _, rfl, rfl, q⟩
  · exact .inr ⟨t, _, rfl, .inl (.inl e), rfl, _, _, rfl, _, _, rfl, _, _, rfl, rfl, q⟩
/-- what is walked is a list or a tuple -/
def iSeq (K : PySem.W.Frag) (tl : TE) : TI := fun σ H R => tl σ H fun x H1 => ∃ a xs H0, x = .ref a ∧ SqA K H0 a xs ∧ Same H0 H1 ∧ ∀ (it : It) (J : Hp → Prop), Walks it xs J → (∀ G, Same H0 G → J G) → R it H1
theorem pi_seq {X : Cx} (K : PySem.W.Frag) (hK : X.K = K) {tg l : Expr} {tl : TE} (hl : PE X l tl) : PI X tg l (iSeq K tl) := by
  subst hK
  refine ⟨fun pins s σ H R I h => ?_⟩
  refine thn (hl.run pins s σ H _ I h) fun v s1 ⟨x, H1, I1, r1, q1⟩ => ?_
  obtain ⟨a, xs, H0, e, hS, sm, q⟩ := q1
  subst e
  cases r1
  rcases hS with hS | hS
  · obtain ⟨its, rv, p, hz⟩ := I1.list (sm.seq hS)
    refine wpAny_pyIter_list p.isList ?_
    refine ⟨s1.heap.objs.size, [s1.heap.objs.size], _, _, H1, rfl, I1.kept (t' := s1.toks) fun b o e => Heap.get?_push_of_some _ e, turn_list a _, ⟨_, Heap.get?_push_size _ rfl, rfl, rfl⟩, fun b hb => ?_, q _ _ walksL fun G z => z.seq hS⟩
    obtain rfl : b = s1.heap.objs.size := by simpa using hb
    exact I1.fpOk (Nat.le_refl _) (I1.hok.fresh (Nat.le_refl _))
  · obtain ⟨its, rv, p, hz⟩ := I1.tuple (Same.tupS sm hS)
    refine wpAny_pyIter_tuple (show s1.heap.IsTuple a its.toArray from p) ?_
    refine ⟨s1.heap.objs.size, [s1.heap.objs.size], _, _, H1, rfl, I1.kept (t' := s1.toks) fun b o e => Heap.get?_push_of_some _ e, turn_tuple a _, ⟨_, Heap.get?_push_size _ rfl, rfl, rfl⟩, fun b hb => ?_, q _ _ walksT fun G z => Same.tupS z hS⟩
    obtain rfl : b = s1.heap.objs.size := by simpa using hb
    exact I1.fpOk (Nat.le_refl _) (I1.hok.fresh (Nat.le_refl _))
end OR

namespace OR
open PySem PySem.Spec PyProof.Rows L2
def spOneF (K : PySem.W.Frag) (CL : Addr) : Sp := fun vs H Q _ => ∃ (a : Addr) (xs : List V) (L : List Pce) (b c : Int), vs = [.ref a] ∧ SqA K H a xs ∧ All2 (PcA CL H) xs L ∧ Til L b c ∧ (∀ q ∈ L, Bq q) ∧ L.length ≤ 1000 ∧
  ∀ t ys H', H t = none → H' t = some (.tup ys) → All2 (PcT CL H') ys (oneF L) → Same H H' → Q (.ref t) H'
theorem take_snoc {α : Type} {L : List α} {i : Nat} {x : α} (h : L[i]? = some x) : L.take (i + 1) = L.take i ++ [x] := by rw [List.take_add_one, h]; rfl
theorem til_take {L : List Pce} {b c : Int} (h : Til L b c) {i : Nat} {p : Pce} (hp : L[i]? = some p) : Til (L.take i) b p.1 ∧ p.1 ≤ p.2.1 := by
  obtain ⟨hi, e⟩ := List.getElem?_eq_some_iff.mp hp
  have sp : L = L.take i ++ p :: L.drop (i + 1) := by rw [← e, List.getElem_cons_drop, List.take_append_drop]
  rw [sp] at h
  obtain ⟨d, k1, k2⟩ := h.split
  have e1 := k2.1
  have e2 := k2.2.1
  exact ⟨by rw [e1]; exact k1, by omega⟩
section
variable {P : Program} {w : World} {K : PySem.W.Frag} {mg : Str → Option Value} {base : Heap} {CL : Addr}
theorem scOneF : FnScope ["pieces", "rows", "first", "last", "line", "start"] ["pieces"] (defScope pOneForm) := ⟨rfl, rfl, rfl, by decide +kernel, rfl, by decide +kernel, by decide +kernel⟩
theorem ok_oneF {f : Addr} {fd : FuncData} (F : Fun K "one_form" "one_form" pOneForm f fd) (N : NTxt mg) (CO : Cl P w K mg base 4 "_continued" ["row", "first", "last", "line"] (spCont CL)) (PL : Cl P w K mg base 3 "_plain" ["first", "last", "line"] (spPlain CL)) : FnOk P w K mg base CX0 5 f fd ["pieces"] (spOneF K CL) := by
  refine F.ok scOneF (fun vs H Q E h => ?_) (fun cdv A outer s H vs Q E hr h => ?_)
  · obtain ⟨a, xs, L, b, c, rfl, _⟩ := h
    rfl
  · obtain ⟨a, xs, L, b, c, rfl, hS, hA, hT, hq, hlen, R⟩ := h
    have nd := scOneF.nd
    refine ⟨_, pss_cons (ps_set (i := 1) nd rfl (.inl rfl) (pe_lst pa_nil))
      (pss_cons (ps_for PassesOwn.never rfl (pi_seq K rfl (pv 0)) (pg_orD (pg_tup rfl (pgs_cons (pg_name (i := 2) nd rfl (.inl rfl)) (pgs_cons (pg_name (i := 3) nd rfl (.inl rfl)) (pgs_cons (pg_name (i := 4) nd rfl (.inl rfl)) pgs_nil)))) (pg_unl rfl (pgs_cons (pg_name (i := 2) nd rfl (.inl rfl)) (pgs_cons (pg_name (i := 3) nd rfl (.inl rfl)) (pgs_cons (pg_name (i := 4) nd rfl (.inl rfl)) pgs_nil)))))
          (pss_cons (ps_set (i := 5) nd rfl (.inl rfl) (pv 2))
          (pss_cons (ps_if (pt_truth (pv 1) (by intro _; rfl))
              (pss_cons (ps_asg (pe_cl CO hr (by decide) (by rfl) (pa_cons (pe_ix (ix_listK K rfl) (pv 1) (pe_un un_neg pe_int) (fun _ _ => rfl)) (pa_cons (pv 2) (pa_cons (pv 3) (pa_cons (pv 4) pa_nil))))) (pg_sub (pv 1) (pe_un un_neg pe_int) set_list))
              (pss_one (ps_set (i := 5) nd rfl (.inl rfl) (pe_op op_add (pe_ix (ix_tupK K rfl) (pe_ix (ix_listK K rfl) (pv 1) (pe_un un_neg pe_int) (fun _ _ => rfl)) pe_int (fun _ _ => rfl)) pe_int))))
              pss_nil)
          (pss_one (ps_if (pt_cmpR op_le (pv 5) (pv 3) (nomark _))
              (pss_one (ps_expr (pe_bm PySem.F.plainAttrs_list PySem.F.slot_list_append PySem.F.type_list_append mt_append (pv 1) (pa_cons (pe_tup (pa_cons (pv 5) (pa_cons (pv 3) (pa_cons (pv 4) pa_nil)))) pa_nil))))
              pss_nil)))))
      (pss_one (ps_ret (pe_callTy call_tuple_of (by rfl) N.zTup bt_tup (pa_cons (pe_lc (own := [("first", 2), ("last", 3), ("line", 4)]) (g := (gTup K 3 (gCons (gName 2) (gCons (gName 3) (gCons (gName 4) gNil))))) (tt := tYes) rfl nd (pi_list (pv 1)) (blkOk_by (N := ["pieces", "rows", "first", "last", "line", "start"]) (sc := defScope pOneForm) (by decide +kernel)) (fun _ _ _ _ _ => pg_tup rfl (pgs_cons (pg_name (i := 2) nd rfl (.inl rfl)) (pgs_cons (pg_name (i := 3) nd rfl (.inl rfl)) (pgs_cons (pg_name (i := 4) nd rfl (.inl rfl)) pgs_nil)))) (fun _ _ _ _ _ => pts_nil) (fun _ _ _ _ _ => (pe_cl PL hr (by decide) (by rfl) (pa_cons (pv 2) (pa_cons (pv 3) (pa_cons (pv 4) pa_nil)))))) pa_nil))))), ?_⟩
    refine ⟨(by show 0 ≤ sizeLine; decide), fun o no => ?_⟩
    have s0 := same_lay (o := .lst []) no
    have lxs := hA.length
    refine ⟨_, rfl, a, xs, H, rfl, hS, s0, ?_⟩
    intro it J wk st
    refine for_any wk (fun i σ G => ∃ f l u z vs, σ = [some (.ref a), some (.ref o), f, l, u, z] ∧ G o = some (.lst vs) ∧ All2 (PcT CL G) vs (rowsF (L.take i)) ∧ Same H G)
      ⟨none, none, none, none, [], rfl, upd_same, .nil, s0⟩ (fun i σ G _ h => by obtain ⟨f, l, u, z, vs, _, _, _, s⟩ := h; exact st G s) ?_ ?_
    · rintro i x σ G hx ⟨f0, l0, u0, z0, vs, rfl, hoG, hR, sG⟩
      obtain ⟨p, hp, tp, u, rfl, hpt, hpl⟩ := all2_get hA hx
      have hpt := hpt.imp (fun z => sG _ _ z) (fun z => sG _ _ z)
      have hpl := hpl.same sG
      obtain ⟨tt, p12⟩ := til_take hT hp
      have Tp := hq p (List.mem_of_getElem? hp)
      have LK := rowsF_like _ (L.take i) _ rfl tt
      have hB := rowsF_bq _ (L.take i) _ rfl tt fun q m => hq q (List.mem_of_mem_take m)
      have eT := take_snoc hp
      have il : i < L.length := (List.getElem?_eq_some_iff.mp hp).1
      have rl := rowsF_len _ (L.take i) rfl
      rw [List.length_take, Nat.min_eq_left (by omega)] at rl
      have lvs := hR.length
      refine unp3 hpt ?_
      show _
      refine ⟨_, rfl, ?_⟩
      rw [eT, rowsF_snoc]
      have vl : vs.length < sizeLine := small1000 (by omega)
      have three : 3 ≤ sizeLine := by decide
      rcases List.eq_nil_or_concat (rowsF (L.take i)) with e0 | ⟨R0, q0, e0⟩
      · rw [e0] at hR
        cases hR
        refine ⟨_, rfl, false, .inl ⟨[], .inl (.inl hoG), rfl⟩, iteF ?_⟩
        refine ⟨_, rfl, _, rfl, _, _, rfl, rfl, _, rfl, iteA (decide_eq_true p12) ?_⟩
        refine ⟨_, rfl, .inl ⟨rfl, _, .inl (.inl hoG)⟩, _, rfl, _, rfl, _, rfl, three, fun t nt => ⟨_, _, _, rfl, rfl, same_lay nt _ _ hoG, by decide, ?_⟩⟩
        have s1 := same_lay (o := .tup [.int p.1, .int p.2.1, u]) nt
        refine ⟨_, _, _, _, _, rfl, upd_same, ?_, same_upd (sG.trans s1) no⟩
        rw [e0, stp_nil]
        have not_ : t ≠ o := fun z => by rw [z, hoG] at nt; cases nt
        exact .cons ⟨t, u, rfl, by rw [upd_ne not_, upd_same], by
          cases hpl2 : p.2.2 with
          | none => rw [hpl2] at hpl; exact hpl
          | some r =>
            rw [hpl2] at hpl
            obtain ⟨y, ey, dy, hy⟩ := hpl
            exact ⟨y, ey, dy, by rw [upd_ne (ne_of (s1 _ _ hy) (s1 _ _ hoG) (by intro z; cases z))]; exact s1 _ _ hy⟩⟩ .nil
      · rw [List.concat_eq_append] at e0
        rw [e0] at hR LK hB rl
        obtain ⟨vs0, v0, rfl, hR0, hv0⟩ := all2_unsnoc hR
        obtain ⟨d, k1, k2⟩ := LK.til.split
        obtain ⟨q1, q2, q3⟩ := k2.one
        have Bq0 := hB q0 (List.mem_append_right _ List.mem_cons_self)
        obtain ⟨t0, u1, rfl, hq0, hl0⟩ := id hv0
        have hSo : SqL K G o (vs0 ++ [.ref t0]) := .inl (.inl hoG)
        refine ⟨_, rfl, !(vs0 ++ [V.ref t0]).isEmpty, .inl ⟨_, .inl (.inl hoG), rfl⟩, iteA (by simp) ?_⟩
        refine ⟨_, rfl, 1, rfl, o, _, -1, _, rfl, rfl, hSo, atI_last _ _, _, rfl, _, rfl, _, rfl, t0, u, q0, p, rfl, hv0, hpl, by omega, p12, by omega, Bq0, Tp, fun v G1 hv s1 => ?_⟩
        have hoG1 := s1 _ _ hoG
        have ixe : ixN (vs0 ++ [V.ref t0]).length (-1) = some vs0.length := by rw [List.length_append]; exact ixN_last _
        refine ⟨_, rfl, 1, rfl, o, _, -1, _, rfl, rfl, hoG1, ixe, ?_⟩
        rw [set_last]
        have k1' := kp_lst (u := .lst (vs0 ++ [v])) hoG1
        have sG1 : Same H (upd G1 o (.lst (vs0 ++ [v]))) := same_upd (sG.trans s1) no
        have hv' := hv.kp k1'
        have hR0' : All2 (PcT CL (upd G1 o (.lst (vs0 ++ [v])))) vs0 R0 := hR0.imp fun _ _ h => (h.same s1).kp k1'
        have hpl' := (hpl.same s1).kp k1'
        obtain ⟨tv, uv, rfl, htv, huv⟩ := id hv'
        have hoG2 : upd G1 o (.lst (vs0 ++ [V.ref tv])) o = some (.lst (vs0 ++ [.ref tv])) := upd_same
        generalize upd G1 o (.lst (vs0 ++ [V.ref tv])) = G2 at sG1 hv' hR0' hpl' htv huv hoG2
        clear k1' hoG1 s1 hv hR0 hSo hq0 hl0 hv0 hpl hpt hoG sG
        refine ⟨_, rfl, 1, rfl, o, _, -1, _, rfl, rfl, .inl (.inl hoG2), atI_last _ _, tv, _, 1, _, rfl, rfl, .inl (.inl htv), atI_nat (j := 1) rfl, _, _, rfl, rfl, ?_⟩
        refine ⟨_, rfl, _, rfl, _, _, rfl, rfl, _, rfl, ite2 (fun k => ?_) (fun k => ?_)⟩
        · have k := of_decide_eq_true k
          refine ⟨_, rfl, .inl ⟨rfl, _, .inl (.inl hoG2)⟩, _, rfl, _, rfl, _, rfl, three, fun t nt => ⟨_, _, _, rfl, rfl, same_lay nt _ _ hoG2, by rw [List.length_append] at vl ⊢; exact vl, ?_⟩⟩
          have s2 := same_lay (o := .tup [.int ((cont q0 p.1 p.2.1 p.2.2).2.1 + 1), .int p.2.1, u]) nt
          have hoG3 := s2 _ _ hoG2
          have k3 := (kp_same s2).trans (kp_lst (u := .lst (vs0 ++ [V.ref tv] ++ [V.ref t])) hoG3)
          refine ⟨_, _, _, _, _, rfl, upd_same, ?_, same_upd (sG1.trans s2) no⟩
          rw [e0, stp_snoc]
          unfold more
          rw [if_pos k]
          have pt : PcT CL (upd (upd G2 t (.tup [.int ((cont q0 p.1 p.2.1 p.2.2).2.1 + 1), .int p.2.1, u])) o (.lst (vs0 ++ [V.ref tv] ++ [V.ref t]))) (.ref t) ((cont q0 p.1 p.2.1 p.2.2).2.1 + 1, p.2.1, p.2.2) :=
            ⟨t, u, rfl, (kp_lst hoG3).tup upd_same, hpl'.kp k3⟩
          have e2 : R0 ++ [cont q0 p.1 p.2.1 p.2.2] ++ [((cont q0 p.1 p.2.1 p.2.2).2.1 + 1, p.2.1, p.2.2)] = R0 ++ cont q0 p.1 p.2.1 p.2.2 :: [((cont q0 p.1 p.2.1 p.2.2).2.1 + 1, p.2.1, p.2.2)] := by simp
          rw [← e2]
          exact ((hR0'.imp fun _ _ h => h.kp k3).append (.cons (hv'.kp k3) .nil)).append (.cons pt .nil)
        · have k : ¬ (cont q0 p.1 p.2.1 p.2.2).2.1 + 1 ≤ p.2.1 := fun z => k (decide_eq_true z)
          refine ⟨_, _, _, _, _, rfl, hoG2, ?_, sG1⟩
          rw [e0, stp_snoc]
          unfold more
          rw [if_neg k]
          exact hR0'.append (.cons hv' .nil)
    · rintro σ G ⟨f0, l0, u0, z0, vs, rfl, hoG, hR, sG⟩
      have eL : L.take xs.length = L := List.take_of_length_le (by omega)
      rw [eL] at hR
      have hB := rowsF_bq _ L _ rfl hT hq
      have rl := rowsF_len _ L rfl
      have lvs := hR.length
      refine ⟨_, rfl, o, rfl, ⟨_, .inl (.inl hoG)⟩, fun D hD => lc_list (K := K) (a := o) (xs := vs) (fun i G2 => ∃ ys, G2 D = some (.lst ys) ∧ All2 (PcT CL G2) ys (((rowsF L).take i).map plainP) ∧ Same G G2) ⟨[], upd_same, .nil, same_lay hD⟩ (fun i G2 _ h => by obtain ⟨_, _, _, s⟩ := h; exact s.seq (.inl (.inl hoG))) ?_ ?_⟩
      · rintro i x G2 hx ⟨ys, hD2, hY, s2⟩
        obtain ⟨q0, hq0, hv0⟩ := all2_get hR hx
        obtain ⟨t0, u1, rfl, ht0, hl0⟩ := hv0.same s2
        have lys := hY.length
        rw [List.length_map, List.length_take] at lys
        refine ⟨t0, _, rfl, .inl (.inl ht0), rfl, _, _, rfl, _, _, rfl, _, _, rfl, rfl, rfl, yesT ?_⟩
        refine ⟨_, rfl, _, rfl, _, rfl, q0, u1, rfl, hl0, hB q0 (List.mem_of_getElem? hq0), fun v G3 hv s3 => ?_⟩
        have hD3 := s3 _ _ hD2
        have k3 := kp_lst (u := .lst (ys ++ [v])) hD3
        refine ⟨ys, hD3, small1000 (by omega), ys ++ [v], upd_same, ?_, same_upd (s2.trans s3) hD⟩
        rw [take_snoc hq0, List.map_append]
        exact (hY.imp fun _ _ h => (h.same s3).kp k3).append (.cons (hv.kp k3) .nil)
      · rintro G2 ⟨ys, hD2, hY, s2⟩
        rw [List.take_of_length_le (by omega)] at hY
        refine ⟨D, ys, rfl, .inl ⟨.inl (.inl hD2), fun t nt => ?_⟩⟩
        have s3 := same_lay (o := .tup ys) nt
        exact R t ys _ (sG.free (s2.free nt)) upd_same (hY.imp fun _ _ h => h.same s3) ((sG.trans s2).trans s3)
end
end OR

namespace OR
open PySem PySem.Spec PyProof.Rows L2
open TL (tl numL)
structure ErT (K : PySem.W.Frag) (mg : Str → Option Value) (x fl : Str) (CB CR fI : Addr) : Prop where
  gB : mg x = some (.ref CB)
  gR : mg "RangesError" = some (.ref CR)
  zV : mg "ValueError" = none
  ox : OexC K CB
  xf : XfC K CB
  xc : ExcC K CB
  noI : PySem.W.findIn K (.ref CB) fl = some none
  iC : PySem.W.findIn K (.ref CB) "__init__" = some (some (.ref fI))
  tI : PySem.W.typeIn K (.ref fI) = some (.type "function")
  self : PySem.W.exmOne K (.ref CB) (.ref CB) = some true
  kR : PySem.W.kitOne K (.ref CB) (.ref CR) = some true
  kV : PySem.W.kitOne K (.ref CB) (.type "ValueError") = some true
def spErI (CB : Addr) (fl : Str) : Sp := fun vs H Q _ => ∃ (a : Addr) (v : V), vs = [.ref a, v] ∧ H a = some (exo a CB none) ∧ ∀ dx, H dx = none → dx ≠ a → Q .non (upd (upd H dx (exd dx [(fl, v)])) a (exo a CB (some dx)))
/-- an error of the class at CB, with its field, is let out -/
def Raised (E : XK) (CB : Addr) (fl : Str) (v : V) (H : Hp) : Prop := ∀ (d : Addr) (H' : Hp), H d = none → H' d = some (.xd [(fl, v)]) → Same H H' → E (.ref CB) (some d) H'
theorem Raised.up {E : XK} {CB : Addr} {fl : Str} {v : V} {H H' : Hp} (h : Raised E CB fl v H) (s : Same H H') : Raised E CB fl v H' := fun d G nd hd s2 => h d G (s.free nd) hd (s.trans s2)
theorem raise_any {E : XK} {H : Hp} {CB : Addr} {fl : Str} {v : V} (q : Raised E CB fl v H) : [v].length ≤ 1000 ∧ ∀ a, H a = none → spErI CB fl (.ref a :: ([v] ++ [])) (upd H a (exo a CB none))
    (fun u H2 => u = .non ∧ ∃ (d : Addr) (fs : List (Str × V)), H2 a = some (exo a CB (some d)) ∧ H2 d = some (exd d fs) ∧ H d = none ∧ E (.ref CB) (some d) (upd (del H2 a) d (.xd fs))) (fun _ _ _ => False) := by
  refine ⟨by show 1 ≤ 1000; decide, fun a na => ⟨a, _, rfl, upd_same, fun d nd1 ne1 => ?_⟩⟩
  rw [upd_ne ne1] at nd1
  refine ⟨rfl, d, [(fl, v)], upd_same, by rw [upd_ne ne1]; exact upd_same, nd1, q d _ nd1 upd_same fun c o e => ?_⟩
  have nca : c ≠ a := ne_of_none e na
  have ncd : c ≠ d := ne_of_none e nd1
  rw [upd_ne ncd, del_ne nca, upd_ne nca, upd_ne ncd, upd_ne nca]
  exact e
section
variable {P : Program} {w : World} {K : PySem.W.Frag} {mg : Str → Option Value} {base : Heap} {ts tw : Addr}
/-- a class and its __init__ -/
structure ErK (P : Program) (w : World) (K : PySem.W.Frag) (mg : Str → Option Value) (base : Heap) (x fl : Str) (CB CR : Addr) : Prop where
  ex : ∃ (fI : Addr) (fd : FuncData), ErT K mg x fl CB CR fI ∧ FnOk P w K mg base CX0 1 fI fd ["self", fl] (spErI CB fl) ∧ Binds K fd ["self", fl] []
end
structure ClX (P : Program) (w : World) (K : PySem.W.Frag) (mg : Str → Option Value) (base : Heap) (k : Nat) (x : Str) (ps : List Str) (sp : Sp) : Prop where
  ex : ∃ (f : Addr) (fd : FuncData), FnOk P w K mg base (L2.CX P w) k f fd ps sp ∧ mg x = some (.ref f) ∧ PySem.W.keepIn K (.ref f) = true ∧ Binds K fd ps []
theorem pe_clX {X : Cx} {W : WX} {k j : Nat} {x : Str} {ps : List Str} {sp : Sp} {e : Expr} {es : List Expr} {t : TA} {p pos : Pos} (C : ClX X.prog X.w X.K X.mg X.base k x ps sp) (hr : Room j X.A) (hk : k ≤ j) (hg : Gl X x) (tk : Takes X W) (ha : PA X (e :: es) t)
    (hdb : (x == ("__debug__" : Str)) = false := by decide) (he : starEach (e :: es) X.env = (false, eval e X.env) :: starEach es X.env := by rfl) (hpl : (backTo pos (starEach es X.env)).any (·.1) = false := by rfl) :
    PE X (.Call (.Name x p) (e :: es) [] pos) (tCallS sp (WE W) t) := by
  obtain ⟨f, fd, F, hm, hkp, hb⟩ := C.ex
  exact pe_callS F (hr.mono hk) hg hm hkp hb (fun σ => passAt tk σ) ha hdb he hpl
structure MtX (P : Program) (w : World) (K : PySem.W.Frag) (mg : Str → Option Value) (base : Heap) (k : Nat) (C : Addr) (m : Str) (ps : List Str) (sp : Sp) : Prop where
  ex : ∃ (f : Addr) (fd : FuncData), Meth K C m f ∧ FnOk P w K mg base (L2.CX P w) k f fd ps sp ∧ Binds K fd ps []
def tMethX (C : Addr) (m : Str) (sp : Sp) (E : L2.St → XK) (ta : TE) (t : TA) : TE := fun σ H Q => ta σ H fun x H1 => ∃ a dx fs, x = .ref a ∧ H1 a = some (.ins C dx fs) ∧ fs.lookup m = none ∧ t σ H1 fun vs H2 => sp (.ref a :: vs) H2 Q (E σ)
theorem pe_mtX {X : Cx} {W : WX} {k j : Nat} {C : Addr} {m : Str} {ps : List Str} {sp : Sp} {o e : Expr} {es : List Expr} {ta : TE} {t : TA} {apos pos : Pos} {pl : Sem Bool} (M : MtX X.prog X.w X.K X.mg X.base k C m ps sp) (c : Cls X.K C) (hr : Room j X.A) (hk : k ≤ j) (tk : Takes X W) (he : PE X o ta) (ha : PA X (e :: es) t)
    (hst : starEach (e :: es) X.env = (false, eval e X.env) :: starEach es X.env := by rfl) (hpl : (backTo pos (starEach es X.env)).any (·.1) = false := by rfl)
    (ht : eval (.Call (.Attribute o m apos) (e :: es) [] pos) X.env = (do
      let ov ← eval o X.env
      standAt apos.atName
      let (f, first) ← holding [ov] (getMethod ov m pl)
      callWith pos f first (backTo pos (starEach (e :: es) X.env)) (backToKw pos (keywordEach [] X.env))) := by rfl) : PE X (.Call (.Attribute o m apos) (e :: es) [] pos) (tMethX C m sp (WE W) ta t) := by
  obtain ⟨f, fd, hm, F, hb⟩ := M.ex
  refine ⟨fun pins s σ H Q I h => ?_⟩
  refine PySem.W.methodCall_KW (pl := pl) (thn (he.run pins s σ H _ I h) fun u s1 ⟨x, H1, I1, rx, z, dx, fs, ex, ez, no, q⟩ => ?_) ht
  subst ex
  cases (show u = Value.ref z from rx)
  refine getmeth_ok I1 ez c hm no (PySem.W.callWith_K (first := [.ref z]) (h₀ := X.base) I.ok.mod.kin hm.kp (thn (ha.run pos pins s1 σ H1 _ I1 q) fun us s2 ⟨vs, H2, I2, r, q2⟩ => ⟨I2.kIn, ?_⟩) hst hpl)
  exact run_fnS (us := .ref z :: us) (vs := .ref z :: vs) F (hr.mono hk) hb (passAt tk σ) I2 (.cons rfl r) q2
structure PV (v : V) : Prop where
  flat : flatV v = true
  len : ∀ s, v = .str s → s.length ≤ 100
  sm : ∀ s, v = .str s → SmallS s
theorem pv_cases {v : V} (h : PV v) : (∃ s : Str, v = .str s ∧ s.length ≤ 100 ∧ SmallS s) ∨ (∃ i, v = .int i) ∨ v = .non ∨ ∃ b, v = .bl b := by
  have hf := h.flat
  cases v with
  | str s => exact .inl ⟨s, rfl, h.len s rfl, h.sm s rfl⟩
  | int i => exact .inr (.inl ⟨i, rfl⟩)
  | non => exact .inr (.inr (.inl rfl))
  | bl b => exact .inr (.inr (.inr ⟨b, rfl⟩))
  | byt b => exact Bool.noConfusion hf
  | flt b => exact Bool.noConfusion hf
  | ref b => exact Bool.noConfusion hf
  | ty b => exact Bool.noConfusion hf
theorem pv_str {s : Str} (h : s.length ≤ 100) (k : SmallS s) : PV (.str s) := ⟨rfl, (fun t e => by cases e; exact h), fun t e => by cases e; exact k⟩
theorem pv_int (i : Int) : PV (.int i) := ⟨rfl, (fun t e => by cases e), fun t e => by cases e⟩
theorem pv_non : PV .non := ⟨rfl, (fun t e => by cases e), fun t e => by cases e⟩
theorem pv_bl (b : Bool) : PV (.bl b) := ⟨rfl, (fun t e => by cases e), fun t e => by cases e⟩
def rIsX (K : PySem.W.Frag) (D a : Addr) (cls : Value) (d : Option Addr) : List V → Hp → VK → Prop := fun xs H Q => cls = .ref D ∧ ∃ (dd : Addr) (fs : List (Str × V)), d = some dd ∧ H dd = some (.xd fs) ∧ ∃ (c : V) (cv : Value) (b : Bool), xs = [.ref a, c] ∧ (∀ u, RelV c u → u = cv) ∧ PySem.W.kitOne K (.ref D) cv = some b ∧ Q (.bl b) H
theorem call_isX {X : Cx} {a D : Addr} {oe : Obj} {cls : Value} {d : Option Addr} {pn : List (Addr × Obj)} (G : ExcC X.K D) (hz : Zc cls d oe) (hf : ∃ vs, oe.data = .fields vs) : CallR (X.suite a ((a, oe) :: pn)) (.builtin "isinstance") (rIsX X.K D a cls d) := by
  intro pins s σ H xs us Q I r h
  obtain ⟨ec, dd, fs, ed, hdd, c, cv, b, rfl, hcv, hk, q⟩ := h
  subst ec ed
  obtain ⟨u1, u2, rfl, r1, r2⟩ := r.two
  cases r1
  have e2 := hcv _ r2
  subst e2
  have pinned := (I.pin (a, oe) (List.mem_append.mpr (.inl List.mem_cons_self))).1
  obtain ⟨vs, hdat⟩ := hf
  obtain ⟨mA, hns, _⟩ := I.hok dd _ hdd
  obtain ⟨od, ho, _⟩ := lookIn_ns hns
  have J : PySem.W.InstAt s.heap a oe D (some od) := ⟨pinned, hz.1, by unfold PySem.W.notCls; rw [hdat] <;> rfl, by rw [hz.2]; exact ho⟩
  have hcl : (PySem.W.clsIn X.K D).isSome = true := by
    obtain ⟨cd, hc, _⟩ := PySem.W.any_some G.hd
    rw [hc]
    rfl
  exact PySem.W.kia_one (PySem.W.kitx_exc hcl G.hg G.hk G.hs G.ha G.hn G.ht G.hm) I.kIn J hk (fun z => nomatch z) fun tk => ⟨.bl b, H, I.kept (t' := tk) fun _ _ z => z, rfl, q⟩
structure Mt (P : Program) (w : World) (K : PySem.W.Frag) (mg : Str → Option Value) (base : Heap) (k : Nat) (C : Addr) (m : Str) (ps : List Str) (sp : Sp) : Prop where
  ex : ∃ (f : Addr) (fd : FuncData), Meth K C m f ∧ FnOk P w K mg base CX0 k f fd ps sp ∧ Binds K fd ps []
theorem op_in_seqK {X : Cx} (K : PySem.W.Frag) (hK : X.K = K) : OpR X (compareOp .In) (rIn K false) := by
  subst hK
  exact op_in_seq
section
variable {P : Program} {w : World} {K : PySem.W.Frag} {mg : Str → Option Value} {base : Heap} {ts tw : Addr}
theorem op_notIn_seqK {X : Cx} (K : PySem.W.Frag) (hK : X.K = K) : OpR X (compareOp .NotIn) (rIn K true) := by
  subst hK
  exact op_notIn_seq
theorem in_strs {s : Str} {xs : List Str} (h : s ∈ xs) : inV (.str s) (xs.map V.str) = true := by
  unfold inV
  rw [List.any_eq_true]
  exact ⟨.str s, List.mem_map.mpr ⟨s, h, rfl⟩, by simp [eqV]⟩
theorem notin_strs {s : Str} {xs : List Str} (h : s ∉ xs) : inV (.str s) (xs.map V.str) = false := by
  unfold inV
  rw [List.any_eq_false]
  intro v hv
  obtain ⟨t, ht, rfl⟩ := List.mem_map.mp hv
  have : t ≠ s := fun e => h (e ▸ ht)
  simp [eqV, this]
theorem flat_strs (xs : List Str) : (xs.map V.str).all flatV = true := by
  rw [List.all_eq_true]
  intro v hv
  obtain ⟨t, ht, rfl⟩ := List.mem_map.mp hv
  rfl
end
end OR

namespace OR
open PySem PySem.Spec PyProof.Rows L2
/-! ### enumerate of a list or a tuple -/
structure WalksE (it : It) (xs : List V) (J : Hp → Prop) : Prop where
  stop : ∀ H, J H → it.stop xs.length H
  go : ∀ i H, J H → i < xs.length → it.go i H
  yld : ∀ i H v H', J H → it.yld i H v H' → ∃ T x, v = .ref T ∧ H T = none ∧ H' = upd H T (.tup [.int (i : Nat), x]) ∧ xs[i]? = some x
theorem walksEL {K : PySem.W.Frag} {a : Addr} {xs : List V} : WalksE (Ite K a) xs fun H => SqL K H a xs :=
  ⟨fun H h => ⟨xs, h, Nat.le_refl _⟩, fun i H h hi => ⟨xs, xs[i], h, by simp [hi]⟩, fun i H v H' h ⟨T, x, e1, e2, e3, y⟩ => ⟨T, x, e1, e2, e3, y xs h⟩⟩
theorem walksET {K : PySem.W.Frag} {a : Addr} {xs : List V} : WalksE (IteT K a) xs fun H => SqT K H a xs :=
  ⟨fun H h => ⟨xs, h, Nat.le_refl _⟩, fun i H h hi => ⟨xs, xs[i], h, by simp [hi]⟩, fun i H v H' h ⟨T, x, e1, e2, e3, y⟩ => ⟨T, x, e1, e2, e3, y xs h⟩⟩
theorem for_anyE {it : It} {xs : List V} {J : Hp → Prop} {g : TG} {tb : TS} {D : Ends} {σ : L2.St} {H : Hp} (w : WalksE it xs J) (Pv : Nat → L2.St → Hp → Prop) (h0 : Pv 0 σ H) (hl : ∀ i σ H, i ≤ xs.length → Pv i σ H → J H)
    (hs : ∀ i x σ H T, xs[i]? = some x → Pv i σ H → H T = none → g (.ref T) σ (upd H T (.tup [.int (i : Nat), x])) fun σ2 H2 => tb { D with nx := Pv (i + 1), ct := Pv (i + 1), bk := D.nx } σ2 H2) (hd : ∀ σ H, Pv xs.length σ H → D.nx σ H) :
    ∃ W : Nat → Nat → L2.St → Hp → Prop, (∃ m, W 0 m σ H) ∧ ∀ i m σ H, W i m σ H →
      (it.stop i H ∧ D.nx σ H) ∨ (it.go i H ∧ ∃ N : L2.St → Hp → Prop, (∀ σ' H', N σ' H' → ∃ m', m' < m ∧ W (i + 1) m' σ' H') ∧ ∀ x H', it.yld i H x H' → g x σ H' fun σ2 H2 => tb { D with nx := N, ct := N, bk := D.nx } σ2 H2) := by
  refine ⟨fun i m σ H => m = xs.length - i ∧ i ≤ xs.length ∧ Pv i σ H, ⟨xs.length, by simp, Nat.zero_le _, h0⟩, ?_⟩
  rintro i m σ H ⟨rfl, hi, p⟩
  have q := hl i σ H hi p
  by_cases hlt : i < xs.length
  · refine .inr ⟨w.go i H q hlt, Pv (i + 1), fun σ' H' p' => ⟨xs.length - (i + 1), by omega, rfl, hlt, p'⟩, fun v H' y => ?_⟩
    obtain ⟨T, x, rfl, hT, rfl, hx⟩ := w.yld i H v H' q y
    exact hs i x σ H T hx p hT
  · obtain rfl : i = xs.length := by omega
    exact .inl ⟨w.stop H q, hd σ H p⟩
def iEnumS (K : PySem.W.Frag) (ta : TA) : TI := fun σ H R => ta σ H fun vs H1 => ∃ a xs H0, vs = [.ref a] ∧ SqA K H0 a xs ∧ Same H0 H1 ∧ ∀ (it : It) (J : Hp → Prop), WalksE it xs J → (∀ G, Same H0 G → J G) → R it H1
theorem pi_enumS {X : Cx} (K : PySem.W.Frag) (hK : X.K = K) {e : Expr} {ta : TA} {p pos tpos : Pos} {elts : List Expr} {kk : Nat} (hg : Gl X "enumerate") (hm : X.mg "enumerate" = none) (ha : PA X [e] ta) (hs : starEach [e] X.env = [(false, eval e X.env)] := by rfl) :
    PI X (.Tuple elts kk tpos) (.Call (.Name "enumerate" p) [e] [] pos) (iEnumS K ta) := by
  subst hK
  refine ⟨fun pins s σ H R I h => ?_⟩
  refine Call_ (ld_blt I hg hm boot_enumerate (PyProof.Rows.callWith_type1 (thn (ha.run pos pins s σ H _ I h) fun us s1 ⟨vs, H1, I1, r1, q1⟩ => ?_) hs rfl))
  obtain ⟨a, xs, H0, ex, hS, sm, q⟩ := q1
  subst ex
  cases r1 with
  | cons r rr =>
    cases rr
    cases r
    rcases hS with hq | hq
    · obtain ⟨its, rv, p', hz⟩ := I1.list (sm.seq hq)
      refine call_enumerate_list p'.isList fun h' he hit hsz hk => wpAny_pyIter_enum he ?_
      have I2 : Inv X pins σ H1 { s1 with heap := h' } := I1.kept (t' := s1.toks) hk
      refine ⟨s1.heap.objs.size + 1, [s1.heap.objs.size + 1, s1.heap.objs.size], _, _, H1, rfl, I2, turn_enum a (s1.heap.objs.size + 1) s1.heap.objs.size, ⟨⟨.none, he⟩, hit, Nat.succ_ne_self _⟩, fun b hb => ?_, q _ _ walksEL fun G z => z.seq hq⟩
      have e' : b = s1.heap.objs.size + 1 ∨ b = s1.heap.objs.size := by simpa using hb
      have hle : s1.heap.objs.size ≤ b := by
        rcases e' with z | z
        · rw [z]; exact Nat.le_add_right _ _
        · rw [z]; exact Nat.le_refl _
      exact I1.fpOk hle (I1.hok.fresh hle)
    · obtain ⟨its, rv, p', hz⟩ := I1.tuple (Same.tupS sm hq)
      have pt : s1.heap.IsTuple a its.toArray := p'
      have hal : a < s1.heap.objs.size := by obtain ⟨o, ho, _⟩ := pt; exact Heap.lt_size ho
      refine call_enum_tup pt fun h' he hit hsz hk => wpAny_pyIter_enum he ?_
      have I2 : Inv X pins σ H1 { s1 with heap := h' } := I1.kept (t' := s1.toks) hk
      refine ⟨s1.heap.objs.size + 1, [s1.heap.objs.size + 1, s1.heap.objs.size], _, _, H1, rfl, I2, turn_enumT a (s1.heap.objs.size + 1) s1.heap.objs.size (Nat.ne_of_lt hal) (Nat.ne_of_gt (Nat.lt_succ_of_lt hal)), ⟨⟨.none, he⟩, hit, Nat.succ_ne_self _⟩, fun b hb => ?_, q _ _ walksET fun G z => Same.tupS z hq⟩
      have e' : b = s1.heap.objs.size + 1 ∨ b = s1.heap.objs.size := by simpa using hb
      have hle : s1.heap.objs.size ≤ b := by
        rcases e' with z | z
        · rw [z]; exact Nat.le_add_right _ _
        · rw [z]; exact Nat.le_refl _
      exact I1.fpOk hle (I1.hok.fresh hle)
/-! ### a program as it stands -/
theorem kFL : ¬ (("functions" : Str) = "last") := by decide +kernel
theorem kTLp : ¬ (("_told" : Str) = "last") := by decide +kernel
theorem kTFp : ¬ (("_told" : Str) = "functions") := by decide +kernel
def gFl (n : Int) (f t : Addr) : List (Str × V) := putF "_told" (.ref t) (putF "functions" (.ref f) (putF "last" (.int n) []))
theorem gFl_l (n : Int) (f t : Addr) : (gFl n f t).lookup ("last" : Str) = some (.int n) := by
  unfold gFl
  rw [lookup_putF, if_neg (fun e => kTLp e.symm), lookup_putF, if_neg (fun e => kFL e.symm), lookup_putF, if_pos rfl]
theorem gFl_f (n : Int) (f t : Addr) : (gFl n f t).lookup ("functions" : Str) = some (.ref f) := by
  unfold gFl
  rw [lookup_putF, if_neg (fun e => kTFp e.symm), lookup_putF, if_pos rfl]
theorem gFl_t (n : Int) (f t : Addr) : (gFl n f t).lookup ("_told" : Str) = some (.ref t) := by
  unfold gFl
  rw [lookup_putF, if_pos rfl]
theorem gFl_no (n : Int) (f t : Addr) {m : Str} (h1 : ¬ m = "_told") (h2 : ¬ m = "functions") (h3 : ¬ m = "last") : (gFl n f t).lookup m = none := by
  unfold gFl
  rw [lookup_putF, if_neg h1, lookup_putF, if_neg h2, lookup_putF, if_neg h3]
  all_goals rfl
structure GTxt (K : PySem.W.Frag) (mg : Str → Option Value) (CG : Addr) : Prop where
  cl : Cls K CG
  nL : NoAttr K CG "last"
  nF : NoAttr K CG "functions"
  nT : NoAttr K CG "_told"
  mgG : mg "Program" = some (.ref CG)
abbrev Tld := List (Str × List Pce)
/-- one function's pieces, a tuple, in the dict of a program -/
def EntP (CL : Addr) (H : Hp) (e : Key × V) (t : Str × List Pce) : Prop := e.1 = .inr t.1 ∧ ∃ p ys, e.2 = .ref p ∧ H p = some (.tup ys) ∧ All2 (PcT CL H) ys t.2
theorem EntP.kp {CL : Addr} {H H' : Hp} {e : Key × V} {t : Str × List Pce} (h : EntP CL H e t) (k : KP H H') : EntP CL H' e t := by
  obtain ⟨h0, p, ys, h1, h2, h3⟩ := h
  exact ⟨h0, p, ys, h1, k.tup h2, h3.imp fun _ _ e => e.kp k⟩
/-- .. in the dict that is told: a list or a tuple of pieces -/
def EntA (K : PySem.W.Frag) (CL : Addr) (H : Hp) (e : Key × V) (t : Str × List Pce) : Prop := e.1 = .inr t.1 ∧ ∃ p xs, e.2 = .ref p ∧ SqA K H p xs ∧ All2 (PcA CL H) xs t.2
theorem EntA.same {K : PySem.W.Frag} {CL : Addr} {H H' : Hp} {e : Key × V} {t : Str × List Pce} (h : EntA K CL H e t) (s : Same H H') : EntA K CL H' e t := by
  obtain ⟨h0, p, ys, h1, h2, h3⟩ := h
  exact ⟨h0, p, ys, h1, Same.any s h2, h3.imp fun _ _ e => e.same s⟩
/-- a program: its last place, its functions in order with their pieces in the one form -/
def IsG (CG CL : Addr) (H : Hp) (x : Addr) (n : Int) (T : Tld) : Prop := ∃ dx f t kvs, H x = some (.ins CG dx (gFl n f t)) ∧ H f = some (.tup (T.map fun e => V.str e.1)) ∧ H t = some (.dK kvs) ∧ All2 (EntP CL H) kvs T
theorem IsG.same {CG CL : Addr} {H H' : Hp} {x : Addr} {n : Int} {T : Tld} (h : IsG CG CL H x n T) (s : Same H H') : IsG CG CL H' x n T := by
  obtain ⟨dx, f, t, kvs, h1, h2, h3, h4⟩ := h
  exact ⟨dx, f, t, kvs, s _ _ h1, s _ _ h2, s _ _ h3, h4.imp fun _ _ e => e.kp (kp_same s)⟩
/-- the told pieces of functions -/
structure Told (n : Int) (T : Tld) : Prop where
  nd : (T.map (·.1)).Nodup
  few : T.length ≤ 60
  last : Plc n
  ok : ∀ e ∈ T, Word e.1 ∧ Til e.2 0 (n + 1) ∧ (∀ q ∈ e.2, Bq q) ∧ e.2.length ≤ 1000
def oneT (T : Tld) : Tld := T.map fun e => (e.1, oneF e.2)
theorem val_ent {α : Type} {p : Key × V → Str × α → Prop} (hp : ∀ e t, p e t → e.1 = .inr t.1) : ∀ {kvs : List (Key × V)} {T : List (Str × α)}, All2 p kvs T → (T.map (·.1)).Nodup → ∀ {t : Str × α}, t ∈ T → ∃ e, e ∈ kvs ∧ p e t ∧ valV kvs (.inr t.1) = some e.2
  | _, _, .nil, _, _, h => nomatch h
  | e :: kvs, t0 :: T, .cons h r, nd, t, ht => by
    rw [List.map_cons, List.nodup_cons] at nd
    rcases List.mem_cons.mp ht with z | z
    · subst z
      exact ⟨e, List.mem_cons_self, h, valV_pos (hp _ _ h)⟩
    · obtain ⟨e', m, k1, k2⟩ := val_ent hp r nd.2 z
      refine ⟨e', List.mem_cons_of_mem _ m, k1, ?_⟩
      rw [valV_neg]
      · exact k2
      · rw [hp _ _ h]
        intro q
        exact nd.1 (List.mem_map.mpr ⟨t, z, (Sum.inr.inj q).symm⟩)
def spRanked : Sp := fun vs H Q _ => ∃ x : Str, vs = [.str x] ∧ ∀ t, H t = none → Q (.ref t) (upd H t (.tup [.int 2, .str x, .str x]))
def spIsPc (CL : Addr) : Sp := fun vs H Q _ => ∃ v q, vs = [v] ∧ PcA CL H v q ∧ Plc q.1 ∧ Plc q.2.1 ∧ ∀ H', Same H H' → Q (.bl true) H'
def spChkPcs (K : PySem.W.Frag) (CL : Addr) : Sp := fun vs H Q _ => ∃ (x : Str) (a : Addr) (xs : List V) (L : List Pce) (n : Int), vs = [.str x, .ref a, .int n] ∧ SqA K H a xs ∧ All2 (PcA CL H) xs L ∧ Til L 0 (n + 1) ∧ (∀ q ∈ L, Bq q) ∧ ∀ H', Same H H' → Q .non H'
theorem plc_place {x : Int} (h : Plc x) : placeB x = true := by
  unfold placeB
  rw [decide_eq_true h.1, decide_eq_true (show x ≤ lastP from h.2)]
  rfl
section
variable {P : Program} {w : World} {K : PySem.W.Frag} {mg : Str → Option Value} {base : Heap} {CL CG ts tw : Addr}
theorem scRanked : FnScope ["word"] ["word"] (defScope pRanked) := ⟨rfl, rfl, rfl, by decide +kernel, rfl, by decide +kernel, by decide +kernel⟩
theorem ok_ranked {f : Addr} {fd : FuncData} (F : Fun K "_ranked" "_ranked" pRanked f fd) (W : WTxt K mg ts tw) : FnOk P w K mg base CX0 1 f fd ["word"] spRanked := by
  refine F.ok scRanked (fun vs H Q E h => ?_) (fun cdv A outer s H vs Q E hr h => ?_)
  · obtain ⟨x, rfl, _⟩ := h
    rfl
  · obtain ⟨x, rfl, q⟩ := h
    refine ⟨_, pss_cons (ps_if (pt_cmp (pc_isN (pv 0)))
          (pss_one (ps_ret (pe_tup (pa_cons pe_int (pa_cons pe_int (pa_cons (pv 0) pa_nil))))))
          pss_nil)
      (pss_one (ps_ret (pe_ifExp (pt_val (pe_callB call_isi (by rfl) W.zIsi bt_isi (pa_cons (pv 0) (pa_cons (pe_bltn (v := .ty "str") (by rfl) W.zStr boot_strT rfl) pa_nil)))) (pe_tup (pa_cons pe_int (pa_cons (pv 0) (pa_cons (pv 0) pa_nil)))) (pe_tup (pa_cons pe_int (pa_cons (pv 0) (pa_cons (pv 0) pa_nil))))))), ?_⟩
    refine ⟨_, rfl, _, rfl, iteB (by simp) ?_⟩
    exact ⟨_, rfl, _, .ty "str", _, _, true, rfl, .ty "str", .base (.str _), kit_ty (by decide +kernel), _, rfl, iteT ⟨_, rfl, _, rfl, (by show 3 ≤ sizeLine; decide), q⟩⟩
theorem scIsPc : FnScope ["value", "first", "last", "line"] ["value"] (defScope pIsPiece) := ⟨rfl, rfl, rfl, by decide +kernel, rfl, by decide +kernel, by decide +kernel⟩
theorem ok_ispc {f : Addr} {fd : FuncData} (F : Fun K "_is_piece" "_is_piece" pIsPiece f fd) (N : NTxt mg) (T : LTxt K mg CL) (DP : Cl P w K mg base 2 "is_place" ["value"] (spIsPlace K)) : FnOk P w K mg base CX0 3 f fd ["value"] (spIsPc CL) := by
  refine F.ok scIsPc (fun vs H Q E h => ?_) (fun cdv A outer s H vs Q E hr h => ?_)
  · obtain ⟨v, q, rfl, _⟩ := h
    rfl
  · obtain ⟨v, q, rfl, hpc, p1, p2, R⟩ := h
    have nd := scIsPc.nd
    refine ⟨_, pss_cons (ps_if (PW.pt (pw_or (pt_not (pt_val (pe_callB call_isiT (by rfl) N.zIsi bt_isi (pa_cons (pv 0) (pa_cons (pe_tup (pa_cons (pe_bltn (v := .ty "tuple") (by rfl) N.zTup bt_tup rfl) (pa_cons (pe_bltn (v := .ty "list") (by rfl) N.zList bt_list rfl) pa_nil))) pa_nil))))) (pw_or1 (pt_cmpR op_ne (pe_callB call_len_seq (by rfl) N.zLen PySem.boot_len (pa_cons (pv 0) pa_nil)) pe_int (nomark _)))))
          (pss_one (ps_ret pe_bl))
          pss_nil)
      (pss_cons (ps_asg (pv 0) (pg_orD (pg_tup rfl (pgs_cons (pg_name (i := 1) nd rfl (.inl rfl)) (pgs_cons (pg_name (i := 2) nd rfl (.inl rfl)) (pgs_cons (pg_name (i := 3) nd rfl (.inl rfl)) pgs_nil)))) (pg_unl rfl (pgs_cons (pg_name (i := 1) nd rfl (.inl rfl)) (pgs_cons (pg_name (i := 2) nd rfl (.inl rfl)) (pgs_cons (pg_name (i := 3) nd rfl (.inl rfl)) pgs_nil))))))
      (pss_one (ps_ret (pe_and (pe_cl DP hr (by decide) (by rfl) (pa_cons (pv 1) pa_nil)) (pe_and (pe_cl DP hr (by decide) (by rfl) (pa_cons (pv 2) pa_nil)) (pe_one (pe_or (pe_cmp (pc_isN (pv 3))) (pe_one (pe_callB call_isi (by rfl) N.zIsi bt_isi (pa_cons (pv 3) (pa_cons (pe_glob (v := .ref CL) (by rfl) T.mgC rfl) pa_nil))))))))))), ?_⟩
    refine ⟨_, rfl, by show 2 ≤ sizeLine; decide, fun t ht => ?_⟩
    have s1 := same_lay (o := .tup [.ty "tuple", .ty "list"]) ht
    obtain ⟨tp, u, rfl, hpt, hl⟩ := hpc.same s1
    have q1 := fun (H' : Hp) (z : Same (upd H t (.tup [.ty "tuple", .ty "list"])) H') => R H' (s1.trans z)
    have hT0 : (upd H t (.tup [.ty "tuple", .ty "list"])) t = some (.tup [.ty "tuple", .ty "list"]) := upd_same
    generalize upd H t (.tup [.ty "tuple", .ty "list"]) = G at hpt hl q1 hT0
    have hty : ∃ T, TyX K G (.ref tp) (.type T) ∧ PySem.W.kitAny K (.type T) [.type "tuple", .type "list"] = some true := by
      rcases hpt with e | e
      · exact ⟨"tuple", .base (.tup e), kitAny_cons (kit_ty (b := "tuple") (r := true) (by decide +kernel)) (fun z => nomatch z) fun _ => rfl⟩
      · exact ⟨"list", .base (.lst e), kitAny_cons (kit_ty (b := "tuple") (r := false) (by decide +kernel)) (fun _ => kitAny_cons (kit_ty (b := "list") (r := true) (by decide +kernel)) (fun z => nomatch z) fun _ => rfl) fun z => nomatch z⟩
    have hseq : SqL K G tp [.int q.1, .int q.2.1, u] ∨ SqT K G tp [.int q.1, .int q.2.1, u] := hpt.elim (fun e => .inr (.inl (.inl e))) fun e => .inl (.inl (.inl e))
    obtain ⟨ty, hT, hk⟩ := hty
    refine ⟨.ref tp, t, _, .type ty, [.type "tuple", .type "list"], true, rfl, hT0, .cons (.ty "tuple") (.cons (.ty "list") .nil), hT, hk, true, rfl, iteF ?_⟩
    refine ⟨_, rfl, tp, _, rfl, hseq, rfl, _, rfl, iteNS rfl ?_⟩
    refine ⟨_, rfl, unp3 hpt ?_⟩
    refine ⟨_, rfl, .int q.1, rfl, .inl ⟨q.1, rfl, _, rfl, ?_⟩⟩
    rw [plc_place p1]
    refine iteT ⟨_, rfl, .int q.2.1, rfl, .inl ⟨q.2.1, rfl, _, rfl, ?_⟩⟩
    rw [plc_place p2]
    refine iteT ?_
    cases hq : q.2.2 with
    | none =>
      rw [hq] at hl
      obtain rfl : u = .non := hl
      refine ⟨_, rfl, _, rfl, iteA (by simp) ?_⟩
      exact q1 G (Same.refl _)
    | some r =>
      rw [hq] at hl
      obtain ⟨y, rfl, dy, hy⟩ := hl
      refine ⟨_, rfl, _, rfl, iteB (by simp) ?_⟩
      exact ⟨_, rfl, .ref y, .ref CL, _, _, true, rfl, .own CL, tyL T hy, T.kLL, q1 G (Same.refl _)⟩
theorem scChkPcs : FnScope ["function", "pieces", "last", "start", "index", "piece"] ["function", "pieces", "last"] (defScope pCheckPieces) := ⟨rfl, rfl, rfl, by decide +kernel, rfl, by decide +kernel, by decide +kernel⟩
theorem ok_chkpcs {f : Addr} {fd : FuncData} (F : Fun K "_check_pieces" "_check_pieces" pCheckPieces f fd) (N : NTxt mg) (IP : Cl P w K mg base 3 "_is_piece" ["value"] (spIsPc CL)) : FnOk P w K mg base CX0 4 f fd ["function", "pieces", "last"] (spChkPcs K CL) := by
  refine F.ok scChkPcs (fun vs H Q E h => ?_) (fun cdv A outer s H vs Q E hr h => ?_)
  · obtain ⟨x, a, xs, L, n, rfl, _⟩ := h
    rfl
  · obtain ⟨x, a, xs, L, n, rfl, hS, hA, hT, hq, R⟩ := h
    have nd := scChkPcs.nd
    refine ⟨_, pss_cons (ps_set (i := 3) nd rfl (.inl rfl) pe_int)
      (pss_cons (ps_for PassesOwn.never rfl (pi_enumS K rfl (by rfl) N.zEnum (pa_cons (pv 1) pa_nil)) (pg_tup rfl (pgs_cons (pg_name (i := 4) nd rfl (.inl rfl)) (pgs_cons (pg_name (i := 5) nd rfl (.inl rfl)) pgs_nil)))
          (pss_cons (ps_if (PW.pt (pw_or (pt_not (pt_val (pe_cl IP hr (by decide) (by rfl) (pa_cons (pv 5) pa_nil)))) (pw_or (pt_cmpR op_ne (pe_ix (ix_any K rfl) (pv 5) pe_int (fun _ _ => rfl)) (pv 3) (nomark _)) (pw_or1 (pt_not (pt_chain op_le op_le (pv 3) (pe_ix (ix_any K rfl) (pv 5) pe_int (fun _ _ => rfl)) (pv 2)))))))
              (pss_one ps_never)
              pss_nil)
          (pss_one (ps_set (i := 3) nd rfl (.inl rfl) (pe_op op_add (pe_ix (ix_any K rfl) (pv 5) pe_int (fun _ _ => rfl)) pe_int)))))
      (pss_one (ps_if (pt_cmpR op_le (pv 3) (pv 2) (nomark _))
          (pss_one ps_never)
          pss_nil))), ?_⟩
    have lxs := hA.length
    have tl : ∀ i, i ≤ L.length → ∃ b, Til (L.take i) 0 b ∧ (i = L.length → b = n + 1) := fun i hi => by
      rw [← List.take_append_drop i L] at hT
      obtain ⟨c, k1, k2⟩ := hT.split
      refine ⟨c, k1, fun e => ?_⟩
      rw [e, List.drop_of_length_le (Nat.le_refl _)] at k2
      exact k2
    refine ⟨_, rfl, a, xs, H, rfl, hS, Same.refl _, fun it J wk st => ?_⟩
    refine for_anyE wk (fun i σ G => ∃ b u v, Til (L.take i) 0 b ∧ σ = [some (.str x), some (.ref a), some (.int n), some (.int b), u, v] ∧ Same H G) ⟨0, none, none, rfl, rfl, Same.refl _⟩ (fun i σ G _ ⟨_, _, _, _, _, s⟩ => st G s) ?_ ?_
    · rintro i v σ G T hv ⟨b, u0, v0, tb, rfl, sG⟩ nT
      obtain ⟨p, hp, hpc⟩ := all2_get hA hv
      obtain ⟨tt, p12⟩ := til_take hT hp
      have tu : b = p.1 := by
        have : ∀ {L : List Pce} {a b c : Int}, Til L a b → Til L a c → b = c := fun {L} => by
          induction L with
          | nil => intro a b c h k; have h : a = b := h; have k : a = c := k; omega
          | cons q r ih => intro a b c h k; exact ih h.2.2 k.2.2
        exact this tb tt
      subst tu
      have Tp := hq p (List.mem_of_getElem? hp)
      have s1 := same_lay (o := .tup [.int (i : Nat), v]) nT
      have hend : p.2.1 ≤ n := by have := (hT.mem p (List.mem_of_getElem? hp)).2.2; omega
      refine ⟨T, _, rfl, .inl (.inl upd_same), rfl, _, _, rfl, _, _, rfl, rfl, ?_⟩
      refine ⟨_, rfl, v, p, rfl, hpc.same (sG.trans s1), Tp.p1, Tp.p2, fun G2 s2 => ⟨_, rfl, iteF ?_⟩⟩
      obtain ⟨tp, u, rfl, hpt, hl⟩ := hpc.same ((sG.trans s1).trans s2)
      have hseq : SqL K G2 tp [.int p.1, .int p.2.1, u] ∨ SqT K G2 tp [.int p.1, .int p.2.1, u] := hpt.elim (fun e => .inr (.inl (.inl e))) fun e => .inl (.inl (.inl e))
      refine ⟨_, rfl, tp, _, 0, _, rfl, rfl, hseq, atI_nat (j := 0) rfl, _, rfl, rfl, _, rfl, iteB (by simp) ?_⟩
      refine ⟨_, rfl, _, rfl, tp, _, 1, _, rfl, rfl, hseq, atI_nat (j := 1) rfl, _, _, rfl, rfl, _, rfl, iteA (decide_eq_true p12) ?_⟩
      refine ⟨_, rfl, _, _, rfl, rfl, _, rfl, ?_⟩
      rw [decide_eq_true hend]
      refine iteF ?_
      refine ⟨_, rfl, tp, _, 1, _, rfl, rfl, hseq, atI_nat (j := 1) rfl, _, _, rfl, rfl, ?_⟩
      refine ⟨p.2.1 + 1, _, _, ?_, rfl, (sG.trans s1).trans s2⟩
      rw [take_snoc hp]
      exact tt.app ⟨rfl, p12, rfl⟩
    · rintro σ G ⟨b, u0, v0, tb, rfl, sG⟩
      have eb : b = n + 1 := by
        rw [List.take_of_length_le (by omega)] at tb
        have : ∀ {L : List Pce} {a b c : Int}, Til L a b → Til L a c → b = c := fun {L} => by
          induction L with
          | nil => intro a b c h k; have h : a = b := h; have k : a = c := k; omega
          | cons q r ih => intro a b c h k; exact ih h.2.2 k.2.2
        exact this tb hT
      refine ⟨_, rfl, _, rfl, _, _, rfl, rfl, _, rfl, ?_⟩
      rw [decide_eq_false (by omega)]
      exact iteF (R G sG)
end
end OR

namespace OR
open PySem PySem.Spec PyProof.Rows L2
/-! ### the piece at a place; calls of a program -/
theorem til_fun : ∀ {L : List Pce} {a b c : Int}, Til L a b → Til L a c → b = c
  | [], _, _, _, h, k => by have h : _ = _ := h; have k : _ = _ := k; omega
  | _ :: _, _, _, _, h, k => til_fun h.2.2 k.2.2
theorem til_pair {L : List Pce} {a b : Int} (h : Til L a b) {i j : Nat} {p q : Pce} (hp : L[i]? = some p) (hq : L[j]? = some q) (hij : i < j) : p.2.1 < q.1 := by
  obtain ⟨tp, p12⟩ := til_take h hp
  obtain ⟨tq, q12⟩ := til_take h hq
  obtain ⟨hi, ep⟩ := List.getElem?_eq_some_iff.mp hp
  have sp : L.take j = L.take i ++ p :: (L.take j).drop (i + 1) := by
    have e1 : (L.take j)[i]? = some p := by rw [List.getElem?_take_of_lt hij]; exact hp
    obtain ⟨hi2, e2⟩ := List.getElem?_eq_some_iff.mp e1
    have e3 := List.take_append_drop i (L.take j)
    rw [← List.getElem_cons_drop hi2, e2, List.take_take, Nat.min_eq_left (by omega)] at e3
    exact e3.symm
  rw [sp] at tq
  obtain ⟨c, k1, k2⟩ := tq.split
  have e1 := til_fun k1 tp
  have k3 := k2.2.2
  have := k3.le
  omega
def spPieceAt (K : PySem.W.Frag) : Sp := fun vs H Q _ => ∃ (a : Addr) (xs : List V) (L : List Pce) (x b : Int), vs = [.ref a, .int x] ∧ SqA K H a xs ∧ All2 (fun (v : V) (q : Pce) => ∃ t u, v = V.ref t ∧ H t = some (.tup [.int q.1, .int q.2.1, u])) xs L ∧ Til L 0 b ∧ L.length ≤ 1000 ∧ 0 ≤ x ∧ x < b ∧
  ∀ (v : V) (q : Pce), (∃ i : Nat, xs[i]? = some v ∧ L[i]? = some q) → q.1 ≤ x → x ≤ q.2.1 → Q v H
def placeV (n : Int) : V → Bool
  | .int x => placeB x && decide (x ≤ n)
  | _ => false
def spChkPlace (CP : Addr) : Sp := fun vs H Q E => ∃ (v : V) (n : Int), vs = [v, .int n] ∧ PV v ∧ (placeV n v = true → Q .non H) ∧ (placeV n v = false → Raised E CP "place" v H)
def spChkFns (CG CL CF : Addr) : Sp := fun vs H Q E => ∃ (x t : Addr) (n : Int) (T : Tld) (s : Str), vs = [.ref x, .ref t] ∧ IsG CG CL H x n T ∧ H t = some (.tup [.str s]) ∧ (s ∈ T.map (·.1) → Q .non H) ∧ (s ∉ T.map (·.1) → Raised E CF "function" (.str s) H)
/-- the outcome as a value -/
def oVal : Option Int → V
  | none => .non
  | some k => .int k
def spGCall (CG CL CF CP : Addr) : Sp := fun vs H Q E => ∃ (x : Addr) (s : Str) (v : V) (n : Int) (T : Tld), vs = [.ref x, .str s, v] ∧ IsG CG CL H x n (oneT T) ∧ Told n T ∧ PV v ∧
  (s ∈ T.map (·.1) → placeV n v = true → ∀ e ∈ T, e.1 = s → ∀ k H', v = .int k → Same H H' → Q (oVal (outc e.2 k)) H') ∧
  (s ∉ T.map (·.1) → Raised E CF "function" (.str s) H) ∧ (s ∈ T.map (·.1) → placeV n v = false → Raised E CP "place" v H)
theorem oneT_fst (T : Tld) : (oneT T).map (·.1) = T.map (·.1) := by unfold oneT; rw [List.map_map]; rfl
theorem flat1 {s : Str} : ([V.str s] : List V).all flatV = true := rfl
def gap : L2.St → Nat
  | [_, _, some (.int lo), some (.int hi), _] => (hi - lo).toNat
  | _ => 0
section
variable {P : Program} {w : World} {K : PySem.W.Frag} {mg : Str → Option Value} {base : Heap} {CL CG ts tw : Addr}
theorem scPieceAt : FnScope ["pieces", "x", "low", "high", "middle"] ["pieces", "x"] (defScope pPieceAt) := ⟨rfl, rfl, rfl, by decide +kernel, rfl, by decide +kernel, by decide +kernel⟩
theorem ok_pieceat {f : Addr} {fd : FuncData} (F : Fun K "_piece_at" "_piece_at" pPieceAt f fd) (N : NTxt mg) : FnOk P w K mg base CX0 1 f fd ["pieces", "x"] (spPieceAt K) := by
  refine F.ok scPieceAt (fun vs H Q E h => ?_) (fun cdv A outer s H vs Q E hr h => ?_)
  · obtain ⟨a, xs, L, x, b, rfl, _⟩ := h
    rfl
  · obtain ⟨a, xs, L, x, b, rfl, hS, hA, hT, hlen, h0, hb, R⟩ := h
    have nd := scPieceAt.nd
    refine ⟨_, pss_cons (ps_set (i := 2) nd rfl (.inl rfl) pe_int)
      (pss_cons (ps_set (i := 3) nd rfl (.inl rfl) (pe_op op_sub (pe_callB call_len_seq (by rfl) N.zLen PySem.boot_len (pa_cons (pv 0) pa_nil)) pe_int))
      (pss_cons (ps_while PassesOwn.never (pt_cmpR op_lt (pv 2) (pv 3) (nomark _))
          (pss_cons (ps_set (i := 4) nd rfl (.inl rfl) (pe_op op_fdivW (pe_op op_add (pv 2) (pv 3)) pe_int))
          (pss_one (ps_if (pt_cmpR op_le (pv 1) (pe_ix (ix_any K rfl) (pe_ix (ix_any K rfl) (pv 0) (pv 4) (fun _ _ => rfl)) pe_int (fun _ _ => rfl)) (nomark _))
              (pss_one (ps_set (i := 3) nd rfl (.inl rfl) (pv 4)))
              (pss_one (ps_set (i := 2) nd rfl (.inl rfl) (pe_op op_add (pv 4) pe_int)))))))
      (pss_one (ps_ret (pe_ix (ix_any K rfl) (pv 0) (pv 2) (fun _ _ => rfl)))))), ?_⟩
    have lxs := hA.length
    have ne : 0 < L.length := by
      rcases L with _ | ⟨q, r⟩
      · have : (0 : Int) = b := hT
        omega
      · exact Nat.succ_pos _
    refine ⟨_, rfl, a, xs, rfl, hS, _, _, rfl, rfl, ?_⟩
    -- the piece lies between low and high
    let INV : L2.St → Hp → Prop := fun σ G => ∃ (lo hi : Nat) (m : Option V), σ = [some (.ref a), some (.int x), some (.int lo), some (.int hi), m] ∧ G = H ∧ lo ≤ hi ∧ hi < L.length ∧ (∀ p, L[lo]? = some p → p.1 ≤ x) ∧ (∀ p, L[hi]? = some p → x ≤ p.2.1)
    refine while_by INV (fun σ _ => gap σ) ?_ ?_ (fun σ H Q Q' hQ h => by
      obtain ⟨u, e, v, e2, i, j, e3, e4, k, e5, q⟩ := h
      exact ⟨u, e, v, e2, i, j, e3, e4, k, e5, hQ _ _ q⟩)
    · refine ⟨0, L.length - 1, none, ?_, rfl, Nat.zero_le _, by omega, fun p hp => ?_, fun p hp => ?_⟩
      · show [some (V.ref a), some (V.int x), some (V.int 0), some (V.int ((xs.length : Int) - 1)), none] = _
        rw [show ((xs.length : Int) - 1) = ((L.length - 1 : Nat) : Int) by omega]
        rfl
      · have := (til_take hT hp).1
        have : (0 : Int) = p.1 := this
        omega
      · have e := hT.mem p (List.mem_of_getElem? hp)
        have sp : L = L.take (L.length - 1) ++ [p] := by
          obtain ⟨hi, e⟩ := List.getElem?_eq_some_iff.mp hp
          conv => lhs; rw [← List.take_append_drop (L.length - 1) L]
          rw [← List.getElem_cons_drop hi, e, List.drop_of_length_le (by omega)]
        rw [sp] at hT
        obtain ⟨c, k1, k2⟩ := hT.split
        have := k2.one.2.2
        omega
    · rintro σ G ⟨lo, hi, m, rfl, rfl, hlh, hhi, h1, h2⟩
      refine ⟨_, rfl, _, rfl, _, _, rfl, rfl, _, rfl, ite2 (fun z => ?_) (fun z => ?_)⟩
      · have z := of_decide_eq_true z
        have hm : (lo + hi) / 2 < xs.length := by omega
        obtain ⟨q, hq, t, u, ev, ht⟩ := all2_get hA (show xs[(lo + hi) / 2]? = some xs[(lo + hi) / 2] by simp [hm])
        have em : ((lo : Int) + hi) / 2 = ((lo + hi) / 2 : Nat) := by omega
        refine ⟨_, rfl, _, rfl, _, _, rfl, rfl, _, _, rfl, rfl, div200 (by decide) (by decide) _, ?_⟩
        refine ⟨_, rfl, _, rfl, _, rfl, a, xs, ((lo + hi) / 2 : Nat), xs[(lo + hi) / 2], rfl, congrArg V.int em, hS, atI_nat (by simp [hm]), t, _, 1, _, ev, rfl, .inr (.inl (.inl ht)), atI_nat (j := 1) rfl, _, _, rfl, rfl, _, rfl, ite2 (fun k => ?_) (fun k => ?_)⟩
        · have k := of_decide_eq_true k
          refine ⟨_, rfl, ⟨lo, (lo + hi) / 2, some (.int (((lo + hi) / 2 : Nat) : Int)), ?_, rfl, by omega, by omega, h1, fun p hp => ?_⟩, ?_⟩
          · show [some (V.ref a), some (V.int x), some (V.int lo), some (V.int (((lo : Int) + hi) / 2)), some (V.int (((lo : Int) + hi) / 2))] = _
            rw [em]
          · rw [hq] at hp
            cases hp
            exact k
          · show gap [some (V.ref a), some (V.int x), some (V.int lo), some (V.int (((lo : Int) + hi) / 2)), some (V.int (((lo : Int) + hi) / 2))] < gap [some (V.ref a), some (V.int x), some (V.int lo), some (V.int hi), m]
            unfold gap
            simp only
            omega
        · have k : ¬ x ≤ q.2.1 := fun h => k (decide_eq_true h)
          refine ⟨_, rfl, _, _, rfl, rfl, ⟨(lo + hi) / 2 + 1, hi, some (.int (((lo + hi) / 2 : Nat) : Int)), ?_, rfl, by omega, hhi, fun p hp => ?_, h2⟩, ?_⟩
          · show [some (V.ref a), some (V.int x), some (V.int (((lo : Int) + hi) / 2 + 1)), some (V.int hi), some (V.int (((lo : Int) + hi) / 2))] = _
            rw [em]
            rfl
          · have e1 := til_take hT hp
            rw [take_snoc hq] at e1
            obtain ⟨c, k1, k2⟩ := e1.1.split
            have := k2.one.2.2
            omega
          · show gap [some (V.ref a), some (V.int x), some (V.int (((lo : Int) + hi) / 2 + 1)), some (V.int hi), some (V.int (((lo : Int) + hi) / 2))] < gap [some (V.ref a), some (V.int x), some (V.int lo), some (V.int hi), m]
            unfold gap
            simp only
            omega
      · have z : ¬ (lo : Int) < hi := fun h => z (decide_eq_true h)
        obtain rfl : lo = hi := by omega
        have hl : lo < xs.length := by omega
        obtain ⟨q, hq, t, u, ev, ht⟩ := all2_get hA (show xs[lo]? = some xs[lo] by simp [hl])
        exact ⟨_, rfl, _, rfl, a, xs, lo, xs[lo], rfl, rfl, hS, atI_nat (by simp [hl]), R _ q ⟨lo, by simp [hl], hq⟩ (h1 q hq) (h2 q hq)⟩
theorem scChkPlace : FnScope ["x", "last"] ["x", "last"] (defScope pCheckPlace) := ⟨rfl, rfl, rfl, by decide +kernel, rfl, by decide +kernel, by decide +kernel⟩
theorem ok_chkplace {f CP CR : Addr} {fd : FuncData} (F : Fun K "_check_place" "_check_place" pCheckPlace f fd) (EK : ErK P w K mg base "NoPlace" "place" CP CR) (DP : Cl P w K mg base 2 "is_place" ["value"] (spIsPlace K)) : FnOk P w K mg base (L2.CX P w) 3 f fd ["x", "last"] (spChkPlace CP) := by
  obtain ⟨fI, fdI, T, FN, bN⟩ := EK.ex
  refine F.okX scChkPlace (fun vs H Q E h => ?_) (fun cdv A outer s H vs Q E hr h => ?_)
  · obtain ⟨v, n, rfl, _⟩ := h
    rfl
  · obtain ⟨v, n, rfl, hv, qy, qn⟩ := h
    have room : Room (1 + 1) _ := hr.mono (by decide)
    refine ⟨_, pss_one (ps_if (PW.pt (pw_or (pt_not (pt_val (pe_cl DP hr (by decide) (by rfl) (pa_cons (pv 0) pa_nil)))) (pw_or1 (pt_cmpR op_gt (pv 0) (pv 1) (nomark _)))))
          (pss_one (ps_raise rfl (takes_of rfl rfl rfl rfl) (pmk_oex T.ox T.iC T.tI FN room bN .nil pass0 (by rfl) T.gB (pa_cons (pv 0) pa_nil))))
          pss_nil), ?_⟩
    rcases pv_cases hv with ⟨s, rfl, _⟩ | ⟨i, rfl⟩ | rfl | ⟨b, rfl⟩
    · exact ⟨_, rfl, .str s, rfl, .inr ⟨"str", false, false, .base (.str _), by decide +kernel, by decide +kernel, rfl, _, rfl, iteT ⟨_, rfl, raise_any (qn rfl)⟩⟩⟩
    · refine ⟨_, rfl, .int i, rfl, .inl ⟨i, rfl, _, rfl, ?_⟩⟩
      cases hp : placeB i with
      | false => exact iteT ⟨_, rfl, raise_any (qn (by show (placeB i && _) = false; rw [hp]; rfl))⟩
      | true =>
        refine iteF ⟨_, rfl, _, rfl, _, _, rfl, rfl, _, rfl, ite2 (fun z => ?_) (fun z => ?_)⟩
        · have z := of_decide_eq_true z
          exact ⟨_, rfl, raise_any (qn (by show (placeB i && _) = false; rw [decide_eq_false (by omega), Bool.and_false]))⟩
        · have z : ¬ i > n := fun h => z (decide_eq_true h)
          exact qy (by show (placeB i && _) = true; rw [hp, decide_eq_true (by omega)]; rfl)
    · exact ⟨_, rfl, .non, rfl, .inr ⟨"NoneType", false, false, .base .non, by decide +kernel, by decide +kernel, rfl, _, rfl, iteT ⟨_, rfl, raise_any (qn rfl)⟩⟩⟩
    · exact ⟨_, rfl, .bl b, rfl, .inr ⟨"bool", true, true, .base (.bl _), by decide +kernel, by decide +kernel, rfl, _, rfl, iteT ⟨_, rfl, raise_any (qn rfl)⟩⟩⟩
theorem scChkFns : FnScope ["self", "functions", "function"] ["self", "functions"] (defScope sProgramCheckFunctions) := ⟨rfl, rfl, rfl, by decide +kernel, rfl, by decide +kernel, by decide +kernel⟩
theorem ok_chkfns {f CF CR : Addr} {fd : FuncData} (F : Fun K "_check_functions" "Program._check_functions" sProgramCheckFunctions f fd) (GT : GTxt K mg CG) (EK : ErK P w K mg base "NoFunction" "function" CF CR) : FnOk P w K mg base (L2.CX P w) 3 f fd ["self", "functions"] (spChkFns CG CL CF) := by
  obtain ⟨fI, fdI, T, FN, bN⟩ := EK.ex
  refine F.okX scChkFns (fun vs H Q E h => ?_) (fun cdv A outer s H vs Q E hr h => ?_)
  · obtain ⟨x, t, n, T, s, rfl, _⟩ := h
    rfl
  · obtain ⟨x, t, n, Tl, sx, rfl, ⟨dx, fa, ta, kvs, h1, h2, h3, h4⟩, ht, qy, qn⟩ := h
    have em : Tl.map (fun e => V.str e.1) = (Tl.map (·.1)).map V.str := by rw [List.map_map]; rfl
    rw [em] at h2
    have nd := scChkFns.nd
    have room : Room (1 + 1) _ := hr.mono (by decide)
    refine ⟨_, pss_one (ps_for PassesOwn.leaving rfl (pi_tup (pv 1)) (pg_name (i := 2) nd rfl (.inl rfl))
          (pss_one (ps_if (pt_cmpR (op_notIn_seqK K rfl) (pv 2) (pe_fld (pv 0) rfl) (by rfl))
              (pss_one (ps_raise rfl (takes_of rfl rfl rfl rfl) (pmk_oex T.ox T.iC T.tI FN room bN .nil pass0 (by rfl) T.gB (pa_cons (pv 2) pa_nil))))
              pss_nil))), ?_⟩
    refine ⟨_, rfl, t, rfl, ⟨_, .inl (.inl ht)⟩, for_tup (K := K) (a := t) (xs := [.str sx]) (fun i σ G => (∃ u, σ = [some (.ref x), some (.ref t), u]) ∧ G = H ∧ (i = 1 → sx ∈ Tl.map (·.1))) ⟨⟨none, rfl⟩, rfl, fun z => by cases z⟩ (fun i σ G _ ⟨_, e, _⟩ => by rw [e]; exact .inl (.inl ht)) ?_ ?_⟩
    · rintro i y σ G hy ⟨⟨u, rfl⟩, rfl, _⟩
      obtain ⟨hi, ey⟩ := List.getElem?_eq_some_iff.mp hy
      have hi : i < 1 := hi
      obtain rfl : i = 0 := by omega
      obtain rfl : V.str sx = y := ey
      refine ⟨_, rfl, _, rfl, x, CG, dx, _, _, rfl, h1, GT.cl, GT.nF, gFl_f _ _ _, fa, _, rfl, .inr (.inl (.inl h2)), rfl, flat_strs _, _, rfl, ?_⟩
      by_cases hs : sx ∈ Tl.map (·.1)
      · rw [in_strs hs]
        exact iteF ⟨⟨_, rfl⟩, rfl, fun _ => hs⟩
      · rw [notin_strs hs]
        exact iteT ⟨_, rfl, raise_any (qn hs)⟩
    · rintro σ G ⟨_, rfl, h⟩
      exact qy (h rfl)
theorem scGCall : FnScope ["self", "function", "x", "line"] ["self", "function", "x"] (defScope sProgramCall) := ⟨rfl, rfl, rfl, by decide +kernel, rfl, by decide +kernel, by decide +kernel⟩
end
end OR

namespace OR
open PySem PySem.Spec PyProof.Rows L2
/-! ### a program made -/
theorem walksK {d : Addr} {o : Obj} {kvs : List (Key × V)} : Walks (Itk d o kvs) (kvs.map fun e => kV e.1) fun H => H d = some (.frz o (.dK kvs)) :=
  ⟨fun H h => ⟨h, by rw [List.length_map]; exact Nat.le_refl _⟩, fun i H h hi => ⟨h, by rw [List.length_map] at hi; exact hi⟩, fun i H x H' h ⟨e, k, v, y, ex⟩ => ⟨e, by rw [List.getElem?_map, y, ex]; rfl⟩⟩
theorem same_lock {H G : Hp} {d : Addr} {od : Obj} {u : HO} (h : H d = some u) (s : Same (upd H d (.frz od u)) G) : Same H (upd G d u) ∧ G d = some (.frz od u) := by
  refine ⟨fun b o e => ?_, s _ _ upd_same⟩
  by_cases hb : b = d
  · subst hb
    rw [h] at e
    rw [upd_same]
    exact e
  · rw [upd_ne hb]
    exact s b o (by rw [upd_ne hb]; exact e)
def Off (p : Addr) (H G : Hp) : Prop := ∀ c o, H c = some o → c ≠ p → G c = some o
theorem Off.same {p : Addr} {H G G' : Hp} (h : Off p H G) (s : Same G G') : Off p H G' := fun c o e n => s _ _ (h c o e n)
theorem Off.put {p : Addr} {H G : Hp} {o : HO} (h : Off p H G) : Off p H (upd G p o) := fun c u e n => by rw [upd_ne n]; exact h c u e n
theorem SqA.off {K : PySem.W.Frag} {H G : Hp} {p a C dx : Addr} {fs : List (Str × V)} {xs : List V} (h : SqA K H a xs) (hp : H p = some (.ins C dx fs)) (f : Off p H G) : SqA K G a xs := by
  rcases h with ((h | ⟨o, h⟩) | h) | ((h | ⟨o, h⟩) | h)
  · exact .inl (.inl (.inl (f _ _ h (ne_of h hp (by intro z; cases z)))))
  · exact .inl (.inl (.inr ⟨o, f _ _ h (ne_of h hp (by intro z; cases z))⟩))
  · exact .inl (.inr h)
  · exact .inr (.inl (.inl (f _ _ h (ne_of h hp (by intro z; cases z)))))
  · exact .inr (.inl (.inr ⟨o, f _ _ h (ne_of h hp (by intro z; cases z))⟩))
  · exact .inr (.inr h)
theorem lFl_ne (a b : Int) : lFl a b ≠ [] := fun e => by
  have := lFl_slope a b
  rw [e] at this
  cases this
theorem PcA.off {CL C dx p : Addr} {H G : Hp} {v : V} {q : Pce} (h : PcA CL H v q) (hp : H p = some (.ins C dx [])) (f : Off p H G) : PcA CL G v q := by
  obtain ⟨t, u, e, h1, h2⟩ := h
  refine ⟨t, u, e, h1.imp (fun z => f _ _ z (ne_of z hp (by intro z; cases z))) (fun z => f _ _ z (ne_of z hp (by intro z; cases z))), ?_⟩
  cases hl : q.2.2 with
  | none => rw [hl] at h2; exact h2
  | some r =>
    rw [hl] at h2
    obtain ⟨y, ey, dy, hy⟩ := h2
    refine ⟨y, ey, dy, f _ _ hy fun z => ?_⟩
    rw [z, hp] at hy
    have hy := Option.some.inj hy
    injection hy with _ _ h3
    exact lFl_ne _ _ h3.symm
theorem EntA.off {K : PySem.W.Frag} {CL C dx p : Addr} {H G : Hp} {e : Key × V} {t : Str × List Pce} (h : EntA K CL H e t) (hp : H p = some (.ins C dx [])) (f : Off p H G) : EntA K CL G e t := by
  obtain ⟨h0, a, ys, h1, h2, h3⟩ := h
  exact ⟨h0, a, ys, h1, h2.off hp f, h3.imp fun _ _ e => e.off hp f⟩
theorem perm_lift {α β : Type} (f : α → β) {m n : List β} (h : m.Perm n) : ∀ l : List α, l.map f = n → ∃ l' : List α, l'.Perm l ∧ l'.map f = m := by
  induction h with
  | nil => intro l e; exact ⟨l, List.Perm.refl _, e⟩
  | cons x _ ih =>
    intro l e
    obtain ⟨a, r, rfl, ea, er⟩ := List.map_eq_cons_iff.mp e
    obtain ⟨l', p, e'⟩ := ih r er
    exact ⟨a :: l', p.cons a, by rw [List.map_cons, ea, e']⟩
  | swap x y l0 =>
    intro l e
    obtain ⟨a, r, rfl, ea, er⟩ := List.map_eq_cons_iff.mp e
    obtain ⟨b, r2, rfl, eb, er2⟩ := List.map_eq_cons_iff.mp er
    exact ⟨b :: a :: r2, List.Perm.swap a b r2, by rw [List.map_cons, List.map_cons, ea, eb, er2]⟩
  | trans _ _ ih1 ih2 =>
    intro l e
    obtain ⟨l2, p2, e2⟩ := ih2 l e
    obtain ⟨l1, p1, e1⟩ := ih1 l2 e2
    exact ⟨l1, p1.trans p2, e1⟩
theorem dc_any {it : It} {xs : List V} {J : Hp → Prop} {g : TG} {tt : TT} {tk tv : TE} {vs : List Nat} {σ : L2.St} {H1 : Hp} {D : Addr} {Qd : Hp → Prop} (w : Walks it xs J) (Pv : Nat → Hp → Prop) (h0 : Pv 0 (upd H1 D (.dK []))) (hl : ∀ i H, i ≤ xs.length → Pv i H → J H)
    (hs : ∀ i x H, xs[i]? = some x → Pv i H → g x (wipe σ vs) H fun σ2 H2 => wipe σ2 vs = wipe σ vs ∧ tt σ2 H2 fun b H3 =>
      if b = true then tk σ2 H3 fun y H4 => tv σ2 H4 fun z H5 => ∃ kvs k, y = kV k ∧ H5 D = some (.dK kvs) ∧ kvs.length < sizeLine ∧ Pv (i + 1) (upd H5 D (.dK (putK kvs k z))) else Pv (i + 1) H3) (hd : ∀ H, Pv xs.length H → Qd H) :
    ∃ W : Nat → Nat → Hp → Prop, (∃ m, W 0 m (upd H1 D (.dK []))) ∧ ∀ i m H, W i m H →
      (it.stop i H ∧ Qd H) ∨ (it.go i H ∧ ∃ Nx : Hp → Prop, (∀ H', Nx H' → ∃ m', m' < m ∧ W (i + 1) m' H') ∧ ∀ x H', it.yld i H x H' → g x (wipe σ vs) H' fun σ2 H2 => wipe σ2 vs = wipe σ vs ∧ tt σ2 H2 fun b H3 =>
        if b = true then tk σ2 H3 fun y H4 => tv σ2 H4 fun z H5 => ∃ kvs k, y = kV k ∧ H5 D = some (.dK kvs) ∧ kvs.length < sizeLine ∧ Nx (upd H5 D (.dK (putK kvs k z))) else Nx H3) := by
  refine ⟨fun i m H => m = xs.length - i ∧ i ≤ xs.length ∧ Pv i H, ⟨xs.length, by simp, Nat.zero_le _, h0⟩, ?_⟩
  rintro i m H ⟨rfl, hi, p⟩
  have q := hl i H hi p
  by_cases hlt : i < xs.length
  · refine .inr ⟨w.go i H q hlt, Pv (i + 1), fun H' p' => ⟨xs.length - (i + 1), by omega, rfl, hlt, p'⟩, fun x H' y => ?_⟩
    obtain ⟨e, y2⟩ := w.yld i H x H' q y
    subst e
    exact hs i x _ y2 p
  · have e : i = xs.length := by omega
    subst e
    exact .inl ⟨w.stop H q, hd H p⟩
theorem val_none {α : Type} {p : Key × V → Str × α → Prop} (hp : ∀ e t, p e t → e.1 = .inr t.1) {x : Str} : ∀ {kvs : List (Key × V)} {T : List (Str × α)}, All2 p kvs T → x ∉ T.map (·.1) → valV kvs (.inr x) = none
  | _, _, .nil, _ => rfl
  | e :: kvs, t :: T, .cons h r, n => by
    rw [List.map_cons, List.mem_cons, not_or] at n
    rw [valV_neg]
    · exact val_none hp r n.2
    · rw [hp _ _ h]
      intro q
      exact n.1 (Sum.inr.inj q).symm
theorem kSlF : ¬ (("slope" : Str) = "functions") := by decide +kernel
theorem kSlL : ¬ (("slope" : Str) = "last") := by decide +kernel
theorem LnAt.put {CL C dx p : Addr} {G : Hp} {fs : List (Str × V)} {o : HO} {v : V} {l : Option LnR} (h : LnAt CL G v l) (hp : G p = some (.ins C dx fs)) (hs : fs.lookup ("slope" : Str) = none) : LnAt CL (upd G p o) v l := by
  cases l with
  | none => exact h
  | some r =>
    obtain ⟨y, e, dy, hy⟩ := h
    refine ⟨y, e, dy, ?_⟩
    rw [upd_ne]
    · exact hy
    · intro z
      rw [z, hp] at hy
      have hy := Option.some.inj hy
      injection hy with _ _ h3
      rw [h3, lFl_slope] at hs
      cases hs
theorem EntP.put {CL C dx p : Addr} {G : Hp} {fs : List (Str × V)} {o : HO} {e : Key × V} {t : Str × List Pce} (h : EntP CL G e t) (hp : G p = some (.ins C dx fs)) (hs : fs.lookup ("slope" : Str) = none) : EntP CL (upd G p o) e t := by
  obtain ⟨h0, a, ys, h1, h2, h3⟩ := h
  refine ⟨h0, a, ys, h1, by rw [upd_ne (ne_of h2 hp (by intro z; cases z))]; exact h2, h3.imp fun v q ⟨t, u, ev, ht, hl⟩ => ⟨t, u, ev, by rw [upd_ne (ne_of ht hp (by intro z; cases z))]; exact ht, hl.put hp hs⟩⟩
def spGInit (K : PySem.W.Frag) (CG CL : Addr) : Sp := fun vs H Q _ => ∃ (p dx d : Addr) (n : Int) (kvs : List (Key × V)) (T : Tld), vs = [.ref p, .int n, .ref d] ∧ H p = some (.ins CG dx []) ∧ H d = some (.dK kvs) ∧ All2 (EntA K CL H) kvs T ∧ Told n T ∧
  ∀ H' T', T'.Perm T → Asc (T'.map (·.1)) → IsG CG CL H' p n (oneT T') → Off p H H' → Q .non H'
section
variable {P : Program} {w : World} {K : PySem.W.Frag} {mg : Str → Option Value} {base : Heap} {CL CG ts tw : Addr}
theorem scGInit : FnScope ["self", "last", "told", "word", "words", "_"] ["self", "last", "told"] (defScope sProgramInit) := ⟨rfl, rfl, rfl, by decide +kernel, rfl, by decide +kernel, by decide +kernel⟩
theorem ok_ginit {f : Addr} {fd : FuncData} (F : Fun K "__init__" "Program.__init__" sProgramInit f fd) (N : NTxt mg) (GT : GTxt K mg CG) (RK : Cl P w K mg base 1 "_ranked" ["word"] spRanked) (KW : Cl P w K mg base 2 "check_word" ["value"] spChkW) (CE : Cl P w K mg base 4 "_check_pieces" ["function", "pieces", "last"] (spChkPcs K CL))
    (OF : Cl P w K mg base 5 "one_form" ["pieces"] (spOneF K CL)) : FnOk P w K mg base CX0 6 f fd ["self", "last", "told"] (spGInit K CG CL) := by
  refine F.ok scGInit (fun vs H Q E h => ?_) (fun cdv A outer s H vs Q E hr h => ?_)
  · obtain ⟨p, dx, d, n, kvs, T, rfl, _⟩ := h
    rfl
  · obtain ⟨p, dx, d, n, kvs, T, rfl, hp, hd, hA, hT, R⟩ := h
    have nd := scGInit.nd
    have hu := hu_of hr
    refine ⟨_, pss_cons (ps_setLc (i := 4) (own := [("_", 5), ("_", 5), ("word", 3)]) (g := (gTup K 3 (gCons (gName 5) (gCons (gName 5) (gCons (gName 3) gNil))))) (tt := tYes) rfl nd rfl rfl (sw_true rfl rfl rfl (by decide +kernel)) (pi_list (pe_callB (cr_sort3 K rfl) (by rfl) N.zSort bt_sorted (pa_cons (pe_lock (pe_lc (own := [("word", 3)]) (g := (gName 3)) (tt := tYes) rfl nd (pi_keys (pv 2)) (blkOk_by (N := ["self", "last", "told", "word", "words", "_"]) (sc := defScope sProgramInit) (by decide +kernel)) (fun _ _ _ _ _ => pg_name (i := 3) nd rfl (.inl rfl)) (fun _ _ _ _ _ => pts_nil) (fun _ _ _ _ _ => (pe_cl RK hr (by decide) (by rfl) (pa_cons (pv 3) pa_nil))))) pa_nil))) (blkOk_by (N := ["self", "last", "told", "word", "words", "_"]) (sc := defScope sProgramInit) (by decide +kernel)) (fun _ _ _ _ _ => pg_tup rfl (pgs_cons (pg_name (i := 5) nd rfl (.inl rfl)) (pgs_cons (pg_name (i := 5) nd rfl (.inl rfl)) (pgs_cons (pg_name (i := 3) nd rfl (.inl rfl)) pgs_nil)))) (fun _ _ _ _ _ => pts_nil) (fun _ _ _ _ _ => (pv 3)))
      (pss_cons (ps_for PassesOwn.never rfl (pi_list (pv 4)) (pg_name (i := 3) nd rfl (.inl rfl))
          (pss_one (ps_expr (pe_cl KW hr (by decide) (by rfl) (pa_cons (pv 3) pa_nil)))))
      (pss_cons (ps_for PassesOwn.never rfl (pi_list (pv 4)) (pg_name (i := 3) nd rfl (.inl rfl))
          (pss_one (ps_expr (pe_cl CE hr (by decide) (by rfl) (pa_cons (pv 3) (pa_cons (pe_dget hu (pv 2) (pv 3) (fun _ _ => rfl)) (pa_cons (pv 1) pa_nil)))))))
      (pss_cons (ps_fld (pv 0) (pv 1) rfl)
      (pss_cons (ps_fld (pv 0) (pe_callTy call_tuple_of (by rfl) N.zTup bt_tup (pa_cons (pv 4) pa_nil)) rfl)
      (pss_one (ps_fld (pv 0) (pe_dc (own := [("word", 3)]) (g := (gName 3)) (tt := tYes) rfl nd (pi_list (pv 4)) (blkOk_by (N := ["self", "last", "told", "word", "words", "_"]) (sc := defScope sProgramInit) (by decide +kernel)) (fun _ _ _ _ _ => pg_name (i := 3) nd rfl (.inl rfl)) (fun _ _ _ _ _ => pts_nil) (fun _ _ _ _ _ => pv 3) (fun _ _ _ _ _ => pe_cl OF hr (by decide) (by rfl) (pa_cons (pe_dget hu (pv 2) (pv 3) (fun _ _ => rfl)) pa_nil))) rfl)))))), ?_⟩
    have hdp : d ≠ p := ne_of hd hp (by intro z; cases z)
    have nk := hT.few
    have lk := hA.length
    have key : ∀ i (hi : i < kvs.length), ∃ t, T[i]? = some t ∧ EntA K CL H kvs[i] t := fun i hi => by
      obtain ⟨t, ht, e⟩ := all2_get hA (show kvs[i]? = some kvs[i] by simp [hi])
      exact ⟨t, ht, e⟩
    -- the words in order
    refine ⟨d, .dK kvs, hd, trivial, fun od => ?_⟩
    refine ⟨_, rfl, d, od, rfl, .inl ⟨kvs, upd_same, fun D hD => lc_any (walksK (d := d) (o := od) (kvs := kvs)) (fun i G => ∃ L : List (Addr × Str), G D = some (.lst (L.map fun p => V.ref p.1)) ∧ (∀ p ∈ L, G p.1 = some (.tup [.int 2, .str p.2, .str p.2])) ∧ L.map (·.2) = (T.map (·.1)).take i ∧ Same (upd H d (.frz od (.dK kvs))) G)
      ⟨[], upd_same, (fun _ z => nomatch z), rfl, same_lay hD⟩ (fun i G _ ⟨_, _, _, _, s⟩ => s _ _ upd_same) ?_ ?_⟩⟩
    · rintro i x G hx ⟨L, hL, hL2, eL, sG⟩
      rw [List.getElem?_map] at hx
      obtain ⟨e, he, rfl⟩ := Option.map_eq_some_iff.mp hx
      obtain ⟨hi, ee⟩ := List.getElem?_eq_some_iff.mp he
      obtain ⟨t, ht, hE⟩ := key i hi
      rw [ee] at hE
      rw [hE.1]
      have lL : L.length = i := by
        have := congrArg List.length eL
        rw [List.length_map, List.length_take, List.length_map] at this
        omega
      refine ⟨rfl, yesT ⟨_, rfl, t.1, rfl, fun z nz => ?_⟩⟩
      have s1 := same_lay (o := .tup [.int 2, .str t.1, .str t.1]) nz
      have hD1 := s1 _ _ hL
      refine ⟨_, hD1, small1000 (by rw [List.length_map]; omega), L ++ [(z, t.1)], by rw [upd_same, List.map_append]; rfl, fun q hq => ?_, ?_, same_upd (sG.trans s1) hD⟩
      · refine (kp_lst hD1).tup ?_
        rcases List.mem_append.mp hq with m | m
        · exact s1 _ _ (hL2 q m)
        · rw [List.mem_singleton.mp m]; exact upd_same
      · rw [List.map_append, eL, take_snoc (i := i) (x := t.1) (by rw [List.getElem?_map, ht]; rfl)]
        rfl
    rintro G ⟨L, hL, hL2, eL, sG⟩
    rw [List.take_of_length_le (by rw [List.length_map, List.length_map]; omega)] at eL
    obtain ⟨s0, hfz⟩ := same_lock hd sG
    refine ⟨hfz, ?_⟩
    have nDd : D ≠ d := fun e => by rw [e, upd_same] at hD; cases hD
    have hL' : (upd G d (.dK kvs)) D = some (.lst (L.map fun p => V.ref p.1)) := by rw [upd_ne nDd]; exact hL
    have hL2' : ∀ p ∈ L, (upd G d (.dK kvs)) p.1 = some (.tup [.int 2, .str p.2, .str p.2]) := fun q hq => by
      rw [upd_ne (ne_of (hL2 q hq) hfz (by intro z; cases z))]
      exact hL2 q hq
    generalize upd G d (.dK kvs) = G1 at s0 hL' hL2'
    clear hL hL2 sG hfz hD nDd
    have lL : L.length = T.length := by
      have := congrArg List.length eL
      rw [List.length_map, List.length_map] at this
      exact this
    refine ⟨D, L, rfl, .inl (.inl hL'), by omega, hL2', fun L' a hperm hasc na => ?_⟩
    obtain ⟨T', hT', eT'⟩ := perm_lift (fun e : Str × List Pce => e.1) (show (L'.map (·.2)).Perm (T.map (·.1)) by rw [← eL]; exact hperm.map _) T rfl
    have eT' : T'.map (·.1) = L'.map (·.2) := eT'
    have hnd : (T'.map (·.1)).Nodup := (hT'.map _).nodup_iff.mpr hT.nd
    have lT' : T'.length = T.length := hT'.length_eq
    have lL' : L'.length = T'.length := by
      have := congrArg List.length eT'
      rw [List.length_map, List.length_map] at this
      exact this.symm
    have okT' : ∀ e ∈ T', Word e.1 ∧ Til e.2 0 (n + 1) ∧ (∀ q ∈ e.2, Bq q) ∧ e.2.length ≤ 1000 := fun e he => hT.ok e (hT'.mem_iff.mp he)
    have entT' : ∀ e ∈ T', ∃ v, valV kvs (.inr e.1) = some v ∧ ∃ z xs, v = .ref z ∧ SqA K H z xs ∧ All2 (PcA CL H) xs e.2 := fun e he => by
      obtain ⟨k, _, ⟨_, z, xs, e1, e2, e3⟩, hv⟩ := val_ent (fun _ _ h => h.1) hA hT.nd (hT'.mem_iff.mp he)
      exact ⟨_, hv, z, xs, e1, e2, e3⟩
    have sa := same_lay (o := .lst (L'.map fun p => V.ref p.1)) na
    have t1 : ∀ q ∈ L', (upd G1 a (.lst (L'.map fun p => V.ref p.1))) q.1 = some (.tup [.int 2, .str q.2, .str q.2]) := fun q hq => sa _ _ (hL2' q (hperm.mem_iff.mp hq))
    have ha : (upd G1 a (.lst (L'.map fun p => V.ref p.1))) a = some (.lst (L'.map fun p => V.ref p.1)) := upd_same
    have s1 := s0.trans sa
    generalize upd G1 a (.lst (L'.map fun p => V.ref p.1)) = G2 at s1 t1 ha
    clear sa hL' hL2' s0 na
    refine ⟨a, rfl, ⟨_, .inl (.inl ha)⟩, fun Dw hDw => lc_list (K := K) (a := a) (xs := L'.map fun p => V.ref p.1) (fun i G => G Dw = some (.lst (((T'.map (·.1)).take i).map V.str)) ∧ Same G2 G) ⟨upd_same, same_lay hDw⟩ (fun i G _ h => h.2.seq (.inl (.inl ha))) ?_ ?_⟩
    · rintro i x G hx ⟨hG, sG⟩
      rw [List.getElem?_map] at hx
      obtain ⟨q, hq, rfl⟩ := Option.map_eq_some_iff.mp hx
      have hi := (List.getElem?_eq_some_iff.mp hq).1
      have hw : (T'.map (·.1))[i]? = some q.2 := by rw [eT', List.getElem?_map, hq]; rfl
      refine ⟨q.1, _, rfl, .inl (.inl (sG _ _ (t1 q (List.mem_of_getElem? hq)))), rfl, _, _, rfl, _, _, rfl, _, _, rfl, rfl, rfl, yesT ⟨_, rfl, _, hG, small1000 (by rw [List.length_map, List.length_take, List.length_map]; omega), ?_, same_upd sG hDw⟩⟩
      rw [upd_same, take_snoc hw, List.map_append]
      rfl
    rintro G ⟨hW, sG⟩
    rw [List.take_of_length_le (by rw [List.length_map, List.length_map]; omega)] at hW
    have s2 := s1.trans sG
    clear ha t1 hDw sG s1
    -- they are words
    refine ⟨_, rfl, Dw, rfl, ⟨_, .inl (.inl hW)⟩, for_list (K := K) (a := Dw) (xs := (T'.map (·.1)).map V.str) (fun i σ G3 => (∃ u, σ = [some (.ref p), some (.int n), some (.ref d), u, some (.ref Dw), none]) ∧ Same G G3) ⟨⟨none, rfl⟩, Same.refl _⟩ (fun i σ G3 _ h => h.2.seq (.inl (.inl hW))) ?_ ?_⟩
    · rintro i y σ G3 hy ⟨⟨u, rfl⟩, s3⟩
      rw [List.getElem?_map] at hy
      obtain ⟨x, hx, rfl⟩ := Option.map_eq_some_iff.mp hy
      obtain ⟨e, he, rfl⟩ := List.mem_map.mp (List.mem_of_getElem? hx)
      exact ⟨_, rfl, e.1, rfl, (okT' e he).1, fun G4 s4 => ⟨⟨_, rfl⟩, s3.trans s4⟩⟩
    rintro σ G3 ⟨⟨u, rfl⟩, s3⟩
    have hW3 := s3 _ _ hW
    -- their pieces are right
    refine ⟨_, rfl, Dw, rfl, ⟨_, .inl (.inl hW3)⟩, for_list (K := K) (a := Dw) (xs := (T'.map (·.1)).map V.str) (fun i σ G4 => (∃ u, σ = [some (.ref p), some (.int n), some (.ref d), u, some (.ref Dw), none]) ∧ Same G3 G4) ⟨⟨u, rfl⟩, Same.refl _⟩ (fun i σ G4 _ h => h.2.seq (.inl (.inl hW3))) ?_ ?_⟩
    · rintro i y σ G4 hy ⟨⟨u, rfl⟩, s4⟩
      rw [List.getElem?_map] at hy
      obtain ⟨x, hx, rfl⟩ := Option.map_eq_some_iff.mp hy
      obtain ⟨e, he, rfl⟩ := List.mem_map.mp (List.mem_of_getElem? hx)
      obtain ⟨v, hv, z, xs, rfl, hS, hP⟩ := entT' e he
      have s5 := (s2.trans s3).trans s4
      obtain ⟨_, o2, o3, _⟩ := okT' e he
      exact ⟨_, rfl, _, rfl, _, rfl, d, _, rfl, dg (s5 _ _ hd) hv, _, rfl, e.1, z, xs, e.2, n, rfl, Same.any s5 hS, hP.imp (fun _ _ h => h.same s5), o2, o3, fun G5 s6 => ⟨⟨_, rfl⟩, s4.trans s6⟩⟩
    rintro σ G4 ⟨⟨u2, rfl⟩, s4⟩
    have sH := (s2.trans s3).trans s4
    have hW4 := s4 _ _ hW3
    have hp4 := sH _ _ hp
    have hd4 := sH _ _ hd
    clear hW hW3 s2 s3 s4
    -- the fields
    refine ⟨_, rfl, _, rfl, p, CG, dx, [], rfl, hp4, GT.cl, GT.nL, (by show 0 < 1000; decide), ?_⟩
    have o1 : Off p H (upd G4 p (.ins CG dx (putF "last" (.int n) []))) := Off.put fun c o e _ => sH c o e
    have nWp : Dw ≠ p := ne_of hW4 hp4 (by intro z; cases z)
    have hW5 : (upd G4 p (.ins CG dx (putF "last" (.int n) []))) Dw = some (.lst ((T'.map (·.1)).map V.str)) := by rw [upd_ne nWp]; exact hW4
    have hp5 : (upd G4 p (.ins CG dx (putF "last" (.int n) []))) p = some (.ins CG dx (putF "last" (.int n) [])) := upd_same
    generalize upd G4 p (.ins CG dx (putF "last" (.int n) [])) = G5 at o1 hW5 hp5
    refine ⟨_, rfl, Dw, _, rfl, .inl ⟨.inl (.inl hW5), fun fa nfa => ?_⟩⟩
    have s6 := same_lay (o := .tup ((T'.map (·.1)).map V.str)) nfa
    have nfp : fa ≠ p := fun e => by rw [e, hp5] at nfa; cases nfa
    refine ⟨_, rfl, p, CG, dx, _, rfl, s6 _ _ hp5, GT.cl, GT.nF, (by show 1 < 1000; decide), ?_⟩
    have o2 : Off p H (upd (upd G5 fa (.tup ((T'.map (·.1)).map V.str))) p (.ins CG dx (putF "functions" (.ref fa) (putF "last" (.int n) [])))) := (o1.same s6).put
    have hf6 : (upd (upd G5 fa (.tup ((T'.map (·.1)).map V.str))) p (.ins CG dx (putF "functions" (.ref fa) (putF "last" (.int n) [])))) fa = some (.tup ((T'.map (·.1)).map V.str)) := by rw [upd_ne nfp, upd_same]
    have hp6 : (upd (upd G5 fa (.tup ((T'.map (·.1)).map V.str))) p (.ins CG dx (putF "functions" (.ref fa) (putF "last" (.int n) [])))) p = some (.ins CG dx (putF "functions" (.ref fa) (putF "last" (.int n) []))) := upd_same
    have hW6 : (upd (upd G5 fa (.tup ((T'.map (·.1)).map V.str))) p (.ins CG dx (putF "functions" (.ref fa) (putF "last" (.int n) [])))) Dw = some (.lst ((T'.map (·.1)).map V.str)) := by rw [upd_ne nWp]; exact s6 _ _ hW5
    generalize upd (upd G5 fa (.tup ((T'.map (·.1)).map V.str))) p (.ins CG dx (putF "functions" (.ref fa) (putF "last" (.int n) []))) = G6 at o2 hf6 hp6 hW6
    clear hp5 hW5 s6 o1 nfa nfp hW4 hp4 sH
    refine ⟨_, rfl, Dw, rfl, ⟨_, .inl (.inl hW6)⟩, fun D hD => dc_any (walksL (K := K) (a := Dw) (xs := (T'.map (·.1)).map V.str)) (fun i G => ∃ kv, G D = some (.dK kv) ∧ All2 (EntP CL G) kv (oneT (T'.take i)) ∧ Same G6 G) ⟨[], upd_same, .nil, same_lay hD⟩ (fun i G _ ⟨_, _, _, s⟩ => s.seq (.inl (.inl hW6))) ?_ ?_⟩
    · rintro i y G hy ⟨kv, hkv, hE, sG⟩
      rw [List.getElem?_map, List.getElem?_map] at hy
      obtain ⟨e, he, rfl⟩ : ∃ e, T'[i]? = some e ∧ V.str e.1 = y := by
        cases h : T'[i]? with
        | none => rw [h] at hy; cases hy
        | some e => rw [h] at hy; exact ⟨e, rfl, Option.some.inj hy⟩
      have hi := (List.getElem?_eq_some_iff.mp he).1
      have me := List.mem_of_getElem? he
      obtain ⟨v, hv, z, xs, rfl, hS, hP⟩ := entT' e me
      obtain ⟨_, w2, w3, w4⟩ := okT' e me
      have off := o2.same sG
      have lkv := hE.length
      rw [oneT, List.length_map, List.length_take] at lkv
      refine ⟨rfl, yesT ⟨_, rfl, _, rfl, _, rfl, d, _, rfl, dg (off _ _ hd hdp) hv, z, xs, e.2, 0, n + 1, rfl, hS.off hp off, hP.imp (fun _ _ h => h.off hp off), w2, w3, w4, fun t ys G7 nt ht hY s7 => ?_⟩⟩
      have hkv7 := s7 _ _ hkv
      have hno : e.1 ∉ (oneT (T'.take i)).map (·.1) := by
        rw [oneT_fst]
        intro m
        have e1 : T'.map (·.1) = (T'.take i).map (·.1) ++ (T'.drop i).map (·.1) := by rw [← List.map_append, List.take_append_drop]
        rw [e1, List.nodup_append] at hnd
        refine hnd.2.2 _ m _ (List.mem_map.mpr ⟨e, ?_, rfl⟩) rfl
        rw [← (List.getElem?_eq_some_iff.mp he).2, ← List.getElem_cons_drop hi]
        exact List.mem_cons_self
      refine ⟨kv, .inr e.1, rfl, hkv7, small1000 (by omega), kv ++ [(.inr e.1, .ref t)], ?_, ?_, same_upd (sG.trans s7) hD⟩
      · rw [upd_same, putK_new _ (val_none (fun _ _ h => h.1) hE hno)]
      · have e2 : oneT (T'.take (i + 1)) = oneT (T'.take i) ++ [(e.1, oneF e.2)] := by rw [take_snoc he, oneT, List.map_append]; rfl
        rw [e2]
        have k7 := kp_dk (u := .dK (putK kv (.inr e.1) (.ref t))) hkv7
        exact (hE.imp fun _ _ h => (h.kp (kp_same s7)).kp k7).append (.cons ⟨rfl, t, ys, rfl, k7.tup ht, hY.imp fun _ _ h => h.kp k7⟩ .nil)
    rintro G ⟨kv, hkv, hE, sG⟩
    rw [List.take_of_length_le (by rw [List.length_map, List.length_map]; exact Nat.le_refl _)] at hE
    have hp7 := sG _ _ hp6
    refine ⟨_, rfl, p, CG, dx, _, rfl, hp7, GT.cl, GT.nT, (by show 2 < 1000; decide), ?_⟩
    have fin := R (upd G p (.ins CG dx (gFl n fa D))) T' hT' (by rw [eT']; exact hasc) ?_ (o2.same sG).put
    · exact fin
    · have nDp : D ≠ p := ne_of hkv hp7 (by intro z; cases z)
      have nfp : fa ≠ p := ne_of (sG _ _ hf6) hp7 (by intro z; cases z)
      refine ⟨dx, fa, D, kv, upd_same, ?_, by rw [upd_ne nDp]; exact hkv, hE.imp fun e t h => ?_⟩
      · rw [upd_ne nfp, sG _ _ hf6, ← oneT_fst, List.map_map]
        rfl
      · exact h.put hp7 (by rw [lookup_putF, if_neg kSlF, lookup_putF, if_neg kSlL]; rfl)
end
end OR

namespace OR
open PySem PySem.Spec PyProof.Rows L2
/-! ### Program(last, told) as an expression; a program called -/
def tMkG (K : PySem.W.Frag) (CG CL : Addr) (t : TA) : TE := fun σ H Q => t σ H fun vs H1 => ∃ (d : Addr) (n : Int) (kvs : List (Key × V)) (T : Tld), vs = [.int n, .ref d] ∧ H1 d = some (.dK kvs) ∧ All2 (EntA K CL H1) kvs T ∧ Told n T ∧
  ∀ x H' T', H1 x = none → T'.Perm T → Asc (T'.map (·.1)) → IsG CG CL H' x n (oneT T') → Same H1 H' → Q (.ref x) H'
structure GMk (P : Program) (w : World) (K : PySem.W.Frag) (mg : Str → Option Value) (base : Heap) (CG CL : Addr) : Prop where
  T : GTxt K mg CG
  made : ∃ f fd, Mk K CG f ∧ FnOk P w K mg base CX0 6 f fd ["self", "last", "told"] (spGInit K CG CL) ∧ Binds K fd ["self", "last", "told"] []
theorem pe_mkG {X : Cx} {CG CL : Addr} {j : Nat} {e : Expr} {es : List Expr} {t : TA} {p pos : Pos} (M : GMk X.prog X.w X.K X.mg X.base CG CL) (hr : Room j X.A) (hj : 7 ≤ j) (hg : Gl X "Program") (ha : PA X (e :: es) t)
    (he : starEach (e :: es) X.env = (false, eval e X.env) :: starEach es X.env := by rfl) (hpl : (backTo pos (starEach es X.env)).any (·.1) = false := by rfl) : PE X (.Call (.Name "Program" p) (e :: es) [] pos) (tMkG X.K CG CL t) := by
  obtain ⟨f, fd, mk, F, hb⟩ := M.made
  refine ⟨fun pins s σ H Q I h => ?_⟩
  refine wpAny_Call_Name_kw (ld_glob I hg M.T.mgG ?_ (by decide))
  refine PySem.W.callWith_K (h₀ := X.base) I.ok.mod.kin mk.kp (thn (ha.run pos pins s σ H _ I h) fun us s1 ⟨vs, H1, I1, r, q⟩ => ⟨I1.kIn, ?_⟩) he hpl
  obtain ⟨d, n, kvs, T, rfl, hd, hA, hT, q⟩ := q
  refine run_make mk F (hr.mono hj) hb .nil pass0 I1 r fun x dx nx ndx nex => ?_
  have s1 : Same H1 (upd (upd H1 dx (.own x)) x (.ins CG dx [])) := fun c o e => by rw [upd_ne (ne_of_none e nx), upd_ne (ne_of_none e ndx)]; exact e
  refine ⟨x, dx, d, n, kvs, T, rfl, upd_same, s1 _ _ hd, hA.imp fun _ _ h => h.same s1, hT, fun H' T' hp ha hG off => ⟨rfl, q x H' T' nx hp ha hG fun c o e => off c o (s1 c o e) (ne_of_none e nx)⟩⟩
section
variable {P : Program} {w : World} {K : PySem.W.Frag} {mg : Str → Option Value} {base : Heap} {CL CG ts tw : Addr}
theorem oneF_wd {T : List Pce} {a b : Int} (h : Til T a b) (hT : ∀ q ∈ T, Bq q) : ∀ q ∈ oneF T, ∀ r, q.2.2 = some r → r.1.natAbs < 2 ^ 420 := fun q hq r hr => ((oneF_bq h hT q hq).wd r hr).1
theorem scGCallP : FnScope ["self", "function", "x", "line"] ["self", "function", "x"] (defScope sProgramCall) := ⟨rfl, rfl, rfl, by decide +kernel, rfl, by decide +kernel, by decide +kernel⟩
theorem kCk : ¬ (("_check_functions" : Str) = "_told") ∧ ¬ (("_check_functions" : Str) = "functions") ∧ ¬ (("_check_functions" : Str) = "last") := by decide +kernel
theorem ok_gcall {f CF CP : Addr} {fd : FuncData} (F : Fun K "__call__" "Program.__call__" sProgramCall f fd) (GT : GTxt K mg CG) (CK : MtX P w K mg base 3 CG "_check_functions" ["self", "functions"] (spChkFns CG CL CF)) (CPl : ClX P w K mg base 3 "_check_place" ["x", "last"] (spChkPlace CP))
    (PA : Cl P w K mg base 1 "_piece_at" ["pieces", "x"] (spPieceAt K)) (VA : Cl P w K mg base 1 "value_at" ["line", "x"] (spValW CL)) : FnOk P w K mg base (L2.CX P w) 4 f fd ["self", "function", "x"] (spGCall CG CL CF CP) := by
  refine F.okX scGCallP (fun vs H Q E h => ?_) (fun cdv A outer s H vs Q E hr h => ?_)
  · obtain ⟨x, sx, v, n, T, rfl, _⟩ := h
    rfl
  · obtain ⟨x, sx, v, n, T, rfl, hG, hT, hv, q1, q2, q3⟩ := h
    have nd := scGCallP.nd
    have hu := hu_of hr
    refine ⟨_, pss_cons (ps_expr (pe_mtX CK GT.cl hr (by decide) (takes_of rfl rfl rfl rfl) (pv 0) (pa_cons (pe_tup (pa_cons (pv 1) pa_nil)) pa_nil)))
      (pss_cons (ps_expr (pe_clX CPl hr (by decide) (by rfl) (takes_of rfl rfl rfl rfl) (pa_cons (pv 2) (pa_cons (pe_fld (pv 0) rfl) pa_nil))))
      (pss_cons (ps_set (i := 3) nd rfl (.inl rfl) (pe_ix (ix_any K rfl) (pe_cl PA hr (by decide) (by rfl) (pa_cons (pe_dget hu (pe_fld (pv 0) rfl) (pv 1) (fun _ _ => rfl)) (pa_cons (pv 2) pa_nil))) pe_int (fun _ _ => rfl)))
      (pss_one (ps_ret (pe_ifExp (pt_cmp (pc_isN (pv 3))) pe_non (pe_cl VA hr (by decide) (by rfl) (pa_cons (pv 3) (pa_cons (pv 2) pa_nil)))))))), ?_⟩
    obtain ⟨dx, fa, ta, kv, h1, _⟩ := id hG
    refine ⟨_, rfl, x, dx, _, rfl, h1, gFl_no _ _ _ kCk.1 kCk.2.1 kCk.2.2, _, rfl, by show 1 ≤ sizeLine; decide, fun t nt => ?_⟩
    have s1 := same_lay (o := .tup [.str sx]) nt
    have hG1 := hG.same s1
    refine ⟨x, t, n, oneT T, sx, rfl, hG1, upd_same, fun hs => ?_, fun hs => ?_⟩
    · rw [oneT_fst] at hs
      generalize upd H t (.tup [.str sx]) = G at s1 hG1
      obtain ⟨dx, fa, ta, kv, h1, h2, h3, h4⟩ := id hG1
      refine ⟨_, rfl, _, rfl, x, CG, dx, _, _, rfl, h1, GT.cl, GT.nL, gFl_l _ _ _, v, n, rfl, hv, fun ok => ?_, fun no => (q3 hs no).up s1⟩
      obtain ⟨k, rfl⟩ : ∃ k, v = .int k := by
        cases v with
        | int k => exact ⟨k, rfl⟩
        | _ => exact Bool.noConfusion (show false = true from ok)
      have ok0 := ok
      unfold placeV placeB at ok
      rw [Bool.and_eq_true, Bool.and_eq_true] at ok
      have k0 := of_decide_eq_true ok.1.1
      have kn := of_decide_eq_true ok.2
      have kp : Plc k := ⟨k0, of_decide_eq_true ok.1.2⟩
      obtain ⟨e, me, ee⟩ := List.mem_map.mp hs
      obtain ⟨_, w2, w3, w4⟩ := hT.ok e me
      obtain ⟨e', m', hE, hval⟩ := val_ent (fun _ _ h => h.1) h4 (by rw [oneT_fst]; exact hT.nd) (List.mem_map.mpr ⟨e, me, rfl⟩ : (e.1, oneF e.2) ∈ oneT T)
      obtain ⟨_, tp, ys, e2, htp, hY⟩ := hE
      have hval : valV kv (.inr sx) = some (.ref tp) := by rw [← ee, ← e2]; exact hval
      have LK := oneF_like w2
      refine ⟨_, rfl, x, CG, dx, _, _, rfl, h1, GT.cl, GT.nT, gFl_t _ _ _, _, rfl, ta, _, rfl, dg h3 hval, _, rfl, tp, ys, oneF e.2, k, n + 1, rfl, .inr (.inl (.inl htp)), hY.imp (fun v q ⟨t, u, e1, e2, _⟩ => ⟨t, u, e1, e2⟩), LK.til, Nat.le_trans (oneF_len _) w4, k0, by omega, fun vv q ⟨i, hvv, hq⟩ g1 g2 => ?_⟩
      obtain ⟨q', hq', hpc⟩ := all2_get hY hvv
      rw [hq] at hq'
      cases hq'
      obtain ⟨t2, u, rfl, ht2, hl⟩ := hpc
      have out := (outc_at LK.til hq g1 g2).symm.trans (LK.out k k0 (by omega))
      refine ⟨t2, _, 2, u, rfl, rfl, .inr (.inl (.inl ht2)), atI_nat (j := 2) rfl, _, rfl, _, rfl, ?_⟩
      have fin : ∀ (r : V), r = oVal (outc e.2 k) → Q r G := fun r er => by rw [er]; exact q1 hs ok0 e me ee k G rfl s1
      cases hq2 : q.2.2 with
      | none =>
        rw [hq2] at hl out
        obtain rfl : u = .non := hl
        exact iteA (by simp) (fin .non (by rw [← out]; rfl))
      | some r =>
        rw [hq2] at hl out
        obtain ⟨y, rfl, hy⟩ := hl
        exact iteB (by simp) ⟨_, rfl, _, rfl, y, r, k, rfl, hy, cwWP (oneF_wd w2 w3 q (List.mem_of_getElem? hq) r hq2) kp.b1, fin _ (by rw [← out]; rfl)⟩
    · rw [oneT_fst] at hs
      exact (q2 hs).up s1
end
end OR

namespace OR
open PySem PySem.Spec PyProof.Rows L2
open TL (tl numL)
/-- set(xs), xs a list of integers -/
def rSetI (K : PySem.W.Frag) (w : World) : List V → Hp → VK → Prop := fun xs H Q => ∃ (l : Addr) (ns : List Int), xs = [V.ref l] ∧ SqL K H l (ns.map V.int) ∧ ns.length < 1000 ∧
  ∀ a c, H a = none → c ≤ ns.length → Q (.ref a) (upd H a (SetO w a (fun j => decide (j ∈ ns)) c))
section
variable {P : Program} {w : World} {A : Around} {E : Value → Shared → Prop} {s : Shared}
/-- what the filling leaves -/
def Filled (w : World) (s : Shared) (ns : List Int) (s2 : Shared) : Prop := ∃ (h' : Heap) (tk c : Nat), s2 = { s with heap := h', toks := tk } ∧ SetR w h' s.heap.objs.size (fun j => decide (j ∈ ns)) c ∧ c ≤ ns.length ∧ ∀ b o, s.heap.get? b = some o → h'.get? b = some o
end
abbrev eob (w : World) : Obj := { cls := .type "set", dict := none, data := .set #[] 0 (.fresh 0 0 (!w.params.followText "set-order")) }
section
variable {P : Program} {w : World} {A : Around} {E : Value → Shared → Prop} {s : Shared}
theorem int_at {items : Array Value} {ns : List Int} (hit : IntsAre items.toList ns) (i : Nat) (v : Value) (hv : items[i]? = some v) : ∃ k t, ns[i]? = some k ∧ v = .int k t := by
  obtain ⟨t, e⟩ := IntsAre.int_at hit i v (by rw [Array.getElem?_toList]; exact hv)
  have hl := IntsAre.length hit
  have hi : i < ns.length := by
    rw [← hl, Array.length_toList]
    exact (Array.getElem?_eq_some_iff.mp hv).1
  refine ⟨ns[i], t, List.getElem?_eq_getElem hi, ?_⟩
  rw [e, List.getD_eq_getElem?_getD, List.getElem?_eq_getElem hi]
  rfl
set_option maxHeartbeats 3200000 in
theorem set_ints {l : Addr} {items : Array Value} (ns : List Int) {Q : Value → Shared → Prop} (hd : A.handled = none) (hl : s.heap.IsList l items) (hit : IntsAre items.toList ns) (few : ns.length + 1 < scanBound)
    (q : ∀ s2, Filled w s ns s2 → Q (.ref s.heap.objs.size) s2) : wpAny (model P w) A (call (.type "set") [.ref l]) Q E s := by
  have lens : items.size = ns.length := (Array.length_toList).symm.trans (IntsAre.length hit)
  obtain ⟨c0, tl0, mro0⟩ := F.called_set.mro
  have made0 := F.called_set.made
  have sub0 := F.called_set.sub
  have nt0 := F.called_set.notType
  have cc0 := F.called_set.canCreate
  have tc0 := F.typeCall_set_1 (.ref l)
  refine wpAny_call (codeAny_of_tree ?_)
  show wpAny _ _ (callAny (.type "set") _) _ _ _
  refine wpAny_pure ⟨Code.quiet_builtin _ (by decide +kernel), codeAny_builtin F.entry_type_call ?_⟩
  rw [Around.under_plain (weight_type_call_type "set" [.ref l] []) rfl]
  repeat (any_goals (first | assumption | wp_step))
  refine codeAny_mono (code_set_led1 (.ref l) (E := E) (Q₁ := fun ob z => ob = .ref s.heap.objs.size ∧ z = { s with heap := s.heap.push (eob w) }) ⟨rfl, rfl⟩) fun r z hz => ?_
  rcases r with e | fl
  · exact hz
  cases fl with
  | ret ob =>
    obtain ⟨rfl, rfl⟩ := hz
    have top0 : (s.heap.push (eob w)).get? s.heap.objs.size = some (eob w) := Heap.get?_push_size _ rfl
    have ty0 : Shared.TypeIs { s with heap := s.heap.push (eob w) } (.ref s.heap.objs.size) "set" := ⟨_, top0, rfl⟩
    have look0 := F.called_set.init.lookup
    have bind0 := F.called_set.init.bind (.ref s.heap.objs.size)
    repeat (any_goals (first | assumption | wp_step))
    refine codeAny_mono (codeAny_call_builtin (R := wants (fun r z => r = .none ∧ Filled w s ns z) E) F.called_set.init.plain F.entry_set_init (check_set_init_1 ty0 ?_)) fun r2 z2 hz2 => ?_
    · obtain ⟨⟨oc, od, odt, osl⟩, hol, hcl, nl, hdl⟩ := hl
      simp only at hcl hdl
      subst hcl hdl
      have hol1 : (s.heap.push (eob w)).get? l = some { cls := .type "list", dict := od, data := .seq items nl, slots := osl } := Heap.get?_push_of_some _ hol
      have lst1 : (s.heap.push (eob w)).IsList l items := ⟨_, hol1, rfl, nl, rfl⟩
      have ns1 := F.sub_list_set
      have nf1 := F.sub_list_frozenset
      have nd1 : (Value.type "list" == Value.type "dict") = false := by decide
      unfold Builtin.«set.__init__» noKeywords Builtin.Frozenset.updateFrom
      generalize hPI : pyIter = PI
      wp_walk
      subst hPI
      refine wpAny_pyIter_list lst1 (wpAny_bind (wpAny_runValue ?_))
      have size1 : (s.heap.push (eob w)).objs.size = s.heap.objs.size + 1 := Heap.size_push ..
      have below : l < s.heap.objs.size := Heap.lt_size hol
      have lI : l ≠ (s.heap.push (eob w)).objs.size := fun e => absurd below (by rw [e, size1]; exact Nat.not_lt.mpr (Nat.le_succ _))
      have away : s.heap.objs.size ∉ [(s.heap.push (eob w)).objs.size, l] := by
        rw [size1]
        intro m
        rcases List.mem_cons.mp m with e | m
        · exact Nat.succ_ne_self _ e.symm
        · exact absurd below (by rw [← List.mem_singleton.mp m]; exact Nat.lt_irrefl _)
      have hd3 : A.in1.in1.in1.handled = none := by simp [hd]
      have start : ((s.heap.push (eob w)).push { cls := .type "list_iterator", data := .fields #[.ref l, .int 0 0] }).get? s.heap.objs.size = some (eob w) := Heap.get?_push_of_some _ top0
      refine set_update_ints ((Walks.list hd3 _ l lI items).toS) s.heap.objs.size away ns lens few (int_at hit) (items.size - 0) 0 _ (by omega) (Nat.zero_le _) ⟨⟨_, Heap.get?_push_size _ rfl, rfl, rfl⟩, lst1.push _⟩
        ⟨0, Nat.le_refl 0, setR_new_at start⟩ ?_
      intro z c mvd lec setz
      obtain ⟨hz, gz, dz, tz, oz⟩ := z
      have g1 : gz = s.gens := mvd.gens
      have g2 : dz = s.drawn := mvd.drawn
      have g3 : oz = s.os := mvd.os
      subst g1 g2 g3
      show wpAny _ _ _ _ _ _
      refine wpAny_pure ?_
      show wpAny _ _ (ret Value.none) _ _ _
      rw [lens] at lec
      refine wpAny_pure ⟨rfl, hz, tz, c, rfl, setz, lec, fun b o e => mvd.heap b o ?_ (Heap.get?_push_of_some _ (Heap.get?_push_of_some _ e))⟩
      have lb : b < s.heap.objs.size := Heap.lt_size e
      rw [size1]
      intro m
      rcases List.mem_cons.mp m with e | m
      · exact absurd lb (by rw [e]; exact Nat.lt_irrefl _)
      · exact absurd lb (by rw [List.mem_singleton.mp m]; exact Nat.not_lt.mpr (Nat.le_succ _))
    · rcases r2 with e | fl2
      · exact hz2
      cases fl2 with
      | ret r =>
        obtain ⟨rfl, fz⟩ := hz2
        obtain ⟨h', tk, c, rfl, R, lc, kp⟩ := id fz
        repeat (any_goals (first | assumption | wp_step))
        exact q _ fz
      | _ => exact hz2.elim
  | _ => exact hz.elim
end
theorem call_setI {X : Cx} (K : PySem.W.Frag) (w : World) (hK : X.K = K) (hw : X.w = w) (hc : X.calm = true) : CallR X (.type "set") (rSetI K w) := by
  subst hK hw
  intro pins s σ H xs us Q I r h
  obtain ⟨l, ns, rfl, hl, hf, q⟩ := h
  rw [Vals.ref1 r]
  obtain ⟨its, rv, pl, hz⟩ := I.list hl
  have hn : H s.heap.objs.size = none := I.hok.fresh (Nat.le_refl _)
  refine set_ints (P := X.prog) (w := X.w) ns (I.ok.hd hc) pl.isList (by simpa using intsAre_of rv) (by show ns.length + 1 < scanBound; unfold scanBound; omega) fun s2 ⟨h', tk, c, e, R, lc, k⟩ => ?_
  subst e
  exact ⟨.ref s.heap.objs.size, upd H s.heap.objs.size (SetO X.w s.heap.objs.size (fun j => decide (j ∈ ns)) c), I.laid (t' := tk) k (Nat.le_refl _) (setO_new R), rfl, q _ c hn lc⟩
section
variable {P : Program} {w : World} {K : PySem.W.Frag} {mg : Str → Option Value} {base : Heap}
theorem boot_minO : bootBuiltins ("min" : Str) = some (.builtin "min") := by decide +kernel
end
theorem Pen.putNew {H0 G : Hp} {p o : Addr} {n m : Nat} {xs : List V} {u : HO} (P0 : Pen H0 p m) (P : Pen G p n) (f : Frm p H0 G) (no : H0 o = none) (h : G o = some (.lst xs)) : Pen (upd G o u) p n := by
  obtain ⟨c0, hc0, hcn⟩ := P0.cells
  exact P.put (f.ce c0 hc0) h fun e => hcn (by rw [e]; exact no)
end OR

namespace OR
open PySem PySem.Spec PyProof.Rows L2
theorem bt_set : bootBuiltins ("set" : Str) = some (.type "set") := by decide +kernel
/-! ### rows of the law: tuples with a tuple or None -/
theorem Frm.tup0 {H H' : Hp} {p a : Addr} {n : Nat} {xs : List V} (f : Frm p H H') (P : Pen H p n) (h : H a = some (.tup xs)) : H' a = some (.tup xs) := (kp_frm f P).tup h
def LnT (H : Hp) (v : V) : Option LnR → Prop
  | none => v = .non
  | some r => ∃ y, v = .ref y ∧ H y = some (.tup [.int r.1, .int r.2])
theorem LnT.kp {H H' : Hp} {v : V} {l : Option LnR} (h : LnT H v l) (k : KP H H') : LnT H' v l := by
  cases l with
  | none => exact h
  | some r => obtain ⟨y, e, h⟩ := h; exact ⟨y, e, k.tup h⟩
def RwT (H : Hp) (v : V) (q : Pce) : Prop := ∃ t u, v = .ref t ∧ H t = some (.tup [.int q.1, .int q.2.1, u]) ∧ LnT H u q.2.2
theorem RwT.kp {H H' : Hp} {v : V} {q : Pce} (h : RwT H v q) (k : KP H H') : RwT H' v q := by
  obtain ⟨t, u, e, h1, h2⟩ := h
  exact ⟨t, u, e, k.tup h1, h2.kp k⟩
def spWorthT : Sp := fun vs H Q _ => ∃ (t : Addr) (r : LnR) (x : Int), vs = [.ref t, .int x] ∧ H t = some (.tup [.int r.1, .int r.2]) ∧ CMulW r.1 x ∧ Q (.int (lv r x)) H
def spLastP : Sp := fun vs H Q _ => ∃ (p : Addr) (n : Nat), vs = [.ref p] ∧ Pen H p n ∧ n ≤ 800000 ∧ ∀ (x : Int) (H' : Hp), Plc x → Pen H' p (n + 10) → Frm p H H' → Q (.int x) H'
def spPieceL (CL : Addr) : Sp := fun vs H Q _ => ∃ (v : V) (q : Pce), vs = [v] ∧ RwT H v q ∧ ∀ z H', PcT CL H' z q → Same H H' → Q z H'
def spOutc : Sp := fun vs H Q _ => ∃ (a : Addr) (xs : List V) (L : List Pce) (x b c : Int), vs = [.ref a, .int x] ∧ H a = some (.lst xs) ∧ All2 (RwT H) xs L ∧ Til L b c ∧ b ≤ x ∧ x < c ∧ (∀ q ∈ L, Tq q) ∧ Plc x ∧ L.length ≤ 900 ∧ ∀ H', Same H H' → Q (oVal (outc L x)) H'
theorem outc_hit {L : List Pce} {b c x : Int} (h : Til L b c) (h0 : b ≤ x) (h1 : x < c) : ∃ q, q ∈ L ∧ hit x q = true ∧ L.filter (hit x) = [q] := by
  induction L generalizing b with
  | nil => have e : b = c := h; omega
  | cons p r ih =>
    obtain ⟨e1, e2, e3⟩ := h
    by_cases z : x ≤ p.2.1
    · have hp : hit x p = true := by unfold hit; rw [decide_eq_true (by omega), decide_eq_true z]; rfl
      refine ⟨p, List.mem_cons_self, hp, ?_⟩
      rw [List.filter_cons_of_pos hp, e3.lo (by omega)]
    · have hp : ¬ hit x p = true := by unfold hit; rw [decide_eq_false z, Bool.and_false]; simp
      obtain ⟨q, m, hq, e⟩ := ih e3 (by omega)
      exact ⟨q, List.mem_cons_of_mem _ m, hq, by rw [List.filter_cons_of_neg hp]; exact e⟩
theorem outc_of {L : List Pce} {x : Int} {q : Pce} (h : L.filter (hit x) = [q]) : outc L x = oV q.2.2 x := by unfold outc; rw [h]
theorem outc_small {L : List Pce} {x k : Int} (hT : ∀ q ∈ L, Tq q) (hx : Plc x) (h : outc L x = some k) : k.natAbs < 2 ^ 302 := by
  unfold outc at h
  cases hf : L.filter (hit x) with
  | nil => rw [hf] at h; cases h
  | cons q r =>
    rw [hf] at h
    have m : q ∈ L := (List.mem_filter.mp (hf ▸ List.mem_cons_self : q ∈ L.filter (hit x))).1
    simp only at h
    unfold oV at h
    cases hq : q.2.2 with
    | none => rw [hq] at h; cases h
    | some r =>
      rw [hq] at h
      have := ((hT q m).sm r hq).val hx.b1
      have e : lv r x = k := Option.some.inj h
      rw [← e]
      exact this
section
variable {P : Program} {w : World} {K : PySem.W.Frag} {mg : Str → Option Value} {base : Heap} {CL CG ts tw : Addr}
theorem scWorthT : FnScope ["_law_line", "_law_x"] ["_law_line", "_law_x"] (defScope sWorth) := ⟨rfl, rfl, rfl, by decide +kernel, rfl, by decide +kernel, by decide +kernel⟩
theorem ok_worthT {f : Addr} {fd : FuncData} (F : Fun K "_law_worth" "_law_worth" sWorth f fd) : FnOk P w K mg base CX0 1 f fd ["_law_line", "_law_x"] spWorthT := by
  refine F.ok scWorthT (fun vs H Q E h => ?_) (fun cdv A outer s H vs Q E hr h => ?_)
  · obtain ⟨t, r, x, rfl, _⟩ := h
    rfl
  · obtain ⟨t, r, x, rfl, ht, hm, q⟩ := h
    refine ⟨_, pss_one (ps_ret (pe_op op_add (pe_op op_mulW (pe_ix (ix_tupK K rfl) (pv 0) pe_int (fun _ _ => rfl)) (pv 1)) (pe_ix (ix_tupK K rfl) (pv 0) pe_int (fun _ _ => rfl)))), ?_⟩
    exact ⟨_, rfl, t, _, 0, _, rfl, rfl, .inl (.inl ht), atI_nat (j := 0) rfl, _, rfl, r.1, x, rfl, rfl, hm, _, rfl, t, _, 1, _, rfl, rfl, .inl (.inl ht), atI_nat (j := 1) rfl, _, _, rfl, rfl, q⟩
theorem scLastP : FnScope ["_law_pen_here"] ["_law_pen_here"] (defScope sLast) := ⟨rfl, rfl, rfl, by decide +kernel, rfl, by decide +kernel, by decide +kernel⟩
theorem ok_last {f : Addr} {fd : FuncData} (F : Fun K "_law_last" "_law_last" sLast f fd) (D : Cl P w K mg base 1 "_law_draw" ["_law_pen_here", "_law_many"] spDraw) (PI : Cl P w K mg base 2 "_law_pick" ["_law_pen_here", "_law_items"] (spPick K)) : FnOk P w K mg base CX0 3 f fd ["_law_pen_here"] spLastP := by
  refine F.ok scLastP (fun vs H Q E h => ?_) (fun cdv A outer s H vs Q E hr h => ?_)
  · obtain ⟨p, n, rfl, _⟩ := h
    rfl
  · obtain ⟨p, n, rfl, hP, hn, R⟩ := h
    refine ⟨_, pss_one (ps_ret (pe_cl PI hr (by decide) (by rfl) (pa_cons (pv 0) (pa_cons (pe_lst (pa_cons (pe_cl D hr (by decide) (by rfl) (pa_cons (pv 0) (pa_cons pe_int pa_nil))) (pa_cons (pe_cl D hr (by decide) (by rfl) (pa_cons (pv 0) (pa_cons pe_int pa_nil))) (pa_cons pe_int (pa_cons (pe_op op_add (pe_op op_pow pe_int pe_int) (pe_cl D hr (by decide) (by rfl) (pa_cons (pv 0) (pa_cons pe_int pa_nil)))) (pa_cons (pe_op op_pow pe_int pe_int) pa_nil)))))) pa_nil)))), ?_⟩
    have pw15 : CPow 10 15 := ⟨by decide, by decide, by decide⟩
    have pw30 : CPow 10 30 := ⟨by decide, by decide, by decide⟩
    refine ⟨_, rfl, _, rfl, p, 4, n, rfl, by decide, by decide, hP, by omega, fun a H1 a0 a1 P1 F1 => ?_⟩
    refine ⟨_, rfl, p, 13, _, rfl, by decide, by decide, P1, by omega, fun b H2 b0 b1 P2 F2 => ?_⟩
    refine ⟨_, _, rfl, rfl, pw15, _, rfl, p, 99, _, rfl, by decide, by decide, P2, by omega, fun c H3 c0 c1 P3 F3 => ?_⟩
    refine ⟨_, _, rfl, rfl, _, _, rfl, rfl, pw30, by show 5 ≤ sizeLine; decide, fun l nl => ?_⟩
    refine ⟨p, l, [.int a, .int b, .int 40, .int (10 ^ 15 + c), .int (10 ^ 30)], _, rfl, .inl (.inl upd_same), by show 0 < 5; decide, by show 5 ≤ 1000; decide, P3.new nl, by omega, fun v H4 hv P4 F4 => ?_⟩
    have F := ((F1.trans F2).trans F3).trans ((Frm.new nl).trans F4)
    have fin : ∀ x : Int, Plc x → v = .int x → Q v H4 := fun x hx e => by rw [e]; exact R x H4 hx (P4.mono (by omega)) F
    simp only [List.mem_cons, List.not_mem_nil, or_false] at hv
    rcases hv with e | e | e | e | e
    · exact fin a ⟨a0, by omega⟩ e
    · exact fin b ⟨b0, by omega⟩ e
    · exact fin 40 ⟨by decide, by decide⟩ e
    · exact fin _ ⟨by omega, by omega⟩ e
    · exact fin _ ⟨by decide, by decide⟩ e
theorem scPieceL : FnScope ["_law_row"] ["_law_row"] (defScope sPiece) := ⟨rfl, rfl, rfl, by decide +kernel, rfl, by decide +kernel, by decide +kernel⟩
theorem ok_piece {f : Addr} {fd : FuncData} (F : Fun K "_law_piece" "_law_piece" sPiece f fd) (M : LMk P w K mg base CL) : FnOk P w K mg base CX0 3 f fd ["_law_row"] (spPieceL CL) := by
  refine F.ok scPieceL (fun vs H Q E h => ?_) (fun cdv A outer s H vs Q E hr h => ?_)
  · obtain ⟨v, q, rfl, _⟩ := h
    rfl
  · obtain ⟨v, q, rfl, ⟨t, u, rfl, ht, hl⟩, R⟩ := h
    refine ⟨_, pss_one (ps_ret (pe_tup (pa_cons (pe_ix (ix_tupK K rfl) (pv 0) pe_int (fun _ _ => rfl)) (pa_cons (pe_ix (ix_tupK K rfl) (pv 0) pe_int (fun _ _ => rfl)) (pa_cons (pe_ifExp (pt_cmp (pc_isN (pe_ix (ix_tupK K rfl) (pv 0) pe_int (fun _ _ => rfl)))) pe_non (pe_mkL M hr (by decide) (by rfl) (pa_cons (pe_ix (ix_tupK K rfl) (pe_ix (ix_tupK K rfl) (pv 0) pe_int (fun _ _ => rfl)) pe_int (fun _ _ => rfl)) (pa_cons (pe_ix (ix_tupK K rfl) (pe_ix (ix_tupK K rfl) (pv 0) pe_int (fun _ _ => rfl)) pe_int (fun _ _ => rfl)) pa_nil)))) pa_nil))))), ?_⟩
    have S0 : SqT K H t [.int q.1, .int q.2.1, u] := .inl (.inl ht)
    refine ⟨_, rfl, t, _, 0, _, rfl, rfl, S0, atI_nat (j := 0) rfl, _, rfl, t, _, 1, _, rfl, rfl, S0, atI_nat (j := 1) rfl, _, rfl, t, _, 2, _, rfl, rfl, S0, atI_nat (j := 2) rfl, _, rfl, ?_⟩
    cases hq : q.2.2 with
    | none =>
      rw [hq] at hl
      obtain rfl : u = .non := hl
      refine iteA (by simp) ⟨by show 3 ≤ sizeLine; decide, fun z nz => R _ _ ⟨z, .non, rfl, upd_same, by rw [hq]; rfl⟩ (same_lay nz)⟩
    | some r =>
      rw [hq] at hl
      obtain ⟨y, rfl, hy⟩ := hl
      have Sy : SqT K H y [.int r.1, .int r.2] := .inl (.inl hy)
      refine iteB (by simp) ⟨_, rfl, t, _, 2, _, rfl, rfl, S0, atI_nat (j := 2) rfl, y, _, 0, _, rfl, rfl, Sy, atI_nat (j := 0) rfl, _, rfl, t, _, 2, _, rfl, rfl, S0, atI_nat (j := 2) rfl, y, _, 1, _, rfl, rfl, Sy, atI_nat (j := 1) rfl, r.1, r.2, rfl, fun x H1 nx hx s1 => ⟨by show 3 ≤ sizeLine; decide, fun z nz => R _ _ ⟨z, .ref x, rfl, upd_same, ?_⟩ (s1.trans (same_lay nz))⟩⟩
      rw [hq]
      exact ⟨x, rfl, hx.same (same_lay nz)⟩
end
end OR

namespace OR
open PySem PySem.Spec PyProof.Rows L2
/-! ### drawn rows -/
def spRowsL : Sp := fun vs H Q _ => ∃ (p : Addr) (n : Nat) (last : Int), vs = [.ref p, .int last] ∧ Plc last ∧ Pen H p n ∧ n ≤ 700000 ∧
  ∀ a xs L H', H a = none → H' a = some (.lst xs) → All2 (RwT H') xs L → Til L 0 (last + 1) → (∀ q ∈ L, Tq q) → L.length ≤ 6 → Pen H' p (n + 100) → Frm p H H' → Q (.ref a) H'
/-- a line that is not too great after i rows -/
def Gw (i : Nat) (r : LnR) : Prop := r.1.natAbs ≤ 10 ^ 9 ∧ r.2.natAbs ≤ i * 10 ^ 41
theorem Gw.sm {i : Nat} {r : LnR} (h : Gw i r) (hi : i ≤ 100) : Sm r := by
  obtain ⟨h1, h2⟩ := h
  have e : (10 : Nat) ^ 9 < 2 ^ 200 := by decide
  have e2 : 100 * (10 : Nat) ^ 41 < 2 ^ 200 := by decide
  have := Nat.mul_le_mul_right (10 ^ 41) hi
  exact ⟨by omega, by omega⟩
theorem Gw.up {i : Nat} {r : LnR} (h : Gw i r) : Gw (i + 1) r := ⟨h.1, Nat.le_trans h.2 (Nat.mul_le_mul_right _ (Nat.le_succ _))⟩
theorem abs_mul9 {a x : Int} (ha : a.natAbs ≤ 10 ^ 9) (hx : Plc x) : (a * x).natAbs ≤ 10 ^ 39 := by
  rw [Int.natAbs_mul]
  have h1 : x.natAbs ≤ 10 ^ 30 := by have := hx.1; have := hx.2; omega
  have := Nat.mul_le_mul ha h1
  have e : (10 : Nat) ^ 9 * 10 ^ 30 = 10 ^ 39 := by decide
  omega
theorem asc_head {ns : List Int} (hs : ns.Pairwise (· < ·)) (h0 : (0 : Int) ∈ ns) (hp : ∀ z ∈ ns, 0 ≤ z) : ∃ r, ns = 0 :: r := by
  cases ns with
  | nil => cases h0
  | cons a r =>
    rcases List.mem_cons.mp h0 with e | e
    · exact ⟨r, by rw [e]⟩
    · have := (List.pairwise_cons.mp hs).1 0 e
      have := hp a List.mem_cons_self
      omega
/-- the rows so far reach the next cut -/
def upTo (ns : List Int) (last : Int) (i : Nat) : Int := if i < ns.length then ns.getD i 0 else last + 1
theorem upTo_at {ns : List Int} {last : Int} {i : Nat} {a : Int} (h : ns[i]? = some a) : upTo ns last i = a := by
  obtain ⟨hi, e⟩ := List.getElem?_eq_some_iff.mp h
  unfold upTo
  rw [if_pos hi, List.getD_eq_getElem?_getD, h]
  rfl
theorem upTo_end {ns : List Int} {last : Int} : upTo ns last ns.length = last + 1 := by unfold upTo; rw [if_neg (Nat.lt_irrefl _)]
section
variable {P : Program} {w : World} {K : PySem.W.Frag} {mg : Str → Option Value} {base : Heap} {CL CG ts tw : Addr}
theorem scRowsL : FnScope ["_law_pen_here", "_law_last_here", "_law_near", "_law_cuts", "_law_found", "_law_before", "_law_k", "_law_cut", "_law_end", "_law_slope", "_law_start", "_law_line"] ["_law_pen_here", "_law_last_here"] (defScope sRows) := ⟨rfl, rfl, rfl, by decide +kernel, rfl, by decide +kernel, by decide +kernel⟩
theorem ok_rowsL {f : Addr} {fd : FuncData} (F : Fun K "_law_rows" "_law_rows" sRows f fd) (B : Bd mg) (D : Cl P w K mg base 1 "_law_draw" ["_law_pen_here", "_law_many"] spDraw) (PI : Cl P w K mg base 2 "_law_pick" ["_law_pen_here", "_law_items"] (spPick K))
    (WH : Cl P w K mg base 3 "_law_whole" ["_law_pen_here"] spWhole) (WO : Cl P w K mg base 1 "_law_worth" ["_law_line", "_law_x"] spWorthT) : FnOk P w K mg base CX0 4 f fd ["_law_pen_here", "_law_last_here"] spRowsL := by
  refine F.ok scRowsL (fun vs H Q E h => ?_) (fun cdv A outer s H vs Q E hr h => ?_)
  · obtain ⟨p, n, last, rfl, _⟩ := h
    rfl
  · obtain ⟨p, n, last, rfl, hlast, hP, hn, R⟩ := h
    have nd := scRowsL.nd
    refine ⟨_, pss_cons (ps_asg (pe_tup (pa_cons (pe_callB (call_min2 rfl) (by rfl) B.min bt_min (pa_cons (pe_callTy call_int1 (by rfl) B.int bt_int (pa_cons (pv 1) pa_nil)) (pa_cons pe_int pa_nil))) (pa_cons (pe_lst (pa_cons pe_int pa_nil)) (pa_cons (pe_lst pa_nil) (pa_cons (pe_tup (pa_cons pe_int (pa_cons pe_int pa_nil))) pa_nil))))) (pg_tup rfl (pgs_cons (pg_name (i := 2) nd rfl (.inl rfl)) (pgs_cons (pg_name (i := 3) nd rfl (.inl rfl)) (pgs_cons (pg_name (i := 4) nd rfl (.inl rfl)) (pgs_cons (pg_name (i := 5) nd rfl (.inl rfl)) pgs_nil))))))
      (pss_cons (ps_for PassesOwn.never rfl (pi_range1 (by rfl) B.range (pa_cons (pe_cl D hr (by decide) (by rfl) (pa_cons (pv 0) (pa_cons pe_int pa_nil))) pa_nil)) (pg_name (i := 6) nd rfl (.inl rfl))
          (pss_cons (ps_set (i := 7) nd rfl (.inl rfl) (pe_cl D hr (by decide) (by rfl) (pa_cons (pv 0) (pa_cons (pe_op op_add (pv 2) pe_int) pa_nil))))
          (pss_one (ps_expr (pe_bm PySem.F.plainAttrs_list PySem.F.slot_list_append PySem.F.type_list_append mt_append (pv 3) (pa_cons (pe_cl PI hr (by decide) (by rfl) (pa_cons (pv 0) (pa_cons (pe_lst (pa_cons (pv 7) (pa_cons (pe_op op_sub (pv 1) (pv 7)) (pa_cons (pe_cl D hr (by decide) (by rfl) (pa_cons (pv 0) (pa_cons (pe_op op_add (pv 1) pe_int) pa_nil))) pa_nil)))) pa_nil))) pa_nil))))))
      (pss_cons (ps_set (i := 3) nd rfl (.inl rfl) (pe_callB (cr_sortedSet rfl) (by rfl) B.sorted bt_sorted (pa_cons (pe_callTy (call_setI K w rfl rfl rfl) (by rfl) B.set bt_set (pa_cons (pv 3) pa_nil)) pa_nil)))
      (pss_cons (ps_for PassesOwn.never rfl (pi_range1 (by rfl) B.range (pa_cons (pe_callB call_len_seq (by rfl) B.len PySem.boot_len (pa_cons (pv 3) pa_nil)) pa_nil)) (pg_name (i := 6) nd rfl (.inl rfl))
          (Evl.pss_cut (ps_set (i := 8) nd rfl (.inl rfl) (pe_ifExp (pt_cmpR op_lt (pe_op op_add (pv 6) pe_int) (pe_callB call_len_seq (by rfl) B.len PySem.boot_len (pa_cons (pv 3) pa_nil)) (nomark _)) (pe_op op_sub (pe_ix (ix_listK K rfl) (pv 3) (pe_op op_add (pv 6) pe_int) (fun _ _ => rfl)) pe_int) (pv 1)))
          (pss_cons (ps_set (i := 9) nd rfl (.inl rfl) (pe_cl PI hr (by decide) (by rfl) (pa_cons (pv 0) (pa_cons (pe_lst (pa_cons pe_int (pa_cons pe_int (pa_cons pe_int (pa_cons (pe_un un_neg pe_int) (pa_cons pe_int (pa_cons (pe_un un_neg pe_int) (pa_cons (pe_op op_pow pe_int pe_int) pa_nil)))))))) pa_nil))))
          (pss_cons (ps_set (i := 10) nd rfl (.inl rfl) (pe_op op_add (pe_cl WO hr (by decide) (by rfl) (pa_cons (pv 5) (pa_cons (pe_ix (ix_listK K rfl) (pv 3) (pv 6) (fun _ _ => rfl)) pa_nil))) (pe_cl PI hr (by decide) (by rfl) (pa_cons (pv 0) (pa_cons (pe_lst (pa_cons pe_int (pa_cons pe_int (pa_cons pe_int (pa_cons (pe_un un_neg pe_int) (pa_cons pe_int (pa_cons pe_int (pa_cons (pe_cl WH hr (by decide) (by rfl) (pa_cons (pv 0) pa_nil)) pa_nil)))))))) pa_nil)))))
          (pss_cons (ps_set (i := 11) nd rfl (.inl rfl) (pe_tup (pa_cons (pv 9) (pa_cons (pe_op op_sub (pv 10) (pe_op op_mulW (pv 9) (pe_ix (ix_listK K rfl) (pv 3) (pv 6) (fun _ _ => rfl)))) pa_nil))))
          (pss_cons (ps_set (i := 11) nd rfl (.inl rfl) (pe_cl PI hr (by decide) (by rfl) (pa_cons (pv 0) (pa_cons (pe_lst (pa_cons (pv 11) (pa_cons (pv 11) (pa_cons (pv 11) (pa_cons (pv 5) (pa_cons pe_non pa_nil)))))) pa_nil))))
          (Evl.pss_cut (ps_set (i := 5) nd rfl (.inl rfl) (pe_ifExp (pt_cmp (pc_isN (pv 11))) (pv 5) (pv 11)))
          (pss_one (ps_expr (pe_bm PySem.F.plainAttrs_list PySem.F.slot_list_append PySem.F.type_list_append mt_append (pv 4) (pa_cons (pe_tup (pa_cons (pe_ix (ix_listK K rfl) (pv 3) (pv 6) (fun _ _ => rfl)) (pa_cons (pv 8) (pa_cons (pv 11) pa_nil)))) pa_nil)))))))))))
      (pss_one (ps_ret (pv 4)))))), ?_⟩
    have pw9 : CPow 10 9 := ⟨by decide, by decide, by decide⟩
    have l0 := hlast.1
    have l1 := hlast.2
    generalize hnear : (if (12 : Int) < last then (12 : Int) else last) = near
    have hn0 : 0 ≤ near ∧ near ≤ 12 ∧ near ≤ last := by subst hnear; split <;> omega
    refine ⟨_, rfl, .inl ⟨last, rfl, _, _, rfl, by show 1 ≤ sizeLine; decide, fun c nc => ?_⟩⟩
    rw [hnear]
    refine ⟨by show 0 ≤ sizeLine; decide, fun fo nfo => ?_⟩
    refine ⟨by show 2 ≤ sizeLine; decide, fun bt nbt => ?_⟩
    refine ⟨by show 4 ≤ sizeLine; decide, fun tt ntt => ?_⟩
    have nfc : H fo = none := (same_lay (o := .lst [.int 0]) nc).free nfo
    have ncf : c ≠ fo := fun e => by rw [← e, upd_same] at nfo; cases nfo
    have P0 := ((hP.new (o := .lst [.int 0]) nc).new (o := .lst []) nfo |>.new (o := .tup [.int 0, .int 0]) nbt).new (o := .tup [.int near, .ref c, .ref fo, .ref bt]) ntt
    have S4 := same_lay (o := .tup [.int near, .ref c, .ref fo, .ref bt]) ntt
    have S3 := same_lay (o := .tup [.int 0, .int 0]) nbt
    have S2 := same_lay (o := .lst []) nfo
    have F0 : Frm p H _ := frmS (((same_lay (o := .lst [.int 0]) nc).trans S2).trans (S3.trans S4))
    have hc0 := S4 _ _ (S3 _ _ (S2 _ _ (upd_same : (upd H c (.lst [.int 0])) c = some (.lst [.int 0]))))
    have hf0 := S4 _ _ (S3 _ _ (upd_same : (upd (upd H c (.lst [.int 0])) fo (.lst [])) fo = some (.lst [])))
    have hb0 := S4 _ _ (upd_same : (upd (upd (upd H c (.lst [.int 0])) fo (.lst [])) bt (.tup [.int 0, .int 0])) bt = some (.tup [.int 0, .int 0]))
    refine ⟨tt, _, rfl, .inl (.inl upd_same), rfl, _, _, rfl, _, _, rfl, _, _, rfl, _, _, rfl, rfl, ?_⟩
    generalize upd (upd (upd (upd H c (.lst [.int 0])) fo (.lst [])) bt (.tup [.int 0, .int 0])) tt (.tup [.int near, .ref c, .ref fo, .ref bt]) = G0 at P0 F0 hc0 hf0 hb0
    clear S2 S3 S4 ntt nbt nfo
    -- the cuts
    refine ⟨_, rfl, p, 6, n, rfl, by decide, by decide, P0, by omega, fun cnt G1 c0 c1 P1 F1 => ⟨cnt, rfl, by omega, by omega, for_range (lo := 0) (n := cnt.toNat) (fun i σ G => ∃ cs s6 s7, σ = [some (.ref p), some (.int last), some (.int near), some (.ref c), some (.ref fo), some (.ref bt), s6, s7, none, none, none, none] ∧ G c = some (.lst (cs.map V.int)) ∧ (0 : Int) ∈ cs ∧ (∀ z ∈ cs, 0 ≤ z ∧ z ≤ last) ∧ cs.length = 1 + i ∧ G fo = some (.lst []) ∧ G bt = some (.tup [.int 0, .int 0]) ∧ Pen G p (n + 1 + 3 * i) ∧ Frm p H G)
      ⟨[0], none, none, rfl, F1.lst P0 hc0, List.mem_singleton.mpr rfl, (fun z hz => by rw [List.mem_singleton.mp hz]; omega), rfl, F1.lst P0 hf0, F1.tup0 P0 hb0, P1, F0.trans F1⟩ ?_ ?_⟩⟩
    · rintro i σ G hi ⟨cs, s6, s7, rfl, hc, h0, hcs, lcs, hf, hb, PG, FG⟩
      refine ⟨_, rfl, _, rfl, _, _, rfl, rfl, p, near + 1, _, rfl, by omega, ?_, PG, by omega, fun x G2 x0 x1 P2 F2 => ?_⟩
      · exact Nat.lt_of_le_of_lt (show (near + 1).natAbs ≤ 13 by omega) (by decide)
      refine ⟨_, rfl, .inl ⟨rfl, _, .inl (.inl (F2.lst PG hc))⟩, _, rfl, _, rfl, _, rfl, _, rfl, _, _, rfl, rfl, _, rfl, _, rfl, _, _, rfl, rfl, p, last + 1, _, rfl, by omega, ?_, P2, by omega, fun y G3 y0 y1 P3 F3 => ?_⟩
      · exact Nat.lt_of_le_of_lt (show (last + 1).natAbs ≤ 10 ^ 30 + 1 by omega) (by decide)
      refine ⟨by show 3 ≤ sizeLine; decide, fun l nl => ?_⟩
      refine ⟨p, l, [.int x, .int (last - x), .int y], _, rfl, .inl (.inl upd_same), by show 0 < 3; decide, by show 3 ≤ 1000; decide, P3.new nl, by omega, fun v G4 hv P4 F4 => ?_⟩
      have FF := ((F2.trans F3).trans (Frm.new nl)).trans F4
      have hc4 := FF.lst PG hc
      have F4' := FG.trans FF
      obtain ⟨z, rfl, z0, z1⟩ : ∃ z, v = .int z ∧ 0 ≤ z ∧ z ≤ last := by
        simp only [List.mem_cons, List.not_mem_nil, or_false] at hv
        rcases hv with e | e | e
        · exact ⟨_, e, x0, by omega⟩
        · exact ⟨_, e, by omega, by omega⟩
        · exact ⟨_, e, y0, by omega⟩
      refine ⟨c, _, _, rfl, rfl, hc4, small1000 (by rw [List.length_map]; omega), ?_⟩
      refine ⟨cs ++ [z], _, _, rfl, by rw [upd_same, List.map_append]; rfl, List.mem_append_left _ h0, fun y hy => ?_, by rw [List.length_append, lcs]; exact Nat.add_assoc _ _ _, ?_, ?_, (hP.putNew P4 F4' nc hc4).mono (by omega), F4'.putNew nc hc4⟩
      · rcases List.mem_append.mp hy with m | m
        · exact hcs y m
        · rw [List.mem_singleton.mp m]; exact ⟨z0, z1⟩
      · rw [upd_ne ncf.symm]; exact FF.lst PG hf
      · rw [upd_ne (ne_of (FF.tup0 PG hb) hc4 (by intro z; cases z))]; exact FF.tup0 PG hb
    rintro σ G ⟨cs, s6, s7, rfl, hc, h0, hcs, lcs, hf, hb, PG, FG⟩
    refine ⟨_, rfl, c, cs, rfl, .inl (.inl hc), by omega, fun u cc nu hcc => ⟨u, _, cc, rfl, upd_same, by omega, fun ns o hs hm hln no => ?_⟩⟩
    have SS := (same_lay (o := SetO w u (fun j => decide (j ∈ cs)) cc) nu).trans (same_lay (o := .lst (ns.map V.int)) no)
    have ho4 : (upd (upd G u (SetO w u (fun j => decide (j ∈ cs)) cc)) o (.lst (ns.map V.int))) o = some (.lst (ns.map V.int)) := upd_same
    have hm' : ∀ z, z ∈ ns ↔ z ∈ cs := fun z => (hm z).trans decide_eq_true_iff
    have P4 := PG.same' SS
    have F4 := FG.trans (frmS SS)
    have hf4 := SS _ _ hf
    have hb4 := SS _ _ hb
    have nof : o ≠ fo := fun e => by
      rw [e] at no
      rw [(same_lay (o := SetO w u (fun j => decide (j ∈ cs)) cc) nu) _ _ hf] at no
      cases no
    generalize upd (upd G u (SetO w u (fun j => decide (j ∈ cs)) cc)) o (.lst (ns.map V.int)) = G2 at ho4 P4 F4 hf4 hb4
    clear SS nu no hb hf PG FG hc
    have h0' := (hm' 0).mpr h0
    have hns : ∀ z ∈ ns, 0 ≤ z ∧ z ≤ last := fun z hz => hcs z ((hm' z).mp hz)
    obtain ⟨rr, ers⟩ := asc_head hs h0' fun z hz => (hns z hz).1
    have lns : ns.length ≤ 6 := by omega
    have up0 : upTo ns last 0 = 0 := upTo_at (by rw [ers]; rfl)
    have Tl0 : Til ([] : List Pce) 0 (upTo ns last 0) := up0.symm
    let S : Addr → Option V → Option V → Option V → Option V → Option V → Option V → L2.St := fun b s6 s7 s8 s9 s10 s11 => [some (.ref p), some (.int last), some (.int near), some (.ref o), some (.ref fo), some (.ref b), s6, s7, s8, s9, s10, s11]
    let I2 : Nat → Hp → Addr → Prop := fun i G b => ∃ (L : List Pce) (fxs : List V) (r : LnR), G o = some (.lst (ns.map V.int)) ∧ G fo = some (.lst fxs) ∧ All2 (RwT G) fxs L ∧ Til L 0 (upTo ns last i) ∧ (∀ q ∈ L, Tq q) ∧ L.length = i ∧ G b = some (.tup [.int r.1, .int r.2]) ∧ Gw i r ∧ Pen G p (n + 19 + 10 * i) ∧ Frm p H G
    refine ⟨_, rfl, o, _, rfl, .inl (.inl (.inl ho4)), _, rfl, by rw [List.length_map]; omega, by rw [List.length_map]; omega, for_range (lo := 0) (n := (((ns.map V.int).length : Nat) : Int).toNat) (fun i σ G => ∃ b s6 s7 s8 s9 s10 s11, σ = S b s6 s7 s8 s9 s10 s11 ∧ I2 i G b) ⟨bt, _, _, _, _, _, _, rfl, [], [], (0, 0), ho4, hf4, .nil, Tl0, (fun _ z => nomatch z), rfl, hb4, ⟨by decide, by decide⟩, P4.mono (by omega), F4⟩ ?_ ?_⟩
    · rintro i σ G hi ⟨b, s6, s7, s8, s9, s10, s11, rfl, L, fxs, r, hO, hF, hR, hT, hq, hl, hb, hg, PG, FG⟩
      rw [List.length_map, Int.toNat_natCast] at hi
      have hai : ns[i]? = some ns[i] := by simp [hi]
      generalize ns[i] = a at hai
      have ma := hns a (List.mem_of_getElem? hai)
      have ua := upTo_at (last := last) hai
      have ati : atI (ns.map V.int) (0 + (i : Int)) = some (.int a) := by rw [Int.zero_add]; exact atI_nat (by rw [List.getElem?_map, hai]; rfl)
      refine ⟨fun σ G' => ∃ e : Int, σ = S b (some (.int (0 + (i : Int)))) s7 (some (.int e)) s9 s10 s11 ∧ G' = G ∧ upTo ns last (i + 1) = e + 1 ∧ a ≤ e ∧ e ≤ last, ?_, ?_⟩
      · refine ⟨_, rfl, _, _, rfl, rfl, _, rfl, o, _, rfl, .inl (.inl (.inl hO)), _, _, rfl, rfl, _, rfl, ?_⟩
        by_cases hj : i + 1 < ns.length
        · have haj : ns[i + 1]? = some ns[i + 1] := by simp [hj]
          generalize ns[i + 1] = a2 at haj
          have lt : a < a2 := by
            have := List.pairwise_iff_getElem.mp hs i (i + 1) hi hj (Nat.lt_succ_self i)
            rw [(List.getElem?_eq_some_iff.mp hai).2, (List.getElem?_eq_some_iff.mp haj).2] at this
            exact this
          have m2 := hns a2 (List.mem_of_getElem? haj)
          have atj : atI (ns.map V.int) (0 + (i : Int) + 1) = some (.int a2) := by
            rw [Int.zero_add, show (i : Int) + 1 = ((i + 1 : Nat) : Int) by omega]; exact atI_nat (by rw [List.getElem?_map, haj]; rfl)
          refine iteA (decide_eq_true (by rw [List.length_map]; omega)) ⟨_, rfl, _, rfl, _, _, rfl, rfl, o, _, _, _, rfl, rfl, .inl (.inl hO), atj, _, _, rfl, rfl, a2 - 1, rfl, rfl, ?_, by omega, by omega⟩
          rw [upTo_at haj]; omega
        · refine iteB (decide_eq_false (by rw [List.length_map]; omega)) ⟨_, rfl, last, rfl, rfl, ?_, by omega, Int.le_refl _⟩
          rw [show i + 1 = ns.length by omega, upTo_end]
      rintro σ G' ⟨e, rfl, rfl, ue, ae, el⟩
      have oi : (0 : Int) + (i : Int) = i := Int.zero_add _
      -- the slope
      refine ⟨_, rfl, _, rfl, _, rfl, _, _, rfl, rfl, pw9, by show 7 ≤ sizeLine; decide, fun l nl => ?_⟩
      refine ⟨p, l, [.int 0, .int 0, .int 1, .int (-1), .int 2, .int (-3), .int (10 ^ 9)], _, rfl, .inl (.inl upd_same), by show 0 < 7; decide, by show 7 ≤ 1000; decide, PG.new nl, by omega, fun v G1 hv P1 F1 => ?_⟩
      obtain ⟨sl, rfl, hsl⟩ : ∃ z, v = .int z ∧ z.natAbs ≤ 10 ^ 9 := by
        simp only [List.mem_cons, List.not_mem_nil, or_false] at hv
        rcases hv with e | e | e | e | e | e | e <;> exact ⟨_, e, by decide⟩
      have FA := (Frm.new nl).trans F1
      have hO1 := FA.lst PG hO
      have hb1 := FA.tup0 PG hb
      have kA := kp_frm FA PG
      -- the start
      have pa : Plc a := ⟨ma.1, by omega⟩
      refine ⟨_, rfl, _, rfl, _, rfl, o, _, _, _, rfl, rfl, .inl (.inl hO1), ati, b, r, a, rfl, hb1, cwWP ((hg.sm (by omega)).wd).1 pa.b1, ?_⟩
      refine ⟨_, rfl, _, rfl, _, rfl, p, _, rfl, P1, by omega, fun wz G2 w0 w1 P2 F2 => ⟨by show 7 ≤ sizeLine; decide, fun l2 nl2 => ?_⟩⟩
      refine ⟨p, l2, [.int 0, .int 0, .int 1, .int (-1), .int 2, .int 7, .int wz], _, rfl, .inl (.inl upd_same), by show 0 < 7; decide, by show 7 ≤ 1000; decide, P2.new nl2, by omega, fun v G3 hv2 P3 F3 => ?_⟩
      obtain ⟨ad, rfl, had⟩ : ∃ z, v = .int z ∧ z.natAbs ≤ 10 ^ 30 := by
        simp only [List.mem_cons, List.not_mem_nil, or_false] at hv2
        rcases hv2 with e | e | e | e | e | e | e
        · exact ⟨_, e, by decide⟩
        · exact ⟨_, e, by decide⟩
        · exact ⟨_, e, by decide⟩
        · exact ⟨_, e, by decide⟩
        · exact ⟨_, e, by decide⟩
        · exact ⟨_, e, by decide⟩
        · exact ⟨_, e, by omega⟩
      have FB := (FA.trans F2).trans ((Frm.new nl2).trans F3)
      have hO3 := FB.lst PG hO
      have hb3 := FB.tup0 PG hb
      have hF3 := FB.lst PG hF
      have kB := kp_frm FB PG
      have hR3 : All2 (RwT G3) fxs L := hR.imp fun _ _ h => h.kp kB
      have FG3 := FG.trans FB
      refine ⟨_, _, rfl, rfl, ?_⟩
      -- the line
      have vb : (lv r a).natAbs ≤ 10 ^ 39 + i * 10 ^ 41 := by
        unfold lv
        have h1 := abs_mul9 hg.1 pa
        have h2 := hg.2
        omega
      have mb := abs_mul9 hsl pa
      refine ⟨_, rfl, _, rfl, _, rfl, _, rfl, _, rfl, o, _, _, _, rfl, rfl, .inl (.inl hO3), ati, _, _, rfl, rfl, cwWP (Nat.lt_of_le_of_lt hsl (by decide)) pa.b1, _, _, rfl, rfl, by show 2 ≤ sizeLine; decide, fun t nt => ?_⟩
      have st := same_lay (o := .tup [.int sl, .int (lv r a + ad - sl * a)]) nt
      have g2 : Gw (i + 1) (sl, lv r a + ad - sl * a) := by
        refine ⟨hsl, ?_⟩
        have h1 : (lv r a + ad - sl * a).natAbs ≤ 10 ^ 39 + i * 10 ^ 41 + 10 ^ 30 + 10 ^ 39 := by omega
        have e1 : (10 : Nat) ^ 39 + 10 ^ 30 + 10 ^ 39 ≤ 10 ^ 41 := by decide
        show (lv r a + ad - sl * a).natAbs ≤ (i + 1) * 10 ^ 41
        rw [Nat.succ_mul]
        generalize (10 : Nat) ^ 41 = X at *
        generalize i * X = Y at *
        generalize (10 : Nat) ^ 39 = Z at *
        generalize (10 : Nat) ^ 30 = Z2 at *
        omega
      have ht : (upd G3 t (.tup [.int sl, .int (lv r a + ad - sl * a)])) t = some (.tup [.int sl, .int (lv r a + ad - sl * a)]) := upd_same
      have hO4 := st _ _ hO3
      have hb4' := st _ _ hb3
      have hF4 := st _ _ hF3
      have hR4 : All2 (RwT _) fxs L := hR3.imp fun _ _ h => h.kp (kp_same st)
      have P4' := P3.same' st
      have FG4 := FG3.trans (frmS st)
      show _
      generalize upd G3 t (.tup [.int sl, .int (lv r a + ad - sl * a)]) = G4 at ht hO4 hb4' hF4 hR4 P4' FG4
      -- which line
      refine ⟨_, rfl, _, rfl, _, rfl, _, rfl, _, rfl, by show 5 ≤ sizeLine; decide, fun l3 nl3 => ?_⟩
      refine ⟨p, l3, [.ref t, .ref t, .ref t, .ref b, .non], _, rfl, .inl (.inl upd_same), by show 0 < 5; decide, by show 5 ≤ 1000; decide, P4'.new nl3, by omega, fun v G5 hv3 P5 F5 => ?_⟩
      have FC := (Frm.new nl3).trans F5
      have hO5 := FC.lst P4' hO4
      have hb5 := FC.tup0 P4' hb4'
      have ht5 := FC.tup0 P4' ht
      have hF5 := FC.lst P4' hF4
      have kC := kp_frm FC P4'
      have hR5 : All2 (RwT G5) fxs L := hR4.imp fun _ _ h => h.kp kC
      have FG5 := FG4.trans FC
      clear hO4 hb4' ht hF4 hR4 hO3 hb3 hF3 hR3 hO1 hb1 hR hF hb hO
      obtain ⟨ln, hln, hsl2⟩ : ∃ ln : Option LnR, LnT G5 v ln ∧ ∀ r, ln = some r → Gw (i + 1) r := by
        simp only [List.mem_cons, List.not_mem_nil, or_false] at hv3
        rcases hv3 with e | e | e | e | e
        · exact ⟨some (sl, lv r a + ad - sl * a), ⟨t, e, ht5⟩, fun _ h => by cases h; exact g2⟩
        · exact ⟨some (sl, lv r a + ad - sl * a), ⟨t, e, ht5⟩, fun _ h => by cases h; exact g2⟩
        · exact ⟨some (sl, lv r a + ad - sl * a), ⟨t, e, ht5⟩, fun _ h => by cases h; exact g2⟩
        · exact ⟨some r, ⟨b, e, hb5⟩, fun _ h => by cases h; exact hg.up⟩
        · exact ⟨none, e, fun _ h => nomatch h⟩
      -- what goes on
      refine ⟨fun σ G' => ∃ (b2 : Addr) (r2 : LnR), σ = S b2 (some (.int (0 + (i : Int)))) s7 (some (.int e)) (some (.int sl)) (some (.int (lv r a + ad))) (some v) ∧ G' = G5 ∧ G5 b2 = some (.tup [.int r2.1, .int r2.2]) ∧ Gw (i + 1) r2, ?_, ?_⟩
      · refine ⟨_, rfl, _, rfl, ?_⟩
        cases ln with
        | none =>
          obtain rfl : v = .non := hln
          exact iteA (by simp) ⟨_, rfl, b, r, rfl, rfl, hb5, hg.up⟩
        | some r2 =>
          obtain ⟨y, rfl, hy⟩ := hln
          exact iteB (by simp) ⟨_, rfl, y, r2, rfl, rfl, hy, hsl2 r2 rfl⟩
      rintro σ G' ⟨b2, r2, rfl, rfl, hb6, hg6⟩
      refine ⟨_, rfl, .inl ⟨rfl, _, .inl (.inl hF5)⟩, _, rfl, _, rfl, o, _, _, _, rfl, rfl, .inl (.inl hO5), ati, _, rfl, _, rfl, by show 3 ≤ sizeLine; decide, fun tt nt2 => ?_⟩
      have s6' := same_lay (o := .tup [.int a, .int e, v]) nt2
      have lfx := hR5.length
      have hF6 := s6' _ _ hF5
      refine ⟨fo, _, _, rfl, rfl, hF6, small1000 (by omega), ?_⟩
      have kF := (kp_same s6').trans (kp_lst (u := .lst (fxs ++ [V.ref tt])) hF6)
      refine ⟨b2, _, _, _, _, _, _, rfl, L ++ [(a, e, ln)], fxs ++ [.ref tt], r2, ?_, upd_same, ?_, ?_, ?_, by rw [List.length_append, hl]; rfl, kF.tup hb6, hg6, ?_, ?_⟩
      · rw [upd_ne nof]; exact s6' _ _ hO5
      · exact (hR5.imp fun _ _ h => h.kp kF).append (.cons ⟨tt, v, rfl, (kp_lst hF6).tup upd_same, hln.kp kF⟩ .nil)
      · rw [ue]
        rw [ua] at hT
        exact hT.app ⟨rfl, ae, rfl⟩
      · intro q hq2
        rcases List.mem_append.mp hq2 with m | m
        · exact hq q m
        · rw [List.mem_singleton.mp m]
          exact ⟨pa, ⟨by simp only; omega, by simp only; omega⟩, fun r h => (hsl2 r h).sm (by omega)⟩
      · exact (hP.putNew (P5.same' s6') (FG5.trans (frmS s6')) nfc hF6).mono (by omega)
      · exact (FG5.trans (frmS s6')).putNew nfc hF6
    · rintro σ G ⟨b, s6, s7, s8, s9, s10, s11, rfl, L, fxs, r, hO, hF, hR, hT, hq, hl, hb, hg, PG, FG⟩
      rw [List.length_map, Int.toNat_natCast] at hT hl PG
      rw [upTo_end] at hT
      exact ⟨_, rfl, R fo fxs L G nfc hF hR hT hq (by omega) (PG.mono (by omega)) FG⟩
end
end OR

namespace OR
open PySem PySem.Spec PyProof.Rows L2
theorem Told.perm {n : Int} {T T' : Tld} (h : Told n T) (p : T'.Perm T) : Told n T' := ⟨(p.map _).nodup_iff.mpr h.nd, by rw [p.length_eq]; exact h.few, h.last, fun e he => h.ok e (p.mem_iff.mp he)⟩
theorem nodup_fst {α : Type} : ∀ {T : List (Str × α)} {e t : Str × α}, (T.map (·.1)).Nodup → e ∈ T → t ∈ T → e.1 = t.1 → e = t
  | [], _, _, _, h, _, _ => nomatch h
  | q :: T, e, t, nd, he, ht, eq => by
    rw [List.map_cons, List.nodup_cons] at nd
    rcases List.mem_cons.mp he with h1 | h1 <;> rcases List.mem_cons.mp ht with h2 | h2
    · rw [h1, h2]
    · exact absurd (List.mem_map.mpr ⟨t, h2, by rw [← eq, h1]⟩) nd.1
    · exact absurd (List.mem_map.mpr ⟨e, h1, by rw [eq, h2]⟩) nd.1
    · exact nodup_fst nd.2 h1 h2 eq
end OR

namespace OR
open PySem PySem.Spec PyProof.Rows L2
open TL (tl numL)
def wordS (s : Str) : Bool := decide (1 ≤ s.length) && (decide (s.length ≤ 8) && (tl s).all fun c => decide (c ∈ letters.cps.toList))
def wordB : V → Bool
  | .str s => wordS s
  | _ => false
theorem Word.wordS {s : Str} (h : Word s) : wordS s = true := by
  unfold OR.wordS
  rw [decide_eq_true h.pos, decide_eq_true h.len, Bool.true_and, Bool.true_and, List.all_eq_true]
  intro c hc
  have hz := h.az c hc
  exact decide_eq_true (az_in hz.1 hz.2)
def spIsWordV : Sp := fun vs H Q _ => ∃ v : V, vs = [v] ∧ PV v ∧ ∀ H', Same H H' → Q (.bl (wordB v)) H'
theorem tru_one (x : Nat) : decide ((1 : Int) ≤ ((x : Nat) : Int)) = decide (1 ≤ x) := by
  by_cases h : 1 ≤ x
  · rw [decide_eq_true h, decide_eq_true (by omega)]
  · rw [decide_eq_false h, decide_eq_false (by omega)]
theorem tru_eight (x : Nat) : decide (((x : Nat) : Int) ≤ (8 : Int)) = decide (x ≤ 8) := by
  by_cases h : x ≤ 8
  · rw [decide_eq_true h, decide_eq_true (by omega)]
  · rw [decide_eq_false h, decide_eq_false (by omega)]
section
variable {P : Program} {w : World} {K : PySem.W.Frag} {mg : Str → Option Value} {base : Heap} {ts tw : Addr}
theorem sc_iswordV : FnScope ["value", "letter"] ["value"] (defScope sIsWord) := ⟨rfl, rfl, rfl, by decide +kernel, rfl, by decide +kernel, by decide +kernel⟩
theorem ok_iswordV {f : Addr} {fd : FuncData} (F : Fun K "is_word" "is_word" sIsWord f fd) (T : WTxt K mg ts tw) : FnOk P w K mg base CX0 1 f fd ["value"] spIsWordV := by
  obtain ⟨t1, hl⟩ := T.let_
  obtain ⟨t2, hm⟩ := T.most
  refine F.ok sc_iswordV (fun vs H Q E h => ?_) (fun cdv A outer s H vs Q E hr h => ?_)
  · obtain ⟨v, rfl, _⟩ := h
    rfl
  · obtain ⟨v, rfl, hv, q⟩ := h
    have nd := sc_iswordV.nd
    refine ⟨_, pss_cons (ps_if (PW.pt (pw_or (pt_not (pt_val (pe_callB call_isi (by rfl) T.zIsi bt_isi (pa_cons (pv 0) (pa_cons (pe_bltn (v := .ty "str") (by rfl) T.zStr boot_strT rfl) pa_nil)))))
          (pw_or1 (pt_not (pt_chain op_le op_le pe_int (pe_callB call_len_str (by rfl) T.zLen PySem.boot_len (pa_cons (pv 0) pa_nil)) (pe_glob (v := .int 8) (by rfl) hm ⟨_, rfl⟩)))))) (pss_one (ps_ret pe_bl)) pss_nil)
      (pss_one (ps_ret (pe_callB (cr_all rfl) (by rfl) T.zAll bt_all (pa_cons
        (pe_lc (own := [("letter", 1)]) (g := gName 1) (tt := tYes) rfl nd (pi_str (pv 0)) (blkOk_by (N := ["value", "letter"]) (sc := defScope sIsWord) (by decide +kernel))
          (fun _ _ _ _ _ => pg_name (i := 1) nd rfl (.inl rfl)) (fun _ _ _ _ _ => pts_nil) (fun _ _ _ _ _ => pe_cmpR op_in_sign (pv 1) (pe_glob (v := .str letters) (by rfl) hl ⟨_, rfl⟩) (by rfl))) pa_nil)))), ?_⟩
    have q0 := q H (Same.refl _)
    rcases pv_cases hv with ⟨x, rfl, hx, _⟩ | ⟨i, rfl⟩ | rfl | ⟨b, rfl⟩
    · refine ⟨_, rfl, _, .ty "str", _, _, true, rfl, .ty "str", .base (.str _), kit_ty (by decide +kernel), _, rfl, iteF ?_⟩
      refine ⟨_, rfl, x, rfl, sz1 (by omega), _, _, rfl, rfl, _, rfl, ?_⟩
      have ew : wordB (.str x) = wordS x := rfl
      rw [ew] at q0
      rw [tru_one]
      by_cases h1 : 1 ≤ x.length
      · refine iteA (decide_eq_true h1) ⟨_, _, rfl, rfl, _, rfl, ?_⟩
        rw [tru_eight]
        by_cases h8 : x.length ≤ 8
        · rw [decide_eq_true h8]
          refine iteF ?_
          refine ⟨_, rfl, x, rfl, fun D hD => lc_str (x := x) (fun i G => G D = some (.lst ((((tl x).take i).map fun c => decide (c ∈ letters.cps.toList)).map V.bl)) ∧ Same H G) ⟨upd_same, same_lay hD⟩ ?_ ?_⟩
          · rintro i c G hc ⟨hd, s⟩
            have hi : i < x.length := by
              have := (List.getElem?_eq_some_iff.mp hc).1
              rw [TL.len_tl]
              exact this
            refine ⟨rfl, yesT ?_⟩
            refine ⟨_, rfl, c, letters, rfl, rfl, _, hd, small1000 (by rw [List.length_map, List.length_map, List.length_take]; omega), ?_, same_upd s hD⟩
            obtain ⟨hi2, ec⟩ := List.getElem?_eq_some_iff.mp hc
            rw [upd_same, List.take_succ_eq_append_getElem hi2, ec, List.map_append, List.map_append]
            rfl
          · rintro G ⟨hd, s⟩
            refine ⟨D, _, rfl, .inl (.inl hd), ?_⟩
            have e : (((tl x).take x.length).map fun c => decide (c ∈ letters.cps.toList)).all id = wordS x := by
              unfold wordS
              rw [decide_eq_true h1, decide_eq_true h8, Bool.true_and, Bool.true_and, List.all_map, List.take_of_length_le (by rw [← TL.len_tl]; exact Nat.le_refl _)]
              rfl
            rw [e, ← ew]
            exact q G s
        · rw [decide_eq_false h8]
          have e : wordS x = false := by unfold wordS; rw [decide_eq_false h8]; simp
          rw [e] at q0
          exact iteT q0
      · have e : wordS x = false := by unfold wordS; rw [decide_eq_false h1]; simp
        rw [e] at q0
        exact iteB (decide_eq_false h1) ⟨_, rfl, iteT q0⟩
    · exact ⟨_, rfl, _, .ty "str", _, _, false, rfl, .ty "str", .base (.int _), kit_ty (by decide +kernel), _, rfl, iteT q0⟩
    · exact ⟨_, rfl, _, .ty "str", _, _, false, rfl, .ty "str", .base .non, kit_ty (by decide +kernel), _, rfl, iteT q0⟩
    · exact ⟨_, rfl, _, .ty "str", _, _, false, rfl, .ty "str", .base (.bl _), kit_ty (by decide +kernel), _, rfl, iteT q0⟩
theorem scErBw : FnScope ["self", "word"] ["self", "word"] (defScope sBadWordInit) := ⟨rfl, rfl, rfl, by decide +kernel, rfl, by decide +kernel, by decide +kernel⟩
theorem ok_erBw {f CB CR fI : Addr} {fd : FuncData} (F : Fun K "__init__" "BadWord.__init__" sBadWordInit f fd) (T : ErT K mg "BadWord" "word" CB CR fI) : FnOk P w K mg base CX0 1 f fd ["self", "word"] (spErI CB "word") := by
  refine F.ok scErBw (fun vs H Q E h => ?_) (fun cdv A outer s H vs Q E hr h => ?_)
  · obtain ⟨a, v, rfl, _⟩ := h
    rfl
  · obtain ⟨a, v, rfl, ha, q⟩ := h
    refine ⟨_, pss_one (ps_ost (pv 0) (pv 1)), ?_⟩
    exact ⟨_, rfl, _, rfl, a, CB, rfl, T.ox, T.noI, .inl ⟨ha, q⟩⟩
def spChkWX (CW : Addr) : Sp := fun vs H Q E => ∃ v : V, vs = [v] ∧ PV v ∧ (wordB v = true → ∀ H', Same H H' → Q .non H') ∧ (wordB v = false → Raised E CW "word" v H)
theorem ok_chkwX {f CW CR : Addr} {fd : FuncData} (F : Fun K "check_word" "check_word" sChkW f fd) (EK : ErK P w K mg base "BadWord" "word" CW CR) (IW : Cl P w K mg base 1 "is_word" ["value"] spIsWordV) : FnOk P w K mg base (L2.CX P w) 3 f fd ["value"] (spChkWX CW) := by
  obtain ⟨fI, fdI, T, FN, bN⟩ := EK.ex
  refine F.okX scKW (fun vs H Q E h => ?_) (fun cdv A outer s H vs Q E hr h => ?_)
  · obtain ⟨v, rfl, _⟩ := h
    rfl
  · obtain ⟨v, rfl, hv, qy, qn⟩ := h
    have room : Room (1 + 1) _ := hr.mono (by decide)
    refine ⟨_, pss_one (ps_if (pt_not (pt_val (pe_cl IW hr (by decide) (by rfl) (pa_cons (pv 0) pa_nil)))) (pss_one (ps_raise rfl (takes_of rfl rfl rfl rfl) (pmk_oex T.ox T.iC T.tI FN room bN .nil pass0 (by rfl) T.gB (pa_cons (pv 0) pa_nil)))) pss_nil), ?_⟩
    refine ⟨_, rfl, v, rfl, hv, fun H' s => ⟨_, rfl, ?_⟩⟩
    cases hw : wordB v with
    | true => exact iteF (qy hw H' s)
    | false => exact iteT ⟨_, rfl, raise_any ((qn hw).up s)⟩
/-! ### BadPieces: an own error with two fields -/
structure ErT2 (K : PySem.W.Frag) (mg : Str → Option Value) (x f1 f2 : Str) (CB CR fI : Addr) : Prop where
  gB : mg x = some (.ref CB)
  gR : mg "RangesError" = some (.ref CR)
  zV : mg "ValueError" = none
  ox : OexC K CB
  xf : XfC K CB
  xc : ExcC K CB
  no1 : PySem.W.findIn K (.ref CB) f1 = some none
  no2 : PySem.W.findIn K (.ref CB) f2 = some none
  iC : PySem.W.findIn K (.ref CB) "__init__" = some (some (.ref fI))
  tI : PySem.W.typeIn K (.ref fI) = some (.type "function")
  self : PySem.W.exmOne K (.ref CB) (.ref CB) = some true
  kR : PySem.W.kitOne K (.ref CB) (.ref CR) = some true
  kV : PySem.W.kitOne K (.ref CB) (.type "ValueError") = some true
def spErI2 (CB : Addr) (f1 f2 : Str) : Sp := fun vs H Q _ => ∃ (a : Addr) (v u : V), vs = [.ref a, v, u] ∧ H a = some (exo a CB none) ∧ ∀ dx, H dx = none → dx ≠ a → Q .non (upd (upd (upd H dx (exd dx [(f1, v)])) a (exo a CB (some dx))) dx (exd dx [(f2, u), (f1, v)]))
def Raised2 (E : XK) (CB : Addr) (f1 f2 : Str) (v u : V) (H : Hp) : Prop := ∀ (d : Addr) (H' : Hp), H d = none → H' d = some (.xd [(f2, u), (f1, v)]) → Same H H' → E (.ref CB) (some d) H'
theorem Raised2.up {E : XK} {CB : Addr} {f1 f2 : Str} {v u : V} {H H' : Hp} (h : Raised2 E CB f1 f2 v u H) (s : Same H H') : Raised2 E CB f1 f2 v u H' := fun d G nd hd s2 => h d G (s.free nd) hd (s.trans s2)
theorem raise_any2 {E : XK} {H : Hp} {CB : Addr} {f1 f2 : Str} {v u : V} (q : Raised2 E CB f1 f2 v u H) : [v, u].length ≤ 1000 ∧ ∀ a, H a = none → spErI2 CB f1 f2 (.ref a :: ([v, u] ++ [])) (upd H a (exo a CB none))
    (fun r H2 => r = .non ∧ ∃ (d : Addr) (fs : List (Str × V)), H2 a = some (exo a CB (some d)) ∧ H2 d = some (exd d fs) ∧ H d = none ∧ E (.ref CB) (some d) (upd (del H2 a) d (.xd fs))) (fun _ _ _ => False) := by
  refine ⟨by show 2 ≤ 1000; decide, fun a na => ⟨a, _, _, rfl, upd_same, fun d nd1 ne1 => ?_⟩⟩
  rw [upd_ne ne1] at nd1
  refine ⟨rfl, d, [(f2, u), (f1, v)], by rw [upd_ne ne1.symm]; exact upd_same, upd_same, nd1, q d _ nd1 upd_same fun c o e => ?_⟩
  have nca : c ≠ a := ne_of_none e na
  have ncd : c ≠ d := ne_of_none e nd1
  rw [upd_ne ncd, del_ne nca, upd_ne ncd, upd_ne nca, upd_ne ncd, upd_ne nca]
  exact e
structure ErK2 (P : Program) (w : World) (K : PySem.W.Frag) (mg : Str → Option Value) (base : Heap) (x f1 f2 : Str) (CB CR : Addr) : Prop where
  ex : ∃ (fI : Addr) (fd : FuncData), ErT2 K mg x f1 f2 CB CR fI ∧ FnOk P w K mg base CX0 1 fI fd ["self", f1, f2] (spErI2 CB f1 f2) ∧ Binds K fd ["self", f1, f2] []
theorem scErBp : FnScope ["self", "function", "index"] ["self", "function", "index"] (defScope sBadPiecesInit) := ⟨rfl, rfl, rfl, by decide +kernel, rfl, by decide +kernel, by decide +kernel⟩
theorem ok_erBp {f CB CR fI : Addr} {fd : FuncData} (F : Fun K "__init__" "BadPieces.__init__" sBadPiecesInit f fd) (T : ErT2 K mg "BadPieces" "function" "index" CB CR fI) : FnOk P w K mg base CX0 1 f fd ["self", "function", "index"] (spErI2 CB "function" "index") := by
  refine F.ok scErBp (fun vs H Q E h => ?_) (fun cdv A outer s H vs Q E hr h => ?_)
  · obtain ⟨a, v, u, rfl, _⟩ := h
    rfl
  · obtain ⟨a, v, u, rfl, ha, q⟩ := h
    refine ⟨_, pss_cons (ps_ost (pv 0) (pv 1)) (pss_one (ps_ost (pv 0) (pv 2))), ?_⟩
    exact ⟨_, rfl, _, rfl, a, CB, rfl, T.ox, T.no1, .inl ⟨ha, fun dx ndx nex => ⟨_, rfl, _, rfl, a, CB, rfl, T.ox, T.no2, .inr ⟨dx, [("function", v)], upd_same, by rw [upd_ne nex]; exact upd_same, by show 1 ≤ 900; decide, q dx ndx nex⟩⟩⟩⟩
end
end OR

namespace OR
open PySem PySem.Spec PyProof.Rows L2
/-! ### pieces that are wrong -/
def NotPl : V → Prop
  | .int i => placeB i = false
  | .str _ => True
  | .bl _ => True
  | .non => True
  | _ => False
def NotLn (H : Hp) : V → Prop
  | .int _ => True
  | .bl _ => True
  | .str _ => True
  | .ref t => ∃ xs, H t = some (.tup xs)
  | _ => False
/-- what stands where a piece from b on should stand, n the last place -/
inductive Spoil (CL : Addr) (H : Hp) (n b : Int) : V → Prop
  | non : Spoil CL H n b .non
  | str (s : Str) : Spoil CL H n b (.str s)
  | dic {d : Addr} : H d = some (.dK []) → Spoil CL H n b (.ref d)
  | len {t : Addr} {xs : List V} : (H t = some (.tup xs) ∨ H t = some (.lst xs)) → xs.length ≠ 3 → xs.length ≤ 1000 → Spoil CL H n b (.ref t)
  | fst {t : Addr} {x y z : V} : (H t = some (.tup [x, y, z]) ∨ H t = some (.lst [x, y, z])) → NotPl x → Spoil CL H n b (.ref t)
  | snd {t : Addr} {i : Int} {y z : V} : (H t = some (.tup [.int i, y, z]) ∨ H t = some (.lst [.int i, y, z])) → placeB i = true → NotPl y → Spoil CL H n b (.ref t)
  | trd {t : Addr} {i j : Int} {z : V} : (H t = some (.tup [.int i, .int j, z]) ∨ H t = some (.lst [.int i, .int j, z])) → placeB i = true → placeB j = true → NotLn H z → Spoil CL H n b (.ref t)
  | off {t : Addr} {i j : Int} {z : V} {l : Option LnR} : (H t = some (.tup [.int i, .int j, z]) ∨ H t = some (.lst [.int i, .int j, z])) → placeB i = true → placeB j = true → LnAt CL H z l → ¬ (i = b ∧ b ≤ j ∧ j ≤ n) → Spoil CL H n b (.ref t)
theorem NotLn.kp {H H' : Hp} {z : V} (h : NotLn H z) (k : KP H H') : NotLn H' z := by
  cases z with
  | ref t => obtain ⟨xs, e⟩ := h; exact ⟨xs, k.tup e⟩
  | _ => exact h
theorem or_kp {H H' : Hp} {t : Addr} {xs : List V} (h : H t = some (.tup xs) ∨ H t = some (.lst xs)) (k : KP H H') (k2 : ∀ a ys, H a = some (.lst ys) → H' a = some (.lst ys)) : H' t = some (.tup xs) ∨ H' t = some (.lst xs) := h.imp k.tup (k2 _ _)
theorem Spoil.mv {CL : Addr} {H H' : Hp} {n b : Int} {v : V} (h : Spoil CL H n b v) (k : KP H H') (k2 : ∀ a ys, H a = some (.lst ys) → H' a = some (.lst ys)) (k3 : ∀ d, H d = some (.dK []) → H' d = some (.dK [])) : Spoil CL H' n b v := by
  cases h with
  | non => exact .non
  | str s => exact .str s
  | dic e => exact .dic (k3 _ e)
  | len e h h2 => exact .len (or_kp e k k2) h h2
  | fst e h => exact .fst (or_kp e k k2) h
  | snd e h h2 => exact .snd (or_kp e k k2) h h2
  | trd e h h2 h3 => exact .trd (or_kp e k k2) h h2 (h3.kp k)
  | off e h h2 h3 h4 => exact .off (or_kp e k k2) h h2 (h3.kp k) h4
theorem Spoil.same {CL : Addr} {H H' : Hp} {n b : Int} {v : V} (h : Spoil CL H n b v) (s : Same H H') : Spoil CL H' n b v := h.mv (kp_same s) (fun _ _ e => s _ _ e) (fun _ e => s _ _ e)
def spIsPcX (CL : Addr) : Sp := fun vs H Q _ => ∃ v, vs = [v] ∧ ((∃ q, PcA CL H v q ∧ Plc q.1 ∧ Plc q.2.1 ∧ ∀ H', Same H H' → Q (.bl true) H') ∨
  ∃ n b, Spoil CL H n b v ∧ (∀ H', Same H H' → Q (.bl false) H') ∧ ∀ t i j z, v = .ref t → (H t = some (.tup [.int i, .int j, z]) ∨ H t = some (.lst [.int i, .int j, z])) → ¬ (i = b ∧ b ≤ j ∧ j ≤ n) → ∀ H', Same H H' → Q (.bl true) H')
section
variable {P : Program} {w : World} {K : PySem.W.Frag} {mg : Str → Option Value} {base : Heap} {CL CG ts tw : Addr}
theorem ty_notpl {H : Hp} {v : V} (h : NotPl v) : (∃ n, v = .int n ∧ placeB n = false) ∨ ∃ (T : String) (b1 b2 : Bool), TyX K H v (.type T) ∧ kitB T "int" = some b1 ∧ kitB T "bool" = some b2 ∧ (b1 && !b2) = false := by
  cases v with
  | int i => exact .inl ⟨i, rfl, h⟩
  | str s => exact .inr ⟨"str", false, false, .base (.str _), by decide +kernel, by decide +kernel, rfl⟩
  | bl c => exact .inr ⟨"bool", true, true, .base (.bl _), by decide +kernel, by decide +kernel, rfl⟩
  | non => exact .inr ⟨"NoneType", false, false, .base .non, by decide +kernel, by decide +kernel, rfl⟩
  | _ => exact False.elim h
/-- the classes that are no lines -/
structure NoLn (K : PySem.W.Frag) (CL : Addr) : Prop where
  i : PySem.W.kitOne K (.type "int") (.ref CL) = some false
  b : PySem.W.kitOne K (.type "bool") (.ref CL) = some false
  s : PySem.W.kitOne K (.type "str") (.ref CL) = some false
  t : PySem.W.kitOne K (.type "tuple") (.ref CL) = some false
theorem ty_notln {H : Hp} {v : V} (N : NoLn K CL) (h : NotLn H v) : v ≠ .non ∧ ∃ T, TyX K H v (.type T) ∧ PySem.W.kitOne K (.type T) (.ref CL) = some false := by
  cases v with
  | int i => exact ⟨(fun z => nomatch z), "int", .base (.int _), N.i⟩
  | str s => exact ⟨(fun z => nomatch z), "str", .base (.str _), N.s⟩
  | bl c => exact ⟨(fun z => nomatch z), "bool", .base (.bl _), N.b⟩
  | ref t => obtain ⟨xs, e⟩ := h; exact ⟨(fun z => nomatch z), "tuple", .base (.tup e), N.t⟩
  | _ => exact False.elim h
theorem ok_ispcX {f : Addr} {fd : FuncData} (F : Fun K "_is_piece" "_is_piece" pIsPiece f fd) (N : NTxt mg) (T : LTxt K mg CL) (NL : NoLn K CL) (DP : Cl P w K mg base 2 "is_place" ["value"] (spIsPlace K)) : FnOk P w K mg base CX0 3 f fd ["value"] (spIsPcX CL) := by
  refine F.ok scIsPc (fun vs H Q E h => ?_) (fun cdv A outer s H vs Q E hr h => ?_)
  · obtain ⟨v, rfl, _⟩ := h
    rfl
  · obtain ⟨v, rfl, hv⟩ := h
    have nd := scIsPc.nd
    refine ⟨_, pss_cons (ps_if (PW.pt (pw_or (pt_not (pt_val (pe_callB call_isiT (by rfl) N.zIsi bt_isi (pa_cons (pv 0) (pa_cons (pe_tup (pa_cons (pe_bltn (v := .ty "tuple") (by rfl) N.zTup bt_tup rfl) (pa_cons (pe_bltn (v := .ty "list") (by rfl) N.zList bt_list rfl) pa_nil))) pa_nil))))) (pw_or1 (pt_cmpR op_ne (pe_callB call_len_seq (by rfl) N.zLen PySem.boot_len (pa_cons (pv 0) pa_nil)) pe_int (nomark _)))))
          (pss_one (ps_ret pe_bl))
          pss_nil)
      (pss_cons (ps_asg (pv 0) (pg_orD (pg_tup rfl (pgs_cons (pg_name (i := 1) nd rfl (.inl rfl)) (pgs_cons (pg_name (i := 2) nd rfl (.inl rfl)) (pgs_cons (pg_name (i := 3) nd rfl (.inl rfl)) pgs_nil)))) (pg_unl rfl (pgs_cons (pg_name (i := 1) nd rfl (.inl rfl)) (pgs_cons (pg_name (i := 2) nd rfl (.inl rfl)) (pgs_cons (pg_name (i := 3) nd rfl (.inl rfl)) pgs_nil))))))
      (pss_one (ps_ret (pe_and (pe_cl DP hr (by decide) (by rfl) (pa_cons (pv 1) pa_nil)) (pe_and (pe_cl DP hr (by decide) (by rfl) (pa_cons (pv 2) pa_nil)) (pe_one (pe_or (pe_cmp (pc_isN (pv 3))) (pe_one (pe_callB call_isi (by rfl) N.zIsi bt_isi (pa_cons (pv 3) (pa_cons (pe_glob (v := .ref CL) (by rfl) T.mgC rfl) pa_nil))))))))))), ?_⟩
    refine ⟨_, rfl, by show 2 ≤ sizeLine; decide, fun t ht => ?_⟩
    have s1 := same_lay (o := .tup [.ty "tuple", .ty "list"]) ht
    have hT0 : (upd H t (.tup [.ty "tuple", .ty "list"])) t = some (.tup [.ty "tuple", .ty "list"]) := upd_same
    generalize upd H t (.tup [.ty "tuple", .ty "list"]) = G at s1 hT0
    have seqs : ∀ tp xs, (G tp = some (.tup xs) ∨ G tp = some (.lst xs)) → (∃ T, TyX K G (.ref tp) (.type T) ∧ PySem.W.kitAny K (.type T) [.type "tuple", .type "list"] = some true) ∧ (SqL K G tp xs ∨ SqT K G tp xs) := fun tp xs hpt => by
      refine ⟨?_, hpt.elim (fun e => .inr (.inl (.inl e))) fun e => .inl (.inl (.inl e))⟩
      rcases hpt with e | e
      · exact ⟨"tuple", .base (.tup e), kitAny_cons (kit_ty (b := "tuple") (r := true) (by decide +kernel)) (fun z => nomatch z) fun _ => rfl⟩
      · exact ⟨"list", .base (.lst e), kitAny_cons (kit_ty (b := "tuple") (r := false) (by decide +kernel)) (fun _ => kitAny_cons (kit_ty (b := "list") (r := true) (by decide +kernel)) (fun z => nomatch z) fun _ => rfl) fun z => nomatch z⟩
    have kA : ∀ ty : String, kitB ty "tuple" = some false → kitB ty "list" = some false → PySem.W.kitAny K (.type ty) [.type "tuple", .type "list"] = some false := fun ty h1 h2 => kitAny_cons (kit_ty h1) (fun _ => kitAny_cons (kit_ty h2) (fun _ => rfl) fun z => nomatch z) fun z => nomatch z
    rcases hv with ⟨q, hpc, p1, p2, R⟩ | ⟨n, b, sp, R0, R1⟩
    · obtain ⟨tp, u, rfl, hpt, hl⟩ := hpc.same s1
      obtain ⟨⟨ty, hT, hk⟩, hseq⟩ := seqs tp _ hpt
      have q1 := fun (H' : Hp) (z : Same G H') => R H' (s1.trans z)
      refine ⟨.ref tp, t, _, .type ty, [.type "tuple", .type "list"], true, rfl, hT0, .cons (.ty "tuple") (.cons (.ty "list") .nil), hT, hk, true, rfl, iteF ?_⟩
      refine ⟨_, rfl, tp, _, rfl, hseq, rfl, _, rfl, iteNS rfl ?_⟩
      refine ⟨_, rfl, unp3 hpt ?_⟩
      refine ⟨_, rfl, .int q.1, rfl, .inl ⟨q.1, rfl, _, rfl, ?_⟩⟩
      rw [plc_place p1]
      refine iteT ⟨_, rfl, .int q.2.1, rfl, .inl ⟨q.2.1, rfl, _, rfl, ?_⟩⟩
      rw [plc_place p2]
      refine iteT ?_
      cases hq : q.2.2 with
      | none =>
        rw [hq] at hl
        obtain rfl : u = .non := hl
        refine ⟨_, rfl, _, rfl, iteA (by simp) ?_⟩
        exact q1 G (Same.refl _)
      | some r =>
        rw [hq] at hl
        obtain ⟨y, rfl, dy, hy⟩ := hl
        refine ⟨_, rfl, _, rfl, iteB (by simp) ?_⟩
        exact ⟨_, rfl, .ref y, .ref CL, _, _, true, rfl, .own CL, tyL T hy, T.kLL, q1 G (Same.refl _)⟩
    have qn := R0 G s1
    have sp' := sp.same s1
    cases sp with
    | non => exact ⟨.non, t, _, .type "NoneType", [.type "tuple", .type "list"], false, rfl, hT0, .cons (.ty "tuple") (.cons (.ty "list") .nil), .base .non, kA _ (by decide +kernel) (by decide +kernel), false, rfl, iteT qn⟩
    | str s => exact ⟨.str s, t, _, .type "str", [.type "tuple", .type "list"], false, rfl, hT0, .cons (.ty "tuple") (.cons (.ty "list") .nil), .base (.str _), kA _ (by decide +kernel) (by decide +kernel), false, rfl, iteT qn⟩
    | dic e => exact ⟨_, t, _, .type "dict", [.type "tuple", .type "list"], false, rfl, hT0, .cons (.ty "tuple") (.cons (.ty "list") .nil), .base (.dK (s1 _ _ e)), kA _ (by decide +kernel) (by decide +kernel), false, rfl, iteT qn⟩
    | @len tp xs e h h2 =>
      obtain ⟨⟨ty, hT, hk⟩, hseq⟩ := seqs tp _ (e.imp (fun z => s1 _ _ z) (fun z => s1 _ _ z))
      refine ⟨.ref tp, t, _, .type ty, [.type "tuple", .type "list"], true, rfl, hT0, .cons (.ty "tuple") (.cons (.ty "list") .nil), hT, hk, true, rfl, iteF ?_⟩
      exact ⟨_, rfl, tp, _, rfl, hseq, rfl, _, rfl, iteA (by rw [decide_eq_false (fun z => h (by injection z with z; omega))]; rfl) qn⟩
    | @fst tp x y z e h =>
      have e := e.imp (fun z => s1 _ _ z) (fun z => s1 _ _ z)
      obtain ⟨⟨ty, hT, hk⟩, hseq⟩ := seqs tp _ e
      refine ⟨.ref tp, t, _, .type ty, [.type "tuple", .type "list"], true, rfl, hT0, .cons (.ty "tuple") (.cons (.ty "list") .nil), hT, hk, true, rfl, iteF ?_⟩
      refine ⟨_, rfl, tp, _, rfl, hseq, rfl, _, rfl, iteNS rfl ?_⟩
      refine ⟨_, rfl, unp3 e ?_⟩
      refine ⟨_, rfl, x, rfl, ?_⟩
      rcases ty_notpl (K := K) (H := G) h with ⟨n, rfl, hn⟩ | ⟨T, b1, b2, k1, k2, k3, k4⟩
      · exact .inl ⟨n, rfl, by rw [hn]; exact ⟨_, rfl, iteF qn⟩⟩
      · exact .inr ⟨T, b1, b2, k1, k2, k3, k4, ⟨_, rfl, iteF qn⟩⟩
    | @snd tp i y z e h1 h =>
      have e := e.imp (fun z => s1 _ _ z) (fun z => s1 _ _ z)
      obtain ⟨⟨ty, hT, hk⟩, hseq⟩ := seqs tp _ e
      refine ⟨.ref tp, t, _, .type ty, [.type "tuple", .type "list"], true, rfl, hT0, .cons (.ty "tuple") (.cons (.ty "list") .nil), hT, hk, true, rfl, iteF ?_⟩
      refine ⟨_, rfl, tp, _, rfl, hseq, rfl, _, rfl, iteNS rfl ?_⟩
      refine ⟨_, rfl, unp3 e ?_⟩
      refine ⟨_, rfl, .int i, rfl, .inl ⟨i, rfl, _, rfl, ?_⟩⟩
      rw [h1]
      refine iteT ⟨_, rfl, y, rfl, ?_⟩
      rcases ty_notpl (K := K) (H := G) h with ⟨n, rfl, hn⟩ | ⟨T, b1, b2, k1, k2, k3, k4⟩
      · exact .inl ⟨n, rfl, by rw [hn]; exact ⟨_, rfl, iteF qn⟩⟩
      · exact .inr ⟨T, b1, b2, k1, k2, k3, k4, ⟨_, rfl, iteF qn⟩⟩
    | @trd tp i j z e h1 h2 h =>
      have e := e.imp (fun z => s1 _ _ z) (fun z => s1 _ _ z)
      obtain ⟨⟨ty, hT, hk⟩, hseq⟩ := seqs tp _ e
      obtain ⟨nz, T3, hT3, hk3⟩ := ty_notln NL (h.kp (kp_same s1))
      refine ⟨.ref tp, t, _, .type ty, [.type "tuple", .type "list"], true, rfl, hT0, .cons (.ty "tuple") (.cons (.ty "list") .nil), hT, hk, true, rfl, iteF ?_⟩
      refine ⟨_, rfl, tp, _, rfl, hseq, rfl, _, rfl, iteNS rfl ?_⟩
      refine ⟨_, rfl, unp3 e ?_⟩
      refine ⟨_, rfl, .int i, rfl, .inl ⟨i, rfl, _, rfl, ?_⟩⟩
      rw [h1]
      refine iteT ⟨_, rfl, .int j, rfl, .inl ⟨j, rfl, _, rfl, ?_⟩⟩
      rw [h2]
      refine iteT ⟨_, rfl, _, rfl, iteB (decide_eq_false nz) ?_⟩
      exact ⟨_, rfl, z, .ref CL, _, _, false, rfl, .own CL, hT3, hk3, qn⟩
    | @off tp i j z l e h1 h2 hl h =>
      have q1 := R1 tp i j z rfl e h G s1
      have e := e.imp (fun z => s1 _ _ z) (fun z => s1 _ _ z)
      obtain ⟨⟨ty, hT, hk⟩, hseq⟩ := seqs tp _ e
      refine ⟨.ref tp, t, _, .type ty, [.type "tuple", .type "list"], true, rfl, hT0, .cons (.ty "tuple") (.cons (.ty "list") .nil), hT, hk, true, rfl, iteF ?_⟩
      refine ⟨_, rfl, tp, _, rfl, hseq, rfl, _, rfl, iteNS rfl ?_⟩
      refine ⟨_, rfl, unp3 e ?_⟩
      refine ⟨_, rfl, .int i, rfl, .inl ⟨i, rfl, _, rfl, ?_⟩⟩
      rw [h1]
      refine iteT ⟨_, rfl, .int j, rfl, .inl ⟨j, rfl, _, rfl, ?_⟩⟩
      rw [h2]
      refine iteT ?_
      have hl := hl.same s1
      cases l with
      | none =>
        obtain rfl : z = .non := hl
        exact ⟨_, rfl, _, rfl, iteA (by simp) q1⟩
      | some r =>
        obtain ⟨y, rfl, dy, hy⟩ := hl
        exact ⟨_, rfl, _, rfl, iteB (by simp) ⟨_, rfl, .ref y, .ref CL, _, _, true, rfl, .own CL, tyL T hy, T.kLL, q1⟩⟩
end
end OR

namespace OR
open PySem PySem.Spec PyProof.Rows L2
def PcsG (K : PySem.W.Frag) (CL : Addr) (H : Hp) (n : Int) (v : V) : Prop := ∃ z xs L, v = .ref z ∧ SqA K H z xs ∧ All2 (PcA CL H) xs L ∧ Til L 0 (n + 1) ∧ ∀ q ∈ L, Bq q
def PcsB (K : PySem.W.Frag) (CL : Addr) (H : Hp) (n : Int) (v : V) (m : Nat) : Prop := ∃ z xs L b, v = .ref z ∧ SqA K H z xs ∧ L.length = m ∧ m ≤ xs.length ∧ All2 (PcA CL H) (xs.take m) L ∧ Til L 0 b ∧ (∀ q ∈ L, Bq q) ∧ (∀ q ∈ L, q.2.1 ≤ n) ∧ ((∃ y, xs[m]? = some y ∧ Spoil CL H n b y) ∨ (m = xs.length ∧ b ≤ n))
def spChkPcsX (K : PySem.W.Frag) (CL CB : Addr) : Sp := fun vs H Q E => ∃ (x : Str) (v : V) (n : Int), vs = [.str x, v, .int n] ∧ ((PcsG K CL H n v ∧ ∀ H', Same H H' → Q .non H') ∨ ∃ m : Nat, PcsB K CL H n v m ∧ Raised2 E CB "function" "index" (.str x) (.int m) H)
section
variable {P : Program} {w : World} {K : PySem.W.Frag} {mg : Str → Option Value} {base : Heap} {CL CG CB CR ts tw : Addr}
set_option maxHeartbeats 1000000 in
theorem ok_chkpcsX {f : Addr} {fd : FuncData} (F : Fun K "_check_pieces" "_check_pieces" pCheckPieces f fd) (N : NTxt mg) (EB : ErK2 P w K mg base "BadPieces" "function" "index" CB CR) (IP : Cl P w K mg base 3 "_is_piece" ["value"] (spIsPcX CL)) : FnOk P w K mg base (L2.CX P w) 4 f fd ["function", "pieces", "last"] (spChkPcsX K CL CB) := by
  obtain ⟨fI, fdI, T, FN, bN⟩ := EB.ex
  refine F.okX scChkPcs (fun vs H Q E h => ?_) (fun cdv A outer s H vs Q E hr h => ?_)
  · obtain ⟨x, v, n, rfl, _⟩ := h
    rfl
  · obtain ⟨x, v, n, rfl, hv⟩ := h
    have nd := scChkPcs.nd
    have room : Room (1 + 1) _ := hr.mono (by decide)
    obtain ⟨a, xs, L, m, bb, rfl, hS, lm, mx, hA, hT, hq, hn, alt⟩ : ∃ a xs L m bb, v = .ref a ∧ SqA K H a xs ∧ L.length = m ∧ m ≤ xs.length ∧ All2 (PcA CL H) (xs.take m) L ∧ Til L 0 bb ∧ (∀ q ∈ L, Bq q) ∧ (∀ q ∈ L, q.2.1 ≤ n) ∧
        ((m = xs.length ∧ bb = n + 1 ∧ ∀ H', Same H H' → Q .non H') ∨ ((∃ y, xs[m]? = some y ∧ Spoil CL H n bb y) ∨ (m = xs.length ∧ bb ≤ n)) ∧ Raised2 E CB "function" "index" (.str x) (.int m) H) := by
      rcases hv with ⟨⟨z, xs, L, e, h1, h2, h3, h4⟩, q⟩ | ⟨m, ⟨z, xs, L, b, e, h1, h2, h3, h4, h5, h6, h7, h8⟩, q⟩
      · have l := h2.length
        exact ⟨z, xs, L, xs.length, n + 1, e, h1, l.symm, Nat.le_refl _, by rw [List.take_length]; exact h2, h3, h4, (fun q hq => by have := (h3.mem q hq).2.2; omega), .inl ⟨rfl, rfl, q⟩⟩
      · exact ⟨z, xs, L, m, b, e, h1, h2, h3, h4, h5, h6, h7, .inr ⟨h8, q⟩⟩
    clear hv
    refine ⟨_, pss_cons (ps_set (i := 3) nd rfl (.inl rfl) pe_int)
      (pss_cons (ps_for PassesOwn.leaving rfl (pi_enumS K rfl (by rfl) N.zEnum (pa_cons (pv 1) pa_nil)) (pg_tup rfl (pgs_cons (pg_name (i := 4) nd rfl (.inl rfl)) (pgs_cons (pg_name (i := 5) nd rfl (.inl rfl)) pgs_nil)))
          (pss_cons (ps_if (PW.pt (pw_or (pt_not (pt_val (pe_cl IP hr (by decide) (by rfl) (pa_cons (pv 5) pa_nil)))) (pw_or (pt_cmpR op_ne (pe_ix (ix_any K rfl) (pv 5) pe_int (fun _ _ => rfl)) (pv 3) (nomark _)) (pw_or1 (pt_not (pt_chain op_le op_le (pv 3) (pe_ix (ix_any K rfl) (pv 5) pe_int (fun _ _ => rfl)) (pv 2)))))))
              (pss_one (ps_raise rfl (takes_of rfl rfl rfl rfl) (pmk_oex T.ox T.iC T.tI FN room bN .nil pass0 (by rfl) T.gB (pa_cons (pv 0) (pa_cons (pv 4) pa_nil)))))
              pss_nil)
          (pss_one (ps_set (i := 3) nd rfl (.inl rfl) (pe_op op_add (pe_ix (ix_any K rfl) (pv 5) pe_int (fun _ _ => rfl)) pe_int)))))
      (pss_one (ps_if (pt_cmpR op_le (pv 3) (pv 2) (nomark _))
          (pss_one (ps_raise rfl (takes_of rfl rfl rfl rfl) (pmk_oex T.ox T.iC T.tI FN room bN .nil pass0 (by rfl) T.gB (pa_cons (pv 0) (pa_cons (pe_callB call_len_seq (by rfl) N.zLen PySem.boot_len (pa_cons (pv 1) pa_nil)) pa_nil)))))
          pss_nil))), ?_⟩
    refine ⟨_, rfl, a, xs, H, rfl, hS, Same.refl _, fun it J wk st => ?_⟩
    refine for_anyE wk (fun i σ G => i ≤ m ∧ ∃ b u v, Til (L.take i) 0 b ∧ σ = [some (.str x), some (.ref a), some (.int n), some (.int b), u, v] ∧ Same H G) ⟨Nat.zero_le _, 0, none, none, rfl, rfl, Same.refl _⟩ (fun i σ G _ ⟨_, _, _, _, _, _, s⟩ => st G s) ?_ ?_
    · rintro i v σ G T' hv ⟨im, b, u0, v0, tb, rfl, sG⟩ nT
      have s1 := same_lay (o := .tup [.int (i : Nat), v]) nT
      refine ⟨T', _, rfl, .inl (.inl upd_same), rfl, _, _, rfl, _, _, rfl, rfl, ?_⟩
      generalize upd G T' (.tup [.int (i : Nat), v]) = G1 at s1
      have sG1 := sG.trans s1
      by_cases ci : i < m
      · obtain ⟨p, hp, hpc⟩ := all2_get hA (show (xs.take m)[i]? = some v by rw [List.getElem?_take, if_pos ci]; exact hv)
        obtain ⟨tt, p12⟩ := til_take hT hp
        obtain rfl := til_fun tb tt
        have mp := List.mem_of_getElem? hp
        have Tp := hq p mp
        have hend := hn p mp
        refine ⟨_, rfl, v, rfl, .inl ⟨p, hpc.same sG1, Tp.p1, Tp.p2, fun G2 s2 => ⟨_, rfl, iteF ?_⟩⟩⟩
        obtain ⟨tp, u, rfl, hpt, hl⟩ := hpc.same (sG1.trans s2)
        have hseq : SqL K G2 tp [.int p.1, .int p.2.1, u] ∨ SqT K G2 tp [.int p.1, .int p.2.1, u] := hpt.elim (fun e => .inr (.inl (.inl e))) fun e => .inl (.inl (.inl e))
        refine ⟨_, rfl, tp, _, 0, _, rfl, rfl, hseq, atI_nat (j := 0) rfl, _, rfl, rfl, _, rfl, iteB (by simp) ?_⟩
        refine ⟨_, rfl, _, rfl, tp, _, 1, _, rfl, rfl, hseq, atI_nat (j := 1) rfl, _, _, rfl, rfl, _, rfl, iteA (decide_eq_true p12) ?_⟩
        refine ⟨_, rfl, _, _, rfl, rfl, _, rfl, ?_⟩
        rw [decide_eq_true hend]
        refine iteF ?_
        refine ⟨_, rfl, tp, _, 1, _, rfl, rfl, hseq, atI_nat (j := 1) rfl, _, _, rfl, rfl, ?_⟩
        refine ⟨ci, p.2.1 + 1, _, _, ?_, rfl, sG1.trans s2⟩
        rw [take_snoc hp]
        exact tt.app ⟨rfl, p12, rfl⟩
      · obtain rfl : i = m := by omega
        rw [List.take_of_length_le (by omega)] at tb
        obtain rfl := til_fun tb hT
        rcases alt with ⟨e, _⟩ | ⟨⟨y, hy, sp⟩ | ⟨e, _⟩, q⟩
        · exact absurd (List.getElem?_eq_some_iff.mp hv).1 (by omega)
        · obtain rfl : v = y := Option.some.inj (hv.symm.trans hy)
          have raise : ∀ G2, Same H G2 → _ := fun G2 s2 => raise_any2 (q.up s2)
          refine ⟨_, rfl, v, rfl, .inr ⟨n, b, sp.same sG1, (fun G2 s2 => ⟨_, rfl, iteT ⟨_, rfl, _, rfl, raise G2 (sG1.trans s2)⟩⟩), fun tp i' j z e hpt ne G2 s2 => ⟨_, rfl, iteF ?_⟩⟩⟩
          subst e
          have hpt := hpt.imp (fun z => s2 _ _ z) (fun z => s2 _ _ z)
          have hseq : SqL K G2 tp [.int i', .int j, z] ∨ SqT K G2 tp [.int i', .int j, z] := hpt.elim (fun e => .inr (.inl (.inl e))) fun e => .inl (.inl (.inl e))
          refine ⟨_, rfl, tp, _, 0, _, rfl, rfl, hseq, atI_nat (j := 0) rfl, _, rfl, rfl, _, rfl, ?_⟩
          by_cases c1 : i' = b
          · subst c1
            refine iteB (by simp) ?_
            refine ⟨_, rfl, _, rfl, tp, _, 1, _, rfl, rfl, hseq, atI_nat (j := 1) rfl, _, _, rfl, rfl, _, rfl, ?_⟩
            by_cases c2 : i' ≤ j
            · refine iteA (decide_eq_true c2) ?_
              refine ⟨_, rfl, _, _, rfl, rfl, _, rfl, ?_⟩
              rw [decide_eq_false (fun c3 => ne ⟨rfl, c2, c3⟩)]
              exact iteT ⟨_, rfl, _, rfl, raise G2 (sG1.trans s2)⟩
            · exact iteB (decide_eq_false c2) ⟨_, rfl, iteT ⟨_, rfl, _, rfl, raise G2 (sG1.trans s2)⟩⟩
          · exact iteA (by simp [c1]) (iteT ⟨_, rfl, _, rfl, raise G2 (sG1.trans s2)⟩)
        · exact absurd (List.getElem?_eq_some_iff.mp hv).1 (by omega)
    · rintro σ G ⟨im, b, u0, v0, tb, rfl, sG⟩
      obtain rfl : xs.length = m := by omega
      rw [List.take_of_length_le (by omega)] at tb
      obtain rfl := til_fun tb hT
      refine ⟨_, rfl, _, rfl, _, _, rfl, rfl, _, rfl, ?_⟩
      rcases alt with ⟨_, e, q⟩ | ⟨⟨y, hy, sp⟩ | ⟨e, c⟩, q⟩
      · rw [decide_eq_false (by omega)]
        exact iteF (q G sG)
      · exact absurd (List.getElem?_eq_some_iff.mp hy).1 (by omega)
      · rw [decide_eq_true c]
        exact iteT ⟨_, rfl, _, rfl, a, xs, rfl, Same.any sG hS, raise_any2 (q.up sG)⟩
end
end OR

namespace OR
open PySem PySem.Spec PyProof.Rows L2
theorem asc_anti {a b : Str} (h1 : ¬ a.cps.toList < b.cps.toList) (h2 : ¬ b.cps.toList < a.cps.toList) : a = b := by
  have := List.le_antisymm (List.not_lt.mp h1) (List.not_lt.mp h2)
  cases a; cases b
  simp only [Str.mk.injEq]
  exact Array.toList_inj.mp this.symm
theorem asc_at : ∀ {ws : List Str} {i j : Nat} {x y : Str}, Asc ws → i < j → ws[i]? = some x → ws[j]? = some y → ¬ y.cps.toList < x.cps.toList
  | [], _, _, _, _, _, _, h, _ => by cases h
  | a :: l, 0, j + 1, x, y, ha, _, h1, h2 => by
    obtain rfl : a = x := Option.some.inj h1
    exact (List.pairwise_cons.mp ha).1 y (List.mem_of_getElem? (show l[j]? = some y from h2))
  | a :: l, i + 1, j + 1, x, y, ha, hij, h1, h2 => asc_at (show Asc l from (List.pairwise_cons.mp ha).2) (Nat.lt_of_succ_lt_succ hij) h1 h2
  | a :: l, _, 0, _, _, _, hij, _, _ => absurd hij (Nat.not_lt_zero _)
/-- the first in order with a fault is the least with a fault -/
theorem asc_first {ws : List Str} {bad : Str → Prop} {i : Nat} {x w : Str} (ha : Asc ws) (hx : ws[i]? = some x) (before : ∀ j < i, ∀ y, ws[j]? = some y → ¬ bad y) (bx : bad x) (mw : w ∈ ws) (bw : bad w) (least : ∀ u ∈ ws, bad u → ¬ u.cps.toList < w.cps.toList) : x = w := by
  obtain ⟨j, hj, e⟩ := List.getElem_of_mem mw
  have hw : ws[j]? = some w := by rw [List.getElem?_eq_getElem hj, e]
  by_cases c1 : j < i
  · exact absurd bw (before j c1 w hw)
  · by_cases c2 : j = i
    · subst c2; exact Option.some.inj (hx.symm.trans hw)
    · exact asc_anti (least x (List.mem_of_getElem? hx) bx) (asc_at ha (by omega) hx hw)
def PcsJ (K : PySem.W.Frag) (CL : Addr) (H : Hp) (n : Int) (v : V) : Option Nat → Prop
  | none => PcsG K CL H n v
  | some m => PcsB K CL H n v m
theorem PcsG.same {K : PySem.W.Frag} {CL : Addr} {H H' : Hp} {n : Int} {v : V} (h : PcsG K CL H n v) (s : Same H H') : PcsG K CL H' n v := by
  obtain ⟨z, xs, L, e, h1, h2, h3⟩ := h
  exact ⟨z, xs, L, e, Same.any s h1, h2.imp fun _ _ h => h.same s, h3⟩
theorem PcsB.same {K : PySem.W.Frag} {CL : Addr} {H H' : Hp} {n : Int} {v : V} {m : Nat} (h : PcsB K CL H n v m) (s : Same H H') : PcsB K CL H' n v m := by
  obtain ⟨z, xs, L, b, e, h1, h2, h3, h4, h5, h6, h7, h8⟩ := h
  exact ⟨z, xs, L, b, e, Same.any s h1, h2, h3, h4.imp fun _ _ h => h.same s, h5, h6, h7, h8.imp (fun ⟨y, k1, k2⟩ => ⟨y, k1, k2.same s⟩) id⟩
def spGInitX (K : PySem.W.Frag) (CG CL CW CB : Addr) : Sp := fun vs H Q E => ∃ (p dx d : Addr) (n : Int) (kvs : List (Key × V)) (ks : List Str), vs = [.ref p, .int n, .ref d] ∧ H p = some (.ins CG dx []) ∧ H d = some (.dK kvs) ∧ kvs.map (·.1) = ks.map Sum.inr ∧ ks.length ≤ 60 ∧ (∀ w ∈ ks, PV (.str w)) ∧
  ((∃ T : Tld, T.map (·.1) = ks ∧ All2 (EntA K CL H) kvs T ∧ Told n T ∧ ∀ H', Off p H H' → Q .non H') ∨
   (∃ w ∈ ks, wordB (.str w) = false ∧ (∀ u ∈ ks, wordB (.str u) = false → ¬ u.cps.toList < w.cps.toList) ∧ Raised E CW "word" (.str w) H) ∨
   ((∀ w ∈ ks, wordB (.str w) = true) ∧ ∃ J : Str → Option Nat, (∀ w ∈ ks, ∃ v, valV kvs (.inr w) = some v ∧ PcsJ K CL H n v (J w)) ∧ ∃ w ∈ ks, ∃ m : Nat, J w = some m ∧ (∀ u ∈ ks, J u ≠ none → ¬ u.cps.toList < w.cps.toList) ∧ Raised2 E CB "function" "index" (.str w) (.int m) H))
section
variable {P : Program} {w : World} {K : PySem.W.Frag} {mg : Str → Option Value} {base : Heap} {CL CG CW CB ts tw : Addr}
set_option maxHeartbeats 2000000 in
theorem ok_ginitX {f : Addr} {fd : FuncData} (F : Fun K "__init__" "Program.__init__" sProgramInit f fd) (N : NTxt mg) (GT : GTxt K mg CG) (RK : Cl P w K mg base 1 "_ranked" ["word"] spRanked) (KW : ClX P w K mg base 3 "check_word" ["value"] (spChkWX CW)) (CE : ClX P w K mg base 4 "_check_pieces" ["function", "pieces", "last"] (spChkPcsX K CL CB))
    (OF : Cl P w K mg base 5 "one_form" ["pieces"] (spOneF K CL)) : FnOk P w K mg base (L2.CX P w) 6 f fd ["self", "last", "told"] (spGInitX K CG CL CW CB) := by
  refine F.okX scGInit (fun vs H Q E h => ?_) (fun cdv A outer s H vs Q E hr h => ?_)
  · obtain ⟨p, dx, d, n, kvs, ks, rfl, _⟩ := h
    rfl
  · obtain ⟨p, dx, d, n, kvs, ks, rfl, hp, hd, hK, lks, pvs, alt⟩ := h
    have nd := scGInit.nd
    have hu := hu_of hr
    refine ⟨_, pss_cons (ps_setLc (i := 4) (own := [("_", 5), ("_", 5), ("word", 3)]) (g := (gTup K 3 (gCons (gName 5) (gCons (gName 5) (gCons (gName 3) gNil))))) (tt := tYes) rfl nd rfl rfl (sw_true rfl rfl rfl (by decide +kernel)) (pi_list (pe_callB (cr_sort3 K rfl) (by rfl) N.zSort bt_sorted (pa_cons (pe_lock (pe_lc (own := [("word", 3)]) (g := (gName 3)) (tt := tYes) rfl nd (pi_keys (pv 2)) (blkOk_by (N := ["self", "last", "told", "word", "words", "_"]) (sc := defScope sProgramInit) (by decide +kernel)) (fun _ _ _ _ _ => pg_name (i := 3) nd rfl (.inl rfl)) (fun _ _ _ _ _ => pts_nil) (fun _ _ _ _ _ => (pe_cl RK hr (by decide) (by rfl) (pa_cons (pv 3) pa_nil))))) pa_nil))) (blkOk_by (N := ["self", "last", "told", "word", "words", "_"]) (sc := defScope sProgramInit) (by decide +kernel)) (fun _ _ _ _ _ => pg_tup rfl (pgs_cons (pg_name (i := 5) nd rfl (.inl rfl)) (pgs_cons (pg_name (i := 5) nd rfl (.inl rfl)) (pgs_cons (pg_name (i := 3) nd rfl (.inl rfl)) pgs_nil)))) (fun _ _ _ _ _ => pts_nil) (fun _ _ _ _ _ => (pv 3)))
      (pss_cons (ps_for PassesOwn.leaving rfl (pi_list (pv 4)) (pg_name (i := 3) nd rfl (.inl rfl))
          (pss_one (ps_expr (pe_clX KW hr (by decide) (by rfl) (takes_of rfl rfl rfl rfl) (pa_cons (pv 3) pa_nil)))))
      (pss_cons (ps_for PassesOwn.leaving rfl (pi_list (pv 4)) (pg_name (i := 3) nd rfl (.inl rfl))
          (pss_one (ps_expr (pe_clX CE hr (by decide) (by rfl) (takes_of rfl rfl rfl rfl) (pa_cons (pv 3) (pa_cons (pe_dget hu (pv 2) (pv 3) (fun _ _ => rfl)) (pa_cons (pv 1) pa_nil)))))))
      (pss_cons (ps_fld (pv 0) (pv 1) rfl)
      (pss_cons (ps_fld (pv 0) (pe_callTy call_tuple_of (by rfl) N.zTup bt_tup (pa_cons (pv 4) pa_nil)) rfl)
      (pss_one (ps_fld (pv 0) (pe_dc (own := [("word", 3)]) (g := (gName 3)) (tt := tYes) rfl nd (pi_list (pv 4)) (blkOk_by (N := ["self", "last", "told", "word", "words", "_"]) (sc := defScope sProgramInit) (by decide +kernel)) (fun _ _ _ _ _ => pg_name (i := 3) nd rfl (.inl rfl)) (fun _ _ _ _ _ => pts_nil) (fun _ _ _ _ _ => pv 3) (fun _ _ _ _ _ => pe_cl OF hr (by decide) (by rfl) (pa_cons (pe_dget hu (pv 2) (pv 3) (fun _ _ => rfl)) pa_nil))) rfl)))))), ?_⟩
    have hdp : d ≠ p := ne_of hd hp (by intro z; cases z)
    have lk : kvs.length = ks.length := by
      have := congrArg List.length hK
      rw [List.length_map, List.length_map] at this
      exact this
    have key : ∀ i (hi : i < kvs.length), ∃ t, ks[i]? = some t ∧ kvs[i].1 = .inr t := fun i hi => by
      have e := congrArg (fun l => l[i]?) hK
      simp only [List.getElem?_map, List.getElem?_eq_getElem hi] at e
      cases hk : ks[i]? with
      | none => rw [hk] at e; cases e
      | some t => rw [hk] at e; exact ⟨t, rfl, Option.some.inj e⟩
    -- the words in order
    refine ⟨d, .dK kvs, hd, trivial, fun od => ?_⟩
    refine ⟨_, rfl, d, od, rfl, .inl ⟨kvs, upd_same, fun D hD => lc_any (walksK (d := d) (o := od) (kvs := kvs)) (fun i G => ∃ L : List (Addr × Str), G D = some (.lst (L.map fun p => V.ref p.1)) ∧ (∀ p ∈ L, G p.1 = some (.tup [.int 2, .str p.2, .str p.2])) ∧ L.map (·.2) = ks.take i ∧ Same (upd H d (.frz od (.dK kvs))) G)
      ⟨[], upd_same, (fun _ z => nomatch z), rfl, same_lay hD⟩ (fun i G _ ⟨_, _, _, _, s⟩ => s _ _ upd_same) ?_ ?_⟩⟩
    · rintro i x G hx ⟨L, hL, hL2, eL, sG⟩
      rw [List.getElem?_map] at hx
      obtain ⟨e, he, rfl⟩ := Option.map_eq_some_iff.mp hx
      obtain ⟨hi, ee⟩ := List.getElem?_eq_some_iff.mp he
      obtain ⟨t, ht, hE⟩ := key i hi
      rw [ee] at hE
      rw [hE]
      have lL : L.length = i := by
        have := congrArg List.length eL
        rw [List.length_map, List.length_take] at this
        omega
      refine ⟨rfl, yesT ⟨_, rfl, t, rfl, fun z nz => ?_⟩⟩
      have s1 := same_lay (o := .tup [.int 2, .str t, .str t]) nz
      have hD1 := s1 _ _ hL
      refine ⟨_, hD1, small1000 (by rw [List.length_map]; omega), L ++ [(z, t)], by rw [upd_same, List.map_append]; rfl, fun q hq => ?_, ?_, same_upd (sG.trans s1) hD⟩
      · refine (kp_lst hD1).tup ?_
        rcases List.mem_append.mp hq with m | m
        · exact s1 _ _ (hL2 q m)
        · rw [List.mem_singleton.mp m]; exact upd_same
      · rw [List.map_append, eL, take_snoc ht]
        rfl
    rintro G ⟨L, hL, hL2, eL, sG⟩
    rw [List.take_of_length_le (by rw [List.length_map]; omega)] at eL
    obtain ⟨s0, hfz⟩ := same_lock hd sG
    refine ⟨hfz, ?_⟩
    have nDd : D ≠ d := fun e => by rw [e, upd_same] at hD; cases hD
    have hL' : (upd G d (.dK kvs)) D = some (.lst (L.map fun p => V.ref p.1)) := by rw [upd_ne nDd]; exact hL
    have hL2' : ∀ p ∈ L, (upd G d (.dK kvs)) p.1 = some (.tup [.int 2, .str p.2, .str p.2]) := fun q hq => by
      rw [upd_ne (ne_of (hL2 q hq) hfz (by intro z; cases z))]
      exact hL2 q hq
    generalize upd G d (.dK kvs) = G1 at s0 hL' hL2'
    clear hL hL2 sG hfz hD nDd
    have lL : L.length = ks.length := by
      have := congrArg List.length eL
      rw [List.length_map] at this
      exact this
    refine ⟨D, L, rfl, .inl (.inl hL'), by omega, hL2', fun L' a hperm hasc na => ?_⟩
    have hws : (L'.map (·.2)).Perm ks := by rw [← eL]; exact hperm.map _
    generalize hwsd : L'.map (·.2) = ws at hws hasc
    have lws : ws.length = ks.length := hws.length_eq
    have lL' : L'.length = ws.length := by rw [← hwsd, List.length_map]
    have sa := same_lay (o := .lst (L'.map fun p => V.ref p.1)) na
    have t1 : ∀ q ∈ L', (upd G1 a (.lst (L'.map fun p => V.ref p.1))) q.1 = some (.tup [.int 2, .str q.2, .str q.2]) := fun q hq => sa _ _ (hL2' q (hperm.mem_iff.mp hq))
    have ha : (upd G1 a (.lst (L'.map fun p => V.ref p.1))) a = some (.lst (L'.map fun p => V.ref p.1)) := upd_same
    have s1 := s0.trans sa
    generalize upd G1 a (.lst (L'.map fun p => V.ref p.1)) = G2 at s1 t1 ha
    clear sa hL' hL2' s0 na
    refine ⟨a, rfl, ⟨_, .inl (.inl ha)⟩, fun Dw hDw => lc_list (K := K) (a := a) (xs := L'.map fun p => V.ref p.1) (fun i G => G Dw = some (.lst ((ws.take i).map V.str)) ∧ Same G2 G) ⟨upd_same, same_lay hDw⟩ (fun i G _ h => h.2.seq (.inl (.inl ha))) ?_ ?_⟩
    · rintro i x G hx ⟨hG, sG⟩
      rw [List.getElem?_map] at hx
      obtain ⟨q, hq, rfl⟩ := Option.map_eq_some_iff.mp hx
      have hi := (List.getElem?_eq_some_iff.mp hq).1
      have hw : ws[i]? = some q.2 := by rw [← hwsd, List.getElem?_map, hq]; rfl
      refine ⟨q.1, _, rfl, .inl (.inl (sG _ _ (t1 q (List.mem_of_getElem? hq)))), rfl, _, _, rfl, _, _, rfl, _, _, rfl, rfl, rfl, yesT ⟨_, rfl, _, hG, small1000 (by rw [List.length_map, List.length_take]; omega), ?_, same_upd sG hDw⟩⟩
      rw [upd_same, take_snoc hw, List.map_append]
      rfl
    rintro G ⟨hW, sG⟩
    rw [List.take_of_length_le (by rw [List.length_map]; omega)] at hW
    have s2 := s1.trans sG
    clear ha t1 hDw sG s1 lL lL' eL hwsd hperm
    have memw : ∀ u, u ∈ ws ↔ u ∈ ks := fun u => hws.mem_iff
    have isW : ∀ {x : Str}, wordB (.str x) = true ∨ wordB (.str x) = false := fun {x} => by cases wordB (.str x) <;> simp
    -- they are words
    refine ⟨_, rfl, Dw, rfl, ⟨_, .inl (.inl hW)⟩, for_list (K := K) (a := Dw) (xs := ws.map V.str) (fun i σ G3 => (∃ u, σ = [some (.ref p), some (.int n), some (.ref d), u, some (.ref Dw), none]) ∧ Same G G3 ∧ ∀ j < i, ∀ y, ws[j]? = some y → ¬ wordB (.str y) = false) ⟨⟨none, rfl⟩, Same.refl _, fun _ z => absurd z (Nat.not_lt_zero _)⟩ (fun i σ G3 _ h => h.2.1.seq (.inl (.inl hW))) ?_ ?_⟩
    · rintro i y σ G3 hy ⟨⟨u, rfl⟩, s3, bef⟩
      rw [List.getElem?_map] at hy
      obtain ⟨x, hx, rfl⟩ := Option.map_eq_some_iff.mp hy
      have mx := (memw x).mp (List.mem_of_getElem? hx)
      refine ⟨_, rfl, .str x, rfl, pvs x mx, fun c G4 s4 => ⟨⟨_, rfl⟩, s3.trans s4, fun j hj z hz => ?_⟩, fun c => ?_⟩
      · by_cases e : j < i
        · exact bef j e z hz
        · obtain rfl : j = i := by omega
          obtain rfl : x = z := Option.some.inj (hx.symm.trans hz)
          rw [c]; exact fun z => nomatch z
      · rcases alt with ⟨T, eT, _, hT, _⟩ | ⟨w, mw, bw, lw, q⟩ | ⟨all, _⟩
        · obtain ⟨e, he, rfl⟩ := List.mem_map.mp (by rw [eT]; exact mx)
          have := (hT.ok e he).1.wordS
          rw [show wordB (.str e.1) = wordS e.1 from rfl, this] at c
          cases c
        · obtain rfl := asc_first hasc hx (bad := fun y => wordB (.str y) = false) bef c ((memw w).mpr mw) bw (fun u hu => lw u ((memw u).mp hu))
          exact q.up (s2.trans s3)
        · rw [all x mx] at c; cases c
    rintro σ G3 ⟨⟨u, rfl⟩, s3, allw⟩
    have hW3 := s3 _ _ hW
    rw [List.length_map] at allw
    -- their pieces
    refine ⟨_, rfl, Dw, rfl, ⟨_, .inl (.inl hW3)⟩, for_list (K := K) (a := Dw) (xs := ws.map V.str) (fun i σ G4 => (∃ u, σ = [some (.ref p), some (.int n), some (.ref d), u, some (.ref Dw), none]) ∧ Same G3 G4 ∧ ((∃ T : Tld, T.map (·.1) = ks ∧ All2 (EntA K CL H) kvs T ∧ Told n T ∧ ∀ H', Off p H H' → Q .non H') ∨
        ∃ J : Str → Option Nat, (∀ j < i, ∀ y, ws[j]? = some y → ¬ J y ≠ none) ∧ (∀ w ∈ ks, ∃ v, valV kvs (.inr w) = some v ∧ PcsJ K CL H n v (J w)) ∧ ∃ w ∈ ks, ∃ m : Nat, J w = some m ∧ (∀ u ∈ ks, J u ≠ none → ¬ u.cps.toList < w.cps.toList) ∧ Raised2 E CB "function" "index" (.str w) (.int m) H))
      ⟨⟨u, rfl⟩, Same.refl _, ?_⟩ (fun i σ G4 _ h => h.2.1.seq (.inl (.inl hW3))) ?_ ?_⟩
    · rcases alt with a1 | ⟨w, mw, bw, _⟩ | ⟨_, J, h1, h2⟩
      · exact .inl a1
      · obtain ⟨j, hj, e⟩ := List.getElem_of_mem ((memw w).mpr mw)
        exact absurd bw (allw j hj w (by rw [List.getElem?_eq_getElem hj, e]))
      · exact .inr ⟨J, (fun _ z => absurd z (Nat.not_lt_zero _)), h1, h2⟩
    · rintro i y σ G4 hy ⟨⟨u, rfl⟩, s4, alt⟩
      rw [List.getElem?_map] at hy
      obtain ⟨x, hx, rfl⟩ := Option.map_eq_some_iff.mp hy
      have mx := (memw x).mp (List.mem_of_getElem? hx)
      have s5 := (s2.trans s3).trans s4
      rcases alt with ⟨T, eT, hA, hT, R⟩ | ⟨J, bef, h1, w, mw, m, jw, lw, q⟩
      · obtain ⟨e, he, rfl⟩ := List.mem_map.mp (by rw [eT]; exact mx)
        obtain ⟨k, _, ⟨_, z, xs, e1, e2, e3⟩, hv⟩ := val_ent (fun _ _ h => h.1) hA hT.nd he
        obtain ⟨_, o2, o3, _⟩ := hT.ok e he
        exact ⟨_, rfl, _, rfl, _, rfl, d, _, rfl, dg (s5 _ _ hd) hv, _, rfl, e.1, _, n, rfl, .inl ⟨PcsG.same ⟨z, xs, e.2, e1, e2, e3, o2, o3⟩ s5, fun G5 s6 => ⟨⟨_, rfl⟩, s4.trans s6, .inl ⟨T, eT, hA, hT, R⟩⟩⟩⟩
      · obtain ⟨v, hv, hJ⟩ := h1 x mx
        refine ⟨_, rfl, _, rfl, _, rfl, d, _, rfl, dg (s5 _ _ hd) hv, _, rfl, x, _, n, rfl, ?_⟩
        cases jx : J x with
        | none =>
          rw [jx] at hJ
          refine .inl ⟨PcsG.same hJ s5, fun G5 s6 => ⟨⟨_, rfl⟩, s4.trans s6, .inr ⟨J, fun j hj z hz => ?_, h1, w, mw, m, jw, lw, q⟩⟩⟩
          by_cases e : j < i
          · exact bef j e z hz
          · obtain rfl : j = i := by omega
            obtain rfl : x = z := Option.some.inj (hx.symm.trans hz)
            rw [jx]; simp
        | some m' =>
          rw [jx] at hJ
          obtain rfl := asc_first hasc hx (bad := fun y => J y ≠ none) bef (by rw [jx]; simp) ((memw w).mpr mw) (by rw [jw]; simp) (fun u hu => lw u ((memw u).mp hu))
          obtain rfl : m' = m := Option.some.inj (jx.symm.trans jw)
          exact .inr ⟨m', PcsB.same hJ s5, q.up s5⟩
    rintro σ G4 ⟨⟨u2, rfl⟩, s4, alt⟩
    rw [List.length_map] at alt
    obtain ⟨T, eT, hA, hT, R⟩ : ∃ T : Tld, T.map (·.1) = ks ∧ All2 (EntA K CL H) kvs T ∧ Told n T ∧ ∀ H', Off p H H' → Q .non H' := by
      rcases alt with a1 | ⟨J, bef, h1, w, mw, m, jw, lw, q⟩
      · exact a1
      · obtain ⟨j, hj, e⟩ := List.getElem_of_mem ((memw w).mpr mw)
        exact absurd (by rw [jw]; simp) (bef j hj w (by rw [List.getElem?_eq_getElem hj, e]))
    obtain ⟨T', hT', eT'⟩ := perm_lift (fun e : Str × List Pce => e.1) (show ws.Perm (T.map (·.1)) by rw [eT]; exact hws) T rfl
    have eT' : T'.map (·.1) = ws := eT'
    rw [← eT'] at hW hW3
    have hnd : (T'.map (·.1)).Nodup := (hT'.map _).nodup_iff.mpr hT.nd
    have nk := hT.few
    have lT' : T'.length = T.length := hT'.length_eq
    have okT' : ∀ e ∈ T', Word e.1 ∧ Til e.2 0 (n + 1) ∧ (∀ q ∈ e.2, Bq q) ∧ e.2.length ≤ 1000 := fun e he => hT.ok e (hT'.mem_iff.mp he)
    have entT' : ∀ e ∈ T', ∃ v, valV kvs (.inr e.1) = some v ∧ ∃ z xs, v = .ref z ∧ SqA K H z xs ∧ All2 (PcA CL H) xs e.2 := fun e he => by
      obtain ⟨k, _, ⟨_, z, xs, e1, e2, e3⟩, hv⟩ := val_ent (fun _ _ h => h.1) hA hT.nd (hT'.mem_iff.mp he)
      exact ⟨_, hv, z, xs, e1, e2, e3⟩
    have sH := (s2.trans s3).trans s4
    have hW4 := s4 _ _ hW3
    have hp4 := sH _ _ hp
    have hd4 := sH _ _ hd
    clear hW hW3 s2 s3 s4
    -- the fields
    refine ⟨_, rfl, _, rfl, p, CG, dx, [], rfl, hp4, GT.cl, GT.nL, (by show 0 < 1000; decide), ?_⟩
    have o1 : Off p H (upd G4 p (.ins CG dx (putF "last" (.int n) []))) := Off.put fun c o e _ => sH c o e
    have nWp : Dw ≠ p := ne_of hW4 hp4 (by intro z; cases z)
    have hW5 : (upd G4 p (.ins CG dx (putF "last" (.int n) []))) Dw = some (.lst ((T'.map (·.1)).map V.str)) := by rw [upd_ne nWp]; exact hW4
    have hp5 : (upd G4 p (.ins CG dx (putF "last" (.int n) []))) p = some (.ins CG dx (putF "last" (.int n) [])) := upd_same
    generalize upd G4 p (.ins CG dx (putF "last" (.int n) [])) = G5 at o1 hW5 hp5
    refine ⟨_, rfl, Dw, _, rfl, .inl ⟨.inl (.inl hW5), fun fa nfa => ?_⟩⟩
    have s6 := same_lay (o := .tup ((T'.map (·.1)).map V.str)) nfa
    have nfp : fa ≠ p := fun e => by rw [e, hp5] at nfa; cases nfa
    refine ⟨_, rfl, p, CG, dx, _, rfl, s6 _ _ hp5, GT.cl, GT.nF, (by show 1 < 1000; decide), ?_⟩
    have o2 : Off p H (upd (upd G5 fa (.tup ((T'.map (·.1)).map V.str))) p (.ins CG dx (putF "functions" (.ref fa) (putF "last" (.int n) [])))) := (o1.same s6).put
    have hf6 : (upd (upd G5 fa (.tup ((T'.map (·.1)).map V.str))) p (.ins CG dx (putF "functions" (.ref fa) (putF "last" (.int n) [])))) fa = some (.tup ((T'.map (·.1)).map V.str)) := by rw [upd_ne nfp, upd_same]
    have hp6 : (upd (upd G5 fa (.tup ((T'.map (·.1)).map V.str))) p (.ins CG dx (putF "functions" (.ref fa) (putF "last" (.int n) [])))) p = some (.ins CG dx (putF "functions" (.ref fa) (putF "last" (.int n) []))) := upd_same
    have hW6 : (upd (upd G5 fa (.tup ((T'.map (·.1)).map V.str))) p (.ins CG dx (putF "functions" (.ref fa) (putF "last" (.int n) [])))) Dw = some (.lst ((T'.map (·.1)).map V.str)) := by rw [upd_ne nWp]; exact s6 _ _ hW5
    generalize upd (upd G5 fa (.tup ((T'.map (·.1)).map V.str))) p (.ins CG dx (putF "functions" (.ref fa) (putF "last" (.int n) []))) = G6 at o2 hf6 hp6 hW6
    clear hp5 hW5 s6 o1 nfa nfp hW4 hp4 sH
    refine ⟨_, rfl, Dw, rfl, ⟨_, .inl (.inl hW6)⟩, fun D hD => dc_any (walksL (K := K) (a := Dw) (xs := (T'.map (·.1)).map V.str)) (fun i G => ∃ kv, G D = some (.dK kv) ∧ All2 (EntP CL G) kv (oneT (T'.take i)) ∧ Same G6 G) ⟨[], upd_same, .nil, same_lay hD⟩ (fun i G _ ⟨_, _, _, s⟩ => s.seq (.inl (.inl hW6))) ?_ ?_⟩
    · rintro i y G hy ⟨kv, hkv, hE, sG⟩
      rw [List.getElem?_map, List.getElem?_map] at hy
      obtain ⟨e, he, rfl⟩ : ∃ e, T'[i]? = some e ∧ V.str e.1 = y := by
        cases h : T'[i]? with
        | none => rw [h] at hy; cases hy
        | some e => rw [h] at hy; exact ⟨e, rfl, Option.some.inj hy⟩
      have hi := (List.getElem?_eq_some_iff.mp he).1
      have me := List.mem_of_getElem? he
      obtain ⟨v, hv, z, xs, rfl, hS, hP⟩ := entT' e me
      obtain ⟨_, w2, w3, w4⟩ := okT' e me
      have off := o2.same sG
      have lkv := hE.length
      rw [oneT, List.length_map, List.length_take] at lkv
      refine ⟨rfl, yesT ⟨_, rfl, _, rfl, _, rfl, d, _, rfl, dg (off _ _ hd hdp) hv, z, xs, e.2, 0, n + 1, rfl, hS.off hp off, hP.imp (fun _ _ h => h.off hp off), w2, w3, w4, fun t ys G7 nt ht hY s7 => ?_⟩⟩
      have hkv7 := s7 _ _ hkv
      have hno : e.1 ∉ (oneT (T'.take i)).map (·.1) := by
        rw [oneT_fst]
        intro m
        have e1 : T'.map (·.1) = (T'.take i).map (·.1) ++ (T'.drop i).map (·.1) := by rw [← List.map_append, List.take_append_drop]
        rw [e1, List.nodup_append] at hnd
        refine hnd.2.2 _ m _ (List.mem_map.mpr ⟨e, ?_, rfl⟩) rfl
        rw [← (List.getElem?_eq_some_iff.mp he).2, ← List.getElem_cons_drop hi]
        exact List.mem_cons_self
      refine ⟨kv, .inr e.1, rfl, hkv7, small1000 (by omega), kv ++ [(.inr e.1, .ref t)], ?_, ?_, same_upd (sG.trans s7) hD⟩
      · rw [upd_same, putK_new _ (val_none (fun _ _ h => h.1) hE hno)]
      · have e2 : oneT (T'.take (i + 1)) = oneT (T'.take i) ++ [(e.1, oneF e.2)] := by rw [take_snoc he, oneT, List.map_append]; rfl
        rw [e2]
        have k7 := kp_dk (u := .dK (putK kv (.inr e.1) (.ref t))) hkv7
        exact (hE.imp fun _ _ h => (h.kp (kp_same s7)).kp k7).append (.cons ⟨rfl, t, ys, rfl, k7.tup ht, hY.imp fun _ _ h => h.kp k7⟩ .nil)
    rintro G ⟨kv, hkv, hE, sG⟩
    rw [List.take_of_length_le (by rw [List.length_map, List.length_map]; exact Nat.le_refl _)] at hE
    have hp7 := sG _ _ hp6
    refine ⟨_, rfl, p, CG, dx, _, rfl, hp7, GT.cl, GT.nT, (by show 2 < 1000; decide), ?_⟩
    exact R _ (o2.same sG).put
end
end OR

namespace OR
open PySem PySem.Spec PyProof.Rows L2
open TL (tl numL)
/-- clauses `except C as n`, each with its slot -/
inductive HdsN (X : Cx) : List ExceptHandler → List (Value × Nat × (Addr → Value → Option Addr → TS)) → Prop
  | none : HdsN X [] []
  | cons {cn vn : Str} {c : Value} {i : Nat} {ts : Addr → Value → Option Addr → TS} {st : Stmt} {su : List Stmt} {p1 p2 : Pos} {hl : List ExceptHandler} {tl : List (Value × Nat × (Addr → Value → Option Addr → TS))}
      (slot : X.N[i]? = some vn) (loc : X.env.kindOf vn = some .local) (nam : Names X cn c)
      (sui : ∀ (ea : Addr) (eo : Obj) (ec : Value) (ed : Option Addr) (pn : List (Addr × Obj)), Zc ec ed eo → (∃ vs, eo.data = .fields vs) → PSs (X.suite ea ((ea, eo) :: pn)) (st :: su) (ts ea ec ed))
      (rest : HdsN X hl tl) : HdsN X (.ExceptHandler (some (.Name cn p1)) (some vn) (st :: su) p2 :: hl) ((c, i, ts) :: tl)
section
variable {P : Program} {w : World} {K : PySem.W.Frag} {mg : Str → Option Value} {base : Heap} {C : Nat → Addr} {CP : Addr}
def told : Nat → Str → List V → List V
  | 2, f, [g] => [.str f, g]
  | 5, f, [_, g, _, _] => [.str f, g]
  | _, f, _ => [.str f]
end
/-- at which index the other function stands -/
def named (i : Nat) (f : Str) (x : List V) : List V := told i f x
/-- what the clauses ask of an exception of the body, clause by clause: (class, slot of the name, suite) -/
def wAsMany (K : PySem.W.Frag) (Wo : WX) (D : Ends) : List (Value × Nat × (Addr → Value → Option Addr → TS)) → WX
  | [] => Wo
  | (c, i, ts) :: rest => wAs K c i ts (wAsMany K Wo D rest) D
section
variable {X : Cx} {body : List Stmt} {h0 : ExceptHandler} {hl : List ExceptHandler} {tl : List (Value × Nat × (Addr → Value → Option Addr → TS))} {pos : Pos} {tb : WX → TS} {Wo : WX}
theorem ps_try_names (stk : X.stack = X.env :: X.outer) (frm : X.env.frame = some X.env.locals) (hN : X.N.Nodup) (out : Takes X Wo)
    (bod : ∀ (W : WX) (pn : List (Addr × Obj)) (xe : Value → Shared → Prop), Takes (X.tr pn xe) W → PassesOwn (model X.prog X.w) X.A X.env xe → PSs (X.tr pn xe) body (tb W))
    (cls : HdsN X (h0 :: hl) tl) : PS X (.Try body (h0 :: hl) [] [] pos) (fun D σ H => tb (wAsMany X.K Wo D tl) D σ H) := by
  refine ⟨fun pins s σ H D I hpre => ?_⟩
  have ok := I.ok
  have frs1 : X.A.frames = some (X.env :: X.outer) := by rw [ok.frames, stk]
  refine wpAny_Try_except (wpAny_mono ((bod (wAsMany X.K Wo D tl) (X.pn ++ pins) (fun e q1 => wpAny (model X.prog X.w) X.A (noteFrame e X.env) (fun _ q2 => wpAny (model X.prog X.w) X.A (setFlight e none)
    (fun _ q3 => wpAny (model X.prog X.w) X.A (handleBy e X.env (h0 :: hl)) (SP X pins D) X.xe q3) X.xe q2) X.xe q1) (fun _ sx raised => ?_) PassesOwn.looking).run [] s σ H D (I.toTry _) hpre) (fun fl sb endOf => ?_) (fun _ _ z => z))
  · obtain ⟨ea, Bd, sAt, pinsT, σT, HT, ecl, ed, rfl, invT, nb, upT, skyT, freeT, osT, agT, wish⟩ := raised
    have invA : Inv X pins σT HT sAt := invT.ofTry ok
    have sky0 : Sky Bd (X.env :: X.outer) ea (Zc ecl ed) X.env.locals sx.heap := by rw [← stk]; exact skyT
    show wpAny (model X.prog X.w) X.A (noteFrame (Value.ref ea) X.env) _ _ _
    refine Sky.land Zc.steady frs1 frm sky0 fun hp3 flown up1 => ?_
    have inv3 : Inv X pins σT HT { sx with heap := hp3 } := invA.landed nb flown.1 (upT.trans up1) osT agT
    obtain ⟨eo3, fs3, at3, zc3, dat3⟩ := flown.there
    have apart : ∀ {hp : Heap} {eo : Obj} {fs : Array Value}, hp.FunFrames Bd (X.env :: X.outer) → hp.get? ea = some eo → eo.data = .fields fs → ea ∉ frs (X.env :: X.outer) := by
      intro hp eo fs ffr eat edt mem
      obtain ⟨_, eo', eat', hnf⟩ := ffr.mem mem
      rw [eat] at eat'; cases eat'
      exact hnf _ edt
    have notIn := apart flown.2.2.1 at3 dat3
    have offL : ea ≠ X.env.locals := fun eq => notIn (List.mem_filterMap.mpr ⟨X.env, List.mem_cons_self, by rw [frm, eq]⟩)
    have offF : ea ∉ X.fs := by
      intro mem
      obtain ⟨en, hen, qen⟩ := List.mem_filterMap.mp mem
      exact notIn (List.mem_filterMap.mpr ⟨en, List.mem_cons_of_mem _ hen, qen⟩)
    have suit3 := inv3.suite at3 dat3 freeT offL offF
    have walk : ∀ {hl' : List ExceptHandler} {tl' : List (Value × Nat × (Addr → Value → Option Addr → TS))}, HdsN X hl' tl' → wAsMany X.K Wo D tl' ecl ed σT HT →
        wpAny (model X.prog X.w) X.A (handleBy (Value.ref ea) X.env hl') (SP X pins D) X.xe { sx with heap := hp3 } := by
      intro hl' tl' hk
      induction hk with
      | none =>
        intro wish
        refine wpAny_handleBy_nil ?_
        obtain ⟨k1, k2, k3, eo, fs, tb, tbo, tbs, eat, ezc, edt, e1, er⟩ := id flown
        unfold PySem.passOn
        refine wpAny_bind (wpAny_field eat edt e1 ?_)
        rw [if_neg (show ¬ (Value.ref tb == Value.none) = true by simp)]
        have onward : wpAny (model X.prog X.w) X.A (setFlight (Value.ref ea) X.env.frame) (fun _ s4 => wpAny (model X.prog X.w) X.A (throw (Value.ref ea) : Sem Flow) (SP X pins D) X.xe s4) X.xe { sx with heap := hp3 } := by
          rw [frm]
          refine HandSPX.setFlight_upZ flown fun hp4 hh4 up2 => wpAny_throw (out _ _ ?_)
          exact ⟨ea, Bd, sAt, pins, σT, HT, ecl, ed, rfl, invA, nb, (upT.trans up1).trans up2, .inr (.inr (by rw [stk]; exact hh4)), freeT, osT, agT, wish⟩
        first
          | exact wpAny_bind (wpAny_pure (wpAny_bind onward))
          | exact wpAny_bind onward
      | @cons cn vn c i ts st su p1 p2 hl2 tl2 slot loc nam sui rest ih =>
        intro wish
        obtain ⟨yn, exm, onYes, onNo⟩ := wish
        refine wpAny_handleBy_cons (codeAny_handlers_test ?_) (by intro y; cases y)
        have looks : PySem.W.Looks (model X.prog X.w) hp3 (typeOf (Value.ref ea)) ecl := fun A Q E s keep q => wpAny_typeOf_ref (keep _ _ at3) (by rw [zc3.1]; exact q)
        have matched := PySem.W.exm_one (M := model X.prog X.w) (inv3.kIn) looks exm
        have named : ∀ {Q : Value → Shared → Prop} {E : Value → Shared → Prop}, Q c { sx with heap := hp3 } → wpAny (model X.prog X.w) (X.A.mark (some (Value.ref ea))) (eval (.Name cn p1) X.env) Q E { sx with heap := hp3 } := by
          intro Q E q
          obtain ⟨gl, dbg, mgc | ⟨mgn, btc, nnm⟩⟩ := nam
          · exact ld_glob (X := X.suite ea ((ea, eo3) :: (X.pn ++ pins))) suit3 gl mgc q dbg
          · exact ld_blt (X := X.suite ea ((ea, eo3) :: (X.pn ++ pins))) suit3 gl mgn btc q nnm dbg
        refine named (matched.here ?_)
        cases yn with
        | false =>
          show wpAny _ X.A (handleBy (Value.ref ea) X.env hl2) _ _ _
          exact ih (onNo rfl)
        | true =>
          have isLoc : Loc X.env.scope vn := .inl loc
          apply codeAny_handlers_suite_as
          refine HandSPX.lands_againZ flown fun hp4 flown4 up2 => ?_
          have inv4 : Inv X pins σT HT { sx with heap := hp4 } := invA.landed nb flown4.1 ((upT.trans up1).trans up2) osT agT
          obtain ⟨eo4, fs4, at4, zc4, dat4⟩ := flown4.there
          have suit4 := inv4.suite at4 dat4 freeT offL offF
          refine store_ok (X := X.suite ea ((ea, eo4) :: (X.pn ++ pins))) (v := V.ref ea) suit4 hN slot isLoc rfl (fun s5 suit5 => ?_) (.inr loc)
          refine wpAny_mono ((sui ea eo4 ecl ed (X.pn ++ pins) zc4 ⟨_, dat4⟩).run [] s5 _ HT _ suit5 (onYes rfl ea freeT)) (fun fl s6 told => ?_) (fun _ _ z => False.elim z)
          have leave : ∀ {τ : L2.St} {Hτ : Hp} {Q : Shared → Prop}, Inv (X.suite ea ((ea, eo4) :: (X.pn ++ pins))) [] τ Hτ s6 → (∀ s7, Inv X pins (τ.set i none) Hτ s7 → Q s7) →
              wpAny (model X.prog X.w) X.A (do bindName X.env vn .none; unbindBehindTheSuite X.env vn p2) (fun _ s7 => Q s7) X.xe s6 := fun {τ Hτ Q} iv hq => gone_ok (iv.unsuite ok) hN slot loc hq
          cases fl with
          | ret u =>
            obtain ⟨v6, τ, Hτ, iv, rv, pv⟩ := told
            exact leave iv fun s7 jv => ⟨_, _, _, jv, rv, pv⟩
          | next =>
            obtain ⟨τ, Hτ, iv, pv⟩ := told
            exact leave iv fun s7 jv => ⟨_, _, jv, pv⟩
          | brk =>
            obtain ⟨τ, Hτ, iv, pv⟩ := told
            exact leave iv fun s7 jv => ⟨_, _, jv, pv⟩
          | cont =>
            obtain ⟨τ, Hτ, iv, pv⟩ := told
            exact leave iv fun s7 jv => ⟨_, _, jv, pv⟩
    exact walk cls wish
  · cases fl with
    | ret u =>
      obtain ⟨v, τ, Hτ, jv, rv, pv⟩ := endOf
      exact ⟨v, τ, Hτ, jv.ofTry ok, rv, pv⟩
    | next =>
      obtain ⟨τ, Hτ, jv, pv⟩ := endOf
      exact wpAny_execs_nil ⟨τ, Hτ, jv.ofTry ok, pv⟩
    | brk =>
      obtain ⟨τ, Hτ, jv, pv⟩ := endOf
      exact ⟨τ, Hτ, jv.ofTry ok, pv⟩
    | cont =>
      obtain ⟨τ, Hτ, jv, pv⟩ := endOf
      exact ⟨τ, Hτ, jv.ofTry ok, pv⟩
end
end OR

namespace OR
open PySem PySem.Spec PyProof.Rows L2
/-! ### Program(..) made or refused -/
theorem make_at {X : Cx} {CX : CXT} {k : Nat} {f C : Addr} {fd : FuncData} {ps : List Str} {sp : Sp} {E : XK} {ds : List Value} {dvs : List V} {pins : List (Addr × Obj)} {σ : L2.St} {H : Hp} {s : Shared} {Q : VK} {us : List Value} {vs : List V} (M : Mk X.K C f)
    (F : FnOk X.prog X.w X.K X.mg X.base CX k f fd ps sp) (room : Room (k + 1) X.A) (hb : Binds X.K fd ps ds) (hd : Vals dvs ds) (hx : PassesAt CX X σ E) (I : Inv X pins σ H s) (r : Vals vs us)
    (h : ∀ x dx, H x = none → H dx = none → dx ≠ x → sp (.ref x :: (vs ++ dvs)) (upd (upd H dx (.own x)) x (.ins C dx [])) (fun v H2 => v = .non ∧ Q (.ref x) H2) E) :
    wpAny (model X.prog X.w) X.A (call (.ref C) us) (EP X pins σ Q) X.xe s := by
  let n := s.heap.objs.size
  have hn := h (n + 1) n (I.hok.fresh (Nat.le_succ _)) (I.hok.fresh (Nat.le_refl _)) (Nat.ne_of_lt (Nat.lt_succ_self _))
  have J := Inv.made (C := C) I
  have rs : Vals (V.ref (n + 1) :: (vs ++ dvs)) (Value.ref (n + 1) :: (us ++ ds)) := .cons rfl (r.append hd)
  have ln : (Value.ref (n + 1) :: us ++ ds).length = ps.length := (rs.length.symm.trans (F.len _ _ _ _ hn))
  have body := F.run _ X.stack _ _ ⟨Value.ref (n + 1) :: us, []⟩ (Value.ref (n + 1) :: (us ++ ds)) _ _ E (room.make C us []) (J.env0.make C us []) (hb _ (Value.ref (n + 1) :: us) J.kIn ln) rs hn
  refine wpAny_call (make_map (f := f) I.kIn M.makes M.init (beq_iff_eq.mp M.fn) (codeAny_mono body fun r s' g => ?_))
  rcases r with e | fl
  · exact hx pins _ _ e s' J g
  cases fl with
  | ret u =>
    obtain ⟨v, H', I3, rv, ev, g3⟩ := J.after g
    subst ev
    exact ⟨rv, ⟨V.ref (n + 1), H', I3, rfl, g3⟩⟩
  | _ => exact False.elim g
theorem made_sameP {H H1 H' : Hp} {z dx C : Addr} (nz : H z = none) (ndx : H dx = none) (h : Off z (upd (upd H dx (.own z)) z (.ins C dx [])) H') : Same H H' := fun c o e => by
  have n1 : c ≠ z := ne_of_none e nz
  have n2 : c ≠ dx := ne_of_none e ndx
  exact h c o (by rw [upd_ne n1, upd_ne n2]; exact e) n1
/-- what is told: right, with a key that is no word, or with pieces that are wrong -/
def Gal (K : PySem.W.Frag) (CL CW CB : Addr) (H : Hp) (n : Int) (kvs : List (Key × V)) (ks : List Str) (E : XK) (succ : Prop) : Prop :=
  (∃ T : Tld, T.map (·.1) = ks ∧ All2 (EntA K CL H) kvs T ∧ Told n T ∧ succ) ∨
   (∃ w ∈ ks, wordB (.str w) = false ∧ (∀ u ∈ ks, wordB (.str u) = false → ¬ u.cps.toList < w.cps.toList) ∧ Raised E CW "word" (.str w) H) ∨
   ((∀ w ∈ ks, wordB (.str w) = true) ∧ ∃ J : Str → Option Nat, (∀ w ∈ ks, ∃ v, valV kvs (.inr w) = some v ∧ PcsJ K CL H n v (J w)) ∧ ∃ w ∈ ks, ∃ m : Nat, J w = some m ∧ (∀ u ∈ ks, J u ≠ none → ¬ u.cps.toList < w.cps.toList) ∧ Raised2 E CB "function" "index" (.str w) (.int m) H)
structure GMkX (P : Program) (w : World) (K : PySem.W.Frag) (mg : Str → Option Value) (base : Heap) (CG CL CW CB : Addr) : Prop where
  T : GTxt K mg CG
  made : ∃ f fd, Mk K CG f ∧ FnOk P w K mg base (L2.CX P w) 6 f fd ["self", "last", "told"] (spGInitX K CG CL CW CB) ∧ Binds K fd ["self", "last", "told"] []
def tMkGX (K : PySem.W.Frag) (CL CW CB : Addr) (E : L2.St → XK) (t : TA) : TE := fun σ H Q => t σ H fun vs H1 => ∃ (d : Addr) (n : Int) (kvs : List (Key × V)) (ks : List Str), vs = [.int n, .ref d] ∧ H1 d = some (.dK kvs) ∧ kvs.map (·.1) = ks.map Sum.inr ∧ ks.length ≤ 60 ∧ (∀ w ∈ ks, PV (.str w)) ∧ Gal K CL CW CB H1 n kvs ks (E σ) (∀ z H', Same H1 H' → Q (.ref z) H')
theorem pe_mkGX {X : Cx} {W : WX} {CG CL CW CB : Addr} {j : Nat} {e : Expr} {es : List Expr} {t : TA} {p pos : Pos} (K : PySem.W.Frag) (hK : X.K = K) (M : GMkX X.prog X.w X.K X.mg X.base CG CL CW CB) (hr : Room j X.A) (hj : 7 ≤ j) (hg : Gl X "Program") (tk : Takes X W) (ha : PA X (e :: es) t)
    (he : starEach (e :: es) X.env = (false, eval e X.env) :: starEach es X.env := by rfl) (hpl : (backTo pos (starEach es X.env)).any (·.1) = false := by rfl) : PE X (.Call (.Name "Program" p) (e :: es) [] pos) (tMkGX K CL CW CB (WE W) t) := by
  subst hK
  obtain ⟨f, fd, mk, F, hb⟩ := M.made
  refine ⟨fun pins s σ H Q I h => ?_⟩
  refine wpAny_Call_Name_kw (ld_glob I hg M.T.mgG ?_ (by decide))
  refine PySem.W.callWith_K (h₀ := X.base) I.ok.mod.kin mk.kp (thn (ha.run pos pins s σ H _ I h) fun us s1 ⟨vs, H1, I1, r, q⟩ => ⟨I1.kIn, ?_⟩) he hpl
  obtain ⟨d, n, kvs, ks, rfl, hd, hK, few, pvs, q⟩ := q
  refine make_at mk F (hr.mono hj) hb .nil (passAt tk σ) I1 r fun x dx nx ndx nex => ?_
  have s1 : Same H1 (upd (upd H1 dx (.own x)) x (.ins CG dx [])) := fun c o e => by rw [upd_ne (ne_of_none e nx), upd_ne (ne_of_none e ndx)]; exact e
  refine ⟨x, dx, d, n, kvs, ks, rfl, upd_same, s1 _ _ hd, hK, few, pvs, ?_⟩
  rcases q with ⟨T, eT, hA, hT, q⟩ | ⟨w, mw, bw, lw, q⟩ | ⟨all, J, h1, w, mw, m, jw, lw, q⟩
  · exact .inl ⟨T, eT, hA.imp fun _ _ h => h.same s1, hT, fun H' off => ⟨rfl, q x H' (made_sameP (H1 := H1) nx ndx off)⟩⟩
  · exact .inr (.inl ⟨w, mw, bw, lw, q.up s1⟩)
  · refine .inr (.inr ⟨all, J, fun u hu => ?_, w, mw, m, jw, lw, q.up s1⟩)
    obtain ⟨v, hv, hj⟩ := h1 u hu
    refine ⟨v, hv, ?_⟩
    cases h : J u with
    | none => rw [h] at hj; exact PcsG.same hj s1
    | some m => rw [h] at hj; exact PcsB.same hj s1
theorem lk_fi (x y : V) : List.lookup ("function" : Str) [(("index" : Str), x), (("function" : Str), y)] = some y := by
  rw [List.lookup_cons, show (("function" : Str) == "index") = false by decide +kernel]
  simp [List.lookup]
/-! ### the law's look at what is refused -/
def spRef (K : PySem.W.Frag) (CL CW CB : Addr) : Sp := fun vs H Q _ => ∃ (d : Addr) (n : Int) (kvs : List (Key × V)) (ks : List Str), vs = [.int n, .ref d] ∧ H d = some (.dK kvs) ∧ kvs.map (·.1) = ks.map Sum.inr ∧ ks.length ≤ 60 ∧ (∀ w ∈ ks, PV (.str w)) ∧
  ((∃ T : Tld, T.map (·.1) = ks ∧ All2 (EntA K CL H) kvs T ∧ Told n T ∧ ∀ H', Same H H' → Q .non H') ∨
   (∃ w ∈ ks, wordB (.str w) = false ∧ (∀ u ∈ ks, wordB (.str u) = false → ¬ u.cps.toList < w.cps.toList) ∧ ∀ t H', H' t = some (.tup [.str "word", .str w, .bl true]) → Same H H' → Q (.ref t) H') ∨
   ((∀ w ∈ ks, wordB (.str w) = true) ∧ ∃ J : Str → Option Nat, (∀ w ∈ ks, ∃ v, valV kvs (.inr w) = some v ∧ PcsJ K CL H n v (J w)) ∧ ∃ w ∈ ks, ∃ m : Nat, J w = some m ∧ (∀ u ∈ ks, J u ≠ none → ¬ u.cps.toList < w.cps.toList) ∧ ∀ t H', H' t = some (.tup [.str "pieces", .str w, .int m, .bl true]) → Same H H' → Q (.ref t) H'))
section
variable {P : Program} {w : World} {K : PySem.W.Frag} {mg : Str → Option Value} {base : Heap} {CL CG CW CB CR ts tw : Addr}
theorem scRef : FnScope ["_law_last_here", "_law_given", "e"] ["_law_last_here", "_law_given"] (defScope sRefused) := ⟨rfl, rfl, rfl, by decide +kernel, rfl, by decide +kernel, by decide +kernel⟩
theorem ok_ref {f : Addr} {fd : FuncData} (F : Fun K "_law_refused" "_law_refused" sRefused f fd) (zI : mg "isinstance" = none) (M : GMkX P w K mg base CG CL CW CB) (EW : ErK P w K mg base "BadWord" "word" CW CR) (EB : ErK2 P w K mg base "BadPieces" "function" "index" CB CR)
    (xBW : PySem.W.exmOne K (.ref CB) (.ref CW) = some false) : FnOk P w K mg base CX0 8 f fd ["_law_last_here", "_law_given"] (spRef K CL CW CB) := by
  obtain ⟨fI0, fd0, T0, FN0, bN0⟩ := EW.ex
  obtain ⟨fI1, fd1, T1, FN1, bN1⟩ := EB.ex
  refine F.ok scRef (fun vs H Q E h => ?_) (fun cdv A outer s H vs Q E hr h => ?_)
  · obtain ⟨d, n, kvs, ks, rfl, _⟩ := h
    rfl
  · obtain ⟨d, n, kvs, ks, rfl, hd, hK, few, pvs, alt⟩ := h
    have nd := scRef.nd
    refine ⟨_, pss_cons (ps_try_names (Wo := fun _ _ _ _ => False) rfl rfl nd takes0
        (fun W pn xe tk _ => pss_one (ps_expr (by exact (pe_mkGX K rfl M hr (by decide) (by rfl) tk (pa_cons (pv 0) (pa_cons (pv 1) pa_nil))))))
        (.cons (i := 2) rfl rfl ⟨rfl, by decide, .inl T0.gB⟩ (fun a oe cls d pn hz hf => pss_one (ps_ret (by exact (pe_tup (pa_cons pe_str (pa_cons (pe_xf T0.xf T0.noI hz hf (pv 2)) (pa_cons (pe_callB (call_isX T0.xc hz hf) (by rfl) zI bt_isi (pa_cons (pv 2) (pa_cons (pe_glob (v := .ref CR) (by rfl) T0.gR rfl) pa_nil))) pa_nil)))))))
          (.cons (i := 2) rfl rfl ⟨rfl, by decide, .inl T1.gB⟩ (fun a oe cls d pn hz hf => pss_one (ps_ret (by exact (pe_tup (pa_cons pe_str (pa_cons (pe_xf T1.xf T1.no1 hz hf (pv 2)) (pa_cons (pe_xf T1.xf T1.no2 hz hf (pv 2)) (pa_cons (pe_callB (call_isX T1.xc hz hf) (by rfl) zI bt_isi (pa_cons (pv 2) (pa_cons (pe_glob (v := .ref CR) (by rfl) T1.gR rfl) pa_nil))) pa_nil))))))))
          .none)))
      (pss_one (ps_ret pe_non)), ?_⟩
    refine ⟨_, rfl, _, rfl, d, n, kvs, ks, rfl, hd, hK, few, pvs, ?_⟩
    rcases alt with ⟨T, eT, hA, hT, q⟩ | ⟨w, mw, bw, lw, q⟩ | ⟨all, J, h1, w, mw, m, jw, lw, q⟩
    · exact .inl ⟨T, eT, hA, hT, fun z H' s' => q H' s'⟩
    · refine .inr (.inl ⟨w, mw, bw, lw, ?_⟩)
      intro d' H' nd2 hd' s'
      refine ⟨true, T0.self, fun _ a0 na0 => ?_, fun q => Bool.noConfusion q⟩
      refine ⟨_, rfl, rfl, rfl, d', _, .str w, rfl, hd', by simp [List.lookup], ?_⟩
      refine ⟨_, rfl, rfl, d', _, rfl, hd', .ref CR, .ref CR, true, rfl, (fun _ h => h), T0.kR, ?_⟩
      exact ⟨by show 3 ≤ sizeLine; decide, fun t ht => q t _ upd_same (s'.trans (same_lay ht))⟩
    · refine .inr (.inr ⟨all, J, h1, w, mw, m, jw, lw, ?_⟩)
      intro d' H' nd2 hd' s'
      refine ⟨false, xBW, (fun z => Bool.noConfusion z), fun _ => ?_⟩
      refine ⟨true, T1.self, fun _ a0 na0 => ?_, fun q => Bool.noConfusion q⟩
      refine ⟨_, rfl, rfl, rfl, d', _, .str w, rfl, hd', lk_fi _ _, ?_⟩
      refine ⟨_, rfl, rfl, rfl, d', _, .int m, rfl, hd', by simp [List.lookup], ?_⟩
      refine ⟨_, rfl, rfl, d', _, rfl, hd', .ref CR, .ref CR, true, rfl, (fun _ h => h), T1.kR, ?_⟩
      exact ⟨by show 4 ≤ sizeLine; decide, fun t ht => q t _ upd_same (s'.trans (same_lay ht))⟩
end
end OR

namespace OR
open PySem PySem.Spec PyProof.Rows L2
theorem PcA.frm {CL : Addr} {H H' : Hp} {v : V} {q : Pce} {p : Addr} {n : Nat} (h : PcA CL H v q) (F : Frm p H H') (P : Pen H p n) : PcA CL H' v q := by
  obtain ⟨t, u, e, h1, h2⟩ := h
  exact ⟨t, u, e, h1.imp (fun z => (kp_frm F P).tup z) (fun z => F.lst P z), h2.kp (kp_frm F P)⟩
theorem Spoil.frm {CL : Addr} {H H' : Hp} {n b : Int} {v : V} {p : Addr} {k : Nat} (h : Spoil CL H n b v) (F : Frm p H H') (P : Pen H p k) : Spoil CL H' n b v := h.mv (kp_frm F P) (fun _ _ e => F.lst P e) fun d e => F.at_ d _ e fun z => by
  obtain ⟨c, ns, k, l, hp, _⟩ := P
  rw [z, hp] at e
  cases e
theorem PcsG.frm {K : PySem.W.Frag} {CL : Addr} {H H' : Hp} {n : Int} {v : V} {p : Addr} {k : Nat} (h : PcsG K CL H n v) (F : Frm p H H') (P : Pen H p k) (l : ∀ z xs, v = .ref z → SqA K H z xs → SqA K H' z xs) : PcsG K CL H' n v := by
  obtain ⟨z, xs, L, e, h1, h2, h3⟩ := h
  exact ⟨z, xs, L, e, l _ _ e h1, h2.imp fun _ _ h => h.frm F P, h3⟩
theorem spo_int {CL : Addr} {G : Hp} {t : Addr} {i j n b : Int} {u : V} {l : Option LnR} (h : G t = some (.tup [.int i, .int j, u])) (hu : LnAt CL G u l) (ne : ¬ (i = b ∧ b ≤ j ∧ j ≤ n)) : Spoil CL G n b (.ref t) := by
  cases c1 : placeB i with
  | false => exact .fst (.inl h) c1
  | true =>
    cases c2 : placeB j with
    | false => exact .snd (.inl h) c1 c2
    | true => exact .off (.inl h) c1 c2 hu ne
/-- wrong pieces in a list -/
def PB (CL : Addr) (H : Hp) (n : Int) (v : V) (m : Nat) : Prop := ∃ z xs L b, v = .ref z ∧ H z = some (.lst xs) ∧ L.length = m ∧ m ≤ xs.length ∧ All2 (PcA CL H) (xs.take m) L ∧ Til L 0 b ∧ (∀ q ∈ L, Bq q) ∧ (∀ q ∈ L, q.2.1 ≤ n) ∧ ((∃ y, xs[m]? = some y ∧ Spoil CL H n b y) ∨ (m = xs.length ∧ b ≤ n))
def PBO (X : Addr → Prop) (CL : Addr) (H : Hp) (n : Int) (v : V) (m : Nat) : Prop := ∀ G' : Hp, (∀ c o, H c = some o → ¬ X c → G' c = some o) → PB CL G' n v m
/-- an address away from X -/
def LnO (X : Addr → Prop) (CL : Addr) (H : Hp) (v : V) : Option LnR → Prop
  | none => v = .non
  | some r => ∃ y, v = .ref y ∧ ¬ X y ∧ IsL CL H y r.1 r.2
def PcO (X : Addr → Prop) (CL : Addr) (H : Hp) (v : V) (q : Pce) : Prop := ∃ t u, v = .ref t ∧ ¬ X t ∧ (H t = some (.tup [.int q.1, .int q.2.1, u]) ∨ H t = some (.lst [.int q.1, .int q.2.1, u])) ∧ LnO X CL H u q.2.2
/-- all but X stays -/
def Kx (X : Addr → Prop) (H H' : Hp) : Prop := ∀ c o, H c = some o → ¬ X c → H' c = some o
theorem LnO.mv {X : Addr → Prop} {CL : Addr} {H H' : Hp} {v : V} {l : Option LnR} (h : LnO X CL H v l) (k : Kx X H H') : LnO X CL H' v l := by
  cases l with
  | none => exact h
  | some r => obtain ⟨y, e, n, dx, h⟩ := h; exact ⟨y, e, n, dx, k _ _ h n⟩
theorem LnO.at_ {X : Addr → Prop} {CL : Addr} {H : Hp} {v : V} {l : Option LnR} (h : LnO X CL H v l) : LnAt CL H v l := by
  cases l with
  | none => exact h
  | some r => obtain ⟨y, e, n, h⟩ := h; exact ⟨y, e, h⟩
theorem PcO.mv {X : Addr → Prop} {CL : Addr} {H H' : Hp} {v : V} {q : Pce} (h : PcO X CL H v q) (k : Kx X H H') : PcO X CL H' v q := by
  obtain ⟨t, u, e, n, h1, h2⟩ := h
  exact ⟨t, u, e, n, h1.imp (fun z => k _ _ z n) (fun z => k _ _ z n), h2.mv k⟩
theorem PcO.pcA {X : Addr → Prop} {CL : Addr} {H : Hp} {v : V} {q : Pce} (h : PcO X CL H v q) : PcA CL H v q := by
  obtain ⟨t, u, e, n, h1, h2⟩ := h
  exact ⟨t, u, e, h1, h2.at_⟩
theorem Kx.frm {X : Addr → Prop} {H H' : Hp} {p : Addr} (F : Frm p H H') (hp : X p) : Kx X H H' := fun c o e n => F c o e fun z => n (z ▸ hp)
theorem Kx.same {X : Addr → Prop} {H H' : Hp} (s : Same H H') : Kx X H H' := fun c o e _ => s c o e
theorem Kx.trans {X : Addr → Prop} {H G M : Hp} (a : Kx X H G) (b : Kx X G M) : Kx X H M := fun c o e n => b c o (a c o e n) n
/-- wrong, whatever becomes of l and X -/
def SpO (l : Addr) (X : Addr → Prop) (CL : Addr) (G : Hp) (n b : Int) (v : V) : Prop := ∀ G' : Hp, (∀ c o, G c = some o → c ≠ l → ¬ X c → G' c = some o) → Spoil CL G' n b v
theorem SpO.same {l CL : Addr} {X : Addr → Prop} {G G1 : Hp} {n b : Int} {v : V} (h : SpO l X CL G n b v) (s : Same G G1) : SpO l X CL G1 n b v := fun G' k => h G' fun c o e n1 n2 => k c o (s c o e) n1 n2
theorem SpO.frm {l p CL : Addr} {X : Addr → Prop} {G G1 : Hp} {n b : Int} {v : V} (h : SpO l X CL G n b v) (F : Frm p G G1) (hp : X p) : SpO l X CL G1 n b v := fun G' k => h G' fun c o e n1 n2 => k c o (F c o e fun z => n2 (z ▸ hp)) n1 n2
theorem log_plc {x : Int} (h : Plc x) : x.natAbs.log2 < 1920 := by
  have h0 := h.1
  have h1 := h.2
  by_cases c : x.natAbs = 0
  · rw [c]; decide
  · exact (Nat.log2_lt c).mpr (Nat.lt_of_le_of_lt (show x.natAbs ≤ 10 ^ 30 by omega) (Nat.lt_of_lt_of_le (show 10 ^ 30 < 2 ^ 100 by decide) (Nat.pow_le_pow_right (by decide) (by decide))))
theorem Frm.putAny {p d : Addr} {H G : Hp} {n : Nat} {o : HO} (f : Frm p H G) (P : Pen H p n) (nd : H d = none) : Frm p H (upd G d o) := by
  have ndp : d ≠ p := fun e => by
    obtain ⟨_, hp⟩ := P.dict
    rw [← e, nd] at hp
    cases hp
  refine ⟨fun b u e nb => by rw [upd_ne (ne_of_none e nd)]; exact f _ _ e nb, fun c hc => ?_⟩
  obtain ⟨k, l, e⟩ := f.ce c hc
  exact ⟨k, l, by rw [upd_ne ndp.symm]; exact e⟩
theorem cut_m1 (xs : List V) (h : 0 < xs.length) : cutV xs none (some (-1)) = xs.take (xs.length - 1) := by
  unfold cutV HT.sIx
  simp only [List.drop_zero]
  congr 1
  simp
  omega
theorem all2_take {α β : Type} {r : α → β → Prop} : ∀ {xs : List α} {ys : List β}, All2 r xs ys → ∀ k, All2 r (xs.take k) (ys.take k)
  | _, _, .nil, k => by rw [List.take_nil, List.take_nil]; exact .nil
  | _, _, .cons h t, 0 => .nil
  | _, _, .cons h t, k + 1 => .cons h (all2_take t k)
def spSpoil (K : PySem.W.Frag) (CL : Addr) : Sp := fun vs H Q _ => ∃ (p a : Addr) (xs : List V) (L : List Pce) (last : Int) (n : Nat) (X : Addr → Prop), vs = [.ref p, .ref a, .int last] ∧ H a = some (.lst xs) ∧ All2 (PcO X CL H) xs L ∧ (∀ c, X c → H c ≠ none) ∧ X p ∧ Til L 0 (last + 1) ∧ (∀ q ∈ L, Bq q) ∧ L.length ≤ 100 ∧ Plc last ∧ Pen H p n ∧ n ≤ 700000 ∧
  ∀ t l ys (m : Nat) H', ¬ X l → H' t = some (.tup [.ref l, .int m]) → H' l = some (.lst ys) → m ≤ 200 → PBO X CL H' last (.ref l) m → Pen H' p (n + 10) → Frm p H H' → Q (.ref t) H'
section
variable {P : Program} {w : World} {K : PySem.W.Frag} {mg : Str → Option Value} {base : Heap} {CL CG CW CB CR ts tw : Addr}
theorem scSpoil : FnScope ["_law_pen_here", "_law_pieces", "_law_last_here", "_law_found", "_law_at", "_law_first", "_law_end", "_law_line", "_law_way", "_law_odd"] ["_law_pen_here", "_law_pieces", "_law_last_here"] (defScope sSpoilt) := ⟨rfl, rfl, rfl, by decide +kernel, rfl, by decide +kernel, by decide +kernel⟩
set_option maxHeartbeats 4000000 in
theorem ok_spoil {f : Addr} {fd : FuncData} (F : Fun K "_law_spoilt" "_law_spoilt" sSpoilt f fd) (B : Bd mg) (zS : mg "str" = none) (D : Cl P w K mg base 1 "_law_draw" ["_law_pen_here", "_law_many"] spDraw) (PI : Cl P w K mg base 2 "_law_pick" ["_law_pen_here", "_law_items"] (spPick K)) : FnOk P w K mg base CX0 3 f fd ["_law_pen_here", "_law_pieces", "_law_last_here"] (spSpoil K CL) := by
  refine F.ok scSpoil (fun vs H Q E h => ?_) (fun cdv A outer s H vs Q E hr h => ?_)
  · obtain ⟨p, a, xs, L, last, n, X, rfl, _⟩ := h
    rfl
  · obtain ⟨p, a, xs, L, last, n, X, rfl, ha, hXO, hAl, hXp, hT, hB, hl, hla, hP, hn, R⟩ := h
    have nd := scSpoil.nd
    have hX : All2 (PcA CL H) xs L := hXO.imp fun _ _ h => h.pcA
    refine ⟨_, pss_cons (ps_par (i := 3) (j := 4) rfl nd rfl rfl (by decide) rfl rfl (pa_cons (pe_callTy call_list_of (by rfl) B.list bt_list (pa_cons (pv 1) pa_nil)) (pa_cons (pe_cl D hr (by decide) (by rfl) (pa_cons (pv 0) (pa_cons (pe_callB call_len_seq (by rfl) B.len PySem.boot_len (pa_cons (pv 1) pa_nil)) pa_nil))) pa_nil)) rfl)
      (pss_cons (ps_asg (pe_ix (ix_listK K rfl) (pv 1) (pv 4) (fun _ _ => rfl)) (pg_orD (pg_tup rfl (pgs_cons (pg_name (i := 5) nd rfl (.inl rfl)) (pgs_cons (pg_name (i := 6) nd rfl (.inl rfl)) (pgs_cons (pg_name (i := 7) nd rfl (.inl rfl)) pgs_nil)))) (pg_unl rfl (pgs_cons (pg_name (i := 5) nd rfl (.inl rfl)) (pgs_cons (pg_name (i := 6) nd rfl (.inl rfl)) (pgs_cons (pg_name (i := 7) nd rfl (.inl rfl)) pgs_nil))))))
      (pss_cons (ps_set (i := 8) nd rfl (.inl rfl) (pe_cl D hr (by decide) (by rfl) (pa_cons (pv 0) (pa_cons pe_int pa_nil))))
      (pss_cons (ps_if (pt_cmpR op_eq (pv 8) pe_int (nomark _))
          (pss_one (ps_ret (pe_tup (pa_cons (pe_slice sl_list (pv 3) po_none (po_some (pe_un un_neg pe_int))) (pa_cons (pe_op op_sub (pe_callB call_len_seq (by rfl) B.len PySem.boot_len (pa_cons (pv 3) pa_nil)) pe_int) pa_nil)))))
          pss_nil)
      (pss_cons (ps_if (pt_cmpR op_eq (pv 8) pe_int (nomark _))
          (pss_one (ps_ret (pe_tup (pa_cons (pe_op op_cat (pv 3) (pe_lst (pa_cons (pe_tup (pa_cons (pe_op op_add (pv 2) pe_int) (pa_cons (pe_op op_add (pv 2) pe_int) (pa_cons pe_non pa_nil)))) pa_nil))) (pa_cons (pe_callB call_len_seq (by rfl) B.len PySem.boot_len (pa_cons (pv 3) pa_nil)) pa_nil)))))
          pss_nil)
      (Evl.pss_cut (ps_set (i := 9) nd rfl (.inl rfl) (pe_lst (pa_cons (pe_tup (pa_cons (pe_op op_add (pv 5) pe_int) (pa_cons (pe_callB (call_max2 rfl) (by rfl) B.max bt_max (pa_cons (pe_callTy call_int1 (by rfl) B.int bt_int (pa_cons (pe_op op_add (pv 5) pe_int) pa_nil)) (pa_cons (pe_callTy call_int1 (by rfl) B.int bt_int (pa_cons (pv 6) pa_nil)) pa_nil))) (pa_cons (pv 7) pa_nil)))) (pa_cons (pe_tup (pa_cons (pv 5) (pa_cons (pe_op op_sub (pv 5) pe_int) (pa_cons (pv 7) pa_nil)))) (pa_cons (pe_tup (pa_cons (pv 5) (pa_cons (pe_op op_add (pv 2) pe_int) (pa_cons (pv 7) pa_nil)))) pa_nil)))))
      (Evl.pss_cut (ps_set (i := 9) nd rfl (.inl rfl) (pe_op op_cat (pv 9) (pe_lst (pa_cons (pe_tup (pa_cons (pv 5) (pa_cons (pv 6) pa_nil))) (pa_cons (pe_tup (pa_cons (pv 5) (pa_cons (pv 6) (pa_cons (pv 7) (pa_cons (pv 7) pa_nil))))) (pa_cons (pe_tup (pa_cons (pv 5) (pa_cons (pv 6) (pa_cons (pe_tup (pa_cons pe_int (pa_cons pe_int pa_nil))) pa_nil)))) (pa_cons (pe_tup (pa_cons (pv 5) (pa_cons (pv 6) (pa_cons pe_int pa_nil)))) (pa_cons (pe_tup (pa_cons (pe_callTy call_str_int (by rfl) zS boot_strT (pa_cons (pv 5) pa_nil)) (pa_cons (pv 6) (pa_cons (pv 7) pa_nil)))) pa_nil))))))))
      (Evl.pss_cut (ps_set (i := 9) nd rfl (.inl rfl) (pe_op op_cat (pv 9) (pe_lst (pa_cons (pe_tup (pa_cons (pv 5) (pa_cons pe_non (pa_cons (pv 7) pa_nil)))) (pa_cons pe_non (pa_cons (pe_tup (pa_cons (pv 5) (pa_cons (pv 6) (pa_cons pe_bl pa_nil)))) (pa_cons (pe_lst pa_nil) (pa_cons pe_dnewK (pa_cons (pe_tup (pa_cons (pe_op op_sub (pv 5) pe_int) (pa_cons (pv 6) (pa_cons (pv 7) pa_nil)))) (pa_cons pe_str pa_nil))))))))))
      (Evl.pss_cut (ps_set (i := 9) nd rfl (.inl rfl) (pe_op op_cat (pv 9) (pe_lst (pa_cons (pe_tup (pa_cons (pv 5) (pa_cons (pv 6) (pa_cons pe_str pa_nil)))) (pa_cons (pe_tup (pa_cons pe_bl (pa_cons (pv 6) (pa_cons (pv 7) pa_nil)))) (pa_cons (pe_tup (pa_cons (pv 5) (pa_cons pe_bl (pa_cons (pv 7) pa_nil)))) pa_nil))))))
      (pss_cons (ps_asg (pe_cl PI hr (by decide) (by rfl) (pa_cons (pv 0) (pa_cons (pv 9) pa_nil))) (pg_sub (pv 3) (pv 4) set_list))
      (pss_one (ps_ret (pe_tup (pa_cons (pv 3) (pa_cons (pv 4) pa_nil)))))))))))))), ?_⟩
    have l0 := hla.1
    have l1 := hla.2
    have lxs := hX.length
    have hX0 := hX
    have xne : 0 < xs.length := by
      rw [lxs]
      cases L with
      | nil => have : (0 : Int) = last + 1 := hT; omega
      | cons _ _ => exact Nat.succ_pos _
    refine ⟨_, rfl, a, xs, rfl, .inl (.inl (.inl ha)), fun l nl => ?_⟩
    have s1 := same_lay (o := .lst xs) nl
    have hl1 : (upd H l (.lst xs)) l = some (.lst xs) := upd_same
    have a1 := s1 _ _ ha
    have P1 := hP.same' s1
    generalize upd H l (.lst xs) = H1 at s1 hl1 a1 P1
    refine ⟨_, rfl, _, rfl, a, xs, rfl, .inl (.inl (.inl a1)), p, (xs.length : Int), _, rfl, by omega, ?_, P1, by omega, fun j H2 j0 j1 P2 F2 => ⟨_, _, rfl, ?_⟩⟩
    · exact Nat.lt_of_le_of_lt (show ((xs.length : Nat) : Int).natAbs ≤ 100 by omega) (by decide)
    have F12 := (frmS (p := p) s1).trans F2
    have a2 := F12.lst hP ha
    have hl2 := F2.lst P1 hl1
    have hX2 : All2 (PcA CL H2) xs L := hX.imp fun _ _ h => h.frm F12 hP
    obtain ⟨k, rfl⟩ : ∃ k : Nat, j = k := ⟨j.toNat, by omega⟩
    have hk : k < xs.length := by omega
    obtain ⟨q, hq, t0, u, e0, nX0, ht00, hu0⟩ := all2_get hXO (show xs[k]? = some xs[k] from List.getElem?_eq_getElem hk)
    have kx2 : Kx X H H2 := Kx.frm F12 hXp
    have ht0 := ht00.imp (fun z => kx2 _ _ z nX0) (fun z => kx2 _ _ z nX0)
    have huO := hu0.mv kx2
    have mq := List.mem_of_getElem? hq
    obtain ⟨tt, q12⟩ := til_take hT hq
    have Bq0 := hB q mq
    have lg : q.1.natAbs.log2 < 1920 := log_plc Bq0.p1
    have pf := plc_place Bq0.p1
    have pe' := plc_place Bq0.p2
    have lk : (L.take k).length = k := by rw [List.length_take]; omega
    have qn : ∀ z ∈ L, z.2.1 ≤ last := fun z hz => by have := (hT.mem z hz).2.2; omega
    refine ⟨_, rfl, _, rfl, a, _, k, _, rfl, rfl, .inl (.inl a2), atI_nat (j := k) (by rw [List.getElem?_eq_getElem hk]), ?_⟩
    rw [e0]
    refine unp3 ht0 ?_
    clear a2 F2 P1 a1 hl1 s1
    refine ⟨_, rfl, p, 4, _, rfl, by decide, by decide, P2, by omega, fun wy H3 y0 y1 P3 F3 => ⟨_, rfl, rfl, _, rfl, ite2 (fun c => ?_) (fun c => ?_)⟩⟩
    · -- the last one left out
      have F13 := F12.trans F3
      have al30 : ∀ c, X c → H3 c ≠ none := fun c hc => by
        obtain ⟨ox, hox⟩ := Option.ne_none_iff_exists'.mp (hAl c hc)
        by_cases e : c = p
        · obtain ⟨pk, hp3⟩ := P3.dict
          rw [e, hp3]; exact fun z => nomatch z
        · rw [F13 c ox hox e]; exact fun z => nomatch z
      have hl3 := F3.lst P2 hl2
      have hX3 : All2 (PcA CL H3) xs L := hX.imp fun _ _ h => h.frm F13 hP
      refine ⟨_, rfl, 1, rfl, _, rfl, l, _, rfl, .inl (.inl hl3), fun l2 nl2 => ?_⟩
      have s4 := same_lay (o := .lst (cutV xs none (some (-1)))) nl2
      have hl4 : (upd H3 l2 (.lst (cutV xs none (some (-1))))) l2 = some (.lst (xs.take (xs.length - 1))) := by rw [upd_same, cut_m1 xs xne]
      have hl34 := s4 _ _ hl3
      generalize upd H3 l2 (.lst (cutV xs none (some (-1)))) = H4 at s4 hl4 hl34
      refine ⟨_, rfl, l, xs, rfl, .inl (.inl (.inl hl34)), _, _, rfl, rfl, by show 2 ≤ sizeLine; decide, fun t nt => ?_⟩
      have s5 := same_lay (o := .tup [.ref l2, .int ((xs.length : Int) - 1)]) nt
      have s45 := s4.trans s5
      obtain ⟨q2, hq2⟩ : ∃ q2, L[xs.length - 1]? = some q2 := ⟨L[xs.length - 1]'(by omega), List.getElem?_eq_getElem _⟩
      obtain ⟨tt2, q22⟩ := til_take hT hq2
      have nx2 : ¬ X l2 := fun z => by
        obtain ⟨ox, hox⟩ := Option.ne_none_iff_exists'.mp (al30 _ z)
        rw [hox] at nl2; cases nl2
      refine R t l2 _ (xs.length - 1) _ nx2 (by rw [show (((xs.length - 1 : Nat) : Int)) = (xs.length : Int) - 1 by omega]; exact upd_same) (s5 _ _ hl4) (by omega) ?_ ((P3.same' s45).mono (by omega)) (F13.trans (frmS s45))
      intro G' kG
      refine ⟨l2, _, L.take (xs.length - 1), q2.1, rfl, kG _ _ (s5 _ _ hl4) nx2, by rw [List.length_take]; omega, by rw [List.length_take]; omega, ?_, tt2, (fun z hz => hB z (List.mem_of_mem_take hz)), (fun z hz => qn z (List.mem_of_mem_take hz)), .inr ⟨by rw [List.length_take]; omega, ?_⟩⟩
      · rw [List.take_take, Nat.min_self]
        exact all2_take (hXO.imp fun _ _ h => (h.mv ((Kx.frm (F13.trans (frmS s45)) hXp).trans kG)).pcA) _
      · have := qn q2 (List.mem_of_getElem? hq2); omega
    refine ⟨_, rfl, rfl, _, rfl, ite2 (fun c => ?_) (fun c => ?_)⟩
    · -- one more
      have F13 := F12.trans F3
      have al30 : ∀ c, X c → H3 c ≠ none := fun c hc => by
        obtain ⟨ox, hox⟩ := Option.ne_none_iff_exists'.mp (hAl c hc)
        by_cases e : c = p
        · obtain ⟨pk, hp3⟩ := P3.dict
          rw [e, hp3]; exact fun z => nomatch z
        · rw [F13 c ox hox e]; exact fun z => nomatch z
      have hl3 := F3.lst P2 hl2
      have hX3 : All2 (PcA CL H3) xs L := hX.imp fun _ _ h => h.frm F13 hP
      refine ⟨_, rfl, _, rfl, _, _, rfl, rfl, _, rfl, _, _, rfl, rfl, by show 3 ≤ sizeLine; decide, fun t1 nt1 => ⟨by show 1 ≤ sizeLine; decide, fun l2 nl2 => ?_⟩⟩
      have s4 := same_lay (o := .tup [.int (last + 1), .int (last + 1), .non]) nt1
      have ht4 : (upd H3 t1 (.tup [.int (last + 1), .int (last + 1), .non])) t1 = some (.tup [.int (last + 1), .int (last + 1), .non]) := upd_same
      generalize upd H3 t1 (.tup [.int (last + 1), .int (last + 1), .non]) = H4 at s4 ht4 nl2
      have s5 := same_lay (o := .lst [.ref t1]) nl2
      have hl5 : (upd H4 l2 (.lst [.ref t1])) l2 = some (.lst [.ref t1]) := upd_same
      generalize upd H4 l2 (.lst [.ref t1]) = H5 at s5 hl5
      have s45 := s4.trans s5
      refine ⟨l, l2, _, _, rfl, rfl, s45 _ _ hl3, hl5, Nat.le_trans (show xs.length + 1 ≤ 1000 by omega) (by decide), fun l3 nl3 => ?_⟩
      have s6 := same_lay (o := .lst (xs ++ [.ref t1])) nl3
      have hl6 : (upd H5 l3 (.lst (xs ++ [.ref t1]))) l3 = some (.lst (xs ++ [.ref t1])) := upd_same
      generalize upd H5 l3 (.lst (xs ++ [.ref t1])) = H6 at s6 hl6
      have s46 := s45.trans s6
      refine ⟨_, rfl, l, xs, rfl, .inl (.inl (.inl (s46 _ _ hl3))), by show 2 ≤ sizeLine; decide, fun t nt => ?_⟩
      have s7 := same_lay (o := .tup [.ref l3, .int (xs.length : Int)]) nt
      have s47 := s46.trans s7
      have nx3 : ¬ X l3 := fun z => by
        obtain ⟨ox, hox⟩ := Option.ne_none_iff_exists'.mp (al30 _ z)
        rw [s45 _ _ hox] at nl3; cases nl3
      have nx1 : ¬ X t1 := fun z => by
        obtain ⟨ox, hox⟩ := Option.ne_none_iff_exists'.mp (al30 _ z)
        rw [hox] at nt1; cases nt1
      refine R t l3 _ xs.length _ nx3 upd_same (s7 _ _ hl6) (by omega) ?_ ((P3.same' s47).mono (by omega)) (F13.trans (frmS s47))
      intro G' kG
      refine ⟨l3, _, L, last + 1, rfl, kG _ _ (s7 _ _ hl6) nx3, by omega, by rw [List.length_append]; omega, ?_, hT, hB, qn, .inl ⟨.ref t1, by simp, ?_⟩⟩
      · rw [List.take_append_of_le_length (Nat.le_refl _), List.take_length]
        exact hXO.imp fun _ _ h => (h.mv ((Kx.frm (F13.trans (frmS s47)) hXp).trans kG)).pcA
      · exact spo_int (kG _ _ (((s5.trans s6).trans s7) _ _ ht4) nx1) (l := none) rfl (fun z => by omega)
    -- an odd one in its place
    have F13 := F12.trans F3
    have hl3 := F3.lst P2 hl2
    have hX3 : All2 (PcA CL H3) xs L := hX.imp fun _ _ h => h.frm F13 hP
    have al3 : ∀ c, X c → H3 c ≠ none := fun c hc => by
      obtain ⟨ox, hox⟩ := Option.ne_none_iff_exists'.mp (hAl c hc)
      by_cases e : c = p
      · obtain ⟨pk, hp3⟩ := P3.dict
        rw [e, hp3]; exact fun z => nomatch z
      · rw [F13 c ox hox e]; exact fun z => nomatch z
    have hu' : ∀ G' : Hp, (∀ c o, H3 c = some o → c ≠ l → ¬ X c → G' c = some o) → LnAt CL G' u q.2.2 := fun G' k => by
      have hu3 := huO.mv (Kx.frm F3 hXp)
      cases hl : q.2.2 with
      | none => rw [hl] at hu3; exact hu3
      | some r =>
        rw [hl] at hu3
        obtain ⟨y, e, n, dx, h⟩ := hu3
        exact ⟨y, e, dx, k _ _ h (ne_of h hl3 (by intro z; cases z)) n⟩
    let S : Option V → L2.St := fun s9 => [some (.ref p), some (.ref a), some (.int last), some (.ref l), some (.int (k : Nat)), some (.int q.1), some (.int q.2.1), some u, some (.int wy), s9]
    let I : Nat → L2.St → Hp → Prop := fun N σ G => ∃ o vs, σ = S (some (.ref o)) ∧ G o = some (.lst vs) ∧ 0 < vs.length ∧ vs.length ≤ N ∧ (∀ v ∈ vs, SpO l X CL G last q.1 v) ∧ Same H3 G
    clear hX2 hl2 hX ht0
    refine ⟨I 3, ?_, ?_⟩
    · have sA : Same H3 H3 := Same.refl _
      refine ⟨_, rfl, _, _, rfl, rfl, _, rfl, _, _, rfl, rfl, .inl ⟨_, rfl, _, rfl, .inl ⟨_, rfl, _, _, rfl, _, rfl, by show 3 ≤ sizeLine; decide, fun t1 nt1 => ?_⟩⟩⟩
      have sK1 := same_lay (o := .tup [.int (q.1 + 1), .int (if q.2.1 > q.1 + 1 then q.2.1 else q.1 + 1), u]) nt1
      have e1 : (upd H3 t1 (.tup [.int (q.1 + 1), .int (if q.2.1 > q.1 + 1 then q.2.1 else q.1 + 1), u])) t1 = some (.tup [.int (q.1 + 1), .int (if q.2.1 > q.1 + 1 then q.2.1 else q.1 + 1), u]) := upd_same
      generalize upd H3 t1 (.tup [.int (q.1 + 1), .int (if q.2.1 > q.1 + 1 then q.2.1 else q.1 + 1), u]) = K1 at sK1 e1
      have nl1 : t1 ≠ l := fun z => by rw [z, sA _ _ hl3] at nt1; cases nt1
      have np1 : ¬ X t1 := fun z => by
        obtain ⟨ox, hox⟩ := Option.ne_none_iff_exists'.mp (al3 _ z)
        rw [sA _ _ hox] at nt1; cases nt1
      have z1 : SpO l X CL K1 last q.1 (.ref t1) := fun G' kk => spo_int (kk _ _ e1 nl1 np1) (hu' G' fun b o e n1 n2 => kk b o ((sA.trans sK1) b o e) n1 n2) (fun z => by omega)
      have sA := sA.trans sK1
      refine ⟨_, rfl, _, rfl, _, _, rfl, rfl, _, rfl, by show 3 ≤ sizeLine; decide, fun t2 nt2 => ?_⟩
      have sK2 := same_lay (o := .tup [.int q.1, .int (q.1 - 1), u]) nt2
      have e2 : (upd K1 t2 (.tup [.int q.1, .int (q.1 - 1), u])) t2 = some (.tup [.int q.1, .int (q.1 - 1), u]) := upd_same
      generalize upd K1 t2 (.tup [.int q.1, .int (q.1 - 1), u]) = K2 at sK2 e2
      have nl2 : t2 ≠ l := fun z => by rw [z, sA _ _ hl3] at nt2; cases nt2
      have np2 : ¬ X t2 := fun z => by
        obtain ⟨ox, hox⟩ := Option.ne_none_iff_exists'.mp (al3 _ z)
        rw [sA _ _ hox] at nt2; cases nt2
      have z2 : SpO l X CL K2 last q.1 (.ref t2) := fun G' kk => spo_int (kk _ _ e2 nl2 np2) (hu' G' fun b o e n1 n2 => kk b o ((sA.trans sK2) b o e) n1 n2) (fun z => by omega)
      have z1 := z1.same sK2
      have sA := sA.trans sK2
      refine ⟨_, rfl, _, rfl, _, _, rfl, rfl, _, rfl, by show 3 ≤ sizeLine; decide, fun t3 nt3 => ?_⟩
      have sK3 := same_lay (o := .tup [.int q.1, .int (last + 1), u]) nt3
      have e3 : (upd K2 t3 (.tup [.int q.1, .int (last + 1), u])) t3 = some (.tup [.int q.1, .int (last + 1), u]) := upd_same
      generalize upd K2 t3 (.tup [.int q.1, .int (last + 1), u]) = K3 at sK3 e3
      have nl3 : t3 ≠ l := fun z => by rw [z, sA _ _ hl3] at nt3; cases nt3
      have np3 : ¬ X t3 := fun z => by
        obtain ⟨ox, hox⟩ := Option.ne_none_iff_exists'.mp (al3 _ z)
        rw [sA _ _ hox] at nt3; cases nt3
      have z3 : SpO l X CL K3 last q.1 (.ref t3) := fun G' kk => spo_int (kk _ _ e3 nl3 np3) (hu' G' fun b o e n1 n2 => kk b o ((sA.trans sK3) b o e) n1 n2) (fun z => by omega)
      have z1 := z1.same sK3
      have z2 := z2.same sK3
      have sA := sA.trans sK3
      refine ⟨by show 3 ≤ sizeLine; decide, fun lz nz => ?_⟩
      have sZ := same_lay (o := .lst [.ref t1, .ref t2, .ref t3]) nz
      have eZ : (upd K3 lz (.lst [.ref t1, .ref t2, .ref t3])) lz = some (.lst [.ref t1, .ref t2, .ref t3]) := upd_same
      generalize upd K3 lz (.lst [.ref t1, .ref t2, .ref t3]) = KZ at sZ eZ
      refine ⟨lz, _, rfl, eZ, by simp, by show 3 ≤ 3; decide, fun v hv => ?_, sA.trans sZ⟩
      simp only [List.mem_cons, List.not_mem_nil, or_false] at hv
      rcases hv with rfl | rfl | rfl
      · exact z1.same sZ
      · exact z2.same sZ
      · exact z3.same sZ
    rintro σ G0 ⟨o, vs, rfl, ho, hvs0, hvs, hsp, sG0⟩
    refine ⟨I 8, ?_, ?_⟩
    · have sA : Same H3 G0 := sG0
      have sB : Same G0 G0 := Same.refl _
      refine ⟨_, rfl, _, rfl, _, rfl, by show 2 ≤ sizeLine; decide, fun t1 nt1 => ?_⟩
      have sK1 := same_lay (o := .tup [.int q.1, .int q.2.1]) nt1
      have e1 : (upd G0 t1 (.tup [.int q.1, .int q.2.1])) t1 = some (.tup [.int q.1, .int q.2.1]) := upd_same
      generalize upd G0 t1 (.tup [.int q.1, .int q.2.1]) = K1 at sK1 e1
      have nl1 : t1 ≠ l := fun z => by rw [z, sA _ _ hl3] at nt1; cases nt1
      have np1 : ¬ X t1 := fun z => by
        obtain ⟨ox, hox⟩ := Option.ne_none_iff_exists'.mp (al3 _ z)
        rw [sA _ _ hox] at nt1; cases nt1
      have z1 : SpO l X CL K1 last q.1 (.ref t1) := fun G' kk => .len (.inl (kk _ _ e1 nl1 np1)) (by show 2 ≠ 3; decide) (by show 2 ≤ 1000; decide)
      have sA := sA.trans sK1
      have sB := sB.trans sK1
      refine ⟨_, rfl, _, rfl, _, rfl, _, rfl, by show 4 ≤ sizeLine; decide, fun t2 nt2 => ?_⟩
      have sK2 := same_lay (o := .tup [.int q.1, .int q.2.1, u, u]) nt2
      have e2 : (upd K1 t2 (.tup [.int q.1, .int q.2.1, u, u])) t2 = some (.tup [.int q.1, .int q.2.1, u, u]) := upd_same
      generalize upd K1 t2 (.tup [.int q.1, .int q.2.1, u, u]) = K2 at sK2 e2
      have nl2 : t2 ≠ l := fun z => by rw [z, sA _ _ hl3] at nt2; cases nt2
      have np2 : ¬ X t2 := fun z => by
        obtain ⟨ox, hox⟩ := Option.ne_none_iff_exists'.mp (al3 _ z)
        rw [sA _ _ hox] at nt2; cases nt2
      have z2 : SpO l X CL K2 last q.1 (.ref t2) := fun G' kk => .len (.inl (kk _ _ e2 nl2 np2)) (by show 4 ≠ 3; decide) (by show 4 ≤ 1000; decide)
      have z1 := z1.same sK2
      have sA := sA.trans sK2
      have sB := sB.trans sK2
      refine ⟨_, rfl, _, rfl, by show 2 ≤ sizeLine; decide, fun ti nti => ?_⟩
      have sAi0 := sA
      have sKi := same_lay (o := .tup [.int 1, .int 2]) nti
      have ei : (upd K2 ti (.tup [.int 1, .int 2])) ti = some (.tup [.int 1, .int 2]) := upd_same
      generalize upd K2 ti (.tup [.int 1, .int 2]) = Ki at sKi ei
      have z1 := z1.same sKi
      have z2 := z2.same sKi
      have sA := sA.trans sKi
      have sB := sB.trans sKi
      refine ⟨by show 3 ≤ sizeLine; decide, fun t3 nt3 => ?_⟩
      have sK3 := same_lay (o := .tup [.int q.1, .int q.2.1, .ref ti]) nt3
      have sA3 := sA.trans sK3
      have e3 : (upd Ki t3 (.tup [.int q.1, .int q.2.1, .ref ti])) t3 = some (.tup [.int q.1, .int q.2.1, .ref ti]) := upd_same
      generalize upd Ki t3 (.tup [.int q.1, .int q.2.1, .ref ti]) = K3 at sK3 e3 sA3
      have nli : ti ≠ l := ne_of (sK3 _ _ ei) (sA3 _ _ hl3) (by intro z; cases z)
      have npi : ¬ X ti := fun z => by
        obtain ⟨ox, hox⟩ := Option.ne_none_iff_exists'.mp (al3 _ z)
        rw [sAi0 _ _ hox] at nti; cases nti
      have nl3 : t3 ≠ l := ne_of e3 (sA3 _ _ hl3) (by intro z; cases z)
      have np3 : ¬ X t3 := fun z => by
        obtain ⟨ox, hox⟩ := Option.ne_none_iff_exists'.mp (al3 _ z)
        rw [sA _ _ hox] at nt3; cases nt3
      have z3 : SpO l X CL K3 last q.1 (.ref t3) := fun G' kk => .trd (.inl (kk _ _ e3 nl3 np3)) pf pe' ⟨_, kk _ _ (sK3 _ _ ei) nli npi⟩
      have z1 := z1.same sK3
      have z2 := z2.same sK3
      have sA := sA.trans sK3
      have sB := sB.trans sK3
      refine ⟨_, rfl, _, rfl, by show 3 ≤ sizeLine; decide, fun t4 nt4 => ?_⟩
      have sK4 := same_lay (o := .tup [.int q.1, .int q.2.1, .int 5]) nt4
      have e4 : (upd K3 t4 (.tup [.int q.1, .int q.2.1, .int 5])) t4 = some (.tup [.int q.1, .int q.2.1, .int 5]) := upd_same
      generalize upd K3 t4 (.tup [.int q.1, .int q.2.1, .int 5]) = K4 at sK4 e4
      have nl4 : t4 ≠ l := fun z => by rw [z, sA _ _ hl3] at nt4; cases nt4
      have np4 : ¬ X t4 := fun z => by
        obtain ⟨ox, hox⟩ := Option.ne_none_iff_exists'.mp (al3 _ z)
        rw [sA _ _ hox] at nt4; cases nt4
      have z4 : SpO l X CL K4 last q.1 (.ref t4) := fun G' kk => .trd (.inl (kk _ _ e4 nl4 np4)) pf pe' trivial
      have z1 := z1.same sK4
      have z2 := z2.same sK4
      have z3 := z3.same sK4
      have sA := sA.trans sK4
      have sB := sB.trans sK4
      refine ⟨_, rfl, _, rfl, lg, _, rfl, _, rfl, by show 3 ≤ sizeLine; decide, fun t5 nt5 => ?_⟩
      have sK5 := same_lay (o := .tup [.str (toString q.1), .int q.2.1, u]) nt5
      have e5 : (upd K4 t5 (.tup [.str (toString q.1), .int q.2.1, u])) t5 = some (.tup [.str (toString q.1), .int q.2.1, u]) := upd_same
      generalize upd K4 t5 (.tup [.str (toString q.1), .int q.2.1, u]) = K5 at sK5 e5
      have nl5 : t5 ≠ l := fun z => by rw [z, sA _ _ hl3] at nt5; cases nt5
      have np5 : ¬ X t5 := fun z => by
        obtain ⟨ox, hox⟩ := Option.ne_none_iff_exists'.mp (al3 _ z)
        rw [sA _ _ hox] at nt5; cases nt5
      have z5 : SpO l X CL K5 last q.1 (.ref t5) := fun G' kk => .fst (.inl (kk _ _ e5 nl5 np5)) trivial
      have z1 := z1.same sK5
      have z2 := z2.same sK5
      have z3 := z3.same sK5
      have z4 := z4.same sK5
      have sA := sA.trans sK5
      have sB := sB.trans sK5
      refine ⟨by show 5 ≤ sizeLine; decide, fun lz nz => ?_⟩
      have sZ := same_lay (o := .lst [.ref t1, .ref t2, .ref t3, .ref t4, .ref t5]) nz
      have eZ : (upd K5 lz (.lst [.ref t1, .ref t2, .ref t3, .ref t4, .ref t5])) lz = some (.lst [.ref t1, .ref t2, .ref t3, .ref t4, .ref t5]) := upd_same
      generalize upd K5 lz (.lst [.ref t1, .ref t2, .ref t3, .ref t4, .ref t5]) = KZ at sZ eZ
      refine ⟨o, lz, vs, _, rfl, rfl, (sB.trans sZ) _ _ ho, eZ, Nat.le_trans (show vs.length + 5 ≤ 1000 by omega) (by decide), fun lc nc => ?_⟩
      have sC := same_lay (o := .lst (vs ++ [.ref t1, .ref t2, .ref t3, .ref t4, .ref t5])) nc
      refine ⟨lc, _, rfl, upd_same, by rw [List.length_append]; omega, by rw [List.length_append]; show vs.length + 5 ≤ 8; omega, fun v hv => ?_, (sA.trans sZ).trans sC⟩
      rcases List.mem_append.mp hv with hv | hv
      · exact (hsp v hv).same ((sB.trans sZ).trans sC)
      · simp only [List.mem_cons, List.not_mem_nil, or_false] at hv
        rcases hv with rfl | rfl | rfl | rfl | rfl
        · exact z1.same (sZ.trans sC)
        · exact z2.same (sZ.trans sC)
        · exact z3.same (sZ.trans sC)
        · exact z4.same (sZ.trans sC)
        · exact z5.same (sZ.trans sC)
    rintro σ G0 ⟨o, vs, rfl, ho, hvs0, hvs, hsp, sG0⟩
    refine ⟨I 15, ?_, ?_⟩
    · have sA : Same H3 G0 := sG0
      have sB : Same G0 G0 := Same.refl _
      refine ⟨_, rfl, _, rfl, _, rfl, by show 3 ≤ sizeLine; decide, fun t1 nt1 => ?_⟩
      have sK1 := same_lay (o := .tup [.int q.1, .non, u]) nt1
      have e1 : (upd G0 t1 (.tup [.int q.1, .non, u])) t1 = some (.tup [.int q.1, .non, u]) := upd_same
      generalize upd G0 t1 (.tup [.int q.1, .non, u]) = K1 at sK1 e1
      have nl1 : t1 ≠ l := fun z => by rw [z, sA _ _ hl3] at nt1; cases nt1
      have np1 : ¬ X t1 := fun z => by
        obtain ⟨ox, hox⟩ := Option.ne_none_iff_exists'.mp (al3 _ z)
        rw [sA _ _ hox] at nt1; cases nt1
      have z1 : SpO l X CL K1 last q.1 (.ref t1) := fun G' kk => .snd (.inl (kk _ _ e1 nl1 np1)) pf trivial
      have sA := sA.trans sK1
      have sB := sB.trans sK1
      refine ⟨_, rfl, _, rfl, by show 3 ≤ sizeLine; decide, fun t2 nt2 => ?_⟩
      have sK2 := same_lay (o := .tup [.int q.1, .int q.2.1, .bl true]) nt2
      have e2 : (upd K1 t2 (.tup [.int q.1, .int q.2.1, .bl true])) t2 = some (.tup [.int q.1, .int q.2.1, .bl true]) := upd_same
      generalize upd K1 t2 (.tup [.int q.1, .int q.2.1, .bl true]) = K2 at sK2 e2
      have nl2 : t2 ≠ l := fun z => by rw [z, sA _ _ hl3] at nt2; cases nt2
      have np2 : ¬ X t2 := fun z => by
        obtain ⟨ox, hox⟩ := Option.ne_none_iff_exists'.mp (al3 _ z)
        rw [sA _ _ hox] at nt2; cases nt2
      have z2 : SpO l X CL K2 last q.1 (.ref t2) := fun G' kk => .trd (.inl (kk _ _ e2 nl2 np2)) pf pe' trivial
      have z1 := z1.same sK2
      have sA := sA.trans sK2
      have sB := sB.trans sK2
      refine ⟨by show 0 ≤ sizeLine; decide, fun t3 nt3 => ?_⟩
      have sK3 := same_lay (o := .lst []) nt3
      have e3 : (upd K2 t3 (.lst [])) t3 = some (.lst []) := upd_same
      generalize upd K2 t3 (.lst []) = K3 at sK3 e3
      have nl3 : t3 ≠ l := fun z => by rw [z, sA _ _ hl3] at nt3; cases nt3
      have np3 : ¬ X t3 := fun z => by
        obtain ⟨ox, hox⟩ := Option.ne_none_iff_exists'.mp (al3 _ z)
        rw [sA _ _ hox] at nt3; cases nt3
      have z3 : SpO l X CL K3 last q.1 (.ref t3) := fun G' kk => .len (.inr (kk _ _ e3 nl3 np3)) (by decide) (by decide)
      have z1 := z1.same sK3
      have z2 := z2.same sK3
      have sA := sA.trans sK3
      have sB := sB.trans sK3
      refine fun t4 nt4 => ?_
      have sK4 := same_lay (o := .dK []) nt4
      have e4 : (upd K3 t4 (.dK [])) t4 = some (.dK []) := upd_same
      generalize upd K3 t4 (.dK []) = K4 at sK4 e4
      have nl4 : t4 ≠ l := fun z => by rw [z, sA _ _ hl3] at nt4; cases nt4
      have np4 : ¬ X t4 := fun z => by
        obtain ⟨ox, hox⟩ := Option.ne_none_iff_exists'.mp (al3 _ z)
        rw [sA _ _ hox] at nt4; cases nt4
      have z4 : SpO l X CL K4 last q.1 (.ref t4) := fun G' kk => .dic (kk _ _ e4 nl4 np4)
      have z1 := z1.same sK4
      have z2 := z2.same sK4
      have z3 := z3.same sK4
      have sA := sA.trans sK4
      have sB := sB.trans sK4
      refine ⟨_, rfl, _, _, rfl, rfl, _, rfl, _, rfl, by show 3 ≤ sizeLine; decide, fun t5 nt5 => ?_⟩
      have sK5 := same_lay (o := .tup [.int (q.1 - 1), .int q.2.1, u]) nt5
      have e5 : (upd K4 t5 (.tup [.int (q.1 - 1), .int q.2.1, u])) t5 = some (.tup [.int (q.1 - 1), .int q.2.1, u]) := upd_same
      generalize upd K4 t5 (.tup [.int (q.1 - 1), .int q.2.1, u]) = K5 at sK5 e5
      have nl5 : t5 ≠ l := fun z => by rw [z, sA _ _ hl3] at nt5; cases nt5
      have np5 : ¬ X t5 := fun z => by
        obtain ⟨ox, hox⟩ := Option.ne_none_iff_exists'.mp (al3 _ z)
        rw [sA _ _ hox] at nt5; cases nt5
      have z5 : SpO l X CL K5 last q.1 (.ref t5) := fun G' kk => spo_int (kk _ _ e5 nl5 np5) (hu' G' fun b o e n1 n2 => kk b o ((sA.trans sK5) b o e) n1 n2) (fun z => by omega)
      have z1 := z1.same sK5
      have z2 := z2.same sK5
      have z3 := z3.same sK5
      have z4 := z4.same sK5
      have sA := sA.trans sK5
      have sB := sB.trans sK5
      refine ⟨by show 7 ≤ sizeLine; decide, fun lz nz => ?_⟩
      have sZ := same_lay (o := .lst [.ref t1, .non, .ref t2, .ref t3, .ref t4, .ref t5, .str "abc"]) nz
      have eZ : (upd K5 lz (.lst [.ref t1, .non, .ref t2, .ref t3, .ref t4, .ref t5, .str "abc"])) lz = some (.lst [.ref t1, .non, .ref t2, .ref t3, .ref t4, .ref t5, .str "abc"]) := upd_same
      generalize upd K5 lz (.lst [.ref t1, .non, .ref t2, .ref t3, .ref t4, .ref t5, .str "abc"]) = KZ at sZ eZ
      refine ⟨o, lz, vs, _, rfl, rfl, (sB.trans sZ) _ _ ho, eZ, Nat.le_trans (show vs.length + 7 ≤ 1000 by omega) (by decide), fun lc nc => ?_⟩
      have sC := same_lay (o := .lst (vs ++ [.ref t1, .non, .ref t2, .ref t3, .ref t4, .ref t5, .str "abc"])) nc
      refine ⟨lc, _, rfl, upd_same, by rw [List.length_append]; omega, by rw [List.length_append]; show vs.length + 7 ≤ 15; omega, fun v hv => ?_, (sA.trans sZ).trans sC⟩
      rcases List.mem_append.mp hv with hv | hv
      · exact (hsp v hv).same ((sB.trans sZ).trans sC)
      · simp only [List.mem_cons, List.not_mem_nil, or_false] at hv
        rcases hv with rfl | rfl | rfl | rfl | rfl | rfl | rfl
        · exact z1.same (sZ.trans sC)
        · exact fun _ _ => .non
        · exact z2.same (sZ.trans sC)
        · exact z3.same (sZ.trans sC)
        · exact z4.same (sZ.trans sC)
        · exact z5.same (sZ.trans sC)
        · exact fun _ _ => .str _
    rintro σ G0 ⟨o, vs, rfl, ho, hvs0, hvs, hsp, sG0⟩
    refine ⟨I 18, ?_, ?_⟩
    · have sA : Same H3 G0 := sG0
      have sB : Same G0 G0 := Same.refl _
      refine ⟨_, rfl, _, rfl, _, rfl, by show 3 ≤ sizeLine; decide, fun t1 nt1 => ?_⟩
      have sK1 := same_lay (o := .tup [.int q.1, .int q.2.1, .str "x"]) nt1
      have e1 : (upd G0 t1 (.tup [.int q.1, .int q.2.1, .str "x"])) t1 = some (.tup [.int q.1, .int q.2.1, .str "x"]) := upd_same
      generalize upd G0 t1 (.tup [.int q.1, .int q.2.1, .str "x"]) = K1 at sK1 e1
      have nl1 : t1 ≠ l := fun z => by rw [z, sA _ _ hl3] at nt1; cases nt1
      have np1 : ¬ X t1 := fun z => by
        obtain ⟨ox, hox⟩ := Option.ne_none_iff_exists'.mp (al3 _ z)
        rw [sA _ _ hox] at nt1; cases nt1
      have z1 : SpO l X CL K1 last q.1 (.ref t1) := fun G' kk => .trd (.inl (kk _ _ e1 nl1 np1)) pf pe' trivial
      have sA := sA.trans sK1
      have sB := sB.trans sK1
      refine ⟨_, rfl, _, rfl, by show 3 ≤ sizeLine; decide, fun t2 nt2 => ?_⟩
      have sK2 := same_lay (o := .tup [.bl false, .int q.2.1, u]) nt2
      have e2 : (upd K1 t2 (.tup [.bl false, .int q.2.1, u])) t2 = some (.tup [.bl false, .int q.2.1, u]) := upd_same
      generalize upd K1 t2 (.tup [.bl false, .int q.2.1, u]) = K2 at sK2 e2
      have nl2 : t2 ≠ l := fun z => by rw [z, sA _ _ hl3] at nt2; cases nt2
      have np2 : ¬ X t2 := fun z => by
        obtain ⟨ox, hox⟩ := Option.ne_none_iff_exists'.mp (al3 _ z)
        rw [sA _ _ hox] at nt2; cases nt2
      have z2 : SpO l X CL K2 last q.1 (.ref t2) := fun G' kk => .fst (.inl (kk _ _ e2 nl2 np2)) trivial
      have z1 := z1.same sK2
      have sA := sA.trans sK2
      have sB := sB.trans sK2
      refine ⟨_, rfl, _, rfl, by show 3 ≤ sizeLine; decide, fun t3 nt3 => ?_⟩
      have sK3 := same_lay (o := .tup [.int q.1, .bl true, u]) nt3
      have e3 : (upd K2 t3 (.tup [.int q.1, .bl true, u])) t3 = some (.tup [.int q.1, .bl true, u]) := upd_same
      generalize upd K2 t3 (.tup [.int q.1, .bl true, u]) = K3 at sK3 e3
      have nl3 : t3 ≠ l := fun z => by rw [z, sA _ _ hl3] at nt3; cases nt3
      have np3 : ¬ X t3 := fun z => by
        obtain ⟨ox, hox⟩ := Option.ne_none_iff_exists'.mp (al3 _ z)
        rw [sA _ _ hox] at nt3; cases nt3
      have z3 : SpO l X CL K3 last q.1 (.ref t3) := fun G' kk => .snd (.inl (kk _ _ e3 nl3 np3)) pf trivial
      have z1 := z1.same sK3
      have z2 := z2.same sK3
      have sA := sA.trans sK3
      have sB := sB.trans sK3
      refine ⟨by show 3 ≤ sizeLine; decide, fun lz nz => ?_⟩
      have sZ := same_lay (o := .lst [.ref t1, .ref t2, .ref t3]) nz
      have eZ : (upd K3 lz (.lst [.ref t1, .ref t2, .ref t3])) lz = some (.lst [.ref t1, .ref t2, .ref t3]) := upd_same
      generalize upd K3 lz (.lst [.ref t1, .ref t2, .ref t3]) = KZ at sZ eZ
      refine ⟨o, lz, vs, _, rfl, rfl, (sB.trans sZ) _ _ ho, eZ, Nat.le_trans (show vs.length + 3 ≤ 1000 by omega) (by decide), fun lc nc => ?_⟩
      have sC := same_lay (o := .lst (vs ++ [.ref t1, .ref t2, .ref t3])) nc
      refine ⟨lc, _, rfl, upd_same, by rw [List.length_append]; omega, by rw [List.length_append]; show vs.length + 3 ≤ 18; omega, fun v hv => ?_, (sA.trans sZ).trans sC⟩
      rcases List.mem_append.mp hv with hv | hv
      · exact (hsp v hv).same ((sB.trans sZ).trans sC)
      · simp only [List.mem_cons, List.not_mem_nil, or_false] at hv
        rcases hv with rfl | rfl | rfl
        · exact z1.same (sZ.trans sC)
        · exact z2.same (sZ.trans sC)
        · exact z3.same (sZ.trans sC)
    rintro σ G0 ⟨o, vs, rfl, ho, hvs0, hvs, hsp, sG0⟩
    refine ⟨_, rfl, _, rfl, p, o, vs, _, rfl, .inl (.inl ho), hvs0, by omega, P3.same' sG0, by omega, fun v G1 hv PG FG => ?_⟩
    have FA := (frmS (p := p) sG0).trans FG
    have hlG := FA.lst P3 hl3
    have vsp := (hsp v hv).frm FG hXp
    refine ⟨_, rfl, _, rfl, l, xs, k, k, rfl, rfl, hlG, (by unfold ixN; rw [if_pos (by omega), if_pos (by omega)]; rfl), ?_⟩
    have FT : Frm p H (upd G1 l (.lst (xs.set k v))) := (F13.trans FA).putAny hP nl
    have PT : Pen (upd G1 l (.lst (xs.set k v))) p _ := hP.putNew PG (F13.trans FA) nl hlG
    have kT : ∀ c o, G1 c = some o → c ≠ l → (upd G1 l (.lst (xs.set k v))) c = some o := fun c o e n1 => by rw [upd_ne n1]; exact e
    have hlT : (upd G1 l (.lst (xs.set k v))) l = some (.lst (xs.set k v)) := upd_same
    generalize upd G1 l (.lst (xs.set k v)) = GT at FT PT kT hlT
    refine ⟨_, rfl, _, rfl, by show 2 ≤ sizeLine; decide, fun t nt => ?_⟩
    have s9 := same_lay (o := .tup [.ref l, .int (k : Nat)]) nt
    have FT9 := FT.trans (frmS s9)
    have nxl : ¬ X l := fun z => by
      obtain ⟨ox, hox⟩ := Option.ne_none_iff_exists'.mp (hAl _ z)
      rw [hox] at nl; cases nl
    refine R t l _ k _ nxl upd_same (s9 _ _ hlT) (by omega) ?_ ((PT.same' s9).mono (by omega)) FT9
    intro G' kG
    refine ⟨l, _, L.take k, q.1, rfl, kG _ _ (s9 _ _ hlT) nxl, lk, by rw [List.length_set]; omega, ?_, tt, (fun z hz => hB z (List.mem_of_mem_take hz)), (fun z hz => qn z (List.mem_of_mem_take hz)), .inl ⟨v, ?_, vsp _ fun c o e n1 n2 => kG _ _ (s9 _ _ (kT c o e n1)) n2⟩⟩
    · rw [List.take_set_of_le (Nat.le_refl _)]
      exact all2_take (hXO.imp fun _ _ h => (h.mv ((Kx.frm FT9 hXp).trans kG)).pcA) _
    · rw [List.getElem?_set_self hk]
end
end OR

namespace OR
open PySem PySem.Spec PyProof.Rows L2
open TL (tl numL)
theorem notW {s : Str} {c : Nat} (h : c ∈ tl s) (hc : c < 97) : wordB (.str s) = false := by
  show wordS s = false
  unfold wordS
  have : (tl s).all (fun c => decide (c ∈ letters.cps.toList)) = false := by
    rw [List.all_eq_false]
    refine ⟨c, h, ?_⟩
    have e : letters.cps.toList = (List.range 26).map (· + 97) := by decide +kernel
    rw [e]
    simp only [decide_eq_true_eq]
    intro m
    obtain ⟨d, _, e2⟩ := List.mem_map.mp m
    omega
  rw [this, Bool.and_false, Bool.and_false]
theorem longW {s : Str} (h : 8 < s.length) : wordB (.str s) = false := by
  show wordS s = false
  unfold wordS
  rw [decide_eq_false (show ¬ s.length ≤ 8 by omega), Bool.false_and, Bool.and_false]
theorem word_smallS {s : Str} (h : Word s) : SmallS s := fun c hc => by have := h.az c hc; omega
theorem smallS_app {a b : Str} (ha : SmallS a) (hb : SmallS b) : SmallS (a ++ b) := fun c hc => by
  have e : tl (a ++ b) = tl a ++ tl b := by show (a.cps ++ b.cps).toList = _; rw [Array.toList_append]
  rw [e] at hc
  rcases List.mem_append.mp hc with h | h
  · exact ha c h
  · exact hb c h
theorem tl_appS (a b : Str) : tl (a ++ b) = tl a ++ tl b := by show (a.cps ++ b.cps).toList = _; rw [Array.toList_append]
theorem len_appS (a b : Str) : (a ++ b).length = a.length + b.length := by show (a.cps ++ b.cps).size = _; rw [Array.size_append]; rfl
theorem tl_upper {s : Str} (h : Word s) : tl (Txt.upper s) = (tl s).map PyProof.Rows.up1 := by
  rw [PyProof.Rows.upper_ascii (x := s) (fun c hc => by have := h.az c hc; omega)]
  show (s.cps.map PyProof.Rows.up1).toList = _
  rw [Array.toList_map]
theorem upper_not {s : Str} (h : Word s) : wordB (.str (Txt.upper s)) = false ∧ SmallS (Txt.upper s) ∧ (Txt.upper s).length ≤ 100 := by
  have e := tl_upper h
  have up : ∀ c ∈ tl s, PyProof.Rows.up1 c = c - 32 := fun c hc => by
    unfold PyProof.Rows.up1
    rw [if_pos (h.az c hc)]
  have hl : (tl s).length = s.length := by rw [← TL.len_tl]
  have hp := h.pos
  have h8 := h.len
  refine ⟨?_, fun c hc => ?_, ?_⟩
  · cases hx : tl s with
    | nil => rw [hx] at hl; simp at hl; omega
    | cons c r =>
      have m : c ∈ tl s := by rw [hx]; exact List.mem_cons_self
      have a := h.az c m
      exact notW (c := c - 32) (by rw [e, ← up c m]; exact List.mem_map.mpr ⟨c, m, rfl⟩) (by omega)
  · rw [e] at hc
    obtain ⟨d, hd, e2⟩ := List.mem_map.mp hc
    rw [up d hd] at e2
    have := h.az d hd
    omega
  · rw [TL.len_tl, e, List.length_map, hl]
    omega
def oddK (s : Str) : List Str := ["", Txt.upper s, s ++ "0", s ++ " ", "abcdefghi", "_" ++ s, "9"]
theorem oddK_ok {s : Str} (h : Word s) {v : Str} (hv : v ∈ oddK s) : PV (.str v) ∧ wordB (.str v) = false := by
  have hs := word_smallS h
  have h8 := h.len
  unfold oddK at hv
  simp only [List.mem_cons, List.not_mem_nil, or_false] at hv
  rcases hv with e | e | e | e | e | e | e <;> subst e
  · exact ⟨pv_str (by decide) (by intro c hc; revert c; decide), by decide +kernel⟩
  · obtain ⟨a, b, c⟩ := upper_not h
    exact ⟨pv_str c b, a⟩
  · refine ⟨pv_str (by rw [len_appS]; show s.length + 1 ≤ 100; omega) (smallS_app hs (by intro c hc; revert c; decide)), notW (c := 48) (by rw [tl_appS]; exact List.mem_append_right _ (by decide)) (by decide)⟩
  · refine ⟨pv_str (by rw [len_appS]; show s.length + 1 ≤ 100; omega) (smallS_app hs (by intro c hc; revert c; decide)), notW (c := 32) (by rw [tl_appS]; exact List.mem_append_right _ (by decide)) (by decide)⟩
  · exact ⟨pv_str (by decide) (by intro c hc; revert c; decide), by decide +kernel⟩
  · refine ⟨pv_str (by rw [len_appS]; show 1 + s.length ≤ 100; omega) (smallS_app (by intro c hc; revert c; decide) hs), notW (c := 95) (by rw [tl_appS]; exact List.mem_append_left _ (by decide)) (by decide)⟩
  · exact ⟨pv_str (by decide) (by intro c hc; revert c; decide), by decide +kernel⟩
def spOddK : Sp := fun vs H Q _ => ∃ (p : Addr) (w : Str) (n : Nat), vs = [.ref p, .str w] ∧ Word w ∧ Pen H p n ∧ n ≤ 800000 ∧ ∀ k H', PV (.str k) → wordB (.str k) = false → Pen H' p (n + 1) → Frm p H H' → Q (.str k) H'
section
variable {P : Program} {w : World} {K : PySem.W.Frag} {mg : Str → Option Value} {base : Heap}
theorem scOddK : FnScope ["_law_pen_here", "_law_word"] ["_law_pen_here", "_law_word"] (defScope sOddKey) := ⟨rfl, rfl, rfl, by decide +kernel, rfl, by decide +kernel, by decide +kernel⟩
theorem ok_oddK {f : Addr} {fd : FuncData} (F : Fun K "_law_odd_key" "_law_odd_key" sOddKey f fd) (PI : Cl P w K mg base 2 "_law_pick" ["_law_pen_here", "_law_items"] (spPick K)) : FnOk P w K mg base CX0 3 f fd ["_law_pen_here", "_law_word"] spOddK := by
  refine F.ok scOddK (fun vs H Q E h => ?_) (fun cdv A outer s H vs Q E hr h => ?_)
  · obtain ⟨p, w, n, rfl, _⟩ := h
    rfl
  · obtain ⟨p, w, n, rfl, hw, hP, hn, R⟩ := h
    have hlen := hw.len
    refine ⟨_, pss_one (ps_ret (pe_cl PI hr (by decide) (by rfl) (pa_cons (pv 0) (pa_cons (pe_lst (pa_cons pe_str (pa_cons (pe_upper (pv 1)) (pa_cons (pe_op op_add_str (pv 1) pe_str) (pa_cons (pe_op op_add_str (pv 1) pe_str) (pa_cons pe_str (pa_cons (pe_op op_add_str pe_str (pv 1)) (pa_cons pe_str pa_nil)))))))) pa_nil)))), ?_⟩
    refine ⟨_, rfl, _, rfl, ⟨w, rfl⟩, w, rfl, rfl, by omega, _, rfl, _, _, rfl, rfl, sz1 (by show w.length + 1 ≤ 20000; omega), _, rfl, _, _, rfl, rfl, sz1 (by show w.length + 1 ≤ 20000; omega), _, rfl, _, _, rfl, rfl, sz1 (by show 1 + w.length ≤ 20000; omega), by show 7 ≤ sizeLine; decide, fun l nl => ?_⟩
    refine ⟨p, l, (oddK w).map V.str, n, rfl, .inl (.inl upd_same), by show 0 < 7; decide, by show 7 ≤ 1000; decide, hP.new nl, by omega, fun v H1 hv P1 F1 => ?_⟩
    obtain ⟨k, hk, rfl⟩ := List.mem_map.mp hv
    obtain ⟨a, b⟩ := oddK_ok hw hk
    exact R k H1 a b P1 ((Frm.new nl).trans F1)
end
end OR

namespace OR
open PySem PySem.Spec PyProof.Rows L2
open TL (tl numL)
def dT (n : Int) : Str := Str.ofString (toString n)
theorem str_ext {a b : Str} (h : tl a = tl b) : a = b := TL.ext_tl h
theorem app_assoc (a b c : Str) : (a ++ b) ++ c = a ++ (b ++ c) := str_ext (by rw [TL.tl_append, TL.tl_append, TL.tl_append, TL.tl_append, List.append_assoc])
theorem tl_dT {n : Int} (h : 0 ≤ n) : tl (dT n) = numL n.toNat := by
  have e : n = ((n.toNat : Nat) : Int) := (Int.toNat_of_nonneg h).symm
  unfold dT
  rw [e]
  exact TL.tl_num _
theorem dT_len {n : Int} {k : Nat} (h0 : 0 ≤ n) (hk : 0 < k) (h : n < 10 ^ k) : (dT n).length ≤ k := by
  rw [TL.len_tl, tl_dT h0]
  refine TL.numL_len hk ?_
  have : ((n.toNat : Nat) : Int) < ((10 ^ k : Nat) : Int) := by
    rw [Int.toNat_of_nonneg h0]
    have e : ((10 ^ k : Nat) : Int) = (10 : Int) ^ k := by simp
    rw [e]
    exact h
  exact Int.ofNat_lt.mp this
theorem dT_free {n : Int} {s : Nat} (h0 : 0 ≤ n) (h : s < 48 ∨ 57 < s) : s ∉ tl (dT n) := by
  rw [tl_dT h0]
  exact TL.numL_free h
theorem dT_digits {n : Int} (h0 : 0 ≤ n) : ∀ c ∈ tl (dT n), 48 ≤ c ∧ c ≤ 57 := by
  rw [tl_dT h0]
  exact fun c hc => TL.numL_digits _ c hc
theorem dT_ne {n : Int} (h0 : 0 ≤ n) : tl (dT n) ≠ [] := by
  rw [tl_dT h0]
  exact TL.numL_ne _
theorem numL_head (n : Nat) : (numL n).head? = some 48 → n = 0 := by
  induction n using Nat.strongRecOn with
  | _ n ih =>
    intro h
    by_cases hn : n < 10
    · rw [TL.numL_lt hn] at h
      have : 48 + n = 48 := Option.some.inj h
      omega
    · rw [TL.numL_step (by omega)] at h
      have hne := TL.numL_ne (n / 10)
      cases hl : numL (n / 10) with
      | nil => exact absurd hl hne
      | cons c r =>
        rw [hl] at h
        have := ih (n / 10) (by omega) (by rw [hl]; exact h)
        omega
theorem dT_int {n : Int} (h0 : 0 ≤ n) (h : n < 10 ^ 60) : intText? (dT n) = some n := by
  have e : n = ((n.toNat : Nat) : Int) := (Int.toNat_of_nonneg h0).symm
  have hl : (numL n.toNat).length ≤ 4300 := by
    have := dT_len h0 (by decide) h
    rw [TL.len_tl, tl_dT h0] at this
    omega
  have := TL.int_num hl
  unfold dT
  rw [e]
  exact this
def noBlank (w : Str) : Prop := 32 ∉ tl w
theorem blank_tl : tl (" " : Str) = [32] := by decide
theorem dT_noBlank {n : Int} (h : 0 ≤ n) : noBlank (dT n) := dT_free h (.inl (by decide))
theorem noBlank_app {a b : Str} (ha : noBlank a) (hb : noBlank b) : noBlank (a ++ b) := by
  unfold noBlank
  rw [TL.tl_append]
  exact fun h => (List.mem_append.mp h).elim ha hb
def jn (ws : List Str) : Str := Txt.join (" " : Str) ws
theorem split_jn {ws : List Str} (h : ws ≠ []) (hb : ∀ w ∈ ws, noBlank w) : Txt.split (jn ws) (" " : Str) = ws := TL.split_join blank_tl (by decide +kernel) h hb
theorem jn_snoc : ∀ {ws : List Str} (w : Str), ws ≠ [] → jn (ws ++ [w]) = (jn ws ++ (" " : Str)) ++ w := by
  intro ws w h
  unfold jn
  rw [TL.join_eq, TL.join_eq]
  induction ws with
  | nil => exact absurd rfl h
  | cons a r ih =>
    cases r with
    | nil => rfl
    | cons b r =>
      show a ++ (" " : Str) ++ Str.join (" " : Str) (b :: (r ++ [w])) = a ++ (" " : Str) ++ Str.join (" " : Str) (b :: r) ++ (" " : Str) ++ w
      have := ih (by simp)
      rw [List.cons_append] at this
      rw [this]
      simp only [app_assoc]
/-- what the reading of words gives -/
theorem risingS_pair : ∀ (l : List Str) (p : Str), risingS p l = true → Asc (p :: l)
  | [], p, _ => by unfold Asc; simp
  | x :: r, p, h => by
    have h2 : (!ltCps x.cps.toList p.cps.toList && risingS x r) = true := h
    rw [Bool.and_eq_true, Bool.not_eq_true', ltCps_eq, decide_eq_false_iff_not] at h2
    have ih : Asc (x :: r) := risingS_pair r x h2.2
    unfold Asc at ih ⊢
    refine List.pairwise_cons.mpr ⟨fun y hy => ?_, ih⟩
    rcases List.mem_cons.mp hy with e | m
    · subst e; exact h2.1
    · have h3 := (List.pairwise_cons.mp ih).1 y m
      exact List.not_lt.mpr (List.le_trans (List.not_lt.mp h2.1) (List.not_lt.mp h3))
theorem sortedS_asc {l : List Str} (h : sortedS l = true) : Asc l := by
  cases l with
  | nil => exact List.Pairwise.nil
  | cons x r => exact risingS_pair r x h

/-! ### what is due, as texts -/
def cell (e : Str × Nat) : Str := (e.1 ++ (" " : Str)) ++ dT (e.2 : Nat)
theorem tl_cell (e : Str × Nat) : tl (cell e) = tl e.1 ++ 32 :: tl (dT (e.2 : Nat)) := by
  unfold cell
  rw [TL.tl_append, TL.tl_append, blank_tl, List.append_assoc]
  rfl
theorem word_noBlank {w : Str} (h : Word w) : noBlank w := fun m => by have := h.az 32 m; omega
theorem split_cell {e : Str × Nat} (h : Word e.1) : Txt.split (cell e) (" " : Str) = [e.1, dT (e.2 : Nat)] := by
  have : cell e = jn [e.1, dT (e.2 : Nat)] := by
    have := jn_snoc (ws := [e.1]) (dT (e.2 : Nat)) (by simp)
    exact this.symm
  rw [this]
  refine split_jn (by simp) fun w hw => ?_
  simp only [List.mem_cons, List.not_mem_nil, or_false] at hw
  rcases hw with rfl | rfl
  · exact word_noBlank h
  · exact dT_noBlank (Int.natCast_nonneg _)
theorem lt_app : ∀ {l m x y : List Nat}, (∀ c ∈ m, 97 ≤ c) → l < m → l ++ 32 :: x < m ++ 32 :: y
  | [], [], _, _, _, h => absurd h (List.lt_irrefl _)
  | [], c :: m, x, y, hm, _ => by
    have := hm c List.mem_cons_self
    rw [List.nil_append, List.cons_append, List.cons_lt_cons_iff]
    exact .inl (by omega)
  | a :: l, [], _, _, _, h => absurd h (by simp)
  | a :: l, c :: m, x, y, hm, h => by
    rw [List.cons_append, List.cons_append, List.cons_lt_cons_iff]
    rw [List.cons_lt_cons_iff] at h
    rcases h with h | ⟨h1, h2⟩
    · exact .inl h
    · exact .inr ⟨h1, lt_app (fun z hz => hm z (List.mem_cons_of_mem _ hz)) h2⟩
theorem cell_lt {e d : Str × Nat} (hd : Word d.1) (h : e.1.cps.toList < d.1.cps.toList) : (cell e).cps.toList < (cell d).cps.toList := by
  have h : tl e.1 < tl d.1 := h
  show tl (cell e) < tl (cell d)
  rw [tl_cell, tl_cell]
  exact lt_app (fun c hc => (hd.az c hc).1) h
theorem asc_hd {x y : Str} {r : List Str} (h : Asc (x :: r)) (m : y ∈ x :: r) : ¬ y.cps.toList < x.cps.toList := by
  rcases List.mem_cons.mp m with e | e
  · rw [e]; exact List.lt_irrefl _
  · exact (List.pairwise_cons.mp h).1 y e
theorem dT_small {n : Nat} : SmallS (dT (n : Nat)) := fun c hc => by have := dT_digits (Int.natCast_nonneg n) c hc; omega
theorem dT_nat_len {n : Nat} (h : n ≤ 999) : (dT (n : Nat)).length ≤ 3 := dT_len (Int.natCast_nonneg n) (by decide) (by show (n : Int) < 10 ^ 3; omega)
end OR

namespace OR
open PySem PySem.Spec PyProof.Rows L2
/-- what stays when the pen or a filled dict changes -/
structure K4 (H H' : Hp) : Prop where
  kp : KP H H'
  l : ∀ a ys, H a = some (.lst ys) → H' a = some (.lst ys)
  e : ∀ d, H d = some (.dK []) → H' d = some (.dK [])
theorem K4.same {H H' : Hp} (s : Same H H') : K4 H H' := ⟨kp_same s, fun _ _ e => s _ _ e, fun _ e => s _ _ e⟩
theorem K4.trans {H G M : Hp} (a : K4 H G) (b : K4 G M) : K4 H M := ⟨a.kp.trans b.kp, fun _ _ e => b.l _ _ (a.l _ _ e), fun _ e => b.e _ (a.e _ e)⟩
theorem K4.frm {H H' : Hp} {p : Addr} {k : Nat} (F : Frm p H H') (P : Pen H p k) : K4 H H' := ⟨kp_frm F P, fun _ _ e => F.lst P e, fun d e => F.at_ d _ e fun z => by
  obtain ⟨c, ns, k, l, hp, _⟩ := P
  rw [z, hp] at e
  cases e⟩
theorem K4.put {H : Hp} {d : Addr} {kvs : List (Key × V)} {o : HO} (h : H d = some (.dK kvs)) (ne : kvs ≠ []) : K4 H (upd H d o) := ⟨kp_dk h, fun a ys e => by rw [upd_ne (ne_of e h (by intro z; cases z))]; exact e, fun a e => by
  rw [upd_ne (fun z => by rw [z, h] at e; exact ne (by injection (Option.some.inj e)))]
  exact e⟩
theorem PcA.mv {CL : Addr} {H H' : Hp} {v : V} {q : Pce} (h : PcA CL H v q) (kp : KP H H') (l : ∀ a ys, H a = some (.lst ys) → H' a = some (.lst ys)) : PcA CL H' v q := by
  obtain ⟨t, u, e, h1, h2⟩ := h
  exact ⟨t, u, e, h1.imp kp.tup (l _ _), h2.kp kp⟩
/-- right pieces -/
def Gp (CL : Addr) (H : Hp) (n : Int) (v : V) : Prop := ∃ z xs L, v = .ref z ∧ (H z = some (.tup xs) ∨ H z = some (.lst xs)) ∧ All2 (PcA CL H) xs L ∧ Til L 0 (n + 1) ∧ (∀ q ∈ L, Bq q) ∧ L.length ≤ 6
theorem Gp.mv {CL : Addr} {H H' : Hp} {n : Int} {v : V} (h : Gp CL H n v) (kp : KP H H') (l : ∀ a ys, H a = some (.lst ys) → H' a = some (.lst ys)) : Gp CL H' n v := by
  obtain ⟨z, xs, L, e, h1, h2, h3⟩ := h
  exact ⟨z, xs, L, e, h1.imp kp.tup (l _ _), h2.imp fun _ _ h => h.mv kp l, h3⟩
def GpO (X : Addr → Prop) (CL : Addr) (H : Hp) (n : Int) (v : V) : Prop := ∃ z xs L, v = .ref z ∧ ¬ X z ∧ (H z = some (.tup xs) ∨ H z = some (.lst xs)) ∧ All2 (PcO X CL H) xs L ∧ Til L 0 (n + 1) ∧ (∀ q ∈ L, Bq q) ∧ L.length ≤ 6
theorem GpO.mv {X : Addr → Prop} {CL : Addr} {H H' : Hp} {n : Int} {v : V} (h : GpO X CL H n v) (k : Kx X H H') : GpO X CL H' n v := by
  obtain ⟨z, xs, L, e, nz, h1, h2, h3⟩ := h
  exact ⟨z, xs, L, e, nz, h1.imp (fun e => k _ _ e nz) (fun e => k _ _ e nz), h2.imp fun _ _ h => h.mv k, h3⟩
theorem Gp.o {X : Addr → Prop} {CL : Addr} {H : Hp} {n : Int} {v : V} (h : Gp CL H n v) (sep : ∀ c o, H c = some o → (∀ kvs, o ≠ .dK kvs) → ¬ X c) : GpO X CL H n v := by
  obtain ⟨z, xs, L, e, h1, h2, h3⟩ := h
  have two : ∀ {t : Addr} {ys : List V}, (H t = some (.tup ys) ∨ H t = some (.lst ys)) → ¬ X t := fun h => h.elim (fun e => sep _ _ e fun _ z => nomatch z) (fun e => sep _ _ e fun _ z => nomatch z)
  refine ⟨z, xs, L, e, two h1, h1, h2.imp fun v q ⟨t, u, e, h4, h5⟩ => ⟨t, u, e, two h4, h4, ?_⟩, h3⟩
  revert h5
  generalize q.2.2 = l
  intro h5
  cases l with
  | none => exact h5
  | some r => obtain ⟨y, e, dx, hy⟩ := h5; exact ⟨y, e, sep _ _ hy (fun _ z => nomatch z), dx, hy⟩
def VJ (X : Addr → Prop) (CL : Addr) (H : Hp) (n : Int) (v : V) : Option Nat → Prop
  | none => GpO X CL H n v
  | some m => PBO X CL H n v m
theorem VJ.mv {X : Addr → Prop} {CL : Addr} {H H' : Hp} {n : Int} {v : V} {j : Option Nat} (h : VJ X CL H n v j) (k : Kx X H H') : VJ X CL H' n v j := by
  cases j with
  | none => exact GpO.mv h k
  | some m => exact fun G kG => h G fun c o e nx => kG c o (k c o e nx) nx
theorem VJ.pcs {X : Addr → Prop} {K : PySem.W.Frag} {CL : Addr} {H : Hp} {n : Int} {v : V} {j : Option Nat} (h : VJ X CL H n v j) : PcsJ K CL H n v j := by
  cases j with
  | none =>
    obtain ⟨z, xs, L, e, nz, h1, h2, h3, h4, _⟩ := h
    exact ⟨z, xs, L, e, h1.elim (fun e => .inr (.inl (.inl e))) (fun e => .inl (.inl (.inl e))), h2.imp fun _ _ h => h.pcA, h3, h4⟩
  | some m =>
    obtain ⟨z, xs, L, b, e, h1, h2⟩ := h H fun _ _ e _ => e
    exact ⟨z, xs, L, b, e, .inl (.inl (.inl h1)), h2⟩
theorem putK_keys {kvs : List (Key × V)} {k : Key} {v : V} (h : k ∈ kvs.map (·.1)) : (putK kvs k v).map (·.1) = kvs.map (·.1) := by
  obtain ⟨e, he, ek⟩ := List.mem_map.mp h
  unfold putK
  rw [if_pos (by rw [List.any_eq_true]; exact ⟨e, he, by simpa using ek⟩), List.map_map]
  refine List.map_congr_left fun d _ => ?_
  show (if d.1 = k then (d.1, v) else d).1 = d.1
  split <;> rfl
theorem val_no {kvs : List (Key × V)} {k : Key} (h : k ∉ kvs.map (·.1)) : valV kvs k = none := by
  cases e : valV kvs k with
  | none => rfl
  | some v => exact absurd (valV_in e) h
/-- the dict's entries, from its keys and its values -/
theorem ent_of {K : PySem.W.Frag} {CL : Addr} {H : Hp} {n : Int} : ∀ {kvs : List (Key × V)} {ws : List Str}, kvs.map (·.1) = ws.map Sum.inr → ws.Nodup → (∀ w ∈ ws, ∃ v, valV kvs (.inr w) = some v ∧ Gp CL H n v) → ∃ T : Tld, T.map (·.1) = ws ∧ All2 (EntA K CL H) kvs T ∧ ∀ e ∈ T, Til e.2 0 (n + 1) ∧ (∀ q ∈ e.2, Bq q) ∧ e.2.length ≤ 6
  | [], [], _, _, _ => ⟨[], rfl, .nil, fun _ z => nomatch z⟩
  | [], _ :: _, h, _, _ => by cases h
  | _ :: _, [], h, _, _ => by cases h
  | e :: kvs, w :: ws, h, nd, hv => by
    injection h with h1 h2
    have h1 : e.1 = .inr w := h1
    rw [List.nodup_cons] at nd
    obtain ⟨v, hvv, z, xs, L, ev, g1, g2, g3, g4, g5⟩ := hv w List.mem_cons_self
    rw [valV_pos h1] at hvv
    have hvv : e.2 = v := Option.some.inj hvv
    obtain ⟨T, eT, hA, hT⟩ := ent_of (K := K) (CL := CL) (H := H) (n := n) h2 nd.2 fun w' hw' => by
      obtain ⟨v', hv', g⟩ := hv w' (List.mem_cons_of_mem _ hw')
      rw [valV_neg (by rw [h1]; intro c; exact nd.1 (by rw [Sum.inr.inj c]; exact hw'))] at hv'
      exact ⟨v', hv', g⟩
    refine ⟨(w, L) :: T, by rw [List.map_cons, eT], .cons ⟨h1, z, xs, by rw [hvv, ev], g1.elim (fun e => .inr (.inl (.inl e))) (fun e => .inl (.inl (.inl e))), g2⟩ hA, fun t ht => ?_⟩
    rcases List.mem_cons.mp ht with rfl | m
    · exact ⟨g3, g4, g5⟩
    · exact hT t m
/-- which words are spoilt, and where -/
def Jf (ds : List (Str × Nat)) (w : Str) : Option Nat := (ds.find? fun d => decide (d.1 = w)).map (·.2)
theorem Jf_not {ds : List (Str × Nat)} {w : Str} (h : w ∉ ds.map (·.1)) : Jf ds w = none := by
  unfold Jf
  rw [List.find?_eq_none.mpr fun d hd => by
    have : d.1 ≠ w := fun e => h (List.mem_map.mpr ⟨d, hd, e⟩)
    simpa using this]
  rfl
theorem Jf_snoc {ds : List (Str × Nat)} {w u : Str} {m : Nat} (h : w ∉ ds.map (·.1)) : Jf (ds ++ [(w, m)]) u = if u = w then some m else Jf ds u := by
  by_cases e : u = w
  · subst e
    have := Jf_not h
    unfold Jf at this ⊢
    rw [List.find?_append]
    cases hf : ds.find? (fun d => decide (d.1 = u)) with
    | none => simp
    | some d => rw [hf] at this; cases this
  · rw [if_neg e]
    unfold Jf
    rw [List.find?_append]
    cases hf : ds.find? (fun d => decide (d.1 = u)) with
    | none =>
      have : ¬ w = u := fun z => e z.symm
      simp [this]
    | some d => rfl
theorem Jf_in {ds : List (Str × Nat)} (nd : (ds.map (·.1)).Nodup) {d : Str × Nat} (h : d ∈ ds) : Jf ds d.1 = some d.2 := by
  induction ds with
  | nil => cases h
  | cons a r ih =>
    rw [List.map_cons, List.nodup_cons] at nd
    unfold Jf
    rw [List.find?_cons]
    rcases List.mem_cons.mp h with e | m
    · subst e; simp
    · have ne : ¬ a.1 = d.1 := fun z => nd.1 (List.mem_map.mpr ⟨d, m, z.symm⟩)
      rw [decide_eq_false ne]
      exact ih nd.2 m
theorem Jf_some {ds : List (Str × Nat)} {w : Str} (h : Jf ds w ≠ none) : ∃ d ∈ ds, d.1 = w := by
  unfold Jf at h
  cases hf : ds.find? (fun d => decide (d.1 = w)) with
  | none => rw [hf] at h; exact absurd rfl h
  | some d => exact ⟨d, List.mem_of_find?_eq_some hf, by simpa using List.find?_some hf⟩
end OR

namespace OR
open PySem PySem.Spec PyProof.Rows L2
open TL (tl numL)
def spLaw (K : PySem.W.Frag) : Sp := fun vs H Q _ => ∃ (a : Addr) (ns : List Int), vs = [.ref a] ∧ SqL K H a (ns.map V.int) ∧ ns.length ≤ 63 ∧ ∀ H', Q (.bl true) H'
structure FnG (P : Program) (w : World) (K : PySem.W.Frag) (mg : Str → Option Value) (base : Heap) (k : Nat) (f : Addr) (fd : FuncData) (ps : List Str) (sp : Sp) : Prop where
  len : ∀ vs H Q E, sp vs H Q E → vs.length = ps.length
  go : ∀ (A : Around) (outer : List Env) (s : Shared) (H : Hp) (args : Args) (us : List Value) (vs : List V) (Q : VK) (E : XK), A.guards = some [] → Room k A → Env0 P w K mg base A outer s H → BindsTo s fd args (ps.zip us) → Vals vs us → sp vs H Q E →
    codeAny (model P w) A (.call (.ref f) args) (CR CX0 outer P w H s Q E) s
section
variable {P : Program} {w : World} {K : PySem.W.Frag} {mg : Str → Option Value} {base : Heap}
theorem okG {x qual : Str} {st : Stmt} {f : Addr} {fd : FuncData} {N ps : List Str} {k : Nat} {sp : Sp} (F : Fun K x qual st f fd) (S : FnScope N ps (defScope st)) (len : ∀ vs H Q E, sp vs H Q E → vs.length = ps.length)
    (body : ∀ (cdv : Value) (A : Around) (outer : List Env) (s : Shared) (H : Hp) (vs : List V) (Q : VK) (E : XK), (A.deeper (envOfC qual (defScope st) s.heap.objs.size f cdv)).guards = some [] → Room k (A.deeper (envOfC qual (defScope st) s.heap.objs.size f cdv)) → sp vs H Q E →
      ∃ t, PSs (cxOf CX0 P w K mg base N qual (defScope st) f cdv A outer s H E).nox (defBody st) t ∧ t { nx := fun _ H' => Q .non H', rt := Q } (start N vs) H) : FnG P w K mg base (k + 1) f fd ps sp := by
  obtain ⟨oc, od, kV, doc, pm, an, cdv, ct, osl, rfl, lk, hcd⟩ := F.ex
  refine ⟨len, fun A outer s H args us vs Q E hg hr e0 hb r hsp => ?_⟩
  obtain ⟨t, ht, hq⟩ := body cdv A outer s H vs Q E hg (hr.deeper _) hsp
  have keep : ∀ b o, base.get? b = some o → s.heap.get? b = some o := fun b o e => (e0.bs b o e).1
  have hk : ∀ y ∈ ps.zip us, (defScope st).names.lookup y.1 = some .local ∨ ((defScope st).names.lookup y.1 = some .cell ∧ ((cellsFrom (s.heap.objs.size + 1) (defScope st).names []).lookup y.1).isSome = true) := fun ⟨n, v⟩ hy =>
    (S.par n (List.of_mem_zip hy).1).imp id fun q => ⟨q, PySem.W.cellsFrom_some _ _ _ (.inl q)⟩
  refine codeAny_call_function hr.depth (e0.mod.kin.keeps keep _ _ lk) rfl S.co S.gen rfl (PySem.W.codeRec_of (e0.mod.kin.keeps keep) hcd) (hb _ _ _ _ (wpAny_newFunctionEnv_cells S.kind hk fun env he s1 x => ?_))
  subst he
  refine ⟨(e0.mod.nolimit.keeps keep).keeps x.toInCall.keep, codeAny_func (wpAny_mono (ht.nox.run [] s1 (start N vs) H _ (inv_start S hr.hd e0 (len _ _ _ _ hsp) r x) hq) (fun fl s' hs => ?_) fun e s' hs => hs)⟩
  have fin : ∀ {σ' : L2.St} {H' : Hp} {v : V} {u : Value}, Inv (cxOf CX0 P w K mg base N qual (defScope st) f cdv A outer s H E) [] σ' H' s' → RelV v u → Q v H' → CE outer P w H s Q u s' := fun J rv q => ⟨_, _, J.os, J.bare, J.base, J.hok, rv, q⟩
  cases fl with
  | ret u => obtain ⟨v, σ', H', J, rv, q⟩ := hs; exact fin J rv q
  | next => obtain ⟨σ', H', J, q⟩ := hs; exact fin (v := V.non) (u := Value.none) J rfl q
  | brk => obtain ⟨_, _, _, q⟩ := hs; exact q.elim
  | cont => obtain ⟨_, _, _, q⟩ := hs; exact q.elim
end
section
variable {P : Program} {w : World} {K : PySem.W.Frag} {mg mb : Str → Option Value}
/-- the heap without what is tracked is a base; the call from it -/
theorem from_base {k : Nat} {fa a : Addr} {fd : FuncData} {x : Str} {sp : Sp} {s₁ : Shared} {us : List Value} {H : Hp}
    (KX : K.In s₁.heap) (hns : s₁.heap.Ns mainGlobals mg) (hb : s₁.heap.Ns builtinsNs mb) (hbb : ∀ x : Str, x ≠ "__name__" → mb x = bootBuiltins x) (hlim : s₁.heap.NoLimit) (hg : s₁.gens = #[])
    (ha : s₁.heap.get? a = some { cls := .type "list", data := .seq us.toArray }) (hr : Room k callerA)
    (F : ∀ base : Heap, K.In base → base.Ns mainGlobals mg → FnG P w K mg base k fa fd [x] sp) (hbind : ∀ (s : Shared) (u : Value), BindsTo s fd ⟨[u], []⟩ [(x, u)])
    (hsp : sp [.ref a] H (fun v _ => v = .bl true) fun _ _ _ => False) (hO : Only H) (hok : HOk P w H s₁.heap) (only : ∀ b, H b ≠ none → b = a) (out : H a ≠ none → K.lookup a = none) :
    codeAny (model P w) callerA (.call (.ref fa) ⟨[.ref a], []⟩) (fun r s' => r = .ok (.ret (.bool true)) ∧ OldK s₁.heap s'.heap ∧ s'.os = s₁.os ∧ AllBare s'.gens) s₁ := by
  have free : ∀ {b : Addr}, b ≠ a → H b = none := fun {b} n => Classical.byContradiction fun c => n (only b c)
  have dicts : ∀ {b : Addr} {m : Str → Option Value}, s₁.heap.Ns b m → (hidT s₁.heap H).Ns b m := fun {b m} ⟨o, es, ep, e, d, r⟩ => by
    refine ⟨o, es, ep, hidT_get e (free fun z => ?_), d, r⟩
    subst z
    rw [ha] at e
    cases e
    cases (show Data.seq us.toArray _ = Data.dict es ep from d)
  have hK : K.In (hidT s₁.heap H) := fun b o e => hidT_get (KX b o e) (Classical.byContradiction fun c => by
    cases only b c
    rw [out c] at e
    cases e)
  obtain ⟨mc, l1, l2⟩ := hlim
  have e0 : Env0 P w K mg (hidT s₁.heap H) callerA [] s₁ H := ⟨rfl, ⟨hK, dicts hns, ⟨mb, dicts hb, hbb⟩, ⟨mc, dicts l1, l2⟩⟩, fun b o e => of_hidT e, Nat.le_of_eq (hidT_size _ _), trivial, (fun b hb => by cases hb), hok, .of_eq hg⟩
  refine codeAny_mono ((F _ hK (dicts hns)).go callerA [] s₁ H ⟨[.ref a], []⟩ [.ref a] [.ref a] _ _ rfl hr e0 (hbind s₁ (.ref a)) (.cons rfl .nil) hsp) fun r s' h => ?_
  rcases r with e | fl
  · exact (show False from h).elim
  cases fl with
  | next => exact h.elim
  | brk => exact h.elim
  | cont => exact h.elim
  | ret u =>
    obtain ⟨v, H', os, bare, un, hok', rv, q⟩ := h
    cases (show v = .bl true from q)
    cases (show u = Value.bool true from rv)
    refine ⟨rfl, OldK.of_keep fun b o e => ?_, os, bare⟩
    rcases hO b with z | ⟨ob, xs, z⟩
    · exact un.keep b o e z (fun z => by cases z) (by simp)
    · obtain ⟨e1, _⟩ := hok b _ z
      obtain ⟨e2, _⟩ := hok' b _ (un.frzs b ob _ z)
      rw [e] at e1
      cases e1
      exact e2
theorem law_g {k : Nat} {fa a : Addr} {fd : FuncData} {x : Str} {sp : Sp} {s₁ : Shared} {us : List Value} {ns : List Int}
    (KX : K.In s₁.heap) (hns : s₁.heap.Ns mainGlobals mg) (hb : s₁.heap.Ns builtinsNs mb) (hbb : ∀ x : Str, x ≠ "__name__" → mb x = bootBuiltins x) (hlim : s₁.heap.NoLimit) (hg : s₁.gens = #[])
    (ha : s₁.heap.get? a = some { cls := .type "list", data := .seq us.toArray }) (hi : IntsAre us ns) (hl : ns.length ≤ sizeLine) (hr : Room k callerA)
    (F : ∀ base : Heap, K.In base → base.Ns mainGlobals mg → FnG P w K mg base k fa fd [x] sp) (hbind : ∀ (s : Shared) (u : Value), BindsTo s fd ⟨[u], []⟩ [(x, u)])
    (hsp : ∀ H : Hp, Only H → SqL K H a (ns.map V.int) → sp [.ref a] H (fun v _ => v = .bl true) fun _ _ _ => False) :
    codeAny (model P w) callerA (.call (.ref fa) ⟨[.ref a], []⟩) (fun r s' => r = .ok (.ret (.bool true)) ∧ OldK s₁.heap s'.heap ∧ s'.os = s₁.os ∧ AllBare s'.gens) s₁ := by
  have rv := vals_ints hi
  have ln : us.length ≤ sizeLine := by rw [hi.length]; exact hl
  by_cases hk : K.lookup a = none
  · -- the script is tracked, frozen
    generalize eH : (fun b => if b = a then some (.frz { cls := .type "list", data := .seq us.toArray } (.lst (ns.map V.int))) else none : Hp) = H
    have at_a : H a = some (.frz { cls := .type "list", data := .seq us.toArray } (.lst (ns.map V.int))) := by rw [← eH]; exact if_pos rfl
    have off : ∀ {b}, b ≠ a → H b = none := fun {b} n => by rw [← eH]; exact if_neg n
    have hO : Only H := fun b => if h : b = a then .inr ⟨_, _, h ▸ at_a⟩ else .inl (off h)
    refine from_base KX hns hb hbb hlim hg ha hr F hbind (hsp H hO (.inl (.inr ⟨_, at_a⟩))) hO (fun b u z => ?_) (fun b c => Classical.byContradiction fun n => c (off n)) fun _ => hk
    by_cases h : b = a
    · subst h
      rw [at_a] at z
      cases z
      exact ⟨ha, by rw [List.length_map]; exact hl, us, _, rv, ha⟩
    · rw [off h] at z
      cases z
  · -- the script is an object of the module
    obtain ⟨o, ho⟩ := Option.ne_none_iff_exists'.mp hk
    have e := KX a o ho
    rw [ha] at e
    cases e
    have hO : Only (fun _ => none) := fun _ => .inl rfl
    exact from_base KX hns hb hbb hlim hg ha hr F hbind (hsp _ hO (.inr ⟨_, us.toArray, _, ho, rfl, rfl, rfl, by rw [List.size_toArray]; exact ln, by simpa using rv⟩)) hO (fun b u z => by cases (show (none : Option HO) = some u from z)) (fun b c => absurd rfl c) fun c => absurd rfl c
end
theorem walk_g {l : PySem.W.OpenLaw} {n k : Nat} {q : Program} {loose : List Str} {XP : (Str → Option Value) → Heap → Prop} {YP : World → Heap → Prop} {d : DefRec} {K : Params → PySem.W.Frag} {sp : World → Sp} {x : Str}
    (hn : l.most = some n) (hn2 : n ≤ sizeLine) (hdf : d.params.defaults = []) (hr : Room k callerA) (hY : ∀ (w : World) (h : Heap), YP w h → (K w.params).In h)
    (F : ∀ (w : World) (mg : Str → Option Value) (fa : Addr) (h : Heap), (K w.params).In h → h.Ns mainGlobals mg → XP mg h → mg d.name = some (.ref fa) →
      ∃ fd : FuncData, (∀ (s : Shared) (u : Value), BindsTo s fd ⟨[u], []⟩ [(x, u)]) ∧ ∀ base : Heap, (K w.params).In base → base.Ns mainGlobals mg → FnG l.prog w (K w.params) mg base k fa fd [x] (sp w))
    (hsp : ∀ (w : World) (H : Hp) (a : Addr) (ns : List Int), ns.length ≤ n → Only H → SqL (K w.params) H a (ns.map V.int) → sp w [.ref a] H (fun v _ => v = .bl true) fun _ _ _ => False) : PySem.W.WalkO q loose XP YP l.row.toRowW d [] (fun f vs => PySem.call f vs) := by
  refine Att.attach_call hn hdf fun w s₀ s₁ mg mb fa o pm cd doc a vs ns G Y ho hd hcd hmg hobj hints hlen hg => ?_
  have KX := hY w _ Y
  obtain ⟨fd, hb, hF⟩ := F w mg fa _ KX G.T.g G.X hmg
  exact law_g KX G.T.g G.T.b G.T.builtins G.T.nolimit hg hobj hints (Nat.le_trans hlen hn2) hr hF hb fun H hO hS => hsp w H a ns hlen hO hS
theorem FnG.mono {P : Program} {w : World} {K : PySem.W.Frag} {mg : Str → Option Value} {base : Heap} {j k : Nat} {f : Addr} {fd : FuncData} {ps : List Str} {sp : Sp} (F : FnG P w K mg base j f fd ps sp) (h : j ≤ k) : FnG P w K mg base k f fd ps sp :=
  ⟨F.len, fun A outer s H args us vs Q E hg hr => F.go A outer s H args us vs Q E hg (hr.mono h)⟩
def rListK (K : PySem.W.Frag) : List V → Hp → VK → Prop := fun xs H Q => ∃ p ys, xs = [V.ref p] ∧ (SqL K H p ys ∨ SqT K H p ys) ∧ ∀ l, H l = none → Q (.ref l) (upd H l (.lst ys))
theorem call_listK {X : Cx} (K : PySem.W.Frag) (hK : X.K = K) : CallR X (.type "list") (rListK K) := by subst hK; exact call_list_of
theorem call_sortedSK {X : Cx} (K : PySem.W.Frag) (hK : X.K = K) : CallR X (.builtin "sorted") (rSortedS K) := by subst hK; exact cr_sortedS
theorem Pen.putD {H : Hp} {p d : Addr} {n : Nat} {kvs : List (Key × V)} {o : HO} (P : Pen H p n) (hd : H d = some (.dK kvs)) (n1 : d ≠ p) : Pen (upd H d o) p n := by
  obtain ⟨c, ns, k, l, h1, h2, h⟩ := P
  exact ⟨c, ns, k, l, by rw [upd_ne n1.symm]; exact h1, by rw [upd_ne (ne_of h2 hd (by intro z; cases z))]; exact h2, h⟩
def PcN (CL D : Addr) (H : Hp) (v : V) (q : Pce) : Prop := ∃ t u, v = .ref t ∧ t ≠ D ∧ H t = some (.lst [.int q.1, .int q.2.1, u]) ∧ LnAt CL H u q.2.2
theorem PcN.same {CL D : Addr} {H H' : Hp} {v : V} {q : Pce} (h : PcN CL D H v q) (s : Same H H') : PcN CL D H' v q := by
  obtain ⟨t, u, e, n, h1, h2⟩ := h
  exact ⟨t, u, e, n, s _ _ h1, h2.same s⟩
theorem PcN.put {CL D : Addr} {H : Hp} {v : V} {q : Pce} {o : HO} {xs : List V} (h : PcN CL D H v q) (hD : H D = some (.lst xs)) : PcN CL D (upd H D o) v q := by
  obtain ⟨t, u, e, n, h1, h2⟩ := h
  exact ⟨t, u, e, n, by rw [upd_ne n]; exact h1, h2.kp (kp_lst hD)⟩
theorem PcN.pcA {CL D : Addr} {H : Hp} {v : V} {q : Pce} (h : PcN CL D H v q) : PcA CL H v q := by
  obtain ⟨t, u, e, n, h1, h2⟩ := h
  exact ⟨t, u, e, .inr h1, h2⟩
theorem cutV_to (xs : List V) {k : Int} (h : 0 ≤ k) : cutV xs none (some k) = xs.take k.toNat := by
  obtain ⟨n, rfl⟩ : ∃ n : Nat, k = n := ⟨k.toNat, by omega⟩
  unfold cutV
  rw [HT.sIx_none, HT.sIx_nat, List.drop_zero, Nat.sub_zero]
  rcases Nat.le_total n xs.length with h | h
  · rw [Nat.min_eq_left h]; rfl
  · rw [Nat.min_eq_right h, List.take_of_length_le (Nat.le_refl _), List.take_of_length_le (by simpa using h)]
theorem log_m {m : Nat} (h : m ≤ 200) : (m : Int).natAbs.log2 < 1920 := by
  refine log_plc ⟨Int.natCast_nonneg m, ?_⟩
  omega
def quadD (w : Str) (m : Int) : PyData := .tuple [.str "pieces", .str w, .int m, .bool true]
theorem quad_ok {w : Str} (hw : SmallS w) (m : Int) : SeqAt.shaped (quadD w m) = true ∧ PyData.eqv (quadD w m) (quadD w m) = true := by
  have h : PyData.canLay0 (.tuple ((["pieces", w] : List Str).map PyData.str)) = true := lay_strs fun x hx => by
    simp only [List.mem_cons, List.not_mem_nil, or_false] at hx
    rcases hx with rfl | rfl
    · intro c hc; revert c; decide
    · exact hw
  have h : (PyData.canLay0 (.str "pieces") && (PyData.canLay0 (.str w) && true)) = true := h
  rw [Bool.and_eq_true, Bool.and_eq_true] at h
  have l : PyData.canLay0 (quadD w m) = true := by
    show (PyData.canLay0 (.str "pieces") && (PyData.canLay0 (.str w) && (true && (true && true)))) = true
    rw [h.1, h.2.1]; rfl
  refine ⟨?_, SeqAt.eqv_refl _ l⟩
  unfold SeqAt.shaped
  rw [Bool.and_eq_true]
  exact ⟨l, rfl⟩
theorem quad_dp {K : PySem.W.Frag} {H : Hp} {t : Addr} {w : Str} {m : Int} (h : H t = some (.tup [.str "pieces", .str w, .int m, .bl true])) : Dp K H (.ref t) (quadD w m) := .tup (.inl (.inl h)) (.cons (.str _) (.cons (.str _) (.cons (.int _) (.cons (.bl _) .nil))))
def triD (w : Str) : PyData := .tuple [.str "word", .str w, .bool true]
theorem tri_ok {w : Str} (hw : SmallS w) : SeqAt.shaped (triD w) = true ∧ PyData.eqv (triD w) (triD w) = true := by
  have h : PyData.canLay0 (.tuple ((["word", w] : List Str).map PyData.str)) = true := lay_strs fun x hx => by
    simp only [List.mem_cons, List.not_mem_nil, or_false] at hx
    rcases hx with rfl | rfl
    · intro c hc; revert c; decide
    · exact hw
  have h : (PyData.canLay0 (.str "word") && (PyData.canLay0 (.str w) && true)) = true := h
  rw [Bool.and_eq_true, Bool.and_eq_true] at h
  have l : PyData.canLay0 (triD w) = true := by
    show (PyData.canLay0 (.str "word") && (PyData.canLay0 (.str w) && (true && true))) = true
    rw [h.1, h.2.1]; rfl
  refine ⟨?_, SeqAt.eqv_refl _ l⟩
  unfold SeqAt.shaped
  rw [Bool.and_eq_true]
  exact ⟨l, rfl⟩
theorem tri_dp {K : PySem.W.Frag} {H : Hp} {t : Addr} {w : Str} (h : H t = some (.tup [.str "word", .str w, .bl true])) : Dp K H (.ref t) (triD w) := .tup (.inl (.inl h)) (.cons (.str _) (.cons (.str _) (.cons (.bl _) .nil)))
theorem least_str : ∀ {ks : List Str}, 0 < ks.length → ∃ m ∈ ks, ∀ u ∈ ks, ¬ u.cps.toList < m.cps.toList
  | [], h => absurd h (Nat.lt_irrefl _)
  | [a], _ => ⟨a, List.mem_cons_self, fun u hu => by rw [List.mem_singleton.mp hu]; exact List.lt_irrefl _⟩
  | a :: b :: r, _ => by
    obtain ⟨m, mm, lm⟩ := least_str (ks := b :: r) (Nat.succ_pos _)
    by_cases c : a.cps.toList < m.cps.toList
    · refine ⟨a, List.mem_cons_self, fun u hu => ?_⟩
      rcases List.mem_cons.mp hu with e | k
      · rw [e]; exact List.lt_irrefl _
      · exact fun z => lm u k (List.lt_trans z c)
    · refine ⟨m, List.mem_cons_of_mem _ mm, fun u hu => ?_⟩
      rcases List.mem_cons.mp hu with e | k
      · rw [e]; exact c
      · exact lm u k
theorem op_neDK {X : Cx} (K : PySem.W.Frag) (hK : X.K = K) (hu : X.A.units + 64 < cLine) : OpR X (compareOp .NotEq) (rNeD K) := by subst hK; exact op_neD hu
theorem op_eqDK {X : Cx} (K : PySem.W.Frag) (hK : X.K = K) (hu : X.A.units + 64 < cLine) : OpR X (compareOp .Eq) (rEqD K) := by subst hK; exact op_eqD hu
section
variable {P : Program} {w : World} {K : PySem.W.Frag} {mg : Str → Option Value} {base : Heap}
theorem scSh : FnScope ["_law_pen_here", "_law_items", "_law_left", "_law_found"] ["_law_pen_here", "_law_items"] (defScope sShuffled) := ⟨rfl, rfl, rfl, by decide +kernel, rfl, by decide +kernel, by decide +kernel⟩
theorem ok_shufs {f : Addr} {fd : FuncData} (F : Fun K "_law_shuffled" "_law_shuffled" sShuffled f fd) (B : Bd mg) (D : Cl P w K mg base 1 "_law_draw" ["_law_pen_here", "_law_many"] spDraw) : FnOk P w K mg base CX0 2 f fd ["_law_pen_here", "_law_items"] (spShufS K) := by
  refine F.ok scSh (fun vs H Q E h => ?_) (fun cdv A outer s H vs Q E hr h => ?_)
  · obtain ⟨p, a, L, n, rfl, _⟩ := h
    rfl
  · obtain ⟨p, a, L, n, rfl, hS, hsm, hlen, hP, hn, q⟩ := h
    have nd := scSh.nd
    have hu64 : (A.deeper (envOfC "_law_shuffled" (defScope sShuffled) s.heap.objs.size f cdv)).units + 64 < cLine := hr.units
    obtain ⟨c0, hc0, hcn⟩ := hP.cells
    refine ⟨_, pss_cons (ps_par (i := 2) (j := 3) rfl nd rfl rfl (by decide) rfl rfl (pa_cons (pe_callTy call_list_of (by rfl) B.list bt_list (pa_cons (pv 1) pa_nil)) (pa_cons (pe_lst pa_nil) pa_nil)) rfl)
      (pss_cons (ps_while PassesOwn.never (pt_cmpR (op_neD hu64) (pv 2) (pe_lst pa_nil) (nomark _))
        (pss_one (ps_expr (pe_bm PySem.F.plainAttrs_list PySem.F.slot_list_append PySem.F.type_list_append mt_append (pv 3) (pa_cons
          (pe_bm PySem.F.plainAttrs_list PySem.F.slot_list_pop PySem.F.type_list_pop mt_popAt (pv 2) (pa_cons (pe_cl D hr (by decide) (by rfl) (pa_cons (pv 0) (pa_cons (pe_callB call_len_seq (by rfl) B.len PySem.boot_len (pa_cons (pv 2) pa_nil)) pa_nil))) pa_nil)) pa_nil)))))
      (pss_one (ps_ret (pv 3)))), ?_⟩
    refine ⟨_, rfl, a, _, rfl, .inl hS, fun l nl => ?_⟩
    have s1 := same_lay (o := .lst (L.map V.str)) nl
    refine ⟨Nat.zero_le _, fun o no => ⟨_, _, rfl, ?_⟩⟩
    have s2 := s1.trans (same_lay (o := .lst []) no)
    have nlo : l ≠ o := ne_of_none upd_same no
    have no0 : H o = none := s1.free no
    have ncl : c0 ≠ l := fun e => hcn (by rw [e]; exact nl)
    have nco : c0 ≠ o := fun e => hcn (by rw [e]; exact no0)
    refine while_by (fun σ H' => ∃ R F : List Str, σ = [some (.ref p), some (.ref a), some (.ref l), some (.ref o)] ∧ H' l = some (.lst (R.map V.str)) ∧ H' o = some (.lst (F.map V.str)) ∧ (F ++ R).Perm L ∧ Pen H' p (n + 2 * F.length) ∧ Frm p H H')
      (fun _ H' => lenAt l H') ⟨L, [], rfl, by rw [upd_ne nlo, upd_same], upd_same, List.Perm.refl _, hP.same' s2, frmS s2⟩ ?_ (fun σ H Q Q' hQ h => by
        obtain ⟨v, e, l1, fw⟩ := h
        exact ⟨v, e, l1, fun p hp => by
          obtain ⟨d, e', a1, a2, a3, a4, k, ek, q⟩ := fw p hp
          exact ⟨d, e', a1, a2, a3, a4, k, ek, hQ _ _ q⟩⟩)
    rintro σ H' ⟨R, F', rfl, hl, ho, hpm, hPn, hFr⟩
    have hlF : F'.length + R.length = L.length := by rw [← List.length_append, hpm.length_eq]
    have hRs : ∀ w ∈ R, SmallS w := fun w hw => hsm w (hpm.mem_iff.mp (List.mem_append_right _ hw))
    refine ⟨_, rfl, Nat.zero_le _, fun e ne => ?_⟩
    have se := same_lay (o := .lst []) ne
    have hl3 := se _ _ hl
    have ho3 := se _ _ ho
    have P3 := hPn.same' se
    have hFr3 := hFr.trans (frmS se)
    refine ⟨.list (R.map PyData.str), .list [], .lst (.inl (.inl hl3)) (dp_strs R), .lst (.inl (.inl upd_same)) .nil, shp_strs hRs, rfl, _, rfl, ite2 (fun hne => ?_) (fun hne => ?_)⟩
    · have hR0 : 0 < R.length := by
        cases R with
        | nil => exact absurd hne (by decide)
        | cons _ _ => exact Nat.succ_pos _
      have lm : (R.map V.str).length = R.length := List.length_map ..
      refine ⟨_, rfl, .inl ⟨rfl, _, .inl (.inl ho3)⟩, _, rfl, .inl ⟨rfl, _, .inl (.inl hl3)⟩, _, rfl, _, rfl, l, _, rfl, .inl (.inl (.inl hl3)), p, _, _, rfl, by rw [lm]; omega, ?_, P3, by omega, fun r H4 r0 r1 P4 F4 => ?_⟩
      · rw [lm]
        exact Nat.lt_of_le_of_lt (show ((R.length : Nat) : Int).natAbs ≤ 200 by omega) (by decide)
      rw [lm] at r1
      have hl4 := F4.lst P3 hl3
      have ho4 := F4.lst P3 ho3
      have hk : r.toNat < R.length := by omega
      have hix := (ixN_seq (ixN_in r0 (show r < ((R.map V.str).length : Nat) by rw [lm]; exact r1))).1
      have hget : (R.map V.str)[r.toNat]? = some (.str R[r.toNat]) := by
        rw [List.getElem?_map, List.getElem?_eq_getElem hk]
        rfl
      refine ⟨l, R.map V.str, r, r.toNat, _, rfl, rfl, hl4, by omega, by omega, hix, hget, ?_⟩
      have ho5 : (upd H4 l (.lst ((R.map V.str).eraseIdx r.toNat))) o = some (.lst (F'.map V.str)) := by rw [upd_ne nlo.symm]; exact ho4
      refine ⟨o, F'.map V.str, _, rfl, rfl, ho5, small1000 (by rw [List.length_map]; omega), ?_⟩
      have ce4 := (hFr3.trans F4).ce c0 hc0
      refine ⟨⟨R.eraseIdx r.toNat, F' ++ [R[r.toNat]], rfl, by rw [upd_ne nlo, upd_same, map_erase], by rw [upd_same, List.map_append]; rfl, ?_, ?_, ?_⟩, ?_⟩
      · rw [List.append_assoc]
        exact ((erase_permS R r.toNat hk).append_left F').trans hpm
      · have p5 := P4.put (o := .lst ((R.map V.str).eraseIdx r.toNat)) ce4 hl4 ncl
        have ce5 : cellsAt (upd H4 l (.lst ((R.map V.str).eraseIdx r.toNat))) p c0 := by
          obtain ⟨k1, k2, e⟩ := ce4
          exact ⟨k1, k2, by rw [upd_ne (ne_of e hl4 (by intro z; cases z))]; exact e⟩
        exact (p5.put ce5 ho5 nco).mono (by rw [List.length_append]; show _ ≤ n + 2 * (F'.length + 1); omega)
      · have fr4 := hFr3.trans F4
        refine ⟨fun b u eb nb => ?_, fun c hc => ?_⟩
        · have n1 : b ≠ l := ne_of_none eb nl
          have n2 : b ≠ o := ne_of_none eb no0
          rw [upd_ne n2, upd_ne n1]
          exact fr4 _ _ eb nb
        · obtain ⟨k1, k2, e⟩ := fr4.ce c hc
          exact ⟨k1, k2, by rw [upd_ne (ne_of e ho4 (by intro z; cases z)), upd_ne (ne_of e hl4 (by intro z; cases z))]; exact e⟩
      · show lenAt l _ < lenAt l H'
        rw [lenAt_of (xs := (R.map V.str).eraseIdx r.toNat) (by rw [upd_ne nlo, upd_same]), lenAt_of hl, map_erase, List.length_map, List.length_map, List.length_eraseIdx, if_pos hk]
        omega
    · have hR0 : R = [] := by
        cases R with
        | nil => rfl
        | cons _ _ => exact absurd rfl hne
      subst hR0
      rw [List.append_nil] at hpm
      exact ⟨_, rfl, q o F' _ no0 ho3 hpm (P3.mono (by rw [hpm.length_eq]; omega)) hFr3⟩
end
end OR

namespace OR
open PySem PySem.Spec PyProof.Rows L2
section
variable {P : Program} {w : World} {K : PySem.W.Frag} {mg : Str → Option Value} {base : Heap} {CL CW CB : Addr}
theorem scLaw : FnScope ["_law_script", "_law_pen_here", "_law_turn", "_law_words_here", "_law_last_here", "_law_given", "_law_word", "_law_pieces", "_law_due", "_law_at", "_law_first", "_law_keys", "_law_key", "_law_row", "_law_piece_here", "_law_k"] ["_law_script"] (defScope sLaw) := ⟨rfl, rfl, rfl, by decide +kernel, rfl, by decide +kernel, by decide +kernel⟩
set_option maxHeartbeats 8000000 in
theorem ok_law {f : Addr} {fd : FuncData} (F : Fun K "law" "law" sLaw f fd) (B : Bd mg) (zT : mg "tuple" = none) (zS : mg "str" = none)
    (N : Cl P w K mg base 1 "_law_pen" ["_law_script"] (spPen K)) (D : Cl P w K mg base 1 "_law_draw" ["_law_pen_here", "_law_many"] spDraw) (WD : Cl P w K mg base 3 "_law_words" ["_law_pen_here", "_law_many"] spWords) (LA : Cl P w K mg base 3 "_law_last" ["_law_pen_here"] spLastP)
    (RO : Cl P w K mg base 4 "_law_rows" ["_law_pen_here", "_law_last_here"] spRowsL) (PC : Cl P w K mg base 3 "_law_piece" ["_law_row"] (spPieceL CL)) (SH : Cl P w K mg base 2 "_law_shuffled" ["_law_pen_here", "_law_items"] (spShufS K))
    (RF : Cl P w K mg base 8 "_law_refused" ["_law_last_here", "_law_given"] (spRef K CL CW CB)) (SO : Cl P w K mg base 3 "_law_spoilt" ["_law_pen_here", "_law_pieces", "_law_last_here"] (spSpoil K CL)) (OK : Cl P w K mg base 3 "_law_odd_key" ["_law_pen_here", "_law_word"] spOddK) :
    FnG P w K mg base 10 f fd ["_law_script"] (spLaw K) := by
  refine okG F scLaw (fun vs H Q E h => ?_) (fun cdv A outer s H vs Q E gd hr h => ?_)
  · obtain ⟨a, ns, rfl, _⟩ := h
    rfl
  · obtain ⟨sc, ns, rfl, hS, hlen, q⟩ := h
    have nd := scLaw.nd
    have hu := hu_of hr
    have hu64 : (A.deeper (envOfC "law" (defScope sLaw) s.heap.objs.size f cdv)).units + 64 < cLine := hr.units
    refine ⟨_, pss_cons (ps_set (i := 1) nd rfl (.inr rfl) (pe_cl N hr (by decide) (by rfl) (pa_cons (pv 0) pa_nil)))
      (pss_cons (ps_for PassesOwn.never rfl (pi_range1 (by rfl) B.range (pa_cons (pe_op op_add pe_int (pe_callB (call_min2 rfl) (by rfl) B.min bt_min (pa_cons pe_int (pa_cons (pe_callB call_len_seq (by rfl) B.len PySem.boot_len (pa_cons (pv 0) pa_nil)) pa_nil)))) pa_nil)) (pg_name (i := 2) nd rfl (.inl rfl))
          (pss_cons (ps_asg (pe_tup (pa_cons (pe_cl WD hr (by decide) (by rfl) (pa_cons (pv 1) (pa_cons (pe_op op_add pe_int (pe_cl D hr (by decide) (by rfl) (pa_cons (pv 1) (pa_cons pe_int pa_nil)))) pa_nil))) (pa_cons (pe_cl LA hr (by decide) (by rfl) (pa_cons (pv 1) pa_nil)) (pa_cons pe_dnewK pa_nil)))) (pg_tup rfl (pgs_cons (pg_name (i := 3) nd rfl (.inr rfl)) (pgs_cons (pg_name (i := 4) nd rfl (.inl rfl)) (pgs_cons (pg_name (i := 5) nd rfl (.inl rfl)) pgs_nil)))))
          (pss_cons (ps_for PassesOwn.never rfl (pi_list (pv 3)) (pg_name (i := 6) nd rfl (.inl rfl))
              (pss_cons (ps_setLc (i := 7) (own := [("_law_row", 13)]) (g := (gName 13)) (tt := tYes) rfl nd rfl rfl (sw_true rfl rfl rfl (by decide +kernel)) (pi_list (pe_cl RO hr (by decide) (by rfl) (pa_cons (pv 1) (pa_cons (pv 4) pa_nil)))) (blkOk_by (N := ["_law_script", "_law_pen_here", "_law_turn", "_law_words_here", "_law_last_here", "_law_given", "_law_word", "_law_pieces", "_law_due", "_law_at", "_law_first", "_law_keys", "_law_key", "_law_row", "_law_piece_here", "_law_k"]) (sc := defScope sLaw) (by decide +kernel)) (fun _ _ _ _ _ => pg_name (i := 13) nd rfl (.inl rfl)) (fun _ _ _ _ _ => pts_nil) (fun _ _ _ _ _ => (pe_cl PC hr (by decide) (by rfl) (pa_cons (pv 13) pa_nil))))
              (pss_one (ps_dput hu (pv 5) (pv 6) (pe_ifExp (pt_cmpR op_eq (pe_cl D hr (by decide) (by rfl) (pa_cons (pv 1) (pa_cons pe_int pa_nil))) pe_int (nomark _)) (pe_callTy call_tuple_of (by rfl) zT bt_tup (pa_cons (pe_lc (own := [("_law_piece_here", 14)]) (g := (gName 14)) (tt := tYes) rfl nd (pi_list (pv 7)) (blkOk_by (N := ["_law_script", "_law_pen_here", "_law_turn", "_law_words_here", "_law_last_here", "_law_given", "_law_word", "_law_pieces", "_law_due", "_law_at", "_law_first", "_law_keys", "_law_key", "_law_row", "_law_piece_here", "_law_k"]) (sc := defScope sLaw) (by decide +kernel)) (fun _ _ _ _ _ => pg_name (i := 14) nd rfl (.inl rfl)) (fun _ _ _ _ _ => pts_nil) (fun _ _ _ _ _ => (pe_callTy (call_listK K rfl) (by rfl) B.list bt_list (pa_cons (pv 14) pa_nil)))) pa_nil)) (pv 7)) rfl))))
          (Evl.pss_cut (ps_if (pt_cmp (pc_notN (pe_cl RF hr (by decide) (by rfl) (pa_cons (pv 4) (pa_cons (pv 5) pa_nil)))))
              (pss_one (ps_ret pe_bl))
              pss_nil)
          (pss_cons (ps_set (i := 8) nd rfl (.inl rfl) (pe_lst pa_nil))
          (pss_cons (ps_for PassesOwn.never rfl (pi_list (pe_slice sl_list (pe_cl SH hr (by decide) (by rfl) (pa_cons (pv 1) (pa_cons (pv 3) pa_nil))) po_none (po_some (pe_op op_add pe_int (pe_cl D hr (by decide) (by rfl) (pa_cons (pv 1) (pa_cons pe_int pa_nil))))))) (pg_name (i := 6) nd rfl (.inl rfl))
              (pss_cons (ps_asg (pe_cl SO hr (by decide) (by rfl) (pa_cons (pv 1) (pa_cons (pe_callTy (call_listK K rfl) (by rfl) B.list bt_list (pa_cons (pe_dget hu (pv 5) (pv 6) (fun _ _ => rfl)) pa_nil)) (pa_cons (pv 4) pa_nil)))) (pg_tup rfl (pgs_cons (pg_sub (pv 5) (pv 6) (set_dict hu)) (pgs_cons (pg_name (i := 9) nd rfl (.inl rfl)) pgs_nil))))
              (pss_one (ps_expr (pe_bm PySem.F.plainAttrs_list PySem.F.slot_list_append PySem.F.type_list_append mt_append (pv 8) (pa_cons (pe_op op_add_str (pe_op op_add_str (pv 6) pe_str) (pe_callTy call_str_int (by rfl) zS boot_strT (pa_cons (pv 9) pa_nil))) pa_nil))))))
          (pss_cons (ps_set (i := 10) nd rfl (.inl rfl) (pe_splitAny (pe_ix (ix_listK K rfl) (pe_callB (call_sortedSK K rfl) (by rfl) B.sorted bt_sorted (pa_cons (pv 8) pa_nil)) pe_int (fun _ _ => rfl)) pe_str))
          (pss_cons (ps_if (pt_cmpR (op_neDK K rfl hu64) (pe_cl RF hr (by decide) (by rfl) (pa_cons (pv 4) (pa_cons (pv 5) pa_nil))) (pe_tup (pa_cons pe_str (pa_cons (pe_ix (ix_listK K rfl) (pv 10) pe_int (fun _ _ => rfl)) (pa_cons (pe_callTy call_int_str (by rfl) B.int bt_int (pa_cons (pe_ix (ix_listK K rfl) (pv 10) pe_int (fun _ _ => rfl)) pa_nil)) (pa_cons pe_bl pa_nil))))) (nomark _))
              (pss_one (ps_ret pe_bl))
              pss_nil)
          (pss_cons (ps_setLc (i := 11) (own := [("_law_k", 15)]) (g := (gName 15)) (tt := tYes) rfl nd rfl rfl (sw_true rfl rfl rfl (by decide +kernel)) (pi_range1 (by rfl) B.range (pa_cons (pe_op op_add pe_int (pe_cl D hr (by decide) (by rfl) (pa_cons (pv 1) (pa_cons pe_int pa_nil)))) pa_nil)) (blkOk_by (N := ["_law_script", "_law_pen_here", "_law_turn", "_law_words_here", "_law_last_here", "_law_given", "_law_word", "_law_pieces", "_law_due", "_law_at", "_law_first", "_law_keys", "_law_key", "_law_row", "_law_piece_here", "_law_k"]) (sc := defScope sLaw) (by decide +kernel)) (fun _ _ _ _ _ => pg_name (i := 15) nd rfl (.inl rfl)) (fun _ _ _ _ _ => pts_nil) (fun _ _ _ _ _ => (pe_cl OK hr (by decide) (by rfl) (pa_cons (pv 1) (pa_cons (pe_ix (ix_listK K rfl) (pv 3) pe_int (fun _ _ => rfl)) pa_nil)))))
          (pss_cons (ps_set (i := 5) nd rfl (.inl rfl) (pe_disp (pps_cons (pe_ix (ix_listK K rfl) (pv 3) pe_int (fun _ _ => rfl)) (pe_dget hu (pv 5) (pe_ix (ix_listK K rfl) (pv 3) pe_int (fun _ _ => rfl)) (fun _ _ => rfl)) pps_nil) rfl rfl (by simp) (by decide)))
          (pss_cons (ps_for PassesOwn.never rfl (pi_list (pv 11)) (pg_name (i := 12) nd rfl (.inl rfl))
              (pss_one (ps_dput hu (pv 5) (pv 12) (pe_lst (pa_cons (pe_tup (pa_cons pe_int (pa_cons (pv 4) (pa_cons pe_non pa_nil)))) pa_nil)) rfl)))
          (pss_one (ps_if (pt_cmpR (op_neDK K rfl hu64) (pe_cl RF hr (by decide) (by rfl) (pa_cons (pv 4) (pa_cons (pv 5) pa_nil))) (pe_tup (pa_cons pe_str (pa_cons (pe_ix (ix_listK K rfl) (pe_callB (call_sortedSK K rfl) (by rfl) B.sorted bt_sorted (pa_cons (pv 11) pa_nil)) pe_int (fun _ _ => rfl)) (pa_cons pe_bl pa_nil)))) (nomark _))
              (pss_one (ps_ret pe_bl))
              pss_nil)))))))))))))
      (pss_one (ps_ret (pe_cmpR (op_eqDK K rfl hu64) (pe_cl RF hr (by decide) (by rfl) (pa_cons pe_int (pa_cons (pe_disp (pps_cons pe_str (pe_lst pa_nil) pps_nil) rfl rfl (by simp) (by decide)) pa_nil))) (pe_tup (pa_cons pe_str (pa_cons pe_str (pa_cons pe_int (pa_cons pe_bl pa_nil))))) (by rfl))))), ?_⟩
    refine ⟨_, rfl, sc, ns, rfl, hS, hlen, fun p H1 np P0 S0 => ?_⟩
    generalize hJ : (3 : Int) + (if ((ns.map V.int).length : Int) < 3 then ((ns.map V.int).length : Int) else 3) = J
    have hJb : 0 ≤ J ∧ J ≤ 6 := by
      subst hJ
      split <;> omega
    let S : Option V → Option V → Option V → Option V → Option V → Option V → Option V → Option V → Option V → Option V → Option V → Option V → Option V → Option V → L2.St := fun s2 s3 s4 s5 s6 s7 s8 s9 s10 s11 s12 s13 s14 s15 => [some (.ref sc), some (.ref p), s2, s3, s4, s5, s6, s7, s8, s9, s10, s11, s12, s13, s14, s15]
    refine ⟨_, rfl, sc, _, rfl, .inl (S0.seq hS), 3, _, rfl, _, _, rfl, rfl, J, congrArg (fun z => [V.int z]) hJ, by omega, by omega, for_range (n := J.toNat) (fun i σ H2 => (∃ s2 s3 s4 s5 s6 s7 s8 s9 s10 s11 s12 s13 s14 s15, σ = S s2 s3 s4 s5 s6 s7 s8 s9 s10 s11 s12 s13 s14 s15) ∧ Pen H2 p (3000 * i))
      ⟨⟨none, none, none, none, none, none, none, none, none, none, none, none, none, none, rfl⟩, P0⟩ ?_ ?_⟩
    · rintro i σ H2 hi ⟨⟨s2, s3, s4, s5, s6, s7, s8, s9, s10, s11, s12, s13, s14, s15, rfl⟩, P1⟩
      have hi6 : i < 6 := by omega
      -- the words, the last place
      refine ⟨_, rfl, _, rfl, p, 3, _, rfl, by decide, by decide, P1, by omega, fun e H3 e0 e1 P3 F3 => ⟨_, _, rfl, rfl, ?_⟩⟩
      obtain ⟨m, rfl⟩ : ∃ m : Nat, e = m := ⟨e.toNat, by omega⟩
      refine ⟨p, 1 + m, _, rfl, by omega, P3, by omega, fun wl ws H4 nwl hwl lws wws dws P4 F4 => ?_⟩
      refine ⟨_, rfl, p, _, rfl, P4, by omega, fun last H5 hla P5 F5 => fun gd nd0 => ?_⟩
      have hwl5 := F5.lst P4 hwl
      clear F3 F4 F5 P1 P3 P4 hwl nwl
      refine ⟨by show 3 ≤ sizeLine; decide, fun t nt => ?_⟩
      have sg := same_lay (o := .dK []) nd0
      have hg6 : (upd H5 gd (.dK [])) gd = some (.dK []) := upd_same
      have ngp : gd ≠ p := fun e => by
        obtain ⟨_, hp⟩ := P5.dict
        rw [← e, nd0] at hp
        cases hp
      generalize upd H5 gd (.dK []) = H6 at sg hg6 nt
      have st := same_lay (o := .tup [.ref wl, .int last, .ref gd]) nt
      have ht7 : (upd H6 t (.tup [.ref wl, .int last, .ref gd])) t = some (.tup [.ref wl, .int last, .ref gd]) := upd_same
      have hg7 := st _ _ hg6
      generalize upd H6 t (.tup [.ref wl, .int last, .ref gd]) = H7 at st ht7 hg7
      have s57 := sg.trans st
      have hwl7 := s57 _ _ hwl5
      have P7 := P5.same' s57
      clear sg hg6 st
      refine ⟨t, _, rfl, .inl (.inl ht7), rfl, _, _, rfl, _, _, rfl, _, _, rfl, rfl, ?_⟩
      have lw : ws.length ≤ 3 := by omega
      have nws : ws.Nodup := dws
      -- what is told
      refine ⟨_, rfl, wl, rfl, ⟨_, .inl (.inl hwl7)⟩, for_list (K := K) (a := wl) (xs := ws.map V.str) (fun j σ G => ∃ s6 s7 kvs, σ = S (some (.int (0 + (i : Int)))) (some (.ref wl)) (some (.int last)) (some (.ref gd)) s6 s7 s8 s9 s10 s11 s12 s13 s14 s15 ∧ G gd = some (.dK kvs) ∧ kvs.map (·.1) = (ws.take j).map Sum.inr ∧ (∀ w ∈ ws.take j, ∃ v, valV kvs (.inr w) = some v ∧ Gp CL G last v) ∧ Pen G p (3000 * i + 100 + 110 * j) ∧ Frm p H5 G)
        ⟨s6, s7, [], rfl, hg7, rfl, (fun _ z => nomatch z), P7.mono (by omega), frmS s57⟩ (fun j σ G _ ⟨_, _, _, _, _, _, _, _, FG⟩ => .inl (.inl (FG.lst P5 hwl5))) ?_ ?_⟩
      · rintro j v σ G hv ⟨s6, s7, kvs, rfl, hk, eK, hJ, PG, FG⟩
        rw [List.getElem?_map] at hv
        obtain ⟨x, hx, rfl⟩ := Option.map_eq_some_iff.mp hv
        have hj := (List.getElem?_eq_some_iff.mp hx).1
        have xno : x ∉ ws.take j := by
          intro m
          have e1 : ws = ws.take j ++ ws.drop j := (List.take_append_drop j ws).symm
          have nws := nws
          rw [e1, List.nodup_append] at nws
          refine nws.2.2 _ m _ ?_ rfl
          rw [← (List.getElem?_eq_some_iff.mp hx).2, ← List.getElem_cons_drop hj]
          exact List.mem_cons_self
        have hne : valV kvs (.inr x) = none := val_no (by
          rw [eK]
          intro m
          obtain ⟨y, my, ey⟩ := List.mem_map.mp m
          exact xno (by rw [← Sum.inr.inj ey]; exact my))
        have lk : kvs.length = j := by
          have := congrArg List.length eK
          rw [List.length_map, List.length_map, List.length_take] at this
          omega
        have fin : ∀ (v : V) (G2 : Hp) (s7' : Option V), Gp CL G2 last v → Pen G2 p (3000 * i + 210 + 110 * j) → Frm p G G2 → ∃ s6 s7 kvs', S (some (.int (0 + (i : Int)))) (some (.ref wl)) (some (.int last)) (some (.ref gd)) (some (.str x)) s7' s8 s9 s10 s11 s12 s13 s14 s15 = S (some (.int (0 + (i : Int)))) (some (.ref wl)) (some (.int last)) (some (.ref gd)) s6 s7 s8 s9 s10 s11 s12 s13 s14 s15 ∧ (upd G2 gd (.dK (putK kvs (.inr x) v))) gd = some (.dK kvs') ∧ kvs'.map (·.1) = (ws.take (j + 1)).map Sum.inr ∧ (∀ w ∈ ws.take (j + 1), ∃ v', valV kvs' (.inr w) = some v' ∧ Gp CL (upd G2 gd (.dK (putK kvs (.inr x) v))) last v') ∧ Pen (upd G2 gd (.dK (putK kvs (.inr x) v))) p (3000 * i + 100 + 110 * (j + 1)) ∧ Frm p H5 (upd G2 gd (.dK (putK kvs (.inr x) v))) := fun v G2 s7' gv P2 F2 => by
          have hk2 : G2 gd = some (.dK kvs) := F2 _ _ hk ngp
          have k1 : KP G2 (upd G2 gd (.dK (putK kvs (.inr x) v))) := kp_dk hk2
          have l1 : ∀ a ys, G2 a = some (.lst ys) → (upd G2 gd (.dK (putK kvs (.inr x) v))) a = some (.lst ys) := fun a ys e => by rw [upd_ne (ne_of e hk2 (by intro z; cases z))]; exact e
          refine ⟨_, _, kvs ++ [(.inr x, v)], rfl, by rw [upd_same, putK_new _ hne], ?_, fun w hw => ?_, (P2.putD hk2 ngp).mono (by omega), (FG.trans F2).putAny P5 nd0⟩
          · rw [List.map_append, eK, take_snoc hx, List.map_append]; rfl
          · rw [take_snoc hx] at hw
            rcases List.mem_append.mp hw with hw | hw
            · obtain ⟨v', hv', g'⟩ := hJ w hw
              refine ⟨v', by rw [valV_snoc _ _ _ _ hne, if_neg (fun c => xno (by rw [← Sum.inr.inj c]; exact hw))]; exact hv', Gp.mv (Gp.mv g' (kp_frm F2 PG) fun a ys e => F2.lst PG e) k1 l1⟩
            · rw [List.mem_singleton.mp hw]
              exact ⟨v, by rw [valV_snoc _ _ _ _ hne, if_pos rfl], Gp.mv gv k1 l1⟩
        -- the rows
        refine ⟨_, rfl, _, rfl, p, _, last, rfl, hla, PG, by omega, fun ra xs R G2 nra hra hR tR tq lR P2 F2 => ⟨ra, rfl, ⟨_, .inl (.inl hra)⟩, fun D1 hD1 => lc_list (K := K) (a := ra) (xs := xs) (fun k G' => ∃ us, G' D1 = some (.lst us) ∧ All2 (PcT CL G') us (R.take k) ∧ Same G2 G') ⟨[], upd_same, .nil, same_lay hD1⟩ (fun k G' _ ⟨_, _, _, s⟩ => s.seq (.inl (.inl hra))) ?_ ?_⟩⟩
        · rintro k y G' hy ⟨us, hU, hUs, sG'⟩
          obtain ⟨q1, hq1, hr0⟩ := all2_get hR hy
          have lus := hUs.length
          rw [List.length_take] at lus
          refine ⟨rfl, yesT ⟨_, rfl, y, q1, rfl, hr0.kp (kp_same sG'), fun z2 G3 hz s3' => ?_⟩⟩
          have hU2 := s3' _ _ hU
          refine ⟨_, hU2, small1000 (by omega), us ++ [z2], upd_same, ?_, same_upd (sG'.trans s3') hD1⟩
          rw [take_snoc hq1]
          exact (hUs.imp fun _ _ h => h.kp ((kp_same s3').trans (kp_lst hU2))).append (.cons (hz.kp (kp_lst hU2)) .nil)
        rintro G3 ⟨us, hU, hUs, sG3⟩
        have lxs := hR.length
        rw [List.take_of_length_le (by omega)] at hUs
        have P3 := P2.same' sG3
        have F23 := F2.trans (frmS sG3)
        have lus := hUs.length
        have bR : ∀ q ∈ R, Bq q := fun q hq => (tq q hq).bq
        refine ⟨_, rfl, p, 3, _, rfl, by decide, by decide, P3, by omega, fun e G4 e0 e1 P4 F4 => ⟨rfl, _, rfl, ?_⟩⟩
        have F24 := F23.trans F4
        have hU4 := F4.lst P3 hU
        have hUs4 : All2 (PcT CL G4) us R := hUs.imp fun _ _ h => h.kp (kp_frm F4 P3)
        refine ite2 (fun c => ?_) (fun c => ?_)
        · refine ⟨_, rfl, D1, rfl, ⟨_, .inl (.inl hU4)⟩, fun D2 hD2 => lc_list (K := K) (a := D1) (xs := us) (fun k G' => ∃ vs, G' D2 = some (.lst vs) ∧ All2 (PcN CL D2 G') vs (R.take k) ∧ Same G4 G') ⟨[], upd_same, .nil, same_lay hD2⟩ (fun k G' _ ⟨_, _, _, s⟩ => s.seq (.inl (.inl hU4))) ?_ ?_⟩
          · rintro k y G' hy ⟨vs, hV, hVs, sG'⟩
            obtain ⟨q1, hq1, tp, u, rfl, htp, hln⟩ := all2_get hUs4 hy
            have lvs := hVs.length
            rw [List.length_take] at lvs
            refine ⟨rfl, yesT ⟨_, rfl, tp, _, rfl, .inr (.inl (.inl (sG' _ _ htp))), fun l nl => ?_⟩⟩
            have sl := same_lay (o := .lst [.int q1.1, .int q1.2.1, u]) nl
            have hV2 := sl _ _ hV
            refine ⟨_, hV2, small1000 (by omega), vs ++ [.ref l], upd_same, ?_, same_upd (sG'.trans sl) hD2⟩
            have nlD : l ≠ D2 := fun e => by rw [e, hV] at nl; cases nl
            rw [take_snoc hq1]
            refine (hVs.imp fun _ _ h => (h.same sl).put hV2).append (.cons ⟨l, u, rfl, nlD, by rw [upd_ne nlD, upd_same], ((hln.kp (kp_same sG')).same sl).kp (kp_lst hV2)⟩ .nil)
          rintro G5 ⟨vs, hV, hVs, sG5⟩
          rw [List.take_of_length_le (by omega)] at hVs
          refine ⟨D2, _, rfl, .inl ⟨.inl (.inl hV), fun tt ntt => ?_⟩⟩
          have s6' := same_lay (o := .tup vs) ntt
          have sX := sG5.trans s6'
          have hk6 : (upd G5 tt (.tup vs)) gd = some (.dK kvs) := sX _ _ (F24 _ _ hk ngp)
          refine ⟨_, rfl, _, rfl, gd, _, rfl, DPut.k (k := .inr x) hk6 (small1000 (by omega)), ?_⟩
          exact fin (.ref tt) _ _ ⟨tt, vs, R, rfl, .inl upd_same, hVs.imp fun _ _ h => h.pcA.same s6', tR, bR, by omega⟩ ((P4.same' sX).mono (by omega)) (F24.trans (frmS sX))
        · have hk6 : G4 gd = some (.dK kvs) := F24 _ _ hk ngp
          refine ⟨_, rfl, _, rfl, _, rfl, gd, _, rfl, DPut.k (k := .inr x) hk6 (small1000 (by omega)), ?_⟩
          exact fin (.ref D1) _ _ ⟨D1, us, R, rfl, .inr hU4, hUs4.imp fun _ _ h => h.pcA, tR, bR, by omega⟩ (P4.mono (by omega)) F24
      rintro σ G ⟨s6, s7, kvs, rfl, hk, eK, hJ, PG, FG⟩
      rw [List.length_map, List.take_of_length_le (Nat.le_refl _)] at eK
      rw [List.length_map, List.take_of_length_le (Nat.le_refl _)] at hJ
      rw [List.length_map] at PG
      have hwlG := FG.lst P5 hwl5
      have PG := PG.mono (m := 3000 * i + 450) (by omega)
      clear FG P5 hwl5 P7 hwl7 nd0 ht7 hg7 s57
      have spw : ∀ w ∈ ws, PV (.str w) := fun w hw => pv_str (by have := (wws w hw).len; omega) (word_smallS (wws w hw))
      refine ⟨fun σ G2 => σ = S (some (.int (0 + (i : Int)))) (some (.ref wl)) (some (.int last)) (some (.ref gd)) s6 s7 s8 s9 s10 s11 s12 s13 s14 s15 ∧ G2 gd = some (.dK kvs) ∧ (∀ w ∈ ws, ∃ v, valV kvs (.inr w) = some v ∧ Gp CL G2 last v) ∧ G2 wl = some (.lst (ws.map V.str)) ∧ Pen G2 p (3000 * i + 450), ?_, ?_⟩
      · obtain ⟨T, eT, hA, hT⟩ := ent_of (K := K) (CL := CL) (H := G) (n := last) eK nws hJ
        have lT : T.length ≤ 60 := by have := congrArg List.length eT; rw [List.length_map] at this; omega
        refine ⟨_, rfl, _, rfl, gd, last, kvs, ws, rfl, hk, eK, by omega, spw, .inl ⟨T, eT, hA, ⟨by rw [eT]; exact nws, lT, hla, fun e he => ⟨wws e.1 (by rw [← eT]; exact List.mem_map.mpr ⟨e, he, rfl⟩), (hT e he).1, (hT e he).2.1, by have := (hT e he).2.2; omega⟩⟩, fun H' s' => ⟨_, rfl, iteB (by simp) ⟨rfl, s' _ _ hk, fun w hw => ?_, s' _ _ hwlG, PG.same' s'⟩⟩⟩⟩
        obtain ⟨v, hv, g⟩ := hJ w hw
        exact ⟨v, hv, Gp.mv g (kp_same s') fun _ _ e => s' _ _ e⟩
      rintro σ G1 ⟨rfl, hk1, hJ1, hwl1, P1⟩
      clear hk hJ PG hwlG
      have kne : kvs ≠ [] := by
        intro e
        rw [e] at eK
        have := congrArg List.length eK
        simp only [List.map_nil, List.length_nil, List.length_map] at this
        omega
      -- some are spoilt
      refine ⟨by show 0 ≤ sizeLine; decide, fun du ndu => ?_⟩
      have sd := same_lay (o := .lst []) ndu
      have hdu2 : (upd G1 du (.lst [])) du = some (.lst []) := upd_same
      generalize upd G1 du (.lst []) = G2 at sd hdu2
      refine ⟨_, rfl, _, rfl, p, wl, ws, _, rfl, .inl (.inl (sd _ _ hwl1)), (fun w hw => word_smallS (wws w hw)), by omega, P1.same' sd, by omega, fun o M G3 no ho hpM P3 F3 => ?_⟩
      refine ⟨_, rfl, p, 2, _, rfl, by decide, by decide, P3, by omega, fun e G4 e0 e1 P4 F4 => ⟨_, _, rfl, rfl, 1 + e, rfl, o, _, rfl, .inl (.inl (F4.lst P3 ho)), fun sl nsl => ?_⟩⟩
      have F24 := F3.trans F4
      have ss := same_lay (o := .lst (cutV (M.map V.str) none (some (1 + e)))) nsl
      have hsl : (upd G4 sl (.lst (cutV (M.map V.str) none (some (1 + e))))) sl = some (.lst ((M.take (1 + e).toNat).map V.str)) := by rw [upd_same, cutV_to _ (by omega), List.map_take]
      generalize upd G4 sl (.lst (cutV (M.map V.str) none (some (1 + e)))) = G5 at ss hsl
      have P12 := P1.same' sd
      have nsd : sl ≠ du := fun z => by rw [z, F24.lst P12 hdu2] at nsl; cases nsl
      have nwd : wl ≠ du := fun z => by rw [← z, hwl1] at ndu; cases ndu
      have ngd : gd ≠ du := fun z => by rw [← z, hk1] at ndu; cases ndu
      have F25 := F24.trans (frmS ss)
      let X : Addr → Prop := fun c => c = p ∨ c = gd ∨ c = du
      have hXp : X p := .inl rfl
      have kx25 : Kx X G2 G5 := Kx.frm F25 hXp
      have nc5 : ∃ c0, c0 ≠ du ∧ ∃ k l, G5 p = some (.dK (penK c0 k l)) := by
        obtain ⟨c0, hc0, hcn⟩ := P1.cells
        obtain ⟨k, l, h⟩ := hc0
        exact ⟨c0, (fun z => hcn (by rw [z]; exact ndu)), F25.ce c0 ⟨k, l, sd _ _ h⟩⟩
      have hwl5 := F25.lst P12 (sd _ _ hwl1)
      have hdu5 := F25.lst P12 hdu2
      have hk5 : G5 gd = some (.dK kvs) := F25 _ _ (sd _ _ hk1) ngp
      have hJ5 : ∀ w ∈ ws, ∃ v, valV kvs (.inr w) = some v ∧ VJ X CL G5 last v (Jf [] w) := fun w hw => by
        obtain ⟨v, hv, g⟩ := hJ1 w hw
        have sep : ∀ c o, G1 c = some o → (∀ kvs, o ≠ .dK kvs) → ¬ X c := fun c o e n z => by
          rcases z with z | z | z
          · obtain ⟨pk, hp1⟩ := P1.dict
            rw [z, hp1] at e; exact n _ (Option.some.inj e).symm
          · rw [z, hk1] at e; exact n _ (Option.some.inj e).symm
          · rw [z, ndu] at e; cases e
        exact ⟨v, hv, ((Gp.o g sep).mv (Kx.same sd)).mv kx25⟩
      have P5' := (P4.same' ss).mono (m := 3000 * i + 800) (by omega)
      generalize hMsd : M.take (1 + e).toNat = Ms at hsl
      have lM := hpM.length_eq
      have ndM : M.Nodup := hpM.nodup_iff.mpr nws
      have ndMs : Ms.Nodup := by rw [← hMsd]; exact (List.take_sublist _ _).nodup ndM
      have mMs : ∀ w ∈ Ms, w ∈ ws := fun w hw => hpM.mem_iff.mp (by rw [← hMsd] at hw; exact List.mem_of_mem_take hw)
      have lMs : 0 < Ms.length ∧ Ms.length ≤ 2 := by
        rw [← hMsd, List.length_take]
        omega
      clear P3 P4 F3 F4 F24 F25 ss ho no hdu2 sd hk1 hJ1 hwl1 kx25 P12 P1 hMsd
      refine ⟨sl, rfl, ⟨_, .inl (.inl hsl)⟩, for_list (K := K) (a := sl) (xs := Ms.map V.str) (fun j σ G => ∃ s6 s9 kvs' ds, σ = S (some (.int (0 + (i : Int)))) (some (.ref wl)) (some (.int last)) (some (.ref gd)) s6 s7 (some (.ref du)) s9 s10 s11 s12 s13 s14 s15 ∧ G gd = some (.dK kvs') ∧ kvs'.map (·.1) = ws.map Sum.inr ∧ ds.map (·.1) = Ms.take j ∧ (∀ d ∈ ds, d.2 ≤ 200) ∧ (∀ w ∈ ws, ∃ v, valV kvs' (.inr w) = some v ∧ VJ X CL G last v (Jf ds w)) ∧ G du = some (.lst ((ds.map cell).map V.str)) ∧ G wl = some (.lst (ws.map V.str)) ∧ G sl = some (.lst (Ms.map V.str)) ∧ sl ≠ du ∧ (∃ c0, c0 ≠ du ∧ ∃ k l, G p = some (.dK (penK c0 k l))) ∧ Pen G p (3000 * i + 800 + 10 * j))
        ⟨s6, s9, kvs, [], rfl, hk5, eK, rfl, (fun _ z => nomatch z), hJ5, hdu5, hwl5, hsl, nsd, nc5, P5'⟩ (fun j σ G _ ⟨_, _, _, _, _, _, _, _, _, _, _, _, h, _⟩ => .inl (.inl h)) ?_ ?_⟩
      · rintro j v σ G hv ⟨s6, s9, kvs', ds, rfl, hk, eK', eD, hm, hJ, hdu, hwl, hslG, nsd, ⟨c0, nc0, hc0⟩, PG⟩
        rw [List.getElem?_map] at hv
        obtain ⟨x, hx, rfl⟩ := Option.map_eq_some_iff.mp hv
        have hj := (List.getElem?_eq_some_iff.mp hx).1
        have mx := mMs x (List.mem_of_getElem? hx)
        have xno : x ∉ ds.map (·.1) := by
          rw [eD]
          intro m
          have e1 : Ms = Ms.take j ++ Ms.drop j := (List.take_append_drop j Ms).symm
          have ndMs := ndMs
          rw [e1, List.nodup_append] at ndMs
          refine ndMs.2.2 _ m _ ?_ rfl
          rw [← (List.getElem?_eq_some_iff.mp hx).2, ← List.getElem_cons_drop hj]
          exact List.mem_cons_self
        have lds : ds.length = j := by
          have := congrArg List.length eD
          rw [List.length_map, List.length_take] at this
          omega
        have kmem : Sum.inr x ∈ kvs'.map (·.1) := by rw [eK']; exact List.mem_map.mpr ⟨x, mx, rfl⟩
        have lkv : kvs'.length ≤ 3 := by
          have := congrArg List.length eK'
          rw [List.length_map, List.length_map] at this
          omega
        obtain ⟨v, hvv, hg⟩ := hJ x mx
        rw [Jf_not xno] at hg
        obtain ⟨z, xs, L, rfl, nz, hz, hX, tL, bL, lL⟩ := hg
        refine ⟨_, rfl, _, rfl, _, rfl, gd, _, rfl, dg hk hvv, z, xs, rfl, hz.elim (fun e => .inr (.inl (.inl e))) (fun e => .inl (.inl (.inl e))), fun l nl => ⟨_, rfl, ?_⟩⟩
        have sl' := same_lay (o := .lst xs) nl
        have al : ∀ c, X c → (upd G l (.lst xs)) c ≠ none := fun c hc => by
          rcases hc with hc | hc | hc
          · obtain ⟨pk, hp⟩ := PG.dict
            rw [hc, sl' _ _ hp]; exact fun z => nomatch z
          · rw [hc, sl' _ _ hk]; exact fun z => nomatch z
          · rw [hc, sl' _ _ hdu]; exact fun z => nomatch z
        refine ⟨p, l, xs, L, last, _, X, rfl, upd_same, hX.imp (fun _ _ h => h.mv (Kx.same sl')), al, hXp, tL, bL, by omega, hla, PG.same' sl', by omega, fun t l2 ys m H8 nX2 ht hl2 hm2 hPB P8 F8 => ?_⟩
        have FG8 := (frmS (p := p) sl').trans F8
        have hk8 := FG8 _ _ hk ngp
        refine ⟨t, _, rfl, .inl (.inl ht), rfl, _, _, rfl, ?_⟩
        refine ⟨_, rfl, _, rfl, gd, _, rfl, DPut.k (k := .inr x) hk8 (small1000 (by omega)), _, _, rfl, rfl, ?_⟩
        have P9 := P8.putD (o := .dK (putK kvs' (.inr x) (.ref l2))) hk8 ngp
        have kx9 : Kx X H8 (upd H8 gd (.dK (putK kvs' (.inr x) (.ref l2)))) := fun c o e n => by rw [upd_ne (fun z => n (.inr (.inl z)))]; exact e
        have hk9 : (upd H8 gd (.dK (putK kvs' (.inr x) (.ref l2)))) gd = some (.dK (putK kvs' (.inr x) (.ref l2))) := upd_same
        have ls9 : ∀ a ys, G a = some (.lst ys) → (upd H8 gd (.dK (putK kvs' (.inr x) (.ref l2)))) a = some (.lst ys) := fun a ys e => by rw [upd_ne (ne_of (FG8.lst PG e) hk8 (by intro z; cases z))]; exact FG8.lst PG e
        have hc9 : ∃ k l, (upd H8 gd (.dK (putK kvs' (.inr x) (.ref l2)))) p = some (.dK (penK c0 k l)) := by
          obtain ⟨k, l, h⟩ := FG8.ce c0 hc0
          exact ⟨k, l, by rw [upd_ne ngp.symm]; exact h⟩
        generalize upd H8 gd (.dK (putK kvs' (.inr x) (.ref l2))) = H9 at P9 kx9 hk9 ls9 hc9
        have kxG9 : Kx X G H9 := (Kx.frm FG8 hXp).trans kx9
        have hdu9 := ls9 _ _ hdu
        have hxl := (wws x mx).len
        have hdl := dT_nat_len (n := m) (by omega)
        refine ⟨_, rfl, .inl ⟨rfl, _, .inl (.inl hdu9)⟩, _, rfl, _, _, rfl, rfl, sz1 (by show x.length + 1 ≤ 20000; omega), _, rfl, m, rfl, log_m hm2, _, _, rfl, rfl, sz1 ?_, du, _, _, rfl, rfl, hdu9, small1000 ?_, ?_⟩
        · rw [len_app]
          show x.length + 1 + (dT (m : Nat)).length ≤ 20000
          omega
        · rw [List.length_map, List.length_map]; omega
        have kxU : Kx X H9 (upd H9 du (.lst ((ds.map cell).map V.str ++ [.str (cell (x, m))]))) := fun c o e n => by rw [upd_ne (fun z => n (.inr (.inr z)))]; exact e
        have lsU : ∀ a ys, a ≠ du → H9 a = some (.lst ys) → (upd H9 du (.lst ((ds.map cell).map V.str ++ [.str (cell (x, m))]))) a = some (.lst ys) := fun a ys n e => by rw [upd_ne n]; exact e
        have PU : Pen (upd H9 du (.lst ((ds.map cell).map V.str ++ [.str (cell (x, m))]))) p (3000 * i + 800 + 10 * j + 10) := P9.put hc9 hdu9 nc0
        have ndp : du ≠ p := ne_of hdu9 P9.dict.choose_spec (by intro z; cases z)
        have hcU : ∃ k l, (upd H9 du (.lst ((ds.map cell).map V.str ++ [.str (cell (x, m))]))) p = some (.dK (penK c0 k l)) := by
          obtain ⟨k, l, h⟩ := hc9
          exact ⟨k, l, by rw [upd_ne ndp.symm]; exact h⟩
        refine ⟨_, _, putK kvs' (.inr x) (.ref l2), ds ++ [(x, m)], rfl, by rw [upd_ne ngd]; exact hk9, by rw [putK_keys kmem]; exact eK', by rw [List.map_append, eD, take_snoc hx]; rfl, fun d hd => ?_, fun w hw => ?_, by rw [upd_same, List.map_append, List.map_append]; rfl, lsU _ _ nwd (ls9 _ _ hwl), lsU _ _ nsd (ls9 _ _ hslG), nsd, ⟨c0, nc0, hcU⟩, PU.mono (by omega)⟩
        · rcases List.mem_append.mp hd with k | k
          · exact hm d k
          · rw [List.mem_singleton.mp k]; exact hm2
        · rw [Jf_snoc xno]
          by_cases e : w = x
          · subst e
            rw [if_pos rfl]
            refine ⟨.ref l2, by rw [valV_put, if_pos rfl], fun G' kG => hPB G' fun c o e n => kG _ _ (kxU _ _ (kx9 _ _ e n) n) n⟩
          · rw [if_neg e]
            obtain ⟨v, hv', g⟩ := hJ w hw
            exact ⟨v, by rw [valV_put, if_neg (fun c => e (Sum.inr.inj c))]; exact hv', g.mv (kxG9.trans kxU)⟩
      rintro σ G ⟨s6, s9, kvs', ds, rfl, hk, eK', eD, hm, hJ, hdu, hwl, _, _, _, PG⟩
      rw [List.length_map, List.take_of_length_le (Nat.le_refl _)] at eD
      rw [List.length_map] at PG
      have PG := PG.mono (m := 3000 * i + 900) (by omega)
      have wds : ∀ d ∈ ds, d.1 ∈ ws := fun d hd => mMs d.1 (by rw [← eD]; exact List.mem_map.mpr ⟨d, hd, rfl⟩)
      have ndd : (ds.map (·.1)).Nodup := by rw [eD]; exact ndMs
      have lds : ds.length = Ms.length := by rw [← eD, List.length_map]
      clear hdu5 hk5 hJ5 hwl5 P5' hsl
      -- which is told
      refine ⟨_, rfl, du, ds.map cell, rfl, .inl (.inl hdu), by rw [List.length_map]; omega, fun ys o2 hpy hsy no2 => ?_⟩
      have hasc := sortedS_asc hsy
      obtain ⟨y0, yr, rfl⟩ : ∃ y0 yr, ys = y0 :: yr := by
        cases ys with
        | nil => have := hpy.length_eq; rw [List.length_map] at this; simp at this; omega
        | cons a r => exact ⟨a, r, rfl⟩
      obtain ⟨d0, md0, rfl⟩ := List.mem_map.mp (hpy.mem_iff.mp List.mem_cons_self)
      have so := same_lay (o := .lst ((cell d0 :: yr).map V.str)) no2
      have ho2 : (upd G o2 (.lst ((cell d0 :: yr).map V.str))) o2 = some (.lst ((cell d0 :: yr).map V.str)) := upd_same
      generalize upd G o2 (.lst ((cell d0 :: yr).map V.str)) = K1 at so ho2
      have wd0 := wws d0.1 (wds d0 md0)
      have lw0 := wd0.len
      have ld0 := dT_nat_len (n := d0.2) (by have := hm d0 md0; omega)
      have lc0 : (cell d0).length ≤ 12 := by
        unfold cell
        rw [len_app, len_app]
        show d0.1.length + 1 + (dT (d0.2 : Nat)).length ≤ 12
        omega
      refine ⟨o2, _, 0, _, rfl, rfl, .inl (.inl ho2), atI_nat (j := 0) rfl, ⟨cell d0, rfl⟩, .inl ⟨cell d0, " ", rfl, rfl, by decide +kernel, Nat.le_trans (show (cell d0).length + 2 ≤ 1000 by omega) (by decide), fun fo nfo => ⟨_, rfl, ?_⟩⟩⟩
      have sf := same_lay (o := .lst ((Txt.split (cell d0) " ").map V.str)) nfo
      have hfo : (upd K1 fo (.lst ((Txt.split (cell d0) " ").map V.str))) fo = some (.lst [.str d0.1, .str (dT (d0.2 : Nat))]) := by rw [upd_same, split_cell wd0]; rfl
      generalize upd K1 fo (.lst ((Txt.split (cell d0) " ").map V.str)) = K2 at sf hfo
      have s2 := so.trans sf
      have kx2 : Kx X G K2 := Kx.same s2
      have hk2 := s2 _ _ hk
      have hwl2 := s2 _ _ hwl
      have P2 := PG.same' s2
      have hJ2 : ∀ w ∈ ws, ∃ v, valV kvs' (.inr w) = some v ∧ VJ X CL K2 last v (Jf ds w) := fun w hw => by
        obtain ⟨v, hv, g⟩ := hJ w hw
        exact ⟨v, hv, g.mv kx2⟩
      clear hk hwl PG hJ kx2 so sf s2 ho2 nfo no2
      have allW : ∀ w ∈ ws, wordB (.str w) = true := fun w hw => (wws w hw).wordS
      refine ⟨_, rfl, gd, last, kvs', ws, rfl, hk2, eK', by omega, spw, .inr (.inr ⟨allW, Jf ds, (fun w hw => by obtain ⟨v, hv, g⟩ := hJ2 w hw; exact ⟨v, hv, g.pcs⟩), d0.1, wds d0 md0, d0.2, Jf_in ndd md0, (fun u hu ju lt => ?_), fun t K3 ht s3' => ?_⟩)⟩
      · obtain ⟨d, md, rfl⟩ := Jf_some ju
        exact asc_hd hasc (hpy.mem_iff.mpr (List.mem_map.mpr ⟨d, md, rfl⟩)) (cell_lt wd0 lt)
      have hfo3 := s3' _ _ hfo
      refine ⟨_, rfl, fo, _, 0, _, rfl, rfl, .inl (.inl hfo3), atI_nat (j := 0) rfl, _, rfl, fo, _, 1, _, rfl, rfl, .inl (.inl hfo3), atI_nat (j := 1) rfl, _, (d0.2 : Nat), rfl, dT_int (Int.natCast_nonneg _) ?_, by omega, by show 4 ≤ sizeLine; decide, fun t2 nt2 => ?_⟩
      · have := hm d0 md0
        exact Int.lt_of_le_of_lt (show ((d0.2 : Nat) : Int) ≤ 200 by omega) (by decide)
      have s4' := same_lay (o := .tup [.str "pieces", .str d0.1, .int (d0.2 : Nat), .bl true]) nt2
      have ht2 : (upd K3 t2 (.tup [.str "pieces", .str d0.1, .int (d0.2 : Nat), .bl true])) t2 = some (.tup [.str "pieces", .str d0.1, .int (d0.2 : Nat), .bl true]) := upd_same
      have ht4 := s4' _ _ ht
      generalize upd K3 t2 (.tup [.str "pieces", .str d0.1, .int (d0.2 : Nat), .bl true]) = K4' at s4' ht2 ht4
      have s24 := s3'.trans s4'
      obtain ⟨q1, q2⟩ := quad_ok (word_smallS wd0) (d0.2 : Nat)
      refine ⟨quadD d0.1 (d0.2 : Nat), quadD d0.1 (d0.2 : Nat), quad_dp ht4, quad_dp ht2, q1, q1, _, rfl, iteB (by rw [q2]; rfl) ?_⟩
      have P4 := P2.same' s24
      have hwl4 := s24 _ _ hwl2
      have hk4 := s24 _ _ hk2
      have hJ4 : ∀ w ∈ ws, ∃ v, valV kvs' (.inr w) = some v := fun w hw => by obtain ⟨v, hv, _⟩ := hJ2 w hw; exact ⟨v, hv⟩
      obtain ⟨w0, wr, rfl⟩ : ∃ w0 wr, ws = w0 :: wr := by
        cases ws with
        | nil => simp at lws; omega
        | cons a r => exact ⟨a, r, rfl⟩
      have ww0 := wws w0 List.mem_cons_self
      clear hJ2 hk2 hwl2 P2 ht2 ht4 s24 s3' s4' hfo3 hfo
      -- odd keys
      refine ⟨_, rfl, p, 2, _, rfl, by decide, by decide, P4, by omega, fun e' K5 e0' e1' P5 F5 => ⟨_, _, rfl, rfl, 1 + e', rfl, by omega, by omega, fun D1 hD1 => lc_range (lo := 0) (n := (1 + e').toNat) (fun k G => ∃ ks : List Str, ks.length = k ∧ (∀ x ∈ ks, PV (.str x) ∧ wordB (.str x) = false) ∧ G D1 = some (.lst (ks.map V.str)) ∧ Pen G p (3000 * i + 901 + k) ∧ Frm p K5 G)
        ⟨[], rfl, (fun _ z => nomatch z), upd_same, P5.new hD1, Frm.new hD1⟩ ?_ ?_⟩⟩
      · rintro k G hk' ⟨ks, lks, oks, hks, PG, FG⟩
        have hwlG := FG.lst P5 (F5.lst P4 hwl4)
        refine ⟨rfl, yesT ⟨_, rfl, _, rfl, wl, _, 0, _, rfl, rfl, .inl (.inl hwlG), atI_nat (j := 0) rfl, p, w0, _, rfl, ww0, PG, by omega, fun y G2 hy1 hy2 P6 F6 => ?_⟩⟩
        have hks2 := F6.lst PG hks
        refine ⟨_, hks2, small1000 (by rw [List.length_map]; omega), ks ++ [y], by rw [List.length_append, lks]; rfl, fun x hx => ?_, by rw [upd_same, List.map_append]; rfl, ?_, ?_⟩
        · rcases List.mem_append.mp hx with k | k
          · exact oks x k
          · rw [List.mem_singleton.mp k]; exact ⟨hy1, hy2⟩
        · exact (P5.putNew P6 (FG.trans F6) hD1 hks2).mono (by omega)
        · exact (FG.trans F6).putAny P5 hD1
      rintro G ⟨ks, lks, oks, hks, PG, FG⟩
      have F4G := F5.trans FG
      have hwlG := F4G.lst P4 hwl4
      have hkG := F4G _ _ hk4 ngp
      obtain ⟨v0, hv0⟩ := hJ4 w0 List.mem_cons_self
      have kpos : 0 < ks.length := by omega
      have kle : ks.length ≤ 2 := by omega
      have PG := PG.mono (m := 3000 * i + 950) (by omega)
      clear F5 FG P5 F4G hwl4 hk4 hJ4 P4 hD1
      -- another dict
      refine fun d ndd' => ⟨_, rfl, wl, _, 0, _, rfl, rfl, .inl (.inl ((same_lay ndd') _ _ hwlG)), atI_nat (j := 0) rfl, _, rfl, _, rfl, wl, _, 0, _, rfl, rfl, .inl (.inl ((same_lay ndd') _ _ hwlG)), atI_nat (j := 0) rfl, gd, _, rfl, dg ((same_lay ndd') _ _ hkG) hv0, upd_same, [(.inr w0, v0)], rfl, by show 1 ≤ 15; decide, ?_⟩
      have sd' : Same G (upd (upd G d (.dK [])) d (.dK (mergeK [] [(.inr w0, v0)]))) := same_upd (same_lay ndd') ndd'
      have hd' : (upd (upd G d (.dK [])) d (.dK (mergeK [] [(.inr w0, v0)]))) d = some (.dK [(.inr w0, v0)]) := by rw [upd_same]; rfl
      generalize upd (upd G d (.dK [])) d (.dK (mergeK [] [(.inr w0, v0)])) = G6 at sd' hd'
      have P6 := PG.same' sd'
      have hks6 := sd' _ _ hks
      have ndp : d ≠ p := fun e => by
        obtain ⟨_, hp⟩ := PG.dict
        rw [← e, ndd'] at hp
        cases hp
      clear PG sd' hks hwlG hkG ndd'
      refine ⟨_, rfl, D1, rfl, ⟨_, .inl (.inl hks6)⟩, for_list (K := K) (a := D1) (xs := ks.map V.str) (fun k σ G => ∃ s12 kv us, σ = S (some (.int (0 + (i : Int)))) (some (.ref wl)) (some (.int last)) (some (.ref d)) s6 s7 (some (.ref du)) s9 (some (.ref fo)) (some (.ref D1)) s12 s13 s14 s15 ∧ G d = some (.dK kv) ∧ kv.map (·.1) = us.map Sum.inr ∧ us.length ≤ 1 + k ∧ (∀ u ∈ us, u = w0 ∨ u ∈ ks.take k) ∧ (∀ u ∈ ks.take k, u ∈ us) ∧ G D1 = some (.lst (ks.map V.str)) ∧ Pen G p (3000 * i + 950))
        ⟨s12, [(.inr w0, v0)], [w0], rfl, hd', rfl, by simp, (fun u hu => .inl (List.mem_singleton.mp hu)), (fun _ z => nomatch z), hks6, P6⟩ (fun k σ G _ ⟨_, _, _, _, _, _, _, _, _, h, _⟩ => .inl (.inl h)) ?_ ?_⟩
      · rintro k y σ G hy ⟨s12, kv, us, rfl, hk', eU, lU, hU1, hU2, hD, PG⟩
        rw [List.getElem?_map] at hy
        obtain ⟨x, hx, rfl⟩ := Option.map_eq_some_iff.mp hy
        have hkk := (List.getElem?_eq_some_iff.mp hx).1
        refine ⟨_, rfl, by show 3 ≤ sizeLine; decide, fun t nt => ⟨by show 1 ≤ sizeLine; decide, fun l nl => ?_⟩⟩
        have st := (same_lay (o := .tup [.int 0, .int last, .non]) nt).trans (same_lay (o := .lst [.ref t]) nl)
        generalize upd (upd G t (.tup [.int 0, .int last, .non])) l (.lst [.ref t]) = G2 at st
        have hk2 := st _ _ hk'
        have lkv : kv.length ≤ 3 := by
          have := congrArg List.length eU
          rw [List.length_map, List.length_map] at this
          omega
        refine ⟨_, rfl, _, rfl, d, _, rfl, DPut.k (k := .inr x) hk2 (small1000 (by omega)), ?_⟩
        have hD2 : (upd G2 d (.dK (putK kv (.inr x) (.ref l)))) D1 = some (.lst (ks.map V.str)) := by rw [upd_ne (ne_of (st _ _ hD) hk2 (by intro z; cases z))]; exact st _ _ hD
        by_cases c : Sum.inr x ∈ kv.map (·.1)
        · have xus : x ∈ us := by
            rw [eU] at c
            obtain ⟨z, mz, ez⟩ := List.mem_map.mp c
            rw [← Sum.inr.inj ez]; exact mz
          refine ⟨_, putK kv (.inr x) (.ref l), us, rfl, upd_same, by rw [putK_keys c]; exact eU, by omega, fun u hu => ?_, fun u hu => ?_, hD2, (PG.same' st).putD hk2 ndp⟩
          · rw [take_snoc hx]
            exact (hU1 u hu).imp id fun m => List.mem_append_left _ m
          · rw [take_snoc hx] at hu
            rcases List.mem_append.mp hu with m | m
            · exact hU2 u m
            · rw [List.mem_singleton.mp m]; exact xus
        · refine ⟨_, putK kv (.inr x) (.ref l), us ++ [x], rfl, upd_same, by rw [putK_new _ (val_no c), List.map_append, eU, List.map_append]; rfl, by rw [List.length_append]; show us.length + 1 ≤ _; omega, fun u hu => ?_, fun u hu => ?_, hD2, (PG.same' st).putD hk2 ndp⟩
          · rw [take_snoc hx]
            rcases List.mem_append.mp hu with m | m
            · exact (hU1 u m).imp id fun m => List.mem_append_left _ m
            · exact .inr (List.mem_append_right _ m)
          · rw [take_snoc hx] at hu
            rcases List.mem_append.mp hu with m | m
            · exact List.mem_append_left _ (hU2 u m)
            · exact List.mem_append_right _ m
      rintro σ G ⟨s12, kv, us, rfl, hk', eU, lU, hU1, hU2, hD, PG⟩
      rw [List.length_map] at lU
      rw [List.length_map, List.take_of_length_le (Nat.le_refl _)] at hU1 hU2
      obtain ⟨mk, mmk, lmk⟩ := least_str kpos
      refine ⟨_, rfl, _, rfl, d, last, kv, us, rfl, hk', eU, by omega, (fun u hu => ?_), .inr (.inl ⟨mk, hU2 mk mmk, (oks mk mmk).2, (fun u hu bu => ?_), fun t G2 ht s2' => ?_⟩)⟩
      · rcases hU1 u hu with e | m
        · rw [e]; exact spw w0 List.mem_cons_self
        · exact (oks u m).1
      · rcases hU1 u hu with e | m
        · rw [e, allW w0 List.mem_cons_self] at bu; cases bu
        · exact lmk u m
      refine ⟨_, rfl, D1, ks, rfl, .inl (.inl (s2' _ _ hD)), by omega, fun ys o3 hpy3 hsy3 no3 => ?_⟩
      have so3 := same_lay (o := .lst (ys.map V.str)) no3
      obtain ⟨y0, yr3, rfl⟩ : ∃ y0 yr, ys = y0 :: yr := by
        cases ys with
        | nil => have := hpy3.length_eq; simp at this; omega
        | cons a r => exact ⟨a, r, rfl⟩
      obtain rfl : y0 = mk := asc_anti (lmk y0 (hpy3.mem_iff.mp List.mem_cons_self)) (asc_hd (sortedS_asc hsy3) (hpy3.mem_iff.mpr mmk))
      have ho3 : (upd G2 o3 (.lst ((y0 :: yr3).map V.str))) o3 = some (.lst ((y0 :: yr3).map V.str)) := upd_same
      generalize upd G2 o3 (.lst ((y0 :: yr3).map V.str)) = G3 at so3 ho3
      refine ⟨o3, _, 0, _, rfl, rfl, .inl (.inl ho3), atI_nat (j := 0) rfl, by show 3 ≤ sizeLine; decide, fun t2 nt2 => ?_⟩
      have s4' := same_lay (o := .tup [.str "word", .str y0, .bl true]) nt2
      obtain ⟨q1, q2⟩ := tri_ok ((oks y0 mmk).1.sm y0 rfl)
      refine ⟨triD y0, triD y0, tri_dp ((so3.trans s4') _ _ ht), tri_dp upd_same, q1, q1, _, rfl, iteB (by rw [q2]; rfl) ?_⟩
      exact ⟨⟨_, _, _, _, _, _, _, _, _, _, _, _, _, _, rfl⟩, (PG.same' ((s2'.trans so3).trans s4')).mono (by omega)⟩
    · rintro σ G ⟨⟨_, _, _, _, _, _, _, _, _, _, _, _, _, _, rfl⟩, _⟩
      refine fun d ndd' => ⟨by show 0 ≤ sizeLine; decide, fun l nl => ⟨(same_lay nl) _ _ upd_same, [(.inr "f", .ref l)], rfl, by show 1 ≤ 15; decide, ?_⟩⟩
      have hl : (upd (upd (upd G d (.dK [])) l (.lst [])) d (.dK (mergeK [] [(.inr "f", .ref l)]))) l = some (.lst []) := by
        rw [upd_ne (fun z => by rw [z, upd_same] at nl; cases nl), upd_same]
      have hd : (upd (upd (upd G d (.dK [])) l (.lst [])) d (.dK (mergeK [] [(.inr "f", .ref l)]))) d = some (.dK [(.inr "f", .ref l)]) := by rw [upd_same]; rfl
      generalize upd (upd (upd G d (.dK [])) l (.lst [])) d (.dK (mergeK [] [(.inr "f", .ref l)])) = G2 at hl hd
      have wf : ∀ w ∈ (["f"] : List Str), w = "f" := fun w hw => List.mem_singleton.mp hw
      refine ⟨d, 0, [(.inr "f", .ref l)], ["f"], rfl, hd, rfl, by decide, (fun w hw => by rw [wf w hw]; exact pv_str (by decide) (by intro c hc; revert c; decide)), .inr (.inr ⟨(fun w hw => by rw [wf w hw]; decide +kernel), (fun _ => some 0), (fun w hw => ⟨.ref l, by rw [wf w hw]; exact valV_pos rfl, ?_⟩), "f", List.mem_singleton.mpr rfl, 0, rfl, (fun u hu _ => by rw [wf u hu]; exact List.lt_irrefl _), fun t G3 ht s3' => ?_⟩)⟩
      · exact ⟨l, [], [], 0, rfl, .inl (.inl (.inl hl)), rfl, Nat.le_refl _, .nil, rfl, (fun _ z => nomatch z), (fun _ z => nomatch z), .inr ⟨rfl, Int.le_refl _⟩⟩
      refine ⟨by show 4 ≤ sizeLine; decide, fun t2 nt2 => ?_⟩
      have s4' := same_lay (o := .tup [.str "pieces", .str "f", .int 0, .bl true]) nt2
      obtain ⟨q1, q2⟩ := quad_ok (w := "f") (by intro c hc; revert c; decide) 0
      refine ⟨quadD "f" 0, quadD "f" 0, quad_dp (s4' _ _ ht), quad_dp upd_same, q1, q1, ?_⟩
      rw [q2]
      exact q _
end
end OR

namespace OR
open PySem PySem.Spec PyProof.Rows L2
structure ZAt (K : PySem.W.Frag) : Prop where
  isi : PySem.W.nsIn K mainGlobals "isinstance" = some none
  int : PySem.W.nsIn K mainGlobals "int" = some none
  bool : PySem.W.nsIn K mainGlobals "bool" = some none
  tup : PySem.W.nsIn K mainGlobals "tuple" = some none
  list : PySem.W.nsIn K mainGlobals "list" = some none
  len : PySem.W.nsIn K mainGlobals "len" = some none
  max : PySem.W.nsIn K mainGlobals "max" = some none
  min : PySem.W.nsIn K mainGlobals "min" = some none
  sorted : PySem.W.nsIn K mainGlobals "sorted" = some none
  enum : PySem.W.nsIn K mainGlobals "enumerate" = some none
  range : PySem.W.nsIn K mainGlobals "range" = some none
  set : PySem.W.nsIn K mainGlobals "set" = some none
  abs : PySem.W.nsIn K mainGlobals "abs" = some none
  str : PySem.W.nsIn K mainGlobals "str" = some none
  all : PySem.W.nsIn K mainGlobals "all" = some none
  verr : PySem.W.nsIn K mainGlobals "ValueError" = some none
theorem lastP_lit : lastP = 1000000000000000000000000000000 := by decide
theorem lp_of {p : Program} {lv : List (Str × PySem.W.WData)} {mg : Str → Option Value} {h : Heap} (X : PySem.W.XL p lv mg h) (hm : (("LAST_PLACE" : Str), PySem.W.WData.int 1000000000000000000000000000000) ∈ lv) : ∃ t, mg "LAST_PLACE" = some (.int lastP t) := by
  obtain ⟨v, hv, hr⟩ := X.2.val _ hm
  cases hr with
  | int i t => exact ⟨t, by rw [lastP_lit]; exact hv⟩
/-- the class Line behind the top -/
structure LAt (K : PySem.W.Frag) (C : Addr) : Prop where
  aC : PySem.W.nsIn K mainGlobals "Line" = some (some (.ref C))
  pg : PySem.W.plainGet K C Str.empty = true
  hd : PySem.W.hasDictIn K C = true
  po : PySem.W.plainOver K C = true
  sa : PySem.W.findIn K (.ref C) "__setattr__" = some (some (.builtin "object.__setattr__"))
  mks : PySem.W.makesIn K C = true
  kc : PySem.W.keepIn K (.ref C) = true
  nS : PySem.W.findIn K (.ref C) "slope" = some none
  nH : PySem.W.findIn K (.ref C) "height" = some none
  sf : PySem.W.selfFirst K C = true
  ca : PySem.W.findIn K (.ref C) "__class__" = some (some (.builtin "object.__class__"))
  cn : PySem.W.specialIn K (.builtin "object.__class__") "__get__" = some (some (.builtin "getset_descriptor.__get__"))
  ct : PySem.W.takesIn K (.builtin "object.__class__") = some true
  cm : PySem.W.mroIn K C (.type "object") = some true
  kLL : PySem.W.kitOne K (.ref C) (.ref C) = some true
  kIL : PySem.W.kitOne K (.type "int") (.ref C) = some false
theorem LAt.txt {K : PySem.W.Frag} {C : Addr} {h : Heap} {mg : Str → Option Value} (L : LAt K C) (X : K.In h) (G : h.Ns mainGlobals mg) (Z : ZAt K) : LTxt K mg C :=
  ⟨⟨L.pg, L.hd, L.po, L.sa⟩, L.nS, L.nH, PySem.W.mg_of X G L.aC, L.sf, ⟨L.ca, L.cn, L.ct, L.cm⟩, L.kLL, L.kIL, PySem.W.mg_none_of X G Z.isi, PySem.W.mg_none_of X G Z.int, PySem.W.mg_none_of X G Z.bool⟩
theorem lmk_of {P : Program} {w : World} {K : PySem.W.Frag} {mg : Str → Option Value} {base : Heap} {C : Addr} (T : LTxt K mg C) (L : LAt K C) (mI : MtAt K C "__init__" "__init__" "Line.__init__" sLInit) : LMk P w K mg base C := ⟨T, by
    obtain ⟨f, fd, F, a, b, c⟩ := mI.ex
    exact ⟨f, fd, ⟨L.mks, a, b, L.kc⟩, ok_linit F T, F.binds fun _ _ _ _ _ _ us hl => match us, hl with | [_, _, _], _ => rfl⟩⟩
/-- the class Program behind the top -/
structure GAt (K : PySem.W.Frag) (C : Addr) : Prop where
  aC : PySem.W.nsIn K mainGlobals "Program" = some (some (.ref C))
  pg : PySem.W.plainGet K C Str.empty = true
  hd : PySem.W.hasDictIn K C = true
  po : PySem.W.plainOver K C = true
  sa : PySem.W.findIn K (.ref C) "__setattr__" = some (some (.builtin "object.__setattr__"))
  mks : PySem.W.makesIn K C = true
  kc : PySem.W.keepIn K (.ref C) = true
  nL : PySem.W.findIn K (.ref C) "last" = some none
  nF : PySem.W.findIn K (.ref C) "functions" = some none
  nT : PySem.W.findIn K (.ref C) "_told" = some none
  ca : PySem.W.findIn K (.ref C) "__class__" = some (some (.builtin "object.__class__"))
  cn : PySem.W.specialIn K (.builtin "object.__class__") "__get__" = some (some (.builtin "getset_descriptor.__get__"))
  ct : PySem.W.takesIn K (.builtin "object.__class__") = some true
  cm : PySem.W.mroIn K C (.type "object") = some true
  kGG : PySem.W.kitOne K (.ref C) (.ref C) = some true
theorem GAt.txt {K : PySem.W.Frag} {C : Addr} {h : Heap} {mg : Str → Option Value} (L : GAt K C) (X : K.In h) (G : h.Ns mainGlobals mg) : GTxt K mg C :=
  ⟨⟨L.pg, L.hd, L.po, L.sa⟩, L.nL, L.nF, L.nT, PySem.W.mg_of X G L.aC⟩
theorem gmkX_of {P : Program} {w : World} {K : PySem.W.Frag} {mg : Str → Option Value} {base : Heap} {C CL CW CB : Addr} (T : GTxt K mg C) (L : GAt K C) (mI : MtAt K C "__init__" "__init__" "Program.__init__" sProgramInit)
    (ok : ∀ f fd, Fun K "__init__" "Program.__init__" sProgramInit f fd → FnOk P w K mg base (L2.CX P w) 6 f fd ["self", "last", "told"] (spGInitX K C CL CW CB)) : GMkX P w K mg base C CL CW CB := ⟨T, by
    obtain ⟨f, fd, F, a, b, c⟩ := mI.ex
    exact ⟨f, fd, ⟨L.mks, a, b, L.kc⟩, ok f fd F, F.binds fun _ _ _ _ _ _ us hl => match us, hl with | [_, _, _], _ => rfl⟩⟩
section
variable {P : Program} {w : World} {K : PySem.W.Frag} {mg : Str → Option Value} {base : Heap}
end
/-- an own error with one field, behind the top -/
structure ErAt (K : PySem.W.Frag) (x q fl : Str) (st : Stmt) (CB CR : Addr) : Prop where
  aB : PySem.W.nsIn K mainGlobals x = some (some (.ref CB))
  aR : PySem.W.nsIn K mainGlobals "RangesError" = some (some (.ref CR))
  cls : ∃ nm q N bs bm sn sub ab col dd k0 k1 k2 k3 k5, K.lookup CB = some (excClassObj nm q CB N bs bm true sn sub ab col dd k0 k1 k2 k3 k5 "ValueError.__new__") ∧ PySem.HandSPX.refsVE bm = true
  sa : PySem.W.findIn K (.ref CB) "__setattr__" = some (some (.builtin "object.__setattr__"))
  ga : PySem.W.findIn K (.ref CB) "__getattribute__" = some (some (.builtin "BaseException.__getattribute__"))
  gg : PySem.W.findIn K (.ref CB) "__getattr__" = some none
  noF : PySem.W.findIn K (.ref CB) fl = some none
  kC : PySem.W.keepIn K (.ref CB) = true
  exC : PySem.W.subIn K (.ref CB) (.type "BaseException") = some true
  tyC : PySem.W.typeIn K (.ref CB) = some (.type "type")
  hdC : PySem.W.hasDictIn K CB = true
  ca : PySem.W.findIn K (.ref CB) "__class__" = some (some (.builtin "object.__class__"))
  cn : PySem.W.specialIn K (.builtin "object.__class__") "__get__" = some (some (.builtin "getset_descriptor.__get__"))
  ct : PySem.W.takesIn K (.builtin "object.__class__") = some true
  cm : PySem.W.mroIn K CB (.type "object") = some true
  sub : PySem.W.subIn K (.ref CB) (.ref CB) = some true
  kR : PySem.W.kitOne K (.ref CB) (.ref CR) = some true
  kV : PySem.W.kitOne K (.ref CB) (.type "ValueError") = some true
  init : ∃ f fd, Fun K "__init__" q st f fd ∧ PySem.W.findIn K (.ref CB) "__init__" = some (some (.ref f)) ∧ PySem.W.typeIn K (.ref f) = some (.type "function")
theorem erCls {K : PySem.W.Frag} {h : Heap} {CB : Addr} {nm q : Str} {N : Addr} {bs bm : List Value} {sn : List Str} {sub : List Value} {ab : Bool} {col : Option Bool} {dd : Option Addr} {m0 m1 m2 m3 m5 : Option Value} (_X : K.In h)
    (l : K.lookup CB = some (excClassObj nm q CB N bs bm true sn sub ab col dd m0 m1 m2 m3 m5 "ValueError.__new__")) (b : PySem.HandSPX.refsVE bm = true) :
    ∃ nm q N bs bm sn sub ab col dd k0 k1 k2 k3 k5, K.lookup CB = some (excClassObj nm q CB N bs bm true sn sub ab col dd k0 k1 k2 k3 k5 "ValueError.__new__") ∧ PySem.HandSPX.refsVE bm = true := ⟨nm, q, N, bs, bm, sn, sub, ab, col, dd, m0, m1, m2, m3, m5, l, b⟩
theorem erInit {K : PySem.W.Frag} {h : Heap} {CB f : Addr} {q : Str} {st : Stmt} {oc : Value} {od an : Option Addr} {osl : Array (Option Value)} {kV doc pm cdv ct : Value} (_X : K.In h) (a : PySem.W.findIn K (.ref CB) "__init__" = some (some (.ref f)))
    (l : K.lookup f = some ⟨oc, od, .func (PySem.W.fnOf "__init__" q (defArgs st) (defBody st) (defScope st) .none kV doc pm an cdv ct), osl⟩) (c : PySem.W.codeIn K cdv q = true) (k : PySem.W.keepIn K (.ref f) = true) (t : PySem.W.typeIn K (.ref f) = some (.type "function")) :
    ∃ f fd, Fun K "__init__" q st f fd ∧ PySem.W.findIn K (.ref CB) "__init__" = some (some (.ref f)) ∧ PySem.W.typeIn K (.ref f) = some (.type "function") := ⟨f, _, fun_mk l c k, a, t⟩
theorem er_of {P : Program} {w : World} {K : PySem.W.Frag} {mg : Str → Option Value} {base h : Heap} {x q fl : Str} {st : Stmt} {CB CR : Addr} (X : K.In h) (G : h.Ns mainGlobals mg) (e : ErAt K x q fl st CB CR) (zV : mg "ValueError" = none)
    (hb : ∀ (kV doc pm : Value) (an : Option Addr) (cdv ct : Value) (us : List Value), us.length = (["self", fl] : List Str).length → bindArgs (PySem.W.fnOf "__init__" q (defArgs st) (defBody st) (defScope st) .none kV doc pm an cdv ct) ⟨us, []⟩ = pure ((["self", fl] : List Str).zip us))
    (ok : ∀ f fd, Fun K "__init__" q st f fd → ErT K mg x fl CB CR f → FnOk P w K mg base CX0 1 f fd ["self", fl] (spErI CB fl)) : ErK P w K mg base x fl CB CR := by
  obtain ⟨f, fd, F, i, t⟩ := e.init
  have T : ErT K mg x fl CB CR f := ⟨PySem.W.mg_of X G e.aB, PySem.W.mg_of X G e.aR, zV, ⟨e.cls, e.sa, e.exC, e.tyC, e.kC⟩, ⟨e.ga, e.gg, e.exC, e.hdC⟩, ⟨e.ga, e.gg, e.exC, e.hdC, e.ca, e.cn, e.ct, e.cm⟩, e.noF, i, t, PySem.W.exm_ref e.exC e.hdC e.tyC e.sub, e.kR, e.kV⟩
  exact ⟨f, fd, T, ok f fd F T, F.binds hb⟩
theorem clX_of {P : Program} {w : World} {K : PySem.W.Frag} {mg : Str → Option Value} {base h : Heap} {x : Str} {st : Stmt} {k : Nat} {ps : List Str} {sp : Sp} (a : FnAt K x st) (X : K.In h) (G : h.Ns mainGlobals mg)
    (hb : ∀ (kV doc pm : Value) (an : Option Addr) (cdv ct : Value) (us : List Value), us.length = ps.length → bindArgs (PySem.W.fnOf x x (defArgs st) (defBody st) (defScope st) .none kV doc pm an cdv ct) ⟨us, []⟩ = pure (ps.zip us))
    (ok : ∀ f fd, Fun K x x st f fd → FnOk P w K mg base (L2.CX P w) k f fd ps sp) : ClX P w K mg base k x ps sp := by
  obtain ⟨f, fd, F, e⟩ := a.ex
  exact ⟨f, fd, ok f fd F, PySem.W.mg_of X G e, F.kp, F.binds hb⟩

structure ErAt2 (K : PySem.W.Frag) (x q f1 f2 : Str) (st : Stmt) (CB CR : Addr) : Prop where
  aB : PySem.W.nsIn K mainGlobals x = some (some (.ref CB))
  aR : PySem.W.nsIn K mainGlobals "RangesError" = some (some (.ref CR))
  cls : ∃ nm q N bs bm sn sub ab col dd k0 k1 k2 k3 k5, K.lookup CB = some (excClassObj nm q CB N bs bm true sn sub ab col dd k0 k1 k2 k3 k5 "ValueError.__new__") ∧ PySem.HandSPX.refsVE bm = true
  sa : PySem.W.findIn K (.ref CB) "__setattr__" = some (some (.builtin "object.__setattr__"))
  ga : PySem.W.findIn K (.ref CB) "__getattribute__" = some (some (.builtin "BaseException.__getattribute__"))
  gg : PySem.W.findIn K (.ref CB) "__getattr__" = some none
  no1 : PySem.W.findIn K (.ref CB) f1 = some none
  no2 : PySem.W.findIn K (.ref CB) f2 = some none
  kC : PySem.W.keepIn K (.ref CB) = true
  exC : PySem.W.subIn K (.ref CB) (.type "BaseException") = some true
  tyC : PySem.W.typeIn K (.ref CB) = some (.type "type")
  hdC : PySem.W.hasDictIn K CB = true
  ca : PySem.W.findIn K (.ref CB) "__class__" = some (some (.builtin "object.__class__"))
  cn : PySem.W.specialIn K (.builtin "object.__class__") "__get__" = some (some (.builtin "getset_descriptor.__get__"))
  ct : PySem.W.takesIn K (.builtin "object.__class__") = some true
  cm : PySem.W.mroIn K CB (.type "object") = some true
  sub : PySem.W.subIn K (.ref CB) (.ref CB) = some true
  kR : PySem.W.kitOne K (.ref CB) (.ref CR) = some true
  kV : PySem.W.kitOne K (.ref CB) (.type "ValueError") = some true
  init : ∃ f fd, Fun K "__init__" q st f fd ∧ PySem.W.findIn K (.ref CB) "__init__" = some (some (.ref f)) ∧ PySem.W.typeIn K (.ref f) = some (.type "function")
theorem er2_of {P : Program} {w : World} {K : PySem.W.Frag} {mg : Str → Option Value} {base h : Heap} {x q f1 f2 : Str} {st : Stmt} {CB CR : Addr} (X : K.In h) (G : h.Ns mainGlobals mg) (e : ErAt2 K x q f1 f2 st CB CR) (zV : mg "ValueError" = none)
    (hb : ∀ (kV doc pm : Value) (an : Option Addr) (cdv ct : Value) (us : List Value), us.length = (["self", f1, f2] : List Str).length → bindArgs (PySem.W.fnOf "__init__" q (defArgs st) (defBody st) (defScope st) .none kV doc pm an cdv ct) ⟨us, []⟩ = pure ((["self", f1, f2] : List Str).zip us))
    (ok : ∀ f fd, Fun K "__init__" q st f fd → ErT2 K mg x f1 f2 CB CR f → FnOk P w K mg base CX0 1 f fd ["self", f1, f2] (spErI2 CB f1 f2)) : ErK2 P w K mg base x f1 f2 CB CR := by
  obtain ⟨f, fd, F, i, t⟩ := e.init
  have T : ErT2 K mg x f1 f2 CB CR f := ⟨PySem.W.mg_of X G e.aB, PySem.W.mg_of X G e.aR, zV, ⟨e.cls, e.sa, e.exC, e.tyC, e.kC⟩, ⟨e.ga, e.gg, e.exC, e.hdC⟩, ⟨e.ga, e.gg, e.exC, e.hdC, e.ca, e.cn, e.ct, e.cm⟩, e.no1, e.no2, i, t, PySem.W.exm_ref e.exC e.hdC e.tyC e.sub, e.kR, e.kV⟩
  exact ⟨f, fd, T, ok f fd F T, F.binds hb⟩
end OR

namespace OR
open PySem PySem.Spec PyProof.Rows L2
set_option maxHeartbeats 0 in
theorem all_mk {l : PySem.W.OpenLaw} {w : World} {K : PySem.W.Frag} {h : Heap} {mg : Str → Option Value} {fa CL CG CW CB CR : Addr} (X : K.In h) (G : h.Ns mainGlobals mg) (hfa : mg "law" = some (.ref fa)) (LL : LAt K CL) (LG : GAt K CG) (Z : ZAt K)
    (lp : ∃ t, mg "LAST_PLACE" = some (.int lastP t)) (let_ : ∃ t, PySem.W.nsIn K mainGlobals "_LETTERS" = some (some (.str "abcdefghijklmnopqrstuvwxyz" t))) (most : ∃ t, PySem.W.nsIn K mainGlobals "_MOST_LETTERS" = some (some (.int 8 t))) (kBL : PySem.W.kitOne K (.type "bool") (.ref CL) = some false) (kSL : PySem.W.kitOne K (.type "str") (.ref CL) = some false) (kTL : PySem.W.kitOne K (.type "tuple") (.ref CL) = some false) (sBW : PySem.W.subIn K (.ref CB) (.ref CW) = some false)  
    (fDI : FnAt K "is_integer" sIsInt) (fDP : FnAt K "is_place" sIsPlace) (mIL : MtAt K CL "__init__" "__init__" "Line.__init__" sLInit) (fVA : FnAt K "value_at" sVal) (fLTh : FnAt K "line_through" pLineThrough) (fCNT : FnAt K "_continued" pContinued) (fPLn : FnAt K "_plain" pPlain) (fOF : FnAt K "one_form" pOneForm) (fRK : FnAt K "_ranked" pRanked) (fIW : FnAt K "is_word" sIsWord) (eW : ErAt K "BadWord" "BadWord.__init__" "word" sBadWordInit CW CR) (eB : ErAt2 K "BadPieces" "BadPieces.__init__" "function" "index" sBadPiecesInit CB CR) (fKW : FnAt K "check_word" sChkW) (fIP : FnAt K "_is_piece" pIsPiece) (fCE : FnAt K "_check_pieces" pCheckPieces) (mGI : MtAt K CG "__init__" "__init__" "Program.__init__" sProgramInit) (fDPen : FnAt K "_law_pen" sPen) (fDDraw : FnAt K "_law_draw" sDraw) (fDPick : FnAt K "_law_pick" sPick) (fDWords : FnAt K "_law_words" sWords) (fDWhole : FnAt K "_law_whole" sWhole) (fDWorth : FnAt K "_law_worth" sWorth) (fDLast : FnAt K "_law_last" sLast) (fDRows : FnAt K "_law_rows" sRows) (fDPiece : FnAt K "_law_piece" sPiece) (fDShuf : FnAt K "_law_shuffled" sShuffled) (fDRef : FnAt K "_law_refused" sRefused) (fDSpo : FnAt K "_law_spoilt" sSpoilt) (fDOdd : FnAt K "_law_odd_key" sOddKey) (fLaw : FnAt K "law" sLaw) :
    ∃ fd : FuncData, (∀ (s : Shared) (v : Value), BindsTo s fd ⟨[v], []⟩ [("_law_script", v)]) ∧ ∀ base : Heap, K.In base → base.Ns mainGlobals mg → FnG l.prog w K mg base 10 fa fd ["_law_script"] (spLaw K) := by
  obtain ⟨f, fd, F, e⟩ := fLaw.ex
  have e := hfa.symm.trans (PySem.W.mg_of X G e)
  cases e
  refine ⟨fd, fun s v => ?_, fun base _ _ => ?_⟩
  · obtain ⟨oc, od, kV, doc, pm, an, cdv, ct, osl, rfl, _⟩ := F.ex
    exact .of_eq rfl
  have LT : LTxt K mg CL := LL.txt X G Z
  have GT : GTxt K mg CG := LG.txt X G
  have none : ∀ {x : Str}, PySem.W.nsIn K mainGlobals x = some none → mg x = none := fun z => PySem.W.mg_none_of X G z
  have NT : NTxt mg := ⟨none Z.isi, none Z.int, none Z.bool, none Z.tup, none Z.list, none Z.len, none Z.sorted, none Z.enum, lp⟩
  have BL : Bl mg := ⟨none Z.int, none Z.len, none Z.abs, none Z.list⟩
  have B : Bd mg := ⟨none Z.range, none Z.min, none Z.max, none Z.int, none Z.len, none Z.list, none Z.set, none Z.sorted⟩
  have WT : WTxt K mg 0 0 := ⟨none Z.isi, none Z.str, none Z.len, none Z.all, let_.imp fun t e => PySem.W.mg_of X G e, most.imp fun t e => PySem.W.mg_of X G e⟩
  have DI : Cl l.prog w K mg base 1 "is_integer" ["value"] (spIsIntG K) := cl_of fDI X G (fun _ _ _ _ _ _ us hl => match us, hl with | [_], _ => rfl) fun f fd F => ok_isintG F NT
  have DP : Cl l.prog w K mg base 2 "is_place" ["value"] (spIsPlace K) := cl_of fDP X G (fun _ _ _ _ _ _ us hl => match us, hl with | [_], _ => rfl) fun f fd F => ok_isplace F NT DI
  have LM : LMk l.prog w K mg base CL := lmk_of LT LL mIL
  have VA : Cl l.prog w K mg base 1 "value_at" ["line", "x"] (spValW CL) := cl_of fVA X G (fun _ _ _ _ _ _ us hl => match us, hl with | [_, _], _ => rfl) fun f fd F => ok_valW F LT
  have LTh : Cl l.prog w K mg base 3 "line_through" ["x", "here", "beyond"] (spThru CL) := cl_of fLTh X G (fun _ _ _ _ _ _ us hl => match us, hl with | [_, _, _], _ => rfl) fun f fd F => ok_thru F LM
  have CNT : Cl l.prog w K mg base 4 "_continued" ["row", "first", "last", "line"] (spCont CL) := cl_of fCNT X G (fun _ _ _ _ _ _ us hl => match us, hl with | [_, _, _, _], _ => rfl) fun f fd F => ok_cont F LT VA LTh
  have PLn : Cl l.prog w K mg base 3 "_plain" ["first", "last", "line"] (spPlain CL) := cl_of fPLn X G (fun _ _ _ _ _ _ us hl => match us, hl with | [_, _, _], _ => rfl) fun f fd F => ok_plain F LM VA
  have OF : Cl l.prog w K mg base 5 "one_form" ["pieces"] (spOneF K CL) := cl_of fOF X G (fun _ _ _ _ _ _ us hl => match us, hl with | [_], _ => rfl) fun f fd F => ok_oneF F NT CNT PLn
  have RK : Cl l.prog w K mg base 1 "_ranked" ["word"] spRanked := cl_of fRK X G (fun _ _ _ _ _ _ us hl => match us, hl with | [_], _ => rfl) fun f fd F => ok_ranked F WT
  have IW : Cl l.prog w K mg base 1 "is_word" ["value"] spIsWordV := cl_of fIW X G (fun _ _ _ _ _ _ us hl => match us, hl with | [_], _ => rfl) fun f fd F => ok_iswordV F WT
  have EW : ErK l.prog w K mg base "BadWord" "word" CW CR := er_of X G eW (none Z.verr) (fun _ _ _ _ _ _ us hl => match us, hl with | [_, _], _ => rfl) fun f fd F T => ok_erBw F T
  have EB : ErK2 l.prog w K mg base "BadPieces" "function" "index" CB CR := er2_of X G eB (none Z.verr) (fun _ _ _ _ _ _ us hl => match us, hl with | [_, _, _], _ => rfl) fun f fd F T => ok_erBp F T
  have KW : ClX l.prog w K mg base 3 "check_word" ["value"] (spChkWX CW) := clX_of fKW X G (fun _ _ _ _ _ _ us hl => match us, hl with | [_], _ => rfl) fun f fd F => ok_chkwX F EW IW
  have NL : NoLn K CL := ⟨LL.kIL, kBL, kSL, kTL⟩
  have IP : Cl l.prog w K mg base 3 "_is_piece" ["value"] (spIsPcX CL) := cl_of fIP X G (fun _ _ _ _ _ _ us hl => match us, hl with | [_], _ => rfl) fun f fd F => ok_ispcX F NT LT NL DP
  have CE : ClX l.prog w K mg base 4 "_check_pieces" ["function", "pieces", "last"] (spChkPcsX K CL CB) := clX_of fCE X G (fun _ _ _ _ _ _ us hl => match us, hl with | [_, _, _], _ => rfl) fun f fd F => ok_chkpcsX F NT EB IP
  have GM : GMkX l.prog w K mg base CG CL CW CB := gmkX_of GT LG mGI fun f fd F => ok_ginitX F NT GT RK KW CE OF
  have xBW : PySem.W.exmOne K (.ref CB) (.ref CW) = some false := PySem.W.exm_ref eW.exC eW.hdC eW.tyC sBW
  have DPen : Cl l.prog w K mg base 1 "_law_pen" ["_law_script"] (spPen K) := cl_of fDPen X G (fun _ _ _ _ _ _ us hl => match us, hl with | [_], _ => rfl) fun f fd F => ok_pen F BL
  have DDraw : Cl l.prog w K mg base 1 "_law_draw" ["_law_pen_here", "_law_many"] spDraw := cl_of fDDraw X G (fun _ _ _ _ _ _ us hl => match us, hl with | [_, _], _ => rfl) fun f fd F => ok_draw F BL
  have DPick : Cl l.prog w K mg base 2 "_law_pick" ["_law_pen_here", "_law_items"] (spPick K) := cl_of fDPick X G (fun _ _ _ _ _ _ us hl => match us, hl with | [_, _], _ => rfl) fun f fd F => ok_pick F BL DDraw
  have DPickS : Cl l.prog w K mg base 2 "_law_pick" ["_law_pen_here", "_law_items"] spPickS := cl_of fDPick X G (fun _ _ _ _ _ _ us hl => match us, hl with | [_, _], _ => rfl) fun f fd F => ok_pickS F BL DDraw
  have DWords : Cl l.prog w K mg base 3 "_law_words" ["_law_pen_here", "_law_many"] spWords := cl_of fDWords X G (fun _ _ _ _ _ _ us hl => match us, hl with | [_, _], _ => rfl) fun f fd F => ok_words F B DDraw DPick DPickS
  have DWhole : Cl l.prog w K mg base 3 "_law_whole" ["_law_pen_here"] spWhole := cl_of fDWhole X G (fun _ _ _ _ _ _ us hl => match us, hl with | [_], _ => rfl) fun f fd F => ok_whole F DDraw DPick
  have DWorth : Cl l.prog w K mg base 1 "_law_worth" ["_law_line", "_law_x"] spWorthT := cl_of fDWorth X G (fun _ _ _ _ _ _ us hl => match us, hl with | [_, _], _ => rfl) fun f fd F => ok_worthT F
  have DLast : Cl l.prog w K mg base 3 "_law_last" ["_law_pen_here"] spLastP := cl_of fDLast X G (fun _ _ _ _ _ _ us hl => match us, hl with | [_], _ => rfl) fun f fd F => ok_last F DDraw DPick
  have DRows : Cl l.prog w K mg base 4 "_law_rows" ["_law_pen_here", "_law_last_here"] spRowsL := cl_of fDRows X G (fun _ _ _ _ _ _ us hl => match us, hl with | [_, _], _ => rfl) fun f fd F => ok_rowsL F B DDraw DPick DWhole DWorth
  have DPiece : Cl l.prog w K mg base 3 "_law_piece" ["_law_row"] (spPieceL CL) := cl_of fDPiece X G (fun _ _ _ _ _ _ us hl => match us, hl with | [_], _ => rfl) fun f fd F => ok_piece F LM
  have DShuf : Cl l.prog w K mg base 2 "_law_shuffled" ["_law_pen_here", "_law_items"] (spShufS K) := cl_of fDShuf X G (fun _ _ _ _ _ _ us hl => match us, hl with | [_, _], _ => rfl) fun f fd F => ok_shufs F B DDraw
  have DRef : Cl l.prog w K mg base 8 "_law_refused" ["_law_last_here", "_law_given"] (spRef K CL CW CB) := cl_of fDRef X G (fun _ _ _ _ _ _ us hl => match us, hl with | [_, _], _ => rfl) fun f fd F => ok_ref F (none Z.isi) GM EW EB xBW
  have DSpo : Cl l.prog w K mg base 3 "_law_spoilt" ["_law_pen_here", "_law_pieces", "_law_last_here"] (spSpoil K CL) := cl_of fDSpo X G (fun _ _ _ _ _ _ us hl => match us, hl with | [_, _, _], _ => rfl) fun f fd F => ok_spoil F B (none Z.str) DDraw DPick
  have DOdd : Cl l.prog w K mg base 3 "_law_odd_key" ["_law_pen_here", "_law_word"] spOddK := cl_of fDOdd X G (fun _ _ _ _ _ _ us hl => match us, hl with | [_, _], _ => rfl) fun f fd F => ok_oddK F DPick
  exact ok_law F B (none Z.tup) (none Z.str) DPen DDraw DWords DLast DRows DPiece DShuf DRef DSpo DOdd
end OR
open PySem PySem.W PyProof.Rows
set_option maxRecDepth 100000 in
set_option maxHeartbeats 0 in
theorem PySem.Challenge.cw_openranges_k14_programs_refused_holds : PySem.Challenge.rw_openranges_k14_programs_refused.Holds := by
  w_on; o_law; k_head; (case hw => w_witness2)
  k_fill
  refine OR.walk_g (l := PySem.Challenge.rw_openranges_k14_programs_refused) (n := 63) (k := 10) (x := "_law_script") (sp := fun w => OR.spLaw _) rfl (by decide) rfl ⟨rfl, by decide, by decide⟩ (fun w h Y => PySem.W.kIn_of Y) ?F (fun _ _ a ns hl _ hS => ⟨a, ns, rfl, hS, hl, fun _ => rfl⟩)
  case F =>
    intro w mg fa h KX G XL hmg
    refine' OR.all_mk KX G hmg ?LL ?LG ?Z ?lp ?let_ ?most ?kBL ?kSL ?kTL ?sBW ?fDI ?fDP ?mIL ?fVA ?fLTh ?fCNT ?fPLn ?fOF ?fRK ?fIW ?eW ?eB ?fKW ?fIP ?fCE ?mGI ?fDPen ?fDDraw ?fDPick ?fDWords ?fDWhole ?fDWorth ?fDLast ?fDRows ?fDPiece ?fDShuf ?fDRef ?fDSpo ?fDOdd ?fLaw
    case lp => exact OR.lp_of XL (by first | exact List.Mem.head _ | exact .tail _ (.head _) | exact .tail _ (.tail _ (.head _)))
    all_goals try clear hmg XL
    case LL =>
      refine' OR.LAt.mk ?aC ?pg ?hd ?po ?sa ?mks ?kc ?nS ?nH ?sf ?ca ?cn ?ct ?cm ?kLL ?kIL
      (case aC => k_is); (case pg => k_is); (case hd => k_is); (case po => k_is); (case sa => k_is); (case mks => k_is); (case kc => k_is); (case nS => k_is); (case nH => k_is); (case sf => k_is); (case ca => k_is); (case cn => k_is); (case ct => k_is); (case cm => k_is); (case kLL => kit_is); (case kIL => kit_is)
    case LG =>
      refine' OR.GAt.mk ?aC ?pg ?hd ?po ?sa ?mks ?kc ?nL ?nF ?nT ?ca ?cn ?ct ?cm ?kGG
      (case aC => k_is); (case pg => k_is); (case hd => k_is); (case po => k_is); (case sa => k_is); (case mks => k_is); (case kc => k_is); (case nL => k_is); (case nF => k_is); (case nT => k_is); (case ca => k_is); (case cn => k_is); (case ct => k_is); (case cm => k_is); (case kGG => kit_is)
    case Z =>
      refine' OR.ZAt.mk ?isi ?int ?bool ?tup ?list ?len ?max ?min ?sorted ?enum ?range ?set ?abs ?str ?all ?verr
      (case isi => k_is); (case int => k_is); (case bool => k_is); (case tup => k_is); (case list => k_is); (case len => k_is); (case max => k_is); (case min => k_is); (case sorted => k_is); (case enum => k_is); (case range => k_is); (case set => k_is); (case abs => k_is); (case str => k_is); (case all => k_is); (case verr => k_is)
    case let_ => exact ⟨_, by k_is⟩
    case most => exact ⟨_, by k_is⟩
    case fDI => refine' OR.fnAt KX ?a ?l ?c ?k; (case a => k_is); (case l => k_is); (case c => k_is); (case k => k_is)
    case fDP => refine' OR.fnAt KX ?a ?l ?c ?k; (case a => k_is); (case l => k_is); (case c => k_is); (case k => k_is)
    case mIL => refine' OR.mtAt KX ?a ?l ?c ?k ?i ?nn; (case a => k_is); (case l => k_is); (case c => k_is); (case k => k_is); (case i => k_is); (case nn => k_is)
    case fVA => refine' OR.fnAt KX ?a ?l ?c ?k; (case a => k_is); (case l => k_is); (case c => k_is); (case k => k_is)
    case fLTh => refine' OR.fnAt KX ?a ?l ?c ?k; (case a => k_is); (case l => k_is); (case c => k_is); (case k => k_is)
    case fCNT => refine' OR.fnAt KX ?a ?l ?c ?k; (case a => k_is); (case l => k_is); (case c => k_is); (case k => k_is)
    case fPLn => refine' OR.fnAt KX ?a ?l ?c ?k; (case a => k_is); (case l => k_is); (case c => k_is); (case k => k_is)
    case fOF => refine' OR.fnAt KX ?a ?l ?c ?k; (case a => k_is); (case l => k_is); (case c => k_is); (case k => k_is)
    case fRK => refine' OR.fnAt KX ?a ?l ?c ?k; (case a => k_is); (case l => k_is); (case c => k_is); (case k => k_is)
    case fIW => refine' OR.fnAt KX ?a ?l ?c ?k; (case a => k_is); (case l => k_is); (case c => k_is); (case k => k_is)
    case eW => refine' OR.ErAt.mk ?aB ?aR ?cls ?sa ?ga ?gg ?noF ?kC ?exC ?tyC ?hdC ?ca ?cn ?ct ?cm ?sub ?kR ?kV ?init; (case aB => k_is); (case aR => k_is); (case cls => refine' OR.erCls KX ?l ?b; (case l => k_is); (case b => decide +kernel)); (case sa => k_is); (case ga => k_is); (case gg => k_is); (case noF => k_is); (case kC => k_is); (case exC => k_is); (case tyC => k_is); (case hdC => k_is); (case ca => k_is); (case cn => k_is); (case ct => k_is); (case cm => k_is); (case sub => first | rfl | k_is); (case kR => kit_is); (case kV => kit_is); (case init => refine' OR.erInit KX ?a ?l ?c ?k ?t; (case a => k_is); (case l => k_is); (case c => k_is); (case k => k_is); (case t => k_is))
    case eB => refine' OR.ErAt2.mk ?aB ?aR ?cls ?sa ?ga ?gg ?no1 ?no2 ?kC ?exC ?tyC ?hdC ?ca ?cn ?ct ?cm ?sub ?kR ?kV ?init; (case aB => k_is); (case aR => k_is); (case cls => refine' OR.erCls KX ?l ?b; (case l => k_is); (case b => decide +kernel)); (case sa => k_is); (case ga => k_is); (case gg => k_is); (case no1 => k_is); (case no2 => k_is); (case kC => k_is); (case exC => k_is); (case tyC => k_is); (case hdC => k_is); (case ca => k_is); (case cn => k_is); (case ct => k_is); (case cm => k_is); (case sub => first | rfl | k_is); (case kR => kit_is); (case kV => kit_is); (case init => refine' OR.erInit KX ?a ?l ?c ?k ?t; (case a => k_is); (case l => k_is); (case c => k_is); (case k => k_is); (case t => k_is))
    case fKW => refine' OR.fnAt KX ?a ?l ?c ?k; (case a => k_is); (case l => k_is); (case c => k_is); (case k => k_is)
    case fIP => refine' OR.fnAt KX ?a ?l ?c ?k; (case a => k_is); (case l => k_is); (case c => k_is); (case k => k_is)
    case fCE => refine' OR.fnAt KX ?a ?l ?c ?k; (case a => k_is); (case l => k_is); (case c => k_is); (case k => k_is)
    case mGI => refine' OR.mtAt KX ?a ?l ?c ?k ?i ?nn; (case a => k_is); (case l => k_is); (case c => k_is); (case k => k_is); (case i => k_is); (case nn => k_is)
    case fDPen => refine' OR.fnAt KX ?a ?l ?c ?k; (case a => k_is); (case l => k_is); (case c => k_is); (case k => k_is)
    case fDDraw => refine' OR.fnAt KX ?a ?l ?c ?k; (case a => k_is); (case l => k_is); (case c => k_is); (case k => k_is)
    case fDPick => refine' OR.fnAt KX ?a ?l ?c ?k; (case a => k_is); (case l => k_is); (case c => k_is); (case k => k_is)
    case fDWords => refine' OR.fnAt KX ?a ?l ?c ?k; (case a => k_is); (case l => k_is); (case c => k_is); (case k => k_is)
    case fDWhole => refine' OR.fnAt KX ?a ?l ?c ?k; (case a => k_is); (case l => k_is); (case c => k_is); (case k => k_is)
    case fDWorth => refine' OR.fnAt KX ?a ?l ?c ?k; (case a => k_is); (case l => k_is); (case c => k_is); (case k => k_is)
    case fDLast => refine' OR.fnAt KX ?a ?l ?c ?k; (case a => k_is); (case l => k_is); (case c => k_is); (case k => k_is)
    case fDRows => refine' OR.fnAt KX ?a ?l ?c ?k; (case a => k_is); (case l => k_is); (case c => k_is); (case k => k_is)
    case fDPiece => refine' OR.fnAt KX ?a ?l ?c ?k; (case a => k_is); (case l => k_is); (case c => k_is); (case k => k_is)
    case fDShuf => refine' OR.fnAt KX ?a ?l ?c ?k; (case a => k_is); (case l => k_is); (case c => k_is); (case k => k_is)
    case fDRef => refine' OR.fnAt KX ?a ?l ?c ?k; (case a => k_is); (case l => k_is); (case c => k_is); (case k => k_is)
    case fDSpo => refine' OR.fnAt KX ?a ?l ?c ?k; (case a => k_is); (case l => k_is); (case c => k_is); (case k => k_is)
    case fDOdd => refine' OR.fnAt KX ?a ?l ?c ?k; (case a => k_is); (case l => k_is); (case c => k_is); (case k => k_is)
    case fLaw => refine' OR.fnAt KX ?a ?l ?c ?k; (case a => k_is); (case l => k_is); (case c => k_is); (case k => k_is)
    case kBL => kit_is
    case kSL => kit_is
    case kTL => kit_is
    case sBW => k_is

import PyProof.Rows.All
import Wide.All
import OpenK.AllK
import Wide.FinOn
import HandS.ForMost
import HandS.Wide
import HandS.IsInst
import HandS.TupAny
import HandS.Star
import HandS.Evl
import HandS.SortRule
import HandS.Small
import HandS.Flow
import HandS.Iter
import HandS.Zip
import HandS.Style
import KE.KOpsOwn
import HandS.SlotsOwn
import KE.RegKIsAll
import PySem.Challenge.RW_openranges_k09_whole_lowest_and_highest
set_option Elab.async false
set_option linter.all false
set_option maxRecDepth 100000
namespace OR
open PySem PySem.Spec PyProof.Rows L2
def top (i : Nat) : Stmt := PySem.Challenge.pw_openranges_k09_whole_lowest_and_highest.main.body.getD i (.Pass ⟨0, 0, 0, 0⟩)
abbrev sIsInt : Stmt := top 2
abbrev sLInit : Stmt := inClass (top 4) 0
abbrev sLCall : Stmt := inClass (top 4) 1
abbrev sLAdd : Stmt := inClass (top 4) 3
abbrev sLNeg : Stmt := inClass (top 4) 5
abbrev sLSub : Stmt := inClass (top 4) 6
abbrev sVal : Stmt := top 5
abbrev sFirst : Stmt := top 6
abbrev sLow : Stmt := top 7
abbrev sTakes : Stmt := top 8
abbrev sHigh : Stmt := top 9
abbrev sPen : Stmt := top 11
abbrev sDraw : Stmt := top 12
abbrev sPick : Stmt := top 13
abbrev sWhole : Stmt := top 14
abbrev sLine : Stmt := top 15
abbrev sWorth : Stmt := top 16
abbrev sLines : Stmt := top 17
abbrev sBest : Stmt := top 18
abbrev sPassed : Stmt := top 19
abbrev sAre : Stmt := top 20
abbrev sLaw : Stmt := top 21
abbrev Row := Int × Int
end OR

namespace OR
/-! ### the maths of the lower border of lines -/
def vl (r : Row) (x : Int) : Int := r.1 * x + r.2
abbrev Pc := Int × Row
def Env (T : List Row) (fst : Int) : List Pc → Int → Prop
  | [], B => B = fst
  | p :: R, B => Env T fst R p.1 ∧ p.1 < B ∧ p.2 ∈ T ∧ (∀ x, p.1 ≤ x → x < B → ∀ t ∈ T, vl p.2 x ≤ vl t x) ∧ (∀ t ∈ T, vl p.2 p.1 < vl t p.1 ∨ (vl p.2 p.1 = vl t p.1 ∧ p.2.1 ≤ t.1)) ∧ (∀ r ∈ R.head?, vl p.2 p.1 < vl r.2 p.1)
theorem Env.le {T : List Row} {fst : Int} : ∀ {S : List Pc} {B : Int}, Env T fst S B → fst ≤ B
  | [], _, h => by have : _ = fst := h; omega
  | p :: R, B, h => by have := Env.le h.1; have := h.2.1; omega
theorem Env.mono {T T' : List Row} {fst : Int} (m : ∀ t, t ∈ T ↔ t ∈ T') : ∀ {S : List Pc} {B : Int}, Env T fst S B → Env T' fst S B
  | [], _, h => h
  | p :: R, B, ⟨h1, h2, h3, h4, h5, h6⟩ => ⟨Env.mono m h1, h2, (m _).mp h3, fun x a b t ht => h4 x a b t ((m t).mpr ht), fun t ht => h5 t ((m t).mpr ht), h6⟩
theorem Env.add {T : List Row} {fst : Int} {n : Row} : ∀ {R : List Pc} {B : Int}, Env T fst R B → (∀ x, x < B → ∃ t ∈ T, vl t x < vl n x) → Env (n :: T) fst R B
  | [], _, h, _ => h
  | p :: R, B, ⟨h1, h2, h3, h4, h5, h6⟩, hn => by
    refine ⟨Env.add h1 (fun x hx => hn x (by omega)), h2, List.mem_cons_of_mem _ h3, fun x a b t ht => ?_, fun t ht => ?_, h6⟩
    · rcases List.mem_cons.mp ht with e | e
      · subst e
        obtain ⟨u, hu, lu⟩ := hn x b
        have := h4 x a b u hu
        omega
      · exact h4 x a b t e
    · rcases List.mem_cons.mp ht with e | e
      · subst e
        obtain ⟨u, hu, lu⟩ := hn p.1 h2
        have := h4 p.1 (Int.le_refl _) h2 u hu
        exact .inl (by omega)
      · exact h5 t e
/-- while pieces are taken over by n -/
structure PopSt (T : List Row) (fst last : Int) (n : Row) (R : List Pc) (B : Int) : Prop where
  env : Env T fst R B
  le : B ≤ last + 1
  bel : ∀ x, B ≤ x → x ≤ last → ∀ t ∈ T, vl n x ≤ vl t x
  hd : B ≤ last → ∀ r ∈ R.head?, vl n B < vl r.2 B
theorem vl_diff (p n : Row) (x : Int) : (p.1 - n.1) * x + (p.2 - n.2) = vl p x - vl n x := by
  unfold vl
  rw [Int.sub_mul]
  omega
/-- the lead of p over n grows -/
theorem lead_mono {p n : Row} (h : n.1 ≤ p.1) {x y : Int} (hxy : x ≤ y) : vl p x - vl n x ≤ vl p y - vl n y := by
  rw [← vl_diff, ← vl_diff]
  have := Int.mul_le_mul_of_nonneg_left hxy (show 0 ≤ p.1 - n.1 by omega)
  omega
theorem PopSt.pop {T : List Row} {fst last : Int} {n : Row} {p : Pc} {R : List Pc} {B : Int} (h : PopSt T fst last n (p :: R) B) (hs : n.1 ≤ p.2.1) (hv : vl n p.1 ≤ vl p.2 p.1) : PopSt T fst last n R p.1 := by
  obtain ⟨⟨h1, h2, h3, h4, h5, h6⟩, hB, hb, hh⟩ := h
  refine ⟨h1, by omega, fun x a b t ht => ?_, fun _ r hr => ?_⟩
  · by_cases hx : x < B
    · have := h4 x a hx t ht
      have := lead_mono hs a
      omega
    · exact hb x (by omega) b t ht
  · have := h6 r hr
    omega
/-- the state between the lines -/
structure EnvSt (T : List Row) (fst last : Int) (S : List Pc) : Prop where
  ex : ∃ B, Env T fst S B ∧ B ≤ last + 1 ∧ (S ≠ [] → B = last + 1) ∧ (S = [] → T = [])
theorem EnvSt.nil {fst last : Int} (h : fst ≤ last) : EnvSt [] fst last [] := ⟨fst, rfl, by omega, fun z => absurd rfl z, fun _ => rfl⟩
theorem EnvSt.start {T : List Row} {fst last : Int} {S : List Pc} (h : EnvSt T fst last S) (n : Row) : ∃ B, PopSt T fst last n S B := by
  obtain ⟨B, e, hB, h1, h2⟩ := h.ex
  refine ⟨B, e, hB, fun x a b t ht => ?_, fun hb r hr => ?_⟩
  · cases S with
    | nil => rw [h2 rfl] at ht; cases ht
    | cons p R => have := h1 (by simp); omega
  · cases S with
    | nil => cases hr
    | cons p R => have := h1 (by simp); omega
/-- nothing is left: n holds all -/
theorem PopSt.all {T : List Row} {fst last : Int} {n : Row} {B : Int} (h : PopSt T fst last n [] B) (hl : fst ≤ last) (hs : ∀ t ∈ T, n.1 ≤ t.1) : EnvSt (n :: T) fst last [(fst, n)] := by
  have eB : B = fst := h.env
  refine ⟨last + 1, ⟨rfl, by show fst < last + 1; omega, List.mem_cons_self, fun x a b t ht => ?_, fun t ht => ?_, fun r hr => nomatch hr⟩, Int.le_refl _, fun _ => rfl, fun z => nomatch z⟩
  · rcases List.mem_cons.mp ht with e | e
    · subst e; exact Int.le_refl _
    · exact h.bel x (by have : fst ≤ x := a; omega) (by omega) t e
  · rcases List.mem_cons.mp ht with e | e
    · subst e; exact .inr ⟨rfl, Int.le_refl _⟩
    · have := h.bel fst (by omega) hl t e
      have := hs t e
      have : vl n fst < vl t fst ∨ vl n fst = vl t fst := by omega
      rcases this with z | z
      · exact .inl z
      · exact .inr ⟨z, hs t e⟩
/-- n gets never below the last piece, or too late -/
theorem PopSt.keep {T : List Row} {fst last : Int} {n : Row} {p : Pc} {R : List Pc} {B : Int} (h : PopSt T fst last n (p :: R) B) (hs : n.1 ≤ p.2.1) (hv : vl p.2 p.1 < vl n p.1) (late : ∀ x, x ≤ last → vl p.2 x ≤ vl n x) : EnvSt (n :: T) fst last (p :: R) := by
  obtain ⟨⟨h1, h2, h3, h4, h5, h6⟩, hB, hb, hh⟩ := h
  have eB : B = last + 1 := by
    rcases (show B < (last + 1) ∨ (last + 1) ≤ B by omega) with z | z
    · have := hh (by omega) p rfl
      have := late B (by omega)
      omega
    · omega
  subst eB
  refine ⟨last + 1, ⟨Env.add h1 (fun x hx => ⟨p.2, h3, ?_⟩), h2, List.mem_cons_of_mem _ h3, fun x a b t ht => ?_, fun t ht => ?_, h6⟩, Int.le_refl _, fun _ => rfl, fun z => nomatch z⟩
  · have := lead_mono hs (show x ≤ p.1 by omega)
    omega
  · rcases List.mem_cons.mp ht with e | e
    · subst e; exact late x (by omega)
    · exact h4 x a b t e
  · rcases List.mem_cons.mp ht with e | e
    · subst e; exact .inl hv
    · exact h5 t e
/-- n begins at s -/
theorem PopSt.grow {T : List Row} {fst last : Int} {n : Row} {p : Pc} {R : List Pc} {B s : Int} (h : PopSt T fst last n (p :: R) B) (hs : ∀ t ∈ T, n.1 ≤ t.1) (hv : vl p.2 p.1 < vl n p.1) (h0 : vl n s < vl p.2 s) (h1' : vl p.2 (s - 1) ≤ vl n (s - 1)) (hl : s ≤ last) : EnvSt (n :: T) fst last ((s, n) :: p :: R) := by
  obtain ⟨⟨h1, h2, h3, h4, h5, h6⟩, hB, hb, hh⟩ := h
  have hsp := hs _ h3
  have lt : p.1 < s := by
    rcases (show p.1 < s ∨ s ≤ p.1 by omega) with z | z
    · exact z
    · have := lead_mono hsp z
      omega
  have sB : s ≤ B := by
    rcases (show last < B ∨ B ≤ last by omega) with z | z
    · omega
    · have a := hh z p rfl
      rcases (show B < s ∨ s ≤ B by omega) with y | y
      · have := lead_mono hsp (show B ≤ s - 1 by omega)
        omega
      · exact y
  have bel : ∀ x, s ≤ x → x ≤ last → ∀ t ∈ T, vl n x ≤ vl t x := fun x a b t ht => by
    rcases (show x < B ∨ B ≤ x by omega) with z | z
    · have := h4 x (by omega) z t ht
      have := lead_mono hsp a
      omega
    · exact hb x z b t ht
  refine ⟨last + 1, ⟨⟨Env.add h1 (fun x hx => ⟨p.2, h3, ?_⟩), lt, List.mem_cons_of_mem _ h3, fun x a b t ht => ?_, fun t ht => ?_, h6⟩, by show s < last + 1; omega, List.mem_cons_self, fun x a b t ht => ?_, fun t ht => ?_, fun r hr => ?_⟩, Int.le_refl _, fun _ => rfl, fun z => nomatch z⟩
  · have := lead_mono hsp (show x ≤ p.1 by omega)
    omega
  · rcases List.mem_cons.mp ht with e | e
    · subst e
      have := lead_mono hsp (show x ≤ s - 1 by have : x < s := b; omega)
      omega
    · exact h4 x a (by have : x < s := b; omega) t e
  · rcases List.mem_cons.mp ht with e | e
    · subst e; exact .inl hv
    · exact h5 t e
  · rcases List.mem_cons.mp ht with e | e
    · subst e; exact Int.le_refl _
    · exact bel x a (by have : x < last + 1 := b; omega) t e
  · rcases List.mem_cons.mp ht with e | e
    · subst e; exact .inr ⟨rfl, Int.le_refl _⟩
    · have := bel s (Int.le_refl _) hl t e
      have : vl n s < vl t s ∨ vl n s = vl t s := by omega
      rcases this with z | z
      · exact .inl z
      · exact .inr ⟨z, hs t e⟩
  · cases hr
    exact h0
/-! ### the rows, told forward -/
abbrev R4 := Int × Int × Row
structure Pk (sg : Int) (T : List Row) (last : Int) (q : R4) : Prop where
  le : q.1 ≤ q.2.1
  el : q.2.1 ≤ last
  mem : q.2.2 ∈ T
  low : ∀ x, q.1 ≤ x → x ≤ q.2.1 → ∀ t ∈ T, sg * vl q.2.2 x ≤ sg * vl t x
  fst : ∀ t ∈ T, sg * vl q.2.2 q.1 < sg * vl t q.1 ∨ (sg * vl q.2.2 q.1 = sg * vl t q.1 ∧ sg * q.2.2.1 ≤ sg * t.1)
  nxt : q.2.1 < last → ∃ t ∈ T, sg * vl t (q.2.1 + 1) < sg * vl q.2.2 (q.2.1 + 1)
def GoodTo (sg : Int) (T : List Row) (last : Int) : Int → List R4 → Int → Prop
  | b, [], c => b = c
  | b, q :: qs, c => q.1 = b ∧ Pk sg T last q ∧ GoodTo sg T last (q.2.1 + 1) qs c
theorem GoodTo.snoc {sg : Int} {T : List Row} {last : Int} {q : R4} : ∀ {L : List R4} {b : Int}, GoodTo sg T last b L q.1 → Pk sg T last q → GoodTo sg T last b (L ++ [q]) (q.2.1 + 1)
  | [], b, h, k => ⟨(show b = q.1 from h).symm, k, rfl⟩
  | r :: L, b, ⟨h1, h2, h3⟩, k => ⟨h1, h2, GoodTo.snoc h3 k⟩
def fwd : List Pc → Int → List R4
  | [], _ => []
  | p :: R, B => fwd R p.1 ++ [(p.1, B - 1, p.2)]
theorem fwd_good {T : List Row} {fst last : Int} : ∀ {S : List Pc} {B : Int}, Env T fst S B → B ≤ last + 1 → (B ≤ last → ∀ r ∈ S.head?, ∃ t ∈ T, vl t B < vl r.2 B) → GoodTo 1 T last fst (fwd S B) B
  | [], B, h, _, _ => (show B = fst from h).symm
  | p :: R, B, ⟨h1, h2, h3, h4, h5, h6⟩, hB, hh => by
    have a := fwd_good (last := last) h1 (by omega) (fun _ r hr => ⟨p.2, h3, h6 r hr⟩)
    have k : Pk 1 T last (p.1, B - 1, p.2) := by
      refine ⟨by show p.1 ≤ B - 1; omega, by show B - 1 ≤ last; omega, h3, fun x a b t ht => ?_, fun t ht => ?_, fun z => ?_⟩
      · have := h4 x a (by have : x ≤ B - 1 := b; omega) t ht
        show 1 * vl p.2 x ≤ 1 * vl t x
        omega
      · show 1 * vl p.2 p.1 < 1 * vl t p.1 ∨ (1 * vl p.2 p.1 = 1 * vl t p.1 ∧ 1 * p.2.1 ≤ 1 * t.1)
        have := h5 t ht
        omega
      · have z' : B - 1 < last := z
        obtain ⟨t, ht, l⟩ := hh (by omega) p rfl
        refine ⟨t, ht, ?_⟩
        show 1 * vl t (B - 1 + 1) < 1 * vl p.2 (B - 1 + 1)
        rw [show B - 1 + 1 = B by omega]
        omega
    have := GoodTo.snoc (q := (p.1, B - 1, p.2)) a k
    rw [show (p.1, B - 1, p.2).2.1 + 1 = B by show B - 1 + 1 = B; omega] at this
    exact this
/-- starts and lines forward, with the ends -/
def endsOf (F : List Pc) (z : Int) : List Int := (F.drop 1).map (fun p => p.1 - 1) ++ [z]
def rowsF (F : List Pc) (z : Int) : List R4 := List.zipWith (fun p e => (p.1, e, p.2)) F (endsOf F z)
theorem endsOf_snoc (q : Pc) (F : List Pc) (p : Pc) (z : Int) : endsOf (q :: F ++ [p]) z = endsOf (q :: F) (p.1 - 1) ++ [z] := by
  unfold endsOf
  simp
theorem ends_len (q : Pc) (F : List Pc) (z : Int) : (endsOf (q :: F) z).length = (q :: F).length := by
  unfold endsOf
  simp
theorem fwd_rows : ∀ (S : List Pc) (B : Int), S ≠ [] → fwd S B = rowsF S.reverse (B - 1)
  | [], _, h => absurd rfl h
  | [p], B, _ => rfl
  | p :: q :: R, B, _ => by
    show fwd (q :: R) p.1 ++ [(p.1, B - 1, p.2)] = _
    rw [fwd_rows (q :: R) p.1 (by simp)]
    have e : (p :: q :: R).reverse = (q :: R).reverse ++ [p] := List.reverse_cons
    rw [e]
    cases hF : (q :: R).reverse with
    | nil => simp at hF
    | cons f F =>
      unfold rowsF
      rw [endsOf_snoc, List.zipWith_append (by rw [ends_len])]
      rfl
theorem EnvSt.rows {T : List Row} {fst last : Int} {S : List Pc} (h : EnvSt T fst last S) (hT : T ≠ []) : S ≠ [] ∧ GoodTo 1 T last fst (rowsF S.reverse last) (last + 1) := by
  obtain ⟨B, e, hB, h1, h2⟩ := h.ex
  have hS : S ≠ [] := fun z => hT (h2 z)
  have eB := h1 hS
  subst eB
  refine ⟨hS, ?_⟩
  have := fwd_good (last := last) e hB (fun z => by omega)
  rw [fwd_rows S (last + 1) hS, show last + 1 - 1 = last by omega] at this
  exact this
theorem GoodTo.mono {sg : Int} {T T' : List Row} {last : Int} (m : ∀ t, t ∈ T ↔ t ∈ T') : ∀ {L : List R4} {b c : Int}, GoodTo sg T last b L c → GoodTo sg T' last b L c
  | [], _, _, h => h
  | q :: L, b, c, ⟨h1, k, h3⟩ => ⟨h1, ⟨k.le, k.el, (m _).mp k.mem, fun x a b t ht => k.low x a b t ((m t).mpr ht), fun t ht => k.fst t ((m t).mpr ht), fun z => (k.nxt z).imp fun t ⟨ht, l⟩ => ⟨(m t).mp ht, l⟩⟩, GoodTo.mono m h3⟩
def ngR (r : Row) : Row := (-r.1, -r.2)
def ng4 (q : R4) : R4 := (q.1, q.2.1, ngR q.2.2)
theorem vl_ng (r : Row) (x : Int) : vl (ngR r) x = -vl r x := by
  show -r.1 * x + -r.2 = -(r.1 * x + r.2)
  rw [Int.neg_mul]
  omega
theorem ngR_ng (r : Row) : ngR (ngR r) = r := by
  unfold ngR
  simp
/-- the highest: the lowest of the negated lines -/
theorem GoodTo.neg {T : List Row} {last : Int} : ∀ {L : List R4} {b c : Int}, GoodTo 1 (T.map ngR) last b L c → GoodTo (-1) T last b (L.map ng4) c
  | [], _, _, h => h
  | q :: L, b, c, ⟨h1, k, h3⟩ => by
    have mm : ∀ t ∈ T, ngR t ∈ T.map ngR := fun t ht => List.mem_map.mpr ⟨t, ht, rfl⟩
    refine ⟨h1, ⟨k.le, k.el, ?_, fun x a b t ht => ?_, fun t ht => ?_, fun z => ?_⟩, GoodTo.neg h3⟩
    · obtain ⟨t, ht, e⟩ := List.mem_map.mp k.mem
      show ngR q.2.2 ∈ T
      rw [← e, ngR_ng]
      exact ht
    · have := k.low x a b _ (mm t ht)
      rw [vl_ng] at this
      show -1 * vl (ngR q.2.2) x ≤ -1 * vl t x
      rw [vl_ng]
      omega
    · have := k.fst _ (mm t ht)
      rw [vl_ng] at this
      show -1 * vl (ngR q.2.2) q.1 < -1 * vl t q.1 ∨ (-1 * vl (ngR q.2.2) q.1 = -1 * vl t q.1 ∧ -1 * (-q.2.2.1) ≤ -1 * t.1)
      rw [vl_ng]
      have e : 1 * (ngR t).1 = -t.1 := by show 1 * (-t.1) = -t.1; omega
      rw [e] at this
      omega
    · obtain ⟨t, ht, l⟩ := k.nxt z
      obtain ⟨u, hu, e⟩ := List.mem_map.mp ht
      subst e
      rw [vl_ng] at l
      refine ⟨u, hu, ?_⟩
      show -1 * vl u (q.2.1 + 1) < -1 * vl (ngR q.2.2) (q.2.1 + 1)
      rw [vl_ng]
      omega
/-- the value at a place -/
def pickAt (x : Int) (q : R4) : Bool := decide (q.1 ≤ x) && decide (x ≤ q.2.1)
def minesAt (x : Int) (L : List R4) : List Int := (L.filter (pickAt x)).map fun q => vl q.2.2 x
theorem mines_none {sg : Int} {T : List Row} {last x : Int} : ∀ {L : List R4} {b c : Int}, GoodTo sg T last b L c → x < b → minesAt x L = []
  | [], _, _, _, _ => rfl
  | q :: L, b, c, ⟨h1, k, h3⟩, hx => by
    have e : pickAt x q = false := by
      unfold pickAt
      have : ¬ q.1 ≤ x := by omega
      simp [this]
    have := k.le
    unfold minesAt
    rw [List.filter_cons_of_neg (by rw [e]; simp)]
    exact mines_none h3 (by omega)
theorem mines_one {sg : Int} {T : List Row} {last x : Int} : ∀ {L : List R4} {b c : Int}, GoodTo sg T last b L c → b ≤ x → x < c → ∃ t ∈ T, minesAt x L = [vl t x] ∧ ∀ u ∈ T, sg * vl t x ≤ sg * vl u x
  | [], _, _, h, h1, h2 => by have : _ = _ := h; omega
  | q :: L, b, c, ⟨h1, k, h3⟩, hb, hc => by
    by_cases hx : x ≤ q.2.1
    · have e : pickAt x q = true := by
        unfold pickAt
        have : q.1 ≤ x := by omega
        simp [this, hx]
      refine ⟨q.2.2, k.mem, ?_, k.low x (by omega) hx⟩
      unfold minesAt
      rw [List.filter_cons_of_pos e, List.map_cons]
      have := mines_none h3 (x := x) (by omega)
      unfold minesAt at this
      rw [this]
    · have e : pickAt x q = false := by
        unfold pickAt
        simp [hx]
      obtain ⟨t, ht, e2, h⟩ := mines_one h3 (x := x) (by omega) hc
      refine ⟨t, ht, ?_, h⟩
      unfold minesAt at e2 ⊢
      rw [List.filter_cons_of_neg (by rw [e]; simp)]
      exact e2
/-- the best line at a place is one -/
def BestAt (sg : Int) (T : List Row) (x : Int) (r : Row) : Prop := r ∈ T ∧ ∀ t ∈ T, sg * vl r x < sg * vl t x ∨ (sg * vl r x = sg * vl t x ∧ sg * r.1 ≤ sg * t.1)
theorem best_one {sg : Int} (h : sg = 1 ∨ sg = -1) {T : List Row} {x : Int} {r s : Row} (hr : BestAt sg T x r) (hs : BestAt sg T x s) : r = s := by
  have a := hr.2 s hs.1
  have b := hs.2 r hr.1
  have e1 : r.1 = s.1 := by
    rcases h with h | h <;> subst h <;> omega
  have e2 : vl r x = vl s x := by
    rcases h with h | h <;> subst h <;> omega
  unfold vl at e2
  rw [e1] at e2
  have e3 : r.2 = s.2 := by omega
  exact Prod.ext e1 e3
end OR

namespace OR
open PySem PySem.Spec PyProof.Rows L2
/-! ### the pen: a dict of the cells, how many have begun, what is left of the last one -/
theorem kBC : ¬ ((Sum.inr ("begun" : Str) : Key) = Sum.inr ("cells" : Str)) := by decide +kernel
theorem kLC : ¬ ((Sum.inr ("left" : Str) : Key) = Sum.inr ("cells" : Str)) := by decide +kernel
theorem kLB : ¬ ((Sum.inr ("left" : Str) : Key) = Sum.inr ("begun" : Str)) := by decide +kernel
def penK (c : Addr) (k l : Int) : List (Key × V) := [(.inr ("cells" : Str), .ref c), (.inr ("begun" : Str), .int k), (.inr ("left" : Str), .int l)]
theorem pen_cells (c : Addr) (k l : Int) : valV (penK c k l) (.inr ("cells" : Str)) = some (.ref c) := valV_pos rfl
theorem pen_begun (c : Addr) (k l : Int) : valV (penK c k l) (.inr ("begun" : Str)) = some (.int k) :=
  (valV_neg (fun e => kBC e.symm)).trans (valV_pos rfl)
theorem pen_left (c : Addr) (k l : Int) : valV (penK c k l) (.inr ("left" : Str)) = some (.int l) :=
  (valV_neg (fun e => kLC e.symm)).trans ((valV_neg (fun e => kLB e.symm)).trans (valV_pos rfl))
theorem pen_put_left (c : Addr) (k l y : Int) : putK (penK c k l) (.inr ("left" : Str)) (.int y) = penK c k y := by
  have h1 : ¬ ((Sum.inr ("cells" : Str) : Key) = Sum.inr ("left" : Str)) := fun e => kLC e.symm
  have h2 : ¬ ((Sum.inr ("begun" : Str) : Key) = Sum.inr ("left" : Str)) := fun e => kLB e.symm
  unfold putK penK
  simp only [List.any_cons, List.any_nil, List.map_cons, List.map_nil, h1, h2, decide_true, decide_false, Bool.or_false, Bool.false_or, if_true, if_false]
theorem pen_put_begun (c : Addr) (k l y : Int) : putK (penK c k l) (.inr ("begun" : Str)) (.int y) = penK c y l := by
  have h1 : ¬ ((Sum.inr ("cells" : Str) : Key) = Sum.inr ("begun" : Str)) := fun e => kBC e.symm
  have h2 : ¬ ((Sum.inr ("left" : Str) : Key) = Sum.inr ("begun" : Str)) := kLB
  unfold putK penK
  simp only [List.any_cons, List.any_nil, List.map_cons, List.map_nil, h1, h2, decide_true, decide_false, Bool.or_false, Bool.false_or, Bool.or_true, if_true, if_false]
/-- a pen at p after at most n draws -/
def Pen (H : Hp) (p : Addr) (n : Nat) : Prop := ∃ (c : Addr) (ns : List Int) (k l : Int), H p = some (.dK (penK c k l)) ∧ H c = some (.lst (ns.map V.int)) ∧ ns.length ≤ 63 ∧ 0 ≤ k ∧ k ≤ n ∧ 0 ≤ l
/-- where the pen at p keeps its cells -/
def cellsAt (H : Hp) (p c : Addr) : Prop := ∃ k l, H p = some (.dK (penK c k l))
theorem penK_inj {c c' : Addr} {k l k' l' : Int} (h : penK c k l = penK c' k' l') : c = c' := by
  unfold penK at h
  injection h with h1 _
  injection h1 with _ h2
  injection h2
theorem cellsAt.inj {H : Hp} {p c : Addr} {k l : Int} {c' : Addr} (h : cellsAt H p c) (e : H p = some (.dK (penK c' k l))) : c = c' := by
  obtain ⟨k', l', e'⟩ := h
  rw [e] at e'
  injection e' with e'
  injection e' with e'
  exact (penK_inj e').symm
/-- all but what stands at p is as it was, and the pen there has the same cells -/
structure Frm (p : Addr) (H H' : Hp) : Prop where
  at_ : ∀ b o, H b = some o → b ≠ p → H' b = some o
  ce : ∀ c, cellsAt H p c → cellsAt H' p c
instance {p : Addr} {H H' : Hp} : CoeFun (Frm p H H') (fun _ => ∀ b o, H b = some o → b ≠ p → H' b = some o) := ⟨Frm.at_⟩
theorem Frm.refl (p : Addr) (H : Hp) : Frm p H H := ⟨fun _ _ h _ => h, fun _ h => h⟩
theorem Frm.trans {p : Addr} {H H1 H2 : Hp} (a : Frm p H H1) (b : Frm p H1 H2) : Frm p H H2 := ⟨fun c o h n => b c o (a c o h n) n, fun c h => b.ce c (a.ce c h)⟩
theorem Frm.pen {p c : Addr} {H : Hp} {k l k' l' : Int} (h : H p = some (.dK (penK c k l))) : Frm p H (upd H p (.dK (penK c k' l'))) :=
  ⟨fun b x e n => by rw [upd_ne n]; exact e, fun c' h' => by rw [h'.inj h]; exact ⟨k', l', upd_same⟩⟩
theorem Frm.new {p q : Addr} {H : Hp} {o : HO} (h : H q = none) : Frm p H (upd H q o) :=
  ⟨fun b x e _ => by rw [upd_ne (ne_of_none e h)]; exact e, fun c ⟨k, l, e⟩ => ⟨k, l, by rw [upd_ne (ne_of_none e h)]; exact e⟩⟩
/-- a list that is not the pen's cells is changed -/
theorem Pen.put {H : Hp} {p c a : Addr} {n : Nat} {xs : List V} {o : HO} (P : Pen H p n) (hc : cellsAt H p c) (h : H a = some (.lst xs)) (n1 : c ≠ a) : Pen (upd H a o) p n := by
  obtain ⟨c', ns, k, l, h1, h2, h3⟩ := P
  obtain rfl := hc.inj h1
  exact ⟨c, ns, k, l, by rw [upd_ne (ne_of h1 h (by intro z; cases z))]; exact h1, by rw [upd_ne n1]; exact h2, h3⟩
theorem Pen.cells {H : Hp} {p : Addr} {n : Nat} (P : Pen H p n) : ∃ c, cellsAt H p c ∧ H c ≠ none := by
  obtain ⟨c, ns, k, l, h1, h2, _⟩ := P
  exact ⟨c, ⟨k, l, h1⟩, by rw [h2]; exact fun z => nomatch z⟩
theorem Pen.dict {H : Hp} {p : Addr} {n : Nat} (P : Pen H p n) : ∃ kvs, H p = some (.dK kvs) := by
  obtain ⟨c, ns, k, l, h1, _⟩ := P
  exact ⟨_, h1⟩
/-- what stands at a list, a tuple or an object is not the pen -/
theorem Frm.lst {H H' : Hp} {p a : Addr} {n : Nat} {xs : List V} (f : Frm p H H') (P : Pen H p n) (h : H a = some (.lst xs)) : H' a = some (.lst xs) := by
  obtain ⟨kvs, hp⟩ := P.dict
  exact f _ _ h (ne_of h hp (by intro z; cases z))
theorem Pen.mono {H : Hp} {p : Addr} {n m : Nat} (P : Pen H p n) (h : n ≤ m) : Pen H p m := by
  obtain ⟨c, ns, k, l, h1, h2, h3, h4, h5, h6⟩ := P
  exact ⟨c, ns, k, l, h1, h2, h3, h4, by omega, h6⟩
theorem Pen.new {H : Hp} {p q : Addr} {n : Nat} {o : HO} (P : Pen H p n) (h : H q = none) : Pen (upd H q o) p n := by
  obtain ⟨c, ns, k, l, h1, h2, h3, h4, h5, h6⟩ := P
  exact ⟨c, ns, k, l, by rw [upd_ne (ne_of_none h1 h)]; exact h1, by rw [upd_ne (ne_of_none h2 h)]; exact h2, h3, h4, h5, h6⟩
/-! ### the promises -/
/-- a draw: some number below m -/
def spDraw : Sp := fun vs H Q _ => ∃ (p : Addr) (m : Int) (n : Nat), vs = [.ref p, .int m] ∧ 0 < m ∧ m.natAbs < 2 ^ 200 ∧ Pen H p n ∧ n ≤ 1000000 ∧
  ∀ (r : Int) (H' : Hp), 0 ≤ r → r < m → Pen H' p (n + 1) → Frm p H H' → Q (.int r) H'
/-- a def that lets nothing out, as it is called by its name -/
structure Cl (P : Program) (w : World) (K : PySem.W.Frag) (mg : Str → Option Value) (base : Heap) (k : Nat) (x : Str) (ps : List Str) (sp : Sp) : Prop where
  ex : ∃ (f : Addr) (fd : FuncData), FnOk P w K mg base CX0 k f fd ps sp ∧ mg x = some (.ref f) ∧ PySem.W.keepIn K (.ref f) = true ∧ Binds K fd ps []
theorem pe_cl {X : Cx} {k j : Nat} {x : Str} {ps : List Str} {sp : Sp} {e : Expr} {es : List Expr} {t : TA} {p pos : Pos} (c : Cl X.prog X.w X.K X.mg X.base k x ps sp) (hr : Room j X.A) (hk : k ≤ j) (hg : Gl X x) (ha : PA X (e :: es) t)
    (hdb : (x == ("__debug__" : Str)) = false := by decide) (he : starEach (e :: es) X.env = (false, eval e X.env) :: starEach es X.env := by rfl) (hpl : (backTo pos (starEach es X.env)).any (·.1) = false := by rfl) :
    PE X (.Call (.Name x p) (e :: es) [] pos) (tCall sp [] E0 t) := by
  obtain ⟨f, fd, F, hm, hkp, hb⟩ := c.ex
  exact pe_call F (hr.mono hk) hg hm hkp hb .nil pass0 ha hdb he hpl
theorem Frm.seq {K : PySem.W.Frag} {H H' : Hp} {p a : Addr} {n : Nat} {xs : List V} (f : Frm p H H') (P : Pen H p n) (h : SqL K H a xs) : SqL K H' a xs := by
  obtain ⟨c, ns, k, l, hp, _⟩ := P
  rcases h with (h | ⟨o, h⟩) | h
  · exact .inl (.inl (f _ _ h (ne_of h hp (by intro z; cases z))))
  · exact .inl (.inr ⟨o, f _ _ h (ne_of h hp (by intro z; cases z))⟩)
  · exact .inr h
theorem Frm.tup {K : PySem.W.Frag} {H H' : Hp} {p a : Addr} {n : Nat} {xs : List V} (f : Frm p H H') (P : Pen H p n) (h : SqT K H a xs) : SqT K H' a xs := by
  obtain ⟨c, ns, k, l, hp, _⟩ := P
  rcases h with (h | ⟨o, h⟩) | h
  · exact .inl (.inl (f _ _ h (ne_of h hp (by intro z; cases z))))
  · exact .inl (.inr ⟨o, f _ _ h (ne_of h hp (by intro z; cases z))⟩)
  · exact .inr h
/-- an item of a list that is not empty -/
def spPick (K : PySem.W.Frag) : Sp := fun vs H Q _ => ∃ (p a : Addr) (xs : List V) (n : Nat), vs = [.ref p, .ref a] ∧ SqL K H a xs ∧ 0 < xs.length ∧ xs.length ≤ 1000 ∧ Pen H p n ∧ n ≤ 1000000 ∧
  ∀ (v : V) (H' : Hp), v ∈ xs → Pen H' p (n + 1) → Frm p H H' → Q v H'
/-- some number, not too great -/
def spWhole : Sp := fun vs H Q _ => ∃ (p : Addr) (n : Nat), vs = [.ref p] ∧ Pen H p n ∧ n ≤ 900000 ∧
  ∀ (r : Int) (H' : Hp), -(10 ^ 30) < r → r < 10 ^ 30 → Pen H' p (n + 3) → Frm p H H' → Q (.int r) H'
/-- the pen, made of the script -/
def spPen (K : PySem.W.Frag) : Sp := fun vs H Q _ => ∃ (a : Addr) (ns : List Int), vs = [.ref a] ∧ SqL K H a (ns.map V.int) ∧ ns.length ≤ 63 ∧
  ∀ (p : Addr) (H' : Hp), H p = none → Pen H' p 0 → Same H H' → Q (.ref p) H'
structure Bl (mg : Str → Option Value) : Prop where
  int : mg "int" = none
  len : mg "len" = none
  abs : mg "abs" = none
  list : mg "list" = none
theorem dg {H : Hp} {p : Addr} {kvs : List (Key × V)} {x : Str} {v : V} (h : H p = some (.dK kvs)) (e : valV kvs (.inr x) = some v) : DGet H p (.str x) (some v) := e ▸ DGet.k (k := .inr x) h
theorem dp {H : Hp} {p : Addr} {kvs kvs' : List (Key × V)} {x : Str} {v : V} (h : H p = some (.dK kvs)) (e : putK kvs (.inr x) v = kvs') (hl : kvs.length < sizeLine) : DPut H p (.str x) v (upd H p (.dK kvs')) := e ▸ DPut.k (k := .inr x) h hl
theorem pen_small (c : Addr) (k l : Int) : (penK c k l).length < sizeLine := by show 3 < sizeLine; decide
theorem mod_bd (a b : Int) (h : 0 < b) : 0 ≤ a % b ∧ a % b < b := ⟨Int.emod_nonneg a (by omega), Int.emod_lt_of_pos a h⟩
theorem boot_absO : bootBuiltins ("abs" : Str) = some (.builtin "abs") := by decide +kernel
section
variable {P : Program} {w : World} {K : PySem.W.Frag} {mg : Str → Option Value} {base : Heap}
theorem scDraw : FnScope ["_law_pen_here", "_law_many", "_law_digit", "_law_k", "_law_size", "_law_cell", "_law_mix"] ["_law_pen_here", "_law_many"] (defScope sDraw) := ⟨rfl, rfl, rfl, by decide +kernel, rfl, by decide +kernel, by decide +kernel⟩
theorem div200 {m : Int} (h : 0 < m) (h2 : m.natAbs < 2 ^ 200) (i : Int) : CDivW i m := wide_div h h2 (by decide) (by decide)
theorem ok_draw {f : Addr} {fd : FuncData} (F : Fun K "_law_draw" "_law_draw" sDraw f fd) (B : Bl mg) : FnOk P w K mg base CX0 1 f fd ["_law_pen_here", "_law_many"] spDraw := by
  refine F.ok scDraw (fun vs H Q E h => ?_) (fun cdv A outer s H vs Q E hr h => ?_)
  · obtain ⟨p, m, n, rfl, _⟩ := h
    rfl
  · obtain ⟨p, m, n, rfl, hm, hmb, ⟨c, ns, k, l, hp, hc, hns, hk0, hkn, hl⟩, hn, q⟩ := h
    have hu := hu_of hr
    have ncp : c ≠ p := ne_of hc hp (by intro z; cases z)
    have nd := scDraw.nd
    refine ⟨_, pss_cons (ps_if (pt_cmpR op_gt (pe_dget hu (pv 0) pe_str (fun _ _ => rfl)) pe_int (nomark _))
        (pss_cons (ps_set (i := 2) nd rfl (.inl rfl) (pe_op op_mod (pe_callTy call_int1 (by rfl) B.int boot_int (pa_cons (pe_dget hu (pv 0) pe_str (fun _ _ => rfl)) pa_nil)) (pv 1)))
        (pss_cons (ps_dput hu (pv 0) pe_str (pe_op op_fdivW (pe_dget hu (pv 0) pe_str (fun _ _ => rfl)) (pv 1)) rfl)
        (pss_one (ps_ret (pv 2))))) pss_nil)
      (pss_cons (ps_par (i := 3) (j := 4) rfl nd rfl rfl (by decide) rfl rfl (pa_cons (pe_dget hu (pv 0) pe_str (fun _ _ => rfl)) (pa_cons (pe_callB call_len_seq (by rfl) B.len PySem.boot_len (pa_cons (pe_dget hu (pv 0) pe_str (fun _ _ => rfl)) pa_nil)) pa_nil)) rfl)
      (pss_cons (ps_dput hu (pv 0) pe_str (pe_op op_add (pv 3) pe_int) rfl)
      (Evl.pss_cut (ps_set (i := 5) nd rfl (.inl rfl) (pe_ifExp (pt_cmpR op_gt (pv 4) pe_int (nomark _))
          (pe_ix ix_list (pe_dget hu (pv 0) pe_str (fun _ _ => rfl)) (pe_op op_mod (pe_callTy call_int1 (by rfl) B.int boot_int (pa_cons (pv 3) pa_nil)) (pv 4)) (fun _ _ => rfl))
          (pe_op op_add (pe_op op_mul pe_int (pv 3)) pe_int)))
      (Evl.pss_cut (ps_if (PW.pt (pw_and (pt_cmpR op_lt (pv 3) (pv 4) (nomark _)) (pw_and1 (pt_cmpR op_ge (pe_callB call_abs (by rfl) B.abs boot_absO (pa_cons (pv 5) pa_nil)) (pe_op op_pow pe_int pe_int) (nomark _)))))
        (pss_cons (ps_dput hu (pv 0) pe_str (pe_op op_fdivW (pe_op op_sub (pe_callB call_abs (by rfl) B.abs boot_absO (pa_cons (pv 5) pa_nil)) (pe_op op_pow pe_int pe_int)) (pv 1)) rfl)
        (pss_one (ps_ret (pe_op op_mod (pe_callTy call_int1 (by rfl) B.int boot_int (pa_cons (pe_op op_sub (pe_callB call_abs (by rfl) B.abs boot_absO (pa_cons (pv 5) pa_nil)) (pe_op op_pow pe_int pe_int)) pa_nil)) (pv 1))))) pss_nil)
      (pss_cons (ps_set (i := 6) nd rfl (.inl rfl) (pe_op op_mod (pe_callTy call_int1 (by rfl) B.int boot_int (pa_cons
          (pe_op op_add (pe_op op_add (pe_op op_add (pe_op op_mul (pe_op op_mod (pe_callTy call_int1 (by rfl) B.int boot_int (pa_cons (pv 5) pa_nil)) pe_int) pe_int) (pe_op op_mul (pe_op op_mul pe_int (pv 3)) (pv 3))) (pe_op op_mul pe_int (pv 3))) pe_int) pa_nil)) pe_int))
      (pss_cons (ps_set (i := 6) nd rfl (.inl rfl) (pe_op op_mod (pe_callTy call_int1 (by rfl) B.int boot_int (pa_cons
          (pe_op op_add (pe_op op_add (pe_op op_mul (pv 6) (pv 6)) (pe_op op_mul pe_int (pv 6))) (pe_op op_mul pe_int (pv 3))) pa_nil)) pe_int))
      (pss_one (ps_ret (pe_op op_mod (pe_callTy call_int1 (by rfl) B.int boot_int (pa_cons (pe_op op_fdiv (pe_op op_mod (pe_callTy call_int1 (by rfl) B.int boot_int (pa_cons (pe_op op_mul (pv 6) (pe_op op_add (pv 6) pe_int)) pa_nil)) pe_int) pe_int) pa_nil)) (pv 1)))))))))), ?_⟩
    -- if pen['left'] > 0
    have dL : DGet H p (.str "left") (some (.int l)) := dg hp (pen_left c k l)
    have dB : DGet H p (.str "begun") (some (.int k)) := dg hp (pen_begun c k l)
    have dC : DGet H p (.str "cells") (some (.ref c)) := dg hp (pen_cells c k l)
    refine ⟨_, rfl, p, .int l, rfl, dL, _, _, rfl, rfl, _, rfl, ite2 (fun e => ?_) (fun e => ?_)⟩
    · have hl1 : 0 < l := of_decide_eq_true e
      refine ⟨_, rfl, p, .int l, rfl, dL, .inl ⟨l, rfl, _, rfl, l, m, rfl, rfl, hm, ?_⟩⟩
      refine ⟨_, rfl, p, .int l, rfl, dL, _, rfl, l, m, rfl, rfl, div200 hm hmb l, _, rfl, p, _, rfl, dp hp (pen_put_left c k l _) (pen_small c k l), _, rfl, ?_⟩
      refine q (l % m) _ (mod_bd l m hm).1 (mod_bd l m hm).2 ⟨c, ns, k, l / m, upd_same, by rw [upd_ne ncp]; exact hc, hns, hk0, by omega, Int.ediv_nonneg hl (by omega)⟩ (Frm.pen hp)
    · -- k, size = pen['begun'], len(pen['cells'])
      have hcL : SqL K H c (ns.map V.int) := .inl (.inl hc)
      refine ⟨_, rfl, p, .int k, rfl, dB, _, rfl, p, .ref c, rfl, dC, c, _, rfl, .inl hcL, _, _, rfl, ?_⟩
      refine ⟨_, rfl, _, _, rfl, rfl, _, rfl, p, _, rfl, dp hp (pen_put_begun c k l _) (pen_small c k l), ?_⟩
      -- cell = ..
      have hl0 : l = 0 := by
        have : ¬ (0 < l) := fun z => e (decide_eq_true z)
        omega
      have hp1 : (upd H p (.dK (penK c (k + 1) l))) p = some (.dK (penK c (k + 1) l)) := upd_same
      have hc1 : (upd H p (.dK (penK c (k + 1) l))) c = some (.lst (ns.map V.int)) := by rw [upd_ne ncp]; exact hc
      have dC1 := dg (x := "cells") hp1 (pen_cells c (k + 1) l)
      have hcL1 : SqL K (upd H p (.dK (penK c (k + 1) l))) c (ns.map V.int) := .inl (.inl hc1)
      have fin : ∀ (r y : Int), 0 ≤ r → r < m → 0 ≤ y → ∀ H', H' = upd H p (.dK (penK c (k + 1) y)) → Q (.int r) H' := fun r y h0 h1 hy H' e => by
        subst e
        exact q r _ h0 h1 ⟨c, ns, k + 1, y, upd_same, by rw [upd_ne ncp]; exact hc, hns, by omega, by omega, hy⟩ (Frm.pen hp)
      refine ⟨fun σ' H' => ∃ cell : Int, σ' = [some (.ref p), some (.int m), none, some (.int k), some (.int ((ns.map V.int).length : Int)), some (.int cell), none] ∧ H' = upd H p (.dK (penK c (k + 1) l)), ?_, ?_⟩
      · refine ⟨_, rfl, _, _, rfl, rfl, _, rfl, ite2 (fun e2 => ?_) (fun e2 => ?_)⟩
        · have hsz : (0 : Int) < ((ns.map V.int).length : Int) := of_decide_eq_true e2
          have hb := mod_bd k _ hsz
          have hj : (k % ((ns.map V.int).length : Int)).toNat < ns.length := by
            rw [List.length_map] at hb ⊢
            omega
          refine ⟨_, rfl, p, _, rfl, dC1, _, rfl, .inl ⟨k, rfl, _, rfl, k, _, rfl, rfl, hsz, c, ns.map V.int, _, .int ns[(k % ((ns.map V.int).length : Int)).toNat], rfl, rfl, hcL1, ?_, ?_⟩⟩
          · have := atI_nat (xs := ns.map V.int) (j := (k % ((ns.map V.int).length : Int)).toNat) (v := .int ns[(k % ((ns.map V.int).length : Int)).toNat]) (by rw [List.getElem?_map, List.getElem?_eq_getElem hj]; rfl)
            rw [Int.toNat_of_nonneg hb.1] at this
            exact this
          · exact ⟨_, rfl, rfl⟩
        · refine ⟨_, rfl, _, _, rfl, rfl, .inl ⟨by decide, by decide⟩, _, _, rfl, rfl, ?_⟩
          exact ⟨_, rfl, rfl⟩
      · rintro σ' H' ⟨cell, rfl, rfl⟩
        refine ⟨fun σ' H' => σ' = [some (.ref p), some (.int m), none, some (.int k), some (.int ((ns.map V.int).length : Int)), some (.int cell), none] ∧ H' = upd H p (.dK (penK c (k + 1) l)), ?_, ?_⟩
        · have hpow : CPow 10 18 := ⟨by decide, by decide, by decide⟩
          refine ⟨_, rfl, _, rfl, _, _, rfl, rfl, _, rfl, ite2 (fun e2 => ?_) (fun e2 => ?_)⟩
          · refine ⟨_, rfl, cell, rfl, _, _, rfl, rfl, hpow, _, _, rfl, rfl, _, rfl, ite2 (fun e3 => ?_) (fun e3 => ?_)⟩
            · have hge := of_decide_eq_true e3
              refine ⟨_, rfl, cell, rfl, _, _, rfl, rfl, hpow, _, _, rfl, rfl, _, rfl, _, _, rfl, rfl, div200 hm hmb _, _, rfl, p, _, rfl, dp hp1 (pen_put_left c (k + 1) l _) (pen_small c _ l), ?_⟩
              refine ⟨_, rfl, cell, rfl, _, _, rfl, rfl, hpow, _, _, rfl, rfl, .inl ⟨_, rfl, _, rfl, _, _, rfl, rfl, hm, ?_⟩⟩
              refine fin _ (((if cell < 0 then -cell else cell) - 10 ^ (18 : Int).toNat) / m) (mod_bd _ m hm).1 (mod_bd _ m hm).2 (Int.ediv_nonneg ?_ (by omega)) _ ?_
              · show (0 : Int) ≤ (if cell < 0 then -cell else cell) - 10 ^ (18 : Int).toNat
                have : (10 : Int) ^ (18 : Int).toNat ≤ (if cell < 0 then -cell else cell) := hge
                omega
              · rw [upd_upd]
            · exact ⟨rfl, rfl⟩
          · exact iteF ⟨rfl, rfl⟩
        · rintro σ' H' ⟨rfl, rfl⟩
          -- mix
          refine ⟨_, rfl, .inl ⟨_, rfl, _, _, rfl, rfl, (by show (0 : Int) < 4294966769; decide), _, _, rfl, rfl, .inr ⟨by decide, by decide⟩, _, rfl, _, _, rfl, rfl, .inl ⟨by decide, by decide⟩, _, rfl, _, _, rfl, rfl, .inl ?_, _, _, rfl, rfl, _, rfl, _, _, rfl, rfl, .inl ⟨by decide, by decide⟩, _, _, rfl, rfl, _, _, rfl, rfl, .inl ⟨_, rfl, _, _, rfl, rfl, (by show (0 : Int) < 4294966813; decide), ?_⟩⟩⟩
          · constructor <;> omega
          -- mix again
          generalize hM : (cell % 4294966769 * 43313 + 31699 * k * k + 613 * k + 41) % 4294966813 = M
          have hMb : 0 ≤ M ∧ M < 4294966813 := hM ▸ mod_bd _ _ (by decide)
          refine ⟨_, rfl, _, rfl, _, _, rfl, rfl, .inl (by constructor <;> omega), _, rfl, _, _, rfl, rfl, .inl ⟨by decide, by decide⟩, _, _, rfl, rfl, _, rfl, _, _, rfl, rfl, .inl ⟨by decide, by decide⟩, _, _, rfl, rfl, .inl ⟨_, rfl, _, _, rfl, rfl, (by show (0 : Int) < 4294966787; decide), ?_⟩⟩
          generalize hM2 : (M * M + 40961 * M + 17 * k) % 4294966787 = M2
          have hMb2 : 0 ≤ M2 ∧ M2 < 4294966787 := hM2 ▸ mod_bd _ _ (by decide)
          refine ⟨_, rfl, _, rfl, _, _, rfl, rfl, _, _, rfl, rfl, .inl (by constructor <;> omega), .inl ⟨_, rfl, _, _, rfl, rfl, (by show (0 : Int) < 4294966661; decide), _, _, rfl, rfl, ⟨by decide, by decide⟩, .inl ⟨_, rfl, _, rfl, _, _, rfl, rfl, hm, ?_⟩⟩⟩
          exact fin _ l (mod_bd _ m hm).1 (mod_bd _ m hm).2 hl _ rfl
theorem scPick : FnScope ["_law_pen_here", "_law_items"] ["_law_pen_here", "_law_items"] (defScope sPick) := ⟨rfl, rfl, rfl, by decide +kernel, rfl, by decide +kernel, by decide +kernel⟩
theorem ok_pick {f : Addr} {fd : FuncData} (F : Fun K "_law_pick" "_law_pick" sPick f fd) (B : Bl mg) (D : Cl P w K mg base 1 "_law_draw" ["_law_pen_here", "_law_many"] spDraw) : FnOk P w K mg base CX0 2 f fd ["_law_pen_here", "_law_items"] (spPick K) := by
  refine F.ok scPick (fun vs H Q E h => ?_) (fun cdv A outer s H vs Q E hr h => ?_)
  · obtain ⟨p, a, xs, n, rfl, _⟩ := h
    rfl
  · obtain ⟨p, a, xs, n, rfl, hS, h0, h1, hP, hn, q⟩ := h
    refine ⟨_, pss_one (ps_ret (pe_ix ix_list (pv 1) (pe_cl D hr (by decide) (by rfl) (pa_cons (pv 0) (pa_cons (pe_callB call_len_seq (by rfl) B.len PySem.boot_len (pa_cons (pv 1) pa_nil)) pa_nil))) (fun _ _ => rfl))), ?_⟩
    refine ⟨_, rfl, _, rfl, _, rfl, a, xs, rfl, .inl hS, p, xs.length, n, rfl, by omega, ?_, hP, hn, fun r H' hr0 hr1 hP' hF => ?_⟩
    · have : xs.length < 2 ^ 200 := Nat.lt_of_le_of_lt h1 (by decide)
      simpa using this
    · have hj : r.toNat < xs.length := by omega
      refine ⟨a, xs, r, xs[r.toNat], rfl, rfl, hF.seq hP hS, ?_, q _ _ (List.getElem_mem hj) hP' hF⟩
      have := atI_nat (xs := xs) (j := r.toNat) (v := xs[r.toNat]) (List.getElem?_eq_getElem hj)
      rw [Int.toNat_of_nonneg hr0] at this
      exact this
theorem scPen : FnScope ["_law_script"] ["_law_script"] (defScope sPen) := ⟨rfl, rfl, rfl, by decide +kernel, rfl, by decide +kernel, by decide +kernel⟩
theorem cut63 (ns : List Int) : cutV (ns.map V.int) none (some 63) = (ns.take 63).map V.int := by
  unfold cutV
  rw [HT.sIx_none, show HT.sIx (ns.map V.int).length (ns.map V.int).length (some 63) = min 63 (ns.map V.int).length from HT.sIx_nat _ _ 63, List.drop_zero, Nat.sub_zero, List.map_take]
  rcases Nat.le_total 63 (ns.map V.int).length with h | h
  · rw [Nat.min_eq_left h]
  · rw [Nat.min_eq_right h, List.take_of_length_le (Nat.le_refl _), List.take_of_length_le h]
theorem ok_pen {f : Addr} {fd : FuncData} (F : Fun K "_law_pen" "_law_pen" sPen f fd) (B : Bl mg) : FnOk P w K mg base CX0 1 f fd ["_law_script"] (spPen K) := by
  refine F.ok scPen (fun vs H Q E h => ?_) (fun cdv A outer s H vs Q E hr h => ?_)
  · obtain ⟨a, ns, rfl, _⟩ := h
    rfl
  · obtain ⟨a, ns, rfl, hS, hlen, q⟩ := h
    refine ⟨_, pss_one (ps_ret (pe_disp (pps_cons pe_str (pe_callTy call_list_of (by rfl) B.list (by decide +kernel) (pa_cons (pe_slice sl_list (pv 0) po_none (po_some pe_int)) pa_nil)) (pps_cons pe_str pe_int (pps_cons pe_str pe_int pps_nil))) rfl rfl (by simp) (by decide))), ?_⟩
    intro p hp
    have s1 : Same H (upd H p (.dK [])) := fun b o e => by rw [upd_ne (ne_of_none e hp)]; exact e
    refine ⟨_, rfl, _, rfl, a, _, rfl, s1.seq hS, fun x hx => ?_⟩
    refine ⟨x, _, rfl, .inl (.inl (.inl upd_same)), fun c hc => ?_⟩
    have npx : p ≠ x := ne_of_none upd_same hx
    have npc : p ≠ c := by
      intro e
      subst e
      rw [upd_ne npx, upd_same] at hc
      cases hc
    have a1 : putK ([] : List (Key × V)) (.inr ("cells" : Str)) (.ref c) = [(.inr ("cells" : Str), .ref c)] := putK_new _ valV_nil
    have a2 : putK ([(.inr ("cells" : Str), .ref c)] : List (Key × V)) (.inr ("begun" : Str)) (.int 0) = [(.inr ("cells" : Str), .ref c), (.inr ("begun" : Str), .int 0)] := putK_new _ ((valV_neg (fun e => kBC e.symm)).trans valV_nil)
    have a3 : putK ([(.inr ("cells" : Str), .ref c), (.inr ("begun" : Str), .int 0)] : List (Key × V)) (.inr ("left" : Str)) (.int 0) = penK c 0 0 := putK_new _ ((valV_neg (fun e => kLC e.symm)).trans ((valV_neg (fun e => kLB e.symm)).trans valV_nil))
    have e3 : mergeK [] (penK c 0 0) = penK c 0 0 := by
      show putK (putK (putK ([] : List (Key × V)) (.inr ("cells" : Str)) (.ref c)) (.inr ("begun" : Str)) (.int 0)) (.inr ("left" : Str)) (.int 0) = penK c 0 0
      rw [a1, a2, a3]
    refine ⟨by rw [upd_ne npc, upd_ne npx, upd_same], penK c 0 0, rfl, by show 3 ≤ 15; decide, ?_⟩
    rw [e3]
    refine q p _ hp ⟨c, ns.take 63, 0, 0, upd_same, ?_, by rw [List.length_take]; omega, by omega, by omega, by omega⟩ fun b o e => ?_
    · rw [upd_ne npc.symm, upd_same, cut63]
    · have h1 := s1 b o e
      have nbx : b ≠ x := ne_of_none h1 hx
      have h2 : (upd (upd H p (.dK [])) x (.lst (cutV (ns.map V.int) none (some 63)))) b = some o := by rw [upd_ne nbx]; exact h1
      rw [upd_ne (ne_of_none e hp), upd_ne (ne_of_none h2 hc)]
      exact h2
end
end OR

namespace OR
open PySem PySem.Spec PyProof.Rows L2
section
variable {P : Program} {w : World} {K : PySem.W.Frag} {mg : Str → Option Value} {base : Heap}
theorem scWhole : FnScope ["_law_pen_here", "_law_size"] ["_law_pen_here"] (defScope sWhole) := ⟨rfl, rfl, rfl, by decide +kernel, rfl, by decide +kernel, by decide +kernel⟩
theorem ok_whole {f : Addr} {fd : FuncData} (F : Fun K "_law_whole" "_law_whole" sWhole f fd) (D : Cl P w K mg base 1 "_law_draw" ["_law_pen_here", "_law_many"] spDraw) (C : Cl P w K mg base 2 "_law_pick" ["_law_pen_here", "_law_items"] (spPick K)) :
    FnOk P w K mg base CX0 3 f fd ["_law_pen_here"] spWhole := by
  refine F.ok scWhole (fun vs H Q E h => ?_) (fun cdv A outer s H vs Q E hr h => ?_)
  · obtain ⟨p, n, rfl, _⟩ := h
    rfl
  · obtain ⟨p, n, rfl, hP, hn, q⟩ := h
    refine ⟨_, pss_cons (ps_set (i := 1) scWhole.nd rfl (.inl rfl) (pe_cl C hr (by decide) (by rfl) (pa_cons (pv 0) (pa_cons (pe_lst (pa_cons pe_int (pa_cons pe_int (pa_cons pe_int (pa_cons (pe_op op_pow pe_int pe_int) (pa_cons (pe_op op_pow pe_int pe_int) pa_nil)))))) pa_nil))))
      (pss_one (ps_ret (pe_op op_mul (pe_cl D hr (by decide) (by rfl) (pa_cons (pv 0) (pa_cons (pv 1) pa_nil))) (pe_cl C hr (by decide) (by rfl) (pa_cons (pv 0) (pa_cons (pe_lst (pa_cons pe_int (pa_cons pe_int (pa_cons (pe_un un_neg pe_int) pa_nil)))) pa_nil)))))), ?_⟩
    refine ⟨_, rfl, _, _, rfl, rfl, ⟨by decide, by decide, by decide⟩, _, _, rfl, rfl, ⟨by decide, by decide, by decide⟩, by show 5 ≤ sizeLine; decide, fun a ha => ?_⟩
    have P1 := hP.new (o := .lst [.int 3, .int 10, .int 100, .int (10 ^ (6 : Int).toNat), .int (10 ^ (30 : Int).toNat)]) ha
    refine ⟨p, a, _, n, rfl, .inl (.inl upd_same), by show 0 < 5; decide, by show 5 ≤ 1000; decide, P1, by omega, fun v H2 hv P2 F2 => ?_⟩
    obtain ⟨m, rfl, hm0, hm1⟩ : ∃ m : Int, v = .int m ∧ 0 < m ∧ m ≤ 10 ^ 30 := by
      simp only [List.mem_cons, List.not_mem_nil, or_false] at hv
      rcases hv with e | e | e | e | e <;> subst e <;> exact ⟨_, rfl, by decide, by decide⟩
    have hmb : m.natAbs < 2 ^ 200 := by
      have : m.natAbs ≤ 10 ^ 30 := by omega
      exact Nat.lt_of_le_of_lt this (by decide)
    refine ⟨_, rfl, _, rfl, p, m, n + 1, rfl, hm0, hmb, P2, by omega, fun r H3 hr0 hr1 P3 F3 => ?_⟩
    refine ⟨_, rfl, _, rfl, by show 3 ≤ sizeLine; decide, fun b hb => ?_⟩
    refine ⟨p, b, _, n + 2, rfl, .inl (.inl upd_same), by show 0 < 3; decide, by show 3 ≤ 1000; decide, P3.new hb, by omega, fun v H4 hv P4 F4 => ?_⟩
    obtain ⟨s, rfl, hs⟩ : ∃ s : Int, v = .int s ∧ (s = 1 ∨ s = -1) := by
      simp only [List.mem_cons, List.not_mem_nil, or_false] at hv
      rcases hv with e | e | e <;> subst e
      · exact ⟨_, rfl, .inl rfl⟩
      · exact ⟨_, rfl, .inl rfl⟩
      · exact ⟨_, rfl, .inr rfl⟩
    refine ⟨r, s, rfl, rfl, .inr (by constructor <;> omega), q _ _ ?_ ?_ P4 ((((Frm.new ha).trans F2).trans F3).trans ((Frm.new hb).trans F4))⟩
    · rcases hs with rfl | rfl <;> omega
    · rcases hs with rfl | rfl <;> omega
end
end OR

namespace OR
open PySem PySem.Spec PyProof.Rows L2
/-! ### own classes: double-underscore methods behind the signs -/
/-- a method of the class at C, called with its object and arguments by position -/
structure Md (P : Program) (w : World) (K : PySem.W.Frag) (mg : Str → Option Value) (base : Heap) (k : Nat) (C : Addr) (m : Str) (sp : Sp) : Prop where
  ex : ∃ f, FnR P w K mg base CX0 k f sp ∧ PySem.W.findIn K (.ref C) m = some (some (.ref f)) ∧ PySem.W.isFn K (.ref f) = true ∧ PySem.W.fnIn K f = true
theorem fnR_of {P : Program} {w : World} {K : PySem.W.Frag} {mg : Str → Option Value} {base : Heap} {k : Nat} {f : Addr} {fd : FuncData} {ps : List Str} {sp : Sp} (F : FnOk P w K mg base CX0 k f fd ps sp) (hb : Binds K fd ps []) : FnR P w K mg base CX0 k f sp :=
  (F.raw hb .nil).imp fun vs H Q E h => by rw [List.append_nil]; exact h
section
variable {X : Cx} {n : Nat} {C : Addr} {sp : Sp}
def rBinS (C : Addr) (sp : Sp) : R2 := fun x y H Q => ∃ a b dx dy fs gs, x = .ref a ∧ y = .ref b ∧ H a = some (.ins C dx fs) ∧ H b = some (.ins C dy gs) ∧ sp [x, y] H Q E0
theorem op_binS {op : Operator} (m : Md X.prog X.w X.K X.mg X.base n C (PySem.dunder op.info.2) sp) (sf : PySem.W.selfFirst X.K C = true) (hr : Room n X.A) : OpR X (binaryOp op) (rBinS C sp) := by
  intro pins s σ H x y v u Q I rx ry h
  obtain ⟨f, F, hs, hf, _⟩ := m.ex
  obtain ⟨a, b, dx, dy, fs, gs, rfl, rfl, ha, hb, q⟩ := h
  cases (show v = Value.ref a from rx)
  cases (show u = Value.ref b from ry)
  obtain ⟨mA, J, _⟩ := ins_get I.hok ha
  obtain ⟨mB, J', _⟩ := ins_get I.hok hb
  obtain ⟨od, J, _⟩ := J.look
  obtain ⟨od', J', _⟩ := J'.look
  obtain ⟨m, hF⟩ := I.fr
  refine PySem.W.binop_K hF I.ok.mod.kin J J'.type sf hs hf ?_
  refine wpAny_mono (wpAny_call (run_fnR (us := [.ref a, .ref b]) (vs := [.ref a, .ref b]) F hr pass0 I (.cons rfl (.cons rfl .nil)) q)) (fun w s' z => ?_) fun _ _ x => x
  obtain ⟨z', H', I', rz, qz⟩ := z
  exact SlX.cmpback rz ⟨z', H', I', rz, qz⟩
/-- what + and the like ask of the class for an int on the right -/
structure BinI (K : PySem.W.Frag) (C : Addr) (op : Operator) : Prop where
  rc : ∃ rc, PySem.W.findIn K (.ref C) (PySem.dunderR op.info.2) = some rc ∧ (rc = none ∨ ∃ g : Addr, rc = some (.ref g))
  fo : ∃ fo, PySem.W.findIn K (.type "int") (PySem.dunder op.info.2) = some fo
  ro : ∃ ro, PySem.W.findIn K (.type "int") (PySem.dunderR op.info.2) = some ro
  sub : PySem.W.subIn K (.type "int") (.ref C) = some false
def rBinI (C : Addr) (sp : Sp) : R2 := fun x y H Q => ∃ a dx fs i, x = .ref a ∧ y = .int i ∧ H a = some (.ins C dx fs) ∧ sp [x, y] H Q E0
theorem op_binI {op : Operator} (m : Md X.prog X.w X.K X.mg X.base n C (PySem.dunder op.info.2) sp) (b : BinI X.K C op) (sf : PySem.W.selfFirst X.K C = true) (hr : Room n X.A) : OpR X (binaryOp op) (rBinI C sp) := by
  intro pins s σ H x y v u Q I rx ry h
  obtain ⟨f, F, hs, hf, _⟩ := m.ex
  obtain ⟨a, dx, fs, i, rfl, rfl, ha, q⟩ := h
  cases (show v = Value.ref a from rx)
  obtain ⟨t, rfl⟩ := (show ∃ t, u = Value.int i t from ry)
  obtain ⟨mA, J, _⟩ := ins_get I.hok ha
  obtain ⟨od, J, _⟩ := J.look
  obtain ⟨m, hF⟩ := I.fr
  obtain ⟨rc, hrc, hp⟩ := b.rc
  obtain ⟨fo, h1⟩ := b.fo
  obtain ⟨ro, h2⟩ := b.ro
  refine PySem.W.ksp_binT (T := "int") hF I.ok.mod.kin J rfl sf hs hf hrc hp h1 h2 b.sub ?_
  refine wpAny_mono (wpAny_call (run_fnR (us := [.ref a, .int i t]) (vs := [.ref a, .int i]) F hr pass0 I (.cons rfl (.cons ⟨t, rfl⟩ .nil)) q)) (fun w s' z => ?_) fun _ _ x => x
  obtain ⟨z', H', I', rz, qz⟩ := z
  exact SlX.cmpback rz ⟨z', H', I', rz, qz⟩
def rNegO (C : Addr) (sp : Sp) : V → Hp → VK → Prop := fun x H Q => ∃ a dx fs, x = .ref a ∧ H a = some (.ins C dx fs) ∧ sp [x] H Q E0
theorem un_negO (m : Md X.prog X.w X.K X.mg X.base n C "__neg__" sp) (hr : Room n X.A) : UnR X (unaryOp .USub) (rNegO C sp) := by
  intro pins s σ H x v Q I rx h
  obtain ⟨f, F, hs, hf, _⟩ := m.ex
  obtain ⟨a, dx, fs, rfl, ha, q⟩ := h
  cases (show v = Value.ref a from rx)
  obtain ⟨mA, J, _⟩ := ins_get I.hok ha
  obtain ⟨od, J, _⟩ := J.look
  obtain ⟨m, hF⟩ := I.fr
  refine PySem.W.ksp_neg hF I.ok.mod.kin J hs hf ?_
  refine wpAny_mono (wpAny_call (run_fnR (us := [.ref a]) (vs := [.ref a]) F hr pass0 I (.cons rfl .nil) q)) (fun w s' z => ?_) fun _ _ x => x
  exact z
end
/-- a reading may ask for more -/
theorem pe_imp {X : Cx} {e : Expr} {t t' : TE} (h : PE X e t) (i : ∀ σ H Q, t' σ H Q → t σ H Q) : PE X e t' := ⟨fun pins s σ H Q I q => h.run pins s σ H Q I (i σ H Q q)⟩
structure FnAt (K : PySem.W.Frag) (x : Str) (st : Stmt) : Prop where
  ex : ∃ f fd, Fun K x x st f fd ∧ PySem.W.nsIn K mainGlobals x = some (some (.ref f))
theorem fnAt {K : PySem.W.Frag} {h : Heap} {x : Str} {st : Stmt} {f : Addr} {oc : Value} {od an : Option Addr} {osl : Array (Option Value)} {kV doc pm cdv ct : Value} (_X : K.In h)
    (a : PySem.W.nsIn K mainGlobals x = some (some (.ref f))) (l : K.lookup f = some ⟨oc, od, .func (PySem.W.fnOf x x (defArgs st) (defBody st) (defScope st) .none kV doc pm an cdv ct), osl⟩)
    (c : PySem.W.codeIn K cdv x = true) (k : PySem.W.keepIn K (.ref f) = true) : FnAt K x st := ⟨f, _, fun_mk l c k, a⟩
structure MtAt (K : PySem.W.Frag) (C : Addr) (m m' qual : Str) (st : Stmt) : Prop where
  ex : ∃ f fd, Fun K m qual st f fd ∧ PySem.W.findIn K (.ref C) m' = some (some (.ref f)) ∧ PySem.W.isFn K (.ref f) = true ∧ PySem.W.fnIn K f = true
theorem mtAt {K : PySem.W.Frag} {h : Heap} {C : Addr} {m m' qual : Str} {st : Stmt} {f : Addr} {oc : Value} {od an : Option Addr} {osl : Array (Option Value)} {kV doc pm cdv ct : Value} (_X : K.In h)
    (a : PySem.W.findIn K (.ref C) m' = some (some (.ref f))) (l : K.lookup f = some ⟨oc, od, .func (PySem.W.fnOf m qual (defArgs st) (defBody st) (defScope st) .none kV doc pm an cdv ct), osl⟩)
    (c : PySem.W.codeIn K cdv qual = true) (k : PySem.W.keepIn K (.ref f) = true) (i : PySem.W.isFn K (.ref f) = true) (n : PySem.W.fnIn K f = true) : MtAt K C m m' qual st := ⟨f, _, fun_mk l c k, a, i, n⟩
section
variable {P : Program} {w : World} {K : PySem.W.Frag} {mg : Str → Option Value} {base h : Heap}
theorem cl_of {x : Str} {st : Stmt} {k : Nat} {ps : List Str} {sp : Sp} (a : FnAt K x st) (X : K.In h) (G : h.Ns mainGlobals mg)
    (hb : ∀ (kV doc pm : Value) (an : Option Addr) (cdv ct : Value) (us : List Value), us.length = ps.length → bindArgs (PySem.W.fnOf x x (defArgs st) (defBody st) (defScope st) .none kV doc pm an cdv ct) ⟨us, []⟩ = pure (ps.zip us))
    (ok : ∀ f fd, Fun K x x st f fd → FnOk P w K mg base CX0 k f fd ps sp) : Cl P w K mg base k x ps sp := by
  obtain ⟨f, fd, F, e⟩ := a.ex
  exact ⟨f, fd, ok f fd F, PySem.W.mg_of X G e, F.kp, F.binds hb⟩
theorem md_of {C : Addr} {m m' qual : Str} {st : Stmt} {k : Nat} {ps : List Str} {sp : Sp} (a : MtAt K C m m' qual st)
    (hb : ∀ (kV doc pm : Value) (an : Option Addr) (cdv ct : Value) (us : List Value), us.length = ps.length → bindArgs (PySem.W.fnOf m qual (defArgs st) (defBody st) (defScope st) .none kV doc pm an cdv ct) ⟨us, []⟩ = pure (ps.zip us))
    (ok : ∀ f fd, Fun K m qual st f fd → FnOk P w K mg base CX0 k f fd ps sp) : Md P w K mg base k C m' sp := by
  obtain ⟨f, fd, F, e, i, n⟩ := a.ex
  exact ⟨f, fnR_of (ok f fd F) (F.binds hb), e, i, n⟩
end
end OR

namespace OR
open PySem PySem.Spec PyProof.Rows L2
theorem pt_neverO {X : Cx} {e : Expr} : PT X e (fun _ _ _ => False) := ⟨fun _ _ _ _ _ _ h => h.elim⟩
/-! ### a line as it stands -/
theorem kSH : ¬ (("slope" : Str) = "height") := by decide +kernel
def lFl (a b : Int) : List (Str × V) := putF "height" (.int b) (putF "slope" (.int a) [])
theorem lFl_slope (a b : Int) : (lFl a b).lookup ("slope" : Str) = some (.int a) := by
  unfold lFl
  rw [lookup_putF, if_neg kSH, lookup_putF, if_pos rfl]
theorem lFl_height (a b : Int) : (lFl a b).lookup ("height" : Str) = some (.int b) := by
  unfold lFl
  rw [lookup_putF, if_pos rfl]
theorem lFl_no (a b : Int) {m : Str} (h1 : ¬ m = "height") (h2 : ¬ m = "slope") : (lFl a b).lookup m = none := by
  unfold lFl
  rw [lookup_putF, if_neg h1, lookup_putF, if_neg h2]
  all_goals rfl
def IsL (C : Addr) (H : Hp) (x : Addr) (a b : Int) : Prop := ∃ dx, H x = some (.ins C dx (lFl a b))
theorem IsL.same {C : Addr} {H H' : Hp} {x : Addr} {a b : Int} (h : IsL C H x a b) (s : Same H H') : IsL C H' x a b := by
  obtain ⟨dx, e⟩ := h
  exact ⟨dx, s _ _ e⟩
theorem IsL.frm {C : Addr} {H H' : Hp} {x p : Addr} {a b : Int} {n : Nat} (h : IsL C H x a b) (s : Frm p H H') (P : Pen H p n) : IsL C H' x a b := by
  obtain ⟨dx, e⟩ := h
  obtain ⟨c, ns, k, l, hp, _⟩ := P
  exact ⟨dx, s _ _ e (ne_of e hp (by intro z; cases z))⟩
theorem Same.frm {p : Addr} {H H' : Hp} (s : Same H H') : Frm p H H' := ⟨fun b o e _ => s b o e, fun c ⟨k, l, e⟩ => ⟨k, l, s _ _ e⟩⟩
theorem Pen.same {H H' : Hp} {p : Addr} {n : Nat} (P : Pen H p n) (s : Same H H') : Pen H' p n := by
  obtain ⟨c, ns, k, l, h1, h2, h⟩ := P
  exact ⟨c, ns, k, l, s _ _ h1, s _ _ h2, h⟩
/-- what the text says of the class Line -/
structure LTxt (K : PySem.W.Frag) (mg : Str → Option Value) (C : Addr) : Prop where
  cl : Cls K C
  nS : NoAttr K C "slope"
  nH : NoAttr K C "height"
  mgC : mg "Line" = some (.ref C)
  sf : PySem.W.selfFirst K C = true
  isi : SlX.SIsi K C
  kLL : PySem.W.kitOne K (.ref C) (.ref C) = some true
  kIL : PySem.W.kitOne K (.type "int") (.ref C) = some false
  zIsi : mg "isinstance" = none
  zInt : mg "int" = none
  zBool : mg "bool" = none
def spLInit (C : Addr) : Sp := fun vs H Q _ => ∃ (p dx : Addr) (a b : Int), vs = [.ref p, .int a, .int b] ∧ H p = some (.ins C dx []) ∧ ∀ H', H' p = some (.ins C dx (lFl a b)) → (∀ c o, H c = some o → c ≠ p → H' c = some o) → Q .non H'
def spIsInt : Sp := fun vs H Q _ => ∃ n, vs = [.int n] ∧ Q (.bl true) H
def spLNeg (C : Addr) : Sp := fun vs H Q _ => ∃ x a b, vs = [.ref x] ∧ IsL C H x a b ∧ ∀ y H', H y = none → IsL C H' y (-a) (-b) → Same H H' → Q (.ref y) H'
def spLAdd (C : Addr) : Sp := fun vs H Q _ => ∃ (x : Addr) (a b : Int), IsL C H x a b ∧ ((∃ (y : Addr) (c d : Int), vs = [.ref x, .ref y] ∧ IsL C H y c d ∧ ∀ z H', H z = none → IsL C H' z (a + c) (b + d) → Same H H' → Q (.ref z) H') ∨
  (∃ n : Int, vs = [.ref x, .int n] ∧ ∀ z H', H z = none → IsL C H' z a (b + n) → Same H H' → Q (.ref z) H'))
def spLSub (C : Addr) : Sp := fun vs H Q _ => ∃ (x : Addr) (a b : Int) (y : Addr) (c d : Int), vs = [.ref x, .ref y] ∧ IsL C H x a b ∧ IsL C H y c d ∧ ∀ z H', H z = none → IsL C H' z (a - c) (b - d) → Same H H' → Q (.ref z) H'
def spLCall (C : Addr) : Sp := fun vs H Q _ => ∃ (x : Addr) (a b t : Int), vs = [.ref x, .int t] ∧ IsL C H x a b ∧ CMul a t ∧ Q (.int (a * t + b)) H
section
variable {P : Program} {w : World} {K : PySem.W.Frag} {mg : Str → Option Value} {base : Heap}
theorem scLI : FnScope ["self", "slope", "height"] ["self", "slope", "height"] (defScope sLInit) := ⟨rfl, rfl, rfl, by decide +kernel, rfl, by decide +kernel, by decide +kernel⟩
theorem ok_linit {f C : Addr} {fd : FuncData} (F : Fun K "__init__" "Line.__init__" sLInit f fd) (T : LTxt K mg C) : FnOk P w K mg base CX0 1 f fd ["self", "slope", "height"] (spLInit C) := by
  refine F.ok scLI (fun vs H Q E h => ?_) (fun cdv A outer s H vs Q E hr h => ?_)
  · obtain ⟨p, dx, a, b, rfl, _⟩ := h
    rfl
  · obtain ⟨p, dx, a, b, rfl, hp, q⟩ := h
    refine ⟨_, pss_cons (ps_fld (pv 0) (pv 1) rfl) (pss_one (ps_fld (pv 0) (pv 2) rfl)), ?_⟩
    refine ⟨_, rfl, _, rfl, p, C, dx, [], rfl, hp, T.cl, T.nS, (by show 0 < 1000; decide), _, rfl, _, rfl, p, C, dx, _, rfl, upd_same, T.cl, T.nH, (by show 1 < 1000; decide), ?_⟩
    refine q _ upd_same fun c o e n => ?_
    rw [upd_ne n, upd_ne n]
    exact e
/-- Line(a, b) -/
def tMkL (C : Addr) (t : TA) : TE := fun σ H Q => t σ H fun vs H1 => ∃ a b, vs = [.int a, .int b] ∧ ∀ x H', H1 x = none → IsL C H' x a b → Same H1 H' → Q (.ref x) H'
end
/-- the class Line as it is made -/
structure LMk (P : Program) (w : World) (K : PySem.W.Frag) (mg : Str → Option Value) (base : Heap) (C : Addr) : Prop where
  T : LTxt K mg C
  made : ∃ f fd, Mk K C f ∧ FnOk P w K mg base CX0 1 f fd ["self", "slope", "height"] (spLInit C) ∧ Binds K fd ["self", "slope", "height"] []
theorem pe_mkL {X : Cx} {C : Addr} {j : Nat} {e : Expr} {es : List Expr} {t : TA} {p pos : Pos} (M : LMk X.prog X.w X.K X.mg X.base C) (hr : Room j X.A) (hj : 2 ≤ j) (hg : Gl X "Line") (ha : PA X (e :: es) t)
    (he : starEach (e :: es) X.env = (false, eval e X.env) :: starEach es X.env := by rfl) (hpl : (backTo pos (starEach es X.env)).any (·.1) = false := by rfl) : PE X (.Call (.Name "Line" p) (e :: es) [] pos) (tMkL C t) := by
  obtain ⟨f, fd, mk, F, hb⟩ := M.made
  refine ⟨fun pins s σ H Q I h => ?_⟩
  refine wpAny_Call_Name_kw (ld_glob I hg M.T.mgC ?_ (by decide))
  refine PySem.W.callWith_K (h₀ := X.base) I.ok.mod.kin mk.kp (thn (ha.run pos pins s σ H _ I h) fun us s1 ⟨vs, H1, I1, r, q⟩ => ⟨I1.kIn, ?_⟩) he hpl
  obtain ⟨a, b, rfl, q⟩ := q
  refine run_make mk F (hr.mono hj) hb .nil pass0 I1 r fun x dx nx ndx nex => ?_
  refine ⟨x, dx, a, b, rfl, upd_same, fun H' hx hs => ⟨rfl, q x H' nx ⟨dx, hx⟩ fun c o e => ?_⟩⟩
  have ncx : c ≠ x := ne_of_none e nx
  refine hs c o ?_ ncx
  rw [upd_ne ncx, upd_ne (ne_of_none e ndx)]
  exact e
section
variable {P : Program} {w : World} {K : PySem.W.Frag} {mg : Str → Option Value} {base : Heap}
theorem scLN : FnScope ["self"] ["self"] (defScope sLNeg) := ⟨rfl, rfl, rfl, by decide +kernel, rfl, by decide +kernel, by decide +kernel⟩
theorem ok_lneg {f C : Addr} {fd : FuncData} (F : Fun K "__neg__" "Line.__neg__" sLNeg f fd) (M : LMk P w K mg base C) : FnOk P w K mg base CX0 3 f fd ["self"] (spLNeg C) := by
  have T := M.T
  refine F.ok scLN (fun vs H Q E h => ?_) (fun cdv A outer s H vs Q E hr h => ?_)
  · obtain ⟨x, a, b, rfl, _⟩ := h
    rfl
  · obtain ⟨x, a, b, rfl, ⟨dx, hx⟩, q⟩ := h
    refine ⟨_, pss_one (ps_ret (pe_mkL M hr (by decide) (by rfl) (pa_cons (pe_un un_neg (pe_fld (pv 0) rfl)) (pa_cons (pe_un un_neg (pe_fld (pv 0) rfl)) pa_nil)))), ?_⟩
    exact ⟨_, rfl, x, C, dx, _, _, rfl, hx, T.cl, T.nS, lFl_slope a b, a, rfl, _, rfl, x, C, dx, _, _, rfl, hx, T.cl, T.nH, lFl_height a b, b, rfl, -a, -b, rfl, q⟩
theorem scLC : FnScope ["line", "x"] ["line", "x"] (defScope sVal) := ⟨rfl, rfl, rfl, by decide +kernel, rfl, by decide +kernel, by decide +kernel⟩
theorem ok_lval {f C : Addr} {fd : FuncData} (F : Fun K "value_at" "value_at" sVal f fd) (T : LTxt K mg C) : FnOk P w K mg base CX0 1 f fd ["line", "x"] (spLCall C) := by
  refine F.ok scLC (fun vs H Q E h => ?_) (fun cdv A outer s H vs Q E hr h => ?_)
  · obtain ⟨x, a, b, t, rfl, _⟩ := h
    rfl
  · obtain ⟨x, a, b, t, rfl, ⟨dx, hx⟩, hm, q⟩ := h
    refine ⟨_, pss_one (ps_ret (pe_op op_add (pe_op op_mul (pe_fld (pv 0) rfl) (pv 1)) (pe_fld (pv 0) rfl))), ?_⟩
    exact ⟨_, rfl, x, C, dx, _, _, rfl, hx, T.cl, T.nS, lFl_slope a b, _, rfl, a, t, rfl, rfl, hm, _, rfl, x, C, dx, _, _, rfl, hx, T.cl, T.nH, lFl_height a b, _, _, rfl, rfl, q⟩
theorem scLK : FnScope ["self", "x"] ["self", "x"] (defScope sLCall) := ⟨rfl, rfl, rfl, by decide +kernel, rfl, by decide +kernel, by decide +kernel⟩
theorem ok_lcall {f C : Addr} {fd : FuncData} (F : Fun K "__call__" "Line.__call__" sLCall f fd) (T : LTxt K mg C) : FnOk P w K mg base CX0 1 f fd ["self", "x"] (spLCall C) := by
  refine F.ok scLK (fun vs H Q E h => ?_) (fun cdv A outer s H vs Q E hr h => ?_)
  · obtain ⟨x, a, b, t, rfl, _⟩ := h
    rfl
  · obtain ⟨x, a, b, t, rfl, ⟨dx, hx⟩, hm, q⟩ := h
    refine ⟨_, pss_one (ps_ret (pe_op op_add (pe_op op_mul (pe_fld (pv 0) rfl) (pv 1)) (pe_fld (pv 0) rfl))), ?_⟩
    exact ⟨_, rfl, x, C, dx, _, _, rfl, hx, T.cl, T.nS, lFl_slope a b, _, rfl, a, t, rfl, rfl, hm, _, rfl, x, C, dx, _, _, rfl, hx, T.cl, T.nH, lFl_height a b, _, _, rfl, rfl, q⟩
theorem tyL {C : Addr} (T : LTxt K mg C) {H : Hp} {x dx : Addr} {fs : List (Str × V)} (hx : H x = some (.ins C dx fs)) : TyX K H (.ref x) (.ref C) := .base (.ins hx T.cl T.isi.ca T.isi.cn T.isi.ct T.isi.cm)
theorem scII : FnScope ["value"] ["value"] (defScope sIsInt) := ⟨rfl, rfl, rfl, by decide +kernel, rfl, by decide +kernel, by decide +kernel⟩
theorem boot_isi : bootBuiltins ("isinstance" : Str) = some (.builtin "isinstance") := by decide +kernel
theorem boot_intT : bootBuiltins ("int" : Str) = some (.type "int") := by decide +kernel
theorem boot_boolT : bootBuiltins ("bool" : Str) = some (.type "bool") := by decide +kernel
theorem ok_isint {f C : Addr} {fd : FuncData} (F : Fun K "is_integer" "is_integer" sIsInt f fd) (T : LTxt K mg C) : FnOk P w K mg base CX0 1 f fd ["value"] spIsInt := by
  refine F.ok scII (fun vs H Q E h => ?_) (fun cdv A outer s H vs Q E hr h => ?_)
  · obtain ⟨n, rfl, _⟩ := h
    rfl
  · obtain ⟨n, rfl, q⟩ := h
    refine ⟨_, pss_one (ps_ret (pe_and (pe_callB call_isi (by rfl) T.zIsi boot_isi (pa_cons (pv 0) (pa_cons (pe_bltn (v := .ty "int") (by rfl) T.zInt boot_intT rfl) pa_nil)))
      (pe_one (pe_not (pe_callB call_isi (by rfl) T.zIsi boot_isi (pa_cons (pv 0) (pa_cons (pe_bltn (v := .ty "bool") (by rfl) T.zBool boot_boolT rfl) pa_nil))))))), ?_⟩
    refine ⟨_, rfl, .int n, .ty "int", _, _, true, rfl, .ty "int", .base (.int n), kit_ty (by decide +kernel), true, rfl, iteT ⟨_, rfl, .int n, .ty "bool", _, _, false, rfl, .ty "bool", .base (.int n), kit_ty (by decide +kernel), false, rfl, q⟩⟩
theorem scLA : FnScope ["self", "other"] ["self", "other"] (defScope sLAdd) := ⟨rfl, rfl, rfl, by decide +kernel, rfl, by decide +kernel, by decide +kernel⟩
theorem ok_ladd {f C : Addr} {fd : FuncData} (F : Fun K "__add__" "Line.__add__" sLAdd f fd) (M : LMk P w K mg base C) (D : Cl P w K mg base 1 "is_integer" ["value"] spIsInt) : FnOk P w K mg base CX0 3 f fd ["self", "other"] (spLAdd C) := by
  have T := M.T
  refine F.ok scLA (fun vs H Q E h => ?_) (fun cdv A outer s H vs Q E hr h => ?_)
  · obtain ⟨x, a, b, _, ⟨y, c, d, rfl, _⟩ | ⟨n, rfl, _⟩⟩ := h <;> rfl
  · refine ⟨_, pss_cons (ps_if (pt_val (pe_callB call_isi (by rfl) T.zIsi boot_isi (pa_cons (pv 1) (pa_cons (pe_glob (v := .ref C) (by rfl) T.mgC rfl) pa_nil))))
        (pss_one (ps_ret (pe_mkL M hr (by decide) (by rfl) (pa_cons (pe_op op_add (pe_fld (pv 0) rfl) (pe_fld (pv 1) rfl)) (pa_cons (pe_op op_add (pe_fld (pv 0) rfl) (pe_fld (pv 1) rfl)) pa_nil))))) pss_nil)
      (pss_cons (ps_if (pt_val (pe_cl D hr (by decide) (by rfl) (pa_cons (pv 1) pa_nil)))
        (pss_one (ps_ret (pe_mkL M hr (by decide) (by rfl) (pa_cons (pe_fld (pv 0) rfl) (pa_cons (pe_op op_add (pe_fld (pv 0) rfl) (pv 1)) pa_nil))))) pss_nil)
      (pss_one ps_never)), ?_⟩
    obtain ⟨x, a, b, ⟨dx, hx⟩, ⟨y, c, d, rfl, ⟨dy, hy⟩, q⟩ | ⟨n, rfl, q⟩⟩ := h
    · refine ⟨_, rfl, .ref y, .ref C, _, _, true, rfl, .own C, tyL T hy, T.kLL, true, rfl, iteT ?_⟩
      exact ⟨_, rfl, x, C, dx, _, _, rfl, hx, T.cl, T.nS, lFl_slope a b, _, rfl, y, C, dy, _, _, rfl, hy, T.cl, T.nS, lFl_slope c d, _, _, rfl, rfl, _, rfl, x, C, dx, _, _, rfl, hx, T.cl, T.nH, lFl_height a b, _, rfl, y, C, dy, _, _, rfl, hy, T.cl, T.nH, lFl_height c d, _, _, rfl, rfl, _, _, rfl, q⟩
    · refine ⟨_, rfl, .int n, .ref C, _, _, false, rfl, .own C, .base (.int n), T.kIL, false, rfl, iteF ?_⟩
      refine ⟨_, rfl, n, rfl, true, rfl, iteT ?_⟩
      exact ⟨_, rfl, x, C, dx, _, _, rfl, hx, T.cl, T.nS, lFl_slope a b, _, rfl, x, C, dx, _, _, rfl, hx, T.cl, T.nH, lFl_height a b, _, rfl, _, _, rfl, rfl, _, _, rfl, q⟩
theorem scLS : FnScope ["self", "other"] ["self", "other"] (defScope sLSub) := ⟨rfl, rfl, rfl, by decide +kernel, rfl, by decide +kernel, by decide +kernel⟩
theorem ok_lsub {f C : Addr} {fd : FuncData} (F : Fun K "__sub__" "Line.__sub__" sLSub f fd) (M : LMk P w K mg base C) (A1 : Md P w K mg base 3 C (PySem.dunder (Operator.info .Add).2) (spLAdd C)) (N1 : Md P w K mg base 3 C "__neg__" (spLNeg C)) : FnOk P w K mg base CX0 4 f fd ["self", "other"] (spLSub C) := by
  have T := M.T
  refine F.ok scLS (fun vs H Q E h => ?_) (fun cdv A outer s H vs Q E hr h => ?_)
  · obtain ⟨x, a, b, y, c, d, rfl, _⟩ := h
    rfl
  · obtain ⟨x, a, b, y, c, d, rfl, ⟨dx, hx⟩, ⟨dy, hy⟩, q⟩ := h
    refine ⟨_, pss_cons (ps_if (PW.pt (pw_or (pt_val (pe_callB call_isi (by rfl) T.zIsi boot_isi (pa_cons (pv 1) (pa_cons (pe_glob (v := .ref C) (by rfl) T.mgC rfl) pa_nil)))) (pw_or1 pt_neverO)))
        (pss_one (ps_ret (pe_op (op_binS A1 T.sf hr) (pv 0) (pe_un (un_negO N1 hr) (pv 1))))) pss_nil)
      (pss_one ps_never), ?_⟩
    refine ⟨_, rfl, .ref y, .ref C, _, _, true, rfl, .own C, tyL T hy, T.kLL, true, rfl, iteT (iteT ?_)⟩
    refine ⟨_, rfl, _, rfl, y, dy, _, rfl, hy, y, c, d, rfl, ⟨dy, hy⟩, fun z H1 nz hz s1 => ?_⟩
    obtain ⟨dz, hz'⟩ := hz
    refine ⟨x, z, dx, dz, _, _, rfl, rfl, s1 _ _ hx, hz', x, a, b, ⟨dx, s1 _ _ hx⟩, .inl ⟨z, -c, -d, rfl, ⟨dz, hz'⟩, fun z2 H2 nz2 hz2 s2 => ?_⟩⟩
    exact q z2 H2 (s1.free nz2) hz2 (s1.trans s2)
end
end OR

namespace OR
open PySem PySem.Spec PyProof.Rows L2
/-! ### first_above -/
/-- the first integer from s on at which A x + B is above 0 -/
def fab (A B s : Int) : V := if 0 < A * s + B then .int s else if A ≤ 0 then .non else .int ((-B) / A + 1)
theorem fab_none {A B s : Int} (h : fab A B s = .non) : A * s + B ≤ 0 ∧ A ≤ 0 := by
  unfold fab at h
  split at h
  · cases h
  · split at h
    · omega
    · cases h
theorem fab_int {A B s t : Int} (h : fab A B s = .int t) : s ≤ t ∧ 0 < A * t + B ∧ (s < t → A * (t - 1) + B ≤ 0 ∧ A * s + B ≤ 0) := by
  unfold fab at h
  split at h
  · rename_i h0
    have e : s = t := V.int.inj h
    subst e
    exact ⟨Int.le_refl _, h0, fun z => absurd z (Int.lt_irrefl _)⟩
  · rename_i h0
    split at h
    · cases h
    · rename_i hA
      have hA' : 0 < A := by omega
      have e : (-B) / A + 1 = t := V.int.inj h
      have hd := Int.mul_ediv_add_emod (-B) A
      have hr := mod_bd (-B) A hA'
      have e2 : A * t = A * ((-B) / A) + A := by rw [← e, Int.mul_add, Int.mul_one]
      have e3 : A * (t - 1) = A * ((-B) / A) := by
        have : t - 1 = (-B) / A := by omega
        rw [this]
      have hlt : A * s < A * t := by omega
      have hst : s < t := Int.lt_of_mul_lt_mul_left hlt (by omega)
      exact ⟨by omega, by omega, fun _ => ⟨by omega, by omega⟩⟩
def spFirst (C : Addr) : Sp := fun vs H Q _ => ∃ (x : Addr) (a b : Int) (y : Addr) (c d s : Int), vs = [.ref x, .ref y, .int s] ∧ IsL C H x a b ∧ IsL C H y c d ∧ -(2 ^ 60) < a ∧ a < 2 ^ 60 ∧ -(2 ^ 60) < c ∧ c < 2 ^ 60 ∧
  ∀ H', Same H H' → Q (fab (a - c) (b - d) s) H'
section
variable {P : Program} {w : World} {K : PySem.W.Frag} {mg : Str → Option Value} {base : Heap}
theorem scFA : FnScope ["one", "other", "start", "lead"] ["one", "other", "start"] (defScope sFirst) := ⟨rfl, rfl, rfl, by decide +kernel, rfl, by decide +kernel, by decide +kernel⟩
theorem ok_first {f C : Addr} {fd : FuncData} (F : Fun K "first_above" "first_above" sFirst f fd) (T : LTxt K mg C) (S1 : Md P w K mg base 4 C (PySem.dunder (Operator.info .Sub).2) (spLSub C)) (C1 : Cl P w K mg base 1 "value_at" ["line", "x"] (spLCall C)) : FnOk P w K mg base CX0 5 f fd ["one", "other", "start"] (spFirst C) := by
  refine F.ok scFA (fun vs H Q E h => ?_) (fun cdv A outer s H vs Q E hr h => ?_)
  · obtain ⟨x, a, b, y, c, d, s, rfl, _⟩ := h
    rfl
  · obtain ⟨x, a, b, y, c, d, s, rfl, hx, hy, ha1, ha2, hc1, hc2, q⟩ := h
    obtain ⟨dx, hx⟩ := hx
    obtain ⟨dy, hy⟩ := hy
    refine ⟨_, pss_cons (ps_set (i := 3) scFA.nd rfl (.inl rfl) (pe_op (op_binS S1 T.sf hr) (pv 0) (pv 1)))
      (pss_cons (ps_if (pt_cmpR op_gt (pe_cl C1 hr (by decide) (by rfl) (pa_cons (pv 3) (pa_cons (pv 2) pa_nil))) pe_int (nomark _)) (pss_one (ps_ret (pv 2))) pss_nil)
      (pss_cons (ps_if (pt_cmpR op_le (pe_fld (pv 3) rfl) pe_int (nomark _)) (pss_one (ps_ret pe_non)) pss_nil)
      (pss_one (ps_ret (pe_op op_add (pe_op op_fdivW (pe_un un_neg (pe_fld (pv 3) rfl)) (pe_fld (pv 3) rfl)) pe_int))))), ?_⟩
    refine ⟨_, rfl, _, rfl, x, y, dx, dy, _, _, rfl, rfl, hx, hy, x, a, b, y, c, d, rfl, ⟨dx, hx⟩, ⟨dy, hy⟩, fun z H1 nz hz s1 => ?_⟩
    have q1 := q H1 s1
    obtain ⟨dz, hz⟩ := hz
    have hm : CMul (a - c) s := .inl ⟨by omega, by omega⟩
    refine ⟨_, rfl, _, rfl, z, a - c, b - d, s, rfl, ⟨dz, hz⟩, hm, _, _, rfl, rfl, _, rfl, ite2 (fun e => ?_) (fun e => ?_)⟩
    · refine ⟨_, rfl, ?_⟩
      have e1 : fab (a - c) (b - d) s = .int s := by
        unfold fab
        rw [if_pos (of_decide_eq_true e)]
      rw [e1] at q1
      exact q1
    · have h0 : ¬ (0 < (a - c) * s + (b - d)) := fun z => e (decide_eq_true z)
      refine ⟨_, rfl, z, C, dz, _, _, rfl, hz, T.cl, T.nS, lFl_slope _ _, _, _, rfl, rfl, _, rfl, ite2 (fun e2 => ?_) (fun e2 => ?_)⟩
      · have e1 : fab (a - c) (b - d) s = .non := by
          unfold fab
          rw [if_neg h0, if_pos (of_decide_eq_true e2)]
        rw [e1] at q1
        exact q1
      · have h1 : ¬ (a - c ≤ 0) := fun z => e2 (decide_eq_true z)
        have e1 : fab (a - c) (b - d) s = .int ((-(b - d)) / (a - c) + 1) := by
          unfold fab
          rw [if_neg h0, if_neg h1]
        rw [e1] at q1
        exact ⟨_, rfl, z, C, dz, _, _, rfl, hz, T.cl, T.nH, lFl_height _ _, _, rfl, _, rfl, z, C, dz, _, _, rfl, hz, T.cl, T.nS, lFl_slope _ _, _, _, rfl, rfl, wide_div (b := 62) (by omega) (by omega) (by decide) (by decide), _, _, rfl, rfl, q1⟩
/-! ### the law's own pieces -/
def IsT (H : Hp) (t : Addr) (a b : Int) : Prop := H t = some (.tup [.int a, .int b])
theorem IsT.frm {H H' : Hp} {t p : Addr} {a b : Int} {n : Nat} (h : IsT H t a b) (f : Frm p H H') (P : Pen H p n) : IsT H' t a b := by
  obtain ⟨c, ns, k, l, hp, _⟩ := P
  exact f _ _ h (ne_of h hp (by intro z; cases z))
theorem IsT.same {H H' : Hp} {t : Addr} {a b : Int} (h : IsT H t a b) (s : Same H H') : IsT H' t a b := s _ _ h
theorem same_new {H : Hp} {q : Addr} {o : HO} (h : H q = none) : Same H (upd H q o) := fun b x e => by rw [upd_ne (ne_of_none e h)]; exact e
theorem at0 {a b : V} : atI [a, b] 0 = some a := atI_nat (j := 0) rfl
theorem at1 {a b : V} : atI [a, b] 1 = some b := atI_nat (j := 1) rfl
def spLine : Sp := fun vs H Q _ => ∃ (p : Addr) (n : Nat), vs = [.ref p] ∧ Pen H p n ∧ n ≤ 800000 ∧
  ∀ (t : Addr) (H' : Hp) (a b : Int), H t = none → -(10 ^ 9) ≤ a → a ≤ 10 ^ 9 → Pen H' p (n + 6) → IsT H' t a b → Frm p H H' → Q (.ref t) H'
def spWorth : Sp := fun vs H Q _ => ∃ (t : Addr) (a b x : Int), vs = [.ref t, .int x] ∧ IsT H t a b ∧ CMul a x ∧ Q (.int (a * x + b)) H
theorem scLn : FnScope ["_law_pen_here", "_law_slope"] ["_law_pen_here"] (defScope sLine) := ⟨rfl, rfl, rfl, by decide +kernel, rfl, by decide +kernel, by decide +kernel⟩
theorem ok_line {f : Addr} {fd : FuncData} (F : Fun K "_law_line" "_law_line" sLine f fd) (D : Cl P w K mg base 1 "_law_draw" ["_law_pen_here", "_law_many"] spDraw) (C : Cl P w K mg base 2 "_law_pick" ["_law_pen_here", "_law_items"] (spPick K)) (W : Cl P w K mg base 3 "_law_whole" ["_law_pen_here"] spWhole) :
    FnOk P w K mg base CX0 4 f fd ["_law_pen_here"] spLine := by
  refine F.ok scLn (fun vs H Q E h => ?_) (fun cdv A outer s H vs Q E hr h => ?_)
  · obtain ⟨p, n, rfl, _⟩ := h
    rfl
  · obtain ⟨p, n, rfl, hP, hn, q⟩ := h
    refine ⟨_, pss_cons (ps_set (i := 1) scLn.nd rfl (.inl rfl) (pe_cl C hr (by decide) (by rfl) (pa_cons (pv 0) (pa_cons (pe_lst (pa_cons pe_int (pa_cons pe_int (pa_cons (pe_un un_neg pe_int) (pa_cons pe_int (pa_cons (pe_un un_neg pe_int)
        (pa_cons (pe_cl D hr (by decide) (by rfl) (pa_cons (pv 0) (pa_cons (pe_op op_add (pe_op op_pow pe_int pe_int) pe_int) pa_nil)))
        (pa_cons (pe_un un_neg (pe_cl D hr (by decide) (by rfl) (pa_cons (pv 0) (pa_cons (pe_op op_add (pe_op op_pow pe_int pe_int) pe_int) pa_nil)))) pa_nil)))))))) pa_nil))))
      (pss_one (ps_ret (pe_tup (pa_cons (pv 1) (pa_cons (pe_cl W hr (by decide) (by rfl) (pa_cons (pv 0) pa_nil)) pa_nil))))), ?_⟩
    have hpow : CPow 10 9 := ⟨by decide, by decide, by decide⟩
    have hm0 : (0 : Int) < 10 ^ (9 : Int).toNat + 1 := by decide
    have hm1 : ((10 : Int) ^ (9 : Int).toNat + 1).natAbs < 2 ^ 200 := by decide
    refine ⟨_, rfl, 1, rfl, 3, rfl, _, rfl, _, _, rfl, rfl, hpow, _, _, rfl, rfl, p, _, n, rfl, hm0, hm1, hP, by omega, fun r1 H1 h10 h11 P1 F1 => ?_⟩
    refine ⟨_, rfl, _, _, rfl, rfl, hpow, _, _, rfl, rfl, p, _, n + 1, rfl, hm0, hm1, P1, by omega, fun r2 H2 h20 h21 P2 F2 => ?_⟩
    refine ⟨r2, rfl, by show 7 ≤ sizeLine; decide, fun q1 hq1 => ?_⟩
    refine ⟨p, q1, _, n + 2, rfl, .inl (.inl upd_same), by show 0 < 7; decide, by show 7 ≤ 1000; decide, P2.new hq1, by omega, fun v H3 hv P3 F3 => ?_⟩
    obtain ⟨a, rfl, ha1, ha2⟩ : ∃ a : Int, v = .int a ∧ -(10 ^ 9) ≤ a ∧ a ≤ 10 ^ 9 := by
      have h11' : r1 < 10 ^ 9 + 1 := h11
      have h21' : r2 < 10 ^ 9 + 1 := h21
      simp only [List.mem_cons, List.not_mem_nil, or_false] at hv
      rcases hv with e | e | e | e | e | e | e <;> subst e <;> exact ⟨_, rfl, by omega, by omega⟩
    refine ⟨_, rfl, _, rfl, p, n + 3, rfl, P3, by omega, fun b H4 hb1 hb2 P4 F4 => ?_⟩
    refine ⟨by show 2 ≤ sizeLine; decide, fun t ht => ?_⟩
    have FF : Frm p H H4 := ((F1.trans F2).trans ((Frm.new hq1).trans F3)).trans F4
    have nt : H t = none := by
      cases e : H t with
      | none => rfl
      | some o =>
        by_cases ep : t = p
        · subst ep
          obtain ⟨c, ns, k, l, hp, _⟩ := P4
          rw [hp] at ht
          cases ht
        · rw [FF t o e ep] at ht
          cases ht
    exact q t _ a b nt ha1 ha2 (P4.new ht) upd_same (FF.trans (Frm.new ht))
theorem scWo : FnScope ["_law_line_here", "_law_x"] ["_law_line_here", "_law_x"] (defScope sWorth) := ⟨rfl, rfl, rfl, by decide +kernel, rfl, by decide +kernel, by decide +kernel⟩
theorem ok_worth {f : Addr} {fd : FuncData} (F : Fun K "_law_worth" "_law_worth" sWorth f fd) : FnOk P w K mg base CX0 1 f fd ["_law_line_here", "_law_x"] spWorth := by
  refine F.ok scWo (fun vs H Q E h => ?_) (fun cdv A outer s H vs Q E hr h => ?_)
  · obtain ⟨t, a, b, x, rfl, _⟩ := h
    rfl
  · obtain ⟨t, a, b, x, rfl, ht, hm, q⟩ := h
    have hS : SqT K H t [.int a, .int b] := .inl (.inl ht)
    refine ⟨_, pss_one (ps_ret (pe_op op_add (pe_op op_mul (pe_ix ix_tup (pv 0) pe_int (fun _ _ => rfl)) (pv 1)) (pe_ix ix_tup (pv 0) pe_int (fun _ _ => rfl)))), ?_⟩
    exact ⟨_, rfl, t, _, 0, .int a, rfl, rfl, hS, at0, _, rfl, a, x, rfl, rfl, hm, _, rfl, t, _, 1, .int b, rfl, rfl, hS, at1, _, _, rfl, rfl, q⟩
end
end OR

namespace OR
open PySem PySem.Spec PyProof.Rows L2
/-- all but what stands at p is as it was -/
def Fre (p : Addr) (H H' : Hp) : Prop := ∀ b o, H b = some o → b ≠ p → H' b = some o
theorem Fre.refl (p : Addr) (H : Hp) : Fre p H H := fun _ _ h _ => h
theorem Fre.trans {p : Addr} {H H1 H2 : Hp} (a : Fre p H H1) (b : Fre p H1 H2) : Fre p H H2 := fun c o h n => b c o (a c o h n) n
theorem Fre.put {p : Addr} {H : Hp} {o : HO} : Fre p H (upd H p o) := fun b x e n => by rw [upd_ne n]; exact e
/-! ### rows of pairs in the heap -/
abbrev ARow := Addr × Row
def refs (L : List ARow) : List V := L.map fun p => V.ref p.1
def rws (L : List ARow) : List Row := L.map (·.2)
def AtR (H : Hp) (L : List ARow) : Prop := ∀ p ∈ L, H p.1 = some (.tup [.int p.2.1, .int p.2.2])
theorem AtR.same {H H' : Hp} {L : List ARow} (h : AtR H L) (s : Same H H') : AtR H' L := fun p hp => s _ _ (h p hp)
theorem refs_len (L : List ARow) : (refs L).length = L.length := List.length_map ..
theorem rws_len (L : List ARow) : (rws L).length = L.length := List.length_map ..
theorem refs_snoc (L : List ARow) (p : ARow) : refs (L ++ [p]) = refs L ++ [.ref p.1] := by unfold refs; rw [List.map_append]; rfl
theorem rws_snoc (L : List ARow) (p : ARow) : rws (L ++ [p]) = rws L ++ [p.2] := by unfold rws; rw [List.map_append]; rfl
theorem refs_get {L : List ARow} {i : Nat} {v : V} (h : (refs L)[i]? = some v) : ∃ p, L[i]? = some p ∧ p ∈ L ∧ v = .ref p.1 := by
  unfold refs at h
  rw [List.getElem?_map] at h
  cases e : L[i]? with
  | none => rw [e] at h; cases h
  | some p => rw [e] at h; exact ⟨p, rfl, List.mem_of_getElem? e, (Option.some.inj h).symm⟩
theorem rws_get {L : List ARow} {i : Nat} {p : ARow} (h : L[i]? = some p) : (rws L)[i]? = some p.2 := by
  unfold rws
  rw [List.getElem?_map, h]
  rfl
theorem mem_rws {L : List ARow} {r : Row} : r ∈ rws L ↔ ∃ a, (a, r) ∈ L := by
  unfold rws
  rw [List.mem_map]
  exact ⟨fun ⟨p, hp, e⟩ => ⟨p.1, by rw [← e]; exact hp⟩, fun ⟨a, h⟩ => ⟨(a, r), h, rfl⟩⟩
/-- what a reference to a pair is worth -/
def kOf (H : Hp) : V → Int × Int
  | .ref a => match H a with
    | some (.tup [.int x, .int y]) => (x, y)
    | _ => (0, 0)
  | _ => (0, 0)
theorem kOf_at {H : Hp} {a : Addr} {x y : Int} (h : H a = some (.tup [.int x, .int y])) : kOf H (.ref a) = (x, y) := by
  show (match H a with
    | some (.tup [.int x, .int y]) => (x, y)
    | _ => (0, 0)) = (x, y)
  rw [h]
def adr : V → Addr
  | .ref a => a
  | _ => 0
/-- an arrangement of references is one of rows -/
theorem refs_perm {H : Hp} {M : List ARow} {ys : List V} (hM : AtR H M) (hp : ys.Perm (refs M)) : ∃ S : List ARow, ys = refs S ∧ AtR H S ∧ (∀ r, r ∈ rws S ↔ r ∈ rws M) ∧ S.length = M.length ∧ rws S = ys.map (kOf H) := by
  have each : ∀ y ∈ ys, ∃ p ∈ M, y = .ref p.1 ∧ kOf H y = p.2 := fun y hy => by
    have := hp.mem_iff.mp hy
    unfold refs at this
    obtain ⟨p, hpM, e⟩ := List.mem_map.mp this
    subst e
    exact ⟨p, hpM, rfl, kOf_at (hM p hpM)⟩
  have back : ∀ p ∈ M, V.ref p.1 ∈ ys := fun p hpM => hp.mem_iff.mpr (List.mem_map.mpr ⟨p, hpM, rfl⟩)
  refine ⟨ys.map fun y => (adr y, kOf H y), ?_, ?_, fun r => ?_, ?_, ?_⟩
  · unfold refs
    rw [List.map_map]
    refine Eq.trans (List.map_id ys).symm (List.map_congr_left fun y hy => ?_)
    obtain ⟨p, _, rfl, _⟩ := each y hy
    rfl
  · intro q hq
    obtain ⟨y, hy, e⟩ := List.mem_map.mp hq
    obtain ⟨p, hpM, rfl, k⟩ := each y hy
    subst e
    show H p.1 = some (.tup [.int (kOf H (.ref p.1)).1, .int (kOf H (.ref p.1)).2])
    rw [k]
    exact hM p hpM
  · unfold rws
    rw [List.map_map, List.mem_map, List.mem_map]
    constructor
    · rintro ⟨y, hy, e⟩
      obtain ⟨p, hpM, rfl, k⟩ := each y hy
      exact ⟨p, hpM, by rw [← e]; exact k.symm⟩
    · rintro ⟨p, hpM, e⟩
      exact ⟨.ref p.1, back p hpM, by rw [← e]; exact kOf_at (hM p hpM)⟩
  · rw [List.length_map, hp.length_eq, refs_len]
  · unfold rws
    rw [List.map_map]
    rfl
theorem ixN_last (n : Nat) : ixN (n + 1) (-1) = some n := by
  unfold ixN
  rw [if_neg (by omega), if_pos (by omega)]
  congr 1
  omega
theorem set_last (xs : List V) (v u : V) : (xs ++ [v]).set xs.length u = xs ++ [u] := by
  rw [List.set_append_right _ _ (Nat.le_refl _), Nat.sub_self]
  rfl
theorem yesT {σ : L2.St} {H : Hp} {A B : Hp → Prop} (h : A H) : tYes σ H (fun b H3 => if b = true then A H3 else B H3) := by
  show if true = true then A H else B H
  rw [if_pos rfl]
  exact h
theorem same_upd {H H' : Hp} {b : Addr} {u : HO} (s : Same H H') (h : H b = none) : Same H (upd H' b u) := fun c v e => by rw [upd_ne (ne_of_none e h)]; exact s c v e
theorem same_lay {H : Hp} {q : Addr} {o : HO} (h : H q = none) : Same H (upd H q o) := fun b x e => by rw [upd_ne (ne_of_none e h)]; exact e
theorem sameT {K : PySem.W.Frag} {H H' : Hp} {a : Addr} {xs : List V} (e : Same H H') (h : SqT K H a xs) : SqT K H' a xs := by
  rcases h with (h | ⟨o, h⟩) | h
  · exact .inl (.inl (e _ _ h))
  · exact .inl (.inr ⟨o, e _ _ h⟩)
  · exact .inr h
theorem small1000' {n : Nat} (h : n < 1000) : n < sizeLine := Nat.lt_of_lt_of_le h (by decide)
theorem fab_case (A B s : Int) : (fab A B s = .non ∧ A * s + B ≤ 0 ∧ A ≤ 0) ∨ ∃ t, fab A B s = .int t ∧ s ≤ t ∧ 0 < A * t + B ∧ (s < t → A * (t - 1) + B ≤ 0 ∧ A * s + B ≤ 0) := by
  by_cases h0 : 0 < A * s + B
  · have e : fab A B s = .int s := by unfold fab; rw [if_pos h0]
    exact .inr ⟨s, e, fab_int e⟩
  · by_cases hA : A ≤ 0
    · have e : fab A B s = .non := by unfold fab; rw [if_neg h0, if_pos hA]
      exact .inl ⟨e, fab_none e⟩
    · have e : fab A B s = .int ((-B) / A + 1) := by unfold fab; rw [if_neg h0, if_neg hA]
      exact .inr ⟨_, e, fab_int e⟩
/-! ### rows of anything in the heap -/
section
variable {α : Type}
def rf (L : List (Addr × α)) : List V := L.map fun p => V.ref p.1
def dt (L : List (Addr × α)) : List α := L.map (·.2)
theorem rf_len (L : List (Addr × α)) : (rf L).length = L.length := List.length_map ..
theorem dt_len (L : List (Addr × α)) : (dt L).length = L.length := List.length_map ..
theorem rf_snoc (L : List (Addr × α)) (p : Addr × α) : rf (L ++ [p]) = rf L ++ [.ref p.1] := by unfold rf; rw [List.map_append]; rfl
theorem dt_snoc (L : List (Addr × α)) (p : Addr × α) : dt (L ++ [p]) = dt L ++ [p.2] := by unfold dt; rw [List.map_append]; rfl
theorem rf_get {L : List (Addr × α)} {i : Nat} {v : V} (h : (rf L)[i]? = some v) : ∃ p, L[i]? = some p ∧ p ∈ L ∧ v = .ref p.1 := by
  unfold rf at h
  rw [List.getElem?_map] at h
  cases e : L[i]? with
  | none => rw [e] at h; cases h
  | some p => rw [e] at h; exact ⟨p, rfl, List.mem_of_getElem? e, (Option.some.inj h).symm⟩
theorem dt_get {L : List (Addr × α)} {i : Nat} {p : Addr × α} (h : L[i]? = some p) : (dt L)[i]? = some p.2 := by
  unfold dt
  rw [List.getElem?_map, h]
  rfl
theorem dt_mem {L : List (Addr × α)} {p : Addr × α} (h : p ∈ L) : p.2 ∈ dt L := List.mem_map.mpr ⟨p, h, rfl⟩
theorem mem_dt {L : List (Addr × α)} {r : α} (h : r ∈ dt L) : ∃ p ∈ L, p.2 = r := by
  unfold dt at h
  obtain ⟨p, hp, e⟩ := List.mem_map.mp h
  exact ⟨p, hp, e⟩
end
theorem refs_rf (L : List ARow) : refs L = rf L := rfl
/-- lines as they stand -/
def AtL (C : Addr) (H : Hp) (L : List ARow) : Prop := ∀ p ∈ L, IsL C H p.1 p.2.1 p.2.2
theorem AtL.same {C : Addr} {H H' : Hp} {L : List ARow} (h : AtL C H L) (s : Same H H') : AtL C H' L := fun p hp => (h p hp).same s
/-- starts with their lines -/
abbrev SRow := Addr × (Addr × Pc)
def AtS1 (C : Addr) (H : Hp) (q : SRow) : Prop := H q.1 = some (.tup [.int q.2.2.1, .ref q.2.1]) ∧ IsL C H q.2.1 q.2.2.2.1 q.2.2.2.2
def AtS (C : Addr) (H : Hp) (A : List SRow) : Prop := ∀ q ∈ A, AtS1 C H q
/-- pieces with their lines -/
abbrev NRow := Addr × (Addr × R4)
def AtN1 (C : Addr) (H : Hp) (q : NRow) : Prop := H q.1 = some (.tup [.int q.2.2.1, .int q.2.2.2.1, .ref q.2.1]) ∧ IsL C H q.2.1 q.2.2.2.2.1 q.2.2.2.2.2
def AtN (C : Addr) (H : Hp) (A : List NRow) : Prop := ∀ q ∈ A, AtN1 C H q
theorem AtN.same {C : Addr} {H H' : Hp} {L : List NRow} (h : AtN C H L) (s : Same H H') : AtN C H' L := fun p hp => ⟨s _ _ (h p hp).1, (h p hp).2.same s⟩
def pcs (A : List SRow) : List Pc := (dt A).map (·.2)
def r4s (A : List NRow) : List R4 := (dt A).map (·.2)
theorem pcs_snoc (A : List SRow) (q : SRow) : pcs (A ++ [q]) = pcs A ++ [q.2.2] := by unfold pcs; rw [dt_snoc, List.map_append]; rfl
theorem r4s_snoc (A : List NRow) (q : NRow) : r4s (A ++ [q]) = r4s A ++ [q.2.2] := by unfold r4s; rw [dt_snoc, List.map_append]; rfl
theorem pe_fldK {X : Cx} {e : Expr} {f : Str} {pos : Pos} {ta : TE} (K : PySem.W.Frag) (hK : X.K = K) (he : PE X e ta) (hb : attributeBase e f X.env (eval e X.env) = eval e X.env) : PE X (.Attribute e f pos) (tFld K ta f) := by
  subst hK
  exact pe_fld he hb
/-- a comprehension over zip of two lists of one length -/
theorem lc_zip {K : PySem.W.Frag} {a b : Addr} {xs ys : List V} {g : TG} {tt : TT} {te : TE} {vs : List Nat} {σ : L2.St} {H1 : Hp} {D : Addr} {Qd : Hp → Prop} (hl : xs.length = ys.length) (Pv : Nat → Hp → Prop) (h0 : Pv 0 (upd H1 D (.lst []))) (hq : ∀ i H, Pv i H → SqL K H a xs ∧ SqL K H b ys)
    (hs : ∀ (i : Nat) (x y : V) (T : Addr) (H : Hp), xs[i]? = some x → ys[i]? = some y → Pv i H → H T = none → g (.ref T) (wipe σ vs) (upd H T (.tup [x, y])) fun σ2 H2 => wipe σ2 vs = wipe σ vs ∧ tt σ2 H2 fun b H3 =>
      if b = true then te σ2 H3 fun y H4 => ∃ acc, H4 D = some (.lst acc) ∧ acc.length < sizeLine ∧ Pv (i + 1) (upd H4 D (.lst (acc ++ [y]))) else Pv (i + 1) H3) (hd : ∀ H, Pv xs.length H → Qd H) :
    ∃ W : Nat → Nat → Hp → Prop, (∃ m, W 0 m (upd H1 D (.lst []))) ∧ ∀ i m H, W i m H →
      ((Itz K a b).stop i H ∧ Qd H) ∨ ((Itz K a b).go i H ∧ ∃ Nx : Hp → Prop, (∀ H', Nx H' → ∃ m', m' < m ∧ W (i + 1) m' H') ∧ ∀ x H', (Itz K a b).yld i H x H' → g x (wipe σ vs) H' fun σ2 H2 => wipe σ2 vs = wipe σ vs ∧ tt σ2 H2 fun b H3 =>
        if b = true then te σ2 H3 fun y H4 => ∃ acc, H4 D = some (.lst acc) ∧ acc.length < sizeLine ∧ Nx (upd H4 D (.lst (acc ++ [y]))) else Nx H3) := by
  refine ⟨fun i m H => m = xs.length - i ∧ i ≤ xs.length ∧ Pv i H, ⟨xs.length, by simp, Nat.zero_le _, h0⟩, ?_⟩
  rintro i m H ⟨rfl, hi, p⟩
  obtain ⟨qx, qy⟩ := hq i H p
  by_cases hlt : i < xs.length
  · have hx : xs[i]? = some xs[i] := List.getElem?_eq_getElem hlt
    have hlt2 : i < ys.length := by omega
    have hy : ys[i]? = some ys[i] := List.getElem?_eq_getElem hlt2
    refine .inr ⟨⟨xs, ys, _, _, qx, qy, hx, hy⟩, Pv (i + 1), fun H' p' => ⟨xs.length - (i + 1), by omega, rfl, hlt, p'⟩, fun v H' y => ?_⟩
    obtain ⟨T, x', y', rfl, hT, rfl, f1, f2⟩ := y
    exact hs i x' y' T H (f1 xs qx) (f2 ys qy) p hT
  · have e : i = xs.length := by omega
    subst e
    exact .inl ⟨⟨xs, ys, qx, qy, Or.inl (Nat.le_refl _)⟩, hd H p⟩
end OR

namespace OR
open PySem PySem.Spec PyProof.Rows L2
def SmR (r : Row) : Prop := -(2 ^ 50) < r.1 ∧ r.1 < 2 ^ 50
def spTakes (C : Addr) : Sp := fun vs H Q _ => ∃ (x : Addr) (n : Row) (q : SRow), vs = [.ref x, .ref q.1] ∧ IsL C H x n.1 n.2 ∧ AtS1 C H q ∧ SmR n ∧ SmR q.2.2.2 ∧ Q (.bl (decide (vl n q.2.2.1 ≤ vl q.2.2.2 q.2.2.1))) H
def spLow (K : PySem.W.Frag) (C : Addr) : Sp := fun vs H Q _ => ∃ (a : Addr) (f l : Int) (L : List ARow), vs = [.ref a, .int f, .int l] ∧ SqL K H a (refs L) ∧ AtL C H L ∧ 0 < L.length ∧ L.length ≤ 500 ∧ (∀ r ∈ rws L, SmR r) ∧ f ≤ l ∧
  ∀ (t : Addr) (N : List NRow) (H' : Hp), Same H H' → H t = none → H' t = some (.lst (rf N)) → AtN C H' N → GoodTo 1 (rws L) l f (r4s N) (l + 1) → N.length ≤ L.length → Q (.ref t) H'
theorem boot_sortedO : bootBuiltins ("sorted" : Str) = some (.builtin "sorted") := by decide +kernel
def ng1 (r : Row) : Row := (-r.1, r.2)
theorem ng1_ng (r : Row) : ng1 (ng1 r) = r := by unfold ng1; simp
section
variable {P : Program} {w : World} {K : PySem.W.Frag} {mg : Str → Option Value} {base : Heap}
theorem scTO : FnScope ["line", "begun", "start", "holder"] ["line", "begun"] (defScope sTakes) := ⟨rfl, rfl, rfl, by decide +kernel, rfl, by decide +kernel, by decide +kernel⟩
theorem ok_takes {f C : Addr} {fd : FuncData} (F : Fun K "_takes_over" "_takes_over" sTakes f fd) (V1 : Cl P w K mg base 1 "value_at" ["line", "x"] (spLCall C)) : FnOk P w K mg base CX0 2 f fd ["line", "begun"] (spTakes C) := by
  refine F.ok scTO (fun vs H Q E h => ?_) (fun cdv A outer s H vs Q E hr h => ?_)
  · obtain ⟨x, n, q, rfl, _⟩ := h
    rfl
  · obtain ⟨x, n, q, rfl, hx, ⟨ht, hl⟩, sn, sq, k⟩ := h
    have nd := scTO.nd
    refine ⟨_, pss_cons (ps_asg (pv 1) (pg_tup rfl (pgs_cons (pg_name (i := 2) nd rfl (.inl rfl)) (pgs_cons (pg_name (i := 3) nd rfl (.inl rfl)) pgs_nil))))
      (pss_one (ps_ret (pe_cmpR op_le (pe_cl V1 hr (by decide) (by rfl) (pa_cons (pv 0) (pa_cons (pv 2) pa_nil))) (pe_cl V1 hr (by decide) (by rfl) (pa_cons (pv 3) (pa_cons (pv 2) pa_nil))) (nomark _)))), ?_⟩
    refine ⟨_, rfl, q.1, _, rfl, .inl (.inl ht), rfl, _, _, rfl, _, _, rfl, rfl, ?_⟩
    obtain ⟨s1, s2⟩ := sn
    obtain ⟨s3, s4⟩ := sq
    exact ⟨_, rfl, _, rfl, x, n.1, n.2, q.2.2.1, rfl, hx, .inl ⟨by omega, by omega⟩, _, rfl, _, rfl, q.2.1, _, _, q.2.2.1, rfl, hl, .inl ⟨by omega, by omega⟩, _, _, rfl, rfl, k⟩
theorem scLo : FnScope ["lines", "first", "last", "starts", "line", "fall", "height", "start", "ends", "begin", "_", "holder", "end"] ["lines", "first", "last"] (defScope sLow) := ⟨rfl, rfl, rfl, by decide +kernel, rfl, by decide +kernel, by decide +kernel⟩
theorem ok_low {f C : Addr} {fd : FuncData} (F : Fun K "lowest" "lowest" sLow f fd) (M : LMk P w K mg base C) (zS : mg "sorted" = none) (zZ : mg "zip" = none) (TO : Cl P w K mg base 2 "_takes_over" ["line", "begun"] (spTakes C)) (FA : Cl P w K mg base 5 "first_above" ["one", "other", "start"] (spFirst C)) : FnOk P w K mg base CX0 6 f fd ["lines", "first", "last"] (spLow K C) := by
  have T := M.T
  refine F.ok scLo (fun vs H Q E h => ?_) (fun cdv A outer s H vs Q E hr h => ?_)
  · obtain ⟨a, f, l, L, rfl, _⟩ := h
    rfl
  · obtain ⟨a, f, l, L, rfl, hS, hL, l0, l1, sm, hfl, q⟩ := h
    have nd := scLo.nd
    refine ⟨_, pss_cons (ps_set (i := 3) nd rfl (.inl rfl) (pe_lst pa_nil))
      (pss_cons (ps_for PassesOwn.never rfl (pi_list (pe_callB cr_sortedPO (by rfl) zS boot_sortedO (pa_cons
            (pe_lc (own := [("line", 4)]) (g := gName 4) (tt := tYes) rfl nd (pi_list (pv 0)) (blkOk_by (N := ["lines", "first", "last", "starts", "line", "fall", "height", "start", "ends", "begin", "_", "holder", "end"]) (sc := defScope sLow) (by decide +kernel))
              (fun _ _ _ _ _ => pg_name (i := 4) nd rfl (.inl rfl)) (fun _ _ _ _ _ => pts_nil) (fun _ _ _ _ _ => pe_tup (pa_cons (pe_un un_neg (pe_fldK K rfl (pv 4) rfl)) (pa_cons (pe_fldK K rfl (pv 4) rfl) pa_nil)))) pa_nil)))
          (pg_tup rfl (pgs_cons (pg_name (i := 5) nd rfl (.inl rfl)) (pgs_cons (pg_name (i := 6) nd rfl (.inl rfl)) pgs_nil)))
        (pss_cons (ps_set (i := 4) nd rfl (.inl rfl) (pe_mkL M hr (by decide) (by rfl) (pa_cons (pe_un un_neg (pv 5)) (pa_cons (pv 6) pa_nil))))
        (Evl.pss_cut (ps_while PassesOwn.never (PW.pt (pw_and (pt_truth (pv 3) (by intro _; rfl)) (pw_and1 (pt_val (pe_cl TO hr (by decide) (by rfl) (pa_cons (pv 4) (pa_cons (pe_ix ix_list (pv 3) (pe_un un_neg pe_int) (fun _ _ => rfl)) pa_nil)))))))
          (pss_one (ps_expr (pe_bm0 PySem.F.plainAttrs_list PySem.F.slot_list_pop PySem.F.type_list_pop mt_pop (pv 3)))))
        (pss_cons (ps_set (i := 7) nd rfl (.inl rfl) (pe_ifExp (pt_truth (pv 3) (by intro _; rfl)) (pe_cl FA hr (by decide) (by rfl) (pa_cons (pe_ix ix_tup (pe_ix ix_list (pv 3) (pe_un un_neg pe_int) (fun _ _ => rfl)) pe_int (fun _ _ => rfl)) (pa_cons (pv 4) (pa_cons (pv 1) pa_nil)))) (pv 1)))
        (pss_one (ps_if (PW.pt (pw_and (pt_cmp (pc_notN (pv 7))) (pw_and1 (pt_cmpR op_le (pv 7) (pv 2) (nomark _)))))
          (pss_one (ps_expr (pe_bm PySem.F.plainAttrs_list PySem.F.slot_list_append PySem.F.type_list_append mt_append (pv 3) (pa_cons (pe_tup (pa_cons (pv 7) (pa_cons (pv 4) pa_nil))) pa_nil)))) pss_nil))))))
      (pss_cons (ps_set (i := 8) nd rfl (.inl rfl) (pe_op op_cat
          (pe_lc (own := [("begin", 9), ("_", 10)]) (g := gTup K 2 (gCons (gName 9) (gCons (gName 10) gNil))) (tt := tYes) rfl nd (pi_list (pe_slice sl_list (pv 3) (po_some pe_int) po_none)) (blkOk_by (N := ["lines", "first", "last", "starts", "line", "fall", "height", "start", "ends", "begin", "_", "holder", "end"]) (sc := defScope sLow) (by decide +kernel))
            (fun _ _ _ _ _ => pg_tup rfl (pgs_cons (pg_name (i := 9) nd rfl (.inl rfl)) (pgs_cons (pg_name (i := 10) nd rfl (.inl rfl)) pgs_nil))) (fun _ _ _ _ _ => pts_nil) (fun _ _ _ _ _ => pe_op op_sub (pv 9) pe_int))
          (pe_lst (pa_cons (pv 2) pa_nil))))
      (pss_one (ps_ret (pe_lc (own := [("begin", 9), ("holder", 11), ("end", 12)]) (g := gTup K 2 (gCons (gTup K 2 (gCons (gName 9) (gCons (gName 11) gNil))) (gCons (gName 12) gNil))) (tt := tYes) rfl nd (pi_zip (by rfl) zZ (pa_cons (pv 3) (pa_cons (pv 8) pa_nil))) (blkOk_by (N := ["lines", "first", "last", "starts", "line", "fall", "height", "start", "ends", "begin", "_", "holder", "end"]) (sc := defScope sLow) (by decide +kernel))
          (fun _ _ _ _ _ => pg_tup rfl (pgs_cons (pg_tup rfl (pgs_cons (pg_name (i := 9) nd rfl (.inl rfl)) (pgs_cons (pg_name (i := 11) nd rfl (.inl rfl)) pgs_nil))) (pgs_cons (pg_name (i := 12) nd rfl (.inl rfl)) pgs_nil))) (fun _ _ _ _ _ => pts_nil)
          (fun _ _ _ _ _ => pe_tup (pa_cons (pv 9) (pa_cons (pv 12) (pa_cons (pv 11) pa_nil))))))))), ?_⟩
    have two : 2 ≤ sizeLine := by decide
    refine ⟨Nat.zero_le _, fun o no => ?_⟩
    have S1 : Same H (upd H o (.lst [])) := same_lay no
    refine ⟨_, rfl, a, rfl, ⟨_, S1.seq hS⟩, fun D hD => lc_list (K := K) (a := a) (xs := refs L) (fun i H2 => ∃ N : List ARow, H2 D = some (.lst (refs N)) ∧ AtR H2 N ∧ rws N = ((rws L).take i).map ng1 ∧ Same (upd H o (.lst [])) H2)
        ⟨[], upd_same, (fun _ z => nomatch z), rfl, same_lay hD⟩ (fun i H2 _ ⟨_, _, _, _, s⟩ => s.seq (S1.seq hS)) ?_ ?_⟩
    · intro i x H2 hx hI
      obtain ⟨N, hD2, hN, eN, s2⟩ := hI
      obtain ⟨p, hp, hpL, rfl⟩ := refs_get hx
      have hil : i < L.length := (List.getElem?_eq_some_iff.mp hp).1
      have hlN : N.length = i := by
        rw [← rws_len N, eN, List.length_map, List.length_take, rws_len]
        omega
      have e1 : (rws L).take (i + 1) = (rws L).take i ++ [p.2] := by rw [List.take_add_one, rws_get hp]; rfl
      have nDp : ∀ q ∈ N, q.1 ≠ D := fun q hq => ne_of (hN q hq) hD2 (by intro z; cases z)
      obtain ⟨dx, hx⟩ := ((hL p hpL).same S1).same s2
      refine ⟨rfl, yesT ?_⟩
      refine ⟨_, rfl, p.1, C, dx, _, _, rfl, hx, T.cl, T.nS, lFl_slope _ _, p.2.1, rfl, _, rfl, p.1, C, dx, _, _, rfl, hx, T.cl, T.nH, lFl_height _ _, two, fun t ht => ?_⟩
      have s3 := same_lay (o := .tup [.int (-p.2.1), .int p.2.2]) ht
      have ntD : t ≠ D := (ne_of_none hD2 ht).symm
      refine ⟨refs N, s3 _ _ hD2, small1000' (by rw [refs_len, hlN]; omega), N ++ [(t, ng1 p.2)], ?_, ?_, ?_, same_upd (s2.trans s3) hD⟩
      · rw [upd_same, refs_snoc]
      · intro q hq
        rcases List.mem_append.mp hq with k | k
        · rw [upd_ne (nDp q k)]; exact s3 _ _ (hN q k)
        · rw [List.mem_singleton.mp k, upd_ne ntD, upd_same]; rfl
      · rw [rws_snoc, eN, e1, List.map_append]; rfl
    rintro H2 ⟨N, hD2, hN, eN, s2⟩
    rw [refs_len, List.take_of_length_le (by rw [rws_len]; exact Nat.le_refl _)] at eN
    have no2 : H2 o = some (.lst []) := s2 _ _ upd_same
    have lN : N.length = L.length := by rw [← rws_len N, eN, List.length_map, rws_len]
    refine ⟨D, refs N, kOf H2, rfl, .inl (.inl hD2), fun y hy => ?_, fun ys p hs hb np => ?_⟩
    · unfold refs at hy
      obtain ⟨z, hz, rfl⟩ := List.mem_map.mp hy
      exact ⟨z.1, rfl, by rw [kOf_at (hN z hz)]; exact hN z hz⟩
    obtain ⟨S, rfl, hSA, hSm, hSl, hSk⟩ := refs_perm hN hb.perm
    have hso : (rws S).Pairwise fun r s => r.1 ≤ s.1 := by
      rw [hSk]
      refine List.pairwise_map.mpr (hs.imp fun {x y} hxy => ?_)
      have := SrtO.lexB_no.mp hxy
      omega
    have memS : ∀ r, r ∈ (rws S).map ng1 ↔ r ∈ rws L := fun r => by
      constructor
      · intro h
        obtain ⟨u, hu, e⟩ := List.mem_map.mp h
        have := (hSm u).mp hu
        rw [eN] at this
        obtain ⟨v, hv, e2⟩ := List.mem_map.mp this
        rw [← e, ← e2, ng1_ng]
        exact hv
      · intro h
        refine List.mem_map.mpr ⟨ng1 r, (hSm _).mpr ?_, ng1_ng r⟩
        rw [eN]
        exact List.mem_map.mpr ⟨r, h, rfl⟩
    have s3 := same_lay (o := .lst (refs S)) np
    have nop : o ≠ p := ne_of_none no2 np
    have hSL : S.length = L.length := by rw [hSl, lN]
    refine ⟨p, rfl, ⟨_, .inl (.inl upd_same)⟩, for_list (K := K) (a := p) (xs := refs S) (fun i σ H' => ∃ s4 s5 s6 s7, ∃ (A : List SRow) (T : List Row) (Sp : List Pc), σ = [some (.ref a), some (.int f), some (.int l), some (.ref o), s4, s5, s6, s7, none, none, none, none, none] ∧ H' o = some (.lst (rf A)) ∧ AtS C H' A ∧ pcs A = Sp.reverse ∧
        EnvSt T f l Sp ∧ (∀ t, t ∈ T ↔ t ∈ ((rws S).take i).map ng1) ∧ Fre o (upd H2 p (.lst (refs S))) H' ∧ A.length ≤ i ∧ ∀ q ∈ A, SmR q.2.2.2)
      ⟨none, none, none, none, [], [], [], rfl, by rw [upd_ne nop]; exact no2, (fun _ z => nomatch z), rfl, EnvSt.nil hfl, (fun t => by simp), Fre.refl _ _, Nat.le_refl _, (fun _ z => nomatch z)⟩ (fun i σ H' _ ⟨_, _, _, _, _, _, _, _, _, _, _, _, _, fr, _⟩ => .inl (.inl (fr _ _ upd_same nop.symm))) ?_ ?_⟩
    · rintro i y σ H' hy ⟨s4, s5, s6, s7, A, T', Sp, rfl, hoA, hA, eA, hE, hT, fr, hAl, sA⟩
      obtain ⟨z, hz, hzS, rfl⟩ := refs_get hy
      have hil : i < S.length := (List.getElem?_eq_some_iff.mp hz).1
      have ez : H' z.1 = some (.tup [.int z.2.1, .int z.2.2]) := fr _ _ (s3 _ _ (hSA z hzS)) (ne_of (hSA z hzS) no2 (by intro q; cases q))
      have e1 : (rws S).take (i + 1) = (rws S).take i ++ [z.2] := by rw [List.take_add_one, rws_get hz]; rfl
      have smz : SmR (ng1 z.2) := sm _ ((memS _).mp (List.mem_map.mpr ⟨z.2, List.mem_of_getElem? (rws_get hz), rfl⟩))
      have slope : ∀ t ∈ T', (ng1 z.2).1 ≤ t.1 := fun t ht => by
        obtain ⟨r, hr, e⟩ := List.mem_map.mp ((hT t).mp ht)
        have h2 := hso
        rw [← List.take_append_drop i (rws S)] at h2
        have h3 := (List.pairwise_append.mp h2).2.2 r hr z.2 (by
          have : (rws S).drop i = z.2 :: (rws S).drop (i + 1) := by
            have hlt : i < (rws S).length := by rw [rws_len]; exact hil
            rw [List.drop_eq_getElem_cons hlt]
            have := List.getElem?_eq_getElem hlt
            rw [rws_get hz] at this
            rw [Option.some.inj this]
          rw [this]
          exact List.mem_cons_self)
        subst e
        show -z.2.1 ≤ -r.1
        omega
      refine ⟨z.1, _, rfl, .inl (.inl ez), rfl, _, _, rfl, _, _, rfl, rfl, ?_⟩
      refine ⟨_, rfl, z.2.1, rfl, _, rfl, -z.2.1, z.2.2, rfl, fun x H4 nx hx s4' => ?_⟩
      obtain ⟨dx, hx⟩ := hx
      have hoA4 := s4' _ _ hoA
      have hA4 : AtS C H4 A := fun q hq => ⟨s4' _ _ (hA q hq).1, (hA q hq).2.same s4'⟩
      obtain ⟨B0, ps0⟩ := hE.start (ng1 z.2)
      -- the while
      refine ⟨fun σ' H'' => σ' = [some (.ref a), some (.int f), some (.int l), some (.ref o), some (.ref x), some (.int z.2.1), some (.int z.2.2), s7, none, none, none, none, none] ∧ ∃ (A' : List SRow) (R : List Pc) (B : Int), H'' o = some (.lst (rf A')) ∧ AtS C H'' A' ∧ pcs A' = R.reverse ∧ PopSt T' f l (ng1 z.2) R B ∧ Fre o H4 H'' ∧ A'.length ≤ i ∧ (∀ q ∈ A', SmR q.2.2.2) ∧ (∀ p ∈ R.head?, vl p.2 p.1 < vl (ng1 z.2) p.1), ?_, ?_⟩
      · refine ⟨fun m σ' H'' => σ' = [some (.ref a), some (.int f), some (.int l), some (.ref o), some (.ref x), some (.int z.2.1), some (.int z.2.2), s7, none, none, none, none, none] ∧ ∃ (A' : List SRow) (R : List Pc) (B : Int), H'' o = some (.lst (rf A')) ∧ AtS C H'' A' ∧ pcs A' = R.reverse ∧ PopSt T' f l (ng1 z.2) R B ∧ Fre o H4 H'' ∧ A'.length ≤ i ∧ (∀ q ∈ A', SmR q.2.2.2) ∧ A'.length = m,
          ⟨A.length, rfl, A, Sp, B0, hoA4, hA4, eA, ps0, Fre.refl _ _, hAl, sA, rfl⟩, ?_⟩
        rintro m σ' H5 ⟨rfl, A', R, B, ho, hA', eA', ps, fr5, mi, sA', em⟩
        refine ⟨_, rfl, !(rf A').isEmpty, .inl ⟨rf A', .inl (.inl ho), rfl⟩, ?_⟩
        rcases List.eq_nil_or_concat A' with e | ⟨A2, q2, e⟩
        · subst e
          have eR : R = [] := by
            have : R.reverse = [] := eA'.symm
            simpa using this
          subst eR
          refine iteF (iteF ?_)
          exact ⟨rfl, [], [], B, ho, hA', rfl, ps, fr5, mi, sA', fun p hp => nomatch hp⟩
        · rw [List.concat_eq_append] at e
          subst e
          rw [pcs_snoc] at eA'
          have eR : R = q2.2.2 :: (pcs A2).reverse := by
            have := congrArg List.reverse eA'
            rw [List.reverse_reverse, List.reverse_append] at this
            exact this.symm
          subst eR
          have hq2 := hA' q2 (List.mem_append_right _ (List.mem_singleton.mpr rfl))
          have hoq := ho
          rw [rf_snoc] at hoq
          have hx5 : H5 x = some (.ins C dx (lFl (-z.2.1) z.2.2)) := fr5 _ _ hx (ne_of hx hoA4 (by intro w; cases w))
          have tru : (!(rf (A2 ++ [q2])).isEmpty) = true := by rw [rf_snoc]; simp
          rw [tru]
          refine iteT ?_
          refine ⟨_, rfl, _, rfl, 1, rfl, o, _, -1, _, rfl, rfl, .inl (.inl hoq), atI_last _ _, x, ng1 z.2, q2, rfl, ⟨dx, hx5⟩, hq2, smz, sA' q2 (List.mem_append_right _ (List.mem_singleton.mpr rfl)), _, rfl, ?_⟩
          refine ite2 (fun k => ?_) (fun k => ?_)
          · have hk : vl (ng1 z.2) q2.2.2.1 ≤ vl q2.2.2.2 q2.2.2.1 := of_decide_eq_true k
            refine ⟨fun σ' H'' => σ' = [some (.ref a), some (.int f), some (.int l), some (.ref o), some (.ref x), some (.int z.2.1), some (.int z.2.2), s7, none, none, none, none, none] ∧ ∃ (A' : List SRow) (R : List Pc) (B : Int), H'' o = some (.lst (rf A')) ∧ AtS C H'' A' ∧ pcs A' = R.reverse ∧ PopSt T' f l (ng1 z.2) R B ∧ Fre o H4 H'' ∧ A'.length ≤ i ∧ (∀ q ∈ A', SmR q.2.2.2) ∧ A'.length = A2.length,
              fun σ' H'' h => ⟨A2.length, by rw [← em]; simp, h⟩, ?_⟩
            refine ⟨_, rfl, .inl ⟨rfl, _, .inl (.inl hoq)⟩, o, _, .ref q2.1, rfl, rfl, hoq, by simp, ?_⟩
            rw [List.dropLast_concat]
            have nAo : ∀ q ∈ A2, q.1 ≠ o := fun q hq => ne_of (hA' q (List.mem_append_left _ hq)).1 ho (by intro w; cases w)
            have nLo : ∀ q ∈ A2, ∀ d fs, H5 q.2.1 = some (.ins C d fs) → q.2.1 ≠ o := fun q hq d fs h => ne_of h ho (by intro w; cases w)
            refine ⟨rfl, A2, (pcs A2).reverse, q2.2.2.1, upd_same, fun q hq => ?_, by rw [List.reverse_reverse], ps.pop (slope _ ps.env.2.2.1) hk, fr5.trans Fre.put, by rw [List.length_append] at mi; omega, fun q hq => sA' q (List.mem_append_left _ hq), rfl⟩
            obtain ⟨g1, d, g2⟩ := hA' q (List.mem_append_left _ hq)
            exact ⟨by rw [upd_ne (nAo q hq)]; exact g1, d, by rw [upd_ne (nLo q hq _ _ g2)]; exact g2⟩
          · have hk : ¬ vl (ng1 z.2) q2.2.2.1 ≤ vl q2.2.2.2 q2.2.2.1 := fun w => k (decide_eq_true w)
            refine ⟨rfl, A2 ++ [q2], _, B, ho, hA', by rw [pcs_snoc]; exact eA', ps, fr5, mi, sA', fun p hp => ?_⟩
            cases hp
            omega
      rintro σ' H5 ⟨rfl, A', R, B, ho, hA', eA', ps, fr5, mi, sA', stop⟩
      have hx5 : H5 x = some (.ins C dx (lFl (-z.2.1) z.2.2)) := fr5 _ _ hx (ne_of hx hoA4 (by intro w; cases w))
      have frA : Fre o (upd H2 p (.lst (refs S))) H5 := (fr.trans (fun b u e _ => s4' b u e)).trans fr5
      have memT : ∀ t, t ∈ ng1 z.2 :: T' ↔ t ∈ ((rws S).take (i + 1)).map ng1 := fun t => by
        rw [e1, List.map_append, List.mem_append, List.mem_cons, hT t]
        simp only [List.map_cons, List.map_nil, List.mem_singleton]
        exact or_comm
      -- the line begins at st
      have app : ∀ (st : Int) (H6 : Hp) (s7 : Option V) (Sq : List Pc), Same H5 H6 → EnvSt (ng1 z.2 :: T') f l ((st, ng1 z.2) :: R) → ∀ Tn, H6 Tn = none →
          ∃ s4 s5 s6 s7, ∃ (A : List SRow) (T : List Row) (Sp : List Pc), [some (V.ref a), some (.int f), some (.int l), some (.ref o), some (.ref x), some (.int z.2.1), some (.int z.2.2), some (.int st), none, none, none, none, none] = [some (V.ref a), some (.int f), some (.int l), some (.ref o), s4, s5, s6, s7, none, none, none, none, none] ∧
            (upd (upd H6 Tn (.tup [.int st, .ref x])) o (.lst (rf A' ++ [.ref Tn]))) o = some (.lst (rf A)) ∧ AtS C (upd (upd H6 Tn (.tup [.int st, .ref x])) o (.lst (rf A' ++ [.ref Tn]))) A ∧ pcs A = Sp.reverse ∧
            EnvSt T f l Sp ∧ (∀ t, t ∈ T ↔ t ∈ ((rws S).take (i + 1)).map ng1) ∧ Fre o (upd H2 p (.lst (refs S))) (upd (upd H6 Tn (.tup [.int st, .ref x])) o (.lst (rf A' ++ [.ref Tn]))) ∧ A.length ≤ i + 1 ∧ ∀ q ∈ A, SmR q.2.2.2 := by
        intro st H6 s7 Sq s6 hE' Tn hT'
        have s7' := same_lay (o := .tup [.int st, .ref x]) hT'
        have ho6 : H6 o = some (.lst (rf A')) := s6 _ _ ho
        have noT : Tn ≠ o := by
          intro e
          rw [e] at hT'
          rw [hT'] at ho6
          cases ho6
        have keep : ∀ b u, H5 b = some u → b ≠ o → (upd (upd H6 Tn (.tup [.int st, .ref x])) o (.lst (rf A' ++ [.ref Tn]))) b = some u := fun b u e n => by
          rw [upd_ne n]
          exact s7' _ _ (s6 _ _ e)
        refine ⟨_, _, _, _, A' ++ [(Tn, (x, (st, ng1 z.2)))], ng1 z.2 :: T', (st, ng1 z.2) :: R, rfl, by rw [upd_same, rf_snoc], fun q hq => ?_, by rw [pcs_snoc, eA', List.reverse_cons], hE', memT, frA.trans keep, by rw [List.length_append]; exact Nat.succ_le_succ mi, fun q hq => ?_⟩
        · rcases List.mem_append.mp hq with k | k
          · obtain ⟨g1, d, g2⟩ := hA' q k
            exact ⟨keep _ _ g1 (ne_of g1 ho (by intro w; cases w)), d, keep _ _ g2 (ne_of g2 ho (by intro w; cases w))⟩
          · rw [List.mem_singleton.mp k]
            exact ⟨by rw [upd_ne noT]; exact upd_same, dx, keep _ _ hx5 (ne_of hx5 ho (by intro w; cases w))⟩
        · rcases List.mem_append.mp hq with k | k
          · exact sA' q k
          · rw [List.mem_singleton.mp k]
            exact smz
      have alen : (rf A').length < sizeLine := small1000' (by rw [rf_len]; omega)
      refine ⟨_, rfl, !(rf A').isEmpty, .inl ⟨rf A', .inl (.inl ho), rfl⟩, ?_⟩
      rcases List.eq_nil_or_concat A' with e | ⟨A2, q2, e⟩
      · subst e
        have eR : R = [] := by
          have : R.reverse = [] := eA'.symm
          simpa using this
        subst eR
        refine iteF ?_
        refine ⟨_, rfl, ?_⟩
        refine ⟨_, rfl, _, rfl, iteT ?_⟩
        refine ⟨_, rfl, _, rfl, _, _, rfl, rfl, _, rfl, ite2 (fun _ => ?_) (fun k => absurd (decide_eq_true hfl) k)⟩
        refine ⟨_, rfl, .inl ⟨rfl, _, .inl (.inl ho)⟩, _, rfl, _, rfl, two, fun Tn hT' => ?_⟩
        refine ⟨o, rf [], _, rfl, rfl, same_lay hT' _ _ ho, alen, ?_⟩
        exact app f H5 none [] (Same.refl _) (ps.all hfl slope) Tn hT'
      · rw [List.concat_eq_append] at e
        subst e
        rw [pcs_snoc] at eA'
        have eR : R = q2.2.2 :: (pcs A2).reverse := by
          have := congrArg List.reverse eA'
          rw [List.reverse_reverse, List.reverse_append] at this
          exact this.symm
        subst eR
        have hq2 := hA' q2 (List.mem_append_right _ (List.mem_singleton.mpr rfl))
        have sq2 := sA' q2 (List.mem_append_right _ (List.mem_singleton.mpr rfl))
        have hoq := ho
        rw [rf_snoc] at hoq
        have tru : (!(rf (A2 ++ [q2])).isEmpty) = true := by rw [rf_snoc]; simp
        rw [tru]
        refine iteT ?_
        have st1 := stop q2.2.2 rfl
        have sl1 := slope _ ps.env.2.2.1
        obtain ⟨u1, u2⟩ := smz
        obtain ⟨u3, u4⟩ := sq2
        refine ⟨_, rfl, 1, rfl, o, _, -1, _, rfl, rfl, .inl (.inl hoq), atI_last _ _, q2.1, _, 1, _, rfl, rfl, .inl (.inl hq2.1), at1, _, rfl, _, rfl, q2.2.1, _, _, x, (ng1 z.2).1, (ng1 z.2).2, f, rfl, hq2.2, ⟨dx, hx5⟩, by omega, by omega, by omega, by omega, fun H6 S6 => ?_⟩
        -- no start, or one behind the last place
        have keepE : (∀ y, y ≤ l → vl q2.2.2.2 y ≤ vl (ng1 z.2) y) → ∀ (v7 : Option V), ∃ s4 s5 s6 s7, ∃ (A : List SRow) (T : List Row) (Sp : List Pc), [some (V.ref a), some (.int f), some (.int l), some (.ref o), some (.ref x), some (.int z.2.1), some (.int z.2.2), v7, none, none, none, none, none] = [some (V.ref a), some (.int f), some (.int l), some (.ref o), s4, s5, s6, s7, none, none, none, none, none] ∧
            H6 o = some (.lst (rf A)) ∧ AtS C H6 A ∧ pcs A = Sp.reverse ∧ EnvSt T f l Sp ∧ (∀ t, t ∈ T ↔ t ∈ ((rws S).take (i + 1)).map ng1) ∧ Fre o (upd H2 p (.lst (refs S))) H6 ∧ A.length ≤ i + 1 ∧ ∀ q ∈ A, SmR q.2.2.2 := fun late v7 =>
          ⟨_, _, _, _, A2 ++ [q2], _, _, rfl, S6 _ _ ho, fun q hq => ⟨S6 _ _ (hA' q hq).1, (hA' q hq).2.same S6⟩, by rw [pcs_snoc]; exact eA', ps.keep sl1 st1 late, memT, frA.trans (fun b u e _ => S6 b u e), Nat.le_succ_of_le mi, sA'⟩
        rcases fab_case (q2.2.2.2.1 - (ng1 z.2).1) (q2.2.2.2.2 - (ng1 z.2).2) f with ⟨e, h1, h2⟩ | ⟨t, e, h1, h2, h3⟩
        · rw [e]
          refine ⟨_, rfl, _, rfl, iteF ?_⟩
          refine iteF (keepE (fun y hy => ?_) _)
          have : (q2.2.2.2.1 - (ng1 z.2).1) = 0 := by omega
          have d1 := vl_diff q2.2.2.2 (ng1 z.2) y
          rw [this, Int.zero_mul] at d1
          rw [this, Int.zero_mul] at h1
          omega
        · rw [e]
          rw [vl_diff] at h2
          have before : ∀ y, y < t → vl q2.2.2.2 y ≤ vl (ng1 z.2) y := fun y hy => by
            have ft : f < t := by
              have hps := Env.le ps.env.1
              rcases (show f < t ∨ t ≤ f by omega) with w | w
              · exact w
              · have := lead_mono sl1 (show t ≤ q2.2.2.1 by omega)
                omega
            have := (h3 ft).1
            rw [vl_diff] at this
            have := lead_mono sl1 (show y ≤ t - 1 by omega)
            omega
          refine ⟨_, rfl, _, rfl, iteT ?_⟩
          refine ⟨_, rfl, _, rfl, _, _, rfl, rfl, _, rfl, ite2 (fun k => ?_) (fun k => ?_)⟩
          · have htl : t ≤ l := of_decide_eq_true k
            refine ⟨_, rfl, .inl ⟨rfl, _, .inl (.inl (S6 _ _ ho))⟩, _, rfl, _, rfl, two, fun Tn hT' => ?_⟩
            refine ⟨o, _, _, rfl, rfl, same_lay hT' _ _ (S6 _ _ ho), alen, ?_⟩
            exact app t H6 none [] S6 (ps.grow slope st1 (by omega) (before (t - 1) (by omega)) htl) Tn hT'
          · have htl : ¬ t ≤ l := fun w => k (decide_eq_true w)
            exact keepE (fun y hy => before y (by omega)) _
    · rintro σ H' ⟨s4, s5, s6, s7, A, T', Sp, rfl, hoA, hA, eA, hE, hT, fr, hAl, sA⟩
      rw [refs_len] at hAl hT
      rw [List.take_of_length_le (by rw [rws_len]; exact Nat.le_refl _)] at hT
      have memL : ∀ t, t ∈ T' ↔ t ∈ rws L := fun t => (hT t).trans (memS t)
      have hne : T' ≠ [] := by
        intro e
        cases hL0 : L with
        | nil => rw [hL0] at l0; exact absurd l0 (by simp)
        | cons u U =>
          have := (memL u.2).mpr (by rw [hL0]; exact List.mem_cons_self)
          rw [e] at this
          cases this
      obtain ⟨hSp, hG⟩ := hE.rows hne
      rw [← eA] at hG
      have hG := hG.mono memL
      have hA0 : A ≠ [] := by
        intro e
        subst e
        apply hSp
        have : Sp.reverse = [] := eA.symm
        simpa using this
      have SH : Same H H' := fun b u e => fr b u (s3 b u (s2 b u (S1 b u e))) (ne_of_none e no)
      -- ends
      have ec : cutV (rf A) (some 1) none = rf (A.drop 1) := by
        unfold cutV
        rw [HT.sIx_none, show HT.sIx (rf A).length 0 (some 1) = min 1 (rf A).length from HT.sIx_nat _ _ 1]
        have h1 : min 1 (rf A).length = 1 := by
          rw [rf_len]
          cases A with
          | nil => exact absurd rfl hA0
          | cons u U => simp
        rw [h1, List.take_of_length_le (by rw [List.length_drop]; exact Nat.le_refl _)]
        unfold rf
        rw [List.map_drop]
      refine ⟨_, rfl, 1, rfl, o, _, rfl, .inl (.inl hoA), fun sl nsl => ?_⟩
      have Ss := same_lay (o := .lst (cutV (rf A) (some 1) none)) nsl
      have hsl : (upd H' sl (.lst (cutV (rf A) (some 1) none))) sl = some (.lst (rf (A.drop 1))) := by rw [upd_same, ec]
      have hdp : pcs (A.drop 1) = (pcs A).drop 1 := by
        unfold pcs dt
        rw [List.map_drop, List.map_drop]
      refine ⟨sl, rfl, ⟨_, .inl (.inl hsl)⟩, fun E1 hE1 => lc_list (K := K) (a := sl) (xs := rf (A.drop 1)) (fun j G => G E1 = some (.lst ((((pcs A).drop 1).take j).map fun p => V.int (p.1 - 1))) ∧ Same (upd H' sl (.lst (cutV (rf A) (some 1) none))) G)
          ⟨upd_same, same_lay hE1⟩ (fun j G _ ⟨_, s⟩ => .inl (.inl (s _ _ hsl))) ?_ ?_⟩
      · rintro j y G hy ⟨hE2, sG⟩
        obtain ⟨u, hu, huA, rfl⟩ := rf_get hy
        have huA' : u ∈ A := List.mem_of_mem_drop huA
        have eu := sG _ _ (Ss _ _ (hA u huA').1)
        have hjl : j < (A.drop 1).length := (List.getElem?_eq_some_iff.mp hu).1
        have eg : ((pcs A).drop 1)[j]? = some u.2.2 := by
          rw [← hdp]
          unfold pcs
          rw [List.getElem?_map, dt_get hu]
          rfl
        have hlp : ((pcs A).drop 1).length = (A.drop 1).length := by rw [← hdp]; unfold pcs dt; rw [List.length_map, List.length_map]
        refine ⟨u.1, _, rfl, .inl (.inl eu), rfl, _, _, rfl, _, _, rfl, rfl, rfl, yesT ?_⟩
        refine ⟨_, rfl, _, _, rfl, rfl, _, hE2, small1000' ?_, ?_, same_upd sG hE1⟩
        · rw [List.length_map, List.length_take]
          rw [List.length_drop] at hjl
          omega
        · rw [upd_same, List.take_add_one, eg, List.map_append]
          rfl
      rintro G ⟨hE2, sG⟩
      have hlp : ((pcs A).drop 1).length = (A.drop 1).length := by rw [← hdp]; unfold pcs dt; rw [List.length_map, List.length_map]
      rw [rf_len, List.take_of_length_le (by rw [hlp]; exact Nat.le_refl _)] at hE2
      refine ⟨_, rfl, by show 1 ≤ sizeLine; decide, fun e2 he2 => ?_⟩
      have s2' := same_lay (o := .lst [.int l]) he2
      refine ⟨E1, e2, _, _, rfl, rfl, s2' _ _ hE2, upd_same, ?_, fun e3 he3 => ?_⟩
      · rw [List.length_map, hlp, List.length_drop]
        exact Nat.le_of_lt (small1000' (by show A.length - 1 + 1 < 1000; omega))
      have s3' := same_lay (o := .lst ((((pcs A).drop 1).map fun p => V.int (p.1 - 1)) ++ [.int l])) he3
      have eE : (((pcs A).drop 1).map fun p => V.int (p.1 - 1)) ++ [.int l] = (endsOf (pcs A) l).map V.int := by
        unfold endsOf
        rw [List.map_append, List.map_map]
        rfl
      have SG : Same H' (upd (upd G e2 (.lst [.int l])) e3 (.lst ((((pcs A).drop 1).map fun p => V.int (p.1 - 1)) ++ [.int l]))) := ((Ss.trans sG).trans s2').trans s3'
      have he3' : (upd (upd G e2 (.lst [.int l])) e3 (.lst ((((pcs A).drop 1).map fun p => V.int (p.1 - 1)) ++ [.int l]))) e3 = some (.lst ((endsOf (pcs A) l).map V.int)) := by rw [upd_same, eE]
      have hlA : (pcs A).length = A.length := by unfold pcs dt; rw [List.length_map, List.length_map]
      have hlE : (endsOf (pcs A) l).length = A.length := by
        cases hp : pcs A with
        | nil => rw [hp] at hlA; exact absurd (List.length_eq_zero_iff.mp hlA.symm) hA0
        | cons u U => rw [ends_len, ← hp, hlA]
      -- the pieces
      refine ⟨_, rfl, _, rfl, o, e3, rf A, (endsOf (pcs A) l).map V.int, rfl, .inl (.inl (SG _ _ hoA)), .inl (.inl he3'), fun D2 hD2 => ?_⟩
      generalize upd (upd G e2 (.lst [.int l])) e3 (.lst ((((pcs A).drop 1).map fun p => V.int (p.1 - 1)) ++ [.int l])) = G3 at SG he3' hD2
      refine lc_zip (K := K) (a := o) (b := e3) (xs := rf A) (ys := (endsOf (pcs A) l).map V.int) (by rw [rf_len, List.length_map, hlE]) (fun j G => ∃ N : List NRow, G D2 = some (.lst (rf N)) ∧ AtN C G N ∧ r4s N = (rowsF (pcs A) l).take j ∧ Same G3 G ∧ N.length ≤ j)
        ⟨[], upd_same, (fun _ z => nomatch z), rfl, same_lay hD2, Nat.le_refl _⟩ (fun j G ⟨_, _, _, _, s, _⟩ => ⟨.inl (.inl (s _ _ (SG _ _ hoA))), .inl (.inl (s _ _ he3'))⟩) ?_ ?_
      · rintro j y1 y2 Tz G4 hy1 hy2 ⟨N2, hN2, aN2, eN2, sN2, lN2⟩ hTz
        obtain ⟨u, hu, huA, rfl⟩ := rf_get hy1
        rw [List.getElem?_map] at hy2
        cases he : (endsOf (pcs A) l)[j]? with
        | none => rw [he] at hy2; cases hy2
        | some en =>
          rw [he] at hy2
          cases hy2
          have hjl : j < A.length := (List.getElem?_eq_some_iff.mp hu).1
          have sz := same_lay (o := .tup [.ref u.1, .int en]) hTz
          obtain ⟨g1, d, g2⟩ := hA u huA
          have k1 := sz _ _ (sN2 _ _ (SG _ _ g1))
          have k2 := sz _ _ (sN2 _ _ (SG _ _ g2))
          have ep : (pcs A)[j]? = some u.2.2 := by
            unfold pcs
            rw [List.getElem?_map, dt_get hu]
            rfl
          have er : (rowsF (pcs A) l)[j]? = some (u.2.2.1, en, u.2.2.2) := by
            unfold rowsF
            rw [List.getElem?_zipWith, ep, he]
          refine ⟨Tz, _, rfl, .inl (.inl upd_same), rfl, _, _, rfl, ⟨u.1, _, rfl, .inl (.inl k1), rfl, _, _, rfl, _, _, rfl, rfl, _, _, rfl, rfl, ?_⟩⟩
          refine ⟨rfl, yesT ?_⟩
          refine ⟨_, rfl, _, rfl, _, rfl, by show 3 ≤ sizeLine; decide, fun t ht => ?_⟩
          have s5' := same_lay (o := .tup [.int u.2.2.1, .int en, .ref u.2.1]) ht
          have hD4 : (upd G4 Tz (.tup [.ref u.1, .int en])) D2 = some (.lst (rf N2)) := sz _ _ hN2
          have ntD : t ≠ D2 := (ne_of_none hD4 ht).symm
          have kp : ∀ b v, (upd G4 Tz (.tup [.ref u.1, .int en])) b = some v → b ≠ D2 → (upd (upd (upd G4 Tz (.tup [.ref u.1, .int en])) t (.tup [.int u.2.2.1, .int en, .ref u.2.1])) D2 (.lst (rf N2 ++ [.ref t]))) b = some v := fun b v e n => by
            rw [upd_ne n]; exact s5' _ _ e
          refine ⟨rf N2, s5' _ _ hD4, small1000' (by rw [rf_len]; omega), N2 ++ [(t, (u.2.1, (u.2.2.1, en, u.2.2.2)))], by rw [upd_same, rf_snoc], fun q hq => ?_, ?_, same_upd ((sN2.trans sz).trans s5') hD2, by rw [List.length_append]; exact Nat.succ_le_succ lN2⟩
          · rcases List.mem_append.mp hq with k | k
            · obtain ⟨g1, d, g2⟩ := aN2 q k
              exact ⟨kp _ _ (sz _ _ g1) (ne_of g1 hN2 (by intro w; cases w)), d, kp _ _ (sz _ _ g2) (ne_of g2 hN2 (by intro w; cases w))⟩
            · rw [List.mem_singleton.mp k]
              exact ⟨by rw [upd_ne ntD]; exact upd_same, d, kp _ _ k2 (ne_of k2 hD4 (by intro w; cases w))⟩
          · rw [r4s_snoc, eN2, List.take_add_one, er]
            rfl
      · rintro G4 ⟨N2, hN2, aN2, eN2, sN2, lN2⟩
        have hlR : (rowsF (pcs A) l).length = A.length := by
          unfold rowsF
          rw [List.length_zipWith, hlA, hlE, Nat.min_self]
        rw [rf_len, List.take_of_length_le (by rw [hlR]; exact Nat.le_refl _)] at eN2
        rw [← eN2] at hG
        rw [rf_len] at lN2
        exact q D2 N2 G4 ((SH.trans SG).trans sN2) ((SH.trans SG).free hD2) hN2 aN2 hG (by omega)
end
end OR

namespace OR
open PySem PySem.Spec PyProof.Rows L2
def spHigh (K : PySem.W.Frag) (C : Addr) : Sp := fun vs H Q _ => ∃ (a : Addr) (f l : Int) (L : List ARow), vs = [.ref a, .int f, .int l] ∧ SqT K H a (refs L) ∧ AtL C H L ∧ 0 < L.length ∧ L.length ≤ 500 ∧ (∀ r ∈ rws L, SmR r) ∧ f ≤ l ∧
  ∀ (t : Addr) (N : List NRow) (H' : Hp), Same H H' → H t = none → H' t = some (.lst (rf N)) → AtN C H' N → GoodTo (-1) (rws L) l f (r4s N) (l + 1) → N.length ≤ L.length → Q (.ref t) H'
section
variable {P : Program} {w : World} {K : PySem.W.Frag} {mg : Str → Option Value} {base : Heap}
theorem scHi : FnScope ["lines", "first", "last", "turned", "line", "start", "end"] ["lines", "first", "last"] (defScope sHigh) := ⟨rfl, rfl, rfl, by decide +kernel, rfl, by decide +kernel, by decide +kernel⟩
theorem ok_high {f C : Addr} {fd : FuncData} (F : Fun K "highest" "highest" sHigh f fd) (N1 : Md P w K mg base 3 C "__neg__" (spLNeg C)) (LO : Cl P w K mg base 6 "lowest" ["lines", "first", "last"] (spLow K C)) : FnOk P w K mg base CX0 7 f fd ["lines", "first", "last"] (spHigh K C) := by
  refine F.ok scHi (fun vs H Q E h => ?_) (fun cdv A outer s H vs Q E hr h => ?_)
  · obtain ⟨a, f, l, L, rfl, _⟩ := h
    rfl
  · obtain ⟨a, f, l, L, rfl, hS, hL, l0, l1, sm, hfl, q⟩ := h
    have nd := scHi.nd
    refine ⟨_, pss_cons (ps_set (i := 3) nd rfl (.inl rfl) (pe_cl LO hr (by decide) (by rfl) (pa_cons
          (pe_lc (own := [("line", 4)]) (g := gName 4) (tt := tYes) rfl nd (pi_tup (pv 0)) (blkOk_by (N := ["lines", "first", "last", "turned", "line", "start", "end"]) (sc := defScope sHigh) (by decide +kernel))
            (fun _ _ _ _ _ => pg_name (i := 4) nd rfl (.inl rfl)) (fun _ _ _ _ _ => pts_nil) (fun _ _ _ _ _ => pe_un (un_negO N1 (hr.mono (by decide))) (pv 4))) (pa_cons (pv 1) (pa_cons (pv 2) pa_nil)))))
      (pss_one (ps_ret (pe_lc (own := [("start", 5), ("end", 6), ("line", 4)]) (g := gTup K 3 (gCons (gName 5) (gCons (gName 6) (gCons (gName 4) gNil)))) (tt := tYes) rfl nd (pi_list (pv 3)) (blkOk_by (N := ["lines", "first", "last", "turned", "line", "start", "end"]) (sc := defScope sHigh) (by decide +kernel))
          (fun _ _ _ _ _ => pg_tup rfl (pgs_cons (pg_name (i := 5) nd rfl (.inl rfl)) (pgs_cons (pg_name (i := 6) nd rfl (.inl rfl)) (pgs_cons (pg_name (i := 4) nd rfl (.inl rfl)) pgs_nil)))) (fun _ _ _ _ _ => pts_nil)
          (fun _ _ _ _ _ => pe_tup (pa_cons (pv 5) (pa_cons (pv 6) (pa_cons (pe_un (un_negO N1 (hr.mono (by decide))) (pv 4)) pa_nil))))))), ?_⟩
    refine ⟨_, rfl, a, rfl, ⟨_, hS⟩, fun D hD => lc_tup (K := K) (a := a) (xs := refs L) (fun i H2 => ∃ N : List ARow, H2 D = some (.lst (refs N)) ∧ AtL C H2 N ∧ rws N = ((rws L).take i).map ngR ∧ Same H H2 ∧ N.length = i)
        ⟨[], upd_same, (fun _ z => nomatch z), rfl, same_lay hD, rfl⟩ (fun i H2 _ ⟨_, _, _, _, s, _⟩ => sameT s hS) ?_ ?_⟩
    · rintro i x H2 hx ⟨N, hD2, hN, eN, s2, lN⟩
      obtain ⟨p, hp, hpL, rfl⟩ := refs_get hx
      have hil : i < L.length := (List.getElem?_eq_some_iff.mp hp).1
      have e1 : (rws L).take (i + 1) = (rws L).take i ++ [p.2] := by rw [List.take_add_one, rws_get hp]; rfl
      obtain ⟨dx, hx⟩ := (hL p hpL).same s2
      refine ⟨rfl, yesT ?_⟩
      refine ⟨_, rfl, p.1, dx, _, rfl, hx, p.1, p.2.1, p.2.2, rfl, ⟨dx, hx⟩, fun y H3 ny hy s3 => ?_⟩
      have hD3 := s3 _ _ hD2
      have ny2 : y ≠ D := (ne_of_none hD2 ny).symm
      refine ⟨refs N, hD3, small1000' (by rw [refs_len, lN]; omega), N ++ [(y, ngR p.2)], by rw [upd_same, refs_snoc], fun q hq => ?_, by rw [rws_snoc, eN, e1, List.map_append]; rfl, same_upd (s2.trans s3) hD, by rw [List.length_append, lN]; rfl⟩
      rcases List.mem_append.mp hq with k | k
      · obtain ⟨d, g⟩ := (hN q k).same s3
        exact ⟨d, by rw [upd_ne (ne_of g hD3 (by intro w; cases w))]; exact g⟩
      · rw [List.mem_singleton.mp k]
        obtain ⟨d, g⟩ := hy
        exact ⟨d, by rw [upd_ne ny2]; exact g⟩
    rintro H2 ⟨N, hD2, hN, eN, s2, lN⟩
    rw [refs_len] at eN lN
    rw [List.take_of_length_le (by rw [rws_len]; exact Nat.le_refl _)] at eN
    refine ⟨_, rfl, _, rfl, D, f, l, N, rfl, .inl (.inl hD2), hN, by omega, by omega, fun r hr => ?_, hfl, fun t M H3 s3 nt ht aM gM lM => ?_⟩
    · rw [eN] at hr
      obtain ⟨u, hu, e⟩ := List.mem_map.mp hr
      obtain ⟨k1, k2⟩ := sm u hu
      subst e
      exact ⟨by show -(2 ^ 50) < -u.1; omega, by show -u.1 < 2 ^ 50; omega⟩
    rw [eN] at gM
    have gN := gM.neg
    have SH := s2.trans s3
    refine ⟨_, rfl, t, rfl, ⟨_, .inl (.inl ht)⟩, fun D3 hD3 => lc_list (K := K) (a := t) (xs := rf M) (fun i H4 => ∃ N2 : List NRow, H4 D3 = some (.lst (rf N2)) ∧ AtN C H4 N2 ∧ r4s N2 = ((r4s M).take i).map ng4 ∧ Same H3 H4 ∧ N2.length = i)
        ⟨[], upd_same, (fun _ z => nomatch z), rfl, same_lay hD3, rfl⟩ (fun i H2 _ ⟨_, _, _, _, s, _⟩ => .inl (.inl (s _ _ ht))) ?_ ?_⟩
    · rintro i x H4 hx ⟨N2, hD4, hN2, eN2, s4, lN2⟩
      obtain ⟨u, hu, huM, rfl⟩ := rf_get hx
      have hil : i < M.length := (List.getElem?_eq_some_iff.mp hu).1
      have ep : (r4s M)[i]? = some u.2.2 := by
        unfold r4s
        rw [List.getElem?_map, dt_get hu]
        rfl
      obtain ⟨g1, d, g2⟩ := aM u huM
      refine ⟨u.1, _, rfl, .inl (.inl (s4 _ _ g1)), rfl, _, _, rfl, _, _, rfl, _, _, rfl, rfl, rfl, yesT ?_⟩
      refine ⟨_, rfl, _, rfl, _, rfl, u.2.1, d, _, rfl, s4 _ _ g2, u.2.1, _, _, rfl, ⟨d, s4 _ _ g2⟩, fun y H5 ny hy s5 => ?_⟩
      refine ⟨by show 3 ≤ sizeLine; decide, fun t5 ht5 => ?_⟩
      have s6 := same_lay (o := .tup [.int u.2.2.1, .int u.2.2.2.1, .ref y]) ht5
      have hD6 := s6 _ _ (s5 _ _ hD4)
      have ny2 : y ≠ D3 := (ne_of_none hD4 ny).symm
      have nt5 : t5 ≠ D3 := (ne_of_none (s5 _ _ hD4) ht5).symm
      refine ⟨rf N2, hD6, small1000' (by rw [rf_len, lN2]; omega), N2 ++ [(t5, (y, ng4 u.2.2))], by rw [upd_same, rf_snoc], fun q hq => ?_, by rw [r4s_snoc, eN2, List.take_add_one, ep, List.map_append]; rfl, same_upd ((s4.trans s5).trans s6) hD3, by rw [List.length_append, lN2]; rfl⟩
      rcases List.mem_append.mp hq with k | k
      · obtain ⟨g1, d, g2⟩ := hN2 q k
        exact ⟨by rw [upd_ne (ne_of g1 hD4 (by intro w; cases w))]; exact s6 _ _ (s5 _ _ g1), d, by rw [upd_ne (ne_of g2 hD4 (by intro w; cases w))]; exact s6 _ _ (s5 _ _ g2)⟩
      · rw [List.mem_singleton.mp k]
        obtain ⟨d2, g⟩ := hy
        exact ⟨by rw [upd_ne nt5]; exact upd_same, d2, by rw [upd_ne ny2]; exact s6 _ _ g⟩
    · rintro H4 ⟨N2, hD4, hN2, eN2, s4, lN2⟩
      have hl4 : (r4s M).length = M.length := by unfold r4s dt; rw [List.length_map, List.length_map]
      rw [rf_len] at eN2 lN2
      rw [List.take_of_length_le (by rw [hl4]; exact Nat.le_refl _)] at eN2
      rw [← eN2] at gN
      exact q D3 N2 H4 (SH.trans s4) (SH.free hD3) hD4 hN2 gN (by omega)
end
end OR

namespace OR
open PySem PySem.Spec PyProof.Rows L2
def rowD (r : Row) : PyData := .tuple [.int r.1, .int r.2]
theorem dp_row {K : PySem.W.Frag} {H : Hp} {a : Addr} {r : Row} (h : H a = some (.tup [.int r.1, .int r.2])) : Dp K H (.ref a) (rowD r) := .tup (.inl (.inl h)) (.cons (.int _) (.cons (.int _) .nil))
theorem dp_rows {K : PySem.W.Frag} {H : Hp} : ∀ {L : List ARow}, AtR H L → DpAll K H (refs L) ((rws L).map rowD)
  | [], _ => .nil
  | p :: L, h => .cons (dp_row (h p List.mem_cons_self)) (dp_rows fun q hq => h q (List.mem_cons_of_mem _ hq))
theorem lay_rows : ∀ l : List Row, PyData.canLayAll0 (l.map rowD) = true
  | [] => rfl
  | r :: l => by
    show (PyData.canLay0 (rowD r) && PyData.canLayAll0 (l.map rowD)) = true
    rw [lay_rows l]
    rfl
theorem dep_rows : ∀ l : List Row, PyData.depthAll (l.map rowD) ≤ 1
  | [] => Nat.zero_le _
  | r :: l => by
    show max (PyData.depth (rowD r)) (PyData.depthAll (l.map rowD)) ≤ 1
    have := dep_rows l
    have e : PyData.depth (rowD r) = 1 := rfl
    omega
theorem shp_tup (l : List Row) : SeqAt.shaped (.tuple (l.map rowD)) = true := by
  unfold SeqAt.shaped
  rw [show PyData.canLay0 (.tuple (l.map rowD)) = true from lay_rows l, Bool.true_and]
  refine decide_eq_true ?_
  show PyData.depthAll (l.map rowD) + 1 ≤ 64
  have := dep_rows l
  omega
theorem shp_lst (l : List Row) : SeqAt.shaped (.list (l.map rowD)) = true := by
  unfold SeqAt.shaped
  rw [show PyData.canLay0 (.list (l.map rowD)) = true from lay_rows l, Bool.true_and]
  refine decide_eq_true ?_
  show PyData.depthAll (l.map rowD) + 1 ≤ 64
  have := dep_rows l
  omega
theorem eqv_row (r s : Row) : PyData.eqv (rowD r) (rowD s) = decide (r = s) := by
  show ((r.1 == s.1) && ((r.2 == s.2) && true)) = decide (r = s)
  rw [Bool.and_true]
  by_cases h : r = s
  · subst h
    simp
  · rw [decide_eq_false h]
    by_cases h1 : r.1 = s.1
    · have h2 : r.2 ≠ s.2 := fun e => h (Prod.ext h1 e)
      simp [h2]
    · simp [h1]
theorem eqv_rows : ∀ l m : List Row, PyData.eqvAll (l.map rowD) (m.map rowD) = decide (l = m)
  | [], [] => by simp [PyData.eqvAll]
  | [], _ :: _ => by simp [PyData.eqvAll]
  | _ :: _, [] => by simp [PyData.eqvAll]
  | r :: l, s :: m => by
    show (PyData.eqv (rowD r) (rowD s) && PyData.eqvAll (l.map rowD) (m.map rowD)) = decide (r :: l = s :: m)
    rw [eqv_row, eqv_rows l m]
    by_cases h1 : r = s
    · by_cases h2 : l = m
      · simp [h1, h2]
      · simp [h1, h2]
    · simp [h1]
theorem AtR.frm {H H' : Hp} {L : List ARow} {p : Addr} {n : Nat} (h : AtR H L) (f : Frm p H H') (P : Pen H p n) : AtR H' L := fun q hq => by
  obtain ⟨c, ns, k, l, hp, _⟩ := P
  exact f _ _ (h q hq) (ne_of (h q hq) hp (by intro z; cases z))
theorem frmS {p : Addr} {H H' : Hp} (s : Same H H') : Frm p H H' := Same.frm s
theorem Frm.free {p q : Addr} {H H' : Hp} {n : Nat} (f : Frm p H H') (P : Pen H' p n) (h : H' q = none) : H q = none := by
  obtain ⟨c, ns, k, l, hp, _⟩ := P
  cases e : H q with
  | none => rfl
  | some o =>
    by_cases ep : q = p
    · rw [ep, hp] at h
      cases h
    · rw [f q o e ep] at h
      cases h
def SlB (r : Row) : Prop := -(10 ^ 9 + 10) ≤ r.1 ∧ r.1 ≤ 10 ^ 9 + 10
def spLines (K : PySem.W.Frag) : Sp := fun vs H Q _ => ∃ (p : Addr) (x : Int) (n : Nat), vs = [.ref p, .int x] ∧ Pen H p n ∧ n ≤ 700000 ∧
  ∀ (a : Addr) (L : List ARow) (H' : Hp), H a = none → H' a = some (.lst (refs L)) → AtR H' L → 0 < L.length → L.length ≤ 5 → (∀ r ∈ rws L, SlB r) → Pen H' p (n + 80) → Frm p H H' → Q (.ref a) H'
def spBest (K : PySem.W.Frag) : Sp := fun vs H Q _ => ∃ (a : Addr) (x sg : Int) (L : List ARow), vs = [.ref a, .int x, .int sg] ∧ SqL K H a (refs L) ∧ AtR H L ∧ 0 < L.length ∧ (∀ r ∈ rws L, SlB r) ∧ (sg = 1 ∨ sg = -1) ∧
  ∀ z ∈ L, BestAt sg (rws L) x z.2 → Q (.ref z.1) H
def spPassed (K : PySem.W.Frag) : Sp := fun vs H Q _ => ∃ (a b : Addr) (x sg : Int) (L : List ARow) (r : Row), vs = [.ref a, .ref b, .int x, .int sg] ∧ SqL K H a (refs L) ∧ AtR H L ∧ L.length ≤ 500 ∧ (∀ r ∈ rws L, SlB r) ∧ SlB r ∧ H b = some (.tup [.int r.1, .int r.2]) ∧ (sg = 1 ∨ sg = -1) ∧
  ∀ H', Same H H' → Q (.bl (decide (∃ t ∈ rws L, sg * vl t x < sg * vl r x))) H'
section
variable {P : Program} {w : World} {K : PySem.W.Frag} {mg : Str → Option Value} {base : Heap}
theorem scLns : FnScope ["_law_pen_here", "_law_x", "_law_found", "_law_y", "_law_k", "_law_slope", "_law_height", "_law_before", "_law_some"] ["_law_pen_here", "_law_x"] (defScope sLines) := ⟨rfl, rfl, rfl, by decide +kernel, rfl, by decide +kernel, by decide +kernel⟩
theorem ok_lines {f : Addr} {fd : FuncData} (F : Fun K "_law_lines" "_law_lines" sLines f fd) (zR : mg "range" = none) (D : Cl P w K mg base 1 "_law_draw" ["_law_pen_here", "_law_many"] spDraw) (C : Cl P w K mg base 2 "_law_pick" ["_law_pen_here", "_law_items"] (spPick K))
    (W : Cl P w K mg base 3 "_law_whole" ["_law_pen_here"] spWhole) (LI : Cl P w K mg base 4 "_law_line" ["_law_pen_here"] spLine) (WO : Cl P w K mg base 1 "_law_worth" ["_law_line_here", "_law_x"] spWorth) : FnOk P w K mg base CX0 5 f fd ["_law_pen_here", "_law_x"] (spLines K) := by
  refine F.ok scLns (fun vs H Q E h => ?_) (fun cdv A outer s H vs Q E hr h => ?_)
  · obtain ⟨p, x, n, rfl, _⟩ := h
    rfl
  · obtain ⟨p, x, n, rfl, hP, hn, q⟩ := h
    have nd := scLns.nd
    refine ⟨_, pss_cons (ps_par (i := 2) (j := 3) rfl nd rfl rfl (by decide) rfl rfl (pa_cons (pe_lst (pa_cons (pe_cl LI hr (by decide) (by rfl) (pa_cons (pv 0) pa_nil)) pa_nil)) (pa_cons (pe_cl W hr (by decide) (by rfl) (pa_cons (pv 0) pa_nil)) pa_nil)) rfl)
      (pss_cons (ps_for PassesOwn.never rfl (pi_range1 (by rfl) zR (pa_cons (pe_cl D hr (by decide) (by rfl) (pa_cons (pv 0) (pa_cons pe_int pa_nil))) pa_nil)) (pg_name (i := 4) nd rfl (.inl rfl))
        (pss_cons (ps_asg (pe_cl LI hr (by decide) (by rfl) (pa_cons (pv 0) pa_nil)) (pg_tup rfl (pgs_cons (pg_name (i := 5) nd rfl (.inl rfl)) (pgs_cons (pg_name (i := 6) nd rfl (.inl rfl)) pgs_nil))))
        (pss_cons (ps_set (i := 7) nd rfl (.inl rfl) (pe_cl C hr (by decide) (by rfl) (pa_cons (pv 0) (pa_cons (pv 2) pa_nil))))
        (pss_cons (ps_set (i := 8) nd rfl (.inl rfl) (pe_lst (pa_cons (pe_tup (pa_cons (pv 5) (pa_cons (pv 6) pa_nil))) (pa_cons (pe_tup (pa_cons (pv 5) (pa_cons (pe_op op_sub (pv 3) (pe_op op_mul (pv 5) (pv 1))) pa_nil))) (pa_cons (pe_tup (pa_cons (pv 5) (pa_cons (pe_op op_sub (pv 3) (pe_op op_mul (pv 5) (pv 1))) pa_nil)))
            (pa_cons (pv 7) (pa_cons (pe_tup (pa_cons (pe_ix ix_tup (pv 7) pe_int (fun _ _ => rfl)) (pa_cons (pe_op op_add (pe_ix ix_tup (pv 7) pe_int (fun _ _ => rfl)) pe_int) pa_nil))) pa_nil)))))))
        (pss_cons (ps_expr (pe_bm PySem.F.plainAttrs_list PySem.F.slot_list_append PySem.F.type_list_append mt_append (pv 8) (pa_cons (pe_tup (pa_cons (pe_op op_sub (pe_ix ix_tup (pv 7) pe_int (fun _ _ => rfl)) pe_int)
            (pa_cons (pe_op op_sub (pe_op op_add (pe_op op_sub (pe_cl WO hr (by decide) (by rfl) (pa_cons (pv 7) (pa_cons (pv 1) pa_nil))) (pe_op op_mul (pe_op op_sub (pe_ix ix_tup (pv 7) pe_int (fun _ _ => rfl)) pe_int) (pv 1))) (pe_cl D hr (by decide) (by rfl) (pa_cons (pv 0) (pa_cons pe_int pa_nil)))) pe_int) pa_nil))) pa_nil)))
        (pss_one (ps_expr (pe_bm PySem.F.plainAttrs_list PySem.F.slot_list_append PySem.F.type_list_append mt_append (pv 2) (pa_cons (pe_cl C hr (by decide) (by rfl) (pa_cons (pv 0) (pa_cons (pv 8) pa_nil))) pa_nil)))))))))
      (pss_one (ps_ret (pv 2)))), ?_⟩
    have t2 : 2 ≤ sizeLine := by decide
    refine ⟨_, rfl, p, n, rfl, hP, by omega, fun t0 H1 a0 b0 nt0 a1 a2 P1 ht0 F1 => ?_⟩
    refine ⟨by show 1 ≤ sizeLine; decide, fun o ho => ?_⟩
    have so := same_lay (o := .lst [.ref t0]) ho
    have P2 := P1.same so
    refine ⟨_, rfl, p, n + 6, rfl, P2, by omega, fun y H2 y1 y2 P3 F3 => ⟨_, _, rfl, ?_⟩⟩
    have no : H o = none := by
      cases e : H o with
      | none => rfl
      | some u =>
        by_cases ep : o = p
        · subst ep
          obtain ⟨c, ns, k, l, hp, _⟩ := P1
          rw [hp] at ho
          cases ho
        · rw [F1 o u e ep] at ho
          cases ho
    have ho2 : H2 o = some (.lst [.ref t0]) := F3.lst P2 upd_same
    have ht2 : H2 t0 = some (.tup [.int a0, .int b0]) := (so _ _ ht0 |> fun e => F3 _ _ e (by obtain ⟨c, ns, k, l, hp, _⟩ := P2; exact ne_of e hp (by intro z; cases z)))
    have F03 : Frm p H H2 := (F1.trans (frmS so)).trans F3
    refine ⟨_, rfl, p, 5, n + 9, rfl, by decide, by decide, P3, by omega, fun J H3 j0 j1 P4 F4 => ?_⟩
    have ho3 : H3 o = some (.lst [.ref t0]) := F4.lst P3 ho2
    have ht3 : H3 t0 = some (.tup [.int a0, .int b0]) := F4 _ _ ht2 (by obtain ⟨c, ns, k, l, hp, _⟩ := P3; exact ne_of ht2 hp (by intro z; cases z))
    refine ⟨J, rfl, by omega, by omega, for_range (n := J.toNat) (fun i σ H' => ∃ s4 s5 s6 s7 s8, ∃ L : List ARow, σ = [some (.ref p), some (.int x), some (.ref o), some (.int y), s4, s5, s6, s7, s8] ∧ H' o = some (.lst (refs L)) ∧ AtR H' L ∧ L.length = i + 1 ∧ (∀ r ∈ rws L, -(10 ^ 9 + (i : Int)) ≤ r.1 ∧ r.1 ≤ 10 ^ 9) ∧ Pen H' p (n + 10 + 12 * i) ∧ Frm p H H')
      ⟨none, none, none, none, none, [(t0, (a0, b0))], rfl, ho3, fun q hq => by rw [List.mem_singleton.mp hq]; exact ht3, rfl, fun r hr => by rw [List.mem_singleton.mp hr]; exact ⟨by show -(10 ^ 9 + ((0 : Nat) : Int)) ≤ a0; omega, a2⟩, P4, F03.trans F4⟩ ?_ ?_⟩
    · rintro i σ H' hi ⟨s4, s5, s6, s7, s8, L, rfl, ho', hL, lL, sL, PP, FF⟩
      have hi4 : i < 4 := by omega
      -- slope, height
      refine ⟨_, rfl, p, _, rfl, PP, by omega, fun u G1 a b nu a1 a2 P5 hu F5 => ?_⟩
      refine ⟨u, _, rfl, .inl (.inl hu), rfl, _, _, rfl, _, _, rfl, rfl, ?_⟩
      have ho1 : G1 o = some (.lst (refs L)) := F5.lst PP ho'
      have hL1 := hL.frm F5 PP
      -- before
      refine ⟨_, rfl, _, rfl, p, o, refs L, _, rfl, .inl (.inl ho1), by rw [refs_len]; omega, by rw [refs_len]; omega, P5, by omega, fun v G2 hv P6 F6 => ?_⟩
      obtain ⟨z, hzL, rfl⟩ := List.mem_map.mp hv
      have ho2 : G2 o = some (.lst (refs L)) := F6.lst P5 ho1
      have hL2 := hL1.frm F6 P5
      have hz := hL2 z hzL
      have sz := sL z.2 (mem_rws.mpr ⟨z.1, hzL⟩)
      obtain ⟨sz1, sz2⟩ := sz
      -- some
      refine ⟨_, rfl, _, rfl, t2, fun t1 ht1 => ?_⟩
      have e1 := same_lay (o := .tup [.int a, .int b]) ht1
      refine ⟨_, rfl, _, rfl, _, rfl, _, rfl, _, _, rfl, rfl, .inl ⟨by omega, by omega⟩, _, _, rfl, rfl, t2, fun t2' ht2' => ?_⟩
      have e2 := same_lay (o := .tup [.int a, .int (y - a * x)]) ht2'
      refine ⟨_, rfl, _, rfl, _, rfl, _, rfl, _, _, rfl, rfl, .inl ⟨by omega, by omega⟩, _, _, rfl, rfl, t2, fun t3 ht3' => ?_⟩
      have e3 := same_lay (o := .tup [.int a, .int (y - a * x)]) ht3'
      have hz3 := e3 _ _ (e2 _ _ (e1 _ _ hz))
      refine ⟨_, rfl, _, rfl, z.1, _, 0, .int z.2.1, rfl, rfl, .inl (.inl hz3), at0, _, rfl, z.1, _, 1, .int z.2.2, rfl, rfl, .inl (.inl hz3), at1, _, _, rfl, rfl, t2, fun t5 ht5 => ?_⟩
      have e5 := same_lay (o := .tup [.int z.2.1, .int (z.2.2 + 1)]) ht5
      refine ⟨by show 5 ≤ sizeLine; decide, fun m hm => ?_⟩
      have e6 := same_lay (o := .lst [.ref t1, .ref t2', .ref t3, .ref z.1, .ref t5]) hm
      have EE := ((((e1.trans e2).trans e3).trans e5).trans e6)
      have k1 := e6 _ _ (e5 _ _ (e3 _ _ (e2 _ _ (upd_same (H := G2) (a := t1) (o := .tup [.int a, .int b])))))
      have k2 := e6 _ _ (e5 _ _ (e3 _ _ (upd_same (H := upd G2 t1 (.tup [.int a, .int b])) (a := t2') (o := .tup [.int a, .int (y - a * x)]))))
      have k3 := e6 _ _ (e5 _ _ (upd_same (H := upd (upd G2 t1 (.tup [.int a, .int b])) t2' (.tup [.int a, .int (y - a * x)])) (a := t3) (o := .tup [.int a, .int (y - a * x)])))
      have k4 := e6 _ _ (e5 _ _ hz3)
      have k5 := e6 _ _ (upd_same (H := upd (upd (upd G2 t1 (.tup [.int a, .int b])) t2' (.tup [.int a, .int (y - a * x)])) t3 (.tup [.int a, .int (y - a * x)])) (a := t5) (o := .tup [.int z.2.1, .int (z.2.2 + 1)]))
      have km : (upd (upd (upd (upd (upd G2 t1 (.tup [.int a, .int b])) t2' (.tup [.int a, .int (y - a * x)])) t3 (.tup [.int a, .int (y - a * x)])) t5 (.tup [.int z.2.1, .int (z.2.2 + 1)])) m (.lst [.ref t1, .ref t2', .ref t3, .ref z.1, .ref t5])) m = some (.lst [.ref t1, .ref t2', .ref t3, .ref z.1, .ref t5]) := upd_same
      have ho7 := EE _ _ ho2
      have hL7 : AtR _ L := hL2.same EE
      have P6' := ((((P6.same e1).same e2).same e3).same e5)
      obtain ⟨c1, hc1, hcn1⟩ := P6'.cells
      have nc1m : c1 ≠ m := fun e => hcn1 (by rw [e]; exact hm)
      have nc1o : c1 ≠ o := by
        intro e
        obtain ⟨c, ns, kk, ll, hp, hc, _⟩ := P6'
        have := hc1.inj hp
        subst this
        rw [e] at hc
        have : (HO.lst (ns.map V.int)) = HO.lst (refs L) := Option.some.inj (hc.symm.trans (e5 _ _ (e3 _ _ (e2 _ _ (e1 _ _ ho2)))))
        injection this with h2
        cases L with
        | nil => simp at lL
        | cons u U =>
          cases ns with
          | nil => cases h2
          | cons n0 ns => injection h2 with h3; cases h3
      have nHm : H m = none := Frm.free (((FF.trans F5).trans F6).trans (frmS (((e1.trans e2).trans e3).trans e5))) P6' hm
      have P7 := P6'.same e6
      have hc7 : cellsAt _ p c1 := (frmS (p := p) e6).ce c1 hc1
      generalize (upd (upd (upd (upd (upd G2 t1 (.tup [.int a, .int b])) t2' (.tup [.int a, .int (y - a * x)])) t3 (.tup [.int a, .int (y - a * x)])) t5 (.tup [.int z.2.1, .int (z.2.2 + 1)])) m (.lst [.ref t1, .ref t2', .ref t3, .ref z.1, .ref t5])) = G7 at EE k1 k2 k3 k4 k5 km ho7 hL7 P7 hc7
      have F07 : Frm p H G7 := ((FF.trans F5).trans F6).trans (frmS EE)
      clear P6' hcn1 e1 e2 e3 e5 e6 hz3 hm ht5 ht3' ht2' ht1 hu
      refine ⟨_, rfl, .inl ⟨rfl, _, .inl (.inl km)⟩, _, rfl, z.1, _, 0, .int z.2.1, rfl, rfl, .inl (.inl k4), at0, _, _, rfl, rfl, ?_⟩
      refine ⟨_, rfl, _, rfl, z.1, z.2.1, z.2.2, x, rfl, k4, .inl ⟨by omega, by omega⟩, ?_⟩
      refine ⟨_, rfl, z.1, _, 0, .int z.2.1, rfl, rfl, .inl (.inl k4), at0, _, _, rfl, rfl, _, rfl, _, _, rfl, rfl, .inl ⟨by omega, by omega⟩, _, _, rfl, rfl, ?_⟩
      refine ⟨_, rfl, p, 3, _, rfl, by decide, by decide, P7, by omega, fun r G8 _ _ P8 F8 => ?_⟩
      refine ⟨_, _, rfl, rfl, _, _, rfl, rfl, t2, fun t6 ht6 => ?_⟩
      have nkp : ∀ {G : Hp} {n : Nat} {b : Addr} {u v : V}, Pen G p n → G b = some (.tup [u, v]) → b ≠ p := fun {G n b u v} PP h => by
        obtain ⟨c, ns, k, l, hp, _⟩ := PP
        exact ne_of h hp (by intro z; cases z)
      have e9 := same_lay (o := .tup [.int (z.2.1 - 1), .int (z.2.1 * x + z.2.2 - (z.2.1 - 1) * x + r - 1)]) ht6
      have km8 := F8.lst P7 km
      have km9 := e9 _ _ km8
      have ho9 := e9 _ _ (F8.lst P7 ho7)
      refine ⟨m, _, _, rfl, rfl, km9, by show 5 < sizeLine; decide, ?_⟩
      have nmo : m ≠ o := by
        intro e
        rw [e] at km
        have := Option.some.inj (km.symm.trans ho7)
        injection this with h2
        have := congrArg List.length h2
        rw [refs_len] at this
        have : 5 = L.length := this
        omega
      have hc9 : cellsAt (upd G8 t6 (.tup [.int (z.2.1 - 1), .int (z.2.1 * x + z.2.2 - (z.2.1 - 1) * x + r - 1)])) p c1 := (frmS (p := p) e9).ce c1 (F8.ce c1 hc7)
      have P9 := (P8.same e9).put hc9 km9 nc1m (o := .lst ([.ref t1, .ref t2', .ref t3, .ref z.1, .ref t5] ++ [.ref t6]))
      have kp9 : ∀ {b : Addr} {u v : V}, G7 b = some (.tup [u, v]) → (upd (upd G8 t6 (.tup [.int (z.2.1 - 1), .int (z.2.1 * x + z.2.2 - (z.2.1 - 1) * x + r - 1)])) m (.lst ([.ref t1, .ref t2', .ref t3, .ref z.1, .ref t5] ++ [.ref t6]))) b = some (.tup [u, v]) := fun {b u v} h => by
        rw [upd_ne (ne_of h km (by intro w; cases w))]
        exact e9 _ _ (F8 _ _ h (nkp P7 h))
      have nt6m : t6 ≠ m := by
        intro e
        rw [e] at ht6
        rw [ht6] at km8
        cases km8
      have k69 : (upd (upd G8 t6 (.tup [.int (z.2.1 - 1), .int (z.2.1 * x + z.2.2 - (z.2.1 - 1) * x + r - 1)])) m (.lst ([.ref t1, .ref t2', .ref t3, .ref z.1, .ref t5] ++ [.ref t6]))) t6 = some (.tup [.int (z.2.1 - 1), .int (z.2.1 * x + z.2.2 - (z.2.1 - 1) * x + r - 1)]) := by
        rw [upd_ne nt6m]
        exact upd_same
      have ho10 : (upd (upd G8 t6 (.tup [.int (z.2.1 - 1), .int (z.2.1 * x + z.2.2 - (z.2.1 - 1) * x + r - 1)])) m (.lst ([.ref t1, .ref t2', .ref t3, .ref z.1, .ref t5] ++ [.ref t6]))) o = some (.lst (refs L)) := by
        rw [upd_ne nmo.symm]
        exact ho9
      have km10 : (upd (upd G8 t6 (.tup [.int (z.2.1 - 1), .int (z.2.1 * x + z.2.2 - (z.2.1 - 1) * x + r - 1)])) m (.lst ([.ref t1, .ref t2', .ref t3, .ref z.1, .ref t5] ++ [.ref t6]))) m = some (.lst [.ref t1, .ref t2', .ref t3, .ref z.1, .ref t5, .ref t6]) := upd_same
      have hL10 : AtR (upd (upd G8 t6 (.tup [.int (z.2.1 - 1), .int (z.2.1 * x + z.2.2 - (z.2.1 - 1) * x + r - 1)])) m (.lst ([.ref t1, .ref t2', .ref t3, .ref z.1, .ref t5] ++ [.ref t6]))) L := fun q hq => kp9 (hL7 q hq)
      have F9 : Frm p H (upd G8 t6 (.tup [.int (z.2.1 - 1), .int (z.2.1 * x + z.2.2 - (z.2.1 - 1) * x + r - 1)])) := (F07.trans F8).trans (frmS e9)
      have FP : Frm p H (upd (upd G8 t6 (.tup [.int (z.2.1 - 1), .int (z.2.1 * x + z.2.2 - (z.2.1 - 1) * x + r - 1)])) m (.lst ([.ref t1, .ref t2', .ref t3, .ref z.1, .ref t5] ++ [.ref t6]))) := ⟨fun b u e nb => by
          rw [upd_ne (ne_of_none e nHm)]
          exact F9 _ _ e nb, fun c hc => by
          obtain ⟨k, l', e⟩ := F9.ce c hc
          exact ⟨k, l', by rw [upd_ne (ne_of e km9 (by intro w; cases w))]; exact e⟩⟩
      have hc10 : cellsAt (upd (upd G8 t6 (.tup [.int (z.2.1 - 1), .int (z.2.1 * x + z.2.2 - (z.2.1 - 1) * x + r - 1)])) m (.lst ([.ref t1, .ref t2', .ref t3, .ref z.1, .ref t5] ++ [.ref t6]))) p c1 := by
        obtain ⟨k, l', e⟩ := hc9
        exact ⟨k, l', by rw [upd_ne (ne_of e km9 (by intro w; cases w))]; exact e⟩
      have k1' := kp9 k1
      have k2' := kp9 k2
      have k3' := kp9 k3
      have k4' := kp9 k4
      have k5' := kp9 k5
      clear kp9 k1 k2 k3 k4 k5 hL7 ho9 km9 km8 hc9 hL2
      generalize (upd (upd G8 t6 (.tup [.int (z.2.1 - 1), .int (z.2.1 * x + z.2.2 - (z.2.1 - 1) * x + r - 1)])) m (.lst ([.ref t1, .ref t2', .ref t3, .ref z.1, .ref t5] ++ [.ref t6]))) = G10 at P9 k69 ho10 km10 hL10 FP hc10 k1' k2' k3' k4' k5'
      refine ⟨_, rfl, .inl ⟨rfl, _, .inl (.inl ho10)⟩, _, rfl, _, rfl, p, m, [.ref t1, .ref t2', .ref t3, .ref z.1, .ref t5, .ref t6], _, rfl, .inl (.inl km10), by show 0 < 6; decide, by show 6 ≤ 1000; decide, P9, by omega, fun w G11 hw P11 F11 => ?_⟩
      obtain ⟨tw, rw', rfl, hw1, hw2, hw3⟩ : ∃ (tw : Addr) (rw' : Row), w = .ref tw ∧ G10 tw = some (.tup [.int rw'.1, .int rw'.2]) ∧ -(10 ^ 9 + ((i + 1 : Nat) : Int)) ≤ rw'.1 ∧ rw'.1 ≤ 10 ^ 9 := by
        simp only [List.mem_cons, List.not_mem_nil, or_false] at hw
        rcases hw with e | e | e | e | e | e
        · exact ⟨t1, (a, b), e, k1', by show -(10 ^ 9 + ((i + 1 : Nat) : Int)) ≤ a; omega, a2⟩
        · exact ⟨t2', (a, y - a * x), e, k2', by show -(10 ^ 9 + ((i + 1 : Nat) : Int)) ≤ a; omega, a2⟩
        · exact ⟨t3, (a, y - a * x), e, k3', by show -(10 ^ 9 + ((i + 1 : Nat) : Int)) ≤ a; omega, a2⟩
        · exact ⟨z.1, z.2, e, k4', by omega, sz2⟩
        · exact ⟨t5, (z.2.1, z.2.2 + 1), e, k5', by show -(10 ^ 9 + ((i + 1 : Nat) : Int)) ≤ z.2.1; omega, sz2⟩
        · exact ⟨t6, (z.2.1 - 1, z.2.1 * x + z.2.2 - (z.2.1 - 1) * x + r - 1), e, k69, by show -(10 ^ 9 + ((i + 1 : Nat) : Int)) ≤ z.2.1 - 1; omega, by show z.2.1 - 1 ≤ 10 ^ 9; omega⟩
      have ho11 := F11.lst P9 ho10
      have hL11 := hL10.frm F11 P9
      have hw11 := F11 _ _ hw1 (nkp P9 hw1)
      have hc11 := F11.ce c1 hc10
      refine ⟨o, _, _, rfl, rfl, ho11, small1000' (by rw [refs_len]; omega), ?_⟩
      refine ⟨_, _, _, _, _, L ++ [(tw, rw')], rfl, by rw [upd_same, refs_snoc], fun q hq => ?_, by rw [List.length_append, lL]; rfl, fun u hu => ?_, (P11.put hc11 ho11 nc1o).mono (by omega), ⟨fun b u e nb => ?_, fun c hc => ?_⟩⟩
      · rcases List.mem_append.mp hq with k | k
        · rw [upd_ne (ne_of (hL11 q k) ho11 (by intro w; cases w))]; exact hL11 q k
        · rw [List.mem_singleton.mp k, upd_ne (ne_of hw11 ho11 (by intro w; cases w))]; exact hw11
      · rw [rws_snoc] at hu
        rcases List.mem_append.mp hu with k | k
        · have := sL u k
          exact ⟨by omega, this.2⟩
        · rw [List.mem_singleton.mp k]
          exact ⟨hw2, hw3⟩
      · rw [upd_ne (ne_of_none e no)]
        exact F11 _ _ (FP _ _ e nb) nb
      · obtain ⟨k, l', e⟩ := F11.ce c (FP.ce c hc)
        exact ⟨k, l', by rw [upd_ne (ne_of e ho11 (by intro z; cases z))]; exact e⟩
    · rintro σ H' ⟨s4, s5, s6, s7, s8, L, rfl, ho', hL, lL, sL, PP, FF⟩
      refine ⟨_, rfl, q o L H' no ho' hL (by omega) (by omega) (fun r hr => ?_) (PP.mono (by omega)) FF⟩
      have := sL r hr
      exact ⟨by omega, by omega⟩
end
end OR

namespace OR
open PySem PySem.Spec PyProof.Rows L2
def BLe (sg x : Int) (r t : Row) : Prop := sg * vl r x < sg * vl t x ∨ (sg * vl r x = sg * vl t x ∧ sg * r.1 ≤ sg * t.1)
theorem ble_refl (sg x : Int) (r : Row) : BLe sg x r r := .inr ⟨rfl, Int.le_refl _⟩
theorem ble_trans {sg x : Int} {r s t : Row} (h : BLe sg x r s) (k : BLe sg x s t) : BLe sg x r t := by
  unfold BLe at *
  omega
def spAre (K : PySem.W.Frag) (C : Addr) : Sp := fun vs H Q _ => ∃ (t a : Addr) (f l sg : Int) (N : List NRow) (L : List ARow), vs = [.ref t, .ref a, .int f, .int l, .int sg] ∧ H t = some (.lst (rf N)) ∧ AtN C H N ∧ SqL K H a (refs L) ∧ AtR H L ∧ 0 < L.length ∧ L.length ≤ 500 ∧ (∀ r ∈ rws L, SlB r) ∧ (sg = 1 ∨ sg = -1) ∧
  GoodTo sg (rws L) l f (r4s N) (l + 1) ∧ ∀ H', Same H H' → Q (.bl true) H'
theorem sq_same {K : PySem.W.Frag} {H H' : Hp} {a : Addr} {xs : List V} (s : Same H H') (h : SqL K H a xs) : SqL K H' a xs := s.seq h
section
variable {P : Program} {w : World} {K : PySem.W.Frag} {mg : Str → Option Value} {base : Heap}
theorem scBe : FnScope ["_law_lines_here", "_law_x", "_law_sign", "_law_best_here", "_law_line_here", "_law_mine", "_law_its"] ["_law_lines_here", "_law_x", "_law_sign"] (defScope sBest) := ⟨rfl, rfl, rfl, by decide +kernel, rfl, by decide +kernel, by decide +kernel⟩
theorem ok_best {f : Addr} {fd : FuncData} (F : Fun K "_law_best" "_law_best" sBest f fd) (WO : Cl P w K mg base 1 "_law_worth" ["_law_line_here", "_law_x"] spWorth) : FnOk P w K mg base CX0 2 f fd ["_law_lines_here", "_law_x", "_law_sign"] (spBest K) := by
  refine F.ok scBe (fun vs H Q E h => ?_) (fun cdv A outer s H vs Q E hr h => ?_)
  · obtain ⟨a, x, sg, L, rfl, _⟩ := h
    rfl
  · obtain ⟨a, x, sg, L, rfl, hS, hL, l0, sb, hsg, q⟩ := h
    have nd := scBe.nd
    refine ⟨_, pss_cons (ps_set (i := 3) nd rfl (.inl rfl) (pe_ix ix_list (pv 0) pe_int (fun _ _ => rfl)))
      (pss_cons (ps_for PassesOwn.never rfl (pi_list (pv 0)) (pg_name (i := 4) nd rfl (.inl rfl))
        (pss_cons (ps_par (i := 5) (j := 6) rfl nd rfl rfl (by decide) rfl rfl (pa_cons (pe_op op_mul (pv 2) (pe_cl WO hr (by decide) (by rfl) (pa_cons (pv 4) (pa_cons (pv 1) pa_nil)))) (pa_cons (pe_op op_mul (pv 2) (pe_cl WO hr (by decide) (by rfl) (pa_cons (pv 3) (pa_cons (pv 1) pa_nil)))) pa_nil)) rfl)
        (pss_one (ps_if (PW.pt (pw_or (pt_cmpR op_lt (pv 5) (pv 6) (nomark _)) (pw_or1 (PW.pt (pw_and (pt_cmpR op_eq (pv 5) (pv 6) (nomark _)) (pw_and1 (pt_cmpR op_lt (pe_op op_mul (pv 2) (pe_ix ix_tup (pv 4) pe_int (fun _ _ => rfl))) (pe_op op_mul (pv 2) (pe_ix ix_tup (pv 3) pe_int (fun _ _ => rfl))) (nomark _))))))))
          (pss_one (ps_set (i := 3) nd rfl (.inl rfl) (pv 4))) pss_nil))))
      (pss_one (ps_ret (pv 3)))), ?_⟩
    have ms : ∀ y, CMul sg y := fun y => by rcases hsg with h | h <;> subst h <;> exact .inl ⟨by decide, by decide⟩
    obtain ⟨z0, hz0⟩ : ∃ z0, L[0]? = some z0 := ⟨L[0], List.getElem?_eq_getElem l0⟩
    have g0 : atI (refs L) 0 = some (.ref z0.1) := atI_nat (j := 0) (by unfold refs; rw [List.getElem?_map, hz0]; rfl)
    refine ⟨_, rfl, a, _, 0, _, rfl, rfl, hS, g0, ?_⟩
    refine ⟨_, rfl, a, rfl, ⟨_, hS⟩, for_list (K := K) (a := a) (xs := refs L) (fun i σ H' => ∃ s4 s5 s6, ∃ z : ARow, σ = [some (.ref a), some (.int x), some (.int sg), some (.ref z.1), s4, s5, s6] ∧ z ∈ L ∧ (∀ t ∈ (rws L).take i, BLe sg x z.2 t) ∧ H' = H)
      ⟨none, none, none, z0, rfl, List.mem_of_getElem? hz0, (fun t ht => by simp at ht), rfl⟩ (fun i σ H' _ ⟨_, _, _, _, _, _, _, e⟩ => by rw [e]; exact hS) ?_ ?_⟩
    · rintro i y σ H' hy ⟨s4, s5, s6, z, rfl, hz, hB, rfl⟩
      obtain ⟨u, hu, huL, rfl⟩ := refs_get hy
      have e1 : (rws L).take (i + 1) = (rws L).take i ++ [u.2] := by rw [List.take_add_one, rws_get hu]; rfl
      have eu := hL u huL
      have ez := hL z hz
      obtain ⟨k1, k2⟩ := sb u.2 (mem_rws.mpr ⟨u.1, huL⟩)
      obtain ⟨k3, k4⟩ := sb z.2 (mem_rws.mpr ⟨z.1, hz⟩)
      refine ⟨_, rfl, _, rfl, _, rfl, u.1, u.2.1, u.2.2, x, rfl, eu, .inl ⟨by omega, by omega⟩, _, _, rfl, rfl, ms _, _, rfl, _, rfl, _, rfl, z.1, z.2.1, z.2.2, x, rfl, ez, .inl ⟨by omega, by omega⟩, _, _, rfl, rfl, ms _, _, _, rfl, ?_⟩
      have take : BLe sg x u.2 z.2 → ∃ s4 s5 s6, ∃ z' : ARow, [some (V.ref a), some (.int x), some (.int sg), some (.ref u.1), some (.ref u.1), some (.int (sg * (u.2.1 * x + u.2.2))), some (.int (sg * (z.2.1 * x + z.2.2)))] = [some (.ref a), some (.int x), some (.int sg), some (.ref z'.1), s4, s5, s6] ∧ z' ∈ L ∧ (∀ t ∈ (rws L).take (i + 1), BLe sg x z'.2 t) ∧ H' = H' := fun h =>
        ⟨_, _, _, u, rfl, huL, fun t ht => by
          rw [e1] at ht
          rcases List.mem_append.mp ht with k | k
          · exact ble_trans h (hB t k)
          · rw [List.mem_singleton.mp k]; exact ble_refl _ _ _, rfl⟩
      have keep : BLe sg x z.2 u.2 → ∃ s4 s5 s6, ∃ z' : ARow, [some (V.ref a), some (.int x), some (.int sg), some (.ref z.1), some (.ref u.1), some (.int (sg * (u.2.1 * x + u.2.2))), some (.int (sg * (z.2.1 * x + z.2.2)))] = [some (.ref a), some (.int x), some (.int sg), some (.ref z'.1), s4, s5, s6] ∧ z' ∈ L ∧ (∀ t ∈ (rws L).take (i + 1), BLe sg x z'.2 t) ∧ H' = H' := fun h =>
        ⟨_, _, _, z, rfl, hz, fun t ht => by
          rw [e1] at ht
          rcases List.mem_append.mp ht with k | k
          · exact hB t k
          · rw [List.mem_singleton.mp k]; exact h, rfl⟩
      refine ⟨_, rfl, _, rfl, _, _, rfl, rfl, _, rfl, ite2 (fun c => ?_) (fun c => ?_)⟩
      · exact ⟨_, rfl, take (.inl (of_decide_eq_true c))⟩
      · have c1 : ¬ sg * vl u.2 x < sg * vl z.2 x := fun w => c (decide_eq_true w)
        refine ⟨_, rfl, _, rfl, rfl, _, rfl, ite2 (fun c2 => ?_) (fun c2 => ?_)⟩
        · have e2 : sg * vl u.2 x = sg * vl z.2 x := V.int.inj (of_decide_eq_true c2)
          refine ⟨_, rfl, _, rfl, u.1, _, 0, .int u.2.1, rfl, rfl, .inl (.inl eu), at0, _, _, rfl, rfl, ms _, _, rfl, _, rfl, z.1, _, 0, .int z.2.1, rfl, rfl, .inl (.inl ez), at0, _, _, rfl, rfl, ms _, _, _, rfl, rfl, _, rfl, ite2 (fun c3 => ?_) (fun c3 => ?_)⟩
          · exact ⟨_, rfl, take (.inr ⟨e2, Int.le_of_lt (of_decide_eq_true c3)⟩)⟩
          · have c4 : ¬ sg * u.2.1 < sg * z.2.1 := fun w => c3 (decide_eq_true w)
            exact keep (.inr ⟨e2.symm, by omega⟩)
        · have c3 : ¬ sg * vl u.2 x = sg * vl z.2 x := fun w => c2 (decide_eq_true (congrArg V.int w))
          exact iteF (keep (.inl (by omega)))
    · rintro σ H' ⟨s4, s5, s6, z, rfl, hz, hB, rfl⟩
      rw [refs_len, List.take_of_length_le (by rw [rws_len]; exact Nat.le_refl _)] at hB
      exact ⟨_, rfl, q z hz ⟨mem_rws.mpr ⟨z.1, hz⟩, hB⟩⟩
theorem scPa : FnScope ["_law_lines_here", "_law_best_here", "_law_x", "_law_sign", "_law_line_here"] ["_law_lines_here", "_law_best_here", "_law_x", "_law_sign"] (defScope sPassed) := ⟨rfl, rfl, rfl, by decide +kernel, rfl, by decide +kernel, by decide +kernel⟩
theorem ok_passed {f : Addr} {fd : FuncData} (F : Fun K "_law_is_passed" "_law_is_passed" sPassed f fd) (WO : Cl P w K mg base 1 "_law_worth" ["_law_line_here", "_law_x"] spWorth) : FnOk P w K mg base CX0 2 f fd ["_law_lines_here", "_law_best_here", "_law_x", "_law_sign"] (spPassed K) := by
  refine F.ok scPa (fun vs H Q E h => ?_) (fun cdv A outer s H vs Q E hr h => ?_)
  · obtain ⟨a, b, x, sg, L, r, rfl, _⟩ := h
    rfl
  · obtain ⟨a, b, x, sg, L, r, rfl, hS, hL, l1, sb, sr, hb, hsg, q⟩ := h
    have nd := scPa.nd
    have hu64 : (A.deeper (envOfC "_law_is_passed" (defScope sPassed) s.heap.objs.size f cdv)).units + 64 < cLine := hr.units
    refine ⟨_, pss_one (ps_ret (pe_cmpR (op_neD hu64) (pe_lc (own := [("_law_line_here", 4)]) (g := gName 4) rfl nd (pi_list (pv 0)) (blkOk_by (N := ["_law_lines_here", "_law_best_here", "_law_x", "_law_sign", "_law_line_here"]) (sc := defScope sPassed) (by decide +kernel))
        (fun _ _ _ _ _ => pg_name (i := 4) nd rfl (.inl rfl)) (fun _ _ _ _ _ => pts_one (pt_cmpR op_lt (pe_op op_mul (pv 3) (pe_cl WO hr (by decide) (by rfl) (pa_cons (pv 4) (pa_cons (pv 2) pa_nil)))) (pe_op op_mul (pv 3) (pe_cl WO hr (by decide) (by rfl) (pa_cons (pv 1) (pa_cons (pv 2) pa_nil)))) (nomark _)))
        (fun _ _ _ _ _ => pv 4)) (pe_lst pa_nil) (nomark _))), ?_⟩
    have ms : ∀ y, CMul sg y := fun y => by rcases hsg with h | h <;> subst h <;> exact .inl ⟨by decide, by decide⟩
    obtain ⟨k3, k4⟩ := sr
    refine ⟨_, rfl, a, rfl, ⟨_, hS⟩, fun D hD => lc_list (K := K) (a := a) (xs := refs L) (fun i H2 => ∃ N : List ARow, H2 D = some (.lst (refs N)) ∧ AtR H2 N ∧ (N = [] ↔ ¬ ∃ t ∈ (rws L).take i, sg * vl t x < sg * vl r x) ∧ Same H H2 ∧ N.length ≤ i)
        ⟨[], upd_same, (fun _ z => nomatch z), by simp, same_lay hD, Nat.le_refl _⟩ (fun i H2 _ ⟨_, _, _, _, s, _⟩ => s.seq hS) ?_ ?_⟩
    · rintro i y H2 hy ⟨N, hD2, hN, eN, s2, lN⟩
      obtain ⟨u, hu, huL, rfl⟩ := refs_get hy
      have hil : i < L.length := (List.getElem?_eq_some_iff.mp hu).1
      have e1 : (rws L).take (i + 1) = (rws L).take i ++ [u.2] := by rw [List.take_add_one, rws_get hu]; rfl
      have eu := s2 _ _ (hL u huL)
      have eb := s2 _ _ hb
      obtain ⟨k1, k2⟩ := sb u.2 (mem_rws.mpr ⟨u.1, huL⟩)
      refine ⟨rfl, ?_⟩
      refine ⟨_, rfl, _, rfl, _, rfl, u.1, u.2.1, u.2.2, x, rfl, eu, .inl ⟨by omega, by omega⟩, _, _, rfl, rfl, ms _, _, rfl, _, rfl, _, rfl, b, r.1, r.2, x, rfl, eb, .inl ⟨by omega, by omega⟩, _, _, rfl, rfl, ms _, _, _, rfl, rfl, _, rfl, ite2 (fun c => ?_) (fun c => ?_)⟩
      · have c1 : sg * vl u.2 x < sg * vl r x := of_decide_eq_true c
        refine ⟨_, rfl, refs N, hD2, small1000' (by rw [refs_len]; omega), N ++ [u], by rw [upd_same, refs_snoc], fun q hq => ?_, ?_, same_upd s2 hD, by rw [List.length_append]; exact Nat.succ_le_succ lN⟩
        · rcases List.mem_append.mp hq with k | k
          · rw [upd_ne (ne_of (hN q k) hD2 (by intro w; cases w))]; exact hN q k
          · rw [List.mem_singleton.mp k, upd_ne (ne_of eu hD2 (by intro w; cases w))]; exact eu
        · constructor
          · intro e; exact absurd e (by simp)
          · intro e
            exact absurd ⟨u.2, by rw [e1]; exact List.mem_append_right _ (List.mem_singleton.mpr rfl), c1⟩ e
      · have c1 : ¬ sg * vl u.2 x < sg * vl r x := fun w => c (decide_eq_true w)
        refine ⟨N, hD2, hN, ?_, s2, Nat.le_succ_of_le lN⟩
        rw [eN, e1]
        constructor
        · rintro h ⟨t, ht, l⟩
          rcases List.mem_append.mp ht with k | k
          · exact h ⟨t, k, l⟩
          · rw [List.mem_singleton.mp k] at l
            exact c1 l
        · rintro h ⟨t, ht, l⟩
          exact h ⟨t, List.mem_append_left _ ht, l⟩
    · rintro H2 ⟨N, hD2, hN, eN, s2, lN⟩
      rw [refs_len, List.take_of_length_le (by rw [rws_len]; exact Nat.le_refl _)] at eN
      refine ⟨Nat.zero_le _, fun e he => ?_⟩
      have se := same_lay (o := .lst []) he
      refine ⟨.list ((rws N).map rowD), .list [], .lst (.inl (.inl (se _ _ hD2))) (dp_rows fun q hq => se _ _ (hN q hq)), .lst (.inl (.inl upd_same)) .nil, shp_lst _, rfl, ?_⟩
      have ev : (!PyData.eqv (.list ((rws N).map rowD)) (.list [])) = decide (∃ t ∈ rws L, sg * vl t x < sg * vl r x) := by
        cases N with
        | nil =>
          have h := eN.mp rfl
          rw [decide_eq_false h]
          rfl
        | cons u U =>
          have h : ∃ t ∈ rws L, sg * vl t x < sg * vl r x := Classical.byContradiction fun z => by
            have := eN.mpr z
            cases this
          rw [decide_eq_true h]
          rfl
      rw [ev]
      exact q _ (s2.trans se)
end
end OR

namespace OR
open PySem PySem.Spec PyProof.Rows L2
theorem boot_tupT : bootBuiltins ("tuple" : Str) = some (.type "tuple") := by decide +kernel
theorem a30 {a b c : V} : atI [a, b, c] 0 = some a := atI_nat (j := 0) rfl
theorem a31 {a b c : V} : atI [a, b, c] 1 = some b := atI_nat (j := 1) rfl
theorem a32 {a b c : V} : atI [a, b, c] 2 = some c := atI_nat (j := 2) rfl
theorem shp_row (r : Row) : SeqAt.shaped (rowD r) = true := by with_unfolding_all rfl
section
variable {P : Program} {w : World} {K : PySem.W.Frag} {mg : Str → Option Value} {base : Heap}
theorem scAr : FnScope ["_law_told", "_law_lines_here", "_law_first", "_law_last", "_law_sign", "_law_begin", "_law_piece", "_law_line_here"] ["_law_told", "_law_lines_here", "_law_first", "_law_last", "_law_sign"] (defScope sAre) := ⟨rfl, rfl, rfl, by decide +kernel, rfl, by decide +kernel, by decide +kernel⟩
theorem ok_are {f C : Addr} {fd : FuncData} (F : Fun K "_law_are_pieces" "_law_are_pieces" sAre f fd) (T : LTxt K mg C) (zT : mg "tuple" = none) (BE : Cl P w K mg base 2 "_law_best" ["_law_lines_here", "_law_x", "_law_sign"] (spBest K)) (PA : Cl P w K mg base 2 "_law_is_passed" ["_law_lines_here", "_law_best_here", "_law_x", "_law_sign"] (spPassed K)) : FnOk P w K mg base CX0 3 f fd ["_law_told", "_law_lines_here", "_law_first", "_law_last", "_law_sign"] (spAre K C) := by
  refine F.ok scAr (fun vs H Q E h => ?_) (fun cdv A outer s H vs Q E hr h => ?_)
  · obtain ⟨t, a, fs, l, sg, N, L, rfl, _⟩ := h
    rfl
  · obtain ⟨t, a, fs, l, sg, N, L, rfl, ht, hN, hS, hL, l0, l1, sb, hsg, hG, q⟩ := h
    have nd := scAr.nd
    have hu64 : (A.deeper (envOfC "_law_are_pieces" (defScope sAre) s.heap.objs.size f cdv)).units + 64 < cLine := hr.units
    refine ⟨_, pss_cons (ps_set (i := 5) nd rfl (.inl rfl) (pv 2))
      (pss_cons (ps_for PassesOwn.never rfl (pi_list (pv 0)) (pg_name (i := 6) nd rfl (.inl rfl))
        (pss_cons (ps_if (PW.pt (pw_or (pt_not (pt_val (pe_callB call_isi (by rfl) T.zIsi boot_isi (pa_cons (pv 6) (pa_cons (pe_bltn (v := .ty "tuple") (by rfl) zT boot_tupT rfl) pa_nil)))))
            (pw_or (pt_cmpR op_ne (pe_ix ix_tup (pv 6) pe_int (fun _ _ => rfl)) (pv 5) (nomark _)) (pw_or1 (pt_not (pt_chain op_le op_le (pe_ix ix_tup (pv 6) pe_int (fun _ _ => rfl)) (pe_ix ix_tup (pv 6) pe_int (fun _ _ => rfl)) (pv 3))))))) (pss_one (ps_ret pe_bl)) pss_nil)
        (pss_cons (ps_set (i := 7) nd rfl (.inl rfl) (pe_tup (pa_cons (pe_fld (pe_ix ix_tup (pv 6) pe_int (fun _ _ => rfl)) rfl) (pa_cons (pe_fld (pe_ix ix_tup (pv 6) pe_int (fun _ _ => rfl)) rfl) pa_nil))))
        (pss_cons (ps_if (PW.pt (pw_or (pt_cmpR (op_neD hu64) (pv 7) (pe_cl BE hr (by decide) (by rfl) (pa_cons (pv 1) (pa_cons (pv 5) (pa_cons (pv 4) pa_nil)))) (nomark _))
            (pw_or1 (pt_val (pe_cl PA hr (by decide) (by rfl) (pa_cons (pv 1) (pa_cons (pv 7) (pa_cons (pe_ix ix_tup (pv 6) pe_int (fun _ _ => rfl)) (pa_cons (pv 4) pa_nil))))))))) (pss_one (ps_ret pe_bl)) pss_nil)
        (pss_cons (ps_if (PW.pt (pw_and (pt_cmpR op_lt (pe_ix ix_tup (pv 6) pe_int (fun _ _ => rfl)) (pv 3) (nomark _))
            (pw_and1 (pt_not (pt_val (pe_cl PA hr (by decide) (by rfl) (pa_cons (pv 1) (pa_cons (pv 7) (pa_cons (pe_op op_add (pe_ix ix_tup (pv 6) pe_int (fun _ _ => rfl)) pe_int) (pa_cons (pv 4) pa_nil)))))))))) (pss_one (ps_ret pe_bl)) pss_nil)
        (pss_one (ps_set (i := 5) nd rfl (.inl rfl) (pe_op op_add (pe_ix ix_tup (pv 6) pe_int (fun _ _ => rfl)) pe_int))))))))
      (pss_one (ps_ret (pe_cmpR op_eq (pv 5) (pe_op op_add (pv 3) pe_int) (nomark _))))), ?_⟩
    refine ⟨_, rfl, ?_⟩
    refine ⟨_, rfl, t, rfl, ⟨_, .inl (.inl ht)⟩, for_list (K := K) (a := t) (xs := rf N) (fun i σ H' => ∃ s6 s7, ∃ b : Int, σ = [some (.ref t), some (.ref a), some (.int fs), some (.int l), some (.int sg), some (.int b), s6, s7] ∧ GoodTo sg (rws L) l b ((r4s N).drop i) (l + 1) ∧ Same H H')
      ⟨none, none, fs, rfl, hG, Same.refl _⟩ (fun i σ H' _ ⟨_, _, _, _, _, s⟩ => .inl (.inl (s _ _ ht))) ?_ ?_⟩
    · rintro i y σ H' hy ⟨s6, s7, b, rfl, hg, SS⟩
      obtain ⟨u, hu, huN, rfl⟩ := rf_get hy
      have ep : (r4s N)[i]? = some u.2.2 := by
        unfold r4s
        rw [List.getElem?_map, dt_get hu]
        rfl
      have ed : (r4s N).drop i = u.2.2 :: (r4s N).drop (i + 1) := by
        have hlt : i < (r4s N).length := (List.getElem?_eq_some_iff.mp ep).1
        rw [List.drop_eq_getElem_cons hlt]
        have := List.getElem?_eq_getElem hlt
        rw [ep] at this
        rw [Option.some.inj this]
      rw [ed] at hg
      obtain ⟨hb, k, hg2⟩ := hg
      obtain ⟨g1, d, g2⟩ := hN u huN
      have h1 := SS _ _ g1
      have h2 := SS _ _ g2
      have hT : SqT K H' u.1 [.int u.2.2.1, .int u.2.2.2.1, .ref u.2.1] := .inl (.inl h1)
      refine ⟨_, rfl, .ref u.1, .ty "tuple", _, _, true, rfl, .ty "tuple", .base (.tup h1), kit_ty (by decide +kernel), true, rfl, iteF ?_⟩
      refine ⟨_, rfl, u.1, _, 0, _, rfl, rfl, hT, a30, _, rfl, rfl, _, rfl, iteNS (congrArg V.int hb) ?_⟩
      refine ⟨_, rfl, u.1, _, 0, _, rfl, rfl, hT, a30, _, rfl, u.1, _, 1, _, rfl, rfl, hT, a31, _, _, rfl, rfl, _, rfl, ?_⟩
      rw [decide_eq_true k.le]
      refine iteT ?_
      refine ⟨_, rfl, _, _, rfl, rfl, true, congrArg V.bl (decide_eq_true k.el), iteF ?_⟩
      -- the line
      refine ⟨_, rfl, u.1, _, 2, _, rfl, rfl, hT, a32, u.2.1, C, d, _, _, rfl, h2, T.cl, T.nS, lFl_slope _ _, _, rfl, u.1, _, 2, _, rfl, rfl, hT, a32, u.2.1, C, d, _, _, rfl, h2, T.cl, T.nH, lFl_height _ _, by show 2 ≤ sizeLine; decide, fun z hz => ?_⟩
      have sz := same_lay (o := .tup [.int u.2.2.2.2.1, .int u.2.2.2.2.2]) hz
      have hzz : (upd H' z (.tup [.int u.2.2.2.2.1, .int u.2.2.2.2.2])) z = some (.tup [.int u.2.2.2.2.1, .int u.2.2.2.2.2]) := upd_same
      generalize (upd H' z (.tup [.int u.2.2.2.2.1, .int u.2.2.2.2.2])) = G1 at sz hzz
      have S1 := SS.trans sz
      have sr := sb _ k.mem
      have bu : BestAt sg (rws L) b u.2.2.2.2 := by
        rw [← hb]
        exact ⟨k.mem, k.fst⟩
      refine ⟨_, rfl, _, rfl, _, rfl, _, rfl, a, b, sg, L, rfl, S1.seq hS, hL.same S1, l0, sb, hsg, fun v hv bv => ?_⟩
      have ev : u.2.2.2.2 = v.2 := best_one hsg bu bv
      refine ⟨rowD u.2.2.2.2, rowD v.2, dp_row hzz, dp_row ((hL.same S1) v hv), shp_row _, shp_row _, _, rfl, ?_⟩
      rw [eqv_row, decide_eq_true ev]
      refine iteF ?_
      refine ⟨_, rfl, _, rfl, _, rfl, u.1, _, 1, _, rfl, rfl, .inl (.inl (sz _ _ h1)), a31, _, rfl, a, z, u.2.2.2.1, sg, L, u.2.2.2.2, rfl, S1.seq hS, hL.same S1, l1, sb, sr, hzz, hsg, fun G2 e2 => ⟨_, rfl, ?_⟩⟩
      rw [decide_eq_false (fun ⟨t, ht, lt⟩ => by have := k.low u.2.2.2.1 k.le (Int.le_refl _) t ht; omega)]
      refine iteF ?_
      have S2 := S1.trans e2
      have h12 := S2 _ _ g1
      have hz2 := e2 _ _ hzz
      have go : ∀ G', Same H G' → ∃ s6 s7, ∃ b : Int, [some (V.ref t), some (.ref a), some (.int fs), some (.int l), some (.int sg), some (.int (u.2.2.2.1 + 1)), some (.ref u.1), some (.ref z)] = [some (.ref t), some (.ref a), some (.int fs), some (.int l), some (.int sg), some (.int b), s6, s7] ∧ GoodTo sg (rws L) l b ((r4s N).drop (i + 1)) (l + 1) ∧ Same H G' := fun G' s => ⟨_, _, _, rfl, hg2, s⟩
      refine ⟨_, rfl, u.1, _, 1, _, rfl, rfl, .inl (.inl h12), a31, _, rfl, _, _, rfl, rfl, _, rfl, ite2 (fun c => ?_) (fun c => ?_)⟩
      · obtain ⟨tt, htt, ltt⟩ := k.nxt (of_decide_eq_true c)
        refine ⟨_, rfl, _, rfl, _, rfl, u.1, _, 1, _, rfl, rfl, .inl (.inl h12), a31, _, _, rfl, rfl, _, rfl, a, z, u.2.2.2.1 + 1, sg, L, u.2.2.2.2, rfl, S2.seq hS, hL.same S2, l1, sb, sr, hz2, hsg, fun G3 e3 => ⟨_, rfl, ?_⟩⟩
        rw [decide_eq_true ⟨tt, htt, ltt⟩]
        refine iteF ?_
        have S3 := S2.trans e3
        exact ⟨_, rfl, u.1, _, 1, _, rfl, rfl, .inl (.inl (S3 _ _ g1)), a31, _, _, rfl, rfl, go G3 S3⟩
      · exact iteF ⟨_, rfl, u.1, _, 1, _, rfl, rfl, .inl (.inl h12), a31, _, _, rfl, rfl, go G2 S2⟩
    · rintro σ H' ⟨s6, s7, b, rfl, hg, SS⟩
      have hl4 : (r4s N).length = N.length := by unfold r4s dt; rw [List.length_map, List.length_map]
      rw [rf_len, List.drop_eq_nil_of_le (by rw [hl4]; exact Nat.le_refl _)] at hg
      have hb : b = l + 1 := hg
      refine ⟨_, rfl, _, rfl, _, _, rfl, rfl, rfl, ?_⟩
      rw [decide_eq_true (congrArg V.int hb)]
      exact q H' SS
end
end OR

namespace OR
open PySem PySem.Spec PyProof.Rows L2
/-- an item of a list or a tuple -/
def rIxA (K : PySem.W.Frag) : R2 := fun x y H Q => ∃ p xs i v, x = .ref p ∧ y = .int i ∧ (SqL K H p xs ∨ SqT K H p xs) ∧ atI xs i = some v ∧ Q v H
theorem ix_any {X : Cx} (K : PySem.W.Frag) (hK : X.K = K) : IxR X (rIxA K) := by
  subst hK
  intro value slice pins s σ H x y v u Q I rx ry h hs
  obtain ⟨p, xs, i, z, hx, hy, hq | hq, he, q⟩ := h
  · exact ix_list value slice pins s σ H x y v u Q I rx ry ⟨p, xs, i, z, hx, hy, hq, he, q⟩ hs
  · exact ix_tup value slice pins s σ H x y v u Q I rx ry ⟨p, xs, i, z, hx, hy, hq, he, q⟩ hs
theorem Frm.obj {p : Addr} {H H' : Hp} {n : Nat} {b : Addr} {o : HO} (F : Frm p H H') (P : Pen H p n) (h : H b = some o) (hk : ∀ kvs, o ≠ .dK kvs) : H' b = some o := by
  obtain ⟨c, ns, k, l, hp, _⟩ := P
  refine F _ _ h fun e => ?_
  rw [e, hp] at h
  exact hk _ (Option.some.inj h).symm
theorem AtL.frm {C : Addr} {H H' : Hp} {L : List ARow} {p : Addr} {n : Nat} (h : AtL C H L) (F : Frm p H H') (P : Pen H p n) : AtL C H' L := fun q hq => by
  obtain ⟨d, g⟩ := h q hq
  exact ⟨d, F.obj P g (fun _ z => nomatch z)⟩
theorem AtN.frm {C : Addr} {H H' : Hp} {L : List NRow} {p : Addr} {n : Nat} (h : AtN C H L) (F : Frm p H H') (P : Pen H p n) : AtN C H' L := fun q hq => by
  obtain ⟨g1, d, g2⟩ := h q hq
  exact ⟨F.obj P g1 (fun _ z => nomatch z), d, F.obj P g2 (fun _ z => nomatch z)⟩
theorem GoodTo.mem {sg : Int} {T : List Row} {last : Int} : ∀ {L : List R4} {b c : Int}, GoodTo sg T last b L c → ∀ q ∈ L, q.2.2 ∈ T
  | [], _, _, _, q, hq => nomatch hq
  | r :: L, b, c, ⟨h1, k, h3⟩, q, hq => by
    rcases List.mem_cons.mp hq with e | e
    · subst e; exact k.mem
    · exact GoodTo.mem h3 q e
theorem mines_snoc (x : Int) (L : List R4) (q : R4) : minesAt x (L ++ [q]) = minesAt x L ++ (if pickAt x q = true then [vl q.2.2 x] else []) := by
  unfold minesAt
  rw [List.filter_append, List.map_append]
  by_cases h : pickAt x q = true
  · rw [if_pos h, List.filter_cons_of_pos h]; rfl
  · rw [if_neg h, List.filter_cons_of_neg h]; rfl
theorem mines_len (x : Int) (L : List R4) : (minesAt x L).length ≤ L.length := by
  unfold minesAt
  rw [List.length_map]
  exact List.length_filter_le _ _
theorem r4_get {N : List NRow} {i : Nat} {u : NRow} (h : N[i]? = some u) : (r4s N)[i]? = some u.2.2 := by
  unfold r4s
  rw [List.getElem?_map, dt_get h]
  rfl
theorem r4_len (N : List NRow) : (r4s N).length = N.length := by unfold r4s dt; rw [List.length_map, List.length_map]
theorem ev1 (a b : Int) : PyData.eqv (.list [.int a]) (.list [.int b]) = decide (a = b) := by
  by_cases h : a = b <;> simp [PyData.eqv, PyData.eqvAll, h]
/-- an instance that is called -/
structure Co (P : Program) (w : World) (K : PySem.W.Frag) (mg : Str → Option Value) (base : Heap) (k : Nat) (C : Addr) (sp : Sp) : Prop where
  ex : ∃ g, StX.CallO K C g ∧ FnR P w K mg base CX0 k g sp
def tCo (C : Addr) (sp : Sp) (tf : TE) (t : TA) : TE := fun σ H Q => tf σ H fun y H1 => ∃ a, y = V.ref a ∧ t σ H1 fun vs H2 => (∃ dx fs, H2 a = some (.ins C dx fs)) ∧ sp (V.ref a :: vs) H2 Q E0
theorem pe_co {X : Cx} {k j : Nat} {C : Addr} {sp : Sp} {fe e : Expr} {es : List Expr} {tf : TE} {t : TA} {pos : Pos} (c : Co X.prog X.w X.K X.mg X.base k C sp) (hr : Room j X.A) (hk : k ≤ j) (hf : PE X fe tf) (ha : PA X (e :: es) t)
    (ht : eval (.Call fe (e :: es) [] pos) X.env = (do callWith pos (← eval fe X.env) [] (backTo pos (starEach (e :: es) X.env)) (backToKw pos (keywordEach [] X.env))) := by rfl)
    (he : starEach (e :: es) X.env = (false, eval e X.env) :: starEach es X.env := by rfl) (hpl : (backTo pos (starEach es X.env)).any (·.1) = false := by rfl) : PE X (.Call fe (e :: es) [] pos) (tCo C sp tf t) := by
  obtain ⟨g, c, F⟩ := c.ex
  refine ⟨fun pins s σ H Q I h => ?_⟩
  refine Call_ (thn (hf.run pins s σ H _ I h) fun u s1 ⟨y, H1, I1, ry, a, ey, q⟩ => ?_) ht
  subst ey
  obtain rfl : u = Value.ref a := ry
  refine StX.callO_with (thn (ha.run pos pins s1 σ H1 _ I1 q) fun us s2 ⟨vs, H2, I2, r, hi, q2⟩ => ?_) he hpl
  have hi' : StX.InsC X H2 a C := .inr hi
  obtain ⟨ox, od, J, hd⟩ := StX.insC_at I2 hi'
  exact ⟨⟨C, ox, od, J, hd⟩, StX.run_callO c F (hr.mono hk) pass0 I2 hi' r q2⟩
def spLaw (K : PySem.W.Frag) : Sp := fun vs H Q _ => ∃ (a : Addr) (ns : List Int), vs = [.ref a] ∧ SqL K H a (ns.map V.int) ∧ ns.length ≤ 63 ∧ ∀ H', Q (.bl true) H'
def nLaw : List Str := ["_law_script", "_law_pen_here", "_law_turn", "_law_x", "_law_lines_here", "_law_first", "_law_last", "_law_given", "_law_low", "_law_high", "_law_place", "_law_mine", "_law_its", "_law_values", "_law_line_here", "_law_piece"]
theorem scLaw : FnScope ["_law_script", "_law_pen_here", "_law_turn", "_law_x", "_law_lines_here", "_law_first", "_law_last", "_law_given", "_law_low", "_law_high", "_law_place", "_law_mine", "_law_its", "_law_values", "_law_line_here", "_law_piece"] ["_law_script"] (defScope sLaw) := ⟨rfl, rfl, rfl, by decide +kernel, rfl, by decide +kernel, by decide +kernel⟩
structure Bl2 (mg : Str → Option Value) : Prop where
  len : mg "len" = none
  min : mg "min" = none
  max : mg "max" = none
  range : mg "range" = none
  int : mg "int" = none
  tup : mg "tuple" = none
theorem boot_minO : bootBuiltins ("min" : Str) = some (.builtin "min") := by decide +kernel
theorem boot_maxO : bootBuiltins ("max" : Str) = some (.builtin "max") := by decide +kernel
section
variable {P : Program} {w : World} {K : PySem.W.Frag} {mg : Str → Option Value} {base : Heap}
theorem ok_law {f C : Addr} {fd : FuncData} (F : Fun K "law" "law" sLaw f fd) (B : Bl2 mg) (M : LMk P w K mg base C) (CO : Co P w K mg base 1 C (spLCall C))
    (N : Cl P w K mg base 1 "_law_pen" ["_law_script"] (spPen K)) (D : Cl P w K mg base 1 "_law_draw" ["_law_pen_here", "_law_many"] spDraw) (PI : Cl P w K mg base 2 "_law_pick" ["_law_pen_here", "_law_items"] (spPick K)) (W : Cl P w K mg base 3 "_law_whole" ["_law_pen_here"] spWhole)
    (WO : Cl P w K mg base 1 "_law_worth" ["_law_line_here", "_law_x"] spWorth) (LS : Cl P w K mg base 5 "_law_lines" ["_law_pen_here", "_law_x"] (spLines K)) (LO : Cl P w K mg base 6 "lowest" ["lines", "first", "last"] (spLow K C)) (HI : Cl P w K mg base 7 "highest" ["lines", "first", "last"] (spHigh K C))
    (AR : Cl P w K mg base 3 "_law_are_pieces" ["_law_told", "_law_lines_here", "_law_first", "_law_last", "_law_sign"] (spAre K C)) : FnOk P w K mg base CX0 8 f fd ["_law_script"] (spLaw K) := by
  have T := M.T
  refine F.ok scLaw (fun vs H Q E h => ?_) (fun cdv A outer s H vs Q E hr h => ?_)
  · obtain ⟨a, ns, rfl, _⟩ := h
    rfl
  · obtain ⟨sc, ns, rfl, hS, hlen, q⟩ := h
    have nd := scLaw.nd
    have hu64 : (A.deeper (envOfC "law" (defScope sLaw) s.heap.objs.size f cdv)).units + 64 < cLine := hr.units
    refine ⟨_, pss_cons (ps_set (i := 1) nd rfl (.inl rfl) (pe_cl N hr (by decide) (by rfl) (pa_cons (pv 0) pa_nil)))
      (pss_cons (ps_for PassesOwn.never rfl (pi_range1 (by rfl) B.range (pa_cons (pe_op op_add pe_int (pe_callB (call_min2 rfl) (by rfl) B.min boot_minO (pa_cons pe_int (pa_cons (pe_callB call_len_seq (by rfl) B.len PySem.boot_len (pa_cons (pv 0) pa_nil)) pa_nil)))) pa_nil)) (pg_name (i := 2) nd rfl (.inl rfl))
        (pss_cons (ps_set (i := 3) nd rfl (.inl rfl) (pe_cl W hr (by decide) (by rfl) (pa_cons (pv 1) pa_nil)))
        (pss_cons (ps_set (i := 4) nd rfl (.inl rfl) (pe_cl LS hr (by decide) (by rfl) (pa_cons (pv 1) (pa_cons (pv 3) pa_nil))))
        (pss_cons (ps_set (i := 5) nd rfl (.inl rfl) (pe_op op_sub (pv 3) (pe_cl PI hr (by decide) (by rfl) (pa_cons (pv 1) (pa_cons (pe_lst (pa_cons pe_int (pa_cons pe_int (pa_cons pe_int (pa_cons pe_int (pa_cons (pe_op op_pow pe_int pe_int) pa_nil)))))) pa_nil)))))
        (pss_cons (ps_set (i := 6) nd rfl (.inl rfl) (pe_op op_add (pv 5) (pe_cl PI hr (by decide) (by rfl) (pa_cons (pv 1) (pa_cons (pe_lst (pa_cons pe_int (pa_cons pe_int (pa_cons pe_int (pa_cons pe_int (pa_cons (pe_op op_mul pe_int (pe_op op_pow pe_int pe_int)) pa_nil)))))) pa_nil)))))
        (pss_cons (ps_setLc (i := 7) (own := [("_law_line_here", 14)]) (g := gName 14) (tt := tYes) rfl nd rfl rfl (sw_true rfl rfl rfl (by decide +kernel)) (pi_list (pv 4)) (blkOk_by (N := ["_law_script", "_law_pen_here", "_law_turn", "_law_x", "_law_lines_here", "_law_first", "_law_last", "_law_given", "_law_low", "_law_high", "_law_place", "_law_mine", "_law_its", "_law_values", "_law_line_here", "_law_piece"]) (sc := defScope sLaw) (by decide +kernel))
            (fun _ _ _ _ _ => pg_name (i := 14) nd rfl (.inl rfl)) (fun _ _ _ _ _ => pts_nil) (fun _ _ _ _ _ => pe_mkL M hr (by decide) (by rfl) (pa_cons (pe_ix (ix_any K rfl) (pv 14) pe_int (fun _ _ => rfl)) (pa_cons (pe_ix (ix_any K rfl) (pv 14) pe_int (fun _ _ => rfl)) pa_nil))))
        (pss_cons (ps_par (i := 8) (j := 9) rfl nd rfl rfl (by decide) rfl rfl (pa_cons (pe_cl LO hr (by decide) (by rfl) (pa_cons (pv 7) (pa_cons (pv 5) (pa_cons (pv 6) pa_nil)))) (pa_cons (pe_cl HI hr (by decide) (by rfl) (pa_cons (pe_callTy call_tuple_of (by rfl) B.tup boot_tupT (pa_cons (pv 7) pa_nil)) (pa_cons (pv 5) (pa_cons (pv 6) pa_nil)))) pa_nil)) rfl)
        (pss_cons (ps_if (PW.pt (pw_or (pt_not (pt_val (pe_cl AR hr (by decide) (by rfl) (pa_cons (pv 8) (pa_cons (pv 4) (pa_cons (pv 5) (pa_cons (pv 6) (pa_cons pe_int pa_nil)))))))) (pw_or1 (pt_not (pt_val (pe_cl AR hr (by decide) (by rfl) (pa_cons (pv 9) (pa_cons (pv 4) (pa_cons (pv 5) (pa_cons (pv 6) (pa_cons (pe_un un_neg pe_int) pa_nil))))))))))) (pss_one (ps_ret pe_bl)) pss_nil)
        (pss_cons (ps_for PassesOwn.never rfl (pi_list (pe_lst (pa_cons (pv 5) (pa_cons (pv 6) (pa_cons (pe_callB (call_min2 rfl) (by rfl) B.min boot_minO (pa_cons (pe_callTy call_int1 (by rfl) B.int boot_int (pa_cons (pv 6) pa_nil)) (pa_cons (pe_callB (call_max2 rfl) (by rfl) B.max boot_maxO (pa_cons (pe_callTy call_int1 (by rfl) B.int boot_int (pa_cons (pv 5) pa_nil)) (pa_cons (pe_callTy call_int1 (by rfl) B.int boot_int (pa_cons (pv 3) pa_nil)) pa_nil))) pa_nil)))
              (pa_cons (pe_op op_add (pv 5) (pe_cl D hr (by decide) (by rfl) (pa_cons (pv 1) (pa_cons (pe_op op_add (pe_op op_sub (pv 6) (pv 5)) pe_int) pa_nil)))) pa_nil)))))) (pg_name (i := 10) nd rfl (.inr rfl))
          (pss_cons (ps_setLc (i := 11) (own := [("_law_piece", 15)]) (g := gName 15) rfl nd rfl rfl (sw_true rfl rfl rfl (by decide +kernel)) (pi_list (pv 8)) (blkOk_by (N := ["_law_script", "_law_pen_here", "_law_turn", "_law_x", "_law_lines_here", "_law_first", "_law_last", "_law_given", "_law_low", "_law_high", "_law_place", "_law_mine", "_law_its", "_law_values", "_law_line_here", "_law_piece"]) (sc := defScope sLaw) (by decide +kernel))
              (fun _ _ _ _ _ => pg_name (i := 15) nd rfl (.inl rfl)) (fun _ _ _ _ _ => pts_one (pt_chain op_le op_le (pe_ix (ix_any K rfl) (pv 15) pe_int (fun _ _ => rfl)) (pv 10) (pe_ix (ix_any K rfl) (pv 15) pe_int (fun _ _ => rfl))))
              (fun _ _ _ _ _ => pe_co CO hr (by decide) (pe_ix (ix_any K rfl) (pv 15) pe_int (fun _ _ => rfl)) (pa_cons (pv 10) pa_nil)))
          (pss_cons (ps_setLc (i := 12) (own := [("_law_piece", 15)]) (g := gName 15) rfl nd rfl rfl (sw_true rfl rfl rfl (by decide +kernel)) (pi_list (pv 9)) (blkOk_by (N := ["_law_script", "_law_pen_here", "_law_turn", "_law_x", "_law_lines_here", "_law_first", "_law_last", "_law_given", "_law_low", "_law_high", "_law_place", "_law_mine", "_law_its", "_law_values", "_law_line_here", "_law_piece"]) (sc := defScope sLaw) (by decide +kernel))
              (fun _ _ _ _ _ => pg_name (i := 15) nd rfl (.inl rfl)) (fun _ _ _ _ _ => pts_one (pt_chain op_le op_le (pe_ix (ix_any K rfl) (pv 15) pe_int (fun _ _ => rfl)) (pv 10) (pe_ix (ix_any K rfl) (pv 15) pe_int (fun _ _ => rfl))))
              (fun _ _ _ _ _ => pe_co CO hr (by decide) (pe_ix (ix_any K rfl) (pv 15) pe_int (fun _ _ => rfl)) (pa_cons (pv 10) pa_nil)))
          (pss_cons (ps_setLc (i := 13) (own := [("_law_line_here", 14)]) (g := gName 14) (tt := tYes) rfl nd rfl rfl (sw_true rfl rfl rfl (by decide +kernel)) (pi_list (pv 4)) (blkOk_by (N := ["_law_script", "_law_pen_here", "_law_turn", "_law_x", "_law_lines_here", "_law_first", "_law_last", "_law_given", "_law_low", "_law_high", "_law_place", "_law_mine", "_law_its", "_law_values", "_law_line_here", "_law_piece"]) (sc := defScope sLaw) (by decide +kernel))
              (fun _ _ _ _ _ => pg_name (i := 14) nd rfl (.inl rfl)) (fun _ _ _ _ _ => pts_nil) (fun _ _ _ _ _ => pe_callTy call_int1 (by rfl) B.int boot_int (pa_cons (pe_cl WO hr (by decide) (by rfl) (pa_cons (pv 14) (pa_cons (pv 10) pa_nil))) pa_nil)))
          (pss_one (ps_if (PW.pt (pw_or (pt_cmpR (op_neD hu64) (pv 11) (pe_lst (pa_cons (pe_callB (cr_min rfl) (by rfl) B.min boot_minO (pa_cons (pv 13) pa_nil)) pa_nil)) (nomark _)) (pw_or1 (pt_cmpR (op_neD hu64) (pv 12) (pe_lst (pa_cons (pe_callB (cr_max rfl) (by rfl) B.max boot_maxO (pa_cons (pv 13) pa_nil)) pa_nil)) (nomark _))))) (pss_one (ps_ret pe_bl)) pss_nil))))))
        (pss_one (ps_if (pt_cmpR (op_neD hu64) (pe_lc (own := [("_law_line_here", 14)]) (g := gName 14) (tt := tYes) rfl nd (pi_list (pv 7)) (blkOk_by (N := ["_law_script", "_law_pen_here", "_law_turn", "_law_x", "_law_lines_here", "_law_first", "_law_last", "_law_given", "_law_low", "_law_high", "_law_place", "_law_mine", "_law_its", "_law_values", "_law_line_here", "_law_piece"]) (sc := defScope sLaw) (by decide +kernel))
            (fun _ _ _ _ _ => pg_name (i := 14) nd rfl (.inl rfl)) (fun _ _ _ _ _ => pts_nil) (fun _ _ _ _ _ => pe_tup (pa_cons (pe_fldK K rfl (pv 14) rfl) (pa_cons (pe_fldK K rfl (pv 14) rfl) pa_nil)))) (pv 4) (nomark _)) (pss_one (ps_ret pe_bl)) pss_nil)))))))))))
      (pss_one (ps_ret pe_bl))), ?_⟩
    have hpow : CPow 10 30 := ⟨by decide, by decide, by decide⟩
    refine ⟨_, rfl, sc, ns, rfl, hS, hlen, fun p H1 np P0 S0 => ?_⟩
    generalize hJ : (3 : Int) + (if ((ns.map V.int).length : Int) < 3 then ((ns.map V.int).length : Int) else 3) = J
    have hJb : 0 ≤ J ∧ J ≤ 6 := by
      subst hJ
      split <;> omega
    refine ⟨_, rfl, sc, _, rfl, .inl (S0.seq hS), 3, _, rfl, _, _, rfl, rfl, J, congrArg (fun z => [V.int z]) hJ, by omega, by omega, for_range (n := J.toNat) (fun i σ H2 => ∃ s2 s3 s4 s5 s6 s7 s8 s9 s10 s11 s12 s13, σ = [some (.ref sc), some (.ref p), s2, s3, s4, s5, s6, s7, s8, s9, s10, s11, s12, s13, none, none] ∧ Pen H2 p (1000 * i))
      ⟨none, none, none, none, none, none, none, none, none, none, none, none, rfl, P0⟩ ?_ ?_⟩
    · rintro i σ H2 hi ⟨s2, s3, s4, s5, s6, s7, s8, s9, s10, s11, s12, s13, rfl, P1⟩
      have hi6 : i < 6 := by omega
      refine ⟨_, rfl, p, 1000 * i, rfl, P1, by omega, fun x H3 x1 x2 P2 F2 => ?_⟩
      refine ⟨_, rfl, _, rfl, p, x, _, rfl, P2, by omega, fun lg L H4 nl hl hL l0 l5 sb P3 F3 => ?_⟩
      -- first
      refine ⟨_, rfl, _, rfl, _, _, rfl, rfl, hpow, by show 5 ≤ sizeLine; decide, fun q1 hq1 => ?_⟩
      refine ⟨p, q1, _, _, rfl, .inl (.inl upd_same), by show 0 < 5; decide, by show 5 ≤ 1000; decide, P3.new hq1, by omega, fun v H5 hv P5 F5 => ?_⟩
      obtain ⟨g, rfl, g0, g1⟩ : ∃ g : Int, v = .int g ∧ 0 ≤ g ∧ g ≤ 10 ^ 30 := by
        simp only [List.mem_cons, List.not_mem_nil, or_false] at hv
        rcases hv with e | e | e | e | e <;> subst e <;> exact ⟨_, rfl, by decide, by decide⟩
      have F35 := (Frm.new (o := .lst [.int 0, .int 1, .int 5, .int 40, .int (10 ^ (30 : Int).toNat)]) hq1).trans F5
      have hl5 := F35.lst P3 hl
      have hL5 := hL.frm F35 P3
      refine ⟨_, _, rfl, rfl, ?_⟩
      -- last
      refine ⟨_, rfl, _, rfl, _, _, rfl, rfl, hpow, _, _, rfl, rfl, .inl ⟨by decide, by decide⟩, by show 5 ≤ sizeLine; decide, fun q2 hq2 => ?_⟩
      refine ⟨p, q2, _, _, rfl, .inl (.inl upd_same), by show 0 < 5; decide, by show 5 ≤ 1000; decide, P5.new hq2, by omega, fun v H6 hv P6 F6 => ?_⟩
      obtain ⟨g', rfl, g'0, g'1⟩ : ∃ g : Int, v = .int g ∧ 0 ≤ g ∧ g ≤ 3 * 10 ^ 30 := by
        simp only [List.mem_cons, List.not_mem_nil, or_false] at hv
        rcases hv with e | e | e | e | e <;> subst e <;> exact ⟨_, rfl, by decide, by decide⟩
      have F56 := (Frm.new (o := .lst [.int 0, .int 1, .int 9, .int 80, .int (3 * 10 ^ (30 : Int).toNat)]) hq2).trans F6
      have hl6 := F56.lst P5 hl5
      have hL6 := hL5.frm F56 P5
      refine ⟨_, _, rfl, rfl, ?_⟩
      dsimp only
      generalize hfs : x - g = fs
      generalize hll : fs + g' = l
      have hfl : fs ≤ l := by omega
      have P6' := P6.mono (show _ ≤ 1000 * i + 100 by omega)
      clear F56 F35 hq1 hq2 hl5 hL5 hl hL P5 P3 P2 P1 F2 F3 F5 F6 P6 nl
      have smL : ∀ r ∈ rws L, SmR r := fun r hr => by
        obtain ⟨a1, a2⟩ := sb r hr
        exact ⟨by omega, by omega⟩
      -- given
      refine ⟨_, rfl, lg, rfl, ⟨_, .inl (.inl hl6)⟩, fun D0 hD0 => lc_list (K := K) (a := lg) (xs := refs L) (fun i G => ∃ OL : List ARow, G D0 = some (.lst (refs OL)) ∧ AtL C G OL ∧ rws OL = (rws L).take i ∧ Same H6 G)
        ⟨[], upd_same, (fun _ z => nomatch z), rfl, same_lay hD0⟩ (fun i G _ ⟨_, _, _, _, s⟩ => .inl (.inl (s _ _ hl6))) ?_ ?_⟩
      · rintro i y G hy ⟨OL, hD2, hOL, eOL, sG⟩
        obtain ⟨z, hz, hzL, rfl⟩ := refs_get hy
        have hil : i < L.length := (List.getElem?_eq_some_iff.mp hz).1
        have e1 : (rws L).take (i + 1) = (rws L).take i ++ [z.2] := by rw [List.take_add_one, rws_get hz]; rfl
        have ez := sG _ _ (hL6 z hzL)
        have lOL : OL.length = i := by
          rw [← rws_len OL, eOL, List.length_take, rws_len]
          omega
        refine ⟨rfl, yesT ?_⟩
        refine ⟨_, rfl, z.1, _, 0, _, rfl, rfl, .inr (.inl (.inl ez)), at0, _, rfl, z.1, _, 1, _, rfl, rfl, .inr (.inl (.inl ez)), at1, z.2.1, z.2.2, rfl, fun yy G2 ny hyy s2 => ?_⟩
        have hD3 := s2 _ _ hD2
        have nyD : yy ≠ D0 := (ne_of_none hD2 ny).symm
        refine ⟨refs OL, hD3, small1000' (by rw [refs_len]; omega), OL ++ [(yy, z.2)], by rw [upd_same, refs_snoc], fun qq hqq => ?_, by rw [rws_snoc, eOL, e1], same_upd (sG.trans s2) hD0⟩
        rcases List.mem_append.mp hqq with k | k
        · obtain ⟨dd, gg⟩ := (hOL qq k).same s2
          exact ⟨dd, by rw [upd_ne (ne_of gg hD3 (by intro w; cases w))]; exact gg⟩
        · rw [List.mem_singleton.mp k]
          obtain ⟨dd, gg⟩ := hyy
          exact ⟨dd, by rw [upd_ne nyD]; exact gg⟩
      rintro G ⟨OL, hD2, hOL, eOL, sG⟩
      rw [refs_len, List.take_of_length_le (by rw [rws_len]; exact Nat.le_refl _)] at eOL
      have lOL : OL.length = L.length := by rw [← rws_len OL, eOL, rws_len]
      -- low, high
      refine ⟨_, rfl, _, rfl, _, rfl, D0, fs, l, OL, rfl, .inl (.inl hD2), hOL, by omega, by omega, by rw [eOL]; exact smL, hfl, fun lo NL G1 s1 nlo hlo aNL gNL lNL => ?_⟩
      refine ⟨_, rfl, D0, refs OL, rfl, .inl ⟨.inl (.inl (s1 _ _ hD2)), fun tl htl => ?_⟩⟩
      have st := same_lay (o := .tup (refs OL)) htl
      refine ⟨_, rfl, _, rfl, tl, fs, l, OL, rfl, .inl (.inl upd_same), (hOL.same s1).same st, by omega, by omega, by rw [eOL]; exact smL, hfl, fun hi NH G2 s2 nhi hhi aNH gNH lNH => ⟨_, _, rfl, ?_⟩⟩
      rw [eOL] at gNL gNH
      have SA : Same H6 G2 := ((sG.trans s1).trans st).trans s2
      have hlo2 := s2 _ _ (st _ _ hlo)
      have aNL2 := (aNL.same st).same s2
      have hlg2 := SA _ _ hl6
      have hL2 := hL6.same SA
      have hD02 := s2 _ _ (st _ _ (s1 _ _ hD2))
      have hOL2 := ((hOL.same s1).same st).same s2
      have P7 := P6'.same SA
      clear st htl s1 s2 nlo nhi hlo aNL SA sG hD2 hOL P6' hl6 hL6 hD0
      -- are pieces
      refine ⟨_, rfl, _, rfl, _, rfl, _, rfl, lo, lg, fs, l, 1, NL, L, rfl, hlo2, aNL2, .inl (.inl hlg2), hL2, l0, by omega, sb, .inl rfl, gNL, fun G3 e3 => ⟨true, rfl, iteF ?_⟩⟩
      refine ⟨_, rfl, _, rfl, _, rfl, _, rfl, 1, rfl, hi, lg, fs, l, -1, NH, L, rfl, e3 _ _ hhi, aNH.same e3, .inl (.inl (e3 _ _ hlg2)), hL2.same e3, l0, by omega, sb, .inr rfl, gNH, fun G4 e4 => ⟨true, rfl, iteF ?_⟩⟩
      have E4 := e3.trans e4
      have P8 := P7.same E4
      -- the places
      refine ⟨_, rfl, _, rfl, _, rfl, .inl ⟨l, rfl, _, rfl, .inl ⟨fs, rfl, _, rfl, .inl ⟨x, rfl, _, _, rfl, _, _, rfl, ?_⟩⟩⟩⟩
      have d30 : (l - fs + 1).natAbs < 2 ^ 200 := Nat.lt_of_le_of_lt (show (l - fs + 1).natAbs ≤ 3 * 10 ^ 30 + 1 by omega) (by decide)
      refine ⟨_, rfl, _, rfl, _, rfl, _, rfl, _, _, rfl, rfl, _, _, rfl, rfl, p, _, _, rfl, by omega, d30, P8, by omega, fun r G5 r0 r1 P9 F9 => ?_⟩
      refine ⟨_, _, rfl, rfl, by show 4 ≤ sizeLine; decide, fun lq hlq => ?_⟩
      have hlo9 := F9.obj P8 (E4 _ _ hlo2) (fun _ z => nomatch z)
      have hhi9 := F9.obj P8 (E4 _ _ hhi) (fun _ z => nomatch z)
      have hlg9 := F9.obj P8 (E4 _ _ hlg2) (fun _ z => nomatch z)
      have hD09 := F9.obj P8 (E4 _ _ hD02) (fun _ z => nomatch z)
      have aNL9 := (aNL2.same E4).frm F9 P8
      have aNH9 := (aNH.same E4).frm F9 P8
      have hL9 := (hL2.same E4).frm F9 P8
      have hOL9 := (hOL2.same E4).frm F9 P8
      generalize hmid : (if (if x > fs then x else fs) < l then (if x > fs then x else fs) else l) = mid
      have hmid2 : fs ≤ mid ∧ mid ≤ l := by
        subst hmid
        split <;> split <;> omega
      have eq9 := same_lay (o := .lst [.int fs, .int l, .int mid, .int (fs + r)]) hlq
      have P10 := P9.same eq9
      have hlq10 : (upd G5 lq (.lst [.int fs, .int l, .int mid, .int (fs + r)])) lq = some (.lst [.int fs, .int l, .int mid, .int (fs + r)]) := upd_same
      have hlo := eq9 _ _ hlo9
      have hhi' := eq9 _ _ hhi9
      have hlg := eq9 _ _ hlg9
      have hD0' := eq9 _ _ hD09
      have aNL := aNL9.same eq9
      have aNH' := aNH9.same eq9
      have hL := hL9.same eq9
      have hOL := hOL9.same eq9
      generalize upd G5 lq (.lst [.int fs, .int l, .int mid, .int (fs + r)]) = G6 at P10 hlq10 hlo hhi' hlg hD0' aNL aNH' hL hOL
      clear eq9 hOL9 hL9 aNH9 aNL9 hD09 hlg9 hhi9 hlo9 P9 F9 hlq P8 P7 E4 e3 e4 hOL2 hD02 hL2 hlg2 aNL2 hlo2 aNH hhi
      refine ⟨lq, rfl, ⟨_, .inl (.inl hlq10)⟩, for_list (K := K) (a := lq) (xs := [.int fs, .int l, .int mid, .int (fs + r)])
        (fun j σ H' => ∃ t10 t11 t12 t13, σ = [some (.ref sc), some (.ref p), some (.int (0 + i)), some (.int x), some (.ref lg), some (.int fs), some (.int l), some (.ref D0), some (.ref lo), some (.ref hi), t10, t11, t12, t13, none, none] ∧ Same G6 H')
        ⟨_, _, _, _, rfl, Same.refl _⟩ (fun j σ H' _ ⟨_, _, _, _, _, s⟩ => .inl (.inl (s _ _ hlq10))) ?_ ?_⟩
      · rintro j y σ G7 hy ⟨t10, t11, t12, t13, rfl, S7⟩
        obtain ⟨pl, rfl, hp1, hp2⟩ : ∃ pl : Int, y = .int pl ∧ fs ≤ pl ∧ pl ≤ l := by
          have hmem := List.mem_of_getElem? hy
          simp only [List.mem_cons, List.not_mem_nil, or_false] at hmem
          rcases hmem with e | e | e | e <;> exact ⟨_, e, by omega, by omega⟩
        clear hy
        -- mine
        refine ⟨_, rfl, lo, rfl, ⟨_, .inl (.inl (S7 _ _ hlo))⟩, fun D1 hD1 => lc_list (K := K) (a := lo) (xs := rf NL) (fun i G => G D1 = some (.lst ((minesAt pl ((r4s NL).take i)).map V.int)) ∧ Same _ G)
          ⟨upd_same, same_lay hD1⟩ (fun i G _ ⟨_, s⟩ => .inl (.inl (s _ _ (S7 _ _ hlo)))) ?_ ?_⟩
        · rintro i y G hy ⟨hD2, sG⟩
          obtain ⟨u, hu, huN, rfl⟩ := rf_get hy
          have eu := r4_get hu
          have e1 : (r4s NL).take (i + 1) = (r4s NL).take i ++ [u.2.2] := by rw [List.take_add_one, eu]; rfl
          have hil : i < NL.length := (List.getElem?_eq_some_iff.mp hu).1
          obtain ⟨g1, d, g2⟩ := aNL u huN
          have k1 := sG _ _ (S7 _ _ g1)
          have k2 := sG _ _ (S7 _ _ g2)
          obtain ⟨b1, b2⟩ := sb _ (gNL.mem u.2.2 (List.mem_of_getElem? eu))
          have hT : SqT K G u.1 [.int u.2.2.1, .int u.2.2.2.1, .ref u.2.1] := .inl (.inl k1)
          have skip : ¬ pickAt pl u.2.2 = true → G D1 = some (.lst ((minesAt pl ((r4s NL).take (i + 1))).map V.int)) := fun c => by
            rw [e1, mines_snoc, if_neg c, List.append_nil]
            exact hD2
          refine ⟨rfl, ?_⟩
          refine ⟨_, rfl, u.1, _, 0, _, rfl, rfl, .inr hT, a30, _, rfl, _, _, rfl, rfl, _, rfl, ite2 (fun c1 => ?_) (fun c1 => ?_)⟩
          · have c1' : u.2.2.1 ≤ pl := of_decide_eq_true c1
            refine ⟨_, rfl, u.1, _, 1, _, rfl, rfl, .inr hT, a31, _, _, rfl, rfl, _, rfl, ite2 (fun c2 => ?_) (fun c2 => ?_)⟩
            · have c2' : pl ≤ u.2.2.2.1 := of_decide_eq_true c2
              have pk : pickAt pl u.2.2 = true := by unfold pickAt; simp [c1', c2']
              refine ⟨_, rfl, u.1, _, 2, _, rfl, rfl, .inr hT, a32, u.2.1, rfl, _, rfl, ⟨d, _, k2⟩, u.2.1, _, _, pl, rfl, ⟨d, k2⟩, .inl ⟨by omega, by omega⟩, ?_⟩
              refine ⟨_, hD2, small1000' ?_, ?_, same_upd sG hD1⟩
              · have := mines_len pl ((r4s NL).take i)
                rw [List.length_map]
                rw [List.length_take] at this
                omega
              · rw [upd_same, e1, mines_snoc, if_pos pk, List.map_append]
                rfl
            · have c2' : ¬ pl ≤ u.2.2.2.1 := fun z => c2 (decide_eq_true z)
              exact ⟨skip (by unfold pickAt; simp [c2']), sG⟩
          · have c1' : ¬ u.2.2.1 ≤ pl := fun z => c1 (decide_eq_true z)
            exact ⟨false, rfl, iteF ⟨skip (by unfold pickAt; simp [c1']), sG⟩⟩
        rintro G8 ⟨hm1, s8⟩
        rw [rf_len, List.take_of_length_le (by rw [r4_len]; exact Nat.le_refl _)] at hm1
        have S8 := S7.trans s8
        -- its
        refine ⟨_, rfl, hi, rfl, ⟨_, .inl (.inl (S8 _ _ hhi'))⟩, fun Db hDb => lc_list (K := K) (a := hi) (xs := rf NH) (fun i G => G Db = some (.lst ((minesAt pl ((r4s NH).take i)).map V.int)) ∧ Same _ G)
          ⟨upd_same, same_lay hDb⟩ (fun i G _ ⟨_, s⟩ => .inl (.inl (s _ _ (S8 _ _ hhi')))) ?_ ?_⟩
        · rintro i y G hy ⟨hGb, sG⟩
          obtain ⟨u, hu, huN, rfl⟩ := rf_get hy
          have eu := r4_get hu
          have e1 : (r4s NH).take (i + 1) = (r4s NH).take i ++ [u.2.2] := by rw [List.take_add_one, eu]; rfl
          have hil : i < NH.length := (List.getElem?_eq_some_iff.mp hu).1
          obtain ⟨g1, d, g2⟩ := aNH' u huN
          have k1 := sG _ _ (S8 _ _ g1)
          have k2 := sG _ _ (S8 _ _ g2)
          obtain ⟨b1, b2⟩ := sb _ (gNH.mem u.2.2 (List.mem_of_getElem? eu))
          have hT : SqT K G u.1 [.int u.2.2.1, .int u.2.2.2.1, .ref u.2.1] := .inl (.inl k1)
          have skip : ¬ pickAt pl u.2.2 = true → G Db = some (.lst ((minesAt pl ((r4s NH).take (i + 1))).map V.int)) := fun c => by
            rw [e1, mines_snoc, if_neg c, List.append_nil]
            exact hGb
          refine ⟨rfl, ?_⟩
          refine ⟨_, rfl, u.1, _, 0, _, rfl, rfl, .inr hT, a30, _, rfl, _, _, rfl, rfl, _, rfl, ite2 (fun c1 => ?_) (fun c1 => ?_)⟩
          · have c1' : u.2.2.1 ≤ pl := of_decide_eq_true c1
            refine ⟨_, rfl, u.1, _, 1, _, rfl, rfl, .inr hT, a31, _, _, rfl, rfl, _, rfl, ite2 (fun c2 => ?_) (fun c2 => ?_)⟩
            · have c2' : pl ≤ u.2.2.2.1 := of_decide_eq_true c2
              have pk : pickAt pl u.2.2 = true := by unfold pickAt; simp [c1', c2']
              refine ⟨_, rfl, u.1, _, 2, _, rfl, rfl, .inr hT, a32, u.2.1, rfl, _, rfl, ⟨d, _, k2⟩, u.2.1, _, _, pl, rfl, ⟨d, k2⟩, .inl ⟨by omega, by omega⟩, ?_⟩
              refine ⟨_, hGb, small1000' ?_, ?_, same_upd sG hDb⟩
              · have := mines_len pl ((r4s NH).take i)
                rw [List.length_map]
                rw [List.length_take] at this
                omega
              · rw [upd_same, e1, mines_snoc, if_pos pk, List.map_append]
                rfl
            · have c2' : ¬ pl ≤ u.2.2.2.1 := fun z => c2 (decide_eq_true z)
              exact ⟨skip (by unfold pickAt; simp [c2']), sG⟩
          · have c1' : ¬ u.2.2.1 ≤ pl := fun z => c1 (decide_eq_true z)
            exact ⟨false, rfl, iteF ⟨skip (by unfold pickAt; simp [c1']), sG⟩⟩
        rintro G9 ⟨hm2, s9⟩
        rw [rf_len, List.take_of_length_le (by rw [r4_len]; exact Nat.le_refl _)] at hm2
        have S9 := S8.trans s9
        -- values
        refine ⟨_, rfl, lg, rfl, ⟨_, .inl (.inl (S9 _ _ hlg))⟩, fun D3 hD3 => lc_list (K := K) (a := lg) (xs := refs L) (fun i G => G D3 = some (.lst (((rws L).take i).map fun r => V.int (vl r pl))) ∧ Same G9 G)
          ⟨upd_same, same_lay hD3⟩ (fun i G _ ⟨_, s⟩ => .inl (.inl (s _ _ (S9 _ _ hlg)))) ?_ ?_⟩
        · rintro i y G hy ⟨hD2, sG⟩
          obtain ⟨z, hz, hzL, rfl⟩ := refs_get hy
          have hil : i < L.length := (List.getElem?_eq_some_iff.mp hz).1
          have e1 : (rws L).take (i + 1) = (rws L).take i ++ [z.2] := by rw [List.take_add_one, rws_get hz]; rfl
          have ez := sG _ _ (S9 _ _ (hL z hzL))
          obtain ⟨b1, b2⟩ := sb z.2 (mem_rws.mpr ⟨z.1, hzL⟩)
          refine ⟨rfl, yesT ?_⟩
          refine ⟨_, rfl, _, rfl, z.1, z.2.1, z.2.2, pl, rfl, ez, .inl ⟨by omega, by omega⟩, .inl ⟨_, rfl, ?_⟩⟩
          refine ⟨_, hD2, small1000' ?_, ?_, same_upd sG hD3⟩
          · rw [List.length_map, List.length_take]
            omega
          · rw [upd_same, e1, List.map_append]
            rfl
        rintro G10 ⟨hm3, s10'⟩
        rw [refs_len, List.take_of_length_le (by rw [rws_len]; exact Nat.le_refl _)] at hm3
        have S10 := S9.trans s10'
        have hv3 : G10 D3 = some (.lst (((rws L).map fun r => vl r pl).map V.int)) := by rw [hm3, List.map_map]; rfl
        obtain ⟨t1, ht1, em1, lb1⟩ := mines_one gNL hp1 (by omega)
        obtain ⟨t2, ht2, em2, lb2⟩ := mines_one gNH hp1 (by omega)
        rw [em1] at hm1
        rw [em2] at hm2
        have nsl : 0 < ((rws L).map fun r => vl r pl).length := by rw [List.length_map, rws_len]; exact l0
        refine ⟨_, rfl, _, rfl, D3, _, rfl, .inl (.inl hv3), nsl, fun m hmem hle => ?_⟩
        have em : vl t1 pl = m := by
          obtain ⟨u, hu, e⟩ := List.mem_map.mp hmem
          have h1 := hle _ (List.mem_map.mpr ⟨t1, ht1, rfl⟩)
          have h2 := lb1 u hu
          subst e
          omega
        refine ⟨by show 1 ≤ sizeLine; decide, fun e1 he1 => ?_⟩
        have se1 := same_lay (o := .lst [.int m]) he1
        refine ⟨.list [.int (vl t1 pl)], .list [.int m], .lst (.inl (.inl (se1 _ _ (s10' _ _ (s9 _ _ hm1))))) (.cons (.int _) .nil), .lst (.inl (.inl upd_same)) (.cons (.int _) .nil), rfl, rfl, _, rfl, ?_⟩
        rw [ev1, decide_eq_true em]
        refine iteF ?_
        refine ⟨_, rfl, _, rfl, D3, _, rfl, .inl (.inl (se1 _ _ hv3)), nsl, fun m' hmem' hle' => ?_⟩
        have em' : vl t2 pl = m' := by
          obtain ⟨u, hu, e⟩ := List.mem_map.mp hmem'
          have h1 := hle' _ (List.mem_map.mpr ⟨t2, ht2, rfl⟩)
          have h2 := lb2 u hu
          subst e
          omega
        refine ⟨by show 1 ≤ sizeLine; decide, fun e2 he2 => ?_⟩
        have se2 := same_lay (o := .lst [.int m']) he2
        refine ⟨.list [.int (vl t2 pl)], .list [.int m'], .lst (.inl (.inl (se2 _ _ (se1 _ _ (s10' _ _ hm2))))) (.cons (.int _) .nil), .lst (.inl (.inl upd_same)) (.cons (.int _) .nil), rfl, rfl, _, rfl, ?_⟩
        rw [ev1, decide_eq_true em']
        refine iteF ?_
        exact ⟨_, _, _, _, rfl, (S10.trans se1).trans se2⟩
      rintro σ G7 ⟨t10, t11, t12, t13, rfl, S7⟩
      -- the lines stay
      refine ⟨_, rfl, D0, rfl, ⟨_, .inl (.inl (S7 _ _ hD0'))⟩, fun D4 hD4 => lc_list (K := K) (a := D0) (xs := refs OL) (fun i G => ∃ M' : List ARow, G D4 = some (.lst (refs M')) ∧ AtR G M' ∧ rws M' = (rws OL).take i ∧ Same G7 G)
        ⟨[], upd_same, (fun _ z => nomatch z), rfl, same_lay hD4⟩ (fun i G _ ⟨_, _, _, _, s⟩ => .inl (.inl (s _ _ (S7 _ _ hD0')))) ?_ ?_⟩
      · rintro i y G hy ⟨M', hD2, hM', eM', sG⟩
        obtain ⟨z, hz, hzL, rfl⟩ := refs_get hy
        have hil : i < OL.length := (List.getElem?_eq_some_iff.mp hz).1
        have e1 : (rws OL).take (i + 1) = (rws OL).take i ++ [z.2] := by rw [List.take_add_one, rws_get hz]; rfl
        have lM : M'.length = i := by
          rw [← rws_len M', eM', List.length_take, rws_len]
          omega
        obtain ⟨dd, hd⟩ := hOL z hzL
        have hd2 := sG _ _ (S7 _ _ hd)
        refine ⟨rfl, yesT ?_⟩
        refine ⟨_, rfl, z.1, C, dd, _, _, rfl, hd2, T.cl, T.nS, lFl_slope _ _, _, rfl, z.1, C, dd, _, _, rfl, hd2, T.cl, T.nH, lFl_height _ _, by show 2 ≤ sizeLine; decide, fun tt htt => ?_⟩
        have s3 := same_lay (o := .tup [.int z.2.1, .int z.2.2]) htt
        have ntD : tt ≠ D4 := (ne_of_none hD2 htt).symm
        refine ⟨refs M', s3 _ _ hD2, small1000' (by rw [refs_len]; omega), M' ++ [(tt, z.2)], by rw [upd_same, refs_snoc], fun qq hqq => ?_, by rw [rws_snoc, eM', e1], same_upd (sG.trans s3) hD4⟩
        rcases List.mem_append.mp hqq with k | k
        · rw [upd_ne (ne_of (hM' qq k) hD2 (by intro w; cases w))]; exact s3 _ _ (hM' qq k)
        · rw [List.mem_singleton.mp k, upd_ne ntD, upd_same]
      rintro G8 ⟨M', hD2, hM', eM', sG⟩
      rw [refs_len, List.take_of_length_le (by rw [rws_len]; exact Nat.le_refl _), eOL] at eM'
      have S8 := S7.trans sG
      refine ⟨_, rfl, .list ((rws M').map rowD), .list ((rws L).map rowD), .lst (.inl (.inl hD2)) (dp_rows hM'), .lst (.inl (.inl (S8 _ _ hlg))) (dp_rows (hL.same S8)), shp_lst _, shp_lst _, _, rfl, ?_⟩
      have ee : PyData.eqv (.list ((rws M').map rowD)) (.list ((rws L).map rowD)) = true := by
        show PyData.eqvAll ((rws M').map rowD) ((rws L).map rowD) = true
        rw [eqv_rows, decide_eq_true eM']
      rw [ee]
      refine iteF ?_
      exact ⟨_, _, _, _, _, _, _, _, _, _, _, _, rfl, (P10.same S8).mono (by omega)⟩
    · rintro σ H2 ⟨s2, s3, s4, s5, s6, s7, s8, s9, s10, s11, s12, s13, rfl, P1⟩
      exact q H2
end
end OR

namespace OR
open PySem PySem.Spec PyProof.Rows L2
/-- the class Line behind the top -/
structure LAt (K : PySem.W.Frag) (C : Addr) : Prop where
  aC : PySem.W.nsIn K mainGlobals "Line" = some (some (.ref C))
  pg : PySem.W.plainGet K C Str.empty = true
  hd : PySem.W.hasDictIn K C = true
  po : PySem.W.plainOver K C = true
  sa : PySem.W.findIn K (.ref C) "__setattr__" = some (some (.builtin "object.__setattr__"))
  mks : PySem.W.makesIn K C = true
  kc : PySem.W.keepIn K (.ref C) = true
  nS : PySem.W.findIn K (.ref C) "slope" = some none
  nH : PySem.W.findIn K (.ref C) "height" = some none
  sf : PySem.W.selfFirst K C = true
  ca : PySem.W.findIn K (.ref C) "__class__" = some (some (.builtin "object.__class__"))
  cn : PySem.W.specialIn K (.builtin "object.__class__") "__get__" = some (some (.builtin "getset_descriptor.__get__"))
  ct : PySem.W.takesIn K (.builtin "object.__class__") = some true
  cm : PySem.W.mroIn K C (.type "object") = some true
  ne : PySem.W.findIn K (.ref C) "__ne__" = some (some (.builtin "object.__ne__"))
  nt : PySem.W.subIn K (.type "tuple") (.ref C) = some false
  kLL : PySem.W.kitOne K (.ref C) (.ref C) = some true
  kIL : PySem.W.kitOne K (.type "int") (.ref C) = some false
  kTL : PySem.W.kitOne K (.type "tuple") (.ref C) = some false
structure ZAt (K : PySem.W.Frag) : Prop where
  isi : PySem.W.nsIn K mainGlobals "isinstance" = some none
  int : PySem.W.nsIn K mainGlobals "int" = some none
  bool : PySem.W.nsIn K mainGlobals "bool" = some none
  list : PySem.W.nsIn K mainGlobals "list" = some none
  len : PySem.W.nsIn K mainGlobals "len" = some none
  min : PySem.W.nsIn K mainGlobals "min" = some none
  max : PySem.W.nsIn K mainGlobals "max" = some none
  range : PySem.W.nsIn K mainGlobals "range" = some none
  abs : PySem.W.nsIn K mainGlobals "abs" = some none
  tup : PySem.W.nsIn K mainGlobals "tuple" = some none
  sorted : PySem.W.nsIn K mainGlobals "sorted" = some none
  zip : PySem.W.nsIn K mainGlobals "zip" = some none
theorem LAt.txt {K : PySem.W.Frag} {C : Addr} {h : Heap} {mg : Str → Option Value} (L : LAt K C) (X : K.In h) (G : h.Ns mainGlobals mg) (Z : ZAt K) : LTxt K mg C :=
  ⟨⟨L.pg, L.hd, L.po, L.sa⟩, L.nS, L.nH, PySem.W.mg_of X G L.aC, L.sf, ⟨L.ca, L.cn, L.ct, L.cm⟩, L.kLL, L.kIL, PySem.W.mg_none_of X G Z.isi, PySem.W.mg_none_of X G Z.int, PySem.W.mg_none_of X G Z.bool⟩
/-- the facts for an int beside a line -/
theorem binI_of {K : PySem.W.Frag} {C g : Addr} {op : Operator} {h : Heap} {fo ro : Option Value} (_X : K.In h) (a : PySem.W.findIn K (.ref C) (PySem.dunderR op.info.2) = some (some (.ref g))) (b : PySem.W.findIn K (.type "int") (PySem.dunder op.info.2) = some fo)
    (c : PySem.W.findIn K (.type "int") (PySem.dunderR op.info.2) = some ro) (d : PySem.W.subIn K (.type "int") (.ref C) = some false) : BinI K C op := ⟨⟨_, a, .inr ⟨g, rfl⟩⟩, ⟨_, b⟩, ⟨_, c⟩, d⟩
theorem co_of {P : Program} {w : World} {K : PySem.W.Frag} {mg : Str → Option Value} {base : Heap} {C : Addr} {qual : Str} {st : Stmt} {k : Nat} {ps : List Str} {sp : Sp} (a : MtAt K C "__call__" "__call__" qual st)
    (hb : ∀ (kV doc pm : Value) (an : Option Addr) (cdv ct : Value) (us : List Value), us.length = ps.length → bindArgs (PySem.W.fnOf "__call__" qual (defArgs st) (defBody st) (defScope st) .none kV doc pm an cdv ct) ⟨us, []⟩ = pure (ps.zip us))
    (ok : ∀ f fd, Fun K "__call__" qual st f fd → FnOk P w K mg base CX0 k f fd ps sp) : Co P w K mg base k C sp := by
  obtain ⟨f, fd, F, e, i, n⟩ := a.ex
  exact ⟨f, ⟨e, i, n⟩, fnR_of (ok f fd F) (F.binds hb)⟩
theorem lmk_of {P : Program} {w : World} {K : PySem.W.Frag} {mg : Str → Option Value} {base : Heap} {C : Addr} (T : LTxt K mg C) (L : LAt K C) (mI : MtAt K C "__init__" "__init__" "Line.__init__" sLInit) : LMk P w K mg base C := ⟨T, by
    obtain ⟨f, fd, F, a, b, c⟩ := mI.ex
    exact ⟨f, fd, ⟨L.mks, a, b, L.kc⟩, ok_linit F T, F.binds fun _ _ _ _ _ _ us hl => match us, hl with | [_, _, _], _ => rfl⟩⟩
/-- walk_of, told besides what the top's loose names read -/
theorem walk_ofX {l : PySem.W.OpenLaw} {n k : Nat} {q : Program} {loose : List Str} {XP : (Str → Option Value) → Heap → Prop} {YP : World → Heap → Prop} {d : DefRec} {K : Params → PySem.W.Frag} {CX : World → CXT} {sp : World → Sp} {x : Str}
    (hn : l.most = some n) (hn2 : n ≤ sizeLine) (hdf : d.params.defaults = []) (hr : Room k callerA) (hY : ∀ (w : World) (h : Heap), YP w h → (K w.params).In h)
    (F : ∀ (w : World) (mg : Str → Option Value) (fa : Addr) (h : Heap), (K w.params).In h → h.Ns mainGlobals mg → XP mg h → mg d.name = some (.ref fa) →
      ∃ fd : FuncData, (∀ (s : Shared) (u : Value), BindsTo s fd ⟨[u], []⟩ [(x, u)]) ∧ ∀ base : Heap, (K w.params).In base → base.Ns mainGlobals mg → FnOk l.prog w (K w.params) mg base (CX w) k fa fd [x] (sp w))
    (hsp : ∀ (w : World) (H : Hp) (a : Addr) (ns : List Int), ns.length ≤ n → Only H → SqL (K w.params) H a (ns.map V.int) → sp w [.ref a] H (fun v _ => v = .bl true) fun _ _ _ => False)
    (hCX : ∀ (w : World) (H : Hp) (s : Shared) (e : Value) (s' : Shared), CX w [] H s (fun _ _ _ => False) e s' → False) : PySem.W.WalkO q loose XP YP l.row.toRowW d [] (fun f vs => PySem.call f vs) := by
  refine Att.attach_call hn hdf fun w s₀ s₁ mg mb fa o pm cd doc a vs ns G Y ho hd hcd hmg hobj hints hlen hg => ?_
  have KX := hY w _ Y
  obtain ⟨fd, hb, hF⟩ := F w mg fa _ KX G.T.g G.X hmg
  exact law_call KX G.T.g G.T.b G.T.builtins G.T.nolimit hg hobj hints (Nat.le_trans hlen hn2) hr hF hb (fun H hO hS => hsp w H a ns hlen hO hS) fun H e s' => hCX w H s₁ e s'
end OR

namespace OR
open PySem PySem.Spec PyProof.Rows L2
theorem all_mk {l : PySem.W.OpenLaw} {w : World} {K : PySem.W.Frag} {h : Heap} {mg : Str → Option Value} {fa C  : Addr} (X : K.In h) (G : h.Ns mainGlobals mg) (hfa : mg "law" = some (.ref fa)) (L : LAt K C) (Z : ZAt K) 
    (mI : MtAt K C "__init__" "__init__" "Line.__init__" sLInit) (fDI : FnAt K "is_integer" sIsInt) (mA1 : MtAt K C "__add__" (PySem.dunder (Operator.info .Add).2) "Line.__add__" sLAdd) (mN1 : MtAt K C "__neg__" "__neg__" "Line.__neg__" sLNeg) (mS1 : MtAt K C "__sub__" (PySem.dunder (Operator.info .Sub).2) "Line.__sub__" sLSub) (mCall : MtAt K C "__call__" "__call__" "Line.__call__" sLCall) (fDVal : FnAt K "value_at" sVal) (fDFirst : FnAt K "first_above" sFirst) (fDTakes : FnAt K "_takes_over" sTakes) (fDLow : FnAt K "lowest" sLow) (fDHigh : FnAt K "highest" sHigh) (fDPen : FnAt K "_law_pen" sPen) (fDDraw : FnAt K "_law_draw" sDraw) (fDPick : FnAt K "_law_pick" sPick) (fDWhole : FnAt K "_law_whole" sWhole) (fDLine : FnAt K "_law_line" sLine) (fDWorth : FnAt K "_law_worth" sWorth) (fDLines : FnAt K "_law_lines" sLines) (fDBest : FnAt K "_law_best" sBest) (fDPassed : FnAt K "_law_is_passed" sPassed) (fDAre : FnAt K "_law_are_pieces" sAre) (fLaw : FnAt K "law" sLaw) :
    ∃ fd : FuncData, (∀ (s : Shared) (v : Value), BindsTo s fd ⟨[v], []⟩ [("_law_script", v)]) ∧ ∀ base : Heap, K.In base → base.Ns mainGlobals mg → FnOk l.prog w K mg base CX0 8 fa fd ["_law_script"] (spLaw K) := by
  obtain ⟨f, fd, F, e⟩ := fLaw.ex
  have e := hfa.symm.trans (PySem.W.mg_of X G e)
  cases e
  refine ⟨fd, fun s v => ?_, fun base _ _ => ?_⟩
  · obtain ⟨oc, od, kV, doc, pm, an, cdv, ct, osl, rfl, _⟩ := F.ex
    exact .of_eq rfl
  have T : LTxt K mg C := L.txt X G Z
  have none : ∀ {x : Str}, PySem.W.nsIn K mainGlobals x = some none → mg x = none := fun z => PySem.W.mg_none_of X G z
  have B1 : Bl mg := ⟨none Z.int, none Z.len, none Z.abs, none Z.list⟩
  have M : LMk l.prog w K mg base C := lmk_of T L mI
  have DI : Cl l.prog w K mg base 1 "is_integer" ["value"] spIsInt := cl_of fDI X G (fun _ _ _ _ _ _ us hl => match us, hl with | [_], _ => rfl) fun f fd F => ok_isint F T
  have A1 : Md l.prog w K mg base 3 C (PySem.dunder (Operator.info .Add).2) (spLAdd C) := md_of mA1 (ps := ["self", "other"]) (fun _ _ _ _ _ _ us hl => match us, hl with | [_, _], _ => rfl) fun f fd F => ok_ladd F M DI
  have N1 : Md l.prog w K mg base 3 C "__neg__" (spLNeg C) := md_of mN1 (ps := ["self"]) (fun _ _ _ _ _ _ us hl => match us, hl with | [_], _ => rfl) fun f fd F => ok_lneg F M
  have S1 : Md l.prog w K mg base 4 C (PySem.dunder (Operator.info .Sub).2) (spLSub C) := md_of mS1 (ps := ["self", "other"]) (fun _ _ _ _ _ _ us hl => match us, hl with | [_, _], _ => rfl) fun f fd F => ok_lsub F M A1 N1
  have CO : Co l.prog w K mg base 1 C (spLCall C) := co_of mCall (ps := ["self", "x"]) (fun _ _ _ _ _ _ us hl => match us, hl with|[_, _], _ => rfl) fun f fd F => ok_lcall F T
  have DVal : Cl l.prog w K mg base 1 "value_at" ["line", "x"] (spLCall C) := cl_of fDVal X G (fun _ _ _ _ _ _ us hl => match us, hl with | [_, _], _ => rfl) fun f fd F => ok_lval F T
  have DFirst : Cl l.prog w K mg base 5 "first_above" ["one", "other", "start"] (spFirst C) := cl_of fDFirst X G (fun _ _ _ _ _ _ us hl => match us, hl with | [_, _, _], _ => rfl) fun f fd F => ok_first F T S1 DVal
  have DTakes : Cl l.prog w K mg base 2 "_takes_over" ["line", "begun"] (spTakes C) := cl_of fDTakes X G (fun _ _ _ _ _ _ us hl => match us, hl with | [_, _], _ => rfl) fun f fd F => ok_takes F DVal
  have DLow : Cl l.prog w K mg base 6 "lowest" ["lines", "first", "last"] (spLow K C) := cl_of fDLow X G (fun _ _ _ _ _ _ us hl => match us, hl with | [_, _, _], _ => rfl) fun f fd F => ok_low F M (none Z.sorted) (none Z.zip) DTakes DFirst
  have DHigh : Cl l.prog w K mg base 7 "highest" ["lines", "first", "last"] (spHigh K C) := cl_of fDHigh X G (fun _ _ _ _ _ _ us hl => match us, hl with | [_, _, _], _ => rfl) fun f fd F => ok_high F N1 DLow
  have DPen : Cl l.prog w K mg base 1 "_law_pen" ["_law_script"] (spPen K) := cl_of fDPen X G (fun _ _ _ _ _ _ us hl => match us, hl with | [_], _ => rfl) fun f fd F => ok_pen F B1
  have DDraw : Cl l.prog w K mg base 1 "_law_draw" ["_law_pen_here", "_law_many"] spDraw := cl_of fDDraw X G (fun _ _ _ _ _ _ us hl => match us, hl with | [_, _], _ => rfl) fun f fd F => ok_draw F B1
  have DPick : Cl l.prog w K mg base 2 "_law_pick" ["_law_pen_here", "_law_items"] (spPick K) := cl_of fDPick X G (fun _ _ _ _ _ _ us hl => match us, hl with | [_, _], _ => rfl) fun f fd F => ok_pick F B1 DDraw
  have DWhole : Cl l.prog w K mg base 3 "_law_whole" ["_law_pen_here"] spWhole := cl_of fDWhole X G (fun _ _ _ _ _ _ us hl => match us, hl with | [_], _ => rfl) fun f fd F => ok_whole F DDraw DPick
  have DLine : Cl l.prog w K mg base 4 "_law_line" ["_law_pen_here"] spLine := cl_of fDLine X G (fun _ _ _ _ _ _ us hl => match us, hl with | [_], _ => rfl) fun f fd F => ok_line F DDraw DPick DWhole
  have DWorth : Cl l.prog w K mg base 1 "_law_worth" ["_law_line_here", "_law_x"] spWorth := cl_of fDWorth X G (fun _ _ _ _ _ _ us hl => match us, hl with | [_, _], _ => rfl) fun f fd F => ok_worth F
  have DLines : Cl l.prog w K mg base 5 "_law_lines" ["_law_pen_here", "_law_x"] (spLines K) := cl_of fDLines X G (fun _ _ _ _ _ _ us hl => match us, hl with | [_, _], _ => rfl) fun f fd F => ok_lines F (none Z.range) DDraw DPick DWhole DLine DWorth
  have DBest : Cl l.prog w K mg base 2 "_law_best" ["_law_lines_here", "_law_x", "_law_sign"] (spBest K) := cl_of fDBest X G (fun _ _ _ _ _ _ us hl => match us, hl with | [_, _, _], _ => rfl) fun f fd F => ok_best F DWorth
  have DPassed : Cl l.prog w K mg base 2 "_law_is_passed" ["_law_lines_here", "_law_best_here", "_law_x", "_law_sign"] (spPassed K) := cl_of fDPassed X G (fun _ _ _ _ _ _ us hl => match us, hl with | [_, _, _, _], _ => rfl) fun f fd F => ok_passed F DWorth
  have DAre : Cl l.prog w K mg base 3 "_law_are_pieces" ["_law_told", "_law_lines_here", "_law_first", "_law_last", "_law_sign"] (spAre K C) := cl_of fDAre X G (fun _ _ _ _ _ _ us hl => match us, hl with | [_, _, _, _, _], _ => rfl) fun f fd F => ok_are F T (none Z.tup) DBest DPassed
  exact ok_law F ⟨none Z.len, none Z.min, none Z.max, none Z.range, none Z.int, none Z.tup⟩ M CO DPen DDraw DPick DWhole DWorth DLines DLow DHigh DAre
end OR
open PySem PySem.W PyProof.Rows
set_option maxRecDepth 100000 in
set_option maxHeartbeats 0 in
theorem PySem.Challenge.cw_openranges_k09_whole_lowest_and_highest_holds : PySem.Challenge.rw_openranges_k09_whole_lowest_and_highest.Holds := by
  w_on; o_law; k_head; (case hw => w_witness2)
  k_fill
  refine OR.walk_ofX (l := PySem.Challenge.rw_openranges_k09_whole_lowest_and_highest) (n := 63) (k := 8) (x := "_law_script") (CX := fun _ => L2.CX0) (sp := fun w => OR.spLaw _) rfl (by decide) rfl ⟨rfl, by decide, by decide⟩ (fun w h Y => PySem.W.kIn_of Y) ?F (fun _ _ a ns hl _ hS => ⟨a, ns, rfl, hS, hl, fun _ => rfl⟩) (fun _ _ _ _ _ h => h)
  case F =>
    intro w mg fa h KX G XL hmg
    refine' OR.all_mk KX G hmg ?L ?Z  ?mI ?fDI ?mA1 ?mN1 ?mS1 ?mCall ?fDVal ?fDFirst ?fDTakes ?fDLow ?fDHigh ?fDPen ?fDDraw ?fDPick ?fDWhole ?fDLine ?fDWorth ?fDLines ?fDBest ?fDPassed ?fDAre ?fLaw
    all_goals try clear hmg XL
    case L =>
      refine' OR.LAt.mk ?aC ?pg ?hd ?po ?sa ?mks ?kc ?nS ?nH ?sf ?ca ?cn ?ct ?cm ?ne ?nt ?kLL ?kIL ?kTL
      (case aC => k_is); (case pg => k_is); (case hd => k_is); (case po => k_is); (case sa => k_is); (case mks => k_is); (case kc => k_is); (case nS => k_is); (case nH => k_is); (case sf => k_is); (case ca => k_is); (case cn => k_is); (case ct => k_is); (case cm => k_is); (case ne => k_is); (case nt => k_is); (case kLL => kit_is); (case kIL => kit_is); (case kTL => kit_is)
    case Z =>
      refine' OR.ZAt.mk ?isi ?int ?bool ?list ?len ?min ?max ?range ?abs ?tup ?sorted ?zip
      (case isi => k_is); (case int => k_is); (case bool => k_is); (case list => k_is); (case len => k_is); (case min => k_is); (case max => k_is); (case range => k_is); (case abs => k_is); (case tup => k_is); (case sorted => k_is); (case zip => k_is)
    case mI => refine' OR.mtAt KX ?a ?l ?c ?k ?i ?n; (case a => k_is); (case l => k_is); (case c => k_is); (case k => k_is); (case i => k_is); (case n => k_is)
    case fDI => refine' OR.fnAt KX ?a ?l ?c ?k; (case a => k_is); (case l => k_is); (case c => k_is); (case k => k_is)
    case mA1 => refine' OR.mtAt KX ?a ?l ?c ?k ?i ?n; (case a => k_is); (case l => k_is); (case c => k_is); (case k => k_is); (case i => k_is); (case n => k_is)
    case mN1 => refine' OR.mtAt KX ?a ?l ?c ?k ?i ?n; (case a => k_is); (case l => k_is); (case c => k_is); (case k => k_is); (case i => k_is); (case n => k_is)
    case mS1 => refine' OR.mtAt KX ?a ?l ?c ?k ?i ?n; (case a => k_is); (case l => k_is); (case c => k_is); (case k => k_is); (case i => k_is); (case n => k_is)
    case mCall => refine' OR.mtAt KX ?a ?l ?c ?k ?i ?n; (case a => k_is); (case l => k_is); (case c => k_is); (case k => k_is); (case i => k_is); (case n => k_is)
    case fDVal => refine' OR.fnAt KX ?a ?l ?c ?k; (case a => k_is); (case l => k_is); (case c => k_is); (case k => k_is)
    case fDFirst => refine' OR.fnAt KX ?a ?l ?c ?k; (case a => k_is); (case l => k_is); (case c => k_is); (case k => k_is)
    case fDTakes => refine' OR.fnAt KX ?a ?l ?c ?k; (case a => k_is); (case l => k_is); (case c => k_is); (case k => k_is)
    case fDLow => refine' OR.fnAt KX ?a ?l ?c ?k; (case a => k_is); (case l => k_is); (case c => k_is); (case k => k_is)
    case fDHigh => refine' OR.fnAt KX ?a ?l ?c ?k; (case a => k_is); (case l => k_is); (case c => k_is); (case k => k_is)
    case fDPen => refine' OR.fnAt KX ?a ?l ?c ?k; (case a => k_is); (case l => k_is); (case c => k_is); (case k => k_is)
    case fDDraw => refine' OR.fnAt KX ?a ?l ?c ?k; (case a => k_is); (case l => k_is); (case c => k_is); (case k => k_is)
    case fDPick => refine' OR.fnAt KX ?a ?l ?c ?k; (case a => k_is); (case l => k_is); (case c => k_is); (case k => k_is)
    case fDWhole => refine' OR.fnAt KX ?a ?l ?c ?k; (case a => k_is); (case l => k_is); (case c => k_is); (case k => k_is)
    case fDLine => refine' OR.fnAt KX ?a ?l ?c ?k; (case a => k_is); (case l => k_is); (case c => k_is); (case k => k_is)
    case fDWorth => refine' OR.fnAt KX ?a ?l ?c ?k; (case a => k_is); (case l => k_is); (case c => k_is); (case k => k_is)
    case fDLines => refine' OR.fnAt KX ?a ?l ?c ?k; (case a => k_is); (case l => k_is); (case c => k_is); (case k => k_is)
    case fDBest => refine' OR.fnAt KX ?a ?l ?c ?k; (case a => k_is); (case l => k_is); (case c => k_is); (case k => k_is)
    case fDPassed => refine' OR.fnAt KX ?a ?l ?c ?k; (case a => k_is); (case l => k_is); (case c => k_is); (case k => k_is)
    case fDAre => refine' OR.fnAt KX ?a ?l ?c ?k; (case a => k_is); (case l => k_is); (case c => k_is); (case k => k_is)
    case fLaw => refine' OR.fnAt KX ?a ?l ?c ?k; (case a => k_is); (case l => k_is); (case c => k_is); (case k => k_is)

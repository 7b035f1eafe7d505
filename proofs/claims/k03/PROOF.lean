import PyProof.Rows.All
import Wide.All
import OpenK.AllK
import Wide.FinOn
import PyProof.NoPylong
import Flt.RightSqrt
import HandS.ForMost
import HandS.ForExc
import HandS.Evl
import HandS.IsInst
import HandS.Gcd
import HandS.WideBits
import HandS.Style
import HandS.Steps
import HandS.EndBits
import KE.DataFind
import PyProof.Rows.ChunkEnd
import PyProof.Rows.ChunkLeaf
import HandS.SortRule
import KE.SortData
import HandS.CallLocal
import HandS.CallRecv
import HandS.Conv
import KE.DatumOrd
import PySem.Challenge.RW_squaretree_k03_whole_sides
set_option Elab.async false
set_option linter.all false
set_option maxRecDepth 100000
set_option maxHeartbeats 8000000
namespace Sq
/-! ### pairs -/
abbrev P2 := Int × Int
def IsPair (p : P2) : Prop := 0 < p.2 ∧ p.2 < p.1 ∧ (p.1 - p.2) % 2 = 1 ∧ Int.gcd p.1 p.2 = 1
def one (p : P2) : P2 := (2 * p.1 + p.2, p.1)
def un (p : P2) : P2 := (p.2, p.1 - 2 * p.2)
instance (p : P2) : Decidable (IsPair p) := by unfold IsPair; infer_instance
theorem un_one (p : P2) : un (one p) = p := by
  obtain ⟨m, n⟩ := p
  show ((m, 2 * m + n - 2 * m) : P2) = (m, n)
  congr 1
  omega
theorem one_un (p : P2) : one (un p) = p := by
  obtain ⟨m, n⟩ := p
  show ((2 * n + (m - 2 * n), n) : P2) = (m, n)
  congr 1
  omega
def iter (f : P2 → P2) : Nat → P2 → P2
  | 0, p => p
  | k + 1, p => f (iter f k p)
theorem iter_add (f : P2 → P2) (a b : Nat) (p : P2) : iter f (a + b) p = iter f a (iter f b p) := by
  induction a with
  | zero => rw [Nat.zero_add]; rfl
  | succ a ih => rw [show a + 1 + b = (a + b) + 1 by omega]; show f _ = f _; rw [ih]
theorem iter_succ' (f : P2 → P2) (k : Nat) (p : P2) : iter f (k + 1) p = iter f k (f p) := iter_add f k 1 p
theorem un_iter_one (k : Nat) (p : P2) : iter un k (iter one k p) = p := by
  induction k with
  | zero => rfl
  | succ k ih => rw [iter_succ' un]; show iter un k (un (one (iter one k p))) = p; rw [un_one, ih]
theorem one_iter_un (k : Nat) (p : P2) : iter one k (iter un k p) = p := by
  induction k with
  | zero => rfl
  | succ k ih => rw [iter_succ' one]; show iter one k (one (un (iter un k p))) = p; rw [one_un, ih]

/-! ### Pell's numbers -/
/-- (at k, at k + 1) -/
def pell : Nat → P2
  | 0 => (0, 1)
  | k + 1 => ((pell k).2, 2 * (pell k).2 + (pell k).1)
theorem pell_s1 (k : Nat) : (pell (k + 1)).1 = (pell k).2 := rfl
theorem pell_s2 (k : Nat) : (pell (k + 1)).2 = 2 * (pell k).2 + (pell k).1 := rfl
/-- sums of places -/
theorem pell_add (a : Nat) : ∀ b : Nat, (pell (a + b)).1 = (pell a).1 * ((pell b).2 - 2 * (pell b).1) + (pell a).2 * (pell b).1 ∧ (pell (a + b)).2 = (pell a).1 * (pell b).1 + (pell a).2 * (pell b).2
  | 0 => by constructor <;> simp [pell]
  | b + 1 => by
    obtain ⟨h1, h2⟩ := pell_add a b
    constructor
    · show (pell (a + b)).2 = _
      rw [h2, pell_s1, pell_s2]
      grind
    · show 2 * (pell (a + b)).2 + (pell (a + b)).1 = _
      rw [h1, h2, pell_s1, pell_s2]
      grind
theorem pell_dbl (k : Nat) : pell (2 * k) = (2 * (pell k).1 * ((pell k).2 - (pell k).1), (pell k).1 * (pell k).1 + (pell k).2 * (pell k).2) := by
  obtain ⟨h1, h2⟩ := pell_add k k
  rw [show 2 * k = k + k by omega]
  refine Prod.ext ?_ h2
  rw [h1]
  grind
theorem pell_pos : ∀ k : Nat, 0 ≤ (pell k).1 ∧ (pell k).1 < (pell k).2 ∧ (pell k).2 ≤ 3 ^ k
  | 0 => by decide
  | k + 1 => by
    obtain ⟨h1, h2, h3⟩ := pell_pos k
    refine ⟨?_, ?_, ?_⟩
    · rw [pell_s1]; omega
    · rw [pell_s1, pell_s2]; omega
    · rw [pell_s2, Int.pow_succ]; omega
/-- step 1, k times -/
theorem one_pell (m n : Int) : ∀ k : Nat, iter one k (m, n) = ((pell k).2 * m + (pell k).1 * n, (pell k).1 * m + ((pell k).2 - 2 * (pell k).1) * n)
  | 0 => by simp [pell, iter]
  | k + 1 => by
    show one (iter one k (m, n)) = _
    rw [one_pell m n k, pell_s1, pell_s2]
    refine Prod.ext ?_ ?_
    · show 2 * ((pell k).2 * m + (pell k).1 * n) + ((pell k).1 * m + ((pell k).2 - 2 * (pell k).1) * n) = _
      grind
    · show (pell k).2 * m + (pell k).1 * n = _
      grind
def sgn (k : Nat) : Int := if k % 2 = 0 then 1 else -1
theorem sgn_s (k : Nat) : sgn (k + 1) = - sgn k := by
  unfold sgn
  by_cases h : k % 2 = 0
  · rw [if_pos h, if_neg (by omega)]
  · rw [if_neg h, if_pos (by omega)]; rfl
/-- .. and back -/
theorem un_pell (m n : Int) : ∀ k : Nat, iter un k (m, n) = (sgn k * (((pell k).2 - 2 * (pell k).1) * m - (pell k).1 * n), sgn k * ((pell k).2 * n - (pell k).1 * m))
  | 0 => by simp [pell, iter, sgn]
  | k + 1 => by
    show un (iter un k (m, n)) = _
    rw [un_pell m n k, pell_s1, pell_s2, sgn_s]
    refine Prod.ext ?_ ?_
    · show sgn k * ((pell k).2 * n - (pell k).1 * m) = _
      grind
    · show sgn k * (((pell k).2 - 2 * (pell k).1) * m - (pell k).1 * n) - 2 * (sgn k * ((pell k).2 * n - (pell k).1 * m)) = _
      grind

/-! ### steps -/
def led (p : P2) (s : Int) (t : Nat) : P2 :=
  if s = 0 then (p.1 + (p.1 - p.2) * t, p.2 + (p.1 - p.2) * t)
  else if s = 2 then (p.1 + 2 * p.2 * t, p.2)
  else iter one t p
def ledBack (p : P2) (s : Int) (t : Nat) : P2 :=
  if s = 0 then (p.1 - (p.1 - p.2) * t, p.2 - (p.1 - p.2) * t)
  else if s = 2 then (p.1 - 2 * p.2 * t, p.2)
  else iter un t p
def Ok2 (p : P2) : Prop := 0 < p.2 ∧ p.2 < p.1
theorem ok_one {p : P2} (h : Ok2 p) : Ok2 (one p) := by
  obtain ⟨m, n⟩ := p
  obtain ⟨h1, h2⟩ := h
  refine ⟨?_, ?_⟩
  · show 0 < m
    have : 0 < n := h1
    have : n < m := h2
    omega
  · show m < 2 * m + n
    have : 0 < n := h1
    have : n < m := h2
    omega
theorem ok_iter {p : P2} (h : Ok2 p) : ∀ k, Ok2 (iter one k p)
  | 0 => h
  | k + 1 => ok_one (ok_iter h k)
theorem led_zero (p : P2) (s : Int) : led p s 0 = p := by
  unfold led
  split
  · simp
  · split
    · simp
    · rfl
/-- one by one -/
theorem led_succ (p : P2) (s : Int) (t : Nat) : led p s (t + 1) = led (led p s t) s 1 := by
  unfold led
  by_cases h0 : s = 0
  · simp only [if_pos h0]
    refine Prod.ext ?_ ?_
    · show p.1 + (p.1 - p.2) * ((t + 1 : Nat) : Int) = (p.1 + (p.1 - p.2) * t) + ((p.1 + (p.1 - p.2) * t) - (p.2 + (p.1 - p.2) * t)) * ((1 : Nat) : Int)
      rw [Int.natCast_add]
      grind
    · show p.2 + (p.1 - p.2) * ((t + 1 : Nat) : Int) = (p.2 + (p.1 - p.2) * t) + ((p.1 + (p.1 - p.2) * t) - (p.2 + (p.1 - p.2) * t)) * ((1 : Nat) : Int)
      rw [Int.natCast_add]
      grind
  · simp only [if_neg h0]
    by_cases h2 : s = 2
    · simp only [if_pos h2]
      refine Prod.ext ?_ rfl
      show p.1 + 2 * p.2 * ((t + 1 : Nat) : Int) = (p.1 + 2 * p.2 * t) + 2 * p.2 * ((1 : Nat) : Int)
      rw [Int.natCast_add]
      grind
    · simp only [if_neg h2]
      rfl
theorem ledBack_led (p : P2) (s : Int) (t : Nat) : ledBack (led p s t) s t = p := by
  unfold led ledBack
  by_cases h0 : s = 0
  · simp only [if_pos h0]
    refine Prod.ext ?_ ?_
    · show (p.1 + (p.1 - p.2) * t) - ((p.1 + (p.1 - p.2) * t) - (p.2 + (p.1 - p.2) * t)) * (t : Int) = p.1
      grind
    · show (p.2 + (p.1 - p.2) * t) - ((p.1 + (p.1 - p.2) * t) - (p.2 + (p.1 - p.2) * t)) * (t : Int) = p.2
      grind
  · simp only [if_neg h0]
    by_cases h2 : s = 2
    · simp only [if_pos h2]
      refine Prod.ext ?_ rfl
      show (p.1 + 2 * p.2 * t) - 2 * p.2 * t = p.1
      omega
    · simp only [if_neg h2]
      exact un_iter_one t p
theorem led_ledBack (p : P2) (s : Int) (t : Nat) : led (ledBack p s t) s t = p := by
  unfold led ledBack
  by_cases h0 : s = 0
  · simp only [if_pos h0]
    refine Prod.ext ?_ ?_
    · show (p.1 - (p.1 - p.2) * t) + ((p.1 - (p.1 - p.2) * t) - (p.2 - (p.1 - p.2) * t)) * (t : Int) = p.1
      grind
    · show (p.2 - (p.1 - p.2) * t) + ((p.1 - (p.1 - p.2) * t) - (p.2 - (p.1 - p.2) * t)) * (t : Int) = p.2
      grind
  · simp only [if_neg h0]
    by_cases h2 : s = 2
    · simp only [if_pos h2]
      refine Prod.ext ?_ rfl
      show (p.1 - 2 * p.2 * t) + 2 * p.2 * t = p.1
      omega
    · simp only [if_neg h2]
      exact one_iter_un t p
theorem led_ok {p : P2} (h : Ok2 p) (s : Int) : ∀ t, Ok2 (led p s t)
  | 0 => by rw [led_zero]; exact h
  | t + 1 => by
    rw [led_succ]
    have ih := led_ok h s t
    generalize led p s t = q at ih
    obtain ⟨m, n⟩ := q
    obtain ⟨h1, h2⟩ := ih
    have h1 : 0 < n := h1
    have h2 : n < m := h2
    unfold led
    split
    · refine ⟨?_, ?_⟩
      · show 0 < n + (m - n) * ((1 : Nat) : Int); omega
      · show n + (m - n) * ((1 : Nat) : Int) < m + (m - n) * ((1 : Nat) : Int); omega
    · split
      · refine ⟨h1, ?_⟩
        show n < m + 2 * n * ((1 : Nat) : Int)
        omega
      · exact ok_one ⟨h1, h2⟩
theorem led_pair1 {p : P2} (h : IsPair p) (s : Int) : IsPair (led p s 1) := by
  obtain ⟨m, n⟩ := p
  obtain ⟨h1, h2, h3, h4⟩ := h
  have h1 : 0 < n := h1
  have h2 : n < m := h2
  have h3 : (m - n) % 2 = 1 := h3
  have h4 : Int.gcd m n = 1 := h4
  obtain ⟨o1, o2⟩ := led_ok (p := (m, n)) ⟨h1, h2⟩ s 1
  refine ⟨o1, o2, ?_, ?_⟩ <;> clear o1 o2 <;> unfold led
  · split
    · show ((m + (m - n) * ((1 : Nat) : Int)) - (n + (m - n) * ((1 : Nat) : Int))) % 2 = 1; omega
    · split
      · show ((m + 2 * n * ((1 : Nat) : Int)) - n) % 2 = 1; omega
      · show ((2 * m + n) - m) % 2 = 1; omega
  · have key : ∀ a b : Int, (∀ d : Int, d ∣ a → d ∣ b → d ∣ m ∧ d ∣ n) → Int.gcd a b = 1 := fun a b hd => by
      obtain ⟨q1, q2⟩ := hd (Int.gcd a b : Int) (Int.gcd_dvd_left ..) (Int.gcd_dvd_right ..)
      have := Int.dvd_gcd q1 q2
      rw [h4] at this
      have : (Int.gcd a b) ∣ 1 := by exact_mod_cast this
      exact Nat.dvd_one.mp this
    split
    · refine key _ _ fun d q1 q2 => ?_
      have q1 : d ∣ m + (m - n) * ((1 : Nat) : Int) := q1
      have q2 : d ∣ n + (m - n) * ((1 : Nat) : Int) := q2
      have e : n + (m - n) * ((1 : Nat) : Int) = m := by omega
      rw [e] at q2
      refine ⟨q2, ?_⟩
      have e2 : n = 2 * m - (m + (m - n) * ((1 : Nat) : Int)) := by omega
      rw [e2]
      exact Int.dvd_sub (Int.dvd_mul_of_dvd_right q2) q1
    · split
      · refine key _ _ fun d q1 q2 => ⟨?_, q2⟩
        have q1 : d ∣ m + 2 * n * ((1 : Nat) : Int) := q1
        have q2 : d ∣ n := q2
        have e2 : m = (m + 2 * n * ((1 : Nat) : Int)) - 2 * n := by omega
        rw [e2]
        exact Int.dvd_sub q1 (Int.dvd_mul_of_dvd_right q2)
      · refine key _ _ fun d q1 q2 => ⟨q2, ?_⟩
        have q1 : d ∣ 2 * m + n := q1
        have q2 : d ∣ m := q2
        have e2 : n = (2 * m + n) - 2 * m := by omega
        rw [e2]
        exact Int.dvd_sub q1 (Int.dvd_mul_of_dvd_right q2)
theorem led_pair {p : P2} (h : IsPair p) (s : Int) : ∀ t, IsPair (led p s t)
  | 0 => by rw [led_zero]; exact h
  | t + 1 => by rw [led_succ]; exact led_pair1 (led_pair h s t) s

/-! ### the last step -/
def lastStep (p : P2) : Int := if p.1 < 2 * p.2 then 0 else if p.1 < 3 * p.2 then 1 else 2
theorem lastStep_of {p : P2} (h : Ok2 p) {s : Int} (hs : s = 0 ∨ s = 1 ∨ s = 2) (t : Nat) : lastStep (led p s (t + 1)) = s := by
  rw [led_succ]
  have ih := led_ok h s t
  generalize led p s t = q at ih
  obtain ⟨m, n⟩ := q
  obtain ⟨h1, h2⟩ := ih
  have h1 : 0 < n := h1
  have h2 : n < m := h2
  rcases hs with rfl | rfl | rfl
  · show (if m + (m - n) * ((1 : Nat) : Int) < 2 * (n + (m - n) * ((1 : Nat) : Int)) then (0 : Int) else _) = 0
    rw [if_pos (by omega)]
  · show (if 2 * m + n < 2 * m then (0 : Int) else if 2 * m + n < 3 * m then 1 else 2) = 1
    rw [if_neg (by omega), if_pos (by omega)]
  · show (if m + 2 * n * ((1 : Nat) : Int) < 2 * n then (0 : Int) else if m + 2 * n * ((1 : Nat) : Int) < 3 * n then 1 else 2) = 2
    rw [if_neg (by omega), if_neg (by omega)]
/-- where no step s may have come last -/
abbrev root : P2 := (2, 1)
def NotLast (s : Int) (p : P2) : Prop := p = root ∨ lastStep p ≠ s
theorem root_pair : IsPair root := ⟨by decide, by decide, by decide, by decide⟩
/-- the two at the borders -/
theorem at_two {p : P2} (h : IsPair p) (e : p.1 = 2 * p.2) : p = (2, 1) := by
  obtain ⟨m, n⟩ := p
  obtain ⟨h1, h2, h3, h4⟩ := h
  have e : m = 2 * n := e
  have h4 : Int.gcd m n = 1 := h4
  have h1 : 0 < n := h1
  have q : n ∣ (Int.gcd m n : Int) := Int.dvd_coe_gcd (by rw [e]; exact Int.dvd_mul_left ..) (Int.dvd_refl _)
  rw [h4] at q
  have : n = 1 := by
    have := Int.le_of_dvd (by decide) q
    omega
  subst this
  subst e
  rfl
theorem not_three {p : P2} (h : IsPair p) : p.1 ≠ 3 * p.2 := by
  intro e
  obtain ⟨m, n⟩ := p
  obtain ⟨h1, h2, h3, h4⟩ := h
  have e : m = 3 * n := e
  have h3 : (m - n) % 2 = 1 := h3
  omega

/-- how often step 0, step 2 came last -/
theorem times0 {p : P2} (h : IsPair p) (hl : NotLast 0 p) (t : Nat) : ((led p 0 t).2 - 1) / ((led p 0 t).1 - (led p 0 t).2) = t := by
  obtain ⟨m, n⟩ := p
  obtain ⟨h1, h2, h3, h4⟩ := id h
  have h1 : 0 < n := h1
  have h2 : n < m := h2
  have hg : n ≤ m - n := by
    rcases hl with e | e
    · cases e; decide
    · unfold lastStep at e
      split at e
      · exact absurd rfl e
      · rename_i z
        have : ¬ m < 2 * n := z
        omega
  show ((n + (m - n) * t) - 1) / ((m + (m - n) * t) - (n + (m - n) * t)) = (t : Int)
  have e1 : (m + (m - n) * t) - (n + (m - n) * t) = m - n := by omega
  have e2 : (n + (m - n) * t) - 1 = (n - 1) + (m - n) * t := by omega
  rw [e1, e2, Int.add_mul_ediv_left _ _ (by omega), Int.ediv_eq_zero_of_lt (by omega) (by omega), Int.zero_add]
theorem times2 {p : P2} (h : IsPair p) (hl : NotLast 2 p) (t : Nat) : ((led p 2 t).1 - (led p 2 t).2) / (2 * (led p 2 t).2) = t := by
  obtain ⟨m, n⟩ := p
  obtain ⟨h1, h2, h3, h4⟩ := id h
  have h1 : 0 < n := h1
  have h2 : n < m := h2
  have hg : m < 3 * n := by
    rcases hl with e | e
    · cases e; decide
    · unfold lastStep at e
      split at e
      · have : m < 2 * n := by assumption
        omega
      · split at e
        · assumption
        · exact absurd rfl e
  show ((m + 2 * n * t) - n) / (2 * n) = (t : Int)
  have e2 : (m + 2 * n * t) - n = (m - n) + 2 * n * t := by omega
  rw [e2, Int.add_mul_ediv_left _ _ (by omega), Int.ediv_eq_zero_of_lt (by omega) (by omega), Int.zero_add]
/-- .. and step 1: one step back is none -/
theorem un_not {p : P2} (h : IsPair p) (hl : NotLast 1 p) : ¬ Ok2 (un p) := by
  obtain ⟨m, n⟩ := p
  obtain ⟨h1, h2, h3, h4⟩ := id h
  have h1 : 0 < n := h1
  have h2 : n < m := h2
  rintro ⟨q1, q2⟩
  have q1 : 0 < m - 2 * n := q1
  have q2 : m - 2 * n < n := q2
  rcases hl with e | e
  · cases e; omega
  · unfold lastStep at e
    rw [if_neg (show ¬ m < 2 * n by omega), if_pos (show m < 3 * n by omega)] at e
    exact e rfl
theorem leap_ok {p : P2} (h : IsPair p) (hl : NotLast 1 p) (t j : Nat) : Ok2 (iter un j (iter one t p)) ↔ j ≤ t := by
  obtain ⟨h1, h2, _, _⟩ := id h
  constructor
  · intro q
    refine Nat.le_of_not_lt fun hj => ?_
    obtain ⟨d, rfl⟩ : ∃ d, j = d + 1 + t := ⟨j - t - 1, by omega⟩
    rw [iter_add, un_iter_one, iter_succ'] at q
    have := ok_iter q d
    rw [one_iter_un] at this
    exact un_not h hl this
  · intro hj
    obtain ⟨d, rfl⟩ : ∃ d, t = j + d := ⟨t - j, by omega⟩
    rw [iter_add, un_iter_one]
    exact ok_iter ⟨h1, h2⟩ d
theorem back_iter {p : P2} {t j : Nat} (hj : j ≤ t) : iter un j (iter one t p) = iter one (t - j) p := by
  obtain ⟨d, rfl⟩ : ∃ d, t = j + d := ⟨t - j, by omega⟩
  rw [iter_add, un_iter_one, Nat.add_sub_cancel_left]

/-! ### rows -/
abbrev Row := List (Int × Nat)
def behind : P2 → Row → P2
  | p, [] => p
  | p, (s, t) :: r => behind (led p s t) r
theorem behind_append (p : P2) (a b : Row) : behind p (a ++ b) = behind (behind p a) b := by
  induction a generalizing p with
  | nil => rfl
  | cons x a ih => obtain ⟨s, t⟩ := x; exact ih _
/-- a row whose first step is not l -/
def Good : Int → Row → Prop
  | _, [] => True
  | l, (s, t) :: r => (s = 0 ∨ s = 1 ∨ s = 2) ∧ s ≠ l ∧ 0 < t ∧ (s = 1 → t ≤ 1000) ∧ Good s r
theorem good_pair {p : P2} (h : IsPair p) : ∀ r : Row, IsPair (behind p r)
  | [] => h
  | (s, t) :: r => good_pair (led_pair h s t) r

theorem one_up {p : P2} (h : Ok2 p) : p.1 < (one p).1 := by
  obtain ⟨m, n⟩ := p
  obtain ⟨h1, h2⟩ := h
  have h1 : 0 < n := h1
  have h2 : n < m := h2
  show m < 2 * m + n
  omega
theorem iter_up {p : P2} (h : Ok2 p) : ∀ a b : Nat, a ≤ b → (iter one a p).1 ≤ (iter one b p).1
  | a, 0, hab => by rw [Nat.le_zero.mp hab]; exact Int.le_refl _
  | a, b + 1, hab => by
    by_cases e : a = b + 1
    · rw [e]; exact Int.le_refl _
    · exact Int.le_trans (iter_up h a b (by omega)) (Int.le_of_lt (one_up (ok_iter h b)))
theorem led_up1 {p : P2} (h : Ok2 p) (s : Int) : p.1 < (led p s 1).1 := by
  obtain ⟨m, n⟩ := p
  obtain ⟨h1, h2⟩ := id h
  have h1 : 0 < n := h1
  have h2 : n < m := h2
  unfold led
  split
  · show m < m + (m - n) * ((1 : Nat) : Int); omega
  · split
    · show m < m + 2 * n * ((1 : Nat) : Int); omega
    · exact one_up h
theorem led_up {p : P2} (h : Ok2 p) (s : Int) : ∀ a b : Nat, a ≤ b → (led p s a).1 ≤ (led p s b).1
  | a, 0, hab => by rw [Nat.le_zero.mp hab]; exact Int.le_refl _
  | a, b + 1, hab => by
    by_cases e : a = b + 1
    · rw [e]; exact Int.le_refl _
    · refine Int.le_trans (led_up h s a b (by omega)) ?_
      rw [led_succ]
      exact Int.le_of_lt (led_up1 (led_ok h s b) s)
theorem led_more {p : P2} (h : Ok2 p) (s : Int) {t : Nat} (ht : 0 < t) : p.1 < (led p s t).1 := by
  have := led_up h s 1 t ht
  have := led_up1 h s
  omega
theorem behind_ok {p : P2} (h : Ok2 p) : ∀ r : Row, Ok2 (behind p r)
  | [] => h
  | (s, t) :: r => behind_ok (led_ok h s t) r
theorem behind_up {p : P2} (h : Ok2 p) : ∀ r : Row, p.1 ≤ (behind p r).1
  | [] => Int.le_refl _
  | (s, t) :: r => by
    have h1 := led_up h s 0 t (Nat.zero_le _)
    rw [led_zero] at h1
    exact Int.le_trans h1 (behind_up (led_ok h s t) r)
theorem ok_of {p : P2} (h : IsPair p) : Ok2 p := ⟨h.1, h.2.1⟩
theorem behind_take_up (r : Row) (j : Nat) : (behind root (r.take j)).1 ≤ (behind root r).1 := by
  have e : behind root r = behind (behind root (r.take j)) (r.drop j) := by rw [← behind_append, List.take_append_drop]
  rw [e]
  exact behind_up (behind_ok (ok_of root_pair) _) _
/-- a row's places -/
theorem Good.at {l : Int} : ∀ {r : Row} {j : Nat} {s : Int} {t : Nat}, Good l r → r[j]? = some (s, t) → (s = 0 ∨ s = 1 ∨ s = 2) ∧ 0 < t ∧ (s = 1 → t ≤ 1000)
  | [], j, s, t, _, e => by simp at e
  | (a, b) :: r, j, s, t, g, e => by
    obtain ⟨g1, g2, g3, g4, g5⟩ := g
    cases j with
    | zero =>
      have e' := Option.some.inj e
      cases e'
      exact ⟨g1, g3, g4⟩
    | succ j => exact Good.at (j := j) g5 (by simpa using e)
theorem Good.next {l : Int} : ∀ {r : Row} {j : Nat} {s s' : Int} {t t' : Nat}, Good l r → r[j]? = some (s, t) → r[j + 1]? = some (s', t') → s' ≠ s
  | [], j, _, _, _, _, _, e, _ => by simp at e
  | (a, b) :: r, j, s, s', t, t', g, e, e2 => by
    obtain ⟨g1, g2, g3, g4, g5⟩ := g
    cases j with
    | zero =>
      have e' := Option.some.inj e
      cases e'
      have e2 : r[0]? = some (s', t') := by simpa using e2
      cases r with
      | nil => simp at e2
      | cons x r =>
        have e2' := Option.some.inj e2
        subst e2'
        exact g5.2.1
    | succ j => exact Good.next (j := j) g5 (by simpa using e) (by simpa using e2)
theorem behind_snoc (p : P2) (r : Row) (s : Int) (t : Nat) : behind p (r ++ [(s, t)]) = led (behind p r) s t := by rw [behind_append]; rfl
theorem take_snoc {r : Row} {j : Nat} {x : Int × Nat} (h : r[j]? = some x) : r.take (j + 1) = r.take j ++ [x] := by
  rw [List.take_add_one, h]; rfl
/-- at place j of a good row the step may be told -/
theorem row_last {r : Row} {l : Int} {j : Nat} {s : Int} {t : Nat} (g : Good l r) (e : r[j]? = some (s, t)) : NotLast s (behind root (r.take j)) := by
  cases j with
  | zero => exact .inl rfl
  | succ j =>
    have hj : j < r.length := by
      have := (List.getElem?_eq_some_iff.mp e).1
      omega
    have e0 : r[j]? = some r[j] := List.getElem?_eq_getElem hj
    generalize r[j] = x at e0
    obtain ⟨s0, t0⟩ := x
    obtain ⟨a1, a2, a3⟩ := g.at e0
    refine .inr ?_
    rw [take_snoc e0, behind_snoc]
    obtain ⟨t1, rfl⟩ : ∃ t1, t0 = t1 + 1 := ⟨t0 - 1, by omega⟩
    rw [lastStep_of (behind_ok (ok_of root_pair) _) a1 t1]
    exact fun z => g.next e0 e z.symm
end Sq

namespace Sq
open PySem PySem.Spec PyProof.Rows L2 Evl

/-! ### room for isqrt and the like -/
theorem wpAny_roomInverse {M : Model} {A : Around} {E : Value → Shared → Prop} {s : Shared} {n : Nat} {Q : Unit → Shared → Prop} (hl : s.heap.NoLimit) (hd : A.depth + Builtin.pylongFrames < recursionLimit) (hs : SeerAt M A s.heap) (h : Q () s) :
    wpAny M A (Builtin.roomForPylongsInverse n) Q E s := by
  unfold Builtin.roomForPylongsInverse
  by_cases hb : n.log2 / 30 + 1 > 450
  · rw [if_pos hb]
    refine wpAny_bind (hs A.units s E _ rfl ?_)
    exact wpAny_pylongFrames hl hd h
  · rw [if_neg hb]
    exact wpAny_pure h
theorem isqrt_any {prog : Program} {w : World} {A : Around} {E : Value → Shared → Prop} {s : Shared} {Q : Value → Shared → Prop} {a : Int} {t : Tok} (h0 : 0 ≤ a) (h1 : a.toNat.log2 ≤ 200000)
    (hl : s.heap.NoLimit) (hd : A.depth + Builtin.pylongFrames < recursionLimit) (hs : SeerAt (model prog w) A s.heap) (h : Q (.int ((Float64.isqrt a.toNat : Nat) : Int) s.toks) { s with toks := s.toks + 1 }) :
    wpAny (model prog w) A (call (.builtin "math.isqrt") [.int a t]) Q E s := by
  refine Calls.call_function_entry PySem.W.MGF.kind_isqrt PySem.W.MGF.plain_isqrt PySem.W.MGF.entry_isqrt (PySem.W.MGF.args_isqrt _) ?_
  obtain ⟨hp, g, d, tk, os⟩ := s
  have hc0 : ¬ a < 0 := by omega
  have hc1 : ¬ a.toNat.log2 > 200000 := by omega
  wp_walk using (wpAny_roomInverse (A := A.in1) hl hd hs)
  exact ⟨_, rfl, h⟩

/-! ### math.isqrt -/
def rIsqrt : List V → Hp → VK → Prop := fun vs H Q => ∃ a : Int, vs = [.int a] ∧ 0 ≤ a ∧ a.toNat.log2 ≤ 200000 ∧ Q (.int ((Float64.isqrt a.toNat : Nat) : Int)) H
section
variable {X : Cx}
theorem seer_of {pins : List (Addr × Obj)} {σ : L2.St} {H : Hp} {s : Shared} (I : Inv X pins σ H s) (hS : X.base.NoSeer) (ht : X.prog.given.tree = none) (hk : X.stack = X.env :: X.outer)
    (hg : X.env.scope.isGenerator = false) (hc : X.env.scope.isCoroutine = false) : SeerAt (model X.prog X.w) X.A s.heap :=
  SeerAt.of (hS.keeps I.bk) ht (I.ok.frames.trans (by rw [hk])) hg hc I.ok.blt I.ok.glob
/-- of great numbers, in a def's own body -/
theorem cr_isqrt {k : Nat} (hS : X.base.NoSeer) (ht : X.prog.given.tree = none) (hk : X.stack = X.env :: X.outer) (hg : X.env.scope.isGenerator = false) (hc : X.env.scope.isCoroutine = false) (hr : Room k X.A) (h32 : 32 ≤ k) :
    CallR X (.builtin "math.isqrt") rIsqrt := by
  intro pins s σ H vs us Q I r h
  obtain ⟨a, rfl, h0, h1, q⟩ := h
  obtain ⟨u, rfl, t, rfl⟩ : ∃ u, us = [u] ∧ RelV (.int a) u := by
    cases r with
    | cons p q => cases q; exact ⟨_, rfl, p⟩
  refine isqrt_any h0 h1 I.nolimit ?_ (seer_of I hS ht hk hg hc) ⟨.int _, H, I.tok _, ⟨_, rfl⟩, q⟩
  have := hr.dp
  show X.A.depth + 100 < recursionLimit
  omega
/-- of small ones, anywhere -/
def rIsqrtS : List V → Hp → VK → Prop := fun vs H Q => ∃ a : Int, vs = [.int a] ∧ 0 ≤ a ∧ a < 2 ^ 64 ∧ Q (.int ((Float64.isqrt a.toNat : Nat) : Int)) H
theorem cr_isqrtS : CallR X (.builtin "math.isqrt") rIsqrtS := by
  intro pins s σ H vs us Q I r h
  obtain ⟨a, rfl, h0, h1, q⟩ := h
  obtain ⟨u, rfl, t, rfl⟩ : ∃ u, us = [u] ∧ RelV (.int a) u := by
    cases r with
    | cons p q => cases q; exact ⟨_, rfl, p⟩
  exact PySem.W.mg_isqrt h0 h1 ⟨.int _, H, I.tok _, ⟨_, rfl⟩, q⟩

/-! ### // of any size where C does it, in place too -/
theorem op_fdivP : OpR X (binaryOp .FloorDiv) (rI CDivP fun i j => .int (i / j)) := opI fun i j _ _ _ _ _ hc q => by
  have h1 : (0 : Int) < j := hc.1
  exact floordiv_int (by omega) (by rw [Int.fdiv_eq_ediv_of_nonneg i (by omega)]; exact q) (.inl hc.2)
/-- of any size at all, in a def's own body -/
theorem op_fdivB {k : Nat} (hS : X.base.NoSeer) (ht : X.prog.given.tree = none) (hk : X.stack = X.env :: X.outer) (hg : X.env.scope.isGenerator = false) (hc : X.env.scope.isCoroutine = false) (hr : Room k X.A) (h32 : 32 ≤ k) :
    OpR X (binaryOp .FloorDiv) (rI (fun _ j => 0 < j) fun i j => .int (i / j)) := by
  intro pins s σ H x y v u Q I rx ry h
  obtain ⟨i, j, rfl, rfl, h1, q⟩ := h
  obtain ⟨t, rfl⟩ := rx
  obtain ⟨t', rfl⟩ := ry
  have h1 : (0 : Int) < j := h1
  have hd : X.A.depth + Builtin.pylongFrames < recursionLimit := by
    have := hr.dp
    show X.A.depth + 100 < recursionLimit
    omega
  refine floordiv_int (by omega) ?_ (.inr (PylongRoom.of I.nolimit hd (seer_of I hS ht hk hg hc)))
  rw [Int.fdiv_eq_ediv_of_nonneg i (by omega)]
  exact ⟨.int _, H, I.tok _, ⟨_, rfl⟩, q⟩
theorem iop_fdivP : OpR X (inplaceOp .FloorDiv) (rI CDivP fun i j => .int (i / j)) := opI fun i j _ _ _ _ _ hc q => by
  have h1 : (0 : Int) < j := hc.1
  exact ifloordiv_int (by omega) (by rw [Int.fdiv_eq_ediv_of_nonneg i (by omega)]; exact q) (.inl hc.2)
theorem ip_fdivP : PIp X .FloorDiv (rI CDivP fun i j => .int (i / j)) := fun pins s σ H x y v u Q I rx ry h => iop_fdivP pins s σ H x y v u Q I rx ry h
theorem iop_mulX : OpR X (inplaceOp .Mult) (rI CMulX fun i j => .int (i * j)) := opI fun _ _ _ _ _ _ _ hc q => imul_int q hc.ok
theorem ip_mulX : PIp X .Mult (rI CMulX fun i j => .int (i * j)) := fun pins s σ H x y v u Q I rx ry h => iop_mulX pins s σ H x y v u Q I rx ry h
end
theorem divs {i j : Int} (h : 0 < j) (h2 : j < 1073741824) : CDivP i j := ⟨h, PyProof.noPylong_small (by omega)⟩
theorem hu64 {A : Around} {k : Nat} (hr : Room k A) : A.units + 64 < cLine := hr.units

/-! ### rules with the written part named (within a comprehension) -/
section
variable {X : Cx} {K : PySem.W.Frag}
theorem k_ixL (h : X.K = K) : IxR X (rIxL K) := by subst h; exact ix_list
theorem k_ixT (h : X.K = K) : IxR X (rIxT K) := by subst h; exact ix_tup
theorem k_isi (h : X.K = K) : CallR X (.builtin "isinstance") (rIsi K) := by subst h; exact call_isi
theorem k_len (h : X.K = K) : CallR X (.builtin "len") (rLenS K) := by subst h; exact call_len_seq
theorem k_list (h : X.K = K) : CallR X (.type "list") (rListS K) := by subst h; exact call_list_of
theorem k_all (h : X.K = K) (hc : X.calm = true) : CallR X (.builtin "all") (rAll K) := by subst h; exact cr_all hc
theorem k_eqD (h : X.K = K) (hu : X.A.units + 64 < cLine) : OpR X (compareOp .Eq) (rEqD K) := by subst h; exact op_eqD hu
theorem k_neD (h : X.K = K) (hu : X.A.units + 64 < cLine) : OpR X (compareOp .NotEq) (rNeD K) := by subst h; exact op_neD hu
end

/-! ### xs.count(x), data of any depth -/
def rCntD (K : PySem.W.Frag) : V → List V → Hp → VK → Prop := fun x xs H Q => ∃ (p : Addr) (y : V) (d : PyData) (ds : List PyData), x = .ref p ∧ xs = [y] ∧ Dp K H (.ref p) (.list ds) ∧ Dp K H y d ∧ SeqAt.shaped (.list ds) = true ∧ SeqAt.shaped d = true ∧
  Q (.int ((ds.countP fun z => PyData.eqv z d : Nat) : Int)) H
theorem mt_countD {X : Cx} {K : PySem.W.Frag} (hK : X.K = K) (hu : X.A.units + 65 < cLine) : MtR X "list.count" (rCntD K) := by
  subst hK
  intro pins s σ H x xs v us Q I rx rxs h
  obtain ⟨a, y, d, ds, rfl, rfl, hl, hy, sl, sd, q⟩ := h
  cases rx
  cases rxs with
  | cons ry rt =>
    rename_i uy ut
    cases rt
    obtain ⟨bs, r1⟩ := Dp.reads I d y uy hy ry
    cases hl with
    | lst hs ha =>
      obtain ⟨its, rv, pl, hlen⟩ := I.list hs
      obtain ⟨as, h4⟩ := Dp.readsAll I ds _ its ha rv
      have hroom : X.A.units + 1 + min (PyData.depthAll ds) d.depth < cLine := by
        have h1 := SeqAt.depth_of_shaped sd
        have h2 : min (PyData.depthAll ds) d.depth ≤ d.depth := Nat.min_le_right _ _
        omega
      exact SeqAt.count_list_data pl.isList h4 r1 (PyData.plainAll_of_canLay0 ds (SeqAt.canLay_of_shaped sl)) (PyData.plain_of_canLay0 d (SeqAt.canLay_of_shaped sd)) hroom ⟨.int _, H, I.tok _, ⟨_, rfl⟩, q⟩
theorem hu65 {A : Around} {k : Nat} (hr : Room k A) : A.units + 65 < cLine := by have := hr.un; omega

/-! ### a def that stands in the module, with its promise -/
structure Cal (P : Program) (w : World) (K : PySem.W.Frag) (mg : Str → Option Value) (base : Heap) (CX : CXT) (x : Str) (k : Nat) (ps : List Str) (sp : Sp) : Prop where
  ex : ∃ f fd, mg x = some (.ref f) ∧ PySem.W.keepIn K (.ref f) = true ∧ Binds K fd ps [] ∧ FnOk P w K mg base CX k f fd ps sp
theorem pe_cal {X : Cx} {CX : CXT} {x : Str} {k : Nat} {ps : List Str} {sp : Sp} {E : XK} {e : Expr} {es : List Expr} {t : TA} {p pos : Pos} (C : Cal X.prog X.w X.K X.mg X.base CX x k ps sp) (hr : Room k X.A) (hg : Gl X x) (hx : Passes CX X E) (ha : PA X (e :: es) t)
    (hdb : (x == ("__debug__" : Str)) = false := by decide) (he : starEach (e :: es) X.env = (false, eval e X.env) :: starEach es X.env := by rfl) (hpl : (backTo pos (starEach es X.env)).any (·.1) = false := by rfl) :
    PE X (.Call (.Name x p) (e :: es) [] pos) (tCall sp [] E t) := by
  obtain ⟨f, fd, hm, hk, hb, F⟩ := C.ex
  exact pe_call F hr hg hm hk hb .nil hx ha hdb he hpl

/-! ### what evaluates to what data -/
theorem dp_ex {K : PySem.W.Frag} {H H' : Hp} (e : Ex H H') : ∀ {d : PyData} {v : V}, Dp K H v d → Dp K H' v d := by
  have key : (∀ (d : PyData) (v : V), Dp K H v d → Dp K H' v d) ∧ (∀ (ds : List PyData) (vs : List V), DpAll K H vs ds → DpAll K H' vs ds) ∧ (∀ kvs : List (PyData × PyData), True) ∧ (∀ kv : PyData × PyData, True) := by
    refine ⟨?_, ?_, fun _ => trivial, fun _ => trivial⟩
    · intro d v h
      exact h.rec (motive_1 := fun v d _ => Dp K H' v d) (motive_2 := fun vs ds _ => DpAll K H' vs ds) .non .bl .int .str (fun h _ ih => .lst (ex_l e h) ih) (fun h _ ih => .tup (ex_t e h) ih) .nil (fun _ _ a b => .cons a b)
    · intro ds vs h
      exact h.rec (motive_1 := fun v d _ => Dp K H' v d) (motive_2 := fun vs ds _ => DpAll K H' vs ds) .non .bl .int .str (fun h _ ih => .lst (ex_l e h) ih) (fun h _ ih => .tup (ex_t e h) ih) .nil (fun _ _ a b => .cons a b)
  exact fun {d v} h => key.1 d v h
theorem dpa_ex {K : PySem.W.Frag} {H H' : Hp} (e : Ex H H') {ds : List PyData} {vs : List V} (h : DpAll K H vs ds) : DpAll K H' vs ds :=
  h.rec (motive_1 := fun v d _ => Dp K H' v d) (motive_2 := fun vs ds _ => DpAll K H' vs ds) .non .bl .int .str (fun h _ ih => .lst (ex_l e h) ih) (fun h _ ih => .tup (ex_t e h) ih) .nil (fun _ _ a b => .cons a b)
theorem DpAll.len {K : PySem.W.Frag} {H : Hp} : ∀ {ds : List PyData} {vs : List V}, DpAll K H vs ds → vs.length = ds.length
  | [], _, h => by cases h; rfl
  | _ :: _, _, h => by
    cases h with
    | cons a b => rw [List.length_cons, List.length_cons, DpAll.len b]
end Sq

namespace Sq
open PySem PySem.Spec PyProof.Rows L2 Evl
/-! ### data behind a value; an empty dict too -/
mutual
inductive DV (K : PySem.W.Frag) (H : Hp) : V → PyData → Prop
  | non : DV K H .non .none
  | bl (b : Bool) : DV K H (.bl b) (.bool b)
  | int (i : Int) : DV K H (.int i) (.int i)
  | str (x : Str) : DV K H (.str x) (.str x)
  | lst {a : Addr} {xs : List V} {ds : List PyData} : SqL K H a xs → DVs K H xs ds → DV K H (.ref a) (.list ds)
  | tup {a : Addr} {xs : List V} {ds : List PyData} : SqT K H a xs → DVs K H xs ds → DV K H (.ref a) (.tuple ds)
  | dct {a : Addr} : H a = some (.dK []) → DV K H (.ref a) (.dict [])
inductive DVs (K : PySem.W.Frag) (H : Hp) : List V → List PyData → Prop
  | nil : DVs K H [] []
  | cons {v : V} {vs : List V} {d : PyData} {ds : List PyData} : DV K H v d → DVs K H vs ds → DVs K H (v :: vs) (d :: ds)
end
section
variable {K : PySem.W.Frag} {H H' : Hp}
mutual
theorem dv_ex (e : Ex H H') : ∀ (d : PyData) (v : V), DV K H v d → DV K H' v d
  | .none, _, h => by cases h; exact .non
  | .bool _, _, h => by cases h; exact .bl _
  | .int _, _, h => by cases h; exact .int _
  | .str _, _, h => by cases h; exact .str _
  | .list ds, _, h => by
    cases h with
    | lst a b => exact .lst (ex_l e a) (dvs_ex e ds _ b)
  | .tuple ds, _, h => by
    cases h with
    | tup a b => exact .tup (ex_t e a) (dvs_ex e ds _ b)
  | .dict _, _, h => by
    cases h with
    | dct a => exact .dct (e _ _ a)
theorem dvs_ex (e : Ex H H') : ∀ (ds : List PyData) (vs : List V), DVs K H vs ds → DVs K H' vs ds
  | [], _, h => by cases h; exact .nil
  | d :: ds, _, h => by
    cases h with
    | cons a b => exact .cons (dv_ex e d _ a) (dvs_ex e ds _ b)
end
theorem DV.ex {d : PyData} {v : V} (h : DV K H v d) (e : Ex H H') : DV K H' v d := dv_ex e d v h
theorem DVs.ex {ds : List PyData} {vs : List V} (h : DVs K H vs ds) (e : Ex H H') : DVs K H' vs ds := dvs_ex e ds vs h
mutual
theorem dv_dp : ∀ (d : PyData) (v : V), d.canLay0 = true → DV K H v d → Dp K H v d
  | .none, _, _, h => by cases h; exact .non
  | .bool _, _, _, h => by cases h; exact .bl _
  | .int _, _, _, h => by cases h; exact .int _
  | .str _, _, _, h => by cases h; exact .str _
  | .list ds, _, c, h => by
    cases h with
    | lst a b => exact .lst a (dvs_dp ds _ (by simpa [PyData.canLay0] using c) b)
  | .tuple ds, _, c, h => by
    cases h with
    | tup a b => exact .tup a (dvs_dp ds _ (by simpa [PyData.canLay0] using c) b)
  | .dict _, _, c, h => by simp [PyData.canLay0] at c
theorem dvs_dp : ∀ (ds : List PyData) (vs : List V), PyData.canLayAll0 ds = true → DVs K H vs ds → DpAll K H vs ds
  | [], _, _, h => by cases h; exact .nil
  | d :: ds, _, c, h => by
    have c' : d.canLay0 = true ∧ PyData.canLayAll0 ds = true := by simpa [PyData.canLayAll0] using c
    cases h with
    | cons a b => exact .cons (dv_dp d _ c'.1 a) (dvs_dp ds _ c'.2 b)
end
theorem DV.dp {d : PyData} {v : V} (h : DV K H v d) (c : SeqAt.shaped d = true) : Dp K H v d := dv_dp d v (SeqAt.canLay_of_shaped c) h
theorem DVs.len : ∀ {ds : List PyData} {vs : List V}, DVs K H vs ds → vs.length = ds.length
  | [], _, h => by cases h; rfl
  | _ :: _, _, h => by
    cases h with
    | cons a b => rw [List.length_cons, List.length_cons, DVs.len b]
theorem DVs.get : ∀ {ds : List PyData} {vs : List V} {i : Nat} {v : V}, DVs K H vs ds → vs[i]? = some v → ∃ d, ds[i]? = some d ∧ DV K H v d
  | [], _, i, v, h, e => by cases h; simp at e
  | d :: ds, _, i, v, h, e => by
    cases h with
    | cons a b =>
      cases i with
      | zero =>
        have e' := Option.some.inj e
        subst e'
        exact ⟨d, rfl, a⟩
      | succ i =>
        obtain ⟨d', h1, h2⟩ := DVs.get (i := i) b (by simpa using e)
        exact ⟨d', by simpa using h1, h2⟩
theorem DVs.get' : ∀ {ds : List PyData} {vs : List V} {i : Nat} {d : PyData}, DVs K H vs ds → ds[i]? = some d → ∃ v, vs[i]? = some v ∧ DV K H v d
  | [], _, i, v, h, e => by cases h; simp at e
  | d :: ds, _, i, v, h, e => by
    cases h with
    | cons a b =>
      cases i with
      | zero =>
        have e' := Option.some.inj e
        subst e'
        exact ⟨_, rfl, a⟩
      | succ i =>
        obtain ⟨v', h1, h2⟩ := DVs.get' (i := i) b (by simpa using e)
        exact ⟨v', by simpa using h1, h2⟩
theorem DVs.append : ∀ {ds es : List PyData} {vs ws : List V}, DVs K H vs ds → DVs K H ws es → DVs K H (vs ++ ws) (ds ++ es)
  | [], _, _, _, h, g => by cases h; exact g
  | d :: ds, _, _, _, h, g => by
    cases h with
    | cons a b => exact .cons a (DVs.append b g)
theorem DVs.take : ∀ {ds : List PyData} {vs : List V} (n : Nat), DVs K H vs ds → DVs K H (vs.take n) (ds.take n)
  | _, _, 0, _ => by rw [List.take_zero, List.take_zero]; exact .nil
  | [], _, n + 1, h => by cases h; exact .nil
  | d :: ds, _, n + 1, h => by
    cases h with
    | cons a b => exact .cons a (DVs.take n b)
theorem DVs.drop : ∀ {ds : List PyData} {vs : List V} (n : Nat), DVs K H vs ds → DVs K H (vs.drop n) (ds.drop n)
  | _, _, 0, h => h
  | [], _, n + 1, h => by cases h; exact .nil
  | d :: ds, _, n + 1, h => by
    cases h with
    | cons a b => exact DVs.drop n b
theorem DVs.reverse : ∀ {ds : List PyData} {vs : List V}, DVs K H vs ds → DVs K H vs.reverse ds.reverse
  | [], _, h => by cases h; exact .nil
  | d :: ds, _, h => by
    cases h with
    | cons a b => rw [List.reverse_cons, List.reverse_cons]; exact (DVs.reverse b).append (.cons a .nil)
theorem DVs.of_map {α : Type} {f : α → V} {g : α → PyData} : ∀ {xs : List α}, (∀ x ∈ xs, DV K H (f x) (g x)) → DVs K H (xs.map f) (xs.map g)
  | [], _ => .nil
  | x :: xs, h => .cons (h x List.mem_cons_self) (DVs.of_map fun y hy => h y (List.mem_cons_of_mem _ hy))
/-- what holds tuples of numbers alone stays, whatever becomes of the lists -/
def TEx (H H' : Hp) : Prop := ∀ a xs, H a = some (.tup xs) → H' a = some (.tup xs)
def flatT : PyData → Bool
  | .tuple xs => xs.all fun | .int _ => true | .bool _ => true | .str _ => true | .none => true | _ => false
  | .int _ => true
  | .bool _ => true
  | .str _ => true
  | .none => true
  | _ => false
end

/-! ### what evaluates to what data -/
def EvD (K : PySem.W.Frag) (te : TE) (σ : L2.St) (H : Hp) (d : PyData) : Prop := ∀ H1, Ex H H1 → ∀ Q : VK, (∀ v H2, Ex H1 H2 → DV K H2 v d → Q v H2) → te σ H1 Q
def EvDA (K : PySem.W.Frag) (ta : TA) (σ : L2.St) (H : Hp) (ds : List PyData) : Prop := ∀ H1, Ex H H1 → ∀ Q : List V → Hp → Prop, (∀ vs H2, Ex H1 H2 → DVs K H2 vs ds → Q vs H2) → ta σ H1 Q
/-- a promise of data: R args result -/
def RetD (K : PySem.W.Frag) (d : PyData) (H : Hp) (Q : VK) : Prop := ∀ v H2, Ex H H2 → DV K H2 v d → Q v H2
def spF (K : PySem.W.Frag) (R : List PyData → PyData → Prop) : Sp := fun vs H Q _ => ∃ ds d, DVs K H vs ds ∧ R ds d ∧ RetD K d H Q
/-- .. of a new list -/
def RetDL (K : PySem.W.Frag) (ds : List PyData) (H : Hp) (Q : VK) : Prop := ∀ p vs H2, H p = none → Ex H H2 → H2 p = some (.lst vs) → DVs K H2 vs ds → Q (.ref p) H2
def spL (K : PySem.W.Frag) (R : List PyData → List PyData → Prop) : Sp := fun vs H Q _ => ∃ ds es, DVs K H vs ds ∧ R ds es ∧ RetDL K es H Q
section
variable {K : PySem.W.Frag} {σ : L2.St} {H H' : Hp} {ta tb te tx : TE} {t u : TT} {x y z v : V} {r : R2} {d e : PyData} {ds es : List PyData} {tA tB' : TA}
theorem EvD.mono (x : Ex H H') (h : EvD K te σ H d) : EvD K te σ H' d := fun H1 a Q q => h H1 (x.trans a) Q q
theorem EvDA.mono (x : Ex H H') (h : EvDA K tA σ H ds) : EvDA K tA σ H' ds := fun H1 a Q q => h H1 (x.trans a) Q q
theorem ed_of (h : Ev te σ H v) (hd : DV K H v d) : EvD K te σ H d := fun H1 a Q q => h H1 a Q fun H2 b => q v H2 b (hd.ex (a.trans b))
theorem ed_var {i : Nat} (h : σ[i]? = some (some v)) (hd : DV K H v d) : EvD K (tVar i) σ H d := ed_of (ev_var h) hd
theorem ed_int {i : Int} (h : Ev te σ H (.int i)) : EvD K te σ H (.int i) := ed_of h (.int i)
theorem ed_bl {b : Bool} (h : Ev te σ H (.bl b)) : EvD K te σ H (.bool b) := ed_of h (.bl b)
theorem ed_non (h : Ev te σ H .non) : EvD K te σ H .none := ed_of h .non
theorem ed_str {s : Str} (h : Ev te σ H (.str s)) : EvD K te σ H (.str s) := ed_of h (.str s)
theorem ev_intD {i : Int} (h : EvD K te σ H (.int i)) : Ev te σ H (.int i) := fun H1 a Q q => h H1 a Q fun v H2 b hv => by cases hv; exact q H2 b
theorem ev_blD {b : Bool} (h : EvD K te σ H (.bool b)) : Ev te σ H (.bl b) := fun H1 a Q q => h H1 a Q fun v H2 b hv => by cases hv; exact q H2 b
theorem ev_nonD (h : EvD K te σ H .none) : Ev te σ H .non := fun H1 a Q q => h H1 a Q fun v H2 b hv => by cases hv; exact q H2 b
theorem eda_nil : EvDA K tNil σ H [] := fun H1 _ _ q => q [] H1 (Ex.refl H1) .nil
theorem eda_cons (h : EvD K te σ H d) (hr : EvDA K tA σ H ds) : EvDA K (tCons te tA) σ H (d :: ds) := fun H1 a _ q =>
  h H1 a _ fun v H2 b hv => hr H2 (a.trans b) _ fun vs H3 c hvs => q (v :: vs) H3 (b.trans c) (.cons (hv.ex c) hvs)
theorem ed_tup (h : EvDA K tA σ H ds) (hl : ds.length ≤ 100000) : EvD K (tTup tA) σ H (.tuple ds) := fun H1 a _ q =>
  h H1 a _ fun vs H2 b hvs => ⟨sz_of (by rw [hvs.len]; exact hl), fun p hp => q _ _ (b.trans (Ex.new hp)) (.tup (st_of upd_same) (hvs.ex (Ex.new hp)))⟩
theorem ed_lst (h : EvDA K tA σ H ds) (hl : ds.length ≤ 100000) : EvD K (tLst tA) σ H (.list ds) := fun H1 a _ q =>
  h H1 a _ fun vs H2 b hvs => ⟨sz_of (by rw [hvs.len]; exact hl), fun p hp => q _ _ (b.trans (Ex.new hp)) (.lst (sq_of upd_same) (hvs.ex (Ex.new hp)))⟩
theorem ed_call {R : List PyData → PyData → Prop} {E : XK} (h : EvDA K tA σ H ds) (hR : R ds d) : EvD K (tCall (spF K R) [] E tA) σ H d := fun H1 a _ q =>
  h H1 a _ fun vs H2 b hvs => ⟨ds, d, by rw [List.append_nil]; exact hvs, hR, fun v H3 c hv => q v H3 (b.trans c) hv⟩
theorem ed_callL {R : List PyData → List PyData → Prop} {E : XK} (h : EvDA K tA σ H ds) (hR : R ds es) : EvD K (tCall (spL K R) [] E tA) σ H (.list es) := fun H1 a _ q =>
  h H1 a _ fun vs H2 b hvs => ⟨ds, es, by rw [List.append_nil]; exact hvs, hR, fun p vs H3 _ c hp hv => q _ H3 (b.trans c) (.lst (sq_of hp) hv)⟩
theorem ev_eqD (ha : EvD K ta σ H d) (hb : EvD K tb σ H e) (sd : SeqAt.shaped d = true) (se : SeqAt.shaped e = true) : Ev (tOp (rEqD K) ta tb) σ H (.bl (PyData.eqv d e)) := fun H1 a _ q =>
  ha H1 a _ fun v H2 b hv => hb H2 (a.trans b) _ fun w H3 c hw => ⟨d, e, (hv.ex c).dp sd, hw.dp se, sd, se, q H3 (b.trans c)⟩
theorem ev_neD (ha : EvD K ta σ H d) (hb : EvD K tb σ H e) (sd : SeqAt.shaped d = true) (se : SeqAt.shaped e = true) : Ev (tOp (rNeD K) ta tb) σ H (.bl (!PyData.eqv d e)) := fun H1 a _ q =>
  ha H1 a _ fun v H2 b hv => hb H2 (a.trans b) _ fun w H3 c hw => ⟨d, e, (hv.ex c).dp sd, hw.dp se, sd, se, q H3 (b.trans c)⟩
theorem atI_dv {xs : List V} {i : Int} {j : Nat} {w : V} (hj : i = (j : Int)) (h : xs[j]? = some w) : atI xs i = some w := at_of hj h
theorem ed_ixT {i : Int} {j : Nat} (ha : EvD K ta σ H (.tuple ds)) (hb : Ev tb σ H (.int i)) (hj : i = (j : Int)) (h : ds[j]? = some d) : EvD K (tOp (rIxT K) ta tb) σ H d := fun H1 a _ q =>
  ha H1 a _ fun v H2 b hv => hb H2 (a.trans b) _ fun H3 c => by
    cases hv with
    | @tup p xs _ hp hx =>
      obtain ⟨w, h1, h2⟩ := hx.get' h
      exact ⟨p, xs, i, w, rfl, rfl, ex_t c hp, atI_dv hj h1, q w H3 (b.trans c) (h2.ex c)⟩
theorem ed_ixL {i : Int} {j : Nat} (ha : EvD K ta σ H (.list ds)) (hb : Ev tb σ H (.int i)) (hj : i = (j : Int)) (h : ds[j]? = some d) : EvD K (tOp (rIxL K) ta tb) σ H d := fun H1 a _ q =>
  ha H1 a _ fun v H2 b hv => hb H2 (a.trans b) _ fun H3 c => by
    cases hv with
    | @lst p xs _ hp hx =>
      obtain ⟨w, h1, h2⟩ := hx.get' h
      exact ⟨p, xs, i, w, rfl, rfl, ex_l c hp, atI_dv hj h1, q w H3 (b.trans c) (h2.ex c)⟩
theorem at_end {α : Type} {xs : List α} {v : α} (h : xs[xs.length - 1]? = some v) : atI xs (-1) = some v := by
  have h2 : xs.getLast? = some v := by rw [List.getLast?_eq_getElem?]; exact h
  have hne : xs ≠ [] := by
    intro z
    subst z
    simp at h2
  have h3 : xs.dropLast ++ [v] = xs := by
    have := List.dropLast_concat_getLast hne
    rw [List.getLast?_eq_some_getLast hne] at h2
    rw [← Option.some.inj h2]
    exact this
  rw [← h3]
  exact atI_last _ _
/-- xs[-1] -/
theorem ed_ixLast (ha : EvD K ta σ H (.list ds)) (hb : Ev tb σ H (.int (-1))) (h : ds[ds.length - 1]? = some d) : EvD K (tOp (rIxL K) ta tb) σ H d := fun H1 a _ q =>
  ha H1 a _ fun v H2 b hv => hb H2 (a.trans b) _ fun H3 c => by
    cases hv with
    | @lst p xs _ hp hx =>
      obtain ⟨w, h1, h2⟩ := hx.get' h
      have h0 : ds.length - 1 < ds.length := (List.getElem?_eq_some_iff.mp h).1
      rw [← hx.len] at h1
      exact ⟨p, xs, -1, w, rfl, rfl, ex_l c hp, at_end h1, q w H3 (b.trans c) (h2.ex c)⟩
theorem ev_lenT (ha : EvD K ta σ H (.tuple ds)) : Ev (tCB (rLenS K) (tCons ta tNil)) σ H (.int (ds.length : Int)) := fun H1 a _ q =>
  ha H1 a _ fun v H2 b hv => by
    cases hv with
    | @tup p xs _ hp hx => exact ⟨p, xs, rfl, .inr hp, by rw [hx.len]; exact q H2 b⟩
theorem ev_lenL (ha : EvD K ta σ H (.list ds)) : Ev (tCB (rLenS K) (tCons ta tNil)) σ H (.int (ds.length : Int)) := fun H1 a _ q =>
  ha H1 a _ fun v H2 b hv => by
    cases hv with
    | @lst p xs _ hp hx => exact ⟨p, xs, rfl, .inl hp, by rw [hx.len]; exact q H2 b⟩
/-- the class's name of data -/
def tyN : PyData → String
  | .none => "NoneType" | .bool _ => "bool" | .int _ => "int" | .str _ => "str" | .list _ => "list" | .tuple _ => "tuple" | .dict _ => "dict"
theorem tyx_of (h : DV K H v d) : TyX K H v (.type (tyN d)) := by
  cases h with
  | non => exact .base .non
  | bl b => exact .base (.bl b)
  | int i => exact .base (.int i)
  | str s => exact .base (.str s)
  | lst hp _ =>
    rcases hp with (hp | ⟨o, hp⟩) | ⟨o, its, n, hk, hc, _⟩
    · exact .base (.lst hp)
    · exact .base (.frz hp)
    · exact .kList hk hc
  | tup hp _ =>
    rcases hp with (hp | ⟨o, hp⟩) | ⟨o, its, n, hk, hc, _⟩
    · exact .base (.tup hp)
    · exact .fTuple hp
    · exact .kTuple hk hc
  | dct hp => exact .base (.dK hp)
theorem ev_isi {n : String} {b : Bool} (ha : EvD K ta σ H d) (hb : kitB (tyN d) n = some b) : Ev (tCB (rIsi K) (tCons ta (tCons (tC (.ty n)) tNil))) σ H (.bl b) := fun H1 a _ q =>
  ha H1 a _ fun v H2 c hv => ⟨v, .ty n, _, _, b, rfl, .ty n, tyx_of hv, kit_ty hb, q H2 c⟩
theorem ev_chain {r' : R2} {tc : TE} {b1 b2 : Bool} (ha : Ev ta σ H x) (hb : Ev tb σ H y) (h1 : RV r x y H (.bl b1)) (hc : b1 = true → Ev tc σ H z) (h2 : b1 = true → RV r' y z H (.bl b2)) : Ev (tChain r r' ta tb tc) σ H (.bl (b1 && b2)) := fun H1 a Q q =>
  ha H1 a _ fun H2 b => hb H2 (a.trans b) _ fun H3 c => h1 H3 ((a.trans b).trans c) _ fun H4 f => ⟨b1, rfl, by
    cases b1 with
    | true =>
      rw [if_pos rfl]
      exact hc rfl H4 (((a.trans b).trans c).trans f) _ fun H5 g => h2 rfl H5 ((((a.trans b).trans c).trans f).trans g) Q fun H6 k => q H6 ((((b.trans c).trans f).trans g).trans k)
    | false =>
      rw [if_neg Bool.false_ne_true]
      exact q H4 ((b.trans c).trans f)⟩
theorem ev_all {bs : List Bool} (h : EvL te σ H (bs.map V.bl)) : Ev (tCB (rAll K) (tCons te tNil)) σ H (.bl (bs.all id)) := fun H1 a Q q =>
  h H1 a _ fun p H2 _ b hp => ⟨p, bs, rfl, sq_of hp, q H2 b⟩
theorem ev_isq {a : Int} (h : Ev te σ H (.int a)) (h0 : 0 ≤ a) (h1 : a.toNat.log2 ≤ 200000) : Ev (tCB rIsqrt (tCons te tNil)) σ H (.int ((Float64.isqrt a.toNat : Nat) : Int)) := fun H1 x Q q =>
  h H1 x _ fun H2 b => ⟨a, rfl, h0, h1, q H2 b⟩
theorem ev_isqS {a : Int} (h : Ev te σ H (.int a)) (h0 : 0 ≤ a) (h1 : a < 2 ^ 64) : Ev (tCB rIsqrtS (tCons te tNil)) σ H (.int ((Float64.isqrt a.toNat : Nat) : Int)) := fun H1 x Q q =>
  h H1 x _ fun H2 b => ⟨a, rfl, h0, h1, q H2 b⟩
theorem ev_gcd {a b : Int} (h : Ev ta σ H (.int a)) (h' : Ev tb σ H (.int b)) : Ev (tCB rGcd (tCons ta (tCons tb tNil))) σ H (.int ((Int.gcd a b : Nat) : Int)) := fun H1 x Q q =>
  h H1 x _ fun H2 e2 => h' H2 (x.trans e2) _ fun H3 e3 => ⟨a, b, rfl, q H3 (e2.trans e3)⟩
theorem ev_bits {a : Int} (h : Ev te σ H (.int a)) : Ev (tBits te) σ H (.int ((Builtin.Int.intBits a : Nat) : Int)) := fun H1 x Q q =>
  h H1 x _ fun H2 e2 => ⟨a, rfl, q H2 e2⟩

/-! ### comprehensions over data, a truth a turn -/
theorem given_all (n : Nat) (v : Nat → V) : given n (fun _ => true) v = (List.range n).map v := by
  unfold given
  congr 1
  exact List.filter_eq_self.mpr fun _ _ => rfl
theorem el_lcT {a : Addr} {xs : List V} {tl : TE} {j : Nat} {vs : List Nat} (f : Nat → Bool) (v : Nat → V) (h : Ev tl σ H (.ref a)) (hx : SqT K H a xs) (hz : xs.length ≤ 40000) (hw : ∀ x, wipe ((wipe σ vs).set j (some x)) vs = wipe σ vs)
    (ht : ∀ (i : Nat) (x : V) H1, Ex H H1 → xs[i]? = some x → EvT t ((wipe σ vs).set j (some x)) H1 (f i)) (he : ∀ (i : Nat) (x : V) H1, Ex H H1 → xs[i]? = some x → f i = true → Ev te ((wipe σ vs).set j (some x)) H1 (v i)) :
    EvL (tLc (iTup K tl) (gName j) t te vs) σ H (given xs.length f v) := fun H0 e Q q => h H0 e _ fun H1 e1 => ⟨a, rfl, ⟨xs, ex_t (e.trans e1) hx⟩, fun Dl hD =>
  lc_tup (xs := xs) (Cw H1 f v Dl) ⟨hD, Ex.new hD, upd_same⟩ (fun i H' _ p => ex_t ((e.trans e1).trans p.2.1) hx) (fun i x H' hi p => ⟨hw x, cw_turn p (by have := (List.getElem?_eq_some_iff.mp hi).1; omega) (ht i x H1 (e.trans e1) hi) (fun hf => he i x H1 (e.trans e1) hi hf)⟩)
    (fun H' p => q Dl H' (fresh_back e1 p.1) (e1.trans p.2.1) p.2.2)⟩
theorem map_range_get {α : Type} {n : Nat} {ds : List PyData} {f : PyData → α} {dflt : PyData} (hn : n = ds.length) : (List.range n).map (fun i => f (ds.getD i dflt)) = ds.map f := by
  subst hn
  apply List.ext_getElem?
  intro i
  rw [List.getElem?_map, List.getElem?_map]
  by_cases hi : i < ds.length
  · rw [List.getElem?_range hi]
    simp [hi, List.getD]
  · rw [List.getElem?_eq_none (by rw [List.length_range]; omega), List.getElem?_eq_none (by omega)]
    rfl
theorem tYes_t : EvT tYes σ H true := fun H1 _ _ q => q H1 (Ex.refl H1)
theorem all_lcT {tl : TE} {j : Nat} {vs : List Nat} (f : PyData → Bool) (h : EvD K tl σ H (.tuple ds)) (hz : ds.length ≤ 40000) (hw : ∀ x, wipe ((wipe σ vs).set j (some x)) vs = wipe σ vs)
    (he : ∀ (d : PyData) (x : V) H1, Ex H H1 → d ∈ ds → DV K H1 x d → Ev te ((wipe σ vs).set j (some x)) H1 (.bl (f d))) :
    Ev (tCB (rAll K) (tCons (tLc (iTup K tl) (gName j) tYes te vs) tNil)) σ H (.bl (ds.all f)) := by
  intro H0 e Q q
  refine h H0 e _ fun w H1 e1 hw1 => ?_
  cases hw1 with
  | @tup a xs _ hp hx =>
    have hlen := hx.len
    refine ⟨a, rfl, ⟨xs, hp⟩, fun Dl hD => lc_tup (xs := xs) (Cw H1 (fun _ => true) (fun i => V.bl (f (ds.getD i .none))) Dl) ⟨hD, Ex.new hD, upd_same⟩ (fun i H' _ p => ex_t p.2.1 hp) (fun i x H' hi p => ⟨hw x, cw_turn p (by have := (List.getElem?_eq_some_iff.mp hi).1; omega) tYes_t fun _ => ?_⟩) fun H' p => ?_⟩
    · obtain ⟨d, h1, h2⟩ := hx.get hi
      have e2 : ds.getD i .none = d := by rw [List.getD, h1]; rfl
      rw [e2]
      exact he d x H1 (e.trans e1) (List.mem_of_getElem? h1) h2
    · have e3 := p.2.2
      rw [given_all, hlen] at e3
      have e4 : (List.range ds.length).map (fun i => V.bl (f (ds.getD i .none))) = (ds.map f).map V.bl := by
        rw [map_range_get (f := fun d => V.bl (f d)) rfl, List.map_map]
        rfl
      rw [e4] at e3
      refine ⟨Dl, ds.map f, rfl, sq_of e3, ?_⟩
      have e5 : (ds.map f).all id = ds.all f := by rw [List.all_map]; rfl
      rw [e5]
      exact q H' (e1.trans p.2.1)
theorem all_lcL {tl : TE} {j : Nat} {vs : List Nat} (f : PyData → Bool) (h : EvD K tl σ H (.list ds)) (hz : ds.length ≤ 40000) (hw : ∀ x, wipe ((wipe σ vs).set j (some x)) vs = wipe σ vs)
    (he : ∀ (d : PyData) (x : V) H1, Ex H H1 → d ∈ ds → DV K H1 x d → Ev te ((wipe σ vs).set j (some x)) H1 (.bl (f d))) :
    Ev (tCB (rAll K) (tCons (tLc (iList K tl) (gName j) tYes te vs) tNil)) σ H (.bl (ds.all f)) := by
  intro H0 e Q q
  refine h H0 e _ fun w H1 e1 hw1 => ?_
  cases hw1 with
  | @lst a xs _ hp hx =>
    have hlen := hx.len
    refine ⟨a, rfl, ⟨xs, hp⟩, fun Dl hD => lc_list (xs := xs) (Cw H1 (fun _ => true) (fun i => V.bl (f (ds.getD i .none))) Dl) ⟨hD, Ex.new hD, upd_same⟩ (fun i H' _ p => ex_l p.2.1 hp) (fun i x H' hi p => ⟨hw x, cw_turn p (by have := (List.getElem?_eq_some_iff.mp hi).1; omega) tYes_t fun _ => ?_⟩) fun H' p => ?_⟩
    · obtain ⟨d, h1, h2⟩ := hx.get hi
      have e2 : ds.getD i .none = d := by rw [List.getD, h1]; rfl
      rw [e2]
      exact he d x H1 (e.trans e1) (List.mem_of_getElem? h1) h2
    · have e3 := p.2.2
      rw [given_all, hlen] at e3
      have e4 : (List.range ds.length).map (fun i => V.bl (f (ds.getD i .none))) = (ds.map f).map V.bl := by
        rw [map_range_get (f := fun d => V.bl (f d)) rfl, List.map_map]
        rfl
      rw [e4] at e3
      refine ⟨Dl, ds.map f, rfl, sq_of e3, ?_⟩
      have e5 : (ds.map f).all id = ds.all f := by rw [List.all_map]; rfl
      rw [e5]
      exact q H' (e1.trans p.2.1)

theorem all_lcR2 {tA : TA} {j : Nat} {vs : List Nat} {lo hi : Int} {n : Nat} (f : Nat → Bool) (h : EvA tA σ H [.int lo, .int hi]) (hn : n = (hi - lo).toNat) (hb : -100000 ≤ lo ∧ lo ≤ 100000 ∧ -100000 ≤ hi ∧ hi ≤ 40000 ∧ n ≤ 40000) (hw : ∀ x, wipe ((wipe σ vs).set j (some x)) vs = wipe σ vs)
    (he : ∀ (i : Nat) H1, Ex H H1 → i < n → Ev te ((wipe σ vs).set j (some (.int (lo + (i : Int))))) H1 (.bl (f i))) :
    Ev (tCB (rAll K) (tCons (tLc (iRng2 tA) (gName j) tYes te vs) tNil)) σ H (.bl ((List.range n).all f)) := by
  intro H0 e Q q
  refine h H0 e _ fun H1 e1 => ⟨lo, hi, rfl, ⟨by omega, by omega, by omega, by omega⟩, fun Dl hD => ?_⟩
  rw [← hn]
  refine lc_range (lo := lo) (n := n) (Cw H1 (fun _ => true) (fun i => V.bl (f i)) Dl) ⟨hD, Ex.new hD, upd_same⟩ (fun i H' hi p => ⟨hw _, cw_turn p (by omega) tYes_t fun _ => he i H1 (e.trans e1) hi⟩) fun H' p => ?_
  have e3 := p.2.2
  rw [given_all] at e3
  have e4 : (List.range n).map (fun i => V.bl (f i)) = ((List.range n).map f).map V.bl := by rw [List.map_map]; rfl
  rw [e4] at e3
  refine ⟨Dl, (List.range n).map f, rfl, sq_of e3, ?_⟩
  have e5 : ((List.range n).map f).all id = (List.range n).all f := by rw [List.all_map]; rfl
  rw [e5]
  exact q H' (e1.trans p.2.1)

/-! ### statements -/
variable {D : Ends} {tu tw tz : TS} {g : TG}
theorem s_asgD {i : Nat} (h : EvD K te σ H d) (k : ∀ v H1, Ex H H1 → DV K H1 v d → D.nx (σ.set i (some v)) H1) : tAsg te (gName i) D σ H := h H (Ex.refl H) _ fun v H1 e hv => k v H1 e hv
theorem q_asgD {i : Nat} (h : EvD K te σ H d) (k : ∀ v H1, Ex H H1 → DV K H1 v d → tz D (σ.set i (some v)) H1) : tSeq (tAsg te (gName i)) tz D σ H := s_asgD (D := { D with nx := tz D }) h k
theorem s_retD (h : EvD K te σ H d) (k : RetD K d H D.rt) : tRet te D σ H := h H (Ex.refl H) _ fun v H1 e hv => k v H1 e hv
theorem s_dropD (h : EvD K te σ H d) (k : ∀ H1, Ex H H1 → D.nx σ H1) : tDrop te D σ H := h H (Ex.refl H) _ fun _ H1 e _ => k H1 e
/-- a, b = e -/
theorem s_un2 {i j : Nat} {d1 d2 : PyData} (h : EvD K te σ H (.tuple [d1, d2])) (k : ∀ v1 v2 H1, Ex H H1 → DV K H1 v1 d1 → DV K H1 v2 d2 → D.nx ((σ.set i (some v1)).set j (some v2)) H1) : tAsg te (gTup K 2 (gCons (gName i) (gCons (gName j) gNil))) D σ H :=
  h H (Ex.refl H) _ fun v H1 e hv => by
    cases hv with
    | @tup p xs _ hp hx =>
      cases hx with
      | cons a hx =>
        cases hx with
        | cons b hx =>
          cases hx
          exact ⟨p, _, rfl, hp, rfl, _, _, rfl, _, _, rfl, rfl, k _ _ H1 e a b⟩
theorem s_un2i {i j : Nat} {a b : Int} (h : EvD K te σ H (.tuple [.int a, .int b])) (k : ∀ H1, Ex H H1 → D.nx ((σ.set i (some (.int a))).set j (some (.int b))) H1) : tAsg te (gTup K 2 (gCons (gName i) (gCons (gName j) gNil))) D σ H :=
  s_un2 h fun v1 v2 H1 e h1 h2 => by cases h1; cases h2; exact k H1 e
theorem q_un2 {i j : Nat} {d1 d2 : PyData} (h : EvD K te σ H (.tuple [d1, d2])) (k : ∀ v1 v2 H1, Ex H H1 → DV K H1 v1 d1 → DV K H1 v2 d2 → tz D ((σ.set i (some v1)).set j (some v2)) H1) : tSeq (tAsg te (gTup K 2 (gCons (gName i) (gCons (gName j) gNil)))) tz D σ H :=
  s_un2 (D := { D with nx := tz D }) h k
theorem q_un2i {i j : Nat} {a b : Int} (h : EvD K te σ H (.tuple [.int a, .int b])) (k : ∀ H1, Ex H H1 → tz D ((σ.set i (some (.int a))).set j (some (.int b))) H1) : tSeq (tAsg te (gTup K 2 (gCons (gName i) (gCons (gName j) gNil)))) tz D σ H :=
  s_un2i (D := { D with nx := tz D }) h k
theorem s_un3i {i j l : Nat} {a b c : Int} (h : EvD K te σ H (.tuple [.int a, .int b, .int c])) (k : ∀ H1, Ex H H1 → D.nx (((σ.set i (some (.int a))).set j (some (.int b))).set l (some (.int c))) H1) :
    tAsg te (gTup K 3 (gCons (gName i) (gCons (gName j) (gCons (gName l) gNil)))) D σ H :=
  h H (Ex.refl H) _ fun v H1 e hv => by
    cases hv with
    | @tup p xs _ hp hx =>
      cases hx with
      | cons a hx =>
        cases hx with
        | cons b hx =>
          cases hx with
          | cons c hx =>
            cases hx; cases a; cases b; cases c
            exact ⟨p, _, rfl, hp, rfl, _, _, rfl, _, _, rfl, _, _, rfl, rfl, k H1 e⟩
theorem q_un3i {i j l : Nat} {a b c : Int} (h : EvD K te σ H (.tuple [.int a, .int b, .int c])) (k : ∀ H1, Ex H H1 → tz D (((σ.set i (some (.int a))).set j (some (.int b))).set l (some (.int c))) H1) :
    tSeq (tAsg te (gTup K 3 (gCons (gName i) (gCons (gName j) (gCons (gName l) gNil))))) tz D σ H := s_un3i (D := { D with nx := tz D }) h k
/-- a, b = x, y -/
theorem s_par {i j : Nat} (h : EvA tA σ H [v, z]) (k : ∀ H1, Ex H H1 → D.nx ((σ.set i (some v)).set j (some z)) H1) : tPar i j tA D σ H := h H (Ex.refl H) _ fun H1 e => ⟨v, z, rfl, k H1 e⟩
theorem q_par {i j : Nat} (h : EvA tA σ H [v, z]) (k : ∀ H1, Ex H H1 → tz D ((σ.set i (some v)).set j (some z)) H1) : tSeq (tPar i j tA) tz D σ H := s_par (D := { D with nx := tz D }) h k
theorem s_parD {i j : Nat} {d1 d2 : PyData} (h : EvDA K tA σ H [d1, d2]) (k : ∀ v1 v2 H1, Ex H H1 → DV K H1 v1 d1 → DV K H1 v2 d2 → D.nx ((σ.set i (some v1)).set j (some v2)) H1) : tPar i j tA D σ H := h H (Ex.refl H) _ fun vs H1 e hv => by
  cases hv with
  | cons a hv =>
    cases hv with
    | cons b hv =>
      cases hv
      exact ⟨_, _, rfl, k _ _ H1 e a b⟩
theorem q_parD {i j : Nat} {d1 d2 : PyData} (h : EvDA K tA σ H [d1, d2]) (k : ∀ v1 v2 H1, Ex H H1 → DV K H1 v1 d1 → DV K H1 v2 d2 → tz D ((σ.set i (some v1)).set j (some v2)) H1) : tSeq (tPar i j tA) tz D σ H := s_parD (D := { D with nx := tz D }) h k
/-- x op= e, ints under a condition -/
theorem s_augI {i : Nat} {C : Int → Int → Prop} {f : Int → Int → V} {a b : Int} (hx : σ[i]? = some (some (.int a))) (h : Ev te σ H (.int b)) (hc : C a b) (k : ∀ H1, Ex H H1 → D.nx (σ.set i (some (f a b))) H1) : tAug i te (rI C f) D σ H :=
  ⟨.int a, hx, h H (Ex.refl H) _ fun H1 e => ⟨a, b, rfl, rfl, hc, k H1 e⟩⟩
theorem q_augI {i : Nat} {C : Int → Int → Prop} {f : Int → Int → V} {a b : Int} (hx : σ[i]? = some (some (.int a))) (h : Ev te σ H (.int b)) (hc : C a b) (k : ∀ H1, Ex H H1 → tz D (σ.set i (some (f a b))) H1) : tSeq (tAug i te (rI C f)) tz D σ H :=
  s_augI (D := { D with nx := tz D }) hx h hc k
/-- a test known to be false: an if is passed by; known true -/
theorem q_pass (h : EvT t σ H false) (k : ∀ H1, Ex H H1 → tz D σ H1) : tSeq (tIfS t tu tNext) tz D σ H := q_when h (fun z => Bool.noConfusion z) fun _ H1 e => k H1 e
theorem s_yes (h : EvT t σ H true) (k : ∀ H1, Ex H H1 → tu D σ H1) : tIfS t tu tw D σ H := s_if h (fun _ H1 e => k H1 e) fun z => Bool.noConfusion z
theorem s_no (h : EvT t σ H false) (k : ∀ H1, Ex H H1 → tw D σ H1) : tIfS t tu tw D σ H := s_if h (fun z => Bool.noConfusion z) fun _ H1 e => k H1 e
theorem q_taken (h : EvT t σ H true) (k : ∀ H1, Ex H H1 → tu { D with nx := tz D } σ H1) : tSeq (tIfS t tu tw) tz D σ H := q_if h (fun _ H1 e => k H1 e) fun z => Bool.noConfusion z
end

/-! ### arguments -/
section
variable {K : PySem.W.Frag} {H : Hp} {vs : List V} {d d1 d2 : PyData} {i j k l : Int}
theorem dvs1 (h : DVs K H vs [d]) : ∃ v, vs = [v] ∧ DV K H v d := by
  cases h with
  | cons a h => cases h; exact ⟨_, rfl, a⟩
theorem dvs2 (h : DVs K H vs [d1, d2]) : ∃ v w, vs = [v, w] ∧ DV K H v d1 ∧ DV K H w d2 := by
  cases h with
  | cons a h =>
    obtain ⟨w, rfl, b⟩ := dvs1 h
    exact ⟨_, w, rfl, a, b⟩
theorem dvi {v : V} (h : DV K H v (.int i)) : v = .int i := by cases h; rfl
theorem dvs1i (h : DVs K H vs [.int i]) : vs = [.int i] := by
  obtain ⟨v, rfl, a⟩ := dvs1 h
  rw [dvi a]
theorem dvs2i (h : DVs K H vs [.int i, .int j]) : vs = [.int i, .int j] := by
  cases h with
  | cons a h => rw [dvi a, dvs1i h]
theorem dvs3i (h : DVs K H vs [.int i, .int j, .int k]) : vs = [.int i, .int j, .int k] := by
  cases h with
  | cons a h => rw [dvi a, dvs2i h]
theorem dvs4i (h : DVs K H vs [.int i, .int j, .int k, .int l]) : vs = [.int i, .int j, .int k, .int l] := by
  cases h with
  | cons a h => rw [dvi a, dvs3i h]
end

/-! ### loops -/
section
variable {K : PySem.W.Frag} {σ : L2.St} {H H' : Hp} {te : TE} {tA : TA} {D : Ends} {tu tz : TS}
theorem s_forR3 {j : Nat} {lo hi c : Int} {n : Nat} (h : EvA tA σ H [.int lo, .int hi, .int c]) (hc : RgC lo hi c n) (Pv : Nat → L2.St → Hp → Prop) (h0 : ∀ H1, Ex H H1 → Pv 0 σ H1)
    (hs : ∀ (i : Nat) σ' H', i < n → Pv i σ' H' → tu { D with nx := Pv (i + 1), ct := Pv (i + 1), bk := D.nx } (σ'.set j (some (.int (lo + (i : Int) * c)))) H') (hd : ∀ σ' H', Pv n σ' H' → D.nx σ' H') : tFor (iRng3 tA) (gName j) tu D σ H :=
  h H (Ex.refl H) _ fun H1 e => ⟨lo, hi, c, n, rfl, hc, for_rangeC (lo := lo) (c := c) (n := n) Pv (h0 H1 e) (fun i σ' H' hi p => hs i σ' H' hi p) hd⟩
theorem q_forR3 {j : Nat} {lo hi c : Int} {n : Nat} (h : EvA tA σ H [.int lo, .int hi, .int c]) (hc : RgC lo hi c n) (Pv : Nat → L2.St → Hp → Prop) (h0 : ∀ H1, Ex H H1 → Pv 0 σ H1)
    (hs : ∀ (i : Nat) σ' H', i < n → Pv i σ' H' → tu { D with nx := Pv (i + 1), ct := Pv (i + 1), bk := tz D } (σ'.set j (some (.int (lo + (i : Int) * c)))) H') (hd : ∀ σ' H', Pv n σ' H' → tz D σ' H') : tSeq (tFor (iRng3 tA) (gName j) tu) tz D σ H :=
  s_forR3 (D := { D with nx := tz D }) h hc Pv h0 hs hd
/-- over a list of pairs of ints that stands still: for a, b in xs -/
theorem s_forP {i j k0 : Nat} {v : V} {xs : List (Int × Int)} (hv : σ[k0]? = some (some v)) (hx : DV K H v (.list (xs.map fun x => .tuple [.int x.1, .int x.2]))) (Pv : Nat → L2.St → Hp → Prop) (h0 : Pv 0 σ H) (hE : ∀ k σ' H', Pv k σ' H' → Ex H H')
    (hs : ∀ k a b σ' H', xs[k]? = some (a, b) → Pv k σ' H' → tu { D with nx := Pv (k + 1), ct := Pv (k + 1), bk := D.nx } ((σ'.set i (some (.int a))).set j (some (.int b))) H') (hd : ∀ σ' H', Pv xs.length σ' H' → D.nx σ' H') :
    tFor (iList K (tVar k0)) (gTup K 2 (gCons (gName i) (gCons (gName j) gNil))) tu D σ H := by
  cases hx with
  | @lst a vs _ hp hx =>
    have hlen : vs.length = xs.length := by rw [hx.len, List.length_map]
    refine ⟨_, hv, a, rfl, ⟨vs, hp⟩, for_list (xs := vs) Pv h0 (fun k σ' H' _ p => ex_l (hE k σ' H' p) hp) (fun k x σ' H' hk p => ?_) (by rw [hlen]; exact hd)⟩
    obtain ⟨d, h1, h2⟩ := hx.get hk
    rw [List.getElem?_map] at h1
    cases hxs : xs[k]? with
    | none => rw [hxs] at h1; cases h1
    | some ab =>
      rw [hxs] at h1
      obtain ⟨a', b'⟩ := ab
      cases Option.some.inj h1
      have h3 := h2.ex (hE k σ' H' p)
      cases h3 with
      | @tup q ys _ hq hy =>
        cases dvs2i hy
        exact ⟨q, _, rfl, hq, rfl, _, _, rfl, _, _, rfl, rfl, hs k a' b' σ' H' hxs p⟩
theorem q_forP {i j k0 : Nat} {v : V} {xs : List (Int × Int)} (hv : σ[k0]? = some (some v)) (hx : DV K H v (.list (xs.map fun x => .tuple [.int x.1, .int x.2]))) (Pv : Nat → L2.St → Hp → Prop) (h0 : Pv 0 σ H) (hE : ∀ k σ' H', Pv k σ' H' → Ex H H')
    (hs : ∀ k a b σ' H', xs[k]? = some (a, b) → Pv k σ' H' → tu { D with nx := Pv (k + 1), ct := Pv (k + 1), bk := tz D } ((σ'.set i (some (.int a))).set j (some (.int b))) H') (hd : ∀ σ' H', Pv xs.length σ' H' → tz D σ' H') :
    tSeq (tFor (iList K (tVar k0)) (gTup K 2 (gCons (gName i) (gCons (gName j) gNil))) tu) tz D σ H := s_forP (D := { D with nx := tz D }) hv hx Pv h0 hE hs hd
theorem el_rev {a : Addr} {xs : List V} (h : Ev te σ H (.ref a)) (hs : SqL K H a xs) : EvL (tRevL K te) σ H xs.reverse := fun H1 e _ q =>
  h H1 e _ fun H2 e2 => ⟨a, xs, rfl, ex_l (e.trans e2) hs, fun p hp => q p _ (fresh_back e2 hp) (e2.trans (Ex.new hp)) upd_same⟩
/-- a new tuple's data, a new list's -/
theorem sqT_upd {a l : Addr} {xs ys zs : List V} (hl : H l = some (.lst ys)) (h : SqT K H a xs) : SqT K (upd H l (.lst zs)) a xs := by
  rcases h with (h | ⟨o, h⟩) | h
  · exact .inl (.inl (by rw [upd_ne (ne_of h hl (by intro z; cases z))]; exact h))
  · exact .inl (.inr ⟨o, by rw [upd_ne (ne_of h hl (by intro z; cases z))]; exact h⟩)
  · exact .inr h
theorem dv_ints (h : ∀ a xs, SqT K H a xs → SqT K H' a xs) {is : List Int} {v : V} (hv : DV K H v (.tuple (is.map .int))) : DV K H' v (.tuple (is.map .int)) := by
  cases hv with
  | tup hp hx =>
    refine .tup (h _ _ hp) ?_
    have key : ∀ (is : List Int) (vs : List V), DVs K H vs (is.map .int) → DVs K H' vs (is.map .int) := by
      intro is
      induction is with
      | nil => intro vs h; cases h; exact .nil
      | cons i is ih =>
        intro vs h
        cases h with
        | cons a b => cases a; exact .cons (.int i) (ih _ b)
    exact key _ _ hx
/-- items that are tuples of ints outlive a list's change -/
theorem dvs_ints {α : Type} {f : α → List Int} (h : ∀ a xs, SqT K H a xs → SqT K H' a xs) : ∀ {xs : List α} {vs : List V}, DVs K H vs (xs.map fun x => .tuple ((f x).map .int)) → DVs K H' vs (xs.map fun x => .tuple ((f x).map .int))
  | [], _, hv => by cases hv; exact .nil
  | x :: xs, _, hv => by
    cases hv with
    | cons a b => exact .cons (dv_ints h a) (dvs_ints h b)
end

/-! ### isinstance of data -/
def isInt : PyData → Bool
  | .bool _ => true
  | .int _ => true
  | _ => false
theorem kit_int : ∀ d : PyData, kitB (tyN d) "int" = some (isInt d)
  | .none => (by decide +kernel : kitB "NoneType" "int" = some false)
  | .bool _ => (by decide +kernel : kitB "bool" "int" = some true)
  | .int _ => (by decide +kernel : kitB "int" "int" = some true)
  | .str _ => (by decide +kernel : kitB "str" "int" = some false)
  | .list _ => (by decide +kernel : kitB "list" "int" = some false)
  | .tuple _ => (by decide +kernel : kitB "tuple" "int" = some false)
  | .dict _ => (by decide +kernel : kitB "dict" "int" = some false)
def isBool : PyData → Bool
  | .bool _ => true
  | _ => false
theorem kit_bool : ∀ d : PyData, kitB (tyN d) "bool" = some (isBool d)
  | .none => (by decide +kernel : kitB "NoneType" "bool" = some false)
  | .bool _ => (by decide +kernel : kitB "bool" "bool" = some true)
  | .int _ => (by decide +kernel : kitB "int" "bool" = some false)
  | .str _ => (by decide +kernel : kitB "str" "bool" = some false)
  | .list _ => (by decide +kernel : kitB "list" "bool" = some false)
  | .tuple _ => (by decide +kernel : kitB "tuple" "bool" = some false)
  | .dict _ => (by decide +kernel : kitB "dict" "bool" = some false)
def isTuple : PyData → Bool
  | .tuple _ => true
  | _ => false
theorem kit_tuple : ∀ d : PyData, kitB (tyN d) "tuple" = some (isTuple d)
  | .none => (by decide +kernel : kitB "NoneType" "tuple" = some false)
  | .bool _ => (by decide +kernel : kitB "bool" "tuple" = some false)
  | .int _ => (by decide +kernel : kitB "int" "tuple" = some false)
  | .str _ => (by decide +kernel : kitB "str" "tuple" = some false)
  | .list _ => (by decide +kernel : kitB "list" "tuple" = some false)
  | .tuple _ => (by decide +kernel : kitB "tuple" "tuple" = some true)
  | .dict _ => (by decide +kernel : kitB "dict" "tuple" = some false)
def isList : PyData → Bool
  | .list _ => true
  | _ => false
theorem kit_list : ∀ d : PyData, kitB (tyN d) "list" = some (isList d)
  | .none => (by decide +kernel : kitB "NoneType" "list" = some false)
  | .bool _ => (by decide +kernel : kitB "bool" "list" = some false)
  | .int _ => (by decide +kernel : kitB "int" "list" = some false)
  | .str _ => (by decide +kernel : kitB "str" "list" = some false)
  | .list _ => (by decide +kernel : kitB "list" "list" = some true)
  | .tuple _ => (by decide +kernel : kitB "tuple" "list" = some false)
  | .dict _ => (by decide +kernel : kitB "dict" "list" = some false)
theorem isTuple_yes : ∀ {d : PyData}, isTuple d = true → ∃ xs, d = .tuple xs
  | .tuple xs, _ => ⟨xs, rfl⟩
theorem isList_yes : ∀ {d : PyData}, isList d = true → ∃ xs, d = .list xs
  | .list xs, _ => ⟨xs, rfl⟩
theorem rv_eqI {H : Hp} {i j : Int} : RV rEq (.int i) (.int j) H (.bl (decide (i = j))) := fun H1 _ Q q => ⟨rfl, by
  have e : decide (V.int i = V.int j) = decide (i = j) := by
    by_cases h : i = j
    · subst h; simp
    · rw [decide_eq_false h]; exact decide_eq_false fun z => h (V.int.inj z)
  show Q (.bl (decide (V.int i = V.int j))) H1
  rw [e]
  exact q H1 (Ex.refl H1)⟩
theorem rv_neI {H : Hp} {i j : Int} : RV rNe (.int i) (.int j) H (.bl (!decide (i = j))) := fun H1 _ Q q => ⟨rfl, by
  have e : decide (V.int i = V.int j) = decide (i = j) := by
    by_cases h : i = j
    · subst h; simp
    · rw [decide_eq_false h]; exact decide_eq_false fun z => h (V.int.inj z)
  show Q (.bl (!decide (V.int i = V.int j))) H1
  rw [e]
  exact q H1 (Ex.refl H1)⟩
def whole : PyData → Bool
  | .int _ => true
  | _ => false
theorem whole_eq : ∀ d : PyData, whole d = (isInt d && !isBool d)
  | .none => rfl | .bool _ => rfl | .int _ => rfl | .str _ => rfl | .list _ => rfl | .tuple _ => rfl | .dict _ => rfl
theorem spF_len {K : PySem.W.Frag} {R : List PyData → PyData → Prop} {n : Nat} (h : ∀ ds d, R ds d → ds.length = n) : ∀ vs H Q E, spF K R vs H Q E → vs.length = n := fun vs H Q E q => by
  obtain ⟨ds, d, a, b, _⟩ := q
  rw [a.len]
  exact h _ _ b
theorem spL_len {K : PySem.W.Frag} {R : List PyData → List PyData → Prop} {n : Nat} (h : ∀ ds es, R ds es → ds.length = n) : ∀ vs H Q E, spL K R vs H Q E → vs.length = n := fun vs H Q E q => by
  obtain ⟨ds, d, a, b, _⟩ := q
  rw [a.len]
  exact h _ _ b

/-! ### numbers, pairs, rows as data -/
section
theorem shaped_ints (is : List Int) : SeqAt.shaped (.tuple (is.map .int)) = true := by
  have h : ∀ is : List Int, PyData.canLayAll0 (is.map .int) = true ∧ PyData.depthAll (is.map .int) = 0 := by
    intro is
    induction is with
    | nil => exact ⟨rfl, rfl⟩
    | cons i is ih => rw [List.map_cons]; simp [PyData.canLayAll0, PyData.canLay0, PyData.depthAll, PyData.depth, ih.1, ih.2]
  unfold SeqAt.shaped
  simp [PyData.canLay0, PyData.depth, (h is).1, (h is).2]
theorem eqv_ints : ∀ is js : List Int, PyData.eqvAll (is.map .int) (js.map .int) = decide (is = js)
  | [], [] => by simp [PyData.eqvAll]
  | [], _ :: _ => by simp [PyData.eqvAll]
  | _ :: _, [] => by simp [PyData.eqvAll]
  | i :: is, j :: js => by
    rw [List.map_cons, List.map_cons]
    simp only [PyData.eqvAll, PyData.eqv, eqv_ints is js]
    by_cases h1 : i = j
    · by_cases h2 : is = js
      · simp [h1, h2]
      · simp [h1, h2]
    · simp [h1]
end
end Sq

namespace Sq
open PySem PySem.Spec PyProof.Rows L2 Evl
/-! ### data -/
def pd (p : P2) : PyData := .tuple [.int p.1, .int p.2]
def td (p : P2) : PyData := .tuple [.int (p.1 * p.1 - p.2 * p.2), .int (2 * p.1 * p.2), .int (p.1 * p.1 + p.2 * p.2)]
def sd (x : Int × Nat) : PyData := .tuple [.int x.1, .int x.2]
def rd (r : Row) : PyData := .list (r.map sd)
/-! ### sizes -/
def Sm (b : Nat) (x : Int) : Prop := x.natAbs < 2 ^ b
theorem Sm.up {a b : Nat} {x : Int} (h : Sm a x) (hab : a ≤ b) : Sm b x := Nat.lt_of_lt_of_le h (Nat.pow_le_pow_right (by decide) hab)
theorem Sm.mul {a b : Nat} {x y : Int} (h : Sm a x) (h' : Sm b y) : Sm (a + b) (x * y) := by
  show (x * y).natAbs < 2 ^ (a + b)
  rw [Int.natAbs_mul, Nat.pow_add]
  exact Nat.mul_lt_mul'' h h'
theorem Sm.add {a : Nat} {x y : Int} (h : Sm a x) (h' : Sm a y) : Sm (a + 1) (x + y) := by
  have h : x.natAbs < 2 ^ a := h
  have h' : y.natAbs < 2 ^ a := h'
  show (x + y).natAbs < 2 ^ (a + 1)
  rw [Nat.pow_succ]
  omega
theorem Sm.sub {a : Nat} {x y : Int} (h : Sm a x) (h' : Sm a y) : Sm (a + 1) (x - y) := by
  have h : x.natAbs < 2 ^ a := h
  have h' : y.natAbs < 2 ^ a := h'
  show (x - y).natAbs < 2 ^ (a + 1)
  rw [Nat.pow_succ]
  omega
theorem Sm.le {a : Nat} {x y : Int} (h : Sm a y) (h0 : 0 ≤ x) (h1 : x ≤ y) : Sm a x := by
  have h : y.natAbs < 2 ^ a := h
  show x.natAbs < 2 ^ a
  omega
theorem Sm.cm {a b : Nat} {x y : Int} (h : Sm a x) (h' : Sm b y) (hab : a + b ≤ 134217728) : CMulX x y := mulx_ok h h' hab
theorem sm_nat {b n : Nat} (h : n < 2 ^ b) : Sm b (n : Int) := by
  show (n : Int).natAbs < 2 ^ b
  omega
theorem sm2 : Sm 2 2 := show (2 : Int).natAbs < 2 ^ 2 by decide
theorem sm3 : Sm 2 3 := show (3 : Int).natAbs < 2 ^ 2 by decide
theorem sm1 : Sm 5000 ((1 : Nat) : Int) := Sm.up (show ((1 : Nat) : Int).natAbs < 2 ^ 2 by decide) (by decide)
theorem sm_log {b : Nat} {x : Int} (h : Sm b x) (hb : 0 < b) : x.toNat.log2 < b := by
  by_cases h0 : x.toNat = 0
  · rw [h0, Nat.log2_zero]; exact hb
  · refine (Nat.log2_lt h0).mpr ?_
    have h : x.natAbs < 2 ^ b := h
    omega
theorem pell_sm {t : Nat} (h : t ≤ 3000) : Sm 6001 (pell t).1 ∧ Sm 6001 (pell t).2 := by
  obtain ⟨h1, h2, h3⟩ := pell_pos t
  have h4 : (3 : Int) ^ t ≤ 2 ^ 6000 := by
    have e1 : (3 : Nat) ^ t ≤ 4 ^ t := Nat.pow_le_pow_left (by decide) t
    have e2 : (4 : Nat) ^ t = 2 ^ (2 * t) := by rw [Nat.pow_mul]
    have e3 : (2 : Nat) ^ (2 * t) ≤ 2 ^ 6000 := Nat.pow_le_pow_right (by decide) (by omega)
    have e4 : (3 : Nat) ^ t ≤ 2 ^ 6000 := by omega
    exact_mod_cast e4
  have h5 : (2 : Int) ^ 6001 = 2 * 2 ^ 6000 := by rw [Int.pow_succ]; omega
  have hp : (0 : Int) < 2 ^ 6000 := Int.pow_pos (by decide)
  have key : ∀ x : Int, 0 ≤ x → x ≤ 2 ^ 6000 → Sm 6001 x := fun x a b => by
    have c : ((x.natAbs : Nat) : Int) < ((2 ^ 6001 : Nat) : Int) := by
      rw [Int.natAbs_of_nonneg a]
      have : ((2 ^ 6001 : Nat) : Int) = (2 : Int) ^ 6001 := by exact_mod_cast rfl
      rw [this, h5]
      omega
    exact Int.ofNat_lt.mp c
  exact ⟨key _ h1 (by omega), key _ (by omega) (by omega)⟩
theorem bits_lt (t : Nat) : t < 2 ^ Builtin.Int.intBits (t : Int) := by
  unfold Builtin.Int.intBits
  by_cases h : t = 0
  · subst h; decide
  · rw [if_neg (by simpa using h), Int.natAbs_natCast]
    exact Nat.lt_log2_self
/-! ### roots -/
theorem isqrt_sq' (m : Nat) : Float64.isqrt (m * m) = m := by
  obtain ⟨h1, h2⟩ := PySem.Float64.isqrt_spec (m * m)
  refine Nat.le_antisymm ?_ ?_
  · exact Nat.le_of_not_lt fun h => by
      have : (m + 1) * (m + 1) ≤ Float64.isqrt (m * m) * Float64.isqrt (m * m) := Nat.mul_le_mul h h
      have e : (m + 1) * (m + 1) = m * m + 2 * m + 1 := by grind
      omega
  · exact Nat.le_of_not_lt fun h => by
      have : (Float64.isqrt (m * m) + 1) * (Float64.isqrt (m * m) + 1) ≤ m * m := Nat.mul_le_mul h h
      omega
theorem isqrt_int {m : Int} (h : 0 ≤ m) : ((Float64.isqrt (m * m).toNat : Nat) : Int) = m := by
  obtain ⟨k, rfl⟩ := Int.eq_ofNat_of_zero_le h
  rw [show ((k : Int) * (k : Int)).toNat = k * k by rw [← Int.natCast_mul, Int.toNat_natCast], isqrt_sq']
/-! ### what compares -/
theorem eqv_pd (p q : P2) : PyData.eqv (pd p) (pd q) = decide (p = q) := by
  show PyData.eqvAll ([p.1, p.2].map .int) ([q.1, q.2].map .int) = _
  rw [eqv_ints]
  obtain ⟨a, b⟩ := p
  obtain ⟨c, d⟩ := q
  simp
theorem shaped_pd (p : P2) : SeqAt.shaped (pd p) = true := shaped_ints [p.1, p.2]
theorem shaped_td (p : P2) : SeqAt.shaped (td p) = true := shaped_ints [_, _, _]
theorem td_inj {p q : P2} (hp : Ok2 p) (hq : Ok2 q) (h1 : p.1 * p.1 - p.2 * p.2 = q.1 * q.1 - q.2 * q.2) (h3 : p.1 * p.1 + p.2 * p.2 = q.1 * q.1 + q.2 * q.2) : p = q := by
  obtain ⟨m, n⟩ := p
  obtain ⟨a, b⟩ := q
  obtain ⟨x1, x2⟩ := hp
  obtain ⟨y1, y2⟩ := hq
  have x1 : 0 < n := x1
  have x2 : n < m := x2
  have y1 : 0 < b := y1
  have y2 : b < a := y2
  have h1 : m * m - n * n = a * a - b * b := h1
  have h3 : m * m + n * n = a * a + b * b := h3
  have e1 : m * m = a * a := by omega
  have e2 : n * n = b * b := by omega
  have key : ∀ x y : Int, 0 < x → 0 < y → x * x = y * y → x = y := fun x y hx hy h => by
    have q : (x - y) * (x + y) = 0 := by
      have : (x - y) * (x + y) = x * x - y * y := by grind
      omega
    rcases Int.mul_eq_zero.mp q with z | z <;> omega
  rw [key m a (by omega) (by omega) e1, key n b x1 y1 e2]
theorem eqv_td {p q : P2} (hp : Ok2 p) (hq : Ok2 q) : PyData.eqv (td p) (td q) = decide (p = q) := by
  show PyData.eqvAll ([p.1 * p.1 - p.2 * p.2, 2 * p.1 * p.2, p.1 * p.1 + p.2 * p.2].map .int) ([q.1 * q.1 - q.2 * q.2, 2 * q.1 * q.2, q.1 * q.1 + q.2 * q.2].map .int) = _
  rw [eqv_ints]
  by_cases h : p = q
  · subst h; simp
  · rw [decide_eq_false h]
    refine decide_eq_false fun z => h ?_
    injection z with z1 z
    injection z with z2 z
    injection z with z3 _
    exact td_inj hp hq z1 z3
theorem eqv_sds : ∀ a b : Row, PyData.eqvAll (a.map sd) (b.map sd) = decide (a = b)
  | [], [] => by simp [PyData.eqvAll]
  | [], _ :: _ => by simp [PyData.eqvAll]
  | _ :: _, [] => by simp [PyData.eqvAll]
  | (s, t) :: a, (s', t') :: b => by
    rw [List.map_cons, List.map_cons]
    have e : PyData.eqv (sd (s, t)) (sd (s', t')) = decide ((s, t) = (s', t')) := by
      show PyData.eqvAll ([s, (t : Int)].map .int) ([s', (t' : Int)].map .int) = _
      rw [eqv_ints]
      by_cases h : s = s' ∧ t = t'
      · obtain ⟨rfl, rfl⟩ := h; simp
      · rw [decide_eq_false, decide_eq_false]
        · intro z; cases z; exact h ⟨rfl, rfl⟩
        · intro z
          injection z with z1 z
          injection z with z2 _
          exact h ⟨z1, by omega⟩
    simp only [PyData.eqvAll, e, eqv_sds a b]
    by_cases h1 : (s, t) = (s', t')
    · by_cases h2 : a = b
      · simp [h1, h2]
      · simp [h1, h2]
    · rw [decide_eq_false h1, Bool.false_and]
      refine (decide_eq_false fun z => ?_).symm
      injection z with z1 _
      exact h1 z1
theorem eqv_rd (a b : Row) : PyData.eqv (rd a) (rd b) = decide (a = b) := eqv_sds a b
theorem shaped_rd (a : Row) : SeqAt.shaped (rd a) = true := by
  have h : ∀ a : Row, PyData.canLayAll0 (a.map sd) = true ∧ PyData.depthAll (a.map sd) ≤ 1 := by
    intro a
    induction a with
    | nil => exact ⟨rfl, Nat.zero_le _⟩
    | cons x a ih =>
      rw [List.map_cons]
      simp only [PyData.canLayAll0, PyData.depthAll, sd, PyData.canLay0, PyData.depth]
      refine ⟨by simpa using ih.1, ?_⟩
      have := ih.2
      omega
  have h1 := (h a).1
  have h2 := (h a).2
  unfold SeqAt.shaped rd
  simp only [PyData.canLay0, PyData.depth, h1, Bool.true_and, decide_eq_true_eq]
  exact decide_eq_true (by omega)

/-! ### the program's answers on data -/
def areWhole (x : PyData) (n : Int) : Bool := match x with
  | .tuple xs => decide ((xs.length : Int) = n) && xs.all whole
  | _ => false
def szT (x : PyData) : Prop := ∀ xs, x = .tuple xs → xs.length ≤ 40000
def isPairD : PyData → Bool
  | .tuple [.int m, .int n] => decide (0 < n) && decide (n < m) && (decide ((m - n) % 2 = 1) && decide (Int.gcd m n = 1))
  | _ => false
theorem areWhole2 {x : PyData} (h : areWhole x 2 = true) : ∃ m n, x = .tuple [.int m, .int n] := by
  unfold areWhole at h
  split at h
  · rename_i xs
    rw [Bool.and_eq_true] at h
    obtain ⟨h1, h2⟩ := h
    have h1 := of_decide_eq_true h1
    match xs, h1, h2 with
    | [a, b], _, h2 =>
      simp only [List.all_cons, List.all_nil, Bool.and_true, Bool.and_eq_true] at h2
      obtain ⟨ha, hb⟩ := h2
      cases a <;> simp [whole] at ha
      cases b <;> simp [whole] at hb
      exact ⟨_, _, rfl⟩
    | [], h1, _ => simp at h1
    | [_], h1, _ => simp at h1
    | _ :: _ :: _ :: _, h1, _ => simp at h1; omega
  · cases h
theorem areWhole3 {x : PyData} (h : areWhole x 3 = true) : ∃ a b c, x = .tuple [.int a, .int b, .int c] := by
  unfold areWhole at h
  split at h
  · rename_i xs
    rw [Bool.and_eq_true] at h
    obtain ⟨h1, h2⟩ := h
    have h1 := of_decide_eq_true h1
    match xs, h1, h2 with
    | [a, b, c], _, h2 =>
      simp only [List.all_cons, List.all_nil, Bool.and_true, Bool.and_eq_true] at h2
      obtain ⟨ha, hb, hc⟩ := h2
      cases a <;> simp [whole] at ha
      cases b <;> simp [whole] at hb
      cases c <;> simp [whole] at hc
      exact ⟨_, _, _, rfl⟩
    | [], h1, _ => simp at h1
    | [_], h1, _ => simp at h1
    | [_, _], h1, _ => simp at h1
    | _ :: _ :: _ :: _ :: _, h1, _ => simp at h1; omega
  · cases h
theorem isPairD_no {x : PyData} (h : areWhole x 2 = false) : isPairD x = false := by
  unfold isPairD
  split
  · simp [areWhole, whole] at h
  · rfl
theorem isPairD_pd (p : P2) : isPairD (pd p) = decide (IsPair p) := by
  obtain ⟨m, n⟩ := p
  unfold pd isPairD IsPair
  by_cases h1 : 0 < n <;> by_cases h2 : n < m <;> by_cases h3 : (m - n) % 2 = 1 <;> by_cases h4 : m.gcd n = 1 <;> simp [h1, h2, h3, h4]
def isStepD : PyData → Bool
  | .int s => decide (0 ≤ s) && decide (s ≤ 2)
  | _ => false
def isPartD : PyData → Bool
  | .tuple [.int s, .int t] => decide (0 ≤ s) && decide (s ≤ 2) && (decide (0 < t) && (!decide (s = 1) || decide (t ≤ 1000)))
  | _ => false
theorem isPartD_no {x : PyData} (h : areWhole x 2 = false) : isPartD x = false := by
  unfold isPartD
  split
  · simp [areWhole, whole] at h
  · rfl
theorem isPartD_yes {x : PyData} (h : isPartD x = true) : ∃ s t : Int, x = .tuple [.int s, .int t] ∧ 0 ≤ s ∧ s ≤ 2 := by
  unfold isPartD at h
  split at h
  · rename_i s t
    simp only [Bool.and_eq_true, decide_eq_true_eq] at h
    exact ⟨s, t, rfl, h.1.1, h.1.2⟩
  · cases h
def firstD : PyData → Int
  | .tuple (.int s :: _) => s
  | _ => 0
def isRowD : PyData → Bool
  | .list xs => decide ((xs.length : Int) ≤ 200) && (xs.all isPartD && (List.range (xs.length - 1)).all fun i => !decide (firstD (xs.getD i .none) = firstD (xs.getD (i + 1) .none)))
  | _ => false
def szL (x : PyData) : Prop := (∀ xs, x = .list xs → xs.length ≤ 40000 ∧ ∀ y ∈ xs, szT y)
theorem dv_root {K : PySem.W.Frag} {H : Hp} {a : Addr} (h : SqT K H a [.int 2, .int 1]) : DV K H (.ref a) (pd root) := .tup h (.cons (.int 2) (.cons (.int 1) .nil))
/-! ### relations -/
abbrev Rel := List PyData → PyData → Prop
abbrev RelL := List PyData → List PyData → Prop
def R_is_whole : Rel := fun ds d => ∃ x, ds = [x] ∧ d = .bool (whole x)
def R_are_whole : Rel := fun ds d => ∃ x n, ds = [x, .int n] ∧ szT x ∧ d = .bool (areWhole x n)
def R_is_pair : Rel := fun ds d => ∃ x, ds = [x] ∧ szT x ∧ d = .bool (isPairD x)
def R_formed : Rel := fun ds d => ∃ m n : Int, ds = [.int m, .int n] ∧ Sm 95000 m ∧ Sm 95000 n ∧ d = td (m, n)
def R_pair_of : Rel := fun ds d => ∃ p, ds = [td p] ∧ IsPair p ∧ Sm 90000 p.1 ∧ d = pd p
def R_triple_of : Rel := fun ds d => ∃ p, ds = [pd p] ∧ IsPair p ∧ Sm 90000 p.1 ∧ d = td p
def Step (s : Int) : Prop := s = 0 ∨ s = 1 ∨ s = 2
def R_stepped : Rel := fun ds d => ∃ p s, ds = [td p, .int s] ∧ IsPair p ∧ Sm 89000 p.1 ∧ Step s ∧ d = td (led p s 1)
def R_back : Rel := fun ds d => (ds = [td root] ∧ d = .none) ∨ ∃ p s, ds = [td (led p s 1)] ∧ IsPair p ∧ Step s ∧ Sm 90000 (led p s 1).1 ∧ d = .tuple [td p, .int s]
/-- a row that may be asked for -/
structure Fit (r : Row) : Prop where
  good : Good (-1) r
  len : r.length ≤ 200
  few : ∀ x ∈ r, x.2 < 2 ^ 3000
  sm : Sm 80000 (behind root r).1
def R_by_row : Rel := fun ds d => ∃ r, ds = [rd r] ∧ Fit r ∧ d = td (behind root r)
def R_row_of : RelL := fun ds es => ∃ r, ds = [td (behind root r)] ∧ Fit r ∧ es = r.map sd
def R__is_step : Rel := fun ds d => ∃ x, ds = [x] ∧ d = .bool (isStepD x)
def R__is_part : Rel := fun ds d => ∃ x, ds = [x] ∧ szT x ∧ d = .bool (isPartD x)
def R__is_row : Rel := fun ds d => ∃ x, ds = [x] ∧ szL x ∧ d = .bool (isRowD x)
def R__led : Rel := fun ds d => ∃ (m n s : Int) (t : Nat), ds = [.int m, .int n, .int s, .int t] ∧ Step s ∧ (s = 1 → t ≤ 3000) ∧ Sm 95000 m ∧ Sm 95000 n ∧ Sm 5000 (t : Int) ∧ d = pd (led (m, n) s t)
def R__led_back : Rel := fun ds d => ∃ (m n s : Int) (t : Nat), ds = [.int m, .int n, .int s, .int t] ∧ Step s ∧ (s = 1 → t ≤ 3000) ∧ Sm 95000 m ∧ Sm 95000 n ∧ Sm 5000 (t : Int) ∧ d = pd (ledBack (m, n) s t)
def R__pell : Rel := fun ds d => ∃ t : Nat, ds = [.int t] ∧ t ≤ 3000 ∧ d = .tuple [.int ((pell t).2 - 2 * (pell t).1), .int (pell t).1, .int (pell t).2]
def R__last_step : Rel := fun ds d => ∃ m n : Int, ds = [.int m, .int n] ∧ Sm 95000 m ∧ Sm 95000 n ∧ d = .int (lastStep (m, n))
def R__last_times : Rel := fun ds d => ∃ (q : P2) (s : Int) (t : Nat), ds = [.int (led q s t).1, .int (led q s t).2, .int s] ∧ IsPair q ∧ Step s ∧ NotLast s q ∧ (s = 1 → t ≤ 1000) ∧ Sm 95000 (led q s t).1 ∧ d = .int t
def R__last_times_of_1 : Rel := fun ds d => ∃ (q : P2) (t : Nat), ds = [.int (iter one t q).1, .int (iter one t q).2] ∧ IsPair q ∧ NotLast 1 q ∧ t ≤ 1000 ∧ Sm 95000 (iter one t q).1 ∧ d = .int t

theorem led_sm {p : P2} (hp : IsPair p) {s : Int} (hs : Step s) {b : Nat} (h : Sm b p.1) : 0 < (led p s 1).2 ∧ (led p s 1).2 < (led p s 1).1 ∧ Sm (b + 2) (led p s 1).1 ∧ Sm (b + 2) (led p s 1).2 := by
  obtain ⟨g1, g2⟩ := led_ok (ok_of hp) s 1
  have h : p.1.natAbs < 2 ^ b := h
  obtain ⟨m, n⟩ := p
  obtain ⟨a1, a2⟩ := ok_of hp
  have a1 : 0 < n := a1
  have a2 : n < m := a2
  have h : m.natAbs < 2 ^ b := h
  have e : (led (m, n) s 1).1 ≤ 3 * m := by
    rcases hs with rfl | rfl | rfl
    · show m + (m - n) * ((1 : Nat) : Int) ≤ 3 * m; omega
    · show 2 * m + n ≤ 3 * m; omega
    · show m + 2 * n * ((1 : Nat) : Int) ≤ 3 * m; omega
  have e4 : 2 ^ (b + 2) = 4 * 2 ^ b := by rw [Nat.pow_add]; omega
  refine ⟨g1, g2, ?_, ?_⟩
  · show (led (m, n) s 1).1.natAbs < 2 ^ (b + 2)
    omega
  · show (led (m, n) s 1).2.natAbs < 2 ^ (b + 2)
    omega
theorem isPartD_sd {s : Int} {t : Nat} (hs : Step s) (ht : 0 < t) (h1 : s = 1 → t ≤ 1000) : isPartD (sd (s, t)) = true := by
  show (decide (0 ≤ s) && decide (s ≤ 2) && (decide (0 < (t : Int)) && (!decide (s = 1) || decide ((t : Int) ≤ 1000)))) = true
  rcases hs with rfl | rfl | rfl
  · rw [decide_eq_true (show 0 < (t : Int) by omega)]; rfl
  · rw [decide_eq_true (show 0 < (t : Int) by omega), decide_eq_true (show (t : Int) ≤ 1000 by have := h1 rfl; omega)]; rfl
  · rw [decide_eq_true (show 0 < (t : Int) by omega)]; rfl
theorem szT_sd (x : Int × Nat) : szT (sd x) := fun xs h => by cases h; exact (by decide : 2 ≤ 40000)
theorem szL_rd {r : Row} (h : r.length ≤ 40000) : szL (rd r) := fun xs e => by
  cases e
  refine ⟨by rw [List.length_map]; exact h, fun y hy => ?_⟩
  obtain ⟨x, _, rfl⟩ := List.mem_map.mp hy
  exact szT_sd x
theorem rd_getD (r : Row) {i : Nat} {s : Int} {t : Nat} (h : r[i]? = some (s, t)) : (r.map sd).getD i .none = sd (s, t) := by
  rw [List.getD, List.getElem?_map, h]; rfl
theorem isRowD_rd {l : Int} {r : Row} (g : Good l r) (h : r.length ≤ 200) : isRowD (rd r) = true := by
  show (decide (((r.map sd).length : Int) ≤ 200) && ((r.map sd).all isPartD && _)) = true
  rw [Bool.and_eq_true, Bool.and_eq_true]
  refine ⟨decide_eq_true (by rw [List.length_map]; omega), List.all_eq_true.mpr fun y hy => ?_, List.all_eq_true.mpr fun i hi => ?_⟩
  · obtain ⟨⟨s, t⟩, hx, rfl⟩ := List.mem_map.mp hy
    obtain ⟨j, hj⟩ := List.mem_iff_getElem?.mp hx
    obtain ⟨a1, a2, a3⟩ := g.at hj
    exact isPartD_sd a1 a2 a3
  · have hi := List.mem_range.mp hi
    rw [List.length_map] at hi
    have h1 : r[i]? = some r[i] := List.getElem?_eq_getElem (by omega)
    have h2 : r[i + 1]? = some r[i + 1] := List.getElem?_eq_getElem (by omega)
    generalize r[i] = a at h1
    generalize r[i + 1] = b at h2
    obtain ⟨s, t⟩ := a
    obtain ⟨s', t'⟩ := b
    rw [rd_getD r h1, rd_getD r h2]
    have := g.next h1 h2
    show (!decide (s = s')) = true
    rw [decide_eq_false fun z => this z.symm]
    rfl
end Sq

namespace Sq
open PySem PySem.Spec PyProof.Rows L2 Evl
/-! ### slices -/
theorem cut_to {α : Type} (xs : List α) (k : Nat) : (xs.drop (HT.sIx xs.length 0 none)).take (HT.sIx xs.length xs.length (some (k : Int)) - HT.sIx xs.length 0 none) = xs.take k := by
  rw [HT.sIx_none, HT.sIx_nat, Nat.sub_zero]
  show (xs.drop 0).take (min k xs.length) = _
  rw [List.drop_zero]
  by_cases h : k ≤ xs.length
  · rw [Nat.min_eq_left h]
  · rw [Nat.min_eq_right (by omega), List.take_length, List.take_of_length_le (by omega)]
theorem cut_from {α : Type} (xs : List α) (k : Nat) : (xs.drop (HT.sIx xs.length 0 (some (k : Int)))).take (HT.sIx xs.length xs.length none - HT.sIx xs.length 0 (some (k : Int))) = xs.drop k := by
  rw [HT.sIx_none, HT.sIx_nat]
  by_cases h : k ≤ xs.length
  · rw [Nat.min_eq_left h, List.take_of_length_le (by rw [List.length_drop]; exact Nat.le_refl _)]
  · rw [Nat.min_eq_right (by omega), List.drop_eq_nil_of_le (Nat.le_refl _), List.drop_eq_nil_of_le (by omega), List.take_nil]
theorem cut_part {α : Type} (xs : List α) (a k : Nat) : (xs.drop (HT.sIx xs.length 0 (some (a : Int)))).take (HT.sIx xs.length xs.length (some ((a + k : Nat) : Int)) - HT.sIx xs.length 0 (some (a : Int))) = (xs.drop a).take k := by
  rw [HT.sIx_nat, HT.sIx_nat]
  by_cases h : a ≤ xs.length
  · rw [Nat.min_eq_left h]
    by_cases h2 : a + k ≤ xs.length
    · rw [Nat.min_eq_left h2, Nat.add_sub_cancel_left]
    · rw [Nat.min_eq_right (by omega), List.take_of_length_le (by rw [List.length_drop]; exact Nat.le_refl _), List.take_of_length_le (by rw [List.length_drop]; omega)]
  · rw [Nat.min_eq_right (show xs.length ≤ a by omega), List.drop_eq_nil_of_le (Nat.le_refl _), List.drop_eq_nil_of_le (show xs.length ≤ a by omega), List.take_nil, List.take_nil]
theorem cut_but {α : Type} (xs : List α) : (xs.drop (HT.sIx xs.length 0 none)).take (HT.sIx xs.length xs.length (some (-1)) - HT.sIx xs.length 0 none) = xs.dropLast := by
  have e : HT.sIx xs.length xs.length (some (-1)) = xs.length - 1 := by
    show (if (-1 : Int) < 0 then ((-1 : Int) + (xs.length : Int)).toNat else min (-1 : Int).toNat xs.length) = _
    rw [if_pos (by decide)]
    omega
  rw [HT.sIx_none, e, Nat.sub_zero]
  show (xs.drop 0).take _ = _
  rw [List.drop_zero, List.dropLast_eq_take]

/-! ### a heap without one address -/
def ers (l : Addr) (H : Hp) : Hp := fun b => if b = l then none else H b
theorem ers_self (l : Addr) (H : Hp) : ers l H l = none := if_pos rfl
theorem ers_ne {l b : Addr} {H : Hp} (h : b ≠ l) : ers l H b = H b := if_neg h
theorem ers_in (l : Addr) (H : Hp) : Ex (ers l H) H := fun a o e => by
  by_cases h : a = l
  · rw [h, ers_self] at e; cases e
  · rw [ers_ne h] at e; exact e
theorem ers_ex {l : Addr} {H H' : Hp} (h : Ex H H') : Ex (ers l H) (ers l H') := fun a o e => by
  by_cases z : a = l
  · rw [z, ers_self] at e; cases e
  · rw [ers_ne z] at e ⊢; exact h a o e
theorem ers_upd (l : Addr) (H : Hp) (o : HO) : ers l (upd H l o) = ers l H := by
  funext b
  by_cases z : b = l
  · rw [z, ers_self, ers_self]
  · rw [ers_ne z, ers_ne z, upd_ne z]
theorem sqT_ers {K : PySem.W.Frag} {H : Hp} {a l : Addr} {xs ys : List V} (hl : H l = some (.lst ys)) (h : SqT K H a xs) : SqT K (ers l H) a xs := by
  rcases h with (h | ⟨o, h⟩) | h
  · exact .inl (.inl (by rw [ers_ne (ne_of h hl (by intro z; cases z))]; exact h))
  · exact .inl (.inr ⟨o, by rw [ers_ne (ne_of h hl (by intro z; cases z))]; exact h⟩)
  · exact .inr h
/-! ### a new list and its data -/
def cutD (ds : List PyData) (lo hi : Option Int) : List PyData := (ds.drop (HT.sIx ds.length 0 lo)).take (HT.sIx ds.length ds.length hi - HT.sIx ds.length 0 lo)
theorem dvs_cut {K : PySem.W.Frag} {H : Hp} {vs : List V} {ds : List PyData} (h : DVs K H vs ds) (lo hi : Option Int) : DVs K H (cutV vs lo hi) (cutD ds lo hi) := by
  unfold cutV cutD
  rw [h.len]
  exact (h.drop _).take _
def EvLD (K : PySem.W.Frag) (te : TE) (σ : L2.St) (H : Hp) (ds : List PyData) : Prop := ∀ H1, Ex H H1 → ∀ Q : VK, (∀ p vs H2, H1 p = none → Ex H1 H2 → H2 p = some (.lst vs) → DVs K H2 vs ds → Q (.ref p) H2) → te σ H1 Q
section
variable {K : PySem.W.Frag} {σ : L2.St} {H H' : Hp} {ta tb te tx : TE} {t u : TT} {x y z v : V} {d e : PyData} {ds es : List PyData} {tA tB' : TA} {D : Ends} {tu tw tz : TS} {g : TG}
theorem EvLD.mono (a : Ex H H') (h : EvLD K te σ H ds) : EvLD K te σ H' ds := fun H1 b Q q => h H1 (a.trans b) Q q
theorem EvLD.ev (h : EvLD K te σ H ds) : EvD K te σ H (.list ds) := fun H1 a Q q => h H1 a Q fun p vs H2 _ b hp hv => q _ H2 b (.lst (sq_of hp) hv)
theorem eld_lst (h : EvDA K tA σ H ds) (hl : ds.length ≤ 100000) : EvLD K (tLst tA) σ H ds := fun H1 a _ q =>
  h H1 a _ fun vs H2 b hvs => ⟨sz_of (by rw [hvs.len]; exact hl), fun p hp => q p vs _ (fresh_back b hp) (b.trans (Ex.new hp)) upd_same (hvs.ex (Ex.new hp))⟩
theorem eld_call {R : RelL} {E : XK} (h : EvDA K tA σ H ds) (hR : R ds es) : EvLD K (tCall (spL K R) [] E tA) σ H es := fun H1 a _ q =>
  h H1 a _ fun vs H2 b hvs => ⟨ds, es, by rw [List.append_nil]; exact hvs, hR, fun p vs H3 hn c hp hv => q p vs H3 (fresh_back b hn) (b.trans c) hp hv⟩
theorem eld_sl {tl th : TO} {lo hi : Option Int} (h : EvD K te σ H (.list ds)) (h1 : EvO tl σ H lo) (h2 : EvO th σ H hi) (he : cutD ds lo hi = es) : EvLD K (tSl (rSlL K) te tl th) σ H es := fun H1 a _ q =>
  h H1 a _ fun v H2 e2 hv => h1 H2 (a.trans e2) _ fun H3 e3 => h2 H3 ((a.trans e2).trans e3) _ fun H4 e4 => by
    cases hv with
    | @lst p xs _ hp hx =>
      exact ⟨p, xs, rfl, ex_l (e3.trans e4) hp, fun l hl => q l _ _ (fresh_back ((e2.trans e3).trans e4) hl) (((e2.trans e3).trans e4).trans (Ex.new hl)) upd_same (by rw [← he]; exact (dvs_cut hx lo hi).ex ((e3.trans e4).trans (Ex.new hl)))⟩
theorem eld_list (h : EvD K te σ H (.list ds)) : EvLD K (tCB (rListS K) (tCons te tNil)) σ H ds := fun H1 a _ q =>
  h H1 a _ fun v H2 e2 hv => by
    cases hv with
    | @lst p xs _ hp hx => exact ⟨p, xs, rfl, .inl hp, fun l hl => q l _ _ (fresh_back e2 hl) (e2.trans (Ex.new hl)) upd_same (hx.ex (Ex.new hl))⟩
theorem eld_cat (h : EvLD K ta σ H ds) (h2 : EvLD K tb σ H es) (hl : ds.length + es.length ≤ 100000) : EvLD K (tOp rCat ta tb) σ H (ds ++ es) := fun H1 a _ q =>
  h H1 a _ fun p vs H2 hn e2 hp hv => h2 H2 (a.trans e2) _ fun p' vs' H3 hn' e3 hp' hv' =>
    ⟨p, p', vs, vs', rfl, rfl, e3 _ _ hp, hp', sz_of (by rw [hv.len, hv'.len]; exact hl), fun l hl => q l _ _ (fresh_back (e2.trans e3) hl) ((e2.trans e3).trans (Ex.new hl)) upd_same (((hv.ex e3).append hv').ex (Ex.new hl))⟩
theorem eld_rev (h : EvD K te σ H (.list ds)) : EvLD K (tRevL K te) σ H ds.reverse := fun H1 a _ q =>
  h H1 a _ fun v H2 e2 hv => by
    cases hv with
    | @lst p xs _ hp hx => exact ⟨p, xs, rfl, hp, fun l hl => q l _ _ (fresh_back e2 hl) (e2.trans (Ex.new hl)) upd_same (hx.reverse.ex (Ex.new hl))⟩
theorem eld_if {b : Bool} (h : EvT t σ H b) (h1 : b = true → EvLD K ta σ H ds) (h2 : b = false → EvLD K tb σ H ds) : EvLD K (tIf t ta tb) σ H ds := fun H1 a Q q => h H1 a _ fun H2 e2 => by
  cases b with
  | true =>
    show ta σ H2 Q
    exact h1 rfl H2 (a.trans e2) Q fun p vs H3 hn e3 hp hv => q p vs H3 (fresh_back e2 hn) (e2.trans e3) hp hv
  | false =>
    show tb σ H2 Q
    exact h2 rfl H2 (a.trans e2) Q fun p vs H3 hn e3 hp hv => q p vs H3 (fresh_back e2 hn) (e2.trans e3) hp hv
theorem s_asgLD {i : Nat} (h : EvLD K te σ H ds) (k : ∀ p vs H1, H p = none → Ex H H1 → H1 p = some (.lst vs) → DVs K H1 vs ds → D.nx (σ.set i (some (.ref p))) H1) : tAsg te (gName i) D σ H := h H (Ex.refl H) _ fun p vs H1 hn e hp hv => k p vs H1 hn e hp hv
theorem q_asgLD {i : Nat} (h : EvLD K te σ H ds) (k : ∀ p vs H1, H p = none → Ex H H1 → H1 p = some (.lst vs) → DVs K H1 vs ds → tz D (σ.set i (some (.ref p))) H1) : tSeq (tAsg te (gName i)) tz D σ H := s_asgLD (D := { D with nx := tz D }) h k
theorem s_retLD (h : EvLD K te σ H ds) (k : RetDL K ds H D.rt) : tRet te D σ H := h H (Ex.refl H) _ fun p vs H1 hn e hp hv => k p vs H1 hn e hp hv
/-- a new list and another value: a, b = [..], e -/
theorem s_parLD {i j : Nat} (h : EvLD K te σ H ds) (h2 : EvD K tx σ H d) (k : ∀ p vs w H1, H p = none → Ex H H1 → H1 p = some (.lst vs) → DVs K H1 vs ds → DV K H1 w d → D.nx ((σ.set i (some (.ref p))).set j (some w)) H1) : tPar i j (tCons te (tCons tx tNil)) D σ H :=
  h H (Ex.refl H) _ fun p vs H1 hn e hp hv => h2 H1 e _ fun w H2 e2 hw => ⟨_, _, rfl, k p vs w H2 hn (e.trans e2) (e2 _ _ hp) (hv.ex e2) hw⟩
theorem q_parLD {i j : Nat} (h : EvLD K te σ H ds) (h2 : EvD K tx σ H d) (k : ∀ p vs w H1, H p = none → Ex H H1 → H1 p = some (.lst vs) → DVs K H1 vs ds → DV K H1 w d → tz D ((σ.set i (some (.ref p))).set j (some w)) H1) : tSeq (tPar i j (tCons te (tCons tx tNil))) tz D σ H :=
  s_parLD (D := { D with nx := tz D }) h h2 k
/-- xs.pop() -/
theorem s_pop {l : Addr} {vs : List V} {w : V} (hl : H l = some (.lst vs)) (ha : Ev ta σ H (.ref l)) (hw : vs[vs.length - 1]? = some w) (k : ∀ H1, Ex H H1 → D.nx σ (upd H1 l (.lst vs.dropLast))) : tDrop (tBM0 K "list" rPop ta) D σ H :=
  ha H (Ex.refl H) _ fun H1 e => ⟨Or.inl ⟨rfl, vs, sq_of (e _ _ hl)⟩, l, vs, w, rfl, rfl, e _ _ hl, hw, k H1 e⟩
theorem q_pop {l : Addr} {vs : List V} {w : V} (hl : H l = some (.lst vs)) (ha : Ev ta σ H (.ref l)) (hw : vs[vs.length - 1]? = some w) (k : ∀ H1, Ex H H1 → tz D σ (upd H1 l (.lst vs.dropLast))) : tSeq (tDrop (tBM0 K "list" rPop ta)) tz D σ H :=
  s_pop (D := { D with nx := tz D }) hl ha hw k
/-- for i, x in enumerate(a new list) -/
theorem q_forEnum {xs : List V} {i j : Nat} (h : EvL te σ H xs) (Pv : Addr → Nat → L2.St → Hp → Prop) (h0 : ∀ p H1, H p = none → Ex H H1 → H1 p = some (.lst xs) → Pv p 0 σ H1) (hl : ∀ p k σ' H', Pv p k σ' H' → SqL K H' p xs)
    (hs : ∀ p k w σ' H', xs[k]? = some w → Pv p k σ' H' → ∀ H1, Ex H' H1 → tu { D with nx := Pv p (k + 1), ct := Pv p (k + 1), bk := tz D } ((σ'.set i (some (.int (k : Int)))).set j (some w)) H1) (hd : ∀ p σ' H', Pv p xs.length σ' H' → tz D σ' H') :
    tSeq (tFor (iEnum K (tCons te tNil)) (gTup K 2 (gCons (gName i) (gCons (gName j) gNil))) tu) tz D σ H :=
  h H (Ex.refl H) _ fun p H1 hn e hp => ⟨p, xs, rfl, sq_of hp, fun k m σ' H' => m = xs.length - k ∧ k ≤ xs.length ∧ Pv p k σ' H', ⟨xs.length, by simp, Nat.zero_le _, h0 p H1 hn e hp⟩, by
    rintro k m σ' H' ⟨rfl, hk, P⟩
    have hS := hl p k σ' H' P
    by_cases hlt : k < xs.length
    · refine .inr ⟨⟨xs, xs[k], hS, List.getElem?_eq_getElem hlt⟩, Pv p (k + 1), fun σ2 H2 P2 => ⟨xs.length - (k + 1), by omega, rfl, hlt, P2⟩, fun w H2 hy => ?_⟩
      obtain ⟨T, y, rfl, nT, rfl, hy⟩ := hy
      exact ⟨T, _, rfl, st_of upd_same, rfl, _, _, rfl, _, _, rfl, rfl, hs p k y σ' H' (hy xs hS) P _ (Ex.new nT)⟩
    · have e : k = xs.length := by omega
      subst e
      exact .inl ⟨⟨xs, hS, Nat.le_refl _⟩, hd p σ' H' P⟩⟩
/-- for x in (a, b, ..), a tuple made here: its items' data -/
theorem s_forTD {i : Nat} (h : EvD K te σ H (.tuple ds)) (Pv : Nat → L2.St → Hp → Prop) (h0 : ∀ H1, Ex H H1 → Pv 0 σ H1) (hE : ∀ k σ' H', Pv k σ' H' → Ex H H')
    (hs : ∀ k d' w σ' H', ds[k]? = some d' → DV K H' w d' → Pv k σ' H' → tu { D with nx := fun σ2 H2 => Pv (k + 1) σ2 H2 ∧ Ex H' H2, ct := fun σ2 H2 => Pv (k + 1) σ2 H2 ∧ Ex H' H2, bk := D.nx } (σ'.set i (some w)) H') (hd : ∀ σ' H', Pv ds.length σ' H' → D.nx σ' H') : tFor (iTup K te) (gName i) tu D σ H :=
  h H (Ex.refl H) _ fun v H1 e hv => by
    cases hv with
    | @tup p xs _ hp hx =>
      have hlen := hx.len
      refine ⟨p, rfl, ⟨xs, hp⟩, fun k m σ' H' => m = xs.length - k ∧ k ≤ xs.length ∧ Pv k σ' H' ∧ Ex H1 H', ⟨xs.length, by simp, Nat.zero_le _, h0 H1 e, Ex.refl _⟩, ?_⟩
      rintro k m σ' H' ⟨rfl, hk, P, e1⟩
      have hS := ex_t e1 hp
      by_cases hlt : k < xs.length
      · refine .inr ⟨⟨xs, xs[k], hS, List.getElem?_eq_getElem hlt⟩, fun σ2 H2 => Pv (k + 1) σ2 H2 ∧ Ex H' H2, fun σ2 H2 P2 => ⟨xs.length - (k + 1), by omega, rfl, hlt, P2.1, e1.trans P2.2⟩, fun w H2 hy => ?_⟩
        obtain ⟨hy1, hy2⟩ := hy
        subst hy1
        have hw := hy2 xs hS
        obtain ⟨d', g1, g2⟩ := hx.get hw
        exact hs k d' w σ' _ g1 (g2.ex e1) P
      · have ek : k = xs.length := by omega
        subst ek
        exact .inl ⟨⟨xs, hS, Nat.le_refl _⟩, hd σ' H' (by rw [← hlen]; exact P)⟩
theorem q_forTD {i : Nat} (h : EvD K te σ H (.tuple ds)) (Pv : Nat → L2.St → Hp → Prop) (h0 : ∀ H1, Ex H H1 → Pv 0 σ H1) (hE : ∀ k σ' H', Pv k σ' H' → Ex H H')
    (hs : ∀ k d' w σ' H', ds[k]? = some d' → DV K H' w d' → Pv k σ' H' → tu { D with nx := fun σ2 H2 => Pv (k + 1) σ2 H2 ∧ Ex H' H2, ct := fun σ2 H2 => Pv (k + 1) σ2 H2 ∧ Ex H' H2, bk := tz D } (σ'.set i (some w)) H') (hd : ∀ σ' H', Pv ds.length σ' H' → tz D σ' H') : tSeq (tFor (iTup K te) (gName i) tu) tz D σ H :=
  s_forTD (D := { D with nx := tz D }) h Pv h0 hE hs hd
theorem eld_rep {k : Int} (h : EvLD K ta σ H ds) (h2 : Ev tb σ H (.int k)) (h0 : 0 ≤ k) (h1 : k < 2 ^ 62) (hl : ds.length * k.toNat ≤ 100000) : EvLD K (tOp rRep ta tb) σ H (List.replicate k.toNat ds).flatten := fun H1 a _ q =>
  h H1 a _ fun p vs H2 hn e2 hp hv => h2 H2 (a.trans e2) _ fun H3 e3 =>
    ⟨p, k, vs, rfl, rfl, e3 _ _ hp, by omega, by omega, sz_of (by rw [hv.len]; exact hl), fun l hl => q l _ _ (fresh_back (e2.trans e3) hl) ((e2.trans e3).trans (Ex.new hl)) upd_same (by
      have key : ∀ n : Nat, DVs K H3 (List.replicate n vs).flatten (List.replicate n ds).flatten := by
        intro n
        induction n with
        | zero => exact .nil
        | succ n ih => rw [List.replicate_succ, List.replicate_succ, List.flatten_cons, List.flatten_cons]; exact (hv.ex e3).append ih
      exact (key _).ex (Ex.new hl))⟩
/-- a list that stands in a slot, plus a new one -/
theorem eld_catV {i : Nat} {p : Addr} {vs : List V} (hv : σ[i]? = some (some (.ref p))) (hp : H p = some (.lst vs)) (hvs : DVs K H vs ds) (h2 : EvLD K tb σ H es) (hl : ds.length + es.length ≤ 100000) : EvLD K (tOp rCat (tVar i) tb) σ H (ds ++ es) := fun H1 a _ q =>
  ⟨.ref p, hv, h2 H1 a _ fun p' vs' H3 hn' e3 hp' hv' =>
    ⟨p, p', vs, vs', rfl, rfl, e3 _ _ (a _ _ hp), hp', sz_of (by rw [hvs.len, hv'.len]; exact hl), fun l hl => q l _ _ (fresh_back e3 hl) (e3.trans (Ex.new hl)) upd_same (((hvs.ex (a.trans e3)).append hv').ex (Ex.new hl))⟩⟩
theorem s_appLD {l : Addr} {xs : List V} (hl : H l = some (.lst xs)) (ha : Ev ta σ H (.ref l)) (h : EvLD K te σ H ds) (hz : xs.length < 100000) (k : ∀ p vs H1, H p = none → Ex H H1 → H1 p = some (.lst vs) → DVs K H1 vs ds → D.nx σ (upd H1 l (.lst (xs ++ [.ref p])))) :
    tDrop (tBM K "list" rAppend ta (tCons te tNil)) D σ H := ha H (Ex.refl H) _ fun H1 e1 =>
  ⟨Or.inl ⟨rfl, xs, sq_of (e1 l _ hl)⟩, h H1 e1 _ fun p vs H2 hp e2 h2 hv => ⟨l, xs, .ref p, rfl, rfl, e2 l _ (e1 l _ hl), sz_lt hz, k p vs H2 (fresh_back e1 hp) (e1.trans e2) h2 hv⟩⟩
theorem ev_count (ha : EvD K ta σ H (.list ds)) (hb : EvD K tb σ H d) (sl : SeqAt.shaped (.list ds) = true) (sd : SeqAt.shaped d = true) : Ev (tBM K "list" (rCntD K) ta (tCons tb tNil)) σ H (.int ((ds.countP fun z => PyData.eqv z d : Nat) : Int)) := fun H1 a _ q =>
  ha H1 a _ fun v H2 e2 hv => by
    cases hv with
    | @lst p xs _ hp hx =>
      exact ⟨Or.inl ⟨rfl, xs, hp⟩, hb H2 (a.trans e2) _ fun w H3 e3 hw => ⟨p, w, d, ds, rfl, rfl, ((DV.lst hp hx).ex e3).dp sl, hw.dp sd, sl, sd, q H3 (e2.trans e3)⟩⟩
theorem ev_isNT (ha : EvD K ta σ H (.tuple ds)) : Ev (tOp rIsN ta (tC .non)) σ H (.bl false) := fun H1 a _ q =>
  ha H1 a _ fun v H2 e2 hv => by
    cases hv with
    | @tup p xs _ hp hx => exact ⟨rfl, q H2 e2⟩
/-- for x in a list of data that stands in a slot -/
theorem s_forLD {i k0 : Nat} {v : V} (hv : σ[k0]? = some (some v)) (hx : DV K H v (.list ds)) (Pv : Nat → L2.St → Hp → Prop) (h0 : Pv 0 σ H) (hE : ∀ k σ' H', Pv k σ' H' → Ex H H')
    (hs : ∀ k d' w σ' H', ds[k]? = some d' → DV K H' w d' → Pv k σ' H' → tu { D with nx := Pv (k + 1), ct := Pv (k + 1), bk := D.nx } (σ'.set i (some w)) H') (hd : ∀ σ' H', Pv ds.length σ' H' → D.nx σ' H') : tFor (iList K (tVar k0)) (gName i) tu D σ H := by
  cases hx with
  | @lst a vs _ hp hx =>
    have hlen := hx.len
    refine ⟨_, hv, a, rfl, ⟨vs, hp⟩, for_list (xs := vs) Pv h0 (fun k σ' H' _ p => ex_l (hE k σ' H' p) hp) (fun k x σ' H' hk p => ?_) (by rw [hlen]; exact hd)⟩
    obtain ⟨d, h1, h2⟩ := hx.get hk
    exact hs k d x σ' H' h1 (h2.ex (hE k σ' H' p)) p
theorem q_forLD {i k0 : Nat} {v : V} (hv : σ[k0]? = some (some v)) (hx : DV K H v (.list ds)) (Pv : Nat → L2.St → Hp → Prop) (h0 : Pv 0 σ H) (hE : ∀ k σ' H', Pv k σ' H' → Ex H H')
    (hs : ∀ k d' w σ' H', ds[k]? = some d' → DV K H' w d' → Pv k σ' H' → tu { D with nx := Pv (k + 1), ct := Pv (k + 1), bk := tz D } (σ'.set i (some w)) H') (hd : ∀ σ' H', Pv ds.length σ' H' → tz D σ' H') : tSeq (tFor (iList K (tVar k0)) (gName i) tu) tz D σ H :=
  s_forLD (D := { D with nx := tz D }) hv hx Pv h0 hE hs hd
/-! what stands beside a list -/
/-- range(0, len, c), c above 0 -/
theorem rgc_up {len : Nat} {c : Int} (hc : 1 ≤ c) (hc2 : c ≤ 1000) (hl : len ≤ 1000) : ∃ n : Nat, RgC 0 (len : Int) c n ∧ (∀ i : Nat, i < n → (i : Int) * c < len) := by
  have h1 := rangeSize_pos (len := (len : Int)) (c := c) hc (by omega)
  have h2 : (len : Int) + c - 1 < 2001 := by omega
  have h3 : 0 ≤ ((len : Int) + c - 1) / c := Int.ediv_nonneg (by omega) (by omega)
  have h4 : ((len : Int) + c - 1) / c ≤ (len : Int) + c - 1 := Int.ediv_le_self _ (by omega)
  refine ⟨(Builtin.Range.rangeSize 0 (len : Int) c).toNat, ⟨by omega, by omega, ?_, rangeSize_toNat _ _ _⟩, fun i hi => ?_⟩
  · unfold Builtin.Range.small
    rw [h1]
    generalize ((len : Int) + c - 1) / c = z at h3 h4
    simp only [Builtin.Range.rangeFitsLong, Bool.and_eq_true, Bool.or_eq_true, decide_eq_true_eq, beq_iff_eq, show c > 0 by omega, if_true]
    omega
  · exact (start_inside hc (by omega) (by omega) (by omega)).2
end
theorem rv_notN {H : Hp} {x : V} : RV rNotN x .non H (.bl (!decide (x = .non))) := fun H1 _ _ q => ⟨rfl, q H1 (Ex.refl H1)⟩
theorem rv_isN {H : Hp} {x : V} : RV rIsN x .non H (.bl (decide (x = .non))) := fun H1 _ _ q => ⟨rfl, q H1 (Ex.refl H1)⟩
theorem shaped_tdi (p : P2) (s : Int) : SeqAt.shaped (.tuple [td p, .int s]) = true := by
  simp [SeqAt.shaped, td, PyData.canLay0, PyData.canLayAll0, PyData.depth, PyData.depthAll]
theorem shaped_intsL (is : List Int) : SeqAt.shaped (.list (is.map .int)) = true := by
  have h := shaped_ints is
  unfold SeqAt.shaped at h ⊢
  exact h
theorem eqv_same {d : PyData} (h : SeqAt.shaped d = true) : PyData.eqv d d = true := SeqAt.eqv_refl d (SeqAt.canLay_of_shaped h)
theorem ints_vals {K : PySem.W.Frag} {H : Hp} : ∀ {cs : List Int} {vs : List V}, DVs K H vs (cs.map .int) → vs = cs.map V.int
  | [], _, h => by cases h; rfl
  | c :: cs, _, h => by
    cases h with
    | cons a b => rw [dvi a, ints_vals b]; rfl
theorem vals_ints' {K : PySem.W.Frag} {H : Hp} : ∀ cs : List Int, DVs K H (cs.map V.int) (cs.map .int)
  | [] => .nil
  | c :: cs => .cons (.int c) (vals_ints' cs)
end Sq

namespace Sq
open PySem PySem.Spec PyProof.Rows L2 Evl
/-! ### the law's own drawing -/
def lawPrimes : List Int := [1000003, 1000033, 1000037, 1000039, 1000081, 1000099, 1000117, 1000121, 1000133, 1000151, 1000159, 1000171, 1000183, 1000187, 1000193, 1000199]
def primeAt (k : Int) : Int := lawPrimes.getD (k % 16).toNat 0
theorem primeAt_get (k : Int) : lawPrimes[(k % 16).toNat]? = some (primeAt k) ∧ 0 < primeAt k := by
  have h : (k % 16).toNat < 16 := by omega
  unfold primeAt
  generalize (k % 16).toNat = j at h
  have key : ∀ j : Fin 16, lawPrimes[j.val]? = some (lawPrimes.getD j.val 0) ∧ 0 < lawPrimes.getD j.val 0 := by decide
  exact key ⟨j, h⟩
def lawDraw (c k m : Int) : Int := (c * 48271 + k * 69621) % primeAt k % m
theorem lawDraw_lt (c k : Int) {m : Int} (h : 0 < m) : 0 ≤ lawDraw c k m ∧ lawDraw c k m < m := ⟨Int.emod_nonneg _ (by omega), Int.emod_lt_of_pos _ h⟩
def fourAt (k : Int) : Int := ([1, 7, 49, 343] : List Int).getD (k % 4).toNat 0
theorem fourAt_get (k : Int) : ([1, 7, 49, 343] : List Int)[(k % 4).toNat]? = some (fourAt k) ∧ 0 < fourAt k ∧ fourAt k ≤ 343 := by
  have h : (k % 4).toNat < 4 := by omega
  unfold fourAt
  generalize (k % 4).toNat = j at h
  have key : ∀ j : Fin 4, ([1, 7, 49, 343] : List Int)[j.val]? = some (([1, 7, 49, 343] : List Int).getD j.val 0) ∧ 0 < ([1, 7, 49, 343] : List Int).getD j.val 0 ∧ ([1, 7, 49, 343] : List Int).getD j.val 0 ≤ 343 := by decide
  exact key ⟨j, h⟩
def E18 : Int := 1000000000000000000
def E40 : Int := 10000000000000000000000000000000000000000
theorem pow18 : (10 : Int) ^ (18 : Int).toNat = E18 := by decide
theorem pow40 : (10 : Int) ^ (40 : Int).toNat = E40 := by decide
def lawValue (c k lim : Int) : Int := if E18 ≤ c then (c - E18) / fourAt k % E40 else lawDraw ((c + 977 * k) * (c + 31 * k + 5)) (k % 9 + 1) lim
theorem lawValue_nn (c k : Int) {lim : Int} (h : 0 < lim) : 0 ≤ lawValue c k lim := by
  unfold lawValue
  split
  · exact Int.emod_nonneg _ (by decide)
  · exact (lawDraw_lt _ _ h).1
theorem lawValue_lt (c k : Int) {lim : Int} (h : 0 < lim) (h2 : lim ≤ E40) : lawValue c k lim < E40 := by
  unfold lawValue
  split
  · exact Int.emod_lt_of_pos _ (by decide)
  · have := (lawDraw_lt ((c + 977 * k) * (c + 31 * k + 5)) (k % 9 + 1) h).2
    omega
def R__law_draw : Rel := fun ds d => ∃ c k m : Int, ds = [.int c, .int k, .int m] ∧ Sm 3000000 c ∧ Sm 3000000 k ∧ 0 < m ∧ d = .int (lawDraw c k m)
def R__law_value : Rel := fun ds d => ∃ c k lim : Int, ds = [.int c, .int k, .int lim] ∧ Sm 1048577 c ∧ Sm 64 k ∧ 0 < lim ∧ d = .int (lawValue c k lim)
/-! ### its rows -/
def wayAt (v : Int) : Int := ([2, 7, 900000, E40] : List Int).getD (v / 7 % 4).toNat 0
theorem wayAt_get (v : Int) : ([2, 7, 900000, E40] : List Int)[(v / 7 % 4).toNat]? = some (wayAt v) ∧ 0 < wayAt v ∧ wayAt v ≤ E40 := by
  have h : (v / 7 % 4).toNat < 4 := by omega
  unfold wayAt
  generalize (v / 7 % 4).toNat = j at h
  have key : ∀ j : Fin 4, ([2, 7, 900000, E40] : List Int)[j.val]? = some (([2, 7, 900000, E40] : List Int).getD j.val 0) ∧ 0 < ([2, 7, 900000, E40] : List Int).getD j.val 0 ∧ ([2, 7, 900000, E40] : List Int).getD j.val 0 ≤ E40 := by decide
  exact key ⟨j, h⟩
def lawStep (last v : Int) : Int := if last = 3 then v % 3 else (last + 1 + v % 2) % 3
def lawOften (st v : Int) : Int := if st = 1 then 1 + v / 5 % (if 0 < v / 11 % 40 then 4 else 1000) else 1 + v / 3 % wayAt v
def lawRowFrom (b : Int) : Nat → Int → List Int → Row
  | _, _, [] => []
  | i, last, c :: cs =>
    (lawStep last (lawValue c ((i : Int) + b) 900000), (lawOften (lawStep last (lawValue c ((i : Int) + b) 900000)) (lawValue c ((i : Int) + b) 900000)).toNat) :: lawRowFrom b (i + 1) (lawStep last (lawValue c ((i : Int) + b) 900000)) cs
theorem lawRowFrom_nil (b : Int) (i : Nat) (last : Int) : lawRowFrom b i last [] = [] := rfl
theorem lawRowFrom_cons (b : Int) (i : Nat) (last c : Int) (cs : List Int) : lawRowFrom b i last (c :: cs) = (lawStep last (lawValue c ((i : Int) + b) 900000), (lawOften (lawStep last (lawValue c ((i : Int) + b) 900000)) (lawValue c ((i : Int) + b) 900000)).toNat) :: lawRowFrom b (i + 1) (lawStep last (lawValue c ((i : Int) + b) 900000)) cs := rfl
def lawRow (cells : List Int) (b : Nat) : Row := lawRowFrom b 0 3 ((cells.drop b).take 16)
theorem lawStep_ok (last v : Int) (hl : last = 0 ∨ last = 1 ∨ last = 2 ∨ last = 3) : Step (lawStep last v) ∧ lawStep last v ≠ last := by
  unfold lawStep Step
  split
  · rename_i h
    subst h
    omega
  · rename_i h
    omega
theorem lawOften_ok (st v : Int) (hv : 0 ≤ v) : 0 < lawOften st v ∧ (st = 1 → lawOften st v ≤ 1000) ∧ lawOften st v ≤ E40 := by
  unfold lawOften
  split
  · have h1 : 0 < (if 0 < v / 11 % 40 then (4 : Int) else 1000) ∧ (if 0 < v / 11 % 40 then (4 : Int) else 1000) ≤ 1000 := by split <;> decide
    generalize (if 0 < v / 11 % 40 then (4 : Int) else 1000) = w at h1
    have h2 := Int.emod_nonneg (v / 5) (show w ≠ 0 by omega)
    have h3 := Int.emod_lt_of_pos (v / 5) h1.1
    have h4 : (1000 : Int) ≤ E40 := by decide
    refine ⟨by omega, fun _ => by omega, by omega⟩
  · rename_i hs
    obtain ⟨_, w1, w2⟩ := wayAt_get v
    have h2 := Int.emod_nonneg (v / 3) (show wayAt v ≠ 0 by omega)
    have h3 := Int.emod_lt_of_pos (v / 3) w1
    exact ⟨by omega, fun z => absurd z hs, by omega⟩
theorem lawRowFrom_good (b : Int) : ∀ (cs : List Int) (i : Nat) (last : Int), (last = 0 ∨ last = 1 ∨ last = 2 ∨ last = 3) → Good last (lawRowFrom b i last cs) ∧ (lawRowFrom b i last cs).length = cs.length ∧ ∀ x ∈ lawRowFrom b i last cs, (x.2 : Int) ≤ E40
  | [], _, _, _ => ⟨trivial, rfl, fun x hx => nomatch hx⟩
  | c :: cs, i, last, hl => by
    have hv := lawValue_nn c ((i : Int) + b) (show (0 : Int) < 900000 by decide)
    unfold lawRowFrom
    generalize lawValue c ((i : Int) + b) 900000 = v at hv
    obtain ⟨s1, s2⟩ := lawStep_ok last v hl
    generalize lawStep last v = st at s1 s2
    obtain ⟨o1, o2, o3⟩ := lawOften_ok st v hv
    generalize lawOften st v = o at o1 o2 o3
    obtain ⟨i1, i2, i3⟩ := lawRowFrom_good b cs (i + 1) st (by unfold Step at s1; omega)
    refine ⟨⟨s1, s2, by omega, fun z => by have := o2 z; omega, i1⟩, by rw [List.length_cons, List.length_cons, i2], fun x hx => ?_⟩
    rcases List.mem_cons.mp hx with e | hx
    · subst e
      show ((o.toNat : Nat) : Int) ≤ E40
      omega
    · exact i3 x hx
theorem Good.weak {l : Int} : ∀ {r : Row}, Good l r → Good (-1) r
  | [], _ => trivial
  | (s, t) :: r, g => ⟨g.1, by have := g.1; omega, g.2.2.1, g.2.2.2.1, g.2.2.2.2⟩
theorem Good.take {l : Int} : ∀ {r : Row} (n : Nat), Good l r → Good l (r.take n)
  | _, 0, _ => by rw [List.take_zero]; trivial
  | [], _ + 1, _ => trivial
  | (s, t) :: r, n + 1, g => ⟨g.1, g.2.1, g.2.2.1, g.2.2.2.1, Good.take n g.2.2.2.2⟩
/-- how fast a row grows -/
theorem led_grow {p : P2} (h : Ok2 p) {s : Int} (hs : Step s) {t : Nat} (ht : (t : Int) ≤ E40) (h1 : s = 1 → t ≤ 1000) : (led p s t).1 ≤ p.1 * 2 ^ 2000 := by
  obtain ⟨m, n⟩ := p
  obtain ⟨g1, g2⟩ := h
  have g1 : 0 < n := g1
  have g2 : n < m := g2
  have big : (2 : Int) ^ 200 ≤ 2 ^ 2000 := by
    have : (2 : Nat) ^ 200 ≤ 2 ^ 2000 := Nat.pow_le_pow_right (by decide) (by decide)
    exact_mod_cast this
  have e200 : 1 + 2 * E40 ≤ (2 : Int) ^ 200 := by decide
  show _ ≤ m * 2 ^ 2000
  rcases hs with rfl | rfl | rfl
  · show m + (m - n) * (t : Int) ≤ _
    have a : (m - n) * (t : Int) ≤ m * E40 := Int.mul_le_mul (by omega) ht (by omega) (by omega)
    have b : m * (1 + 2 * E40) ≤ m * 2 ^ 2000 := Int.mul_le_mul_of_nonneg_left (by omega) (by omega)
    have c : m * (1 + 2 * E40) = m + 2 * (m * E40) := by grind
    have d : 0 ≤ m * E40 := Int.mul_nonneg (by omega) (by decide)
    omega
  · have key : ∀ k : Nat, k ≤ 1000 → (iter one k (m, n)).1 ≤ m * 4 ^ k := by
      intro k
      induction k with
      | zero => intro _; show m ≤ m * 1; omega
      | succ k ih =>
        intro hk
        have ih := ih (by omega)
        obtain ⟨q1, q2⟩ := ok_iter (p := (m, n)) ⟨g1, g2⟩ k
        show 2 * (iter one k (m, n)).1 + (iter one k (m, n)).2 ≤ _
        rw [Int.pow_succ]
        have c : m * (4 ^ k * 4) = 4 * (m * 4 ^ k) := by grind
        rw [c]
        omega
    have h3 := key t (h1 rfl)
    have e : (4 : Int) ^ t ≤ 2 ^ 2000 := by
      have h1 := h1 rfl
      have e1 : (4 : Nat) ^ t = 2 ^ (2 * t) := by rw [Nat.pow_mul]
      have e2 : (2 : Nat) ^ (2 * t) ≤ 2 ^ 2000 := Nat.pow_le_pow_right (by decide) (by omega)
      rw [← e1] at e2
      exact_mod_cast e2
    have h4 : m * 4 ^ t ≤ m * 2 ^ 2000 := Int.mul_le_mul_of_nonneg_left e (by omega)
    show (iter one t (m, n)).1 ≤ _
    exact Int.le_trans h3 h4
  · show m + 2 * n * (t : Int) ≤ _
    have a : n * (t : Int) ≤ m * E40 := Int.mul_le_mul (by omega) ht (by omega) (by omega)
    have b : m * (1 + 2 * E40) ≤ m * 2 ^ 2000 := Int.mul_le_mul_of_nonneg_left (by omega) (by omega)
    have c : m * (1 + 2 * E40) = m + 2 * (m * E40) := by grind
    have d : 2 * n * (t : Int) = 2 * (n * (t : Int)) := by grind
    omega
theorem behind_grow {l : Int} : ∀ (r : Row) (p : P2), Ok2 p → Good l r → (∀ x ∈ r, (x.2 : Int) ≤ E40) → (behind p r).1 ≤ p.1 * (2 ^ 2000) ^ r.length
  | [], p, _, _, _ => by show p.1 ≤ p.1 * 1; omega
  | (s, t) :: r, p, h, g, f => by
    have h1 := led_grow h g.1 (f (s, t) List.mem_cons_self) g.2.2.2.1
    have h2 := behind_grow r (led p s t) (led_ok h s t) g.2.2.2.2 fun x hx => f x (List.mem_cons_of_mem _ hx)
    show (behind (led p s t) r).1 ≤ _
    have hp : (0 : Int) ≤ (2 ^ 2000) ^ r.length := Int.pow_nonneg (Int.pow_nonneg (by decide))
    have h3 := Int.mul_le_mul_of_nonneg_right h1 hp
    rw [List.length_cons, Int.pow_succ]
    have e : p.1 * ((2 ^ 2000) ^ r.length * 2 ^ 2000) = p.1 * 2 ^ 2000 * (2 ^ 2000) ^ r.length := by
      rw [Int.mul_assoc, Int.mul_comm (2 ^ 2000)]
    rw [e]
    exact Int.le_trans h2 h3
theorem fit_of {r : Row} (g : Good (-1) r) (hl : r.length ≤ 30) (f : ∀ x ∈ r, (x.2 : Int) ≤ E40) : Fit r := by
  refine ⟨g, by omega, fun x hx => ?_, ?_⟩
  · have h1 := f x hx
    have h2 : (E40 : Int) < ((2 ^ 200 : Nat) : Int) := by decide
    have h3 : (x.2 : Int) < ((2 ^ 200 : Nat) : Int) := Int.lt_of_le_of_lt h1 h2
    exact Nat.lt_of_lt_of_le (Int.ofNat_lt.mp h3) (Nat.pow_le_pow_right (by decide) (by decide))
  · have h1 := behind_grow r root (ok_of root_pair) g f
    have h2 : (2 : Int) * (2 ^ 2000) ^ r.length ≤ ((2 ^ 60001 : Nat) : Int) := by
      have e1 : ((2 : Nat) ^ 2000) ^ r.length = 2 ^ (2000 * r.length) := by rw [Nat.pow_mul]
      have e2 : 2 * (2 : Nat) ^ (2000 * r.length) = 2 ^ (2000 * r.length + 1) := by rw [Nat.pow_succ]; omega
      have e3 : (2 : Nat) ^ (2000 * r.length + 1) ≤ 2 ^ 60001 := Nat.pow_le_pow_right (by decide) (by omega)
      rw [← e2, ← e1] at e3
      exact_mod_cast e3
    have h3 : 0 ≤ (behind root r).1 := by
      obtain ⟨a, b⟩ := behind_ok (ok_of root_pair) r
      omega
    have h4 : (behind root r).1 ≤ ((2 ^ 60001 : Nat) : Int) := Int.le_trans h1 h2
    have h5 : (behind root r).1.natAbs ≤ 2 ^ 60001 := by
      have : (((behind root r).1.natAbs : Nat) : Int) ≤ ((2 ^ 60001 : Nat) : Int) := by
        rw [Int.natAbs_of_nonneg h3]
        exact h4
      exact Int.ofNat_le.mp this
    show (behind root r).1.natAbs < 2 ^ 80000
    exact Nat.lt_of_le_of_lt h5 (Nat.pow_lt_pow_right (by decide) (by decide))
theorem Fit.take {r : Row} (h : Fit r) (n : Nat) : Fit (r.take n) := by
  refine ⟨h.good.take n, ?_, fun x hx => h.few x (List.mem_of_mem_take hx), ?_⟩
  · rw [List.length_take]; have := h.len; omega
  · obtain ⟨a, b⟩ := behind_ok (ok_of root_pair) (r.take n)
    exact h.sm.le (by omega) (behind_take_up r n)
theorem lawRow_fit (cells : List Int) (b : Nat) : Fit (lawRow cells b) := by
  obtain ⟨h1, h2, h3⟩ := lawRowFrom_good b ((cells.drop b).take 16) 0 3 (by omega)
  refine fit_of h1.weak ?_ h3
  unfold lawRow
  rw [h2, List.length_take]
  omega
def R__law_row : RelL := fun ds es => ∃ (cells : List Int) (b : Nat), ds = [.list (cells.map .int), .int b] ∧ (∀ c ∈ cells, Sm 1048577 c) ∧ b ≤ 63 ∧ cells.length ≤ 63 ∧ es = (lawRow cells b).map sd
def Parts (r : Row) : Prop := ∀ x ∈ r, Step x.1 ∧ (x.1 = 1 → x.2 ≤ 1000) ∧ x.2 < 2 ^ 3000
theorem Fit.parts {r : Row} (h : Fit r) : Parts r := fun x hx => by
  obtain ⟨j, hj⟩ := List.mem_iff_getElem?.mp hx
  obtain ⟨s, t⟩ := x
  obtain ⟨a1, a2, a3⟩ := h.good.at hj
  exact ⟨a1, a3, h.few _ hx⟩
def R__law_led : Rel := fun ds d => ∃ (p : P2) (s : Int) (t : Nat), ds = [pd p, .int s, .int t] ∧ Step s ∧ Ok2 p ∧ (s = 1 → t ≤ 1000) ∧ Sm 5000 (t : Int) ∧ Sm 95000 (led p s t).1 ∧ d = pd (led p s t)
def R__law_behind : Rel := fun ds d => ∃ r : Row, ds = [rd r] ∧ Parts r ∧ Sm 80000 (behind root r).1 ∧ r.length ≤ 40000 ∧ d = pd (behind root r)
def R__law_triple : Rel := fun ds d => ∃ p : P2, ds = [pd p] ∧ Sm 92000 p.1 ∧ Sm 92000 p.2 ∧ d = td p
abbrev R__law_whole := R_is_whole
abbrev R__law_are := R_are_whole
def R__law_steps_right : Rel := fun ds d => ∃ p : P2, ds = [pd p, td p] ∧ IsPair p ∧ Sm 85000 p.1 ∧ d = .bool true
def R__law_right1 : Rel := fun ds d => ∃ r : Row, ds = [rd r] ∧ Fit r ∧ d = .bool true
def R_law1 : Rel := fun ds d => ∃ ns : List Int, ds = [.list (ns.map .int)] ∧ ns.length ≤ 63 ∧ (∀ c ∈ ns, Sm 1048577 c) ∧ d = .bool true
theorem fit_nil : Fit [] := fit_of trivial (by decide) fun x hx => nomatch hx
theorem fit_one {s : Int} {t : Nat} (hs : Step s) (ht : 0 < t) (h1 : s = 1 → t ≤ 1000) (h2 : (t : Int) ≤ E40) : Fit [(s, t)] :=
  fit_of ⟨hs, by unfold Step at hs; omega, ht, h1, trivial⟩ (by show 1 ≤ 30; decide) fun x hx => by
    cases hx with
    | head => exact h2
    | tail _ h => cases h
theorem fit_two {s s' : Int} {t t' : Nat} (hs : Step s) (ht : 0 < t) (h1 : s = 1 → t ≤ 1000) (h2 : (t : Int) ≤ E40) (hs' : Step s') (hne : s' ≠ s) (ht' : 0 < t') (h1' : s' = 1 → t' ≤ 1000) (h2' : (t' : Int) ≤ E40) : Fit [(s, t), (s', t')] :=
  fit_of ⟨hs, by unfold Step at hs; omega, ht, h1, hs', hne, ht', h1', trivial⟩ (by show 2 ≤ 30; decide) fun x hx => by
    cases hx with
    | head => exact h2
    | tail _ h =>
      cases h with
      | head => exact h2'
      | tail _ h => cases h
end Sq

namespace Sq
open PySem PySem.Spec PyProof.Rows L2 Evl
/-! ### each pair has a row -/
theorem gcd_of {a b m n : Int} (h : Int.gcd m n = 1) (hd : ∀ d : Int, d ∣ a → d ∣ b → d ∣ m ∧ d ∣ n) : Int.gcd a b = 1 := by
  obtain ⟨q1, q2⟩ := hd (Int.gcd a b : Int) (Int.gcd_dvd_left ..) (Int.gcd_dvd_right ..)
  have := Int.dvd_gcd q1 q2
  rw [h] at this
  have : (Int.gcd a b) ∣ 1 := by exact_mod_cast this
  exact Nat.dvd_one.mp this
/-- one step back -/
theorem back_pair {p : P2} (h : IsPair p) (hr : p ≠ root) : Step (lastStep p) ∧ IsPair (ledBack p (lastStep p) 1) ∧ (ledBack p (lastStep p) 1).1 < p.1 := by
  obtain ⟨m, n⟩ := p
  obtain ⟨h1, h2, h3, h4⟩ := id h
  have h1 : 0 < n := h1
  have h2 : n < m := h2
  have h3 : (m - n) % 2 = 1 := h3
  have h4 : Int.gcd m n = 1 := h4
  have n2 : m ≠ 2 * n := fun e => hr (at_two h e)
  have n3 : m ≠ 3 * n := not_three h
  by_cases c0 : m < 2 * n
  · have e : lastStep (m, n) = 0 := if_pos c0
    rw [e]
    have eb : ledBack (m, n) 0 1 = (n, 2 * n - m) := by
      show ((m - (m - n) * ((1 : Nat) : Int), n - (m - n) * ((1 : Nat) : Int)) : P2) = _
      congr 1 <;> omega
    rw [eb]
    refine ⟨.inl rfl, ⟨by show 0 < 2 * n - m; omega, by show 2 * n - m < n; omega, by show (n - (2 * n - m)) % 2 = 1; omega, gcd_of h4 fun d q1 q2 => ⟨?_, q1⟩⟩, h2⟩
    have q1 : d ∣ n := q1
    have q2 : d ∣ 2 * n - m := q2
    have e2 : m = 2 * n - (2 * n - m) := by omega
    rw [e2]
    exact Int.dvd_sub (Int.dvd_mul_of_dvd_right q1) q2
  · by_cases c1 : m < 3 * n
    · have e : lastStep (m, n) = 1 := by
        show (if m < 2 * n then (0 : Int) else if m < 3 * n then 1 else 2) = 1
        rw [if_neg c0, if_pos c1]
      rw [e]
      have eb : ledBack (m, n) 1 1 = (n, m - 2 * n) := rfl
      rw [eb]
      refine ⟨.inr (.inl rfl), ⟨by show 0 < m - 2 * n; omega, by show m - 2 * n < n; omega, by show (n - (m - 2 * n)) % 2 = 1; omega, gcd_of h4 fun d q1 q2 => ⟨?_, q1⟩⟩, h2⟩
      have q1 : d ∣ n := q1
      have q2 : d ∣ m - 2 * n := q2
      have e2 : m = m - 2 * n + 2 * n := by omega
      rw [e2]
      exact Int.dvd_add q2 (Int.dvd_mul_of_dvd_right q1)
    · have e : lastStep (m, n) = 2 := by
        show (if m < 2 * n then (0 : Int) else if m < 3 * n then 1 else 2) = 2
        rw [if_neg c0, if_neg c1]
      rw [e]
      have eb : ledBack (m, n) 2 1 = (m - 2 * n, n) := by
        show ((m - 2 * n * ((1 : Nat) : Int), n) : P2) = _
        congr 1
        omega
      rw [eb]
      refine ⟨.inr (.inr rfl), ⟨h1, by show n < m - 2 * n; omega, by show (m - 2 * n - n) % 2 = 1; omega, gcd_of h4 fun d q1 q2 => ⟨?_, q2⟩⟩, by show m - 2 * n < m; omega⟩
      have q1 : d ∣ m - 2 * n := q1
      have q2 : d ∣ n := q2
      have e2 : m = m - 2 * n + 2 * n := by omega
      rw [e2]
      exact Int.dvd_add q1 (Int.dvd_mul_of_dvd_right q2)
/-- a step more at the end -/
def addStep (s : Int) : Row → Row
  | [] => [(s, 1)]
  | [(s', t)] => if s' = s then [(s', t + 1)] else [(s', t), (s, 1)]
  | x :: y :: r => x :: addStep s (y :: r)
def count : Row → Nat
  | [] => 0
  | (_, t) :: r => t + count r
theorem addStep_behind (s : Int) : ∀ (r : Row) (p : P2), behind p (addStep s r) = led (behind p r) s 1
  | [], p => rfl
  | [(s', t)], p => by
    unfold addStep
    split
    · rename_i h
      subst h
      exact led_succ p s' t
    · rfl
  | (s', t) :: y :: r, p => addStep_behind s (y :: r) (led p s' t)
theorem addStep_count (s : Int) : ∀ r : Row, count (addStep s r) = count r + 1
  | [] => rfl
  | [(s', t)] => by
    unfold addStep
    split
    · show t + 1 + 0 = t + 0 + 1; omega
    · show t + (1 + 0) = t + 0 + 1; omega
  | (s', t) :: y :: r => by
    show t + count (addStep s (y :: r)) = t + count (y :: r) + 1
    rw [addStep_count s (y :: r)]
    omega
theorem addStep_good {s : Int} (hs : Step s) : ∀ (r : Row) (l : Int), Good l r → (r = [] → s ≠ l) → count r ≤ 900 → Good l (addStep s r)
  | [], l, _, h, _ => ⟨hs, h rfl, by decide, fun _ => by decide, trivial⟩
  | [(s', t)], l, g, _, hc => by
    have hc : t + 0 ≤ 900 := hc
    unfold addStep
    split
    · exact ⟨g.1, g.2.1, by omega, fun _ => by omega, trivial⟩
    · rename_i h
      exact ⟨g.1, g.2.1, g.2.2.1, g.2.2.2.1, hs, fun z => h z.symm, by decide, fun _ => by decide, trivial⟩
  | (s', t) :: y :: r, l, g, _, hc => by
    have hc : t + count (y :: r) ≤ 900 := hc
    exact ⟨g.1, g.2.1, g.2.2.1, g.2.2.2.1, addStep_good hs (y :: r) s' g.2.2.2.2 (fun z => by cases z) (by omega)⟩
theorem count_len {l : Int} : ∀ {r : Row}, Good l r → r.length ≤ count r ∧ ∀ x ∈ r, x.2 ≤ count r
  | [], _ => ⟨Nat.le_refl _, fun x h => nomatch h⟩
  | (s, t) :: r, g => by
    obtain ⟨h1, h2⟩ := count_len g.2.2.2.2
    have h0 := g.2.2.1
    refine ⟨by show r.length + 1 ≤ t + count r; omega, fun x hx => ?_⟩
    rcases List.mem_cons.mp hx with e | hx
    · subst e; show t ≤ t + count r; omega
    · have := h2 x hx
      show x.2 ≤ t + count r
      omega
def rowF : Nat → P2 → Row
  | 0, _ => []
  | k + 1, p => if p = root then [] else addStep (lastStep p) (rowF k (ledBack p (lastStep p) 1))
theorem rowF_ok : ∀ (k : Nat) (p : P2), IsPair p → p.1 ≤ (k : Int) + 2 → k ≤ 800 → Good (-1) (rowF k p) ∧ behind root (rowF k p) = p ∧ (count (rowF k p) : Int) + 2 ≤ p.1
  | 0, p, h, hk, _ => by
    obtain ⟨m, n⟩ := p
    obtain ⟨h1, h2, h3, h4⟩ := id h
    have h1 : 0 < n := h1
    have h2 : n < m := h2
    have hk : m ≤ ((0 : Nat) : Int) + 2 := hk
    have e1 : m = 2 := by omega
    have e2 : n = 1 := by omega
    subst e1
    subst e2
    exact ⟨trivial, rfl, by decide⟩
  | k + 1, p, h, hk, hk8 => by
    unfold rowF
    by_cases hr : p = root
    · rw [if_pos hr, hr]
      exact ⟨trivial, rfl, by decide⟩
    · rw [if_neg hr]
      obtain ⟨b1, b2, b3⟩ := back_pair h hr
      have hk' : (ledBack p (lastStep p) 1).1 ≤ (k : Int) + 2 := by
        have : p.1 ≤ ((k + 1 : Nat) : Int) + 2 := hk
        omega
      obtain ⟨i1, i2, i3⟩ := rowF_ok k _ b2 hk' (by omega)
      have hle := led_ledBack p (lastStep p) 1
      generalize rowF k (ledBack p (lastStep p) 1) = r at i1 i2 i3
      refine ⟨addStep_good b1 r (-1) i1 (fun _ => by unfold Step at b1; omega) (by omega), by rw [addStep_behind, i2, hle], ?_⟩
      rw [addStep_count]
      omega
def rowP (p : P2) : Row := rowF 60 p
theorem rowP_ok {p : P2} (h : IsPair p) (hp : p.1 ≤ 40) : Fit (rowP p) ∧ behind root (rowP p) = p ∧ (count (rowP p) : Int) + 2 ≤ p.1 := by
  obtain ⟨h1, h2, h3⟩ := rowF_ok 60 p h (by omega) (by decide)
  refine ⟨⟨h1, ?_, fun x hx => ?_, ?_⟩, h2, h3⟩
  · have := (count_len h1).1
    show (rowF 60 p).length ≤ 200
    omega
  · have := (count_len h1).2 x hx
    refine Nat.lt_of_lt_of_le (show x.2 < 2 ^ 6 from ?_) (Nat.pow_le_pow_right (by decide) (by decide))
    show x.2 < 64
    omega
  · show Sm 80000 (behind root (rowF 60 p)).1
    rw [h2]
    have h0 := ok_of h
    obtain ⟨a, b⟩ := h0
    exact Sm.up (a := 6) (show p.1.natAbs < 64 by omega) (by decide)
/-! ### step by step -/
def flat : Row → List Int
  | [] => []
  | (s, t) :: r => List.replicate t s ++ flat r
theorem flat_len : ∀ r : Row, (flat r).length = count r
  | [] => rfl
  | (s, t) :: r => by
    show (List.replicate t s ++ flat r).length = t + count r
    rw [List.length_append, List.length_replicate, flat_len r]
def walk : P2 → List Int → P2
  | p, [] => p
  | p, s :: l => walk (led p s 1) l
theorem walk_append (p : P2) (a b : List Int) : walk p (a ++ b) = walk (walk p a) b := by
  induction a generalizing p with
  | nil => rfl
  | cons x a ih => exact ih _
theorem walk_rep (p : P2) (s : Int) : ∀ t : Nat, walk p (List.replicate t s) = led p s t
  | 0 => (led_zero p s).symm
  | t + 1 => by
    rw [List.replicate_succ', walk_append, walk_rep p s t, led_succ]
    rfl
theorem walk_flat : ∀ (r : Row) (p : P2), walk p (flat r) = behind p r
  | [], _ => rfl
  | (s, t) :: r, p => by
    show walk p (List.replicate t s ++ flat r) = behind (led p s t) r
    rw [walk_append, walk_rep, walk_flat r]
theorem walk_pair {p : P2} (h : IsPair p) : ∀ l : List Int, IsPair (walk p l)
  | [] => h
  | s :: l => walk_pair (led_pair1 h s) l
theorem walk_up {p : P2} (h : Ok2 p) : ∀ l : List Int, p.1 + l.length ≤ (walk p l).1
  | [] => by show p.1 + 0 ≤ p.1; omega
  | s :: l => by
    have h1 := led_up1 h s
    have h2 := walk_up (led_ok h s 1) l
    show p.1 + ((l.length + 1 : Nat) : Int) ≤ (walk (led p s 1) l).1
    omega
theorem flat_steps {l : Int} : ∀ {r : Row}, Good l r → ∀ s ∈ flat r, Step s
  | [], _, s, h => nomatch h
  | (s', t) :: r, g, s, h => by
    rcases List.mem_append.mp h with h | h
    · rw [List.eq_of_mem_replicate h]; exact g.1
    · exact flat_steps g.2.2.2.2 s h
/-! ### all pairs up to a number -/
def isP (m n : Nat) : Bool := decide ((m + n) % 2 = 1) && decide (Nat.gcd m n = 1)
def innerL (m : Nat) : Nat → List P2
  | 0 => []
  | k + 1 => innerL m k ++ (if isP m (k + 1) then [((m : Int), ((k + 1 : Nat) : Int))] else [])
def outerL : Nat → List P2
  | 0 => []
  | k + 1 => outerL k ++ innerL (k + 2) (k + 1)
theorem isP_pair {m n : Nat} (h : isP m n = true) (h0 : 0 < n) (h1 : n < m) : IsPair ((m : Int), (n : Int)) := by
  unfold isP at h
  rw [Bool.and_eq_true] at h
  have a := of_decide_eq_true h.1
  have b := of_decide_eq_true h.2
  refine ⟨by show 0 < (n : Int); omega, by show (n : Int) < m; omega, by show ((m : Int) - n) % 2 = 1; omega, ?_⟩
  show Int.gcd (m : Int) (n : Int) = 1
  rw [Int.gcd_natCast_natCast]
  exact b
theorem innerL_mem (m : Nat) : ∀ (k : Nat) (p : P2), k < m → p ∈ innerL m k → IsPair p ∧ p.1 = (m : Int) ∧ p.2 ≤ (k : Int)
  | 0, p, _, h => nomatch h
  | k + 1, p, hk, h => by
    rcases List.mem_append.mp h with h | h
    · obtain ⟨a, b, c⟩ := innerL_mem m k p (by omega) h
      exact ⟨a, b, by omega⟩
    · split at h
      · rename_i hp
        cases h with
        | head => exact ⟨isP_pair hp (by omega) hk, rfl, Int.le_refl _⟩
        | tail _ h => cases h
      · cases h
theorem innerL_nodup (m : Nat) : ∀ k : Nat, k < m → (innerL m k).Nodup
  | 0, _ => List.nodup_nil
  | k + 1, hk => by
    refine List.nodup_append.mpr ⟨innerL_nodup m k (by omega), ?_, fun a ha b hb => ?_⟩
    · split
      · simp
      · exact List.nodup_nil
    · obtain ⟨_, _, c⟩ := innerL_mem m k a (by omega) ha
      split at hb
      · cases hb with
        | head =>
          intro e
          rw [e] at c
          have c : ((k + 1 : Nat) : Int) ≤ (k : Int) := c
          omega
        | tail _ h => cases h
      · cases hb
theorem outerL_mem : ∀ (k : Nat) (p : P2), p ∈ outerL k → IsPair p ∧ p.1 ≤ (k : Int) + 1
  | 0, p, h => nomatch h
  | k + 1, p, h => by
    rcases List.mem_append.mp h with h | h
    · obtain ⟨a, b⟩ := outerL_mem k p h
      exact ⟨a, by omega⟩
    · obtain ⟨a, b, _⟩ := innerL_mem (k + 2) (k + 1) p (by omega) h
      exact ⟨a, by omega⟩
theorem outerL_nodup : ∀ k : Nat, (outerL k).Nodup
  | 0 => List.nodup_nil
  | k + 1 => by
    refine List.nodup_append.mpr ⟨outerL_nodup k, innerL_nodup _ _ (by omega), fun a ha b hb e => ?_⟩
    obtain ⟨_, x⟩ := outerL_mem k a ha
    obtain ⟨_, y, _⟩ := innerL_mem (k + 2) (k + 1) b (by omega) hb
    rw [e, y] at x
    omega
theorem innerL_len (m : Nat) : ∀ k, (innerL m k).length ≤ k
  | 0 => Nat.le_refl _
  | k + 1 => by
    have h1 := innerL_len m k
    show (innerL m k ++ (if isP m (k + 1) then [((m : Int), ((k + 1 : Nat) : Int))] else [])).length ≤ k + 1
    rw [List.length_append]
    split
    · show _ + 1 ≤ _; omega
    · show _ + 0 ≤ _; omega
theorem outerL_len : ∀ k, (outerL k).length ≤ k * k
  | 0 => Nat.le_refl _
  | k + 1 => by
    have h1 := outerL_len k
    have h2 := innerL_len (k + 2) (k + 1)
    show (outerL k ++ innerL (k + 2) (k + 1)).length ≤ _
    rw [List.length_append, Nat.add_mul, Nat.mul_add]
    omega
theorem outerL_pre (j : Nat) : ∃ r, outerL (3 + j) = outerL 3 ++ r := by
  induction j with
  | zero => exact ⟨[], by rw [List.append_nil]⟩
  | succ j ih =>
    obtain ⟨r, h⟩ := ih
    refine ⟨r ++ innerL (3 + j + 2) (3 + j + 1), ?_⟩
    show outerL (3 + j) ++ innerL (3 + j + 2) (3 + j + 1) = _
    rw [h, List.append_assoc]
theorem outerL_three {k : Nat} (h : 3 ≤ k) : (outerL k).take 3 = [(2, 1), (3, 2), (4, 1)] := by
  obtain ⟨r, e⟩ := outerL_pre (k - 3)
  rw [show 3 + (k - 3) = k by omega] at e
  rw [e, List.take_append_of_le_length (by decide)]
  decide
theorem rows3 : rowP (2, 1) = [] ∧ rowP (3, 2) = [(0, 1)] ∧ rowP (4, 1) = [(2, 1)] := by decide
theorem once_of {p : P2} : ∀ {ps : List P2}, ps.Nodup → p ∈ ps → ps.countP (fun q => q == p) = 1
  | [], _, h => nomatch h
  | x :: ps, hn, h => by
    obtain ⟨h1, h2⟩ := List.nodup_cons.mp hn
    rw [List.countP_cons]
    by_cases e : x = p
    · have h0 : ps.countP (fun q => q == p) = 0 := List.countP_eq_zero.mpr fun q hq z => by
        rw [beq_iff_eq] at z
        exact h1 (by rw [e, ← z]; exact hq)
      rw [h0, if_pos (by rw [beq_iff_eq]; exact e)]
    · rw [if_neg (by rw [beq_iff_eq]; exact e)]
      rcases List.mem_cons.mp h with z | z
      · exact absurd z.symm e
      · rw [once_of h2 z]
/-- each row once -/
theorem count_once {ps : List P2} (hn : ps.Nodup) (hp : ∀ p ∈ ps, IsPair p ∧ p.1 ≤ 40) {p : P2} (h : p ∈ ps) : (ps.map fun q => rd (rowP q)).countP (fun z => PyData.eqv z (rd (rowP p))) = 1 := by
  rw [List.countP_map]
  have e : ps.countP ((fun z => PyData.eqv z (rd (rowP p))) ∘ fun q => rd (rowP q)) = ps.countP (fun q => q == p) := by
    refine List.countP_congr fun q hq => ?_
    show PyData.eqv (rd (rowP q)) (rd (rowP p)) = true ↔ (q == p) = true
    rw [eqv_rd, decide_eq_true_eq, beq_iff_eq]
    constructor
    · intro z
      obtain ⟨a1, a2⟩ := hp q hq
      obtain ⟨b1, b2⟩ := hp p h
      rw [← (rowP_ok a1 a2).2.1, ← (rowP_ok b1 b2).2.1, z]
    · intro z; rw [z]
  rw [e]
  exact once_of hn h
theorem shaped_rds (ps : List P2) : SeqAt.shaped (.list (ps.map fun q => rd (rowP q))) = true := by
  have h : ∀ ps : List P2, PyData.canLayAll0 (ps.map fun q => rd (rowP q)) = true ∧ PyData.depthAll (ps.map fun q => rd (rowP q)) ≤ 60 := by
    intro ps
    induction ps with
    | nil => exact ⟨rfl, Nat.zero_le _⟩
    | cons x a ih =>
      rw [List.map_cons]
      have h0 := shaped_rd (rowP x)
      have h1 := SeqAt.canLay_of_shaped h0
      have h2 : (rd (rowP x)).depth ≤ 2 := by
        have : ∀ a : Row, PyData.depthAll (a.map sd) ≤ 1 := by
          intro a
          induction a with
          | nil => exact Nat.zero_le _
          | cons y a ih => rw [List.map_cons]; simp only [PyData.depthAll, sd, PyData.depth]; omega
        have := this (rowP x)
        show PyData.depthAll ((rowP x).map sd) + 1 ≤ 2
        omega
      simp only [PyData.canLayAll0, PyData.depthAll, h1, ih.1, Bool.and_self]
      exact ⟨trivial, by have := ih.2; omega⟩
  have h1 := (h ps).1
  have h2 := (h ps).2
  unfold SeqAt.shaped
  simp only [PyData.canLay0, PyData.depth, h1, Bool.true_and, decide_eq_true_eq]
  exact decide_eq_true (by omega)
theorem flat_one {α : Type} (x : α) : ∀ t : Nat, (List.replicate t [x]).flatten = List.replicate t x
  | 0 => rfl
  | t + 1 => by rw [List.replicate_succ, List.flatten_cons, flat_one x t, List.replicate_succ]; rfl
def R__law_cell_at : Rel := fun ds d => ∃ (ns : List Int) (k : Nat), ds = [.list (ns.map .int), .int k] ∧ d = .int (ns.getD k 0)
def R__law_common : Rel := fun ds d => ∃ a b : Nat, ds = [.int a, .int b] ∧ d = .int (Nat.gcd a b)
def R__law_right2 : Rel := fun ds d => ∃ m n : Nat, ds = [.int m, .int n] ∧ IsPair ((m : Int), (n : Int)) ∧ m ≤ 40 ∧ d = .bool true
def R_law2 : Rel := fun ds d => ∃ ns : List Int, ds = [.list (ns.map .int)] ∧ ns.length ≤ 63 ∧ (∀ c ∈ ns, Sm 1048577 c) ∧ d = .bool true
theorem sm40 {p : P2} (h : IsPair p) (h2 : p.1 ≤ 40) : Sm 6 p.1 ∧ Sm 6 p.2 := by
  obtain ⟨a, b⟩ := ok_of h
  exact ⟨show p.1.natAbs < 64 by omega, show p.2.natAbs < 64 by omega⟩
end Sq

namespace Sq
/-! ### primes that leave 1 by 4 are sums of two squares, up to a million: by great bit masks -/
/-- bits at q * j, j < 2 ^ k -/
def mults (q : Nat) : Nat → Nat
  | 0 => 1
  | k + 1 => mults q k ||| (mults q k <<< (q * 2 ^ k))
theorem mults_bit (q : Nat) : ∀ (k i : Nat), (mults q k).testBit i = true → q ∣ i
  | 0, i, h => by
    unfold mults at h
    rw [Nat.testBit_one_eq_true_iff_self_eq_zero] at h
    subst h
    exact Nat.dvd_zero _
  | k + 1, i, h => by
    unfold mults at h
    rw [Nat.testBit_or, Nat.testBit_shiftLeft, Bool.or_eq_true, Bool.and_eq_true] at h
    rcases h with h | ⟨h1, h2⟩
    · exact mults_bit q k i h
    · have h1 := of_decide_eq_true h1
      have := mults_bit q k _ h2
      have e : i = (i - q * 2 ^ k) + q * 2 ^ k := by omega
      rw [e]
      exact Nat.dvd_add this (Nat.dvd_mul_right _ _)
/-- bits at a a, 1 ≤ a ≤ k -/
def sqs : Nat → Nat
  | 0 => 0
  | k + 1 => sqs k ||| (1 <<< ((k + 1) * (k + 1)))
theorem sqs_bit : ∀ (k i : Nat), (sqs k).testBit i = true → ∃ a, 0 < a ∧ i = a * a
  | 0, i, h => by unfold sqs at h; rw [Nat.zero_testBit] at h; cases h
  | k + 1, i, h => by
    unfold sqs at h
    rw [Nat.testBit_or, Nat.testBit_shiftLeft, Bool.or_eq_true, Bool.and_eq_true] at h
    rcases h with h | ⟨h1, h2⟩
    · exact sqs_bit k i h
    · have h1 := of_decide_eq_true h1
      rw [Nat.testBit_one_eq_true_iff_self_eq_zero] at h2
      exact ⟨k + 1, by omega, by omega⟩
/-- sums of two -/
def sums (s : Nat) : Nat → Nat
  | 0 => 0
  | k + 1 => sums s k ||| (s <<< ((k + 1) * (k + 1)))
theorem sums_bit (s : Nat) : ∀ (k i : Nat), (sums s k).testBit i = true → ∃ a j, 0 < a ∧ s.testBit j = true ∧ i = a * a + j
  | 0, i, h => by unfold sums at h; rw [Nat.zero_testBit] at h; cases h
  | k + 1, i, h => by
    unfold sums at h
    rw [Nat.testBit_or, Nat.testBit_shiftLeft, Bool.or_eq_true, Bool.and_eq_true] at h
    rcases h with h | ⟨h1, h2⟩
    · exact sums_bit s k i h
    · have h1 := of_decide_eq_true h1
      exact ⟨k + 1, i - (k + 1) * (k + 1), by omega, h2, by omega⟩
/-- what some odd q goes into, 3 ≤ q ≤ 2 k + 1, q itself left out -/
def comps : Nat → Nat
  | 0 => 0
  | k + 1 => comps k ||| ((mults (2 * k + 3) (20 - (2 * k + 3).log2)) ^^^ ((1 <<< (2 * k + 3)) &&& (mults (2 * k + 3) (20 - (2 * k + 3).log2))))
theorem comps_bit : ∀ (k i : Nat), (comps k).testBit i = true → ∃ q, 2 < q ∧ q ∣ i ∧ q ≠ i
  | 0, i, h => by unfold comps at h; rw [Nat.zero_testBit] at h; cases h
  | k + 1, i, h => by
    unfold comps at h
    generalize hm : mults (2 * k + 3) (20 - (2 * k + 3).log2) = M at h
    rw [Nat.testBit_or, Nat.testBit_xor, Nat.testBit_and, Nat.testBit_shiftLeft, Bool.or_eq_true] at h
    rcases h with h | h
    · exact comps_bit k i h
    · by_cases hM : M.testBit i = true
      · refine ⟨2 * k + 3, by omega, mults_bit _ _ _ (by rw [hm]; exact hM), fun e => ?_⟩
        subst e
        rw [hM, Nat.sub_self] at h
        simp at h
      · rw [Bool.not_eq_true] at hM
        rw [hM] at h
        simp at h
def ones : Nat := (mults 4 18) <<< 1
def two : Nat := sums (sqs 1000) 1000
def cmp : Nat := comps 499
/-- each number that leaves 1 by 4, below a million and more than 1, is a sum of two squares or no prime -/
theorem all_told : (ones ^^^ 2) &&& ((two ||| cmp) ^^^ (ones ^^^ 2)) &&& (2 ^ 1000001 - 1) = 0 := by decide +kernel
theorem mults_has (q : Nat) : ∀ (k j : Nat), j < 2 ^ k → (mults q k).testBit (q * j) = true
  | 0, j, h => by
    have : j = 0 := by omega
    subst this
    rw [Nat.mul_zero]
    simp [mults]
  | k + 1, j, h => by
    unfold mults
    rw [Nat.testBit_or, Nat.testBit_shiftLeft, Bool.or_eq_true, Bool.and_eq_true]
    by_cases hj : j < 2 ^ k
    · exact .inl (mults_has q k j hj)
    · refine .inr ⟨decide_eq_true (Nat.mul_le_mul_left q (by omega)), ?_⟩
      rw [← Nat.mul_sub]
      exact mults_has q k (j - 2 ^ k) (by rw [Nat.pow_succ] at h; omega)
def Prime (p : Nat) : Prop := 2 ≤ p ∧ ∀ d, d ∣ p → d = 1 ∨ d = p
theorem two_squares {p : Nat} (hp : Prime p) (h4 : p % 4 = 1) (hle : p ≤ 1000000) : ∃ a b : Nat, 0 < a ∧ 0 < b ∧ p = a * a + b * b := by
  have h1 : 1 < p := hp.1
  have hones : (ones ^^^ 2).testBit p = true := by
    rw [Nat.testBit_xor]
    have e1 : ones.testBit p = true := by
      unfold ones
      rw [Nat.testBit_shiftLeft, Bool.and_eq_true]
      refine ⟨decide_eq_true (by omega), ?_⟩
      obtain ⟨j, hj⟩ : ∃ j, p - 1 = 4 * j := ⟨(p - 1) / 4, by omega⟩
      rw [hj]
      refine mults_has 4 18 j ?_
      have : (2 : Nat) ^ 18 = 262144 := by decide
      omega
    have e2 : (2 : Nat).testBit p = false := by
      have : p ≠ 1 := by omega
      rw [show (2 : Nat) = 2 ^ 1 by decide, Nat.testBit_two_pow]
      exact decide_eq_false (by omega)
    rw [e1, e2]
    rfl
  have hmask : (2 ^ 1000001 - 1).testBit p = true := by
    rw [Nat.testBit_two_pow_sub_one]
    exact decide_eq_true (by omega)
  have h := congrArg (fun x => x.testBit p) all_told
  simp only [Nat.testBit_and, Nat.zero_testBit, hones, hmask, Bool.true_and, Bool.and_true] at h
  rw [Nat.testBit_xor, hones, Nat.testBit_or] at h
  have h2 : (two.testBit p || cmp.testBit p) = true := by
    cases hx : (two.testBit p || cmp.testBit p) with
    | true => rfl
    | false => rw [hx] at h; cases h
  rw [Bool.or_eq_true] at h2
  rcases h2 with h2 | h2
  · obtain ⟨a, j, ha, hj, e⟩ := sums_bit _ _ _ h2
    obtain ⟨b, hb, e2⟩ := sqs_bit _ _ hj
    exact ⟨a, b, ha, hb, by omega⟩
  · obtain ⟨q, hq, hd, hne⟩ := comps_bit _ _ h2
    rcases hp.2 q hd with z | z
    · omega
    · exact absurd z hne
end Sq

namespace Sq
/-! ### primes -/
theorem has_prime : ∀ n : Nat, 2 ≤ n → ∃ p, Prime p ∧ p ∣ n := by
  intro n
  induction n using Nat.strongRecOn with
  | ind n ih =>
    intro h
    by_cases hp : Prime n
    · exact ⟨n, hp, Nat.dvd_refl _⟩
    · have : ¬ ∀ d, d ∣ n → d = 1 ∨ d = n := fun z => hp ⟨h, z⟩
      obtain ⟨d, hd⟩ := Classical.not_forall.mp this
      have hdn : d ∣ n := Classical.byContradiction fun z => hd fun y => absurd y z
      have h1 : d ≠ 1 := fun z => hd fun _ => .inl z
      have h2 : d ≠ n := fun z => hd fun _ => .inr z
      have h3 : d ≤ n := Nat.le_of_dvd (by omega) hdn
      have h0 : d ≠ 0 := fun z => by rw [z, Nat.zero_dvd] at hdn; omega
      obtain ⟨p, pp, pd⟩ := ih d (by omega) (by omega)
      exact ⟨p, pp, Nat.dvd_trans pd hdn⟩
theorem Prime.cop {p x : Nat} (hp : Prime p) (h : ¬ p ∣ x) : Nat.Coprime p x := by
  rcases hp.2 (Nat.gcd p x) (Nat.gcd_dvd_left _ _) with z | z
  · exact z
  · exact absurd (z ▸ Nat.gcd_dvd_right p x) h
theorem Prime.mul {p x y : Nat} (hp : Prime p) (h : p ∣ x * y) : p ∣ x ∨ p ∣ y := by
  by_cases hx : p ∣ x
  · exact .inl hx
  · exact .inr ((hp.cop hx).dvd_of_dvd_mul_left h)
theorem Prime.imul {p : Nat} {x y : Int} (hp : Prime p) (h : (p : Int) ∣ x * y) : (p : Int) ∣ x ∨ (p : Int) ∣ y := by
  have h1 : p ∣ x.natAbs * y.natAbs := by
    rw [← Int.natAbs_mul]
    have := Int.natAbs_dvd_natAbs.mpr h
    rw [Int.natAbs_natCast] at this
    exact this
  rcases hp.mul h1 with z | z
  · exact .inl (Int.natAbs_dvd_natAbs.mp (by rw [Int.natAbs_natCast]; exact z))
  · exact .inr (Int.natAbs_dvd_natAbs.mp (by rw [Int.natAbs_natCast]; exact z))
/-- no prime goes into both -/
theorem cop_of {x y : Int} (h0 : x ≠ 0 ∨ y ≠ 0) (h : ∀ q : Nat, Prime q → (q : Int) ∣ x → (q : Int) ∣ y → False) : Int.gcd x y = 1 := by
  refine Classical.byContradiction fun hg => ?_
  have hg0 : Int.gcd x y ≠ 0 := fun z => by
    have := Int.gcd_eq_zero_iff.mp z
    rcases h0 with a | a
    · exact a this.1
    · exact a this.2
  obtain ⟨q, hq, hd⟩ := has_prime (Int.gcd x y) (by omega)
  exact h q hq (Int.dvd_trans (Int.natCast_dvd_natCast.mpr hd) (Int.gcd_dvd_left ..)) (Int.dvd_trans (Int.natCast_dvd_natCast.mpr hd) (Int.gcd_dvd_right ..))
theorem not_both {x y : Int} {q : Nat} (hg : Int.gcd x y = 1) (hq : Prime q) (hx : (q : Int) ∣ x) (hy : (q : Int) ∣ y) : False := by
  have := Int.dvd_coe_gcd hx hy
  rw [hg] at this
  have : q ∣ 1 := by exact_mod_cast this
  have := Nat.dvd_one.mp this
  have := hq.1
  omega
/-- one of the two products is without common divisor -/
theorem compose {m n : Int} {p a b : Nat} (hg : Int.gcd m n = 1) (hp : Prime p) (hodd : p % 2 = 1) (ha : 0 < a) (hb : 0 < b) (e : p = a * a + b * b) :
    ∃ x y : Int, x * x + y * y = (m * m + n * n) * p ∧ Int.gcd x y = 1 := by
  have eI : (p : Int) = (a : Int) * a + (b : Int) * b := by rw [e]; simp
  have hmn : m * m + n * n ≠ 0 := fun z => by
    have h1 : 0 ≤ m * m := by have := Int.sq_nonneg m; rw [Int.pow_succ, Int.pow_succ, Int.pow_zero, Int.one_mul] at this; exact this
    have h2 : 0 ≤ n * n := by have := Int.sq_nonneg n; rw [Int.pow_succ, Int.pow_succ, Int.pow_zero, Int.one_mul] at this; exact this
    have m0 : m * m = 0 := by omega
    have n0 : n * n = 0 := by omega
    have m0 : m = 0 := by rcases Int.mul_eq_zero.mp m0 with z | z <;> exact z
    have n0 : n = 0 := by rcases Int.mul_eq_zero.mp n0 with z | z <;> exact z
    rw [m0, n0] at hg
    cases hg
  have hp0 : (p : Int) ≠ 0 := by have := hp.1; omega
  -- a prime into both is p
  have key : ∀ (s : Int), s * s = 1 → ∀ q : Nat, Prime q → (q : Int) ∣ m * a - s * (n * b) → (q : Int) ∣ m * b + s * (n * a) → q = p := fun s hs q hq h1 h2 => by
    have d1 : (q : Int) ∣ m * p := by
      have e1 : m * p = (m * a - s * (n * b)) * a + (m * b + s * (n * a)) * b := by rw [eI]; grind
      rw [e1]
      exact Int.dvd_add (Int.dvd_mul_of_dvd_left h1) (Int.dvd_mul_of_dvd_left h2)
    have d2 : (q : Int) ∣ n * p := by
      have e1 : n * p = s * ((m * b + s * (n * a)) * a - (m * a - s * (n * b)) * b) := by
        have : s * ((m * b + s * (n * a)) * a - (m * a - s * (n * b)) * b) = (s * s) * (n * (a * a + b * b)) := by grind
        rw [this, hs, eI]
        grind
      rw [e1]
      exact Int.dvd_mul_of_dvd_right (Int.dvd_sub (Int.dvd_mul_of_dvd_left h2) (Int.dvd_mul_of_dvd_left h1))
    refine Classical.byContradiction fun hne => ?_
    have hqp : ¬ (q : Int) ∣ (p : Int) := fun z => by
      have z : q ∣ p := by exact_mod_cast z
      rcases hp.2 q z with y | y
      · have := hq.1; omega
      · exact hne y
    have hm := (hq.imul d1).resolve_right hqp
    have hn := (hq.imul d2).resolve_right hqp
    exact not_both hg hq hm hn
  have sq : ∀ s : Int, s * s = 1 → (m * a - s * (n * b)) * (m * a - s * (n * b)) + (m * b + s * (n * a)) * (m * b + s * (n * a)) = (m * m + n * n) * p := fun s hs => by
    rw [eI]
    have : (m * a - s * (n * b)) * (m * a - s * (n * b)) + (m * b + s * (n * a)) * (m * b + s * (n * a)) = m * m * (a * a + b * b) + (s * s) * (n * n * (a * a + b * b)) := by grind
    rw [this, hs]
    grind
  have nz : ∀ s : Int, s * s = 1 → m * a - s * (n * b) ≠ 0 ∨ m * b + s * (n * a) ≠ 0 := fun s hs => by
    refine Classical.byContradiction fun z => ?_
    have z1 : m * a - s * (n * b) = 0 := Classical.byContradiction fun y => z (.inl y)
    have z2 : m * b + s * (n * a) = 0 := Classical.byContradiction fun y => z (.inr y)
    have := sq s hs
    rw [z1, z2] at this
    rcases Int.mul_eq_zero.mp (show (m * m + n * n) * (p : Int) = 0 by omega) with y | y
    · exact hmn y
    · exact hp0 y
  by_cases c1 : Int.gcd (m * a - 1 * (n * b)) (m * b + 1 * (n * a)) = 1
  · exact ⟨_, _, sq 1 (by decide), c1⟩
  · by_cases c2 : Int.gcd (m * a - (-1) * (n * b)) (m * b + (-1) * (n * a)) = 1
    · exact ⟨_, _, sq (-1) (by decide), c2⟩
    · exfalso
      have g1 : (p : Int) ∣ m * a - 1 * (n * b) ∧ (p : Int) ∣ m * b + 1 * (n * a) := Classical.byContradiction fun z => c1 (cop_of (nz 1 (by decide)) fun q hq h1 h2 => by
        have := key 1 (by decide) q hq h1 h2
        subst this
        exact z ⟨h1, h2⟩)
      have g2 : (p : Int) ∣ m * a - (-1) * (n * b) ∧ (p : Int) ∣ m * b + (-1) * (n * a) := Classical.byContradiction fun z => c2 (cop_of (nz (-1) (by decide)) fun q hq h1 h2 => by
        have := key (-1) (by decide) q hq h1 h2
        subst this
        exact z ⟨h1, h2⟩)
      have a_lt : a < p := by
        have : a * 1 ≤ a * a := Nat.mul_le_mul_left a ha
        have : 0 < b * b := Nat.mul_pos hb hb
        omega
      have pa : ¬ (p : Int) ∣ (a : Int) := fun z => by
        have z : p ∣ a := by exact_mod_cast z
        have := Nat.le_of_dvd ha z
        omega
      have p2 : ¬ (p : Int) ∣ 2 := fun z => by
        have z : p ∣ 2 := by exact_mod_cast z
        have := Nat.le_of_dvd (by decide) z
        have := hp.1
        omega
      have d1 : (p : Int) ∣ 2 * (m * a) := by
        have e1 : 2 * (m * a) = (m * a - 1 * (n * b)) + (m * a - (-1) * (n * b)) := by omega
        rw [e1]
        exact Int.dvd_add g1.1 g2.1
      have d2 : (p : Int) ∣ 2 * (n * a) := by
        have e1 : 2 * (n * a) = (m * b + 1 * (n * a)) - (m * b + (-1) * (n * a)) := by omega
        rw [e1]
        exact Int.dvd_sub g1.2 g2.2
      have hm := (hp.imul ((hp.imul d1).resolve_left p2)).resolve_right pa
      have hn := (hp.imul ((hp.imul d2).resolve_left p2)).resolve_right pa
      exact not_both hg hp hm hn
/-- where all primes leave 1 by 4, there is a sum without common divisor -/
theorem prim_rep : ∀ N : Nat, 1 ≤ N → N ≤ 1000000 → (∀ p, Prime p → p ∣ N → p % 4 = 1) → ∃ m n : Int, m * m + n * n = N ∧ Int.gcd m n = 1 := by
  intro N
  induction N using Nat.strongRecOn with
  | ind N ih =>
    intro h1 hle hall
    by_cases hN : N = 1
    · exact ⟨1, 0, by rw [hN]; rfl, rfl⟩
    · obtain ⟨p, hp, k, rfl⟩ := has_prime N (by omega)
      have hp2 := hp.1
      have hk0 : k ≠ 0 := fun z => by rw [z] at h1; omega
      have hkN : k < p * k := by
        have : 2 * k ≤ p * k := Nat.mul_le_mul_right k hp2
        omega
      obtain ⟨m, n, e, g⟩ := ih k hkN (by omega) (by omega) fun q hq hd => hall q hq (Nat.dvd_trans hd (Nat.dvd_mul_left _ _))
      have hp4 := hall p hp (Nat.dvd_mul_right _ _)
      have hpl : p ≤ p * k := Nat.le_mul_of_pos_right p (by omega)
      obtain ⟨a, b, ha, hb, eab⟩ := two_squares hp hp4 (by omega)
      obtain ⟨x, y, exy, gxy⟩ := compose (m := m) (n := n) g hp (by omega) ha hb eab
      refine ⟨x, y, ?_, gxy⟩
      rw [exy, e, Int.natCast_mul, Int.mul_comm]
end Sq

namespace Sq
/-! ### the primes of a number, as the program finds them -/
theorem Prime.one {p q : Nat} (hp : Prime p) (hq : Prime q) (h : p ∣ q) : p = q := by
  have := hp.1
  rcases hq.2 p h with z | z
  · omega
  · exact z
open Classical in
noncomputable def isPr (N p : Nat) : Bool := decide (Prime p ∧ p ∣ N)
open Classical in
theorem isPr_iff {N p : Nat} : isPr N p = true ↔ Prime p ∧ p ∣ N := by unfold isPr; exact decide_eq_true_iff
noncomputable def below (N d : Nat) : List Nat := (List.range d).filter (isPr N)
noncomputable def primesOf (N : Nat) : List Nat := below N (N + 1)
def bar (p : Nat) : Bool := decide (p = 2) || decide (p % 4 = 3)
noncomputable def barring (N : Nat) : List Nat := (primesOf N).filter bar
theorem below_succ (N d : Nat) : below N (d + 1) = below N d ++ if isPr N d = true then [d] else [] := by
  unfold below
  rw [List.range_succ, List.filter_append]
  congr 1
  cases h : isPr N d <;> simp [h]
theorem below_len (N d : Nat) : (below N d).length ≤ d := by
  unfold below
  exact Nat.le_trans (List.length_filter_le _ _) (by rw [List.length_range]; exact Nat.le_refl _)
theorem below_more {N : Nat} : ∀ (c d : Nat), (∀ p, d ≤ p → p < d + c → isPr N p = false) → below N (d + c) = below N d
  | 0, d, _ => rfl
  | c + 1, d, h => by
    rw [← Nat.add_assoc, below_succ, h (d + c) (by omega) (by omega), below_more c d fun p h1 h2 => h p h1 (by omega)]
    simp
theorem mem_primes {N p : Nat} (h0 : 0 < N) : p ∈ primesOf N ↔ Prime p ∧ p ∣ N := by
  unfold primesOf below
  rw [List.mem_filter, List.mem_range, isPr_iff]
  exact ⟨fun h => h.2, fun h => ⟨Nat.lt_succ_of_le (Nat.le_of_dvd h0 h.2), h⟩⟩
theorem mem_barring {N p : Nat} (h0 : 0 < N) : p ∈ barring N ↔ (Prime p ∧ p ∣ N) ∧ (p = 2 ∨ p % 4 = 3) := by
  unfold barring
  rw [List.mem_filter, mem_primes h0]
  unfold bar
  rw [Bool.or_eq_true, decide_eq_true_iff, decide_eq_true_iff]
/-- what stands ahead of a turn: rest holds just the primes from d on -/
def Rest (N d r : Nat) : Prop := 0 < r ∧ r ≤ N ∧ ∀ p, Prime p → (p ∣ r ↔ p ∣ N ∧ d ≤ p)
theorem rest_start {N : Nat} (h : 0 < N) : Rest N 2 N := ⟨h, Nat.le_refl _, fun p hp => ⟨fun z => ⟨z, hp.1⟩, fun z => z.1⟩⟩
theorem rest_here {N d r : Nat} (h : Rest N d r) (hd : 2 ≤ d) : isPr N d = decide (r % d = 0) := by
  by_cases z : r % d = 0
  · rw [decide_eq_true z, isPr_iff]
    have zd : d ∣ r := Nat.dvd_of_mod_eq_zero z
    obtain ⟨q, hq, hqd⟩ := has_prime d hd
    have h1 := ((h.2.2 q hq).mp (Nat.dvd_trans hqd zd)).2
    have h2 := Nat.le_of_dvd (by omega) hqd
    have e : q = d := by omega
    subst e
    exact ⟨hq, ((h.2.2 q hq).mp zd).1⟩
  · rw [decide_eq_false z]
    cases e : isPr N d with
    | false => rfl
    | true =>
      obtain ⟨h1, h2⟩ := isPr_iff.mp e
      exact absurd (Nat.mod_eq_zero_of_dvd ((h.2.2 d h1).mpr ⟨h2, Nat.le_refl _⟩)) z
/-- within the inner loop -/
def Mid (N d r : Nat) : Prop := 0 < r ∧ r ≤ N ∧ (r % d = 0 → Prime d) ∧ ∀ p, Prime p → p ≠ d → (p ∣ r ↔ p ∣ N ∧ d ≤ p)
theorem mid_start {N d r : Nat} (h : Rest N d r) (hd : 2 ≤ d) : Mid N d r := ⟨h.1, h.2.1, fun z => by
  have e := rest_here h hd
  rw [decide_eq_true z] at e
  exact (isPr_iff.mp e).1, fun p hp _ => h.2.2 p hp⟩
theorem mid_step {N d r : Nat} (h : Mid N d r) (hd : 2 ≤ d) (z : r % d = 0) : Mid N d (r / d) ∧ r / d < r := by
  obtain ⟨h1, h2, h3, h4⟩ := h
  obtain ⟨k, rfl⟩ := Nat.dvd_of_mod_eq_zero z
  rw [Nat.mul_div_cancel_left _ (by omega)]
  have hk : 0 < k := Nat.pos_of_ne_zero fun y => by rw [y] at h1; omega
  have hlt : k < d * k := by
    have : 2 * k ≤ d * k := Nat.mul_le_mul_right k hd
    omega
  refine ⟨⟨hk, by omega, fun _ => h3 z, fun p hp hne => ?_⟩, hlt⟩
  rw [← h4 p hp hne]
  refine ⟨fun y => Nat.dvd_trans y (Nat.dvd_mul_left _ _), fun y => ?_⟩
  rcases hp.mul y with y | y
  · exact absurd (hp.one (h3 z) y) hne
  · exact y
theorem mid_end {N d r : Nat} (h : Mid N d r) (z : r % d ≠ 0) : Rest N (d + 1) r := by
  obtain ⟨h1, h2, h3, h4⟩ := h
  refine ⟨h1, h2, fun p hp => ?_⟩
  by_cases e : p = d
  · subst e
    exact ⟨fun y => absurd (Nat.mod_eq_zero_of_dvd y) z, fun y => absurd y.2 (by omega)⟩
  · rw [h4 p hp e]
    exact ⟨fun y => ⟨y.1, by omega⟩, fun y => ⟨y.1, by omega⟩⟩
theorem rest_prime {N d r : Nat} (h : Rest N d r) (hd : 2 ≤ d) (hlt : r < d * d) (h1 : 1 < r) : Prime r ∧ r ∣ N ∧ d ≤ r := by
  obtain ⟨q, hq, k, rfl⟩ := has_prime r h1
  have hqd := ((h.2.2 q hq).mp (Nat.dvd_mul_right _ _)).2
  have hk0 : 0 < k := Nat.pos_of_ne_zero fun y => by rw [y] at h1; omega
  by_cases hk : k = 1
  · subst hk
    rw [Nat.mul_one] at h ⊢
    exact ⟨hq, ((h.2.2 q hq).mp (Nat.dvd_refl _)).1, hqd⟩
  · obtain ⟨p, hp, hpk⟩ := has_prime k (by omega)
    have hpd := ((h.2.2 p hp).mp (Nat.dvd_trans hpk (Nat.dvd_mul_left _ _))).2
    have h3 := Nat.le_of_dvd hk0 hpk
    have h4 : d * d ≤ q * k := Nat.mul_le_mul hqd (by omega)
    omega
theorem rest_done {N d r : Nat} (h : Rest N d r) (hN : 0 < N) (hd : 2 ≤ d) (hlt : r < d * d) : primesOf N = below N d ++ if 1 < r then [r] else [] := by
  unfold primesOf
  by_cases h1 : 1 < r
  · obtain ⟨hp, hn, hdr⟩ := rest_prime h hd hlt h1
    rw [if_pos h1]
    have e1 : below N r = below N d := by
      have := below_more (N := N) (r - d) d fun p hp1 hp2 => by
        cases e : isPr N p with
        | false => rfl
        | true =>
          obtain ⟨a, b⟩ := isPr_iff.mp e
          have c := (h.2.2 p a).mpr ⟨b, hp1⟩
          have := a.one hp c
          omega
      rw [show d + (r - d) = r by omega] at this
      exact this
    have hrN := Nat.le_of_dvd hN hn
    have e2 : below N (N + 1) = below N (r + 1) := by
      have := below_more (N := N) (N - r) (r + 1) fun p hp1 hp2 => by
        cases e : isPr N p with
        | false => rfl
        | true =>
          obtain ⟨a, b⟩ := isPr_iff.mp e
          have c := (h.2.2 p a).mpr ⟨b, by omega⟩
          have := a.one hp c
          omega
      rw [show r + 1 + (N - r) = N + 1 by omega] at this
      exact this
    rw [e2, below_succ, e1, if_pos (isPr_iff.mpr ⟨hp, hn⟩)]
  · rw [if_neg h1, List.append_nil]
    have hr1 : r = 1 := by have := h.1; omega
    have none_ : ∀ p, d ≤ p → isPr N p = false := fun p hp1 => by
      cases e : isPr N p with
      | false => rfl
      | true =>
        obtain ⟨a, b⟩ := isPr_iff.mp e
        have c := (h.2.2 p a).mpr ⟨b, hp1⟩
        rw [hr1] at c
        have := Nat.le_of_dvd (by decide) c
        have := a.1
        omega
    by_cases hdN : d ≤ N + 1
    · have := below_more (N := N) (N + 1 - d) d fun p hp1 _ => none_ p hp1
      rw [show d + (N + 1 - d) = N + 1 by omega] at this
      exact this
    · have := below_more (N := N) (d - (N + 1)) (N + 1) fun p hp1 hp2 => by
        cases e : isPr N p with
        | false => rfl
        | true =>
          obtain ⟨a, b⟩ := isPr_iff.mp e
          have := Nat.le_of_dvd hN b
          omega
      rw [show N + 1 + (d - (N + 1)) = d by omega] at this
      exact this.symm
/-- two to the number of them is no more -/
theorem below_pow {N : Nat} (h0 : 0 < N) : ∀ d : Nat, ∃ k, 0 < k ∧ k ∣ N ∧ 2 ^ (below N d).length ≤ k ∧ ∀ p, Prime p → p ∣ k → p < d
  | 0 => ⟨1, by decide, Nat.one_dvd _, Nat.le_refl _, fun p hp hd => by
      have := Nat.le_of_dvd (by decide) hd
      have := hp.1
      omega⟩
  | d + 1 => by
    obtain ⟨k, h1, h2, h3, h4⟩ := below_pow h0 d
    rw [below_succ]
    by_cases e : isPr N d = true
    · obtain ⟨hp, hd⟩ := isPr_iff.mp e
      rw [if_pos e, List.length_append, List.length_singleton, Nat.pow_succ]
      have hc : Nat.Coprime d k := hp.cop fun z => absurd (h4 d hp z) (by omega)
      refine ⟨d * k, Nat.mul_pos (by have := hp.1; omega) h1, hc.mul_dvd_of_dvd_of_dvd hd h2, ?_, fun p pp pd => ?_⟩
      · rw [Nat.mul_comm]
        exact Nat.mul_le_mul hp.1 h3
      · rcases pp.mul pd with z | z
        · rw [pp.one hp z]; omega
        · have := h4 p pp z; omega
    · rw [if_neg e, List.append_nil]
      exact ⟨k, h1, h2, h3, fun p pp pd => by have := h4 p pp pd; omega⟩
theorem primes_len {N : Nat} (h0 : 0 < N) (h1 : N ≤ 1000000) : (primesOf N).length ≤ 20 := by
  obtain ⟨k, h2, h3, h4, _⟩ := below_pow h0 (N + 1)
  have h5 := Nat.le_of_dvd h0 h3
  refine Nat.le_of_not_lt fun z => ?_
  have h6 : 2 ^ 20 ≤ 2 ^ (below N (N + 1)).length := Nat.pow_le_pow_right (by decide) (Nat.le_of_lt z)
  have h7 : (2 : Nat) ^ 20 = 1048576 := by decide
  omega
/-! ### prime, by trying -/
def tryPrime (r p : Nat) : Bool := !(List.range (r - 1)).any fun i => decide (p % (i + 2) = 0)
theorem tryPrime_iff {r p : Nat} (hp : 2 ≤ p) (h1 : r * r ≤ p) (h2 : p < (r + 1) * (r + 1)) : tryPrime r p = true ↔ Prime p := by
  unfold tryPrime
  rw [Bool.not_eq_true', List.any_eq_false]
  constructor
  · intro h
    obtain ⟨q, hq, k, rfl⟩ := has_prime p hp
    have hk0 : 0 < k := Nat.pos_of_ne_zero fun y => by rw [y] at hp; omega
    by_cases hk : k = 1
    · subst hk; rw [Nat.mul_one]; exact hq
    · have hq2 := hq.1
      rcases Nat.lt_or_ge r q with hrq | hqr
      · have hkr : k ≤ r := by
          refine Nat.le_of_not_lt fun z => ?_
          have : (r + 1) * (r + 1) ≤ q * k := Nat.mul_le_mul hrq z
          omega
        exact absurd (decide_eq_true (show q * k % (k - 2 + 2) = 0 by rw [show k - 2 + 2 = k by omega]; exact Nat.mul_mod_left _ _)) (h (k - 2) (List.mem_range.mpr (by omega)))
      · exact absurd (decide_eq_true (show q * k % (q - 2 + 2) = 0 by rw [show q - 2 + 2 = q by omega]; exact Nat.mul_mod_right _ _)) (h (q - 2) (List.mem_range.mpr (by omega)))
  · intro h i hi z
    have hi := List.mem_range.mp hi
    have z := Nat.dvd_of_mod_eq_zero (of_decide_eq_true z)
    rcases h.2 _ z with y | y
    · omega
    · have : (i + 2) * (i + 2) ≤ r * r := Nat.mul_le_mul (by omega) (by omega)
      have h3 : 2 * (i + 2) ≤ (i + 2) * (i + 2) := Nat.mul_le_mul_right _ (by omega)
      omega
end Sq

namespace Sq
abbrev isq (n : Nat) : Nat := PySem.Float64.isqrt n
theorem isq_lo (n : Nat) : isq n * isq n ≤ n := (PySem.Float64.isqrt_spec n).1
theorem isq_hi (n : Nat) : n < (isq n + 1) * (isq n + 1) := (PySem.Float64.isqrt_spec n).2
theorem isq_of {n r : Nat} (h1 : r * r ≤ n) (h2 : n < (r + 1) * (r + 1)) : isq n = r := by
  have a := isq_lo n
  have b := isq_hi n
  generalize isq n = s at *
  refine Nat.le_antisymm (Nat.le_of_not_lt fun h => ?_) (Nat.le_of_not_lt fun h => ?_)
  · have : (r + 1) * (r + 1) ≤ s * s := Nat.mul_le_mul h h
    omega
  · have : (s + 1) * (s + 1) ≤ r * r := Nat.mul_le_mul h h
    omega
theorem isq_mono {a b : Nat} (h : a ≤ b) : isq a ≤ isq b := Nat.le_of_not_lt fun z => by
  have h1 := isq_lo a
  have h2 := isq_hi b
  have : (isq b + 1) * (isq b + 1) ≤ isq a * isq a := Nat.mul_le_mul z z
  omega
theorem isq_le (n : Nat) : isq n ≤ n := by
  have h := isq_lo n
  refine Nat.le_of_not_lt fun z => ?_
  have h1 : 1 * isq n ≤ isq n * isq n := Nat.mul_le_mul_right _ (by omega)
  omega
theorem isq_small {n : Nat} (h : n ≤ 1000000) : isq n ≤ 1000 := Nat.le_of_not_lt fun z => by
  have h1 := isq_lo n
  have : 1001 * 1001 ≤ isq n * isq n := Nat.mul_le_mul z z
  omega
/-! ### pairs of numbers -/
abbrev NN := Nat × Nat
def pairN (m n : Nat) : Bool := decide (0 < n) && decide (n < m) && (decide ((m + n) % 2 = 1) && decide (Nat.gcd m n = 1))
theorem pairN_iff {m n : Nat} : pairN m n = true ↔ 0 < n ∧ n < m ∧ (m + n) % 2 = 1 ∧ Nat.gcd m n = 1 := by
  unfold pairN
  simp only [Bool.and_eq_true, decide_eq_true_eq, and_assoc]
theorem pairN_no {m n : Nat} (h : ¬ (0 < n ∧ n < m ∧ (m + n) % 2 = 1 ∧ Nat.gcd m n = 1)) : pairN m n = false := by
  cases e : pairN m n with
  | false => rfl
  | true => exact absurd (pairN_iff.mp e) h
/-- what n turns give, a turn at most one -/
def few {α : Type} (c : Nat → Bool) (f : Nat → α) (k : Nat) : List α := (List.range k).flatMap fun i => if c i = true then [f i] else []
section
variable {α : Type} {c c' : Nat → Bool} {f f' : Nat → α}
theorem few_zero : few c f 0 = [] := rfl
theorem few_succ (k : Nat) : few c f (k + 1) = few c f k ++ if c k = true then [f k] else [] := by
  unfold few
  rw [List.range_succ, List.flatMap_append]
  simp
theorem few_yes {k : Nat} (h : c k = true) : few c f (k + 1) = few c f k ++ [f k] := by rw [few_succ, if_pos h]
theorem few_no {k : Nat} (h : c k = false) : few c f (k + 1) = few c f k := by rw [few_succ, if_neg (by rw [h]; decide), List.append_nil]
theorem few_len (k : Nat) : (few c f k).length ≤ k := by
  induction k with
  | zero => exact Nat.le_refl _
  | succ k ih =>
    rw [few_succ, List.length_append]
    split <;> simp <;> omega
theorem few_more (a : Nat) : ∀ b : Nat, (∀ i, a ≤ i → i < a + b → c i = false) → few c f (a + b) = few c f a
  | 0, _ => rfl
  | b + 1, h => by
    rw [← Nat.add_assoc, few_no (h (a + b) (by omega) (by omega)), few_more a b fun i h1 h2 => h i h1 (by omega)]
theorem few_le {a b : Nat} (hab : a ≤ b) (h : ∀ i, a ≤ i → i < b → c i = false) : few c f b = few c f a := by
  have := few_more (f := f) a (b - a) fun i h1 h2 => h i h1 (by omega)
  rwa [show a + (b - a) = b by omega] at this
theorem few_same : ∀ k : Nat, (∀ i, i < k → c i = c' i) → (∀ i, i < k → c i = true → f i = f' i) → few c f k = few c' f' k
  | 0, _, _ => rfl
  | k + 1, h, h' => by
    rw [few_succ, few_succ, few_same k (fun i hi => h i (by omega)) fun i hi => h' i (by omega), h k (Nat.lt_succ_self k)]
    cases e : c' k with
    | false => rfl
    | true => rw [if_pos rfl, if_pos rfl, h' k (Nat.lt_succ_self k) (by rw [h k (Nat.lt_succ_self k)]; exact e)]
theorem few_mem {x : α} : ∀ {k : Nat}, x ∈ few c f k ↔ ∃ i, i < k ∧ c i = true ∧ x = f i := by
  intro k
  unfold few
  rw [List.mem_flatMap]
  constructor
  · rintro ⟨i, h1, h2⟩
    have h1 := List.mem_range.mp h1
    by_cases z : c i = true
    · rw [if_pos z] at h2
      exact ⟨i, h1, z, List.mem_singleton.mp h2⟩
    · rw [if_neg z] at h2; cases h2
  · rintro ⟨i, h1, h2, rfl⟩
    exact ⟨i, List.mem_range.mpr h1, by rw [if_pos h2]; exact List.mem_singleton.mpr rfl⟩
/-- filters over filters -/
theorem filter_map_few (p : α → Bool) (k : Nat) : ((List.range k).map f).filter p = few (fun i => p (f i)) f k := by
  induction k with
  | zero => rfl
  | succ k ih =>
    rw [List.range_succ, List.map_append, List.filter_append, few_succ, ih]
    congr 1
    cases e : p (f k) <;> simp [e]
theorem few_map {β : Type} (g : α → β) (k : Nat) : (few c f k).map g = few c (fun i => g (f i)) k := by
  induction k with
  | zero => rfl
  | succ k ih =>
    rw [few_succ, few_succ, List.map_append, ih]
    congr 1
    cases c k <;> rfl
theorem few_filter (p : α → Bool) (k : Nat) : (few c f k).filter p = few (fun i => c i && p (f i)) f k := by
  induction k with
  | zero => rfl
  | succ k ih =>
    rw [few_succ, few_succ, List.filter_append, ih]
    congr 1
    cases e : c k with
    | false => rfl
    | true => cases e2 : p (f k) <;> simp [e2]
end
/-! ### the triples with a given longest side -/
def lonC (N i : Nat) : NN := (isq (N - (i + 1) * (i + 1)), i + 1)
def lonT (N : Nat) (x : NN) : Bool := decide (x.1 * x.1 + x.2 * x.2 = N) && pairN x.1 x.2
def lonN (N : Nat) : List NN := few (fun i => lonT N (lonC N i)) (lonC N) (isq (N / 2))
theorem lon_more {N k : Nat} (h : isq (N / 2) ≤ k) : few (fun i => lonT N (lonC N i)) (lonC N) k = lonN N := by
  refine few_le h fun i h1 h2 => ?_
  cases e : lonT N (lonC N i) with
  | false => rfl
  | true =>
    unfold lonT at e
    rw [Bool.and_eq_true, pairN_iff] at e
    have e1 := of_decide_eq_true e.1
    obtain ⟨_, e3, _⟩ := e.2
    have hd := isq_hi (N / 2)
    have e4 : (isq (N / 2) + 1) * (isq (N / 2) + 1) ≤ (i + 1) * (i + 1) := Nat.mul_le_mul (by omega) (by omega)
    have e3 : i + 1 < (lonC N i).1 := e3
    have e5 : (i + 1) * (i + 1) ≤ (lonC N i).1 * (lonC N i).1 := Nat.mul_le_mul (by omega) (by omega)
    have e1 : (lonC N i).1 * (lonC N i).1 + (i + 1) * (i + 1) = N := e1
    have e6 : (i + 1) * (i + 1) ≤ N / 2 := by omega
    omega
theorem lon_pair {N : Nat} {x : NN} (h : x ∈ lonN N) : pairN x.1 x.2 = true ∧ x.1 * x.1 + x.2 * x.2 = N := by
  obtain ⟨i, _, h2, rfl⟩ := few_mem.mp h
  unfold lonT at h2
  rw [Bool.and_eq_true] at h2
  exact ⟨h2.2, of_decide_eq_true h2.1⟩
theorem lon_have {N m n : Nat} (h : pairN m n = true) (e : m * m + n * n = N) : (m, n) ∈ lonN N := by
  obtain ⟨h1, h2, h3, h4⟩ := pairN_iff.mp h
  have hm : isq (N - n * n) = m := isq_of (by omega) (by
    have : (m + 1) * (m + 1) = m * m + 2 * m + 1 := by grind
    omega)
  have hnm : n * n < m * m := Nat.mul_lt_mul'' h2 h2
  have hn : n ≤ isq (N / 2) := Nat.le_of_not_lt fun z => by
    have := isq_hi (N / 2)
    have h5 : (isq (N / 2) + 1) * (isq (N / 2) + 1) ≤ n * n := Nat.mul_le_mul z z
    omega
  have ec : lonC N (n - 1) = (m, n) := by
    unfold lonC
    rw [show n - 1 + 1 = n by omega, hm]
  refine few_mem.mpr ⟨n - 1, by omega, ?_, ec.symm⟩
  rw [ec]
  unfold lonT
  rw [Bool.and_eq_true]
  exact ⟨decide_eq_true e, h⟩
/-- where no prime bars, there is one -/
theorem lon_some {N : Nat} (h2 : 2 ≤ N) (hle : N ≤ 1000000) (hb : barring N = []) : lonN N ≠ [] := by
  have nob : ∀ p, Prime p → p ∣ N → ¬ (p = 2 ∨ p % 4 = 3) := fun p hp hd z => by
    have := (mem_barring (N := N) (by omega)).mpr ⟨⟨hp, hd⟩, z⟩
    rw [hb] at this; cases this
  have two : Prime 2 := ⟨by decide, fun d hd => by
    have := Nat.le_of_dvd (by decide) hd
    have h0 : d ≠ 0 := fun z => by rw [z, Nat.zero_dvd] at hd; cases hd
    omega⟩
  have hodd : N % 2 = 1 := by
    have := nob 2 two
    rcases Nat.mod_two_eq_zero_or_one N with z | z
    · exact absurd (.inl rfl) (this (Nat.dvd_of_mod_eq_zero z))
    · exact z
  obtain ⟨m, n, e, g⟩ := prim_rep N (by omega) hle fun p hp hd => by
    have h3 := nob p hp hd
    have hp2 := hp.1
    have h4 : p % 2 = 1 := by
      rcases Nat.mod_two_eq_zero_or_one p with z | z
      · have h5 := Nat.dvd_trans (Nat.dvd_of_mod_eq_zero z) hd
        have := Nat.mod_eq_zero_of_dvd h5
        omega
      · exact z
    have h6 : p % 4 < 4 := Nat.mod_lt _ (by decide)
    have h7 : p % 4 ≠ 3 := fun z => h3 (.inr z)
    omega
  have key : ∀ a b : Nat, a * a + b * b = N → Nat.gcd a b = 1 → b ≤ a → (a, b) ∈ lonN N := fun a b e g hab => by
    refine lon_have (pairN_iff.mpr ⟨?_, ?_, ?_, g⟩) e
    · refine Nat.pos_of_ne_zero fun z => ?_
      subst z
      rw [Nat.gcd_zero_right] at g
      subst g
      omega
    · refine Nat.lt_of_le_of_ne hab fun z => ?_
      subst z
      rw [Nat.gcd_self] at g
      subst g
      omega
    · have e1 := congrArg (· % 2) e
      have e2 : (a * a + b * b) % 2 = (a + b) % 2 := by
        rcases Nat.mod_two_eq_zero_or_one a with z | z <;> rcases Nat.mod_two_eq_zero_or_one b with y | y <;> simp [Nat.add_mod, Nat.mul_mod, z, y]
      have e1 : (a * a + b * b) % 2 = N % 2 := e1
      omega
  have e' : m.natAbs * m.natAbs + n.natAbs * n.natAbs = N := by
    have h1 : ((m.natAbs * m.natAbs : Nat) : Int) = m * m := by rw [Int.natCast_mul]; exact Int.natAbs_mul_self' m
    have h2 : ((n.natAbs * n.natAbs : Nat) : Int) = n * n := by rw [Int.natCast_mul]; exact Int.natAbs_mul_self' n
    omega
  have g' : Nat.gcd m.natAbs n.natAbs = 1 := g
  intro z
  rcases Nat.le_total n.natAbs m.natAbs with h | h
  · have := key _ _ e' g' h
    rw [z] at this; cases this
  · have := key _ _ (by rw [Nat.add_comm]; exact e') (by rw [Nat.gcd_comm]; exact g') h
    rw [z] at this; cases this
/-! ### the triples with a given leg -/
def legC (N i : Nat) : NN := if N % 2 = 0 then (N / 2 / (i + 1), i + 1) else ((N / (i + 1) + (i + 1)) / 2, (N / (i + 1) - (i + 1)) / 2)
def legD (N i : Nat) : Bool := if N % 2 = 0 then decide (N / 2 % (i + 1) = 0) else decide (N % (i + 1) = 0)
def legR (N : Nat) : Nat := if N % 2 = 0 then isq (N / 2) else isq N
def legN (N : Nat) : List NN := few (fun i => legD N i && pairN (legC N i).1 (legC N i).2) (legC N) (legR N)
theorem leg_pair {N : Nat} {x : NN} (h : x ∈ legN N) : pairN x.1 x.2 = true := by
  obtain ⟨i, _, h2, rfl⟩ := few_mem.mp h
  rw [Bool.and_eq_true] at h2
  exact h2.2
theorem leg_some {N : Nat} (h2 : 2 ≤ N) (h4 : N % 4 ≠ 2) : legN N ≠ [] := by
  have h1 : 0 < legR N := by
    unfold legR
    split
    · refine Nat.pos_of_ne_zero fun z => ?_
      have := isq_hi (N / 2)
      rw [z] at this
      omega
    · refine Nat.pos_of_ne_zero fun z => ?_
      have := isq_hi N
      rw [z] at this
      omega
  intro z
  have : legC N 0 ∈ legN N := few_mem.mpr ⟨0, h1, ?_, rfl⟩
  · rw [z] at this; cases this
  · unfold legD legC
    by_cases e : N % 2 = 0
    · rw [if_pos e, if_pos e, Bool.and_eq_true]
      refine ⟨decide_eq_true (Nat.mod_one _), pairN_iff.mpr ⟨Nat.succ_pos _, ?_, ?_, ?_⟩⟩
      · show 0 + 1 < N / 2 / (0 + 1)
        rw [Nat.zero_add, Nat.div_one]; omega
      · show (N / 2 / (0 + 1) + (0 + 1)) % 2 = 1
        rw [Nat.zero_add, Nat.div_one]; omega
      · show Nat.gcd _ (0 + 1) = 1
        rw [Nat.zero_add, Nat.gcd_one_right]
    · rw [if_neg e, if_neg e, Bool.and_eq_true]
      refine ⟨decide_eq_true (Nat.mod_one _), pairN_iff.mpr ?_⟩
      show 0 < (N / (0 + 1) - (0 + 1)) / 2 ∧ (N / (0 + 1) - (0 + 1)) / 2 < (N / (0 + 1) + (0 + 1)) / 2 ∧ ((N / (0 + 1) + (0 + 1)) / 2 + (N / (0 + 1) - (0 + 1)) / 2) % 2 = 1 ∧ Nat.gcd ((N / (0 + 1) + (0 + 1)) / 2) ((N / (0 + 1) - (0 + 1)) / 2) = 1
      rw [Nat.zero_add, Nat.div_one]
      obtain ⟨k, rfl⟩ : ∃ k, N = 2 * k + 1 := ⟨N / 2, by omega⟩
      rw [show (2 * k + 1 + 1) / 2 = k + 1 by omega, show (2 * k + 1 - 1) / 2 = k by omega]
      refine ⟨by omega, by omega, by omega, ?_⟩
      rw [Nat.gcd_comm, Nat.gcd_self_add_right, Nat.gcd_one_right]
/-- the law's own turns -/
def lawL1 (N i : Nat) : Bool := decide (N % (i + 1) = 0) && decide (i + 1 < N / (i + 1)) && decide (Nat.gcd (i + 1) (N / (i + 1)) = 1) && decide (N % 2 = 1)
def lawL2 (N i : Nat) : Bool := decide (N % 4 = 0) && decide (N / 2 % (i + 1) = 0) && decide (i + 1 < N / 2 / (i + 1)) && decide (Nat.gcd (i + 1) (N / 2 / (i + 1)) = 1)
theorem gcd_half {d e : Nat} (hd : d % 2 = 1) (he : e % 2 = 1) (h : d < e) : Nat.gcd ((e + d) / 2) ((e - d) / 2) = 1 ↔ Nat.gcd d e = 1 := by
  obtain ⟨m, hm⟩ : ∃ m, e + d = 2 * m := ⟨(e + d) / 2, by omega⟩
  obtain ⟨n, hn⟩ : ∃ n, e - d = 2 * n := ⟨(e - d) / 2, by omega⟩
  rw [hm, hn, Nat.mul_div_cancel_left _ (by decide), Nat.mul_div_cancel_left _ (by decide)]
  have e1 : e = m + n := by omega
  have e2 : d = m - n := by omega
  have hnm : n ≤ m := by omega
  constructor
  · intro g
    refine Nat.dvd_one.mp ?_
    have a := Nat.gcd_dvd_left d e
    have b := Nat.gcd_dvd_right d e
    generalize hg : Nat.gcd d e = c at a b ⊢
    have hc : c % 2 = 1 := by
      rcases Nat.mod_two_eq_zero_or_one c with z | z
      · have := Nat.mod_eq_zero_of_dvd (Nat.dvd_trans (Nat.dvd_of_mod_eq_zero z) a)
        omega
      · exact z
    have c2 : Nat.Coprime c 2 := by
      unfold Nat.Coprime
      rw [Nat.gcd_comm, Nat.gcd_rec, hc]
      rfl
    have d1 : c ∣ 2 * m := by rw [← hm]; exact Nat.dvd_add b a
    have d2 : c ∣ 2 * n := by rw [← hn]; exact Nat.dvd_sub b a
    rw [← g]
    exact Nat.dvd_gcd (c2.dvd_of_dvd_mul_left d1) (c2.dvd_of_dvd_mul_left d2)
  · intro g
    refine Nat.dvd_one.mp ?_
    rw [← g]
    have a := Nat.gcd_dvd_left m n
    have b := Nat.gcd_dvd_right m n
    refine Nat.dvd_gcd ?_ ?_
    · rw [e2]; exact Nat.dvd_sub a b
    · rw [e1]; exact Nat.dvd_add a b
theorem law_leg1 {N i : Nat} (h : N % 2 = 1) : lawL1 N i = (legD N i && pairN (legC N i).1 (legC N i).2) := by
  have hodd : ¬ N % 2 = 0 := by omega
  unfold lawL1 legD legC
  rw [if_neg hodd, if_neg hodd]
  by_cases hd : N % (i + 1) = 0
  · rw [decide_eq_true hd, Bool.true_and, Bool.true_and, decide_eq_true h, Bool.and_true]
    obtain ⟨e, he⟩ := Nat.dvd_of_mod_eq_zero hd
    rw [he, Nat.mul_div_cancel_left _ (by omega)]
    have hpar : (i + 1) % 2 = 1 ∧ e % 2 = 1 := by
      rw [he, Nat.mul_mod] at h
      rcases Nat.mod_two_eq_zero_or_one (i + 1) with z | z <;> rcases Nat.mod_two_eq_zero_or_one e with y | y <;> rw [z, y] at h <;> simp at h
      exact ⟨z, y⟩
    obtain ⟨p1, p2⟩ := hpar
    generalize hx : i + 1 = d at *
    by_cases hlt : d < e
    · rw [decide_eq_true hlt, Bool.true_and]
      have hg := gcd_half p1 p2 hlt
      by_cases g : Nat.gcd d e = 1
      · rw [decide_eq_true g]
        exact (pairN_iff.mpr ⟨by omega, by omega, by omega, hg.mpr g⟩).symm
      · rw [decide_eq_false g]
        exact (pairN_no fun z => g (hg.mp z.2.2.2)).symm
    · rw [decide_eq_false hlt, Bool.false_and]
      exact (pairN_no fun z => by
        have := z.1
        have e0 : (e - d) / 2 = 0 := by rw [Nat.sub_eq_zero_of_le (by omega)]
        rw [e0] at this
        omega).symm
  · rw [decide_eq_false hd, Bool.false_and, Bool.false_and, Bool.false_and, Bool.false_and]
theorem law_leg2 {N i : Nat} (h : N % 2 = 0) : lawL2 N i = (legD N i && pairN (legC N i).1 (legC N i).2) := by
  unfold lawL2 legD legC
  rw [if_pos h, if_pos h]
  show _ = (decide (N / 2 % (i + 1) = 0) && pairN (N / 2 / (i + 1)) (i + 1))
  by_cases hd : N / 2 % (i + 1) = 0
  · rw [decide_eq_true hd, Bool.and_true, Bool.true_and]
    obtain ⟨e, he⟩ := Nat.dvd_of_mod_eq_zero hd
    have e4 : (N % 4 = 0) = ((i + 1) * e % 2 = 0) := propext ⟨fun z => by omega, fun z => by omega⟩
    rw [he, Nat.mul_div_cancel_left _ (by omega)]
    generalize hx : i + 1 = d at *
    by_cases hlt : d < e
    · rw [decide_eq_true hlt, Bool.and_true]
      by_cases g : Nat.gcd d e = 1
      · rw [decide_eq_true g, Bool.and_true]
        have nb : ¬ (d % 2 = 0 ∧ e % 2 = 0) := fun z => by
          have := Nat.dvd_gcd (Nat.dvd_of_mod_eq_zero z.1) (Nat.dvd_of_mod_eq_zero z.2)
          rw [g] at this
          have := Nat.le_of_dvd (by decide) this
          omega
        have hm : d * e % 2 = (d % 2) * (e % 2) % 2 := Nat.mul_mod _ _ _
        by_cases z : N % 4 = 0
        · rw [decide_eq_true z]
          have z := e4 ▸ z
          refine (pairN_iff.mpr ⟨by omega, hlt, ?_, by rw [Nat.gcd_comm]; exact g⟩).symm
          rcases Nat.mod_two_eq_zero_or_one d with p | p <;> rcases Nat.mod_two_eq_zero_or_one e with q | q <;> rw [p, q] at hm <;> first | omega | exact absurd (And.intro p q) nb
        · rw [decide_eq_false z]
          have z : ¬ d * e % 2 = 0 := fun y => z (e4 ▸ y)
          refine (pairN_no fun y => ?_).symm
          have y := y.2.2.1
          rcases Nat.mod_two_eq_zero_or_one d with p | p <;> rcases Nat.mod_two_eq_zero_or_one e with q | q <;> rw [p, q] at hm <;> omega
      · rw [decide_eq_false g, Bool.and_false]
        exact (pairN_no fun z => g (by rw [Nat.gcd_comm]; exact z.2.2.2)).symm
    · rw [decide_eq_false hlt, Bool.and_false, Bool.false_and]
      exact (pairN_no fun z => hlt z.2.1).symm
  · rw [decide_eq_false hd, Bool.and_false, Bool.false_and, Bool.false_and, Bool.false_and]
/-- the law's list after k turns -/
def lawLegs (N k : Nat) : List NN := (List.range k).flatMap fun i => (if lawL1 N i = true then [((N / (i + 1) + (i + 1)) / 2, (N / (i + 1) - (i + 1)) / 2)] else []) ++ if lawL2 N i = true then [(N / 2 / (i + 1), i + 1)] else []
theorem lawLegs_succ (N k : Nat) : lawLegs N (k + 1) = lawLegs N k ++ ((if lawL1 N k = true then [((N / (k + 1) + (k + 1)) / 2, (N / (k + 1) - (k + 1)) / 2)] else []) ++ if lawL2 N k = true then [(N / 2 / (k + 1), k + 1)] else []) := by
  unfold lawLegs
  rw [List.range_succ, List.flatMap_append]
  simp
theorem lawLegs_len (N : Nat) : ∀ k, (lawLegs N k).length ≤ 2 * k
  | 0 => Nat.le_refl _
  | k + 1 => by
    have := lawLegs_len N k
    rw [lawLegs_succ, List.length_append, List.length_append]
    split <;> split <;> simp <;> omega
theorem lawLegs_few (N : Nat) : ∀ k, lawLegs N k = few (fun i => legD N i && pairN (legC N i).1 (legC N i).2) (legC N) k
  | 0 => rfl
  | k + 1 => by
    rw [lawLegs_succ, few_succ, lawLegs_few N k]
    congr 1
    rcases Nat.mod_two_eq_zero_or_one N with h | h
    · have e1 : lawL1 N k = false := by unfold lawL1; rw [decide_eq_false (show ¬ N % 2 = 1 by omega), Bool.and_false]
      rw [e1, law_leg2 h, if_neg (by decide), List.nil_append]
      have : legC N k = (N / 2 / (k + 1), k + 1) := if_pos h
      rw [this]
    · have e1 : lawL2 N k = false := by unfold lawL2; rw [decide_eq_false (show ¬ N % 4 = 0 by omega), Bool.false_and, Bool.false_and, Bool.false_and]
      rw [e1, law_leg1 h, if_neg (show ¬ false = true by decide), List.append_nil]
      have : legC N k = ((N / (k + 1) + (k + 1)) / 2, (N / (k + 1) - (k + 1)) / 2) := if_neg (by omega)
      rw [this]
theorem lawLegs_all (N : Nat) : lawLegs N (isq N) = legN N := by
  rw [lawLegs_few]
  unfold legN
  refine few_le ?_ fun i h1 h2 => ?_
  · unfold legR
    split
    · exact isq_mono (Nat.div_le_self _ _)
    · exact Nat.le_refl _
  · unfold legR at h1
    by_cases h : N % 2 = 0
    · rw [if_pos h] at h1
      have e : legC N i = (N / 2 / (i + 1), i + 1) := if_pos h
      rw [e, pairN_no, Bool.and_false]
      rintro ⟨_, z, _⟩
      have z : i + 1 < N / 2 / (i + 1) := z
      have h3 := isq_hi (N / 2)
      have h4 : (isq (N / 2) + 1) * (isq (N / 2) + 1) ≤ (i + 1) * (i + 1) := Nat.mul_le_mul (by omega) (by omega)
      have h5 : N / 2 / (i + 1) * (i + 1) ≤ N / 2 := Nat.div_mul_le_self _ _
      have h6 : (i + 1) * (i + 1) ≤ N / 2 / (i + 1) * (i + 1) := Nat.mul_le_mul_right _ (by omega)
      omega
    · rw [if_neg h] at h1
      omega
theorem leg_none {N : Nat} (h : N % 4 = 2) : legN N = [] := by
  unfold legN
  have h2 : N % 2 = 0 := by omega
  have : few (fun i => legD N i && pairN (legC N i).1 (legC N i).2) (legC N) (legR N) = few (fun i => legD N i && pairN (legC N i).1 (legC N i).2) (legC N) 0 := by
    refine few_le (Nat.zero_le _) fun i _ _ => ?_
    rw [← law_leg2 h2]
    unfold lawL2
    rw [decide_eq_false (show ¬ N % 4 = 0 by omega), Bool.false_and, Bool.false_and, Bool.false_and]
  rw [this]
  rfl
theorem lon_len {N : Nat} (h : N ≤ 1000000) : (lonN N).length ≤ 1000 := Nat.le_trans (few_len _) (isq_small (by omega))
theorem leg_len {N : Nat} (h : N ≤ 1000000) : (legN N).length ≤ 1000 := by
  refine Nat.le_trans (few_len _) ?_
  unfold legR
  split
  · exact isq_small (by omega)
  · exact isq_small h
end Sq

namespace Sq
open PySem PySem.Spec PyProof.Rows L2 Evl
/-! ### triples as data; sorted of such -/
def up (x : NN) : P2 := ((x.1 : Int), (x.2 : Int))
def tn (x : NN) : PyData := td (up x)
noncomputable def leN : NN → NN → Bool := PySem.W.dataLe false tn
theorem tn_ref {K : PySem.W.Frag} {H : Hp} {v : V} {x : NN} (h : DV K H v (tn x)) : ∃ t, v = .ref t := by
  unfold tn td at h
  cases h with
  | tup a b => exact ⟨_, rfl⟩
def rSortedN (K : PySem.W.Frag) : List V → Hp → VK → Prop := fun vs H Q => ∃ (a : Addr) (ps : List NN) (xs : List V), vs = [.ref a] ∧ SqL K H a xs ∧ DVs K H xs (ps.map tn) ∧
  ∀ ys p, H p = none → DVs K (upd H p (.lst ys)) ys ((ps.mergeSort leN).map tn) → Q (.ref p) (upd H p (.lst ys))
theorem backV_ref {K : PySem.W.Frag} {H : Hp} : ∀ {ps : List NN} {out : List Value}, PySem.W.EachIs (fun v p => ∃ t, v = Value.ref t ∧ DV K H (.ref t) (tn p)) out ps → (∀ u ∈ out, ∃ a, u = Value.ref a) ∧ DVs K H (out.map backV) (ps.map tn)
  | _, _, .nil => ⟨fun u h => (by cases h), .nil⟩
  | _, _, .cons ⟨t, e, h⟩ r => by
    obtain ⟨h1, h2⟩ := backV_ref r
    refine ⟨fun u hu => ?_, ?_⟩
    · rcases List.mem_cons.mp hu with z | z
      · exact ⟨t, z.trans e⟩
      · exact h1 u z
    · subst e
      exact .cons h h2
section
variable {X : Cx} {K : PySem.W.Frag}
theorem each_of {pins : List (Addr × Obj)} {s : Shared} {σ : L2.St} {H : Hp} (I : Inv X pins σ H s) : ∀ {ps : List NN} {xs : List V} {its : List Value}, Vals xs its → DVs X.K H xs (ps.map tn) →
    PySem.W.EachIs (fun v p => ∃ t, v = Value.ref t ∧ DV X.K H (.ref t) (tn p)) its ps ∧ PySem.W.EachIs (fun v p => ∃ as, Reads s.heap v (tn p) as) its ps
  | [], _, _, r, h => by cases h; cases r; exact ⟨.nil, .nil⟩
  | p :: ps, _, _, r, h => by
    cases h with
    | cons a b =>
      cases r with
      | cons r1 r2 =>
        obtain ⟨t, rfl⟩ := tn_ref a
        obtain ⟨g1, g2⟩ := each_of I r2 b
        obtain ⟨as, g3⟩ := Dp.reads I (tn p) (.ref t) _ (a.dp (shaped_td _)) r1
        exact ⟨.cons ⟨t, r1, a⟩ g1, .cons ⟨as, g3⟩ g2⟩
theorem cr_sortedN (hK : X.K = K) (hu : X.A.units + 64 < cLine) : CallR X (.builtin "sorted") (rSortedN K) := by
  subst hK
  intro pins s σ H vs us Q I r h
  obtain ⟨a, ps, xs, rfl, hs, hx, q⟩ := h
  obtain ⟨its, rv, hl, hz⟩ := I.list hs
  obtain ⟨u, rfl, ru⟩ := vals1 r
  obtain rfl : u = Value.ref a := ru
  obtain ⟨g1, g2⟩ := each_of I rv hx
  have hlen : ps.length = xs.length := by rw [hx.len, List.length_map]
  refine PySem.W.sorted_data (enc := tn) (bs := ps) hl.isList g1 g2 (PySem.W.AllAlike.of fun p p' => by simp [PySem.W.alike, PySem.W.alikeAll, tn, td]) (PySem.W.Sortable.tuples fun p => ⟨_, _, rfl⟩) (by rw [hlen]; exact hz) (fun p _ => ?_) fun out ho eo => ?_
  · have hd : (tn p).depth = 1 := by simp [tn, td, PyData.depth, PyData.depthAll]
    omega
  · obtain ⟨h1, h2⟩ := backV_ref eo
    obtain ⟨ep, he'⟩ := PyProof.Rows.sortedAll_at s.heap its out.toArray
    have hl2 : (out.map backV).length ≤ sizeLine := by rw [List.length_map, ho, hlen]; exact hz
    have nf := I.hok.fresh (Nat.le_succ s.heap.objs.size)
    exact ⟨.ref _, upd H (s.heap.objs.size + 1) (.lst (out.map backV)), I.laid (t' := s.toks) (fun _ _ => PyProof.Rows.sortedAll_old) (Nat.le_succ _) ⟨hl2, out, ep, vals_back h1, he'⟩, rfl, q _ _ nf (h2.ex (Ex.new nf))⟩
end
section
variable {K : PySem.W.Frag} {σ : L2.St} {H : Hp} {te : TE}
theorem eld_sorted {ps : List NN} (h : EvD K te σ H (.list (ps.map tn))) : EvLD K (tCB (rSortedN K) (tCons te tNil)) σ H ((ps.mergeSort leN).map tn) := fun H1 a _ q =>
  h H1 a _ fun v H2 e2 hv => by
    cases hv with
    | @lst p xs _ hp hx => exact ⟨p, ps, xs, rfl, hp, hx, fun ys l nl hy => q l ys _ (fresh_back e2 nl) (e2.trans (Ex.new nl)) upd_same hy⟩
end
end Sq

namespace Sq
open PySem PySem.Spec PyProof.Rows L2 Evl
/-! ### comprehensions whose items are numbers or tuples of numbers -/
def IntD (d : PyData) : Prop := (∃ i, d = .int i) ∨ ∃ is : List Int, d = .tuple (is.map .int)
theorem intD_pd (p : P2) : IntD (pd p) := .inr ⟨[p.1, p.2], rfl⟩
theorem intD_td (p : P2) : IntD (td p) := .inr ⟨[_, _, _], rfl⟩
theorem intD_i (i : Int) : IntD (.int i) := .inl ⟨i, rfl⟩
section
variable {K : PySem.W.Frag} {H H' : Hp}
theorem dv_intD (h : ∀ a xs, SqT K H a xs → SqT K H' a xs) {d : PyData} (hd : IntD d) {v : V} (hv : DV K H v d) : DV K H' v d := by
  rcases hd with ⟨i, rfl⟩ | ⟨is, rfl⟩
  · rw [dvi hv]; exact .int i
  · exact dv_ints h hv
theorem dvs_intD (h : ∀ a xs, SqT K H a xs → SqT K H' a xs) : ∀ {ds : List PyData} {vs : List V}, (∀ d ∈ ds, IntD d) → DVs K H vs ds → DVs K H' vs ds
  | [], _, _, hv => by cases hv; exact .nil
  | d :: ds, _, hd, hv => by
    cases hv with
    | cons a b => exact .cons (dv_intD h (hd d List.mem_cons_self) a) (dvs_intD h (fun e he => hd e (List.mem_cons_of_mem _ he)) b)
theorem intD_few {c : Nat → Bool} {f : Nat → PyData} (h : ∀ i, IntD (f i)) (k : Nat) : ∀ d ∈ few c f k, IntD d := fun d hd => by
  obtain ⟨i, _, _, rfl⟩ := few_mem.mp hd
  exact h i
def CwD (K : PySem.W.Frag) (H : Hp) (c : Nat → Bool) (f : Nat → PyData) (Dl : Addr) (i : Nat) (H' : Hp) : Prop := H Dl = none ∧ Ex H H' ∧ ∃ acc, H' Dl = some (.lst acc) ∧ DVs K H' acc (few c f i)
variable {te : TE} {t : TT} {c : Nat → Bool} {f : Nat → PyData} {Dl : Addr} {i : Nat} {σ2 σ : L2.St} {tl : TE}
theorem cwD_turn (hI : ∀ i, IntD (f i)) (p : CwD K H c f Dl i H') (hi : i < 50000) (ht : EvT t σ2 H (c i)) (he : c i = true → EvD K te σ2 H (f i)) :
    t σ2 H' fun b H3 => if b = true then te σ2 H3 fun y H4 => ∃ acc, H4 Dl = some (.lst acc) ∧ acc.length < sizeLine ∧ CwD K H c f Dl (i + 1) (upd H4 Dl (.lst (acc ++ [y]))) else CwD K H c f Dl (i + 1) H3 := by
  obtain ⟨p1, p2, acc, p3, p4⟩ := p
  refine ht H' p2 _ fun H3 e3 => ?_
  cases hf : c i with
  | true =>
    show te σ2 H3 fun y H4 => ∃ acc, H4 Dl = some (.lst acc) ∧ acc.length < sizeLine ∧ CwD K H c f Dl (i + 1) (upd H4 Dl (.lst (acc ++ [y])))
    refine he hf H3 (p2.trans e3) _ fun y H4 e4 hy => ?_
    have h4 := e4 Dl _ (e3 Dl _ p3)
    have hl : acc.length ≤ i := by rw [p4.len]; exact few_len i
    refine ⟨acc, h4, sz_lt (by omega), p1, Ex.mut ((p2.trans e3).trans e4) p1, _, upd_same, ?_⟩
    rw [few_yes hf]
    refine DVs.append ?_ (.cons ?_ .nil)
    · exact dvs_intD (fun a xs h => sqT_upd h4 h) (intD_few hI i) (p4.ex (e3.trans e4))
    · exact dv_intD (fun a xs h => sqT_upd h4 h) (hI i) hy
  | false =>
    show CwD K H c f Dl (i + 1) H3
    refine ⟨p1, p2.trans e3, acc, e3 Dl _ p3, ?_⟩
    rw [few_no hf]
    exact p4.ex e3
theorem eld_lcR2 {tA : TA} {j : Nat} {vs : List Nat} {lo hi : Int} {n : Nat} (c : Nat → Bool) (f : Nat → PyData) (hI : ∀ i, IntD (f i)) (h : EvA tA σ H [.int lo, .int hi]) (hn : n = (hi - lo).toNat) (hb : -100000 ≤ lo ∧ lo ≤ 100000 ∧ -100000 ≤ hi ∧ hi ≤ 40000 ∧ n ≤ 40000) (hw : ∀ x, wipe ((wipe σ vs).set j (some x)) vs = wipe σ vs)
    (ht : ∀ (i : Nat) H1, Ex H H1 → i < n → EvT t ((wipe σ vs).set j (some (.int (lo + (i : Int))))) H1 (c i)) (he : ∀ (i : Nat) H1, Ex H H1 → i < n → c i = true → EvD K te ((wipe σ vs).set j (some (.int (lo + (i : Int))))) H1 (f i)) :
    EvLD K (tLc (iRng2 tA) (gName j) t te vs) σ H (few c f n) := by
  intro H0 e Q q
  refine h H0 e _ fun H1 e1 => ⟨lo, hi, rfl, ⟨by omega, by omega, by omega, by omega⟩, fun Dl hD => ?_⟩
  rw [← hn]
  refine lc_range (lo := lo) (n := n) (CwD K H1 c f Dl) ⟨hD, Ex.new hD, [], upd_same, .nil⟩ (fun i H' hi p => ⟨hw _, cwD_turn hI p (by omega) (ht i H1 (e.trans e1) hi) (fun hc => he i H1 (e.trans e1) hi hc)⟩) fun H' p => ?_
  obtain ⟨p1, p2, acc, p3, p4⟩ := p
  exact q Dl acc H' (fresh_back e1 p1) (e1.trans p2) p3 p4
theorem few_list {α : Type} {ds : List α} {dflt : α} (c : α → Bool) (f : α → PyData) : few (fun i => c (ds.getD i dflt)) (fun i => f (ds.getD i dflt)) ds.length = (ds.filter c).map f := by
  have key : ∀ (k : Nat), k ≤ ds.length → few (fun i => c (ds.getD i dflt)) (fun i => f (ds.getD i dflt)) k = ((ds.take k).filter c).map f := by
    intro k
    induction k with
    | zero => intro _; rfl
    | succ k ih =>
      intro hk
      have hk' : k < ds.length := hk
      rw [few_succ, ih (by omega), List.take_succ, List.getElem?_eq_getElem hk', List.filter_append, List.map_append]
      congr 1
      have e : ds.getD k dflt = ds[k] := by simp [List.getD, hk']
      rw [e]
      show _ = List.map f (List.filter c [ds[k]])
      cases h : c ds[k] <;> simp [h]
  rw [key ds.length (Nat.le_refl _), List.take_length]
/-- over a list of data, one name -/
theorem eld_lcL {ds : List PyData} {j : Nat} {vs : List Nat} (c : PyData → Bool) (f : PyData → PyData) (hI : ∀ d, IntD (f d)) (h : EvD K tl σ H (.list ds)) (hz : ds.length ≤ 40000) (hw : ∀ x, wipe ((wipe σ vs).set j (some x)) vs = wipe σ vs)
    (ht : ∀ d x H1, Ex H H1 → d ∈ ds → DV K H1 x d → EvT t ((wipe σ vs).set j (some x)) H1 (c d)) (he : ∀ d x H1, Ex H H1 → d ∈ ds → DV K H1 x d → c d = true → EvD K te ((wipe σ vs).set j (some x)) H1 (f d)) :
    EvLD K (tLc (iList K tl) (gName j) t te vs) σ H ((ds.filter c).map f) := by
  intro H0 e Q q
  refine h H0 e _ fun w H1 e1 hw1 => ?_
  cases hw1 with
  | @lst a xs _ hp hx =>
    have hlen := hx.len
    refine ⟨a, rfl, ⟨xs, hp⟩, fun Dl hD => lc_list (xs := xs) (CwD K H1 (fun i => c (ds.getD i .none)) (fun i => f (ds.getD i .none)) Dl) ⟨hD, Ex.new hD, [], upd_same, .nil⟩ (fun i H' _ p => ex_l p.2.1 hp) (fun i x H' hi p => ⟨hw x, ?_⟩) fun H' p => ?_⟩
    · obtain ⟨d, h1, h2⟩ := hx.get hi
      have e2 : ds.getD i .none = d := by rw [List.getD, h1]; rfl
      refine cwD_turn (fun i => hI _) p (by have := (List.getElem?_eq_some_iff.mp hi).1; omega) ?_ fun hc => ?_
      · rw [e2]; exact ht d x H1 (e.trans e1) (List.mem_of_getElem? h1) h2
      · rw [e2] at hc ⊢; exact he d x H1 (e.trans e1) (List.mem_of_getElem? h1) h2 hc
    · obtain ⟨p1, p2, acc, p3, p4⟩ := p
      rw [hlen, few_list] at p4
      exact q Dl acc H' (fresh_back e1 p1) (e1.trans p2) p3 p4
/-- over a list of pairs, two names -/
theorem eld_lcP {ps : List NN} {j l : Nat} {vs : List Nat} (c : NN → Bool) (f : NN → PyData) (hI : ∀ d, IntD (f d)) (h : EvD K tl σ H (.list (ps.map fun x => pd (up x)))) (hz : ps.length ≤ 40000) (hw : ∀ x y, wipe (((wipe σ vs).set j (some x)).set l (some y)) vs = wipe σ vs)
    (ht : ∀ (p : NN) H1, Ex H H1 → p ∈ ps → EvT t (((wipe σ vs).set j (some (.int (p.1 : Int)))).set l (some (.int (p.2 : Int)))) H1 (c p)) (he : ∀ (p : NN) H1, Ex H H1 → p ∈ ps → c p = true → EvD K te (((wipe σ vs).set j (some (.int (p.1 : Int)))).set l (some (.int (p.2 : Int)))) H1 (f p)) :
    EvLD K (tLc (iList K tl) (gTup K 2 (gCons (gName j) (gCons (gName l) gNil))) t te vs) σ H ((ps.filter c).map f) := by
  intro H0 e Q q
  refine h H0 e _ fun w H1 e1 hw1 => ?_
  cases hw1 with
  | @lst a xs _ hp hx =>
    have hlen : xs.length = ps.length := by rw [hx.len, List.length_map]
    refine ⟨a, rfl, ⟨xs, hp⟩, fun Dl hD => lc_list (xs := xs) (CwD K H1 (fun i => c (ps.getD i (0, 0))) (fun i => f (ps.getD i (0, 0))) Dl) ⟨hD, Ex.new hD, [], upd_same, .nil⟩ (fun i H' _ p => ex_l p.2.1 hp) (fun i x H' hi p => ?_) fun H' p => ?_⟩
    · obtain ⟨d, h1, h2⟩ := hx.get hi
      rw [List.getElem?_map] at h1
      cases hps : ps[i]? with
      | none => rw [hps] at h1; cases h1
      | some z =>
        rw [hps] at h1
        cases Option.some.inj h1
        have e2 : ps.getD i (0, 0) = z := by rw [List.getD, hps]; rfl
        have h3 := h2.ex p.2.1
        cases h3 with
        | @tup b ys _ hb hy =>
          cases dvs2i hy
          refine ⟨b, _, rfl, hb, rfl, _, _, rfl, _, _, rfl, rfl, hw _ _, ?_⟩
          refine cwD_turn (fun i => hI _) p (by have := (List.getElem?_eq_some_iff.mp hi).1; omega) ?_ fun hc => ?_
          · rw [e2]; exact ht z H1 (e.trans e1) (List.mem_of_getElem? hps)
          · rw [e2] at hc ⊢; exact he z H1 (e.trans e1) (List.mem_of_getElem? hps) hc
    · obtain ⟨p1, p2, acc, p3, p4⟩ := p
      rw [hlen, few_list] at p4
      exact q Dl acc H' (fresh_back e1 p1) (e1.trans p2) p3 p4
theorem few_all {c : Nat → Bool} {f : Nat → PyData} (h : ∀ i, c i = true) (n : Nat) : few c f n = (List.range n).map f := by
  induction n with
  | zero => rfl
  | succ n ih => rw [few_yes (h n), ih, List.range_succ, List.map_append]; rfl
theorem any_lcR2 {tA : TA} {j : Nat} {vs : List Nat} {lo hi : Int} {n : Nat} (f : Nat → Bool) (h : EvA tA σ H [.int lo, .int hi]) (hn : n = (hi - lo).toNat) (hb : -100000 ≤ lo ∧ lo ≤ 100000 ∧ -100000 ≤ hi ∧ hi ≤ 40000 ∧ n ≤ 40000) (hw : ∀ x, wipe ((wipe σ vs).set j (some x)) vs = wipe σ vs)
    (he : ∀ (i : Nat) H1, Ex H H1 → i < n → Ev te ((wipe σ vs).set j (some (.int (lo + (i : Int))))) H1 (.bl (f i))) :
    Ev (tCB (rAny K) (tCons (tLc (iRng2 tA) (gName j) tYes te vs) tNil)) σ H (.bl ((List.range n).any f)) := by
  intro H0 e Q q
  refine h H0 e _ fun H1 e1 => ⟨lo, hi, rfl, ⟨by omega, by omega, by omega, by omega⟩, fun Dl hD => ?_⟩
  rw [← hn]
  refine lc_range (lo := lo) (n := n) (Cw H1 (fun _ => true) (fun i => V.bl (f i)) Dl) ⟨hD, Ex.new hD, upd_same⟩ (fun i H' hi p => ⟨hw _, cw_turn p (by omega) tYes_t fun _ => he i H1 (e.trans e1) hi⟩) fun H' p => ?_
  have e3 := p.2.2
  rw [given_all] at e3
  have e4 : (List.range n).map (fun i => V.bl (f i)) = ((List.range n).map f).map V.bl := by rw [List.map_map]; rfl
  rw [e4] at e3
  refine ⟨Dl, (List.range n).map f, rfl, sq_of e3, ?_⟩
  have e5 : ((List.range n).map f).any id = (List.range n).any f := by rw [List.any_map]; rfl
  rw [e5]
  exact q H' (e1.trans p.2.1)
end
section
variable {X : Cx} {K : PySem.W.Frag}
theorem k_any (h : X.K = K) (hc : X.calm = true) : CallR X (.builtin "any") (rAny K) := by subst h; exact cr_any hc
theorem k_in (h : X.K = K) : OpR X (compareOp .In) (rIn K false) := by subst h; exact op_in_seq
theorem k_notin (h : X.K = K) : OpR X (compareOp .NotIn) (rIn K true) := by subst h; exact op_notIn_seq
theorem k_index (h : X.K = K) : MtR X "list.index" (rIndex K) := by subst h; exact mt_index
end
end Sq

namespace Sq
open PySem PySem.Spec PyProof.Rows L2 Evl
/-! ### what the defs about sides promise -/
def isSide : PyData → Bool
  | .int i => decide (2 ≤ i) && decide (i ≤ 1000000)
  | _ => false
/-- a side -/
structure Side (N : Nat) : Prop where
  lo : 2 ≤ N
  hi : N ≤ 1000000
theorem isSide_no {x : PyData} (h : whole x = false) : isSide x = false := by cases x <;> simp [whole] at h <;> rfl
theorem whole_yes : ∀ {x : PyData}, whole x = true → ∃ i, x = .int i
  | .int i, _ => ⟨i, rfl⟩
theorem isSide_N {N : Nat} (h : Side N) : isSide (.int (N : Int)) = true := by
  have := h.lo
  have := h.hi
  show (decide (2 ≤ (N : Int)) && decide ((N : Int) ≤ 1000000)) = true
  rw [decide_eq_true (by omega), decide_eq_true (by omega)]; rfl
def ni (n : Nat) : PyData := .int (n : Int)
noncomputable def lonT' (N : Nat) : List NN := (lonN N).mergeSort leN
noncomputable def legT' (N : Nat) : List NN := (legN N).mergeSort leN
theorem lonT_mem {N : Nat} {x : NN} : x ∈ lonT' N ↔ x ∈ lonN N := List.mem_mergeSort
theorem legT_mem {N : Nat} {x : NN} : x ∈ legT' N ↔ x ∈ legN N := List.mem_mergeSort
theorem lonT_len (N : Nat) : (lonT' N).length = (lonN N).length := List.length_mergeSort _
theorem legT_len (N : Nat) : (legT' N).length = (legN N).length := List.length_mergeSort _
theorem lonT_nil {N : Nat} : lonT' N = [] ↔ lonN N = [] := by
  rw [← List.length_eq_zero_iff, ← List.length_eq_zero_iff, lonT_len]
theorem legT_nil {N : Nat} : legT' N = [] ↔ legN N = [] := by
  rw [← List.length_eq_zero_iff, ← List.length_eq_zero_iff, legT_len]
/-- lists of pairs, all in order -/
def AllP (ps : List NN) : Prop := ∀ x ∈ ps, pairN x.1 x.2 = true
theorem lonT_P (N : Nat) : AllP (lonT' N) := fun x h => (lon_pair (lonT_mem.mp h)).1
theorem legT_P (N : Nat) : AllP (legT' N) := fun x h => leg_pair (legT_mem.mp h)
theorem pairN_ok {x : NN} (h : pairN x.1 x.2 = true) : IsPair (up x) := by
  obtain ⟨h1, h2, h3, h4⟩ := pairN_iff.mp h
  refine ⟨?_, ?_, ?_, ?_⟩
  · show (0 : Int) < (x.2 : Int); omega
  · show (x.2 : Int) < (x.1 : Int); omega
  · show ((x.1 : Int) - (x.2 : Int)) % 2 = 1; omega
  · exact h4
theorem pairD_up (x : NN) : isPairD (pd (up x)) = pairN x.1 x.2 := by
  rw [isPairD_pd]
  by_cases h : pairN x.1 x.2 = true
  · rw [h]; exact decide_eq_true (pairN_ok h)
  · have h' : pairN x.1 x.2 = false := by cases e : pairN x.1 x.2 with | true => exact absurd e h | false => rfl
    rw [h']
    refine decide_eq_false fun z => h (pairN_iff.mpr ?_)
    obtain ⟨a, b, c, d⟩ := z
    have a : (0 : Int) < (x.2 : Int) := a
    have b : (x.2 : Int) < (x.1 : Int) := b
    have c : ((x.1 : Int) - (x.2 : Int)) % 2 = 1 := c
    exact ⟨by omega, by omega, by omega, d⟩
theorem eqv_tns : ∀ {ps qs : List NN}, AllP ps → AllP qs → PyData.eqvAll (ps.map tn) (qs.map tn) = decide (ps = qs)
  | [], [], _, _ => by simp [PyData.eqvAll]
  | [], _ :: _, _, _ => by simp [PyData.eqvAll]
  | _ :: _, [], _, _ => by simp [PyData.eqvAll]
  | p :: ps, q :: qs, hp, hq => by
    rw [List.map_cons, List.map_cons]
    have e1 : PyData.eqv (tn p) (tn q) = decide (p = q) := by
      unfold tn
      rw [eqv_td (ok_of (pairN_ok (hp p List.mem_cons_self))) (ok_of (pairN_ok (hq q List.mem_cons_self)))]
      by_cases e : p = q
      · subst e; rw [decide_eq_true rfl, decide_eq_true rfl]
      · rw [decide_eq_false e]
        refine decide_eq_false fun z => e ?_
        obtain ⟨a, b⟩ := p
        obtain ⟨c, d⟩ := q
        have z1 : (a : Int) = c := congrArg Prod.fst z
        have z2 : (b : Int) = d := congrArg Prod.snd z
        rw [show a = c by omega, show b = d by omega]
    simp only [PyData.eqvAll, e1, eqv_tns (fun x h => hp x (List.mem_cons_of_mem _ h)) fun x h => hq x (List.mem_cons_of_mem _ h)]
    by_cases h1 : p = q
    · by_cases h2 : ps = qs
      · simp [h1, h2]
      · simp [h1, h2]
    · simp [h1]
theorem eqv_tl {ps qs : List NN} (hp : AllP ps) (hq : AllP qs) : PyData.eqv (.list (ps.map tn)) (.list (qs.map tn)) = decide (ps = qs) := eqv_tns hp hq
theorem depth_tns : ∀ ps : List NN, PyData.canLayAll0 (ps.map tn) = true ∧ PyData.depthAll (ps.map tn) ≤ 1
  | [] => by simp [PyData.canLayAll0, PyData.depthAll]
  | p :: ps => by
    obtain ⟨h1, h2⟩ := depth_tns ps
    have e1 : (tn p).canLay0 = true := by simp [tn, td, PyData.canLay0, PyData.canLayAll0]
    have e2 : (tn p).depth = 1 := by simp [tn, td, PyData.depth, PyData.depthAll]
    rw [List.map_cons]
    refine ⟨by simp [PyData.canLayAll0, e1, h1], ?_⟩
    simp only [PyData.depthAll, e2]
    omega
theorem shaped_tl (ps : List NN) : SeqAt.shaped (.list (ps.map tn)) = true := by
  obtain ⟨h1, h2⟩ := depth_tns ps
  unfold SeqAt.shaped
  have h3 : (PyData.list (ps.map tn)).depth ≤ 2 := by simp only [PyData.depth]; omega
  have h4 : (PyData.list (ps.map tn)).canLay0 = true := by simp [PyData.canLay0, h1]
  rw [h4, Bool.true_and]
  exact decide_eq_true (Nat.le_trans h3 (by decide))
abbrev R_is_side : Rel := fun ds d => ∃ x, ds = [x] ∧ d = .bool (isSide x)
def R__primes_of : RelL := fun ds es => ∃ N : Nat, ds = [.int N] ∧ Side N ∧ es = (primesOf N).map ni
def R_barring_primes : RelL := fun ds es => ∃ N : Nat, ds = [.int N] ∧ Side N ∧ es = (barring N).map ni
def R_triples_by_longest : RelL := fun ds es => ∃ N : Nat, ds = [.int N] ∧ Side N ∧ es = (lonT' N).map tn
def R_triples_by_leg : RelL := fun ds es => ∃ N : Nat, ds = [.int N] ∧ Side N ∧ es = (legT' N).map tn
def legPs (N : Nat) : List NN := few (legD N) (legC N) (legR N)
theorem legPs_filter (N : Nat) : (legPs N).filter (fun x => pairN x.1 x.2) = legN N := few_filter _ _
def R__pairs_by_even : RelL := fun ds es => ∃ N : Nat, ds = [.int N] ∧ Side N ∧ N % 2 = 0 ∧ es = (legPs N).map fun x => pd (up x)
def R__pairs_by_odd : RelL := fun ds es => ∃ N : Nat, ds = [.int N] ∧ Side N ∧ N % 2 = 1 ∧ es = (legPs N).map fun x => pd (up x)
def R__law_root : Rel := fun ds d => ∃ N : Nat, ds = [.int N] ∧ N ≤ 10000000 ∧ d = .int (isq N)
def R__law_longest : RelL := fun ds es => ∃ N : Nat, ds = [.int N] ∧ Side N ∧ es = (lonT' N).map tn
def R__law_legs : RelL := fun ds es => ∃ N : Nat, ds = [.int N] ∧ Side N ∧ es = (legT' N).map tn
def R__law_is_prime : Rel := fun ds d => ∃ p : Nat, ds = [.int p] ∧ Side p ∧ d = .bool (tryPrime (isq p) p)
noncomputable def barsI (N : Nat) (p : Int) : Bool := decide (0 ≤ p) && decide (p.toNat ∈ barring N)
def R__law_bars : Rel := fun ds d => ∃ (N : Nat) (p : Int), ds = [.int N, .int p] ∧ Side N ∧ d = .bool (barsI N p)
def R__law_says : Rel := fun ds d => ∃ a b : Bool, ds = [.bool a, .bool b] ∧ d = .bool (a == b)
/-! the number that the law draws -/
def lawKind (c : Int) (k : Nat) : Int := lawDraw (c % E18 + 31 * k) 6 5
def sevenAt (v : Int) : Int := ([5, 13, 17, 29, 1, 1, 1] : List Int).getD (v % 7).toNat 0
def sevens : Nat → Int × Int → Int × Int
  | 0, p => p
  | n + 1, p => sevens n (p.1 * sevenAt p.2, p.2 / 7)
def fiveAt (k : Int) : Int := ([60, 999999, 1, 5000, 99999] : List Int).getD k.toNat 0
def lawNumber (c : Int) (k : Nat) : Int :=
  if lawKind c k = 2 then (if (sevens 4 (1, lawValue c ((k : Int) + 2) 999983)).1 > 5 then (sevens 4 (1, lawValue c ((k : Int) + 2) 999983)).1 else 5)
  else 2 + lawValue c ((k : Int) + 2) 999983 % fiveAt (lawKind c k)
theorem sevenAt_get (v : Int) : ([5, 13, 17, 29, 1, 1, 1] : List Int)[(v % 7).toNat]? = some (sevenAt v) ∧ 1 ≤ sevenAt v ∧ sevenAt v ≤ 29 := by
  have h : 0 ≤ v % 7 ∧ v % 7 < 7 := ⟨Int.emod_nonneg _ (by decide), Int.emod_lt_of_pos _ (by decide)⟩
  unfold sevenAt
  rcases (by omega : v % 7 = 0 ∨ v % 7 = 1 ∨ v % 7 = 2 ∨ v % 7 = 3 ∨ v % 7 = 4 ∨ v % 7 = 5 ∨ v % 7 = 6) with e | e | e | e | e | e | e <;> rw [e] <;> decide
theorem fiveAt_get {k : Int} (h0 : 0 ≤ k) (h1 : k < 5) : ([60, 999999, 1, 5000, 99999] : List Int)[k.toNat]? = some (fiveAt k) ∧ 1 ≤ fiveAt k ∧ fiveAt k ≤ 999999 := by
  unfold fiveAt
  rcases (by omega : k = 0 ∨ k = 1 ∨ k = 2 ∨ k = 3 ∨ k = 4) with e | e | e | e | e <;> rw [e] <;> decide
theorem sevens_succ : ∀ (n : Nat) (p : Int × Int), sevens (n + 1) p = ((sevens n p).1 * sevenAt (sevens n p).2, (sevens n p).2 / 7)
  | 0, p => rfl
  | n + 1, p => by
    show sevens (n + 1) _ = _
    rw [sevens_succ n]
    rfl
theorem sevens_le (v : Int) : ∀ n : Nat, 1 ≤ (sevens n (1, v)).1 ∧ (sevens n (1, v)).1 ≤ 29 ^ n
  | 0 => ⟨Int.le_refl 1, Int.le_refl 1⟩
  | n + 1 => by
    rw [sevens_succ]
    obtain ⟨h1, h2⟩ := sevens_le v n
    obtain ⟨_, h3, h4⟩ := sevenAt_get (sevens n (1, v)).2
    refine ⟨?_, ?_⟩
    · have := Int.mul_le_mul h1 h3 (by decide) (by omega)
      simpa using this
    · rw [Int.pow_succ]
      exact Int.mul_le_mul h2 h4 (by omega) (Int.pow_nonneg (by decide))
theorem lawNumber_side (c : Int) (k : Nat) : ∃ N : Nat, lawNumber c k = (N : Int) ∧ Side N := by
  have key : 2 ≤ lawNumber c k ∧ lawNumber c k ≤ 1000000 := by
    unfold lawNumber
    split
    · obtain ⟨h1, h2⟩ := sevens_le (lawValue c ((k : Int) + 2) 999983) 4
      have h2 : (sevens 4 (1, lawValue c ((k : Int) + 2) 999983)).1 ≤ 707281 := h2
      split <;> omega
    · obtain ⟨h0, h1⟩ := lawDraw_lt (c % E18 + 31 * k) 6 (m := 5) (by decide)
      obtain ⟨_, h3, h4⟩ := fiveAt_get h0 h1
      have h5 : 0 ≤ lawValue c ((k : Int) + 2) 999983 % fiveAt (lawKind c k) := Int.emod_nonneg _ (by have : 1 ≤ fiveAt (lawKind c k) := h3; omega)
      have h6 : lawValue c ((k : Int) + 2) 999983 % fiveAt (lawKind c k) < fiveAt (lawKind c k) := Int.emod_lt_of_pos _ (by have : 1 ≤ fiveAt (lawKind c k) := h3; omega)
      have h4 : fiveAt (lawKind c k) ≤ 999999 := h4
      omega
  exact ⟨(lawNumber c k).toNat, by omega, by omega, by omega⟩
def R__law_number : Rel := fun ds d => ∃ (ns : List Int) (k : Nat), ds = [.list (ns.map .int), .int k] ∧ k ≤ 63 ∧ (∀ c ∈ ns, Sm 1048577 c) ∧ d = .int (lawNumber (ns.getD k 0) k)
/-! objects -/
def spInitL (K : PySem.W.Frag) (C : Addr) : Sp := fun vs H Q _ => ∃ (p dx a : Addr) (xs : List V), vs = [.ref p, .ref a] ∧ SqL K H a xs ∧ H p = some (.ins C dx []) ∧
  ∀ l, H l = none → Q .non (upd (upd H l (.lst xs)) p (.ins C dx [("triples", .ref l)]))
def spInitB (C : Addr) : Sp := fun vs H Q _ => ∃ (p dx : Addr) (v : V), vs = [.ref p, v] ∧ H p = some (.ins C dx []) ∧ Q .non (upd H p (.ins C dx [("prime", v)]))
/-- an object with a list of triples -/
def HasL (H : Hp) (C : Addr) (p l : Addr) (xs : List V) : Prop := ∃ dx, H p = some (.ins C dx [("triples", .ref l)]) ∧ H l = some (.lst xs)
def HasB (H : Hp) (C : Addr) (p : Addr) (v : V) : Prop := ∃ dx, H p = some (.ins C dx [("prime", v)])
def Has0 (H : Hp) (C : Addr) (p : Addr) : Prop := ∃ dx, H p = some (.ins C dx [])
/-- shows: a number that is a side -/
def spShowsL (K : PySem.W.Frag) (C : Addr) (tr : Nat → List NN) : Sp := fun vs H Q _ => ∃ (p l : Addr) (xs : List V) (ps : List NN) (N : Nat), vs = [.ref p, .int N] ∧ Side N ∧ AllP ps ∧ HasL H C p l xs ∧ DVs K H xs (ps.map tn) ∧
  ∀ H', Ex H H' → Q (.bl (decide (tr N ≠ []) && decide (ps = tr N))) H'
def spShowsB (C : Addr) : Sp := fun vs H Q _ => ∃ (p : Addr) (b : Int) (N : Nat), vs = [.ref p, .int N] ∧ Side N ∧ HasB H C p (.int b) ∧ ∀ H', Ex H H' → Q (.bl (barsI N b)) H'
def spShows0 (C : Addr) : Sp := fun vs H Q _ => ∃ (p : Addr) (N : Nat), vs = [.ref p, .int N] ∧ Side N ∧ Has0 H C p ∧ ∀ H', Ex H H' → Q (.bl (decide (N % 4 = 2))) H'
end Sq

namespace Sq
open PySem PySem.Spec PyProof.Rows L2 Evl
/-! ### methods and makings with their promises -/
structure MCal (P : Program) (w : World) (K : PySem.W.Frag) (mg : Str → Option Value) (base : Heap) (CX : CXT) (C : Addr) (m : Str) (k : Nat) (ps : List Str) (sp : Sp) : Prop where
  ex : ∃ f fd, Meth K C m f ∧ Binds K fd ps [] ∧ FnOk P w K mg base CX k f fd ps sp
structure KCal (P : Program) (w : World) (K : PySem.W.Frag) (mg : Str → Option Value) (base : Heap) (CX : CXT) (C : Addr) (k : Nat) (ps : List Str) (sp : Sp) : Prop where
  ex : ∃ f fd, Mk K C f ∧ Binds K fd ps [] ∧ FnOk P w K mg base CX k f fd ps sp
/-- no __init__ but object's -/
structure Mk0 (K : PySem.W.Frag) (C : Addr) : Prop where
  makes : PySem.W.makesIn K C = true
  init : PySem.W.findIn K (.ref C) "__init__" = some (some (.builtin "object.__init__"))
  top : PySem.W.mroIn K C (.type "object") = some true
  self : PySem.W.mroIn K C (.ref C) = some true
  kp : PySem.W.keepIn K (.ref C) = true
def tMk0 (C : Addr) : TE := fun _ H Q => ∀ x dx, H x = none → H dx = none → dx ≠ x → Q (.ref x) (upd (upd H dx (.own x)) x (.ins C dx []))
section
variable {X : Cx} {CX : CXT} {k : Nat} {C : Addr} {ps : List Str} {sp : Sp} {E : XK} {x m : Str} {e o : Expr} {es : List Expr} {ta : TE} {t : TA} {p pos apos : Pos}
theorem pe_mcal {pl : Sem Bool} (G : MCal X.prog X.w X.K X.mg X.base CX C m k ps sp) (he : PE X o ta) (c : Cls X.K C) (hr : Room k X.A) (hx : Passes CX X E) (ha : PA X (e :: es) t)
    (hst : starEach (e :: es) X.env = (false, eval e X.env) :: starEach es X.env := by rfl) (hpl : (backTo pos (starEach es X.env)).any (·.1) = false := by rfl)
    (ht : eval (.Call (.Attribute o m apos) (e :: es) [] pos) X.env = (do
      let ov ← eval o X.env
      standAt apos.atName
      let (f, first) ← holding [ov] (getMethod ov m pl)
      callWith pos f first (backTo pos (starEach (e :: es) X.env)) (backToKw pos (keywordEach [] X.env))) := by rfl) :
    PE X (.Call (.Attribute o m apos) (e :: es) [] pos) (tMeth C m sp [] E ta t) := by
  obtain ⟨f, fd, hm, hb, F⟩ := G.ex
  exact pe_meth he c hm F hr hb .nil hx ha hst hpl ht
theorem pe_kcal (G : KCal X.prog X.w X.K X.mg X.base CX C k ps sp) (hr : Room (k + 1) X.A) (hg : Gl X x) (hm : X.mg x = some (.ref C)) (hx : Passes CX X E) (ha : PA X (e :: es) t) (hdb : (x == ("__debug__" : Str)) = false := by decide)
    (he : starEach (e :: es) X.env = (false, eval e X.env) :: starEach es X.env := by rfl) (hpl : (backTo pos (starEach es X.env)).any (·.1) = false := by rfl) : PE X (.Call (.Name x p) (e :: es) [] pos) (tMake C sp [] E t) := by
  obtain ⟨f, fd, M, hb, F⟩ := G.ex
  exact pe_make M F hr hg hm hb .nil hx ha hdb he hpl
theorem pe_any {ι : Type} {e : Expr} {t : ι → TE} (h : ∀ i, PE X e (t i)) : PE X e (fun σ H Q => ∃ i, t i σ H Q) := ⟨fun pins s σ H Q I ⟨i, h'⟩ => (h i).run pins s σ H Q I h'⟩
theorem pe_mk0 (M : Mk0 X.K C) (hg : Gl X x) (hm : X.mg x = some (.ref C)) (hdb : (x == ("__debug__" : Str)) = false := by decide) : PE X (.Call (.Name x p) [] [] pos) (tMk0 C) := by
  refine ⟨fun pins s σ H Q I h => ?_⟩
  refine wpAny_Call_Name_kw (ld_glob I hg hm ?_ hdb)
  refine PySem.W.callWith_K0 I.kIn M.kp ?_
  have hq := h (s.heap.objs.size + 1) s.heap.objs.size (I.hok.fresh (Nat.le_succ _)) (I.hok.fresh (Nat.le_refl _)) (Nat.ne_of_lt (Nat.lt_succ_self _))
  have I2 := Inv.made (C := C) I
  have hnew : ((s.heap.push PySem.W.emptyDict).push (PySem.W.instObj C s.heap.objs.size)).get? (s.heap.objs.size + 1) = some (PySem.W.instObj C s.heap.objs.size) := by
    have z := Heap.get?_push_size (s.heap.push PySem.W.emptyDict) (o := PySem.W.instObj C s.heap.objs.size) rfl
    rwa [Heap.size_push] at z
  obtain ⟨hh, g, d, tk, os⟩ := s
  have t1 : PySem.W.Looks (model X.prog X.w) ((hh.push PySem.W.emptyDict).push (PySem.W.instObj C hh.objs.size)) (typeOf (.ref (hh.objs.size + 1))) (.ref C) := (PySem.W.Looks.ld hnew).andThen .now
  have t2 : PySem.W.Looks (model X.prog X.w) ((hh.push PySem.W.emptyDict).push (PySem.W.instObj C hh.objs.size)) (isInstance (.ref (hh.objs.size + 1)) (.type "object")) true :=
    t1.andThen ((PySem.W.makes_of (M := model X.prog X.w) I.kIn M.makes).top.keeps fun b o e => Heap.get?_push_of_some _ (Heap.get?_push_of_some _ e))
  refine wpAny_call (make_map0 I.kIn M.makes M.init (fun self => PySem.W.Looks.of_pure (PySem.W.oi_bind self)) ?_)
  refine PySem.codeAny_call_builtin PySem.W.oi_plain PySem.W.entry_oi (@PySem.W.check_slot (model X.prog X.w) _ _ _ "object.__init__" "object" "__init__" (.ref (hh.objs.size + 1)) [] [] _ PySem.W.oi_kind PySem.W.oi_split t2 (PySem.W.oi_args (.ref (hh.objs.size + 1))) ?_)
  rw [PySem.W.oi_run]
  exact wpAny_pure (And.intro rfl ⟨V.ref _, _, I2, rfl, hq⟩)
end
end Sq

namespace Sq
open PySem PySem.Spec PyProof.Rows L2 Evl
/-- what isinstance asks of a class -/
structure Ins (K : PySem.W.Frag) (C : Addr) : Prop where
  cl : Cls K C
  ha : PySem.W.findIn K (.ref C) "__class__" = some (some (.builtin "object.__class__"))
  hn : PySem.W.specialIn K (.builtin "object.__class__") "__get__" = some (some (.builtin "getset_descriptor.__get__"))
  htk : PySem.W.takesIn K (.builtin "object.__class__") = some true
  hm : PySem.W.mroIn K C (.type "object") = some true
theorem Ins.ty {K : PySem.W.Frag} {C a dx : Addr} {fs : List (Str × V)} {H : Hp} (i : Ins K C) (e : H a = some (.ins C dx fs)) : TyX K H (.ref a) (.ref C) := .base (.ins e i.cl i.ha i.hn i.htk i.hm)
section
variable {K : PySem.W.Frag} {σ : L2.St} {H H' : Hp} {te ta tb : TE} {ds : List PyData} {v : V} {C : Addr} {E : XK}
theorem HasL.ex {p l : Addr} {xs : List V} (h : HasL H C p l xs) (e : Ex H H') : HasL H' C p l xs := by
  obtain ⟨dx, a, b⟩ := h
  exact ⟨dx, e _ _ a, e _ _ b⟩
theorem HasB.ex {p : Addr} (h : HasB H C p v) (e : Ex H H') : HasB H' C p v := by
  obtain ⟨dx, a⟩ := h
  exact ⟨dx, e _ _ a⟩
theorem Has0.ex {p : Addr} (h : Has0 H C p) (e : Ex H H') : Has0 H' C p := by
  obtain ⟨dx, a⟩ := h
  exact ⟨dx, e _ _ a⟩
def EvML (K : PySem.W.Frag) (C : Addr) (te : TE) (σ : L2.St) (H : Hp) (ds : List PyData) : Prop := ∀ H1, Ex H H1 → ∀ Q : VK, (∀ p l xs H2, H1 p = none → H1 l = none → Ex H1 H2 → HasL H2 C p l xs → DVs K H2 xs ds → Q (.ref p) H2) → te σ H1 Q
def EvMB (C : Addr) (te : TE) (σ : L2.St) (H : Hp) (v : V) : Prop := ∀ H1, Ex H H1 → ∀ Q : VK, (∀ p H2, H1 p = none → Ex H1 H2 → HasB H2 C p v → Q (.ref p) H2) → te σ H1 Q
def EvM0 (C : Addr) (te : TE) (σ : L2.St) (H : Hp) : Prop := ∀ H1, Ex H H1 → ∀ Q : VK, (∀ p H2, H1 p = none → Ex H1 H2 → Has0 H2 C p → Q (.ref p) H2) → te σ H1 Q
theorem made_ex {x dx : Addr} {o o' : HO} (hx : H x = none) (hd : H dx = none) : Ex H (upd (upd H dx o) x o') := fun a u e => by
  rw [upd_ne (ne_of_none e hx), upd_ne (ne_of_none e hd)]
  exact e
theorem em_L (h : EvD K te σ H (.list ds)) : EvML K C (tMake C (spInitL K C) [] E (tCons te tNil)) σ H ds := fun H1 a _ q =>
  h H1 a _ fun v H2 e2 hv x dx nx nd ndx => by
    cases hv with
    | @lst b xs _ hb hxs =>
      refine ⟨x, dx, b, xs, rfl, ex_l (made_ex nx nd) hb, upd_same, fun l nl => ⟨rfl, ?_⟩⟩
      have nlx : l ≠ x := fun z => by rw [z, upd_same] at nl; cases nl
      have nl2 : H2 l = none := by
        rw [upd_ne nlx] at nl
        by_cases z : l = dx
        · rw [z]; exact nd
        · rw [upd_ne z] at nl; exact nl
      have e3 : Ex H2 (upd (upd (upd (upd H2 dx (.own x)) x (.ins C dx [])) l (.lst xs)) x (.ins C dx [("triples", .ref l)])) := fun b u e => by
        rw [upd_ne (ne_of_none e nx), upd_ne (ne_of_none e nl2)]
        exact made_ex nx nd b u e
      exact q x l xs _ (fresh_back e2 nx) (fresh_back e2 nl2) (e2.trans e3) ⟨dx, upd_same, by rw [upd_ne nlx, upd_same]⟩ (hxs.ex e3)
theorem em_B (h : Ev te σ H v) : EvMB C (tMake C (spInitB C) [] E (tCons te tNil)) σ H v := fun H1 a _ q =>
  h H1 a _ fun H2 e2 x dx nx nd ndx => ⟨x, dx, v, rfl, upd_same, rfl, q x _ (fresh_back e2 nx) (e2.trans fun b u e => by
    rw [upd_ne (ne_of_none e nx)]
    exact made_ex nx nd b u e) ⟨dx, upd_same⟩⟩
theorem em_0 : EvM0 C (tMk0 C) σ H := fun H1 a _ q x dx nx nd ndx => q x _ nx (made_ex nx nd) ⟨dx, upd_same⟩
end
end Sq
namespace Sq
open PySem PySem.Spec PyProof.Rows L2 Evl
/-! ### an append under a test -/
section
variable {K : PySem.W.Frag} {σ : L2.St} {H H0 : Hp} {te ta : TE} {t : TT} {D : Ends} {tz : TS}
theorem q_whenApp {b : Bool} {l : Addr} {xs : List V} {v : V} (e0 : Ex H0 H) (n0 : H0 l = none) (hl : H l = some (.lst xs)) (hz : xs.length < 100000) (h : EvT t σ H b) (ha : Ev ta σ H (.ref l)) (he : b = true → Ev te σ H v)
    (k : ∀ H1, Ex H0 H1 → H1 l = some (.lst (xs ++ if b = true then [v] else [])) → tz D σ H1) : tSeq (tIfS t (tDrop (tBM K "list" rAppend ta (tCons te tNil))) tNext) tz D σ H := by
  refine q_when h (fun hb H1 e1 => ?_) fun hb H1 e1 => ?_
  · refine s_app (e1 _ _ hl) (ha.mono e1) ((he hb).mono e1) hz fun H2 e2 => k _ (Ex.mut ((e0.trans e1).trans e2) n0) ?_
    rw [if_pos hb]
    exact upd_same
  · refine k _ (e0.trans e1) ?_
    rw [if_neg (by rw [hb]; decide), List.append_nil]
    exact e1 _ _ hl
theorem q_whenAppD {b : Bool} {l : Addr} {xs : List V} {ds : List PyData} {d : PyData} (e0 : Ex H0 H) (n0 : H0 l = none) (hl : H l = some (.lst xs)) (hv : DVs K H xs ds) (hI : ∀ e ∈ ds, IntD e) (hd : IntD d) (hz : ds.length < 100000) (h : EvT t σ H b) (ha : Ev ta σ H (.ref l)) (he : b = true → EvD K te σ H d)
    (k : ∀ xs' H1, Ex H0 H1 → H1 l = some (.lst xs') → DVs K H1 xs' (ds ++ if b = true then [d] else []) → tz D σ H1) : tSeq (tIfS t (tDrop (tBM K "list" rAppend ta (tCons te tNil))) tNext) tz D σ H := by
  refine q_when h (fun hb H1 e1 => ?_) fun hb H1 e1 => ?_
  · refine ha.mono e1 H1 (Ex.refl H1) _ fun H2 e2 => ⟨Or.inl ⟨rfl, xs, sq_of (e2 _ _ (e1 _ _ hl))⟩, (he hb).mono e1 H2 e2 _ fun w H3 e3 hw => ⟨l, xs, w, rfl, rfl, e3 _ _ (e2 _ _ (e1 _ _ hl)), sz_lt (by rw [hv.len]; exact hz), ?_⟩⟩
    have h3 := e3 _ _ (e2 _ _ (e1 _ _ hl))
    refine k _ _ (Ex.mut (((e0.trans e1).trans e2).trans e3) n0) upd_same ?_
    rw [if_pos hb]
    exact DVs.append (dvs_intD (fun a xs h => sqT_upd h3 h) hI (hv.ex ((e1.trans e2).trans e3))) (.cons (dv_intD (fun a xs h => sqT_upd h3 h) hd hw) .nil)
  · refine k xs _ (e0.trans e1) (e1 _ _ hl) ?_
    rw [if_neg (by rw [hb]; decide), List.append_nil]
    exact hv.ex e1
theorem s_whenAppD {b : Bool} {l : Addr} {xs : List V} {ds : List PyData} {d : PyData} (e0 : Ex H0 H) (n0 : H0 l = none) (hl : H l = some (.lst xs)) (hv : DVs K H xs ds) (hI : ∀ e ∈ ds, IntD e) (hd : IntD d) (hz : ds.length < 100000) (h : EvT t σ H b) (ha : Ev ta σ H (.ref l)) (he : b = true → EvD K te σ H d)
    (k : ∀ xs' H1, Ex H0 H1 → H1 l = some (.lst xs') → DVs K H1 xs' (ds ++ if b = true then [d] else []) → D.nx σ H1) : tIfS t (tDrop (tBM K "list" rAppend ta (tCons te tNil))) tNext D σ H :=
  q_whenAppD (D := D) (tz := fun D σ H => D.nx σ H) e0 n0 hl hv hI hd hz h ha he k
end
theorem dvs_ni {K : PySem.W.Frag} {H : Hp} : ∀ ps : List Nat, DVs K H (ps.map fun p : Nat => V.int (p : Int)) (ps.map ni)
  | [] => .nil
  | p :: ps => .cons (.int _) (dvs_ni ps)
def barF : PyData → Bool
  | .int i => decide (i = 2) || decide (i % 4 = 3)
  | _ => false
def intF : PyData → PyData
  | .int i => .int i
  | _ => .int 0
theorem intF_I : ∀ d, IntD (intF d)
  | .int i => intD_i i
  | .none => intD_i 0 | .bool _ => intD_i 0 | .str _ => intD_i 0 | .list _ => intD_i 0 | .tuple _ => intD_i 0 | .dict _ => intD_i 0
theorem barring_data (N : Nat) : (((primesOf N).map ni).filter barF).map intF = (barring N).map ni := by
  unfold barring
  rw [List.filter_map, List.map_map]
  have e1 : (barF ∘ ni) = bar := by
    funext p
    show (decide ((p : Int) = 2) || decide ((p : Int) % 4 = 3)) = (decide (p = 2) || decide (p % 4 = 3))
    congr 1
    · by_cases h : p = 2
      · rw [decide_eq_true h]; exact decide_eq_true (by omega)
      · rw [decide_eq_false h]; exact decide_eq_false (by omega)
    · by_cases h : p % 4 = 3
      · rw [decide_eq_true h]; exact decide_eq_true (by omega)
      · rw [decide_eq_false h]; exact decide_eq_false (by omega)
  rw [e1]
  rfl
theorem sm30 {i : Int} (h : -1000000000 ≤ i ∧ i ≤ 1000000000) : Sm 30 i := by
  show i.natAbs < 2 ^ 30
  have : (2 : Nat) ^ 30 = 1073741824 := by decide
  omega
theorem cm_small {i j : Int} (h : -1000000000 ≤ i ∧ i ≤ 1000000000) (h' : -1000000000 ≤ j ∧ j ≤ 1000000000) : CMulX i j := (sm30 h).cm (sm30 h') (by decide)
theorem dec_sq {d r : Nat} : decide ((d : Int) * (d : Int) ≤ (r : Int)) = decide (d * d ≤ r) := by
  by_cases h : d * d ≤ r
  · rw [decide_eq_true h]; exact decide_eq_true (by exact_mod_cast h)
  · rw [decide_eq_false h]; exact decide_eq_false fun z => h (by exact_mod_cast z)
theorem dec_mod {d r : Nat} : decide ((r : Int) % (d : Int) = 0) = decide (r % d = 0) := by
  by_cases h : r % d = 0
  · rw [decide_eq_true h]; exact decide_eq_true (by exact_mod_cast h)
  · rw [decide_eq_false h]; exact decide_eq_false fun z => h (by exact_mod_cast z)
end Sq
namespace Sq
open PySem PySem.Spec PyProof.Rows L2 Evl
def oddF (N : Nat) : PyData → PyData
  | .int i => pd (((N : Int) / i + i) / 2, ((N : Int) / i - i) / 2)
  | _ => pd (0, 0)
theorem oddF_I (N : Nat) : ∀ d, IntD (oddF N d)
  | .int i => intD_pd _
  | .none => intD_pd _ | .bool _ => intD_pd _ | .str _ => intD_pd _ | .list _ => intD_pd _ | .tuple _ => intD_pd _ | .dict _ => intD_pd _
theorem oddF_ni {N i : Nat} (h0 : ¬ N % 2 = 0) (hd : N % (i + 1) = 0) (hle : (i + 1) * (i + 1) ≤ N) : oddF N (ni (i + 1)) = pd (up (legC N i)) := by
  have ec : legC N i = ((N / (i + 1) + (i + 1)) / 2, (N / (i + 1) - (i + 1)) / 2) := by unfold legC; rw [if_neg h0]
  rw [ec]
  have h1 : i + 1 ≤ N / (i + 1) := (Nat.le_div_iff_mul_le (by omega)).mpr hle
  have e1 : (N : Int) / ((i + 1 : Nat) : Int) = ((N / (i + 1) : Nat) : Int) := (Int.natCast_ediv _ _).symm
  show pd (((N : Int) / ((i + 1 : Nat) : Int) + ((i + 1 : Nat) : Int)) / 2, ((N : Int) / ((i + 1 : Nat) : Int) - ((i + 1 : Nat) : Int)) / 2) = pd ((((N / (i + 1) + (i + 1)) / 2 : Nat) : Int), (((N / (i + 1) - (i + 1)) / 2 : Nat) : Int))
  rw [e1]
  congr 2 <;> omega
theorem szT_pd (p : P2) : szT (pd p) := fun xs h => by cases h; exact (by decide : 2 ≤ 40000)
theorem dec_sum {a b N : Nat} : decide ((a : Int) * (a : Int) + (b : Int) * (b : Int) = (N : Int)) = decide (a * a + b * b = N) := by
  by_cases h : a * a + b * b = N
  · rw [decide_eq_true h]; exact decide_eq_true (by exact_mod_cast h)
  · rw [decide_eq_false h]; exact decide_eq_false fun z => h (by exact_mod_cast z)
theorem legR_le {N : Nat} (h : N ≤ 1000000) : legR N ≤ 1000 := by
  unfold legR
  split
  · exact isq_small (by omega)
  · exact isq_small h
theorem legPs_le {N : Nat} (h : N ≤ 1000000) {x : NN} (hx : x ∈ legPs N) : x.1 ≤ 1000000 ∧ x.2 ≤ 1000000 := by
  obtain ⟨i, hi, _, rfl⟩ := few_mem.mp hx
  have hi' := Nat.lt_of_lt_of_le hi (legR_le h)
  unfold legC
  have h1 : N / (i + 1) ≤ N := Nat.div_le_self _ _
  have h2 : N / 2 / (i + 1) ≤ N / 2 := Nat.div_le_self _ _
  split
  · exact ⟨by omega, by show i + 1 ≤ 1000000; omega⟩
  · exact ⟨by show (N / (i + 1) + (i + 1)) / 2 ≤ 1000000; omega, by show (N / (i + 1) - (i + 1)) / 2 ≤ 1000000; omega⟩
theorem ed_if {K : PySem.W.Frag} {σ : L2.St} {H : Hp} {t : TT} {ta tb : TE} {d : PyData} {b : Bool} (h : EvT t σ H b) (h1 : b = true → EvD K ta σ H d) (h2 : b = false → EvD K tb σ H d) : EvD K (tIf t ta tb) σ H d := fun H1 a Q q => h H1 a _ fun H2 e2 => by
  cases b with
  | true =>
    show ta σ H2 Q
    exact h1 rfl H2 (a.trans e2) Q fun v H3 e3 hv => q v H3 (e2.trans e3) hv
  | false =>
    show tb σ H2 Q
    exact h2 rfl H2 (a.trans e2) Q fun v H3 e3 hv => q v H3 (e2.trans e3) hv
end Sq
namespace Sq
theorem barsI_no {N : Nat} {p : Int} (hN : Side N) (h : (decide (p < 2) || (decide (p > (N : Int)) || (decide ((N : Int) % p > 0) || (decide (p > 2) && !decide (p % 4 = 3))))) = true) : barsI N p = false := by
  unfold barsI
  have n2 := hN.lo
  by_cases h0 : 0 ≤ p
  · obtain ⟨P, rfl⟩ := Int.eq_ofNat_of_zero_le h0
    rw [Int.toNat_natCast]
    rw [Bool.and_eq_false_iff]
    refine .inr (decide_eq_false fun hm => ?_)
    obtain ⟨⟨h1, h2⟩, h3⟩ := (mem_barring (by omega)).mp hm
    have h4 := h1.1
    have h5 := Nat.le_of_dvd (by omega) h2
    have h6 := Nat.mod_eq_zero_of_dvd h2
    have h7 : (N : Int) % (P : Int) = 0 := by exact_mod_cast h6
    simp only [Bool.or_eq_true, Bool.and_eq_true, decide_eq_true_eq, Bool.not_eq_true', decide_eq_false_iff_not] at h
    omega
  · rw [decide_eq_false h0, Bool.false_and]
theorem barsI_yes {N : Nat} {p : Int} (hN : Side N) (h : (decide (p < 2) || (decide (p > (N : Int)) || (decide ((N : Int) % p > 0) || (decide (p > 2) && !decide (p % 4 = 3))))) = false) :
    ∃ P : Nat, p = (P : Int) ∧ Side P ∧ barsI N p = tryPrime (isq P) P := by
  have n2 := hN.lo
  have nM := hN.hi
  simp only [Bool.or_eq_false_iff, decide_eq_false_iff_not, Bool.and_eq_false_iff, Bool.not_eq_false', decide_eq_true_eq] at h
  obtain ⟨h1, h2, h3, h4⟩ := h
  obtain ⟨P, rfl⟩ := Int.eq_ofNat_of_zero_le (show 0 ≤ p by omega)
  have hP : Side P := ⟨by omega, by omega⟩
  refine ⟨P, rfl, hP, ?_⟩
  have h5 : N % P = 0 := by
    have : (0 : Int) ≤ (N : Int) % (P : Int) := Int.emod_nonneg _ (by omega)
    have h6 : (N : Int) % (P : Int) = 0 := by omega
    exact_mod_cast h6
  have h7 : P = 2 ∨ P % 4 = 3 := by omega
  unfold barsI
  rw [decide_eq_true (show (0 : Int) ≤ (P : Int) by omega), Bool.true_and, Int.toNat_natCast]
  have key := tryPrime_iff (r := isq P) (p := P) (by omega) (isq_lo P) (isq_hi P)
  by_cases z : Prime P
  · rw [key.mpr z]
    exact decide_eq_true ((mem_barring (by omega)).mpr ⟨⟨z, Nat.dvd_of_mod_eq_zero h5⟩, h7⟩)
  · have : tryPrime (isq P) P = false := by
      cases e : tryPrime (isq P) P with
      | false => rfl
      | true => exact absurd (key.mp e) z
    rw [this]
    exact decide_eq_false fun hm => z ((mem_barring (by omega)).mp hm).1.1
end Sq
namespace Sq
theorem dec_gt2 {a b N : Nat} : decide ((a : Int) * (a : Int) + (b : Int) * (b : Int) > (N : Int)) = decide (N < a * a + b * b) := by
  by_cases h : N < a * a + b * b
  · rw [decide_eq_true h]
    refine decide_eq_true ?_
    have : ((N : Nat) : Int) < ((a * a + b * b : Nat) : Int) := by exact_mod_cast h
    rw [Int.natCast_add, Int.natCast_mul, Int.natCast_mul] at this
    exact this
  · rw [decide_eq_false h]
    refine decide_eq_false fun z => h ?_
    have z : ((N : Nat) : Int) < (a : Int) * (a : Int) + (b : Int) * (b : Int) := z
    rw [← Int.natCast_mul, ← Int.natCast_mul, ← Int.natCast_add] at z
    exact_mod_cast z
theorem dec_iff {p q : Prop} [Decidable p] [Decidable q] (h : p ↔ q) : decide p = decide q := by
  by_cases z : q
  · rw [decide_eq_true z, decide_eq_true (h.mpr z)]
  · rw [decide_eq_false z, decide_eq_false fun y => z (h.mp y)]
theorem lon_test (N m i : Nat) : (decide ((m : Int) > ((i + 1 : Nat) : Int)) && (decide ((m : Int) * (m : Int) + ((i + 1 : Nat) : Int) * ((i + 1 : Nat) : Int) = (N : Int)) && (decide (((m : Int) + ((i + 1 : Nat) : Int)) % 2 = 1) && decide (((Nat.gcd m (i + 1) : Nat) : Int) = 1)))) = lonT N (m, i + 1) := by
  unfold lonT pairN
  rw [dec_sum, dec_iff (q := i + 1 < m) (by omega), dec_iff (p := ((m : Int) + ((i + 1 : Nat) : Int)) % 2 = 1) (q := (m + (i + 1)) % 2 = 1) (by omega), dec_iff (p := ((Nat.gcd m (i + 1) : Nat) : Int) = 1) (q := Nat.gcd m (i + 1) = 1) (by omega), decide_eq_true (show 0 < i + 1 by omega)]
  generalize decide (i + 1 < m) = a
  generalize decide (m * m + (i + 1) * (i + 1) = N) = b
  generalize decide ((m + (i + 1)) % 2 = 1) = c
  generalize decide (Nat.gcd m (i + 1) = 1) = d
  cases a <;> cases b <;> cases c <;> cases d <;> rfl
theorem leg1_test (N i : Nat) : (decide (N % (i + 1) = 0) && (decide (((i + 1 : Nat) : Int) < ((N / (i + 1) : Nat) : Int)) && (decide (((Nat.gcd (i + 1) (N / (i + 1)) : Nat) : Int) = 1) && decide ((N : Int) % 2 = 1)))) = lawL1 N i := by
  unfold lawL1
  rw [dec_iff (p := ((i + 1 : Nat) : Int) < ((N / (i + 1) : Nat) : Int)) (q := i + 1 < N / (i + 1)) (by omega), dec_iff (p := ((Nat.gcd (i + 1) (N / (i + 1)) : Nat) : Int) = 1) (q := Nat.gcd (i + 1) (N / (i + 1)) = 1) (by omega), dec_iff (p := (N : Int) % 2 = 1) (q := N % 2 = 1) (by omega), Bool.and_assoc, Bool.and_assoc]
theorem leg2_test (N i : Nat) : (decide ((N : Int) % 4 = 0) && (decide ((N : Int) / 2 % ((i + 1 : Nat) : Int) = 0) && (decide (((i + 1 : Nat) : Int) < ((N / 2 / (i + 1) : Nat) : Int)) && decide (((Nat.gcd (i + 1) (N / 2 / (i + 1)) : Nat) : Int) = 1)))) = lawL2 N i := by
  unfold lawL2
  have e : (N : Int) / 2 = ((N / 2 : Nat) : Int) := by rw [Int.natCast_ediv]; rfl
  rw [e, dec_mod, dec_iff (p := ((i + 1 : Nat) : Int) < ((N / 2 / (i + 1) : Nat) : Int)) (q := i + 1 < N / 2 / (i + 1)) (by omega), dec_iff (p := ((Nat.gcd (i + 1) (N / 2 / (i + 1)) : Nat) : Int) = 1) (q := Nat.gcd (i + 1) (N / 2 / (i + 1)) = 1) (by omega), dec_iff (p := (N : Int) % 4 = 0) (q := N % 4 = 0) (by omega), Bool.and_assoc, Bool.and_assoc]
end Sq

namespace Sq
open PySem PySem.Spec PyProof.Rows L2 Evl
/-! ### fields of the answers -/
theorem lk_T (v : V) : List.lookup ("triples" : Str) ([("triples", v)] : List (Str × V)) = some v := by simp [List.lookup]
theorem lk_P (v : V) : List.lookup ("prime" : Str) ([("prime", v)] : List (Str × V)) = some v := by simp [List.lookup]
theorem lk_TS (v : V) : List.lookup ("shows" : Str) ([("triples", v)] : List (Str × V)) = none := by
  have h : (("shows" : Str) == "triples") = false := by decide +kernel
  simp [List.lookup, h]
theorem lk_PS (v : V) : List.lookup ("shows" : Str) ([("prime", v)] : List (Str × V)) = none := by
  have h : (("shows" : Str) == "prime") = false := by decide +kernel
  simp [List.lookup, h]
section
variable {K : PySem.W.Frag} {σ : L2.St} {H : Hp} {te ta tb : TE} {C p l : Addr} {xs : List V} {ds : List PyData} {v : V}
theorem ed_fldL (h : Ev te σ H (.ref p)) (c : Cls K C) (n : NoAttr K C "triples") (hL : HasL H C p l xs) (hv : DVs K H xs ds) : EvD K (tFld K te "triples") σ H (.list ds) := fun H1 a _ q =>
  h H1 a _ fun H2 e2 => by
    obtain ⟨dx, h1, h2⟩ := hL.ex (a.trans e2)
    exact ⟨p, C, dx, _, _, rfl, h1, c, n, lk_T _, q _ H2 e2 (.lst (sq_of h2) (hv.ex (a.trans e2)))⟩
theorem ev_fldL (h : Ev te σ H (.ref p)) (c : Cls K C) (n : NoAttr K C "triples") (hL : HasL H C p l xs) : Ev (tFld K te "triples") σ H (.ref l) := fun H1 a _ q =>
  h H1 a _ fun H2 e2 => by
    obtain ⟨dx, h1, h2⟩ := hL.ex (a.trans e2)
    exact ⟨p, C, dx, _, _, rfl, h1, c, n, lk_T _, q H2 e2⟩
theorem ev_fldB (h : Ev te σ H (.ref p)) (c : Cls K C) (n : NoAttr K C "prime") (hB : HasB H C p v) : Ev (tFld K te "prime") σ H v := fun H1 a _ q =>
  h H1 a _ fun H2 e2 => by
    obtain ⟨dx, h1⟩ := hB.ex (a.trans e2)
    exact ⟨p, C, dx, _, _, rfl, h1, c, n, lk_P _, q H2 e2⟩
theorem ni_vals {ns : List Nat} {vs : List V} (h : DVs K H vs (ns.map ni)) : vs = ns.map fun p : Nat => V.int (p : Int) := by
  induction ns generalizing vs with
  | nil => cases h; rfl
  | cons n ns ih =>
    cases h with
    | cons a b => rw [dvi a, ih b]; rfl
theorem ints_el {ns : List Nat} (h : EvLD K te σ H (ns.map ni)) : EvL te σ H (ns.map fun p : Nat => V.int (p : Int)) := fun H1 a _ q =>
  h H1 a _ fun p vs H2 np e hp hv => by
    rw [ni_vals hv] at hp
    exact q p H2 np e hp
theorem inV_bars (N : Nat) (b : Int) : inV (.int b) ((barring N).map fun p : Nat => V.int (p : Int)) = barsI N b := by
  unfold inV barsI
  rw [List.any_map]
  by_cases h0 : 0 ≤ b
  · obtain ⟨B, rfl⟩ := Int.eq_ofNat_of_zero_le h0
    rw [decide_eq_true h0, Bool.true_and, Int.toNat_natCast]
    by_cases hm : B ∈ barring N
    · rw [decide_eq_true hm, List.any_eq_true]
      exact ⟨B, hm, by show ((B : Int) == (B : Int)) = true; simp⟩
    · rw [decide_eq_false hm, List.any_eq_false]
      intro x hx z
      have z : ((x : Int) == (B : Int)) = true := z
      have z := beq_iff_eq.mp z
      exact hm (by rw [show B = x by omega]; exact hx)
  · rw [decide_eq_false h0, Bool.false_and, List.any_eq_false]
    intro x hx z
    have z : ((x : Int) == b) = true := z
    have z := beq_iff_eq.mp z
    omega
theorem flat_ints (ns : List Nat) : (ns.map fun p : Nat => V.int (p : Int)).all flatV = true := by
  rw [List.all_map]
  exact List.all_eq_true.mpr fun _ _ => rfl
end
/-! ### the answers -/
inductive Ans
  | lon (ps : List NN)
  | bar (b : Int)
  | leg (ps : List NN)
  | hal
def Ans.ix : Ans → Nat
  | .lon _ => 0
  | .bar _ => 1
  | .leg _ => 2
  | .hal => 3
noncomputable def Ans.shows (N : Nat) : Ans → Bool
  | .lon ps => decide (lonT' N ≠ []) && decide (ps = lonT' N)
  | .bar b => barsI N b
  | .leg ps => decide (legT' N ≠ []) && decide (ps = legT' N)
  | .hal => decide (N % 4 = 2)
def Ans.At (K : PySem.W.Frag) (Cs : Nat → Addr) (H : Hp) (p l : Addr) (xs : List V) : Ans → Prop
  | .lon ps => HasL H (Cs 0) p l xs ∧ DVs K H xs (ps.map tn) ∧ AllP ps
  | .bar b => HasB H (Cs 1) p (.int b)
  | .leg ps => HasL H (Cs 2) p l xs ∧ DVs K H xs (ps.map tn) ∧ AllP ps
  | .hal => Has0 H (Cs 3) p
theorem Ans.At.ex {K : PySem.W.Frag} {Cs : Nat → Addr} {H H' : Hp} {p l : Addr} {xs : List V} : ∀ {a : Ans}, a.At K Cs H p l xs → Ex H H' → a.At K Cs H' p l xs
  | .lon _, h, e => ⟨h.1.ex e, h.2.1.ex e, h.2.2⟩
  | .bar _, h, e => HasB.ex h e
  | .leg _, h, e => ⟨h.1.ex e, h.2.1.ex e, h.2.2⟩
  | .hal, h, e => Has0.ex h e
/-- what the program may answer -/
def Said (N : Nat) (g : Nat) : Ans → Prop
  | .lon ps => g = 0 ∧ ps = lonT' N ∧ lonT' N ≠ [] ∧ barring N = []
  | .bar b => g = 0 ∧ barsI N b = true
  | .leg ps => g = 2 ∧ ps = legT' N ∧ legT' N ≠ [] ∧ N % 4 ≠ 2
  | .hal => g = 2 ∧ N % 4 = 2
theorem Said.shows {N g : Nat} : ∀ {a : Ans}, Said N g a → a.shows N = true
  | .lon ps, h => by
    show (decide (lonT' N ≠ []) && decide (ps = lonT' N)) = true
    rw [decide_eq_true h.2.2.1, decide_eq_true h.2.1]; rfl
  | .bar b, h => h.2
  | .leg ps, h => by
    show (decide (legT' N ≠ []) && decide (ps = legT' N)) = true
    rw [decide_eq_true h.2.2.1, decide_eq_true h.2.1]; rfl
  | .hal, h => decide_eq_true h.2
theorem lon_due (ps : List NN) (N : Nat) : (decide (ps ≠ []) && decide (ps = lonT' N)) = (decide (lonT' N ≠ []) && decide (ps = lonT' N)) := by
  by_cases h : ps = lonT' N
  · rw [h]
  · rw [decide_eq_false h, Bool.and_false, Bool.and_false]
theorem leg_due (ps : List NN) (N : Nat) : (decide (ps ≠ []) && decide (ps = legT' N)) = (decide (legT' N ≠ []) && decide (ps = legT' N)) := by
  by_cases h : ps = legT' N
  · rw [h]
  · rw [decide_eq_false h, Bool.and_false, Bool.and_false]
/-- no tuple -/
def NoTup : HO → Prop
  | .tup _ => False
  | .frz _ (.tup _) => False
  | _ => True
/-- longest, leg -/
def spAsk (K : PySem.W.Frag) (Cs : Nat → Addr) (g : Nat) : Sp := fun vs H Q _ => ∃ N : Nat, vs = [.int N] ∧ Side N ∧ ∀ (a : Ans) p l xs H', Said N g a → H p = none → H l = none → Ex H H' → a.At K Cs H' p l xs → (∃ o, H' l = some o ∧ NoTup o) → Q (.ref p) H'
end Sq
namespace Sq
open PySem
def Csf (cL cB cG cH : Addr) : Nat → Addr
  | 0 => cL
  | 1 => cB
  | 2 => cG
  | _ => cH
open L2
def R__check_side : Rel := fun ds d => ∃ N : Nat, ds = [.int N] ∧ Side N ∧ d = .none
end Sq

namespace Sq
open PySem PySem.Spec PyProof.Rows L2 Evl
section
variable {K : PySem.W.Frag} {σ : L2.St} {H H0 : Hp} {te ta tb tn : TE} {C C2 p l : Addr} {xs : List V} {ds es : List PyData} {v : V} {ps : List NN} {N : Nat} {E : XK} {D : Ends} {tz : TS} {tr : Nat → List NN}
theorem ev_showsL (h : Ev te σ H (.ref p)) (hn : Ev tn σ H (.int N)) (hN : Side N) (hP : AllP ps) (hL : HasL H C p l xs) (hv : DVs K H xs (ps.map Sq.tn)) : Ev (tMeth C "shows" (spShowsL K C tr) [] E te (tCons tn tNil)) σ H (.bl (decide (tr N ≠ []) && decide (ps = tr N))) := fun H1 a _ q =>
  h H1 a _ fun H2 e2 => by
    obtain ⟨dx, h1, _⟩ := hL.ex (a.trans e2)
    exact ⟨p, dx, _, rfl, h1, lk_TS _, hn H2 (a.trans e2) _ fun H3 e3 => ⟨p, l, xs, ps, N, rfl, hN, hP, hL.ex ((a.trans e2).trans e3), hv.ex ((a.trans e2).trans e3), fun H4 e4 => q H4 ((e2.trans e3).trans e4)⟩⟩
theorem ev_showsB {b : Int} (h : Ev te σ H (.ref p)) (hn : Ev tn σ H (.int N)) (hN : Side N) (hB : HasB H C p (.int b)) : Ev (tMeth C "shows" (spShowsB C) [] E te (tCons tn tNil)) σ H (.bl (barsI N b)) := fun H1 a _ q =>
  h H1 a _ fun H2 e2 => by
    obtain ⟨dx, h1⟩ := hB.ex (a.trans e2)
    exact ⟨p, dx, _, rfl, h1, lk_PS _, hn H2 (a.trans e2) _ fun H3 e3 => ⟨p, b, N, rfl, hN, hB.ex ((a.trans e2).trans e3), fun H4 e4 => q H4 ((e2.trans e3).trans e4)⟩⟩
theorem ev_shows0 (h : Ev te σ H (.ref p)) (hn : Ev tn σ H (.int N)) (hN : Side N) (h0 : Has0 H C p) : Ev (tMeth C "shows" (spShows0 C) [] E te (tCons tn tNil)) σ H (.bl (decide (N % 4 = 2))) := fun H1 a _ q =>
  h H1 a _ fun H2 e2 => by
    obtain ⟨dx, h1⟩ := h0.ex (a.trans e2)
    exact ⟨p, dx, _, rfl, h1, rfl, hn H2 (a.trans e2) _ fun H3 e3 => ⟨p, N, rfl, hN, h0.ex ((a.trans e2).trans e3), fun H4 e4 => q H4 ((e2.trans e3).trans e4)⟩⟩
theorem ev_mkL (h : EvML K C te σ H (ps.map Sq.tn)) (hn : Ev tn σ H (.int N)) (hN : Side N) (hP : AllP ps) : Ev (tMeth C "shows" (spShowsL K C tr) [] E te (tCons tn tNil)) σ H (.bl (decide (tr N ≠ []) && decide (ps = tr N))) := fun H1 a _ q =>
  h H1 a _ fun p l xs H2 np nl e2 hL hv => by
    obtain ⟨dx, h1, _⟩ := id hL
    exact ⟨p, dx, _, rfl, h1, lk_TS _, hn H2 (a.trans e2) _ fun H3 e3 => ⟨p, l, xs, ps, N, rfl, hN, hP, hL.ex e3, hv.ex e3, fun H4 e4 => q H4 ((e2.trans e3).trans e4)⟩⟩
theorem ev_mkB {b : Int} (h : EvMB C te σ H (.int b)) (hn : Ev tn σ H (.int N)) (hN : Side N) : Ev (tMeth C "shows" (spShowsB C) [] E te (tCons tn tNil)) σ H (.bl (barsI N b)) := fun H1 a _ q =>
  h H1 a _ fun p H2 np e2 hB => by
    obtain ⟨dx, h1⟩ := id hB
    exact ⟨p, dx, _, rfl, h1, lk_PS _, hn H2 (a.trans e2) _ fun H3 e3 => ⟨p, b, N, rfl, hN, hB.ex e3, fun H4 e4 => q H4 ((e2.trans e3).trans e4)⟩⟩
theorem ev_mk0 (h : EvM0 C te σ H) (hn : Ev tn σ H (.int N)) (hN : Side N) : Ev (tMeth C "shows" (spShows0 C) [] E te (tCons tn tNil)) σ H (.bl (decide (N % 4 = 2))) := fun H1 a _ q =>
  h H1 a _ fun p H2 np e2 h0 => by
    obtain ⟨dx, h1⟩ := id h0
    exact ⟨p, dx, _, rfl, h1, rfl, hn H2 (a.trans e2) _ fun H3 e3 => ⟨p, N, rfl, hN, h0.ex e3, fun H4 e4 => q H4 ((e2.trans e3).trans e4)⟩⟩
/-- x = [C(..), C2(..)] -/
theorem q_asgMM {i : Nat} (h1 : EvML K C ta σ H ds) (h2 : EvML K C2 tb σ H ds) (k : ∀ p l xs p2 l2 xs2 al H1, H l = none → H l2 = none → H al = none → Ex H H1 → HasL H1 C p l xs → HasL H1 C2 p2 l2 xs2 → DVs K H1 xs ds → DVs K H1 xs2 ds → H1 al = some (.lst [.ref p, .ref p2]) → tz D (σ.set i (some (.ref al))) H1) :
    tSeq (tAsg (tLst (tCons ta (tCons tb tNil))) (gName i)) tz D σ H :=
  h1 H (Ex.refl H) _ fun p l xs H2 np nl e2 hL hv => h2 H2 e2 _ fun p2 l2 xs2 H3 np2 nl2 e3 hL2 hv2 => ⟨by show 2 ≤ sizeLine; decide, fun al na =>
    k p l xs p2 l2 xs2 al _ nl (fresh_back e2 nl2) (fresh_back (e2.trans e3) na) ((e2.trans e3).trans (Ex.new na)) ((hL.ex e3).ex (Ex.new na)) (hL2.ex (Ex.new na)) ((hv.ex e3).ex (Ex.new na)) (hv2.ex (Ex.new na)) upd_same⟩
/-- a new list's append of a tuple of numbers: what is told of the others stays -/
theorem HasL.app {q l0 : Addr} {ys zs : List V} (h : HasL H C p l xs) (hq : H q = some (.lst ys)) (hne : l ≠ q) : HasL (upd H q (.lst zs)) C p l xs := by
  obtain ⟨dx, a, b⟩ := h
  exact ⟨dx, by rw [upd_ne (ne_of a hq (by intro z; cases z))]; exact a, by rw [upd_ne hne]; exact b⟩
theorem q_appI {q : Addr} {ys : List V} {d : PyData} (hq : H q = some (.lst ys)) (hz : ys.length < 100000) (ha : Ev ta σ H (.ref q)) (he : EvD K te σ H d) (k : ∀ w H1, Ex H H1 → DV K H1 w d → tz D σ (upd H1 q (.lst (ys ++ [w])))) :
    tSeq (tDrop (tBM K "list" rAppend ta (tCons te tNil))) tz D σ H :=
  ha H (Ex.refl H) _ fun H2 e2 => ⟨Or.inl ⟨rfl, ys, sq_of (e2 _ _ hq)⟩, he H2 e2 _ fun w H3 e3 hw => ⟨q, ys, w, rfl, rfl, e3 _ _ (e2 _ _ hq), sz_lt hz, k w H3 (e2.trans e3) hw⟩⟩
/-- a, b = f(..), g(..), two new lists -/
theorem q_un2LL {i j : Nat} (h1 : EvLD K ta σ H ds) (h2 : EvLD K tb σ H es) (k : ∀ p vs q ws H1, H p = none → H q = none → Ex H H1 → H1 p = some (.lst vs) → H1 q = some (.lst ws) → DVs K H1 vs ds → DVs K H1 ws es → tz D ((σ.set i (some (.ref p))).set j (some (.ref q))) H1) :
    tSeq (tAsg (tTup (tCons ta (tCons tb tNil))) (gTup K 2 (gCons (gName i) (gCons (gName j) gNil)))) tz D σ H :=
  h1 H (Ex.refl H) _ fun p vs H2 np e2 hp hv => h2 H2 e2 _ fun q ws H3 nq e3 hq hw => ⟨by show 2 ≤ sizeLine; decide, fun t nt =>
    ⟨t, _, rfl, st_of upd_same, rfl, _, _, rfl, _, _, rfl, rfl, k p vs q ws _ np (fresh_back e2 nq) ((e2.trans e3).trans (Ex.new nt)) (Ex.new nt _ _ (e3 _ _ hp)) (Ex.new nt _ _ hq) ((hv.ex e3).ex (Ex.new nt)) (hw.ex (Ex.new nt))⟩⟩
/-- for x in (a, b, ..): the values themselves -/
theorem s_forTV {tu : TS} {i : Nat} {vs : List V} (h : EvU te σ H vs) (Pv : Nat → L2.St → Hp → Prop) (h0 : ∀ H1, Ex H H1 → Pv 0 σ H1) (hE : ∀ k σ' H', Pv k σ' H' → Ex H H')
    (hs : ∀ k w σ' H', vs[k]? = some w → Pv k σ' H' → tu { D with nx := fun σ2 H2 => Pv (k + 1) σ2 H2 ∧ Ex H' H2, ct := fun σ2 H2 => Pv (k + 1) σ2 H2 ∧ Ex H' H2, bk := D.nx } (σ'.set i (some w)) H') (hd : ∀ σ' H', Pv vs.length σ' H' → D.nx σ' H') : tFor (iTup K te) (gName i) tu D σ H :=
  h H (Ex.refl H) _ fun p H1 np e hp => by
    refine ⟨p, rfl, ⟨vs, st_of hp⟩, fun k m σ' H' => m = vs.length - k ∧ k ≤ vs.length ∧ Pv k σ' H' ∧ Ex H1 H', ⟨vs.length, by simp, Nat.zero_le _, h0 H1 e, Ex.refl _⟩, ?_⟩
    rintro k m σ' H' ⟨rfl, hk, P, e1⟩
    have hS := ex_t e1 (st_of (K := K) hp)
    by_cases hlt : k < vs.length
    · refine .inr ⟨⟨vs, vs[k], hS, List.getElem?_eq_getElem hlt⟩, fun σ2 H2 => Pv (k + 1) σ2 H2 ∧ Ex H' H2, fun σ2 H2 P2 => ⟨vs.length - (k + 1), by omega, rfl, hlt, P2.1, e1.trans P2.2⟩, fun w H2 hy => ?_⟩
      obtain ⟨hy1, hy2⟩ := hy
      subst hy1
      exact hs k w σ' _ (hy2 vs hS) P
    · have ek : k = vs.length := by omega
      subst ek
      exact .inl ⟨⟨vs, hS, Nat.le_refl _⟩, hd σ' H' P⟩
theorem q_forTV {tu : TS} {i : Nat} {vs : List V} (h : EvU te σ H vs) (Pv : Nat → L2.St → Hp → Prop) (h0 : ∀ H1, Ex H H1 → Pv 0 σ H1) (hE : ∀ k σ' H', Pv k σ' H' → Ex H H')
    (hs : ∀ k w σ' H', vs[k]? = some w → Pv k σ' H' → tu { D with nx := fun σ2 H2 => Pv (k + 1) σ2 H2 ∧ Ex H' H2, ct := fun σ2 H2 => Pv (k + 1) σ2 H2 ∧ Ex H' H2, bk := tz D } (σ'.set i (some w)) H') (hd : ∀ σ' H', Pv vs.length σ' H' → tz D σ' H') : tSeq (tFor (iTup K te) (gName i) tu) tz D σ H :=
  s_forTV (D := { D with nx := tz D }) h Pv h0 hE hs hd
theorem eld_listRg {a b : Int} (ha : Ev ta σ H (.int a)) (hb : Ev tb σ H (.int b)) (h : RgOk a b) : EvLD K (tLstRg (tRg2 ta tb)) σ H ((List.range (b - a).toNat).map fun i : Nat => .int (a + (i : Int))) := fun H1 e Q q =>
  ha H1 e _ fun H2 e2 => hb H2 (e.trans e2) _ fun H3 e3 => ⟨a, b, rfl, rfl, h, fun l nl => q l (rgV a b) _ (fresh_back (e2.trans e3) nl) ((e2.trans e3).trans (Ex.new nl)) upd_same (DVs.of_map fun i _ => .int _)⟩
end
theorem dvs4 {K : PySem.W.Frag} {H : Hp} {vs : List V} {d1 d2 d3 d4 : PyData} (h : DVs K H vs [d1, d2, d3, d4]) : ∃ v w x y, vs = [v, w, x, y] ∧ DV K H v d1 ∧ DV K H w d2 ∧ DV K H x d3 ∧ DV K H y d4 := by
  cases h with
  | cons a h =>
    cases h with
    | cons b h =>
      obtain ⟨x, y, rfl, c, d⟩ := dvs2 h
      exact ⟨_, _, x, y, rfl, a, b, c, d⟩
section
variable {K : PySem.W.Frag} {σ : L2.St} {H : Hp} {te tx : TE} {C : Addr} {v : V} {d : PyData} {D : Ends} {tz : TS}
theorem q_parMB {i j : Nat} (h : EvMB C te σ H v) (h2 : EvD K tx σ H d) (k : ∀ p w H1, H p = none → Ex H H1 → HasB H1 C p v → DV K H1 w d → tz D ((σ.set i (some (.ref p))).set j (some w)) H1) : tSeq (tPar i j (tCons te (tCons tx tNil))) tz D σ H :=
  h H (Ex.refl H) _ fun p H1 np e hB => h2 H1 e _ fun w H2 e2 hw => ⟨_, _, rfl, k p w H2 np (e.trans e2) (hB.ex e2) hw⟩
end
theorem hint_tn (ps : List NN) : ∀ e ∈ ps.map tn, IntD e := fun e he => by
  obtain ⟨p, _, rfl⟩ := List.mem_map.mp he
  exact intD_td _
/-! ### some written numbers -/
theorem prime_by (r p : Nat) (hp : 2 ≤ p) (h1 : r * r ≤ p) (h2 : p < (r + 1) * (r + 1)) (h : tryPrime r p = true) : Prime p := (tryPrime_iff hp h1 h2).mp h
theorem bars_yes {N P : Nat} (hN : 0 < N) (hp : Prime P) (hd : P ∣ N) (h : P = 2 ∨ P % 4 = 3) : barsI N (P : Int) = true := by
  unfold barsI
  rw [decide_eq_true (show (0 : Int) ≤ (P : Int) by omega), Int.toNat_natCast, Bool.true_and]
  exact decide_eq_true ((mem_barring hN).mpr ⟨⟨hp, hd⟩, h⟩)
theorem bars_no {N P : Nat} (hN : 0 < N) (h : ¬ (Prime P ∧ (P = 2 ∨ P % 4 = 3))) : barsI N (P : Int) = false := by
  unfold barsI
  rw [decide_eq_true (show (0 : Int) ≤ (P : Int) by omega), Int.toNat_natCast, Bool.true_and]
  exact decide_eq_false fun hm => by
    have := (mem_barring hN).mp hm
    exact h ⟨this.1.1, this.2⟩
theorem prime2 : Prime 2 := prime_by 1 2 (by decide) (by decide) (by decide) (by decide)
theorem prime3 : Prime 3 := prime_by 1 3 (by decide) (by decide) (by decide) (by decide)
theorem isq1 : isq 1 = 1 := isq_of (by decide) (by decide)
theorem isq2 : isq 2 = 1 := isq_of (by decide) (by decide)
theorem isq3 : isq 3 = 1 := isq_of (by decide) (by decide)
theorem isq4 : isq 4 = 2 := isq_of (by decide) (by decide)
theorem lonN5 : lonN 5 = [(2, 1)] := by
  unfold lonN
  rw [show 5 / 2 = 2 from rfl, isq2, few_yes (k := 0)]
  · show [lonC 5 0] = _
    unfold lonC
    rw [show 5 - (0 + 1) * (0 + 1) = 4 from rfl, isq4]
  · unfold lonC
    rw [show 5 - (0 + 1) * (0 + 1) = 4 from rfl, isq4]
    decide
theorem legN4 : legN 4 = [(2, 1)] := by
  unfold legN legR
  rw [if_pos (by decide), show 4 / 2 = 2 from rfl, isq2, few_yes (k := 0)]
  · rfl
  · decide
theorem lonT5 : lonT' 5 = [(2, 1)] := by unfold lonT'; rw [lonN5, List.mergeSort_singleton]
theorem legT4 : legT' 4 = [(2, 1)] := by unfold legT'; rw [legN4, List.mergeSort_singleton]
def R__law_lists_right : Rel := fun ds d => ∃ (N : Nat) (ps : List NN), ds = [.int N, .list (ps.map tn), .list ((lonT' N).map tn), .list ((legT' N).map tn)] ∧ Side N ∧ AllP ps ∧ ps.length ≤ 5000 ∧ d = .bool true
theorem tn345 : tn (2, 1) = .tuple [.int 3, .int 4, .int 5] := rfl
theorem pair21 : pairN 2 1 = true := by decide
def R_law4 : Rel := fun ds d => ∃ ns : List Int, ds = [.list (ns.map .int)] ∧ ns.length ≤ 63 ∧ (∀ c ∈ ns, Sm 1048577 c) ∧ d = .bool true
end Sq
namespace Sq
open PySem PySem.Spec PyProof.Rows L2 Evl
section
variable {K : PySem.W.Frag} {σ : L2.St} {H : Hp} {ta tb : TE} {E : XK} {b : Bool}
theorem ed_says (ha : Ev ta σ H (.bl b)) (hb : Ev tb σ H (.bl b)) : EvD K (tCall (spF K R__law_says) [] E (tCons ta (tCons tb tNil))) σ H (.bool true) :=
  ed_call (eda_cons (ed_bl ha) (eda_cons (ed_bl hb) eda_nil)) ⟨b, b, rfl, by cases b <;> rfl⟩
theorem et_says (ha : Ev ta σ H (.bl b)) (hb : Ev tb σ H (.bl b)) : EvT (tNot (tB (tCall (spF K R__law_says) [] E (tCons ta (tCons tb tNil))))) σ H false :=
  et_is (et_not (et_B (ev_blD (K := K) (b := true) (ed_says ha hb)))) rfl
end
end Sq
namespace Sq
open PySem PySem.Spec PyProof.Rows L2 Evl
theorem e345 {K : PySem.W.Frag} {σ : L2.St} {H : Hp} : EvD K (tTup (tCons (tC (.int 3)) (tCons (tC (.int 4)) (tCons (tC (.int 5)) tNil)))) σ H (tn (2, 1)) := by
  rw [tn345]
  exact ed_tup (eda_cons (ed_int ev_c) (eda_cons (ed_int ev_c) (eda_cons (ed_int ev_c) eda_nil))) (by show 3 ≤ 100000; decide)
def six (ps : List NN) : List (List NN) := [ps, ps.reverse, ps.drop 1, ps ++ ps.take 1, ps ++ [(2, 1)], ps.take 1]
theorem six_ok {ps : List NN} (hP : AllP ps) (hl : ps.length ≤ 1000) : ∀ qs ∈ six ps, AllP qs ∧ qs.length ≤ 5000 := by
  intro qs h
  unfold six at h
  simp only [List.mem_cons, List.not_mem_nil, or_false] at h
  have ht : AllP (ps.take 1) := fun x hx => hP x (List.mem_of_mem_take hx)
  have hlt : (ps.take 1).length ≤ 1 := by rw [List.length_take]; omega
  rcases h with rfl | rfl | rfl | rfl | rfl | rfl
  · exact ⟨hP, by omega⟩
  · exact ⟨fun x hx => hP x (List.mem_reverse.mp hx), by rw [List.length_reverse]; omega⟩
  · exact ⟨fun x hx => hP x (List.mem_of_mem_drop hx), by rw [List.length_drop]; omega⟩
  · refine ⟨fun x hx => ?_, by rw [List.length_append]; omega⟩
    rcases List.mem_append.mp hx with z | z
    · exact hP x z
    · exact ht x z
  · refine ⟨fun x hx => ?_, by rw [List.length_append, List.length_singleton]; omega⟩
    rcases List.mem_append.mp hx with z | z
    · exact hP x z
    · rw [List.mem_singleton.mp z]; exact pair21
  · exact ⟨ht, by omega⟩
theorem cut_1 (ps : List NN) : cutD (ps.map tn) (some 1) none = (ps.drop 1).map tn := by
  unfold cutD
  exact (cut_from (ps.map tn) 1).trans (List.map_drop ..).symm
theorem cut_t (ps : List NN) : cutD (ps.map tn) none (some 1) = (ps.take 1).map tn := by
  unfold cutD
  exact (cut_to (ps.map tn) 1).trans (List.map_take ..).symm
def boolF : PyData → Bool
  | .bool b => b
  | _ => false
theorem step3 {len : Nat} (hl : len ≤ 63) {k : Nat} (h : (k : Int) * (1 + (len : Int) / 3) < len) : ∃ m : Nat, (0 : Int) + (k : Int) * (1 + (len : Int) / 3) = (m : Int) ∧ m < len := by
  have h0 : 0 ≤ (k : Int) * (1 + (len : Int) / 3) := Int.mul_nonneg (by omega) (by omega)
  exact ⟨((0 : Int) + (k : Int) * (1 + (len : Int) / 3)).toNat, by omega, by omega⟩
end Sq

namespace Sq
open PySem PySem.Spec PyProof.Rows L2 Evl
/-! ### data behind a heap without one object that is no tuple and no list of it -/
section
variable {K : PySem.W.Frag} {H H' : Hp} {d l : Addr} {kvs : List (Key × V)}
theorem sqT_ersD {a : Addr} {xs : List V} (hl : H d = some (.dK kvs)) (h : SqT K H a xs) : SqT K (ers d H) a xs := by
  rcases h with (h | ⟨o, h⟩) | h
  · exact .inl (.inl (by rw [ers_ne (ne_of h hl (by intro z; cases z))]; exact h))
  · exact .inl (.inr ⟨o, by rw [ers_ne (ne_of h hl (by intro z; cases z))]; exact h⟩)
  · exact .inr h
theorem sqL_ersD {a : Addr} {xs : List V} (hl : H d = some (.dK kvs)) (h : SqL K H a xs) : SqL K (ers d H) a xs := by
  rcases h with (h | ⟨o, h⟩) | h
  · exact .inl (.inl (by rw [ers_ne (ne_of h hl (by intro z; cases z))]; exact h))
  · exact .inl (.inr ⟨o, by rw [ers_ne (ne_of h hl (by intro z; cases z))]; exact h⟩)
  · exact .inr h
mutual
theorem dv_ersD (hl : H d = some (.dK kvs)) : ∀ (D : PyData) (v : V), D.canLay0 = true → DV K H v D → DV K (ers d H) v D
  | .none, _, _, h => by cases h; exact .non
  | .bool _, _, _, h => by cases h; exact .bl _
  | .int _, _, _, h => by cases h; exact .int _
  | .str _, _, _, h => by cases h; exact .str _
  | .list ds, _, c, h => by
    cases h with
    | lst a b => exact .lst (sqL_ersD hl a) (dvs_ersD hl ds _ (by simpa [PyData.canLay0] using c) b)
  | .tuple ds, _, c, h => by
    cases h with
    | tup a b => exact .tup (sqT_ersD hl a) (dvs_ersD hl ds _ (by simpa [PyData.canLay0] using c) b)
  | .dict _, _, c, h => by simp [PyData.canLay0] at c
theorem dvs_ersD (hl : H d = some (.dK kvs)) : ∀ (ds : List PyData) (vs : List V), PyData.canLayAll0 ds = true → DVs K H vs ds → DVs K (ers d H) vs ds
  | [], _, _, h => by cases h; exact .nil
  | D :: ds, _, c, h => by
    have c' : D.canLay0 = true ∧ PyData.canLayAll0 ds = true := by simpa [PyData.canLayAll0] using c
    cases h with
    | cons a b => exact .cons (dv_ersD hl D _ c'.1 a) (dvs_ersD hl ds _ c'.2 b)
end
theorem sqT_ersN {o : HO} (ho : NoTup o) {a : Addr} {xs : List V} (hl : H l = some o) (h : SqT K H a xs) : SqT K (ers l H) a xs := by
  rcases h with (h | ⟨q, h⟩) | h
  · have hne : a ≠ l := fun z => by
      rw [z, hl] at h
      cases Option.some.inj h
      exact ho
    exact .inl (.inl (by rw [ers_ne hne]; exact h))
  · have hne : a ≠ l := fun z => by
      rw [z, hl] at h
      cases Option.some.inj h
      exact ho
    exact .inl (.inr ⟨q, by rw [ers_ne hne]; exact h⟩)
  · exact .inr h
noncomputable def knownD (N : Nat) : PyData := .tuple [.list ((lonT' N).map tn), .list ((legT' N).map tn)]
theorem known_lay (N : Nat) : (knownD N).canLay0 = true := by
  have h1 := (depth_tns (lonT' N)).1
  have h2 := (depth_tns (legT' N)).1
  simp [knownD, PyData.canLay0, PyData.canLayAll0, h1, h2]
/-- the dict of what is known; what stands in it stands apart from l -/
def DK (K : PySem.W.Frag) (H : Hp) (d : Addr) (c : Nat) (l : Addr) : Prop := ∃ kvs : List (Key × V), H d = some (.dK kvs) ∧ kvs.length ≤ c ∧ ∀ (k : Int) v, valV kvs (Sum.inl k) = some v → ∃ N : Nat, k = (N : Int) ∧ DV K (ers l H) v (knownD N)
theorem ers_mono {a : Addr} (e : Ex H H') : Ex (ers a H) (ers a H') := ers_ex e
theorem DK.ex {c : Nat} (h : DK K H d c l) (e : Ex H H') : DK K H' d c l := by
  obtain ⟨kvs, h1, h2, h3⟩ := h
  exact ⟨kvs, e _ _ h1, h2, fun k v hv => by
    obtain ⟨N, e1, e2⟩ := h3 k v hv
    exact ⟨N, e1, e2.ex (ers_ex e)⟩⟩
theorem DK.up {c c' : Nat} (h : DK K H d c l) (hc : c ≤ c') : DK K H d c' l := by
  obtain ⟨kvs, h1, h2, h3⟩ := h
  exact ⟨kvs, h1, Nat.le_trans h2 hc, h3⟩
/-- apart from a new object -/
theorem DK.apart {c : Nat} (h : DK K H d c d) (e : Ex H H') (hl : H l = none) : DK K H' d c l := by
  obtain ⟨kvs, h1, h2, h3⟩ := h
  refine ⟨kvs, e _ _ h1, h2, fun k v hv => ?_⟩
  obtain ⟨N, e1, e2⟩ := h3 k v hv
  refine ⟨N, e1, e2.ex fun a o ha => ?_⟩
  have ha' := ers_in d H a o ha
  rw [ers_ne fun z => by rw [z, hl] at ha'; cases ha']
  exact e _ _ ha'
theorem DK.back {c : Nat} (h : DK K H d c l) : DK K H d c d := by
  obtain ⟨kvs, h1, h2, h3⟩ := h
  refine ⟨kvs, h1, h2, fun k v hv => ?_⟩
  obtain ⟨N, e1, e2⟩ := h3 k v hv
  exact ⟨N, e1, dv_ersD h1 _ _ (known_lay N) (e2.ex (ers_in l H))⟩
theorem DK.mut {c : Nat} {o : HO} (h : DK K H d c l) (hne : d ≠ l) : DK K (upd H l o) d c l := by
  obtain ⟨kvs, h1, h2, h3⟩ := h
  refine ⟨kvs, by rw [upd_ne hne]; exact h1, h2, fun k v hv => ?_⟩
  rw [ers_upd]
  exact h3 k v hv
end
/-! ### isinstance of the answers -/
structure Kit (K : PySem.W.Frag) (Cs : Nat → Addr) (cA : Addr) : Prop where
  ins : ∀ i, i < 4 → Ins K (Cs i)
  kit : ∀ i j, i < 4 → j < 4 → PySem.W.kitOne K (.ref (Cs i)) (.ref (Cs j)) = some (decide (i = j))
  any : ∀ i, i < 4 → PySem.W.kitOne K (.ref (Cs i)) (.ref cA) = some true
theorem kit_same {K : PySem.W.Frag} {C : Addr} : PySem.W.kitOne K (.ref C) (.ref C) = some true := by
  unfold PySem.W.kitOne
  rw [if_pos (by simp)]
theorem kit_sub {K : PySem.W.Frag} {C D : Addr} {b : Bool} (hne : (C == D) = false) (hd : PySem.W.hasDictIn K D = true) (ht : PySem.W.typeIn K (.ref D) = some (.type "type")) (hs : PySem.W.subIn K (.ref C) (.ref D) = some b) : PySem.W.kitOne K (.ref C) (.ref D) = some b := by
  obtain ⟨cd, hc, _⟩ := PySem.W.any_some hd
  unfold PySem.W.kitOne
  have h1 : ¬ ((Value.ref C == Value.ref D) = true) := fun z => by
    have z := beq_iff_eq.mp z
    rw [Value.ref.inj z] at hne
    simp at hne
  rw [if_neg h1]
  show (if ((PySem.W.clsIn K D).isSome && PySem.W.typeIn K (.ref D) == some (.type "type")) = true then PySem.W.subIn K (.ref C) (.ref D) else none) = some b
  rw [if_pos (by rw [hc, ht]; simp), hs]
theorem Ans.ix_lt : ∀ a : Ans, a.ix < 4
  | .lon _ => (by decide : 0 < 4)
  | .bar _ => (by decide : 1 < 4)
  | .leg _ => (by decide : 2 < 4)
  | .hal => (by decide : 3 < 4)
theorem Ans.At.cls {K : PySem.W.Frag} {Cs : Nat → Addr} {H : Hp} {p l : Addr} {xs : List V} : ∀ {a : Ans}, a.At K Cs H p l xs → ∃ dx fs, H p = some (.ins (Cs a.ix) dx fs)
  | .lon _, h => by obtain ⟨⟨dx, h1, _⟩, _⟩ := h; exact ⟨dx, _, h1⟩
  | .bar _, h => by obtain ⟨dx, h1⟩ := h; exact ⟨dx, _, h1⟩
  | .leg _, h => by obtain ⟨⟨dx, h1, _⟩, _⟩ := h; exact ⟨dx, _, h1⟩
  | .hal, h => by obtain ⟨dx, h1⟩ := h; exact ⟨dx, _, h1⟩
section
variable {K : PySem.W.Frag} {Cs : Nat → Addr} {cA : Addr} {σ : L2.St} {H : Hp} {te tn : TE} {p l : Addr} {xs : List V} {a : Ans} {N : Nat}
theorem ev_isiC (T : Kit K Cs cA) {j : Nat} (hj : j < 4) (h : Ev te σ H (.ref p)) (hA : a.At K Cs H p l xs) : Ev (tCB (rIsi K) (tCons te (tCons (tC (.ref (Cs j))) tNil))) σ H (.bl (decide (a.ix = j))) := fun H1 e Q q =>
  h H1 e _ fun H2 e2 => by
    obtain ⟨dx, fs, h1⟩ := (hA.ex (e.trans e2)).cls
    exact ⟨_, _, _, _, _, rfl, .own _, (T.ins _ a.ix_lt).ty h1, T.kit _ _ a.ix_lt hj, q H2 e2⟩
theorem ev_isiA (T : Kit K Cs cA) (h : Ev te σ H (.ref p)) (hA : a.At K Cs H p l xs) : Ev (tCB (rIsi K) (tCons te (tCons (tC (.ref cA)) tNil))) σ H (.bl true) := fun H1 e Q q =>
  h H1 e _ fun H2 e2 => by
    obtain ⟨dx, fs, h1⟩ := (hA.ex (e.trans e2)).cls
    exact ⟨_, _, _, _, _, rfl, .own _, (T.ins _ a.ix_lt).ty h1, T.any _ a.ix_lt, q H2 e2⟩
/-- shows, whatever it is -/
noncomputable def spsA (K : PySem.W.Frag) (Cs : Nat → Addr) : Nat → Sp
  | 0 => spShowsL K (Cs 0) lonT'
  | 1 => spShowsB (Cs 1)
  | 2 => spShowsL K (Cs 2) legT'
  | _ => spShows0 (Cs 3)
theorem ev_showsA {E : XK} (h : Ev te σ H (.ref p)) (hn : Ev tn σ H (.int N)) (hN : Side N) (hA : a.At K Cs H p l xs) : Ev (fun σ H Q => ∃ i : Fin 4, tMeth (Cs i.val) "shows" (spsA K Cs i.val) [] E te (tCons tn tNil) σ H Q) σ H (.bl (a.shows N)) := fun H1 e Q q => by
  cases a with
  | lon ps => exact ⟨0, ev_showsL (K := K) (C := Cs 0) (tr := lonT') h hn hN hA.2.2 hA.1 hA.2.1 H1 e Q q⟩
  | bar b => exact ⟨1, ev_showsB (C := Cs 1) h hn hN hA H1 e Q q⟩
  | leg ps => exact ⟨2, ev_showsL (K := K) (C := Cs 2) (tr := legT') h hn hN hA.2.2 hA.1 hA.2.1 H1 e Q q⟩
  | hal => exact ⟨3, ev_shows0 (C := Cs 3) h hn hN hA H1 e Q q⟩
end
theorem Ans.At.ersD {K : PySem.W.Frag} {Cs : Nat → Addr} {H H' : Hp} {p l d : Addr} {xs : List V} {kvs : List (Key × V)} (hd : H d = some (.dK kvs)) (e : Ex (ers d H) H') : ∀ {a : Ans}, a.At K Cs H p l xs → a.At K Cs H' p l xs
  | .lon ps, h => by
    obtain ⟨⟨dx, h1, h2⟩, h3, h4⟩ := h
    exact ⟨⟨dx, e _ _ (by rw [ers_ne (ne_of h1 hd (by intro z; cases z))]; exact h1), e _ _ (by rw [ers_ne (ne_of h2 hd (by intro z; cases z))]; exact h2)⟩, (dvs_ersD hd _ _ (depth_tns ps).1 h3).ex e, h4⟩
  | .bar _, h => by
    obtain ⟨dx, h1⟩ := h
    exact ⟨dx, e _ _ (by rw [ers_ne (ne_of h1 hd (by intro z; cases z))]; exact h1)⟩
  | .leg ps, h => by
    obtain ⟨⟨dx, h1, h2⟩, h3, h4⟩ := h
    exact ⟨⟨dx, e _ _ (by rw [ers_ne (ne_of h1 hd (by intro z; cases z))]; exact h1), e _ _ (by rw [ers_ne (ne_of h2 hd (by intro z; cases z))]; exact h2)⟩, (dvs_ersD hd _ _ (depth_tns ps).1 h3).ex e, h4⟩
  | .hal, h => by
    obtain ⟨dx, h1⟩ := h
    exact ⟨dx, e _ _ (by rw [ers_ne (ne_of h1 hd (by intro z; cases z))]; exact h1)⟩
/-- what is due -/
def spDue (K : PySem.W.Frag) (Cs : Nat → Addr) : Sp := fun vs H Q _ => ∃ (d p l : Addr) (xs : List V) (N : Nat) (a : Ans) (c : Nat) (o : HO), vs = [.ref d, .int N, .ref p] ∧ Side N ∧ c ≤ 1000 ∧ d ≠ l ∧ H l = some o ∧ NoTup o ∧ DK K H d c l ∧ a.At K Cs H p l xs ∧
  ∀ H', Ex (ers d H) H' → DK K H' d (c + 1) l → Q (.bl (a.shows N)) H'
section
variable {K : PySem.W.Frag} {σ : L2.St} {H : Hp} {d l : Addr} {N c : Nat} {D : Ends} {tz : TS} {E1 E2 : XK}
theorem apart_put {kvs : List (Key × V)} {o : HO} {v : V} {M : Nat} (hd : H d = some (.dK kvs)) (hne : d ≠ l) (h : DV K (ers l H) v (knownD M)) : DV K (ers l (upd H d o)) v (knownD M) :=
  (dv_ersD (d := d) (kvs := kvs) (by rw [ers_ne hne]; exact hd) _ _ (known_lay M) h).ex fun a u e => by
    by_cases z : a = d
    · rw [z, ers_self] at e; cases e
    · rw [ers_ne z] at e
      by_cases y : a = l
      · rw [y, ers_self] at e; cases e
      · rw [ers_ne y] at e ⊢
        rw [upd_ne z]
        exact e
theorem q_known {o : HO} (h0 : σ[0]? = some (some (.ref d))) (h1 : σ[1]? = some (some (.int (N : Int)))) (hN : Side N) (hc : c ≤ 1000) (hne : d ≠ l) (hl : H l = some o) (ho : NoTup o) (hD : DK K H d c l)
    (k : ∀ H1 v kvs, Ex (ers d H) H1 → DK K H1 d (c + 1) l → H1 d = some (.dK kvs) → valV kvs (Sum.inl (N : Int)) = some v → DV K H1 v (knownD N) → tz D σ H1) :
    tSeq (tIfS (tB (tDNotIn (tVar 1) (tVar 0))) (sDPut (tVar 0) (tVar 1) (tTup (tCons (tCall (spL K R__law_longest) [] E1 (tCons (tVar 1) tNil)) (tCons (tCall (spL K R__law_legs) [] E2 (tCons (tVar 1) tNil)) tNil)))) tNext) tz D σ H := by
  obtain ⟨kvs, g1, g2, g3⟩ := id hD
  refine ⟨_, h1, _, h0, d, valV kvs (Sum.inl (N : Int)), rfl, DGet.k (k := Sum.inl (N : Int)) g1, _, rfl, ?_⟩
  cases hv : valV kvs (Sum.inl (N : Int)) with
  | some v =>
    show tz D σ H
    obtain ⟨M, e1, e2⟩ := g3 _ _ hv
    have eM : M = N := by omega
    subst eM
    exact k H v kvs (ers_in d H) (hD.up (Nat.le_succ c)) g1 hv (e2.ex (ers_in l H))
  | none =>
    refine eld_call (K := K) (R := R__law_longest) (es := (lonT' N).map tn) (eda_cons (ed_int (ev_var h1)) eda_nil) ⟨N, rfl, hN, rfl⟩ H (Ex.refl H) _ fun p1 v1 H1 n1 e1 hp1 hv1 => ?_
    refine eld_call (K := K) (R := R__law_legs) (es := (legT' N).map tn) (eda_cons (ed_int (ev_var h1)) eda_nil) ⟨N, rfl, hN, rfl⟩ H1 (Ex.refl H1) _ fun p2 v2 H2 n2 e2 hp2 hv2 => ⟨by show 2 ≤ sizeLine; decide, fun t nt => ?_⟩
    have e3 : Ex H (upd H2 t (.tup [.ref p1, .ref p2])) := (e1.trans e2).trans (Ex.new nt)
    have hd3 := e3 _ _ g1
    have hl3 := e3 _ _ hl
    have m1 : p1 ≠ l := fun z => by rw [z, hl] at n1; cases n1
    have m2 : p2 ≠ l := fun z => by rw [z, e1 _ _ hl] at n2; cases n2
    have m3 : t ≠ l := fun z => by rw [z, (e1.trans e2) _ _ hl] at nt; cases nt
    have f1 : DV K (ers l (upd H2 t (.tup [.ref p1, .ref p2]))) (.ref t) (knownD N) := by
      refine .tup (st_of (by rw [ers_ne m3]; exact upd_same)) (.cons (.lst (sq_of (xs := v1) (by rw [ers_ne m1]; exact Ex.new nt _ _ (e2 _ _ hp1))) ?_) (.cons (.lst (sq_of (xs := v2) (by rw [ers_ne m2]; exact Ex.new nt _ _ hp2)) ?_) .nil))
      · exact dvs_intD (fun a xs h => sqT_ersN ho hl3 h) (hint_tn _) ((hv1.ex e2).ex (Ex.new nt))
      · exact dvs_intD (fun a xs h => sqT_ersN ho hl3 h) (hint_tn _) (hv2.ex (Ex.new nt))
    refine ⟨_, h0, _, h1, d, _, rfl, DPut.k (k := Sum.inl (N : Int)) (v := .ref t) hd3 (Nat.lt_of_le_of_lt g2 (Nat.lt_of_le_of_lt hc (by decide))), ?_⟩
    have f2 := apart_put (o := .dK (putK kvs (Sum.inl (N : Int)) (.ref t))) hd3 hne f1
    refine k _ (.ref t) (putK kvs (Sum.inl (N : Int)) (.ref t)) (fun a u e => ?_) ⟨_, upd_same, Nat.le_trans (length_putK _ _ _) (Nat.succ_le_succ g2), fun j v hj => ?_⟩ upd_same (by rw [valV_put, if_pos rfl]) (f2.ex (ers_in _ _))
    · by_cases z : a = d
      · rw [z, ers_self] at e; cases e
      · rw [ers_ne z] at e
        rw [upd_ne z]
        exact e3 _ _ e
    · rw [valV_put] at hj
      by_cases z : (Sum.inl j : Key) = Sum.inl (N : Int)
      · rw [if_pos z] at hj
        cases Option.some.inj hj
        exact ⟨N, Sum.inl.inj z, f2⟩
      · rw [if_neg z] at hj
        obtain ⟨M, y1, y2⟩ := g3 j v hj
        exact ⟨M, y1, apart_put hd3 hne (y2.ex (ers_ex e3))⟩
theorem ed_dget {v : V} {kvs : List (Key × V)} {D' : PyData} (h0 : σ[0]? = some (some (.ref d))) (h1 : σ[1]? = some (some (.int (N : Int)))) (hd : H d = some (.dK kvs)) (hv : valV kvs (Sum.inl (N : Int)) = some v) (hk : DV K H v D') : EvD K (tDGet (tVar 0) (tVar 1)) σ H D' := fun H2 a Q q =>
  ⟨_, h0, _, h1, d, v, rfl, by
    have := DGet.k (k := Sum.inl (N : Int)) (a _ _ hd)
    rw [hv] at this
    exact this, q v H2 (Ex.refl _) (hk.ex a)⟩
end
end Sq
namespace Sq
open PySem PySem.Spec PyProof.Rows L2 Evl
/-! ### tests beside the dict -/
section
variable {K : PySem.W.Frag} {σ : L2.St} {H : Hp} {d l : Addr} {c c' : Nat} {t u : TT} {D : Ends} {tu tz : TS} {te : TE} {b : Bool}
def EvTD (K : PySem.W.Frag) (d l : Addr) (c' : Nat) (tt : TT) (σ : L2.St) (H : Hp) (b : Bool) : Prop := ∀ Q : Bool → Hp → Prop, (∀ H2, Ex (ers d H) H2 → DK K H2 d c' l → Q b H2) → tt σ H Q
theorem etd_or (h1 : EvTD K d l c' t σ H false) (h2 : ∀ H2, Ex (ers d H) H2 → DK K H2 d c' l → EvT u σ H2 b) : EvTD K d l c' (tOr t u) σ H b := fun Q q => h1 _ fun H2 e2 hD => by
  show u σ H2 Q
  exact h2 H2 e2 hD H2 (Ex.refl H2) Q fun H3 e3 => q H3 (e2.trans e3) (hD.ex e3)
theorem etd_not (h1 : EvTD K d l c' t σ H b) : EvTD K d l c' (tNot t) σ H (!b) := fun _ q => h1 _ fun H2 e2 hD => q H2 e2 hD
theorem q_passD (h : EvTD K d l c' t σ H false) (k : ∀ H1, Ex (ers d H) H1 → DK K H1 d c' l → tz D σ H1) : tSeq (tIfS t tu tNext) tz D σ H := h _ fun H1 e hD => k H1 e hD
/-- the call of what is due -/
theorem et_due {Cs : Nat → Addr} {p : Addr} {xs : List V} {N : Nat} {a : Ans} {o : HO} {E : XK} {i j k : Nat} (hi : σ[i]? = some (some (.ref d))) (hj : σ[j]? = some (some (.int (N : Int)))) (hk : σ[k]? = some (some (.ref p))) (hN : Side N) (hc : c ≤ 1000) (hne : d ≠ l) (hl : H l = some o) (ho : NoTup o) (hD : DK K H d c l) (hA : a.At K Cs H p l xs) :
    EvTD K d l (c + 1) (tB (tCall (spDue K Cs) [] E (tCons (tVar i) (tCons (tVar j) (tCons (tVar k) tNil))))) σ H (a.shows N) := fun Q q =>
  ⟨_, hi, _, hj, _, hk, d, p, l, xs, N, a, c, o, rfl, hN, hc, hne, hl, ho, hD, hA, fun H' e hD' => ⟨_, rfl, q H' e hD'⟩⟩
theorem q_due {Cs : Nat → Addr} {p : Addr} {xs : List V} {N : Nat} {a : Ans} {o : HO} {E : XK} {i j k m : Nat} (hi : σ[i]? = some (some (.ref d))) (hj : σ[j]? = some (some (.int (N : Int)))) (hk : σ[k]? = some (some (.ref p))) (hN : Side N) (hc : c ≤ 1000) (hne : d ≠ l) (hl : H l = some o) (ho : NoTup o) (hD : DK K H d c l) (hA : a.At K Cs H p l xs)
    (q : ∀ H', Ex (ers d H) H' → DK K H' d (c + 1) l → tz D (σ.set m (some (.bl (a.shows N)))) H') : tSeq (tAsg (tCall (spDue K Cs) [] E (tCons (tVar i) (tCons (tVar j) (tCons (tVar k) tNil)))) (gName m)) tz D σ H :=
  ⟨_, hi, _, hj, _, hk, d, p, l, xs, N, a, c, o, rfl, hN, hc, hne, hl, ho, hD, hA, q⟩
theorem eqV_bl (a b : Bool) : eqV (.bl a) (.bl b) = (a == b) := rfl
/-- kinds.index(True) -/
theorem ev_kind {a : Ans} {kp : Addr} (h : Ev te σ H (.ref kp)) (hk : H kp = some (.lst [.bl (decide (a.ix = 0)), .bl (decide (a.ix = 1)), .bl (decide (a.ix = 2)), .bl (decide (a.ix = 3))])) : Ev (tBM K "list" (rIndex K) te (tCons (tC (.bl true)) tNil)) σ H (.int (a.ix : Int)) := fun H1 e Q q =>
  h H1 e _ fun H2 e2 => ⟨Or.inl ⟨rfl, _, sq_of ((e.trans e2) _ _ hk)⟩, kp, _, .bl true, a.ix, .bl true, rfl, rfl, sq_of ((e.trans e2) _ _ hk), rfl, rfl, by cases a <;> rfl, rfl, fun m z' hm hz => by
    cases a with
    | lon ps => exact absurd hm (Nat.not_lt_zero _)
    | bar b =>
      have hm : m < 1 := hm
      obtain rfl : m = 0 := by omega
      cases Option.some.inj hz; rfl
    | leg ps =>
      have hm : m < 2 := hm
      rcases (by omega : m = 0 ∨ m = 1) with rfl | rfl <;> (cases Option.some.inj hz; rfl)
    | hal =>
      have hm : m < 3 := hm
      rcases (by omega : m = 0 ∨ m = 1 ∨ m = 2) with rfl | rfl | rfl <;> (cases Option.some.inj hz; rfl), q H2 e2⟩
end
theorem kinds_one : ∀ a : Ans, (([.bool (decide (a.ix = 0)), .bool (decide (a.ix = 1))] ++ [.bool (decide (a.ix = 2)), .bool (decide (a.ix = 3))] : List PyData).countP fun z => PyData.eqv z (.bool true)) = 1
  | .lon _ => by simp [Ans.ix, PyData.eqv, List.countP, List.countP.go]
  | .bar _ => by simp [Ans.ix, PyData.eqv, List.countP, List.countP.go]
  | .leg _ => by simp [Ans.ix, PyData.eqv, List.countP, List.countP.go]
  | .hal => by simp [Ans.ix, PyData.eqv, List.countP, List.countP.go]
theorem said_ix {N g : Nat} : ∀ {a : Ans}, Said N g a → a.ix = g ∨ a.ix = g + 1
  | .lon _, h => .inl h.1.symm
  | .bar _, h => .inr (by rw [h.1]; rfl)
  | .leg _, h => .inl h.1.symm
  | .hal, h => .inr (by rw [h.1]; rfl)
/-- told right, twice -/
def spTold (K : PySem.W.Frag) (Cs : Nat → Addr) (fL fG : Addr) : Sp := fun vs H Q _ => ∃ (d f o : Addr) (N g M1 M2 c : Nat), vs = [.ref d, .int N, .ref f, .int g, .ref o] ∧ ((f = fL ∧ g = 0) ∨ (f = fG ∧ g = 2)) ∧ Side N ∧ Side M1 ∧ Side M2 ∧ c ≤ 900 ∧ DK K H d c d ∧ SqL K H o [.int M1, .int M2] ∧
  ∀ H', Ex (ers d H) H' → DK K H' d (c + 6) d → Q (.bl true) H'
noncomputable def Sask (K : PySem.W.Frag) (Cs : Nat → Addr) (fL fG f : Addr) : Option Sp := if f = fL then some (spAsk K Cs 0) else if f = fG then some (spAsk K Cs 2) else none
theorem ask_some {K : PySem.W.Frag} {Cs : Nat → Addr} {fL fG f : Addr} {g : Nat} (hne : fL ≠ fG) (h : (f = fL ∧ g = 0) ∨ (f = fG ∧ g = 2)) : Sask K Cs fL fG f = some (spAsk K Cs g) := by
  unfold Sask
  rcases h with ⟨rfl, rfl⟩ | ⟨rfl, rfl⟩
  · rw [if_pos rfl]
  · rw [if_neg hne.symm, if_pos rfl]
theorem rv_notB {H : Hp} {a b : Bool} : RV rNotB (.bl a) (.bl b) H (.bl (!decide (a = b))) := fun H1 _ _ q => ⟨a, b, rfl, rfl, q H1 (Ex.refl H1)⟩
theorem bools_vals {K : PySem.W.Frag} {H : Hp} : ∀ {bs : List Bool} {vs : List V}, DVs K H vs (bs.map .bool) → vs = bs.map V.bl
  | [], _, h => by cases h; rfl
  | b :: bs, _, h => by
    cases h with
    | cons a c => cases a; rw [bools_vals c]; rfl
theorem shaped_bools (bs : List Bool) : SeqAt.shaped (.list (bs.map .bool)) = true := by
  have h : ∀ bs : List Bool, PyData.canLayAll0 (bs.map .bool) = true ∧ PyData.depthAll (bs.map .bool) = 0 := by
    intro bs
    induction bs with
    | nil => exact ⟨rfl, rfl⟩
    | cons i is ih => rw [List.map_cons]; simp [PyData.canLayAll0, PyData.canLay0, PyData.depthAll, PyData.depth, ih.1, ih.2]
  unfold SeqAt.shaped
  simp [PyData.canLay0, PyData.depth, (h bs).1, (h bs).2]
theorem kinds_test (a : Ans) : ((!true) || !(decide (((((([decide (a.ix = 0), decide (a.ix = 1), decide (a.ix = 2), decide (a.ix = 3)] : List Bool).map PyData.bool).countP (fun z => PyData.eqv z (.bool true))) : Nat) : Int) = 1))) = false := by
  have h := kinds_one a
  have e : (([decide (a.ix = 0), decide (a.ix = 1), decide (a.ix = 2), decide (a.ix = 3)] : List Bool).map PyData.bool) = ([.bool (decide (a.ix = 0)), .bool (decide (a.ix = 1))] ++ [.bool (decide (a.ix = 2)), .bool (decide (a.ix = 3))] : List PyData) := rfl
  rw [e, h]
  rfl
theorem etd_due {K : PySem.W.Frag} {σ : L2.St} {H : Hp} {d l p : Addr} {c N i j k : Nat} {Cs : Nat → Addr} {xs : List V} {a : Ans} {o : HO} {E : XK} (hi : σ[i]? = some (some (.ref d))) (hj : σ[j]? = some (some (.int (N : Int)))) (hk : σ[k]? = some (some (.ref p))) (hN : Side N) (hc : c ≤ 1000) (hne : d ≠ l) (hl : H l = some o) (ho : NoTup o) (hD : DK K H d c l) (hA : a.At K Cs H p l xs) (hs : a.shows N = true) :
    EvTD K d l (c + 1) (tNot (tB (tCall (spDue K Cs) [] E (tCons (tVar i) (tCons (tVar j) (tCons (tVar k) tNil)))))) σ H false := by
  have z := etd_not (et_due (K := K) (E := E) hi hj hk hN hc hne hl ho hD hA)
  rw [hs] at z
  exact z
theorem whole3 (ps : List NN) : (ps.map tn).all (fun d => areWhole d 3) = true := by
  rw [List.all_map]
  exact List.all_eq_true.mpr fun x _ => rfl
theorem szT_tn (x : NN) : szT (tn x) := fun xs h => by cases h; exact (by decide : 3 ≤ 40000)
theorem more_not {ps t : List NN} (h : ps = t) : (decide (t ≠ []) && decide (ps ++ [(2, 1)] = t)) = false := by
  rw [Bool.and_eq_false_iff]
  refine .inr (decide_eq_false fun z => ?_)
  have := congrArg List.length z
  rw [List.length_append, List.length_singleton, h] at this
  omega
theorem said_len {N g : Nat} (hN : Side N) : ∀ {a : Ans}, Said N g a → ∀ ps, a = .lon ps ∨ a = .leg ps → ps.length ≤ 1000
  | .lon _, h, ps, z => by
    rcases z with z | z
    · cases z; rw [h.2.1, lonT_len]; exact lon_len hN.hi
    · cases z
  | .leg _, h, ps, z => by
    rcases z with z | z
    · cases z
    · cases z; rw [h.2.1, legT_len]; exact leg_len hN.hi
  | .bar _, h, ps, z => by rcases z with z | z <;> cases z
  | .hal, h, ps, z => by rcases z with z | z <;> cases z
end Sq

namespace Sq
open PySem PySem.Spec PyProof.Rows L2 Evl
/-! ### some written numbers' lists -/
def k1 (p : NN) : Nat := p.1 * p.1 - p.2 * p.2
theorem le1 {p q : NN} (h : k1 p ≠ k1 q) (hp : pairN p.1 p.2 = true) (hq : pairN q.1 q.2 = true) : leN p q = decide (k1 p ≤ k1 q) := by
  have f : ∀ x : NN, pairN x.1 x.2 = true → ((x.1 : Int) * (x.1 : Int) - (x.2 : Int) * (x.2 : Int)) = ((k1 x : Nat) : Int) := fun x hx => by
    obtain ⟨h1, h2, _⟩ := pairN_iff.mp hx
    have h3 : x.2 * x.2 ≤ x.1 * x.1 := Nat.mul_le_mul (by omega) (by omega)
    unfold k1
    rw [Int.ofNat_sub h3, Int.natCast_mul, Int.natCast_mul]
  unfold leN
  rw [PySem.W.dataLe_eq]
  show (!PySem.W.dataLt (tn q) (tn p)) = _
  unfold tn td
  rw [PySem.W.dataLt_tuple, PySem.W.dataLt_cons (by simp [PySem.W.alike])]
  show (!(if PyData.eqv (.int ((q.1 : Int) * (q.1 : Int) - (q.2 : Int) * (q.2 : Int))) (.int ((p.1 : Int) * (p.1 : Int) - (p.2 : Int) * (p.2 : Int))) = true then _ else PySem.W.dataLt (.int ((q.1 : Int) * (q.1 : Int) - (q.2 : Int) * (q.2 : Int))) (.int ((p.1 : Int) * (p.1 : Int) - (p.2 : Int) * (p.2 : Int))))) = _
  rw [f p hp, f q hq]
  rw [if_neg (by simp [PyData.eqv]; omega), PySem.W.dataLt_int]
  by_cases z : k1 p ≤ k1 q
  · rw [decide_eq_true z, decide_eq_false (by omega)]; rfl
  · rw [decide_eq_false z, decide_eq_true (by omega)]; rfl

theorem sort_k1 {l : List NN} (hP : AllP l) (hd : ∀ a ∈ l, ∀ b ∈ l, k1 a = k1 b → a = b) : l.mergeSort leN = l.mergeSort fun p q : NN => decide (k1 p ≤ k1 q) := by
  refine PySem.W.sort_congr fun a ha b hb => ?_
  by_cases h : k1 a = k1 b
  · have e := hd a ha b hb h
    subst e
    rw [decide_eq_true (Nat.le_refl _)]
    unfold leN
    rw [PySem.W.dataLe_eq]
    show (!PySem.W.dataLt (tn a) (tn a)) = true
    rw [PySem.W.dataLt_self]
    rfl
  · exact le1 h (hP a ha) (hP b hb)
theorem lonN65 : lonN 65 = [(8, 1), (7, 4)] := by
  have c0 : lonC 65 0 = (8, 1) := by unfold lonC; rw [isq_of (r := 8) (by decide) (by decide)]
  have c1 : lonC 65 1 = (7, 2) := by unfold lonC; rw [isq_of (r := 7) (by decide) (by decide)]
  have c2 : lonC 65 2 = (7, 3) := by unfold lonC; rw [isq_of (r := 7) (by decide) (by decide)]
  have c3 : lonC 65 3 = (7, 4) := by unfold lonC; rw [isq_of (r := 7) (by decide) (by decide)]
  have c4 : lonC 65 4 = (6, 5) := by unfold lonC; rw [isq_of (r := 6) (by decide) (by decide)]
  unfold lonN
  rw [isq_of (n := 65 / 2) (r := 5) (by decide) (by decide), few_succ, few_succ, few_succ, few_succ, few_succ, few_zero, c0, c1, c2, c3, c4]
  decide
theorem lonN25 : lonN 25 = [(4, 3)] := by
  have c0 : lonC 25 0 = (4, 1) := by unfold lonC; rw [isq_of (r := 4) (by decide) (by decide)]
  have c1 : lonC 25 1 = (4, 2) := by unfold lonC; rw [isq_of (r := 4) (by decide) (by decide)]
  have c2 : lonC 25 2 = (4, 3) := by unfold lonC; rw [isq_of (r := 4) (by decide) (by decide)]
  unfold lonN
  rw [isq_of (n := 25 / 2) (r := 3) (by decide) (by decide), few_succ, few_succ, few_succ, few_zero, c0, c1, c2]
  decide
theorem legN3 : legN 3 = [(2, 1)] := by
  unfold legN legR
  rw [if_neg (by decide), isq3, few_succ, few_zero]
  decide
theorem legN60 : legN 60 = [(30, 1), (15, 2), (10, 3), (6, 5)] := by
  unfold legN legR
  rw [if_pos (by decide), isq_of (n := 60 / 2) (r := 5) (by decide) (by decide), few_succ, few_succ, few_succ, few_succ, few_succ, few_zero]
  decide
theorem lonT65 : lonT' 65 = [(7, 4), (8, 1)] := by
  unfold lonT'
  rw [sort_k1 (fun x h => (lon_pair h).1) (by rw [lonN65]; decide), lonN65]
  simp [List.mergeSort, List.MergeSort.Internal.splitInTwo, List.merge, k1]
theorem legT60 : legT' 60 = [(6, 5), (10, 3), (15, 2), (30, 1)] := by
  unfold legT'
  rw [sort_k1 (fun x h => leg_pair h) (by rw [legN60]; decide), legN60]
  simp [List.mergeSort, List.MergeSort.Internal.splitInTwo, List.merge, k1]
theorem lonT25 : lonT' 25 = [(4, 3)] := by unfold lonT'; rw [lonN25, List.mergeSort_singleton]
theorem legT3 : legT' 3 = [(2, 1)] := by unfold legT'; rw [legN3, List.mergeSort_singleton]
theorem no_bar {N : Nat} (h0 : 0 < N) (h : ∀ p, p < N + 1 → N % p = 0 → ¬ (p = 2 ∨ p % 4 = 3)) : barring N = [] := by
  refine List.eq_nil_iff_forall_not_mem.mpr fun p hp => ?_
  obtain ⟨⟨h1, h2⟩, h3⟩ := (mem_barring h0).mp hp
  exact h p (Nat.lt_succ_of_le (Nat.le_of_dvd h0 h2)) (Nat.mod_eq_zero_of_dvd h2) h3
theorem bar65 : barring 65 = [] := no_bar (by decide) (by decide)
theorem bar25 : barring 25 = [] := no_bar (by decide) (by decide)
theorem bar5 : barring 5 = [] := no_bar (by decide) (by decide)
theorem bar999 : barring 999999 ≠ [] := fun z => by
  have := (mem_barring (N := 999999) (p := 3) (by decide)).mpr ⟨⟨prime3, by decide⟩, .inr rfl⟩
  rw [z] at this; cases this
theorem bar2 : ∀ b : Int, barsI 2 b = true → b = 2 := fun b h => by
  unfold barsI at h
  rw [Bool.and_eq_true] at h
  have h1 := of_decide_eq_true h.1
  obtain ⟨⟨h2, h3⟩, _⟩ := (mem_barring (by decide)).mp (of_decide_eq_true h.2)
  have h4 := Nat.le_of_dvd (by decide) h3
  have h5 := h2.1
  omega
theorem bar2n : barring 2 ≠ [] := fun z => by
  have := (mem_barring (N := 2) (p := 2) (by decide)).mpr ⟨⟨prime2, by decide⟩, .inl rfl⟩
  rw [z] at this; cases this
/-! ### asked of written numbers -/
section
variable {K : PySem.W.Frag} {σ : L2.St} {H : Hp} {te : TE} {cA cL cB cG cH : Addr} {N : Nat} {E : XK} {d : Addr} {c : Nat}
theorem ed_ask0 (hn : Ev te σ H (.int N)) (hN : Side N) (hb : barring N = []) (cl : Cls K cL) (na : NoAttr K cL "triples") : EvD K (tFld K (tCall (spAsk K (Csf cL cB cG cH) 0) [] E (tCons te tNil)) "triples") σ H (.list ((lonT' N).map tn)) := fun H1 a _ q =>
  hn H1 a _ fun H2 e2 => ⟨N, rfl, hN, fun an p l xs H3 hs np nl e3 hA _ => by
    cases an with
    | lon ps =>
      obtain ⟨⟨dx, h1, h2⟩, h3, _⟩ := hA
      obtain ⟨_, rfl, _⟩ := hs
      exact ⟨p, cL, dx, _, _, rfl, h1, cl, na, lk_T _, q _ H3 (e2.trans e3) (.lst (sq_of h2) h3)⟩
    | bar b =>
      have hm := hs.2
      unfold barsI at hm
      rw [hb] at hm
      simp at hm
    | leg ps => exact absurd hs.1 (by decide)
    | hal => exact absurd hs.1 (by decide)⟩
theorem ed_ask2 (hn : Ev te σ H (.int N)) (hN : Side N) (h4 : N % 4 ≠ 2) (cl : Cls K cG) (na : NoAttr K cG "triples") : EvD K (tFld K (tCall (spAsk K (Csf cL cB cG cH) 2) [] E (tCons te tNil)) "triples") σ H (.list ((legT' N).map tn)) := fun H1 a _ q =>
  hn H1 a _ fun H2 e2 => ⟨N, rfl, hN, fun an p l xs H3 hs np nl e3 hA _ => by
    cases an with
    | leg ps =>
      obtain ⟨⟨dx, h1, h2⟩, h3, _⟩ := hA
      obtain ⟨_, rfl, _⟩ := hs
      exact ⟨p, cG, dx, _, _, rfl, h1, cl, na, lk_T _, q _ H3 (e2.trans e3) (.lst (sq_of h2) h3)⟩
    | hal => exact absurd hs.2 h4
    | lon ps => exact absurd hs.1 (by decide)
    | bar b => exact absurd hs.1 (by decide)⟩
theorem ev_askP (hn : Ev te σ H (.int N)) (hN : Side N) (hb : barring N ≠ []) {v : Int} (hv : ∀ b, barsI N b = true → b = v) (cl : Cls K cB) (na : NoAttr K cB "prime") : Ev (tFld K (tCall (spAsk K (Csf cL cB cG cH) 0) [] E (tCons te tNil)) "prime") σ H (.int v) := fun H1 a _ q =>
  hn H1 a _ fun H2 e2 => ⟨N, rfl, hN, fun an p l xs H3 hs np nl e3 hA _ => by
    cases an with
    | bar b =>
      obtain ⟨dx, h1⟩ := hA
      rw [hv b hs.2] at h1
      exact ⟨p, cB, dx, _, _, rfl, h1, cl, na, lk_P _, q H3 (e2.trans e3)⟩
    | lon ps => exact absurd hs.2.2.2 hb
    | leg ps => exact absurd hs.1 (by decide)
    | hal => exact absurd hs.1 (by decide)⟩
theorem ev_askI (T : Kit K (Csf cL cB cG cH) cA) {g j : Nat} {b : Bool} (hj : j < 4) (hn : Ev te σ H (.int N)) (hN : Side N) (hb : ∀ a, Said N g a → decide (a.ix = j) = b) : Ev (tCB (rIsi K) (tCons (tCall (spAsk K (Csf cL cB cG cH) g) [] E (tCons te tNil)) (tCons (tC (.ref (Csf cL cB cG cH j))) tNil))) σ H (.bl b) := fun H1 e Q q =>
  hn H1 e _ fun H2 e2 => ⟨N, rfl, hN, fun a p l xs H3 hs np nl e3 hA _ => by
    have := ev_isiC (te := tC (.ref p)) (σ := σ) T hj ev_c hA H3 (Ex.refl _) Q fun H4 e4 => by
      rw [hb a hs]
      exact q H4 ((e2.trans e3).trans e4)
    exact this⟩
end
/-! ### the law's own rules -/
section
variable {K : PySem.W.Frag} {σ : L2.St} {H : Hp} {te : TE} {D : Ends} {tu tz : TS} {E : XK}
theorem q_parSD {i j : Nat} {ds : List PyData} (h : EvLD K te σ H ds) (k : ∀ p vs d H1, H p = none → H d = none → p ≠ d → Ex H H1 → H1 p = some (.lst vs) → DVs K H1 vs ds → H1 d = some (.dK []) → tz D ((σ.set i (some (.ref p))).set j (some (.ref d))) H1) : tSeq (tPar i j (tCons te (tCons tDNewK tNil))) tz D σ H :=
  h H (Ex.refl H) _ fun p vs H1 np e hp hv d nd => ⟨_, _, rfl, k p vs d _ np (fresh_back e nd) (fun z => by rw [z, nd] at hp; cases hp) (e.trans (Ex.new nd)) (Ex.new nd _ _ hp) (hv.ex (Ex.new nd)) upd_same⟩
theorem s_forTU {i : Nat} {vs : List V} (h : EvU te σ H vs) (Pv : Addr → Nat → L2.St → Hp → Prop) (h0 : ∀ t H1, H t = none → Ex H H1 → H1 t = some (.tup vs) → Pv t 0 σ H1) (hl : ∀ t k σ' H', Pv t k σ' H' → SqT K H' t vs)
    (hs : ∀ t k w σ' H', vs[k]? = some w → Pv t k σ' H' → tu { D with nx := Pv t (k + 1), ct := Pv t (k + 1), bk := D.nx } (σ'.set i (some w)) H') (hd : ∀ t σ' H', Pv t vs.length σ' H' → D.nx σ' H') : tFor (iTup K te) (gName i) tu D σ H :=
  h H (Ex.refl H) _ fun p H1 np e hp => by
    refine ⟨p, rfl, ⟨vs, st_of hp⟩, fun k m σ' H' => m = vs.length - k ∧ k ≤ vs.length ∧ Pv p k σ' H', ⟨vs.length, by simp, Nat.zero_le _, h0 p H1 np e hp⟩, ?_⟩
    rintro k m σ' H' ⟨rfl, hk, P⟩
    have hS := hl p k σ' H' P
    by_cases hlt : k < vs.length
    · refine .inr ⟨⟨vs, vs[k], hS, List.getElem?_eq_getElem hlt⟩, fun σ2 H2 => Pv p (k + 1) σ2 H2, fun σ2 H2 P2 => ⟨vs.length - (k + 1), by omega, rfl, hlt, P2⟩, fun w H2 hy => ?_⟩
      obtain ⟨hy1, hy2⟩ := hy
      subst hy1
      exact hs p k w σ' _ (hy2 vs hS) P
    · have ek : k = vs.length := by omega
      subst ek
      exact .inl ⟨⟨vs, hS, Nat.le_refl _⟩, hd p σ' H' P⟩
theorem et_told {Cs : Nat → Addr} {fL fG d f : Addr} {N g M1 M2 c i j k : Nat} (hi : σ[i]? = some (some (.ref d))) (hj : σ[j]? = some (some (.int (N : Int)))) (hk : σ[k]? = some (some (.int (M1 : Int)))) (hf : (f = fL ∧ g = 0) ∨ (f = fG ∧ g = 2)) (hN : Side N) (hM1 : Side M1) (hM2 : Side M2) (hc : c ≤ 900) (hD : DK K H d c d) :
    EvTD K d d (c + 6) (tNot (tB (tCall (spTold K Cs fL fG) [] E (tCons (tVar i) (tCons (tVar j) (tCons (tC (.ref f)) (tCons (tC (.int (g : Int))) (tCons (tLst (tCons (tVar k) (tCons (tC (.int (M2 : Int))) tNil))) tNil)))))))) σ H false := fun Q q =>
  ⟨_, hi, _, hj, _, hk, by show 2 ≤ sizeLine; decide, fun o no => ⟨d, f, o, N, g, M1, M2, c, rfl, hf, hN, hM1, hM2, hc, hD.ex (Ex.new no), sq_of upd_same, fun H' e hD' => ⟨_, rfl, q H' (fun b u z => e _ _ (by
    have hb : b ≠ d := fun w => by rw [w, ers_self] at z; cases z
    rw [ers_ne hb] at z ⊢
    exact Ex.new no _ _ z)) hD'⟩⟩⟩
def rMin2 : List V → Hp → VK → Prop := fun xs H Q => ∃ i j, xs = [.int i, .int j] ∧ Q (.int (if j < i then j else i)) H
theorem ev_min2 {ta tb : TE} {i j : Int} (ha : Ev ta σ H (.int i)) (hb : Ev tb σ H (.int j)) : Ev (tCB rMin2 (tCons ta (tCons tb tNil))) σ H (.int (if j < i then j else i)) := fun H1 e Q q =>
  ha H1 e _ fun H2 e2 => hb H2 (e.trans e2) _ fun H3 e3 => ⟨i, j, rfl, q H3 (e2.trans e3)⟩
end
def R_law3 : Rel := fun ds d => ∃ ns : List Int, ds = [.list (ns.map .int)] ∧ ns.length ≤ 63 ∧ (∀ c ∈ ns, Sm 1048577 c) ∧ d = .bool true
theorem ers_trans {A B C : Hp} {d : Addr} (h1 : Ex (ers d A) B) (h2 : Ex (ers d B) C) : Ex (ers d A) C := fun b u z => by
  have hb : b ≠ d := fun w => by rw [w, ers_self] at z; cases z
  exact h2 _ _ (by rw [ers_ne hb]; exact h1 _ _ z)
theorem s_passD {K : PySem.W.Frag} {σ : L2.St} {H : Hp} {d l : Addr} {c' : Nat} {t : TT} {D : Ends} {tu : TS} (h : EvTD K d l c' t σ H false) (k : ∀ H1, Ex (ers d H) H1 → DK K H1 d c' l → D.nx σ H1) : tIfS t tu tNext D σ H := h _ fun H1 e hD => k H1 e hD
theorem etn {K : PySem.W.Frag} {σ : L2.St} {H : Hp} (x : NN) {a b c : Int} (h : tn x = .tuple [.int a, .int b, .int c]) : EvD K (tTup (tCons (tC (.int a)) (tCons (tC (.int b)) (tCons (tC (.int c)) tNil)))) σ H (tn x) := by
  rw [h]
  exact ed_tup (eda_cons (ed_int ev_c) (eda_cons (ed_int ev_c) (eda_cons (ed_int ev_c) eda_nil))) (by show 3 ≤ 100000; decide)
theorem few3 {len k : Nat} (h : (k : Int) * (1 + (len : Int) / 3) < len) : k ≤ 2 := Nat.le_of_not_lt fun z => by
  have h1 : (3 : Int) * (1 + (len : Int) / 3) ≤ (k : Int) * (1 + (len : Int) / 3) := Int.mul_le_mul_of_nonneg_right (by omega) (by omega)
  omega
end Sq

namespace Sq
open PySem PySem.Spec PyProof.Rows L2 Evl
/-! ### the law's call, where the base has no seer: what isqrt and great divisions ask -/
/-- the heap in which at most the script is known, and that as it stands -/
structure Begin (K : PySem.W.Frag) (h : Heap) (a : Addr) (vs : List Value) (ns : List Int) (H : Hp) : Prop where
  only : ∀ b u, H b = some u → b = a ∧ u = .frz { cls := .type "list", data := .seq vs.toArray } (.lst (ns.map V.int)) ∧ K.lookup b = none
  there : h.get? a = some { cls := .type "list", data := .seq vs.toArray }
  sq : SqL K H a (ns.map V.int)
section
variable {K : PySem.W.Frag} {h : Heap} {a : Addr} {vs : List Value} {ns : List Int} {H : Hp}
theorem begin_of (KX : K.In h) (ha : h.get? a = some { cls := .type "list", data := .seq vs.toArray }) (hi : IntsAre vs ns) (hl : ns.length ≤ sizeLine) : ∃ H, Begin K h a vs ns H := by
  by_cases hk : K.lookup a = none
  · refine ⟨fun b => if b = a then some (.frz { cls := .type "list", data := .seq vs.toArray } (.lst (ns.map V.int))) else none, ⟨fun b u e => ?_, ha, .inl (.inr ⟨_, if_pos rfl⟩)⟩⟩
    by_cases hb : b = a
    · subst hb
      exact ⟨rfl, (Option.some.inj ((if_pos rfl).symm.trans e)).symm, hk⟩
    · exact nomatch (if_neg hb).symm.trans e
  · refine ⟨fun _ => none, ⟨fun _ _ e => (nomatch e), ha, ?_⟩⟩
    cases e : K.lookup a with
    | none => exact absurd e hk
    | some o =>
      have same : o = _ := Option.some.inj ((KX a o e).symm.trans ha)
      subst same
      exact .inr ⟨_, vs.toArray, _, e, rfl, rfl, rfl, by rw [List.size_toArray, hi.length]; exact hl, vals_ints hi⟩
/-- what is no list is seen in the base -/
theorem Begin.see (B : Begin K h a vs ns H) {b : Addr} {o : Obj} (e : h.get? b = some o) (n : o.cls ≠ .type "list" ∨ ∃ es ep, o.data = .dict es ep) : (hidT h H).get? b = some o := by
  refine hidT_get e ?_
  cases z : H b with
  | none => rfl
  | some u =>
    have hb := (B.only b u z).1
    rw [hb] at e
    have eo := Option.some.inj (B.there.symm.trans e)
    subst eo
    rcases n with n | ⟨es, ep, n⟩
    · exact absurd rfl n
    · exact nomatch n
theorem Begin.space (B : Begin K h a vs ns H) {b : Addr} {m : Str → Option Value} (x : h.Ns b m) : (hidT h H).Ns b m := by
  obtain ⟨o, es, ep, e, d, r⟩ := x
  exact ⟨o, es, ep, B.see e (.inr ⟨es, ep, d⟩), d, r⟩
theorem Begin.seer (B : Begin K h a vs ns H) (S : h.NoSeer) : (hidT h H).NoSeer where
  statics := S.statics.imp fun _ x => ⟨B.space x.1, x.2⟩
  mods := S.mods.imp fun _ x => ⟨B.space x.1, x.2⟩
  imp := S.imp.imp fun _ x => ⟨B.space x.1, x.2⟩
  main := S.main.imp fun _ x => x.imp fun _ y => y.imp fun ob z => ⟨B.space z.1, z.2.1, B.see z.2.2.1 (.inl (by rw [z.2.2.2.1]; intro w; injection w with w; exact absurd w (by decide))), z.2.2.2⟩
theorem Begin.known (B : Begin K h a vs ns H) (X : K.In h) : K.In (hidT h H) := fun b o e => hidT_get (X b o e) (by
  cases z : H b with
  | none => rfl
  | some u => exact nomatch (B.only b u z).2.2.symm.trans e)
theorem Begin.holds (B : Begin K h a vs ns H) {P : Program} {w : World} (hi : IntsAre vs ns) (hl : ns.length ≤ sizeLine) : HOk P w H h := fun b u z => by
  obtain ⟨hb, hu, _⟩ := B.only b u z
  subst hb hu
  exact ⟨B.there, by rw [List.length_map]; exact hl, vs, _, vals_ints hi, B.there⟩
end
/-- a promise of data, kept over every base without a seer: the law's call gives True and leaves all as it was -/
theorem law_true {P : Program} {w : World} {K : PySem.W.Frag} {mg mb : Str → Option Value} {k : Nat} {fa a : Addr} {fd : FuncData} {x : Str} {R : Rel} {s : Shared} {vs : List Value} {ns : List Int}
    (KX : K.In s.heap) (hm : s.heap.Ns mainGlobals mg) (hb : s.heap.Ns builtinsNs mb) (hbb : ∀ x : Str, x ≠ "__name__" → mb x = bootBuiltins x) (hlim : s.heap.NoLimit) (hg : s.gens = #[]) (hS : s.heap.NoSeer)
    (ha : s.heap.get? a = some { cls := .type "list", data := .seq vs.toArray }) (hi : IntsAre vs ns) (hl : ns.length ≤ sizeLine) (hr : Room k callerA)
    (F : ∀ base : Heap, K.In base → base.Ns mainGlobals mg → base.NoSeer → FnOk P w K mg base CX0 k fa fd [x] (spF K R)) (bind : ∀ (s : Shared) (u : Value), BindsTo s fd ⟨[u], []⟩ [(x, u)])
    (hR : R [.list (ns.map .int)] (.bool true)) :
    codeAny (model P w) callerA (.call (.ref fa) ⟨[.ref a], []⟩) (fun r s' => r = .ok (.ret (.bool true)) ∧ OldK s.heap s'.heap ∧ s'.os = s.os ∧ AllBare s'.gens) s := by
  obtain ⟨H, B⟩ := begin_of KX ha hi hl
  have frame : Env0 P w K mg (hidT s.heap H) callerA [] s H := {
    frames := rfl
    mod := ⟨B.known KX, B.space hm, ⟨mb, B.space hb, hbb⟩, hlim.imp fun _ y => ⟨B.space y.1, y.2⟩⟩
    bs := fun _ _ y => of_hidT y
    bsz := Nat.le_of_eq (hidT_size _ _)
    funs := trivial
    frf := fun b y => nomatch y
    hok := B.holds hi hl
    bare := .of_eq hg }
  have run := (F _ (B.known KX) (B.space hm) (B.seer hS)).run callerA [] s H ⟨[.ref a], []⟩ [.ref a] [.ref a] (fun v _ => v = .bl true) (fun _ _ _ => False) hr frame (bind s (.ref a)) (.cons rfl .nil)
    ⟨[.list (ns.map .int)], .bool true, .cons (.lst B.sq (vals_ints' ns)) .nil, hR, fun v _ _ hv => by cases hv; rfl⟩
  refine codeAny_mono run fun r s' out => ?_
  match r, out with
  | .ok (.ret u), out =>
    obtain ⟨v, H', os, bare, un, ok', ru, rfl⟩ := out
    cases (show u = Value.bool true from ru)
    refine ⟨rfl, OldK.of_keep fun b o e => ?_, os, bare⟩
    cases z : H b with
    | none => exact un.keep b o e z (fun y => nomatch y) (fun y => nomatch y)
    | some u =>
      obtain ⟨hba, hu, _⟩ := B.only b u z
      subst hu
      have after := (ok' b _ (un.frzs b _ _ z)).1
      rw [hba] at e ⊢
      rw [hba] at after
      rw [after, ← e, B.there]
theorem sm_bits {z : Int} (h : Builtin.Int.intBits z ≤ 1048576) : Sm 1048577 z := by
  unfold Builtin.Int.intBits at h
  by_cases h0 : z = 0
  · subst h0
    exact Sm.up (show (0 : Int).natAbs < 2 ^ 2 by decide) (by decide)
  · rw [if_neg (by simpa using h0)] at h
    have h1 : z.natAbs ≠ 0 := by omega
    refine Sm.up (a := z.natAbs.log2 + 1) (Nat.lt_log2_self) (by omega)
/-- the goal that k_head leaves, from a promise of data: the law's def gives True -/
theorem walk_S {l : PySem.W.OpenLaw} {k : Nat} {q : Program} {loose : List Str} {XP : (Str → Option Value) → Heap → Prop} {YP : World → Heap → Prop} {d : DefRec} {K : Params → PySem.W.Frag} {R : Rel} {x : Str}
    (hn : l.most = some 63) (hdf : d.params.defaults = []) (hr : Room k callerA) (hq : importsNone q = true)
    (hY : ∀ (w : World) (h : Heap), YP w h → (K w.params).In h)
    (F : ∀ (w : World) (mg : Str → Option Value) (fa : Addr) (h : Heap), (K w.params).In h → h.Ns mainGlobals mg → mg d.name = some (.ref fa) →
      ∃ fd : FuncData, (∀ (s : Shared) (u : Value), BindsTo s fd ⟨[u], []⟩ [(x, u)]) ∧
        ∀ base : Heap, (K w.params).In base → base.Ns mainGlobals mg → base.NoSeer → FnOk l.prog w (K w.params) mg base CX0 k fa fd [x] (spF (K w.params) R))
    (hR : ∀ ns : List Int, ns.length ≤ 63 → (∀ c ∈ ns, Sm 1048577 c) → R [.list (ns.map .int)] (.bool true)) :
    PySem.W.WalkO q loose XP YP l.row.toRowW d [] (fun f vs => PySem.call f vs) := by
  refine Att.attach_callB hn hdf fun w s₀ s₁ mg mb fa o pm cd doc a vs ns G Y ho hd hcd hmg hobj hints hlen hbits hg => ?_
  have KX := hY w _ Y
  obtain ⟨fd, hb, hF⟩ := F w mg fa _ KX G.T.g hmg
  exact law_true KX G.T.g G.T.b G.T.builtins G.T.nolimit hg (G.T.seer hq) hobj hints (Nat.le_trans hlen (by decide)) hr hF hb (hR ns hlen fun c hc => sm_bits (hbits c hc))
theorem cal_of {P : Program} {w : World} {K : PySem.W.Frag} {mg : Str → Option Value} {base : Heap} {CX : CXT} {x : Str} {k : Nat} {ps : List Str} {sp : Sp} {f : Addr} {fd : FuncData} (hm : mg x = some (.ref f)) (hk : PySem.W.keepIn K (.ref f) = true) (hb : Binds K fd ps [])
    (F : FnOk P w K mg base CX k f fd ps sp) : Cal P w K mg base CX x k ps sp := ⟨f, fd, hm, hk, hb, F⟩
end Sq

namespace Sq
open PySem PySem.Spec PyProof.Rows L2 Evl

def topS (i : Nat) : Stmt := PySem.Challenge.pw_squaretree_k03_whole_sides.main.body.getD i (.Pass ⟨0, 0, 0, 0⟩)

abbrev s_is_whole : Stmt := topS 4
abbrev N_is_whole : List Str := ["value"]
abbrev P_is_whole : List Str := ["value"]
theorem sc_is_whole : FnScope N_is_whole P_is_whole (defScope s_is_whole) := ⟨rfl, rfl, rfl, by decide +kernel, rfl, by decide +kernel, by decide +kernel⟩

abbrev s_are_whole : Stmt := topS 5
abbrev N_are_whole : List Str := ["value", "many", "part"]
abbrev P_are_whole : List Str := ["value", "many"]
theorem sc_are_whole : FnScope N_are_whole P_are_whole (defScope s_are_whole) := ⟨rfl, rfl, rfl, by decide +kernel, rfl, by decide +kernel, by decide +kernel⟩

abbrev s_is_side : Stmt := topS 6
abbrev N_is_side : List Str := ["value"]
abbrev P_is_side : List Str := ["value"]
theorem sc_is_side : FnScope N_is_side P_is_side (defScope s_is_side) := ⟨rfl, rfl, rfl, by decide +kernel, rfl, by decide +kernel, by decide +kernel⟩

abbrev s_is_pair : Stmt := topS 7
abbrev N_is_pair : List Str := ["value", "m", "n"]
abbrev P_is_pair : List Str := ["value"]
theorem sc_is_pair : FnScope N_is_pair P_is_pair (defScope s_is_pair) := ⟨rfl, rfl, rfl, by decide +kernel, rfl, by decide +kernel, by decide +kernel⟩

abbrev s_formed : Stmt := topS 8
abbrev N_formed : List Str := ["m", "n", "greater", "lesser"]
abbrev P_formed : List Str := ["m", "n"]
theorem sc_formed : FnScope N_formed P_formed (defScope s_formed) := ⟨rfl, rfl, rfl, by decide +kernel, rfl, by decide +kernel, by decide +kernel⟩

abbrev s_barring_primes : Stmt := topS 9
abbrev N_barring_primes : List Str := ["number", "prime"]
abbrev P_barring_primes : List Str := ["number"]
theorem sc_barring_primes : FnScope N_barring_primes P_barring_primes (defScope s_barring_primes) := ⟨rfl, rfl, rfl, by decide +kernel, rfl, by decide +kernel, by decide +kernel⟩

abbrev s__primes_of : Stmt := topS 10
abbrev N__primes_of : List Str := ["number", "primes", "rest", "divisor"]
abbrev P__primes_of : List Str := ["number"]
theorem sc__primes_of : FnScope N__primes_of P__primes_of (defScope s__primes_of) := ⟨rfl, rfl, rfl, by decide +kernel, rfl, by decide +kernel, by decide +kernel⟩

abbrev s_triples_by_longest : Stmt := topS 11
abbrev N_triples_by_longest : List Str := ["number", "pairs", "n", "m"]
abbrev P_triples_by_longest : List Str := ["number"]
theorem sc_triples_by_longest : FnScope N_triples_by_longest P_triples_by_longest (defScope s_triples_by_longest) := ⟨rfl, rfl, rfl, by decide +kernel, rfl, by decide +kernel, by decide +kernel⟩

abbrev s_triples_by_leg : Stmt := topS 12
abbrev N_triples_by_leg : List Str := ["number", "pairs", "m", "n"]
abbrev P_triples_by_leg : List Str := ["number"]
theorem sc_triples_by_leg : FnScope N_triples_by_leg P_triples_by_leg (defScope s_triples_by_leg) := ⟨rfl, rfl, rfl, by decide +kernel, rfl, by decide +kernel, by decide +kernel⟩

abbrev s__pairs_by_even : Stmt := topS 13
abbrev N__pairs_by_even : List Str := ["number", "half", "n"]
abbrev P__pairs_by_even : List Str := ["number"]
theorem sc__pairs_by_even : FnScope N__pairs_by_even P__pairs_by_even (defScope s__pairs_by_even) := ⟨rfl, rfl, rfl, by decide +kernel, rfl, by decide +kernel, by decide +kernel⟩

abbrev s__pairs_by_odd : Stmt := topS 14
abbrev N__pairs_by_odd : List Str := ["number", "lesser", "divisor", "less"]
abbrev P__pairs_by_odd : List Str := ["number"]
theorem sc__pairs_by_odd : FnScope N__pairs_by_odd P__pairs_by_odd (defScope s__pairs_by_odd) := ⟨rfl, rfl, rfl, by decide +kernel, rfl, by decide +kernel, by decide +kernel⟩

abbrev s_Longest_init : Stmt := inClass (topS 17) 0
abbrev N_Longest_init : List Str := ["self", "triples"]
abbrev P_Longest_init : List Str := ["self", "triples"]
theorem sc_Longest_init : FnScope N_Longest_init P_Longest_init (defScope s_Longest_init) := ⟨rfl, rfl, rfl, by decide +kernel, rfl, by decide +kernel, by decide +kernel⟩

abbrev s_Longest_shows : Stmt := inClass (topS 17) 1
abbrev N_Longest_shows : List Str := ["self", "number", "told"]
abbrev P_Longest_shows : List Str := ["self", "number"]
theorem sc_Longest_shows : FnScope N_Longest_shows P_Longest_shows (defScope s_Longest_shows) := ⟨rfl, rfl, rfl, by decide +kernel, rfl, by decide +kernel, by decide +kernel⟩

abbrev s_Barred_init : Stmt := inClass (topS 18) 0
abbrev N_Barred_init : List Str := ["self", "prime"]
abbrev P_Barred_init : List Str := ["self", "prime"]
theorem sc_Barred_init : FnScope N_Barred_init P_Barred_init (defScope s_Barred_init) := ⟨rfl, rfl, rfl, by decide +kernel, rfl, by decide +kernel, by decide +kernel⟩

abbrev s_Barred_shows : Stmt := inClass (topS 18) 1
abbrev N_Barred_shows : List Str := ["self", "number"]
abbrev P_Barred_shows : List Str := ["self", "number"]
theorem sc_Barred_shows : FnScope N_Barred_shows P_Barred_shows (defScope s_Barred_shows) := ⟨rfl, rfl, rfl, by decide +kernel, rfl, by decide +kernel, by decide +kernel⟩

abbrev s_Leg_init : Stmt := inClass (topS 19) 0
abbrev N_Leg_init : List Str := ["self", "triples"]
abbrev P_Leg_init : List Str := ["self", "triples"]
theorem sc_Leg_init : FnScope N_Leg_init P_Leg_init (defScope s_Leg_init) := ⟨rfl, rfl, rfl, by decide +kernel, rfl, by decide +kernel, by decide +kernel⟩

abbrev s_Leg_shows : Stmt := inClass (topS 19) 1
abbrev N_Leg_shows : List Str := ["self", "number", "told"]
abbrev P_Leg_shows : List Str := ["self", "number"]
theorem sc_Leg_shows : FnScope N_Leg_shows P_Leg_shows (defScope s_Leg_shows) := ⟨rfl, rfl, rfl, by decide +kernel, rfl, by decide +kernel, by decide +kernel⟩

abbrev s_Halved_shows : Stmt := inClass (topS 20) 0
abbrev N_Halved_shows : List Str := ["self", "number"]
abbrev P_Halved_shows : List Str := ["self", "number"]
theorem sc_Halved_shows : FnScope N_Halved_shows P_Halved_shows (defScope s_Halved_shows) := ⟨rfl, rfl, rfl, by decide +kernel, rfl, by decide +kernel, by decide +kernel⟩

abbrev s_longest : Stmt := topS 25
abbrev N_longest : List Str := ["number", "primes"]
abbrev P_longest : List Str := ["number"]
theorem sc_longest : FnScope N_longest P_longest (defScope s_longest) := ⟨rfl, rfl, rfl, by decide +kernel, rfl, by decide +kernel, by decide +kernel⟩

abbrev s_leg : Stmt := topS 26
abbrev N_leg : List Str := ["number"]
abbrev P_leg : List Str := ["number"]
theorem sc_leg : FnScope N_leg P_leg (defScope s_leg) := ⟨rfl, rfl, rfl, by decide +kernel, rfl, by decide +kernel, by decide +kernel⟩

abbrev s__check_side : Stmt := topS 27
abbrev N__check_side : List Str := ["number"]
abbrev P__check_side : List Str := ["number"]
theorem sc__check_side : FnScope N__check_side P__check_side (defScope s__check_side) := ⟨rfl, rfl, rfl, by decide +kernel, rfl, by decide +kernel, by decide +kernel⟩

abbrev s__law_cell_at : Stmt := topS 29
abbrev N__law_cell_at : List Str := ["_law_script", "_law_k"]
abbrev P__law_cell_at : List Str := ["_law_script", "_law_k"]
theorem sc__law_cell_at : FnScope N__law_cell_at P__law_cell_at (defScope s__law_cell_at) := ⟨rfl, rfl, rfl, by decide +kernel, rfl, by decide +kernel, by decide +kernel⟩

abbrev s__law_draw : Stmt := topS 30
abbrev N__law_draw : List Str := ["_law_cell", "_law_k", "_law_many", "_law_primes"]
abbrev P__law_draw : List Str := ["_law_cell", "_law_k", "_law_many"]
theorem sc__law_draw : FnScope N__law_draw P__law_draw (defScope s__law_draw) := ⟨rfl, rfl, rfl, by decide +kernel, rfl, by decide +kernel, by decide +kernel⟩

abbrev s__law_value : Stmt := topS 31
abbrev N__law_value : List Str := ["_law_cell", "_law_k", "_law_limit"]
abbrev P__law_value : List Str := ["_law_cell", "_law_k", "_law_limit"]
theorem sc__law_value : FnScope N__law_value P__law_value (defScope s__law_value) := ⟨rfl, rfl, rfl, by decide +kernel, rfl, by decide +kernel, by decide +kernel⟩

abbrev s__law_triple : Stmt := topS 32
abbrev N__law_triple : List Str := ["_law_pair", "_law_m", "_law_n"]
abbrev P__law_triple : List Str := ["_law_pair"]
theorem sc__law_triple : FnScope N__law_triple P__law_triple (defScope s__law_triple) := ⟨rfl, rfl, rfl, by decide +kernel, rfl, by decide +kernel, by decide +kernel⟩

abbrev s__law_common : Stmt := topS 33
abbrev N__law_common : List Str := ["_law_one", "_law_other"]
abbrev P__law_common : List Str := ["_law_one", "_law_other"]
theorem sc__law_common : FnScope N__law_common P__law_common (defScope s__law_common) := ⟨rfl, rfl, rfl, by decide +kernel, rfl, by decide +kernel, by decide +kernel⟩

abbrev s__law_whole : Stmt := topS 34
abbrev N__law_whole : List Str := ["_law_number_here"]
abbrev P__law_whole : List Str := ["_law_number_here"]
theorem sc__law_whole : FnScope N__law_whole P__law_whole (defScope s__law_whole) := ⟨rfl, rfl, rfl, by decide +kernel, rfl, by decide +kernel, by decide +kernel⟩

abbrev s__law_are : Stmt := topS 35
abbrev N__law_are : List Str := ["_law_found", "_law_many", "_law_one"]
abbrev P__law_are : List Str := ["_law_found", "_law_many"]
theorem sc__law_are : FnScope N__law_are P__law_are (defScope s__law_are) := ⟨rfl, rfl, rfl, by decide +kernel, rfl, by decide +kernel, by decide +kernel⟩

abbrev s__law_root : Stmt := topS 36
abbrev N__law_root : List Str := ["_law_number_here", "_law_low", "_law_high", "_law_middle"]
abbrev P__law_root : List Str := ["_law_number_here"]
theorem sc__law_root : FnScope N__law_root P__law_root (defScope s__law_root) := ⟨rfl, rfl, rfl, by decide +kernel, rfl, by decide +kernel, by decide +kernel⟩

abbrev s__law_longest : Stmt := topS 37
abbrev N__law_longest : List Str := ["_law_number_here", "_law_found", "_law_m", "_law_n"]
abbrev P__law_longest : List Str := ["_law_number_here"]
theorem sc__law_longest : FnScope N__law_longest P__law_longest (defScope s__law_longest) := ⟨rfl, rfl, rfl, by decide +kernel, rfl, by decide +kernel, by decide +kernel⟩

abbrev s__law_legs : Stmt := topS 38
abbrev N__law_legs : List Str := ["_law_number_here", "_law_found", "_law_part", "_law_other", "_law_half"]
abbrev P__law_legs : List Str := ["_law_number_here"]
theorem sc__law_legs : FnScope N__law_legs P__law_legs (defScope s__law_legs) := ⟨rfl, rfl, rfl, by decide +kernel, rfl, by decide +kernel, by decide +kernel⟩

abbrev s__law_is_prime : Stmt := topS 39
abbrev N__law_is_prime : List Str := ["_law_number_here", "_law_part"]
abbrev P__law_is_prime : List Str := ["_law_number_here"]
theorem sc__law_is_prime : FnScope N__law_is_prime P__law_is_prime (defScope s__law_is_prime) := ⟨rfl, rfl, rfl, by decide +kernel, rfl, by decide +kernel, by decide +kernel⟩

abbrev s__law_bars : Stmt := topS 40
abbrev N__law_bars : List Str := ["_law_number_here", "_law_prime"]
abbrev P__law_bars : List Str := ["_law_number_here", "_law_prime"]
theorem sc__law_bars : FnScope N__law_bars P__law_bars (defScope s__law_bars) := ⟨rfl, rfl, rfl, by decide +kernel, rfl, by decide +kernel, by decide +kernel⟩

abbrev s__law_number : Stmt := topS 41
abbrev N__law_number : List Str := ["_law_script", "_law_k", "_law_cell", "_law_drawn", "_law_kind", "_law_found", "_law_turn"]
abbrev P__law_number : List Str := ["_law_script", "_law_k"]
theorem sc__law_number : FnScope N__law_number P__law_number (defScope s__law_number) := ⟨rfl, rfl, rfl, by decide +kernel, rfl, by decide +kernel, by decide +kernel⟩

abbrev s__law_says : Stmt := topS 42
abbrev N__law_says : List Str := ["_law_said", "_law_due_here"]
abbrev P__law_says : List Str := ["_law_said", "_law_due_here"]
theorem sc__law_says : FnScope N__law_says P__law_says (defScope s__law_says) := ⟨rfl, rfl, rfl, by decide +kernel, rfl, by decide +kernel, by decide +kernel⟩

abbrev s__law_due : Stmt := topS 43
abbrev N__law_due : List Str := ["_law_known", "_law_number_here", "_law_found"]
abbrev P__law_due : List Str := ["_law_known", "_law_number_here", "_law_found"]
theorem sc__law_due : FnScope N__law_due P__law_due (defScope s__law_due) := ⟨rfl, rfl, rfl, by decide +kernel, rfl, by decide +kernel, by decide +kernel⟩

abbrev s__law_told_right : Stmt := topS 44
abbrev N__law_told_right : List Str := ["_law_known", "_law_number_here", "_law_ask", "_law_good", "_law_others", "_law_again", "_law_found", "_law_kinds", "_law_other", "_law_due_here", "_law_triple_here"]
abbrev P__law_told_right : List Str := ["_law_known", "_law_number_here", "_law_ask", "_law_good", "_law_others"]
theorem sc__law_told_right : FnScope N__law_told_right P__law_told_right (defScope s__law_told_right) := ⟨rfl, rfl, rfl, by decide +kernel, rfl, by decide +kernel, by decide +kernel⟩

abbrev s_law : Stmt := topS 45
abbrev N_law : List Str := ["_law_script", "_law_known", "_law_k", "_law_number_here", "_law_some"]
abbrev P_law : List Str := ["_law_script"]
theorem sc_law : FnScope N_law P_law (defScope s_law) := ⟨rfl, rfl, rfl, by decide +kernel, rfl, by decide +kernel, by decide +kernel⟩

structure Txt (K : PySem.W.Frag) (mg : Str → Option Value) (tL tM : Tok) (cA cL cB cG cH : Addr) : Prop where
  isinstance : mg "isinstance" = none
  int : mg "int" = none
  bool : mg "bool" = none
  tuple : mg "tuple" = none
  list : mg "list" = none
  len : mg "len" = none
  all : mg "all" = none
  any : mg "any" = none
  range : mg "range" = none
  max : mg "max" = none
  min : mg "min" = none
  sorted : mg "sorted" = none
  isqrt : mg "isqrt" = some (.builtin "math.isqrt")
  gcd : mg "gcd" = some (.builtin "math.gcd")
  LEAST : mg "LEAST" = some (.int 2 tL)
  GREATEST : mg "GREATEST" = some (.int 1000000 tM)
  Answer : mg "Answer" = some (.ref cA)
  cls_Answer : Cls K cA
  Longest : mg "Longest" = some (.ref cL)
  cls_Longest : Cls K cL
  na_Longest : NoAttr K cL "triples"
  Barred : mg "Barred" = some (.ref cB)
  cls_Barred : Cls K cB
  na_Barred : NoAttr K cB "prime"
  Leg : mg "Leg" = some (.ref cG)
  cls_Leg : Cls K cG
  na_Leg : NoAttr K cG "triples"
  Halved : mg "Halved" = some (.ref cH)
  cls_Halved : Cls K cH
  mk_Halved : Mk0 K cH
  kit : Kit K (Csf cL cB cG cH) cA
end Sq

namespace Sq
open PySem PySem.Spec PyProof.Rows L2 Evl

theorem ok_is_whole {P : Program} {w : World} {K : PySem.W.Frag} {mg : Str → Option Value} {base : Heap}  {tL tM : Tok} {cA cL cB cG cH : Addr} {f : Addr} {fd : FuncData} (F : Fun K "is_whole" "is_whole" s_is_whole f fd) (T : Txt K mg tL tM cA cL cB cG cH)  :
    FnOk P w K mg base CX0 1 f fd P_is_whole (spF K R_is_whole) := by
  refine F.ok sc_is_whole (spF_len fun ds d h => by
    first | (obtain ⟨_, rfl, _⟩ := h; rfl) | (obtain ⟨_, _, rfl, _⟩ := h; rfl) | (obtain ⟨_, _, _, rfl, _⟩ := h; rfl) | (obtain ⟨_, _, _, _, rfl, _⟩ := h; rfl) | (rcases h with ⟨rfl, _⟩ | ⟨_, _, rfl, _⟩ <;> rfl)) (fun cdv A outer s H vs Q E hr h => ?_)
  obtain ⟨ds, d, hv, hR, q⟩ := h
  obtain ⟨x, rfl, rfl⟩ := hR
  obtain ⟨v, rfl, hx⟩ := dvs1 hv
  refine ⟨_, (pss_one (ps_ret (pe_and (pe_callB (k_isi (K := K) rfl) (by rfl) T.isinstance (by decide +kernel) (pa_cons (pv 0) (pa_cons (pe_bltn (v := .ty "int") (u := .type "int") (by rfl) T.int (by decide +kernel) rfl) pa_nil))) (pe_one (pe_not (pe_callB (k_isi (K := K) rfl) (by rfl) T.isinstance (by decide +kernel) (pa_cons (pv 0) (pa_cons (pe_bltn (v := .ty "bool") (u := .type "bool") (by rfl) T.bool (by decide +kernel) rfl) pa_nil)))))))), ?_⟩
  refine s_retD (K := K) (d := .bool (whole x)) (ed_bl ?_) q
  rw [whole_eq]
  exact ev_andV (ev_isi (ed_var rfl hx) (kit_int x)) fun _ => ev_notV (ev_isi (ed_var rfl hx) (kit_bool x))

theorem ok_formed {P : Program} {w : World} {K : PySem.W.Frag} {mg : Str → Option Value} {base : Heap}  {tL tM : Tok} {cA cL cB cG cH : Addr} {f : Addr} {fd : FuncData} (F : Fun K "formed" "formed" s_formed f fd) (T : Txt K mg tL tM cA cL cB cG cH)  :
    FnOk P w K mg base CX0 1 f fd P_formed (spF K R_formed) := by
  refine F.ok sc_formed (spF_len fun ds d h => by
    first | (obtain ⟨_, rfl, _⟩ := h; rfl) | (obtain ⟨_, _, rfl, _⟩ := h; rfl) | (obtain ⟨_, _, _, rfl, _⟩ := h; rfl) | (obtain ⟨_, _, _, _, rfl, _⟩ := h; rfl) | (rcases h with ⟨rfl, _⟩ | ⟨_, _, rfl, _⟩ <;> rfl)) (fun cdv A outer s H vs Q E hr h => ?_)
  obtain ⟨ds, d, hv, hR, q⟩ := h
  obtain ⟨m, n, rfl, hm, hn, rfl⟩ := hR
  cases dvs2i hv
  refine ⟨_, (pss_cons (ps_set (i := 2) sc_formed.nd rfl (.inl rfl) (pe_op op_mulX (pv 0) (pv 0)))
      (pss_cons (ps_set (i := 3) sc_formed.nd rfl (.inl rfl) (pe_op op_mulX (pv 1) (pv 1)))
      (pss_one (ps_ret (pe_tup (pa_cons (pe_op op_sub (pv 2) (pv 3)) (pa_cons (pe_op op_mulX (pe_op op_mulX pe_int (pv 0)) (pv 1)) (pa_cons (pe_op op_add (pv 2) (pv 3)) pa_nil)))))))), ?_⟩
  refine q_asg (ev_op (ev_var rfl) (ev_var rfl) (rv_I (hm.cm hm (by decide)))) fun H1 e1 => ?_
  refine q_asg (ev_op (ev_var rfl) (ev_var rfl) (rv_I (hn.cm hn (by decide)))) fun H2 e2 => ?_
  refine s_retD (K := K) (d := td (m, n)) (ed_tup (eda_cons (ed_int ?_) (eda_cons (ed_int ?_) (eda_cons (ed_int ?_) eda_nil))) (by show 3 ≤ 100000; decide)) fun w H3 e3 hw => q w H3 ((e1.trans e2).trans e3) hw
  · exact ev_op (ev_var rfl) (ev_var rfl) rv_I0
  · exact ev_op (ev_op ev_c (ev_var rfl) (rv_I (sm2.cm hm (by decide)))) (ev_var rfl) (rv_I ((sm2.mul hm).cm hn (by decide)))
  · exact ev_op (ev_var rfl) (ev_var rfl) rv_I0

theorem ok__primes_of {P : Program} {w : World} {K : PySem.W.Frag} {mg : Str → Option Value} {base : Heap}  {tL tM : Tok} {cA cL cB cG cH : Addr} {f : Addr} {fd : FuncData} (F : Fun K "_primes_of" "_primes_of" s__primes_of f fd) (T : Txt K mg tL tM cA cL cB cG cH)  :
    FnOk P w K mg base CX0 1 f fd P__primes_of (spL K R__primes_of) := by
  refine F.ok sc__primes_of (spL_len fun ds es h => by
    first | (obtain ⟨_, rfl, _⟩ := h; rfl) | (obtain ⟨_, _, rfl, _⟩ := h; rfl) | (obtain ⟨_, _, _, rfl, _⟩ := h; rfl) | (obtain ⟨_, _, _, _, rfl, _⟩ := h; rfl) | (rcases h with ⟨rfl, _⟩ | ⟨_, _, rfl, _⟩ <;> rfl)) (fun cdv A outer s H vs Q E hr h => ?_)
  obtain ⟨ds, es, hv, hR, q⟩ := h
  obtain ⟨N, rfl, hN, rfl⟩ := hR
  cases dvs1i hv
  refine ⟨_, (pss_cons (ps_set (i := 1) sc__primes_of.nd rfl (.inl rfl) (pe_lst pa_nil))
      (pss_cons (ps_set (i := 2) sc__primes_of.nd rfl (.inl rfl) (pv 0))
      (pss_cons (ps_set (i := 3) sc__primes_of.nd rfl (.inl rfl) pe_int)
      (pss_cons (ps_while PassesOwn.never (pt_cmpR op_le (pe_op op_mulX (pv 3) (pv 3)) (pv 2) (nomark _)) (pss_cons (ps_if (pt_cmpR op_eq (pe_op op_mod (pv 2) (pv 3)) pe_int (nomark _)) (pss_one (ps_expr (pe_bm PySem.F.plainAttrs_list PySem.F.slot_list_append PySem.F.type_list_append mt_append (pv 1) (pa_cons (pv 3) pa_nil)))) pss_nil)
      (pss_cons (ps_while PassesOwn.never (pt_cmpR op_eq (pe_op op_mod (pv 2) (pv 3)) pe_int (nomark _)) (pss_one (ps_aug (i := 2) sc__primes_of.nd rfl (.inl rfl) (pv 3) ip_fdivP)))
      (pss_one (ps_aug (i := 3) sc__primes_of.nd rfl (.inl rfl) pe_int ip_add)))))
      (pss_cons (ps_if (pt_cmpR op_gt (pv 2) pe_int (nomark _)) (pss_one (ps_expr (pe_bm PySem.F.plainAttrs_list PySem.F.slot_list_append PySem.F.type_list_append mt_append (pv 1) (pa_cons (pv 2) pa_nil)))) pss_nil)
      (pss_one (ps_ret (pv 1)))))))), ?_⟩
  have n2 := hN.lo
  have nM := hN.hi
  refine q_asgL (el_lst ea_nil (by show 0 ≤ 100000; decide)) fun l H1 nl e1 hl => ?_
  refine q_asg (ev_var rfl) fun H2 e2 => ?_
  refine q_asg ev_c fun H3 e3 => ?_
  refine q_while (fun μ σ' H' => ∃ d r : Nat, μ = 2000 - d ∧ σ' = [some (.int N), some (.ref l), some (.int r), some (.int d)] ∧ 2 ≤ d ∧ d ≤ 1001 ∧ Rest N d r ∧ Ex H H' ∧ H' l = some (.lst ((below N d).map fun p : Nat => V.int (p : Int)))) (2000 - 2)
    ⟨2, N, rfl, rfl, Nat.le_refl _, by decide, rest_start (by omega), (e1.trans e2).trans e3, by
      have e : below N 2 = [] := by
        rw [below_succ, below_succ]
        have h0 : isPr N 0 = false := by
          cases z : isPr N 0 with
          | false => rfl
          | true => exact absurd (isPr_iff.mp z).1.1 (by decide)
        have h1 : isPr N 1 = false := by
          cases z : isPr N 1 with
          | false => rfl
          | true => exact absurd (isPr_iff.mp z).1.1 (by decide)
        rw [h0, h1]
        rfl
      rw [e]
      exact e3 _ _ (e2 _ _ hl)⟩ ?_
  rintro μ σ' H' ⟨d, r, rfl, rfl, hd2, hd, hr', eH, hl'⟩
  obtain ⟨r1, r2, r3⟩ := id hr'
  refine ⟨decide (d * d ≤ r), et_is (et_test (ev_op (ev_op (ev_var rfl) (ev_var rfl) (rv_I (cm_small (by omega) (by omega)))) (ev_var rfl) rv_I0)) dec_sq, fun hb H4 e4 => ?_, fun hb H4 e4 => ?_⟩
  · have hb := of_decide_eq_true hb
    have hd1 : d ≤ 1000 := Nat.le_of_not_lt fun z => by
      have : 1001 * 1001 ≤ d * d := Nat.mul_le_mul z z
      omega
    refine ⟨fun σ2 H2' => ∃ r' : Nat, σ2 = [some (.int N), some (.ref l), some (.int r'), some (.int ((d + 1 : Nat) : Int))] ∧ Rest N (d + 1) r' ∧ Ex H H2' ∧ H2' l = some (.lst ((below N (d + 1)).map fun p : Nat => V.int (p : Int))), ?_, ?_⟩
    · rintro σ2 H2' ⟨r', h1, h2, h3, h4⟩
      exact ⟨2000 - (d + 1), by omega, d + 1, r', rfl, h1, by omega, by omega, h2, h3, h4⟩
    refine q_whenApp (b := isPr N d) (v := .int (d : Int)) (H0 := H) (l := l) (eH.trans e4) nl (e4 _ _ hl') (by rw [List.length_map]; exact Nat.lt_of_le_of_lt (below_len N d) (by omega)) (et_is (et_test (ev_op (ev_op (ev_var rfl) (ev_var rfl) (rv_I (by omega))) ev_c rv_eqI)) (by rw [rest_here hr' hd2]; exact dec_mod)) (ev_var rfl) (fun _ => ev_var rfl) fun H5 e5 hl5 => ?_
    have hl5' : H5 l = some (.lst ((below N (d + 1)).map fun p : Nat => V.int (p : Int))) := by
      rw [hl5, below_succ, List.map_append]
      congr 3
      cases isPr N d <;> rfl
    refine q_while (fun μ σ' H' => ∃ r' : Nat, μ = r' ∧ σ' = [some (.int N), some (.ref l), some (.int r'), some (.int d)] ∧ Mid N d r' ∧ Ex H H' ∧ H' l = some (.lst ((below N (d + 1)).map fun p : Nat => V.int (p : Int)))) r ⟨r, rfl, rfl, mid_start hr' hd2, e5, hl5'⟩ ?_
    rintro μ σ' H6 ⟨r', rfl, rfl, hm, e6, hl6⟩
    refine ⟨decide (μ % d = 0), et_is (et_test (ev_op (ev_op (ev_var rfl) (ev_var rfl) (rv_I (by omega))) ev_c rv_eqI)) dec_mod, fun hb2 H7 e7 => ?_, fun hb2 H7 e7 => ?_⟩
    · have hb2 := of_decide_eq_true hb2
      obtain ⟨m1, m2⟩ := mid_step hm hd2 hb2
      refine ⟨fun σ2 H2' => ∃ r'' : Nat, r'' < μ ∧ σ2 = [some (.int N), some (.ref l), some (.int r''), some (.int d)] ∧ Mid N d r'' ∧ Ex H H2' ∧ H2' l = some (.lst ((below N (d + 1)).map fun p : Nat => V.int (p : Int))), ?_, ?_⟩
      · rintro σ2 H2' ⟨r'', h0, h1, h2, h3, h4⟩
        exact ⟨r'', h0, r'', rfl, h1, h2, h3, h4⟩
      refine s_augI (C := CDivP) (f := fun i j => .int (i / j)) (b := (d : Int)) rfl (ev_var rfl) (divs (by omega) (by omega)) fun H8 e8 => ?_
      exact ⟨μ / d, m2, rfl, m1, (e6.trans e7).trans e8, e8 _ _ (e7 _ _ hl6)⟩
    · have hb2 := of_decide_eq_false hb2
      refine s_aug (f := fun i j => i + j) rfl ev_c fun H8 e8 => ?_
      exact ⟨μ, rfl, mid_end hm hb2, (e6.trans e7).trans e8, e8 _ _ (e7 _ _ hl6)⟩
  · have hb := of_decide_eq_false hb
    have eP := rest_done hr' (by omega) hd2 (by omega)
    refine q_whenApp (b := decide (1 < r)) (v := .int (r : Int)) (H0 := H) (l := l) (eH.trans e4) nl (e4 _ _ hl') (by rw [List.length_map]; exact Nat.lt_of_le_of_lt (below_len N d) (by omega)) (et_is (et_test (ev_op (ev_var rfl) ev_c rv_I0)) (by
      by_cases z : 1 < r
      · rw [decide_eq_true z]; exact decide_eq_true (by omega)
      · rw [decide_eq_false z]; exact decide_eq_false (by omega))) (ev_var rfl) (fun _ => ev_var rfl) fun H5 e5 hl5 => ?_
    refine s_ret (ev_var rfl) fun H6 e6 => q l _ H6 nl (e5.trans e6) (e6 _ _ hl5) ?_
    have e : (primesOf N).map (fun p : Nat => V.int (p : Int)) = (below N d).map (fun p : Nat => V.int (p : Int)) ++ if decide (1 < r) = true then [V.int (r : Int)] else [] := by
      rw [eP, List.map_append]
      congr 1
      by_cases z : 1 < r
      · rw [if_pos z, if_pos (decide_eq_true z)]; rfl
      · rw [if_neg z, if_neg (by rw [decide_eq_false z]; decide)]; rfl
    rw [← e]
    exact dvs_ni _

theorem ok__pairs_by_even {P : Program} {w : World} {K : PySem.W.Frag} {mg : Str → Option Value} {base : Heap}  {tL tM : Tok} {cA cL cB cG cH : Addr} {f : Addr} {fd : FuncData} (F : Fun K "_pairs_by_even" "_pairs_by_even" s__pairs_by_even f fd) (T : Txt K mg tL tM cA cL cB cG cH)  :
    FnOk P w K mg base CX0 1 f fd P__pairs_by_even (spL K R__pairs_by_even) := by
  refine F.ok sc__pairs_by_even (spL_len fun ds es h => by
    first | (obtain ⟨_, rfl, _⟩ := h; rfl) | (obtain ⟨_, _, rfl, _⟩ := h; rfl) | (obtain ⟨_, _, _, rfl, _⟩ := h; rfl) | (obtain ⟨_, _, _, _, rfl, _⟩ := h; rfl) | (rcases h with ⟨rfl, _⟩ | ⟨_, _, rfl, _⟩ <;> rfl)) (fun cdv A outer s H vs Q E hr h => ?_)
  obtain ⟨ds, es, hv, hR, q⟩ := h
  obtain ⟨N, rfl, hN, hev, rfl⟩ := hR
  cases dvs1i hv
  refine ⟨_, (pss_cons (ps_set (i := 1) sc__pairs_by_even.nd rfl (.inr rfl) (pe_op op_fdivP (pv 0) pe_int))
      (pss_one (ps_ret (pe_lc (own := [("n", 2)]) rfl sc__pairs_by_even.nd (pi_range2 (by rfl) T.range (pa_cons pe_int (pa_cons (pe_op op_add (pe_callBfun cr_isqrtS (by rfl) T.isqrt (pa_cons (pv 1) pa_nil)) pe_int) pa_nil))) (blkOk_by (own := [("n", 2)]) (N := N__pairs_by_even) (sc := defScope s__pairs_by_even) (by decide +kernel)) (fun _ _ _ _ _ => (pg_name (i := 2) sc__pairs_by_even.nd rfl (.inl rfl))) (fun _ _ _ _ _ => (pts_one (pt_cmpR op_eq (pe_op op_mod (pv 1) (pv 2)) pe_int (nomark _)))) (fun _ _ _ _ _ => (pe_tup (pa_cons (pe_op op_fdivP (pv 1) (pv 2)) (pa_cons (pv 2) pa_nil)))))))), ?_⟩
  have n2 := hN.lo
  have nM := hN.hi
  have hs := isq_small (n := N / 2) (by omega)
  have hsq : isq (N / 2) = PySem.Float64.isqrt (N / 2) := rfl
  refine q_asg (v := .int ((N / 2 : Nat) : Int)) (ev_op (ev_var rfl) ev_c (rv_I (divs (by decide) (by decide)))) fun H1 e1 => ?_
  have e : legPs N = few (legD N) (legC N) (isq (N / 2)) := by unfold legPs legR; rw [if_pos hev]
  have e2 : ((legPs N).map fun x => pd (up x)) = few (legD N) (fun i => pd (up (legC N i))) (isq (N / 2)) := by rw [e, few_map]
  rw [e2] at q
  refine s_retLD (eld_lcR2 (n := isq (N / 2)) (legD N) (fun i => pd (up (legC N i))) (fun i => intD_pd _) (ea_cons ev_c (ea_cons (ev_op (ev_isqS (ev_var rfl) (Int.natCast_nonneg _) (by omega)) ev_c rv_I0) ea_nil)) (by rw [Int.toNat_natCast]; omega) (by rw [Int.toNat_natCast]; omega) (fun _ => rfl) (fun i H2 e2 hi => ?_) fun i H2 e2 hi hc => ?_) fun p vs H2 np e2 hp hv2 => q p vs H2 (fresh_back e1 np) (e1.trans e2) hp hv2
  · refine et_is (et_test (ev_op (ev_op (ev_var rfl) (ev_var rfl) (rv_I (by omega))) ev_c rv_eqI)) ?_
    unfold legD
    rw [if_pos hev, ← dec_mod, show ((i + 1 : Nat) : Int) = 1 + (i : Int) by omega]
  · have ec : legC N i = (N / 2 / (i + 1), i + 1) := by unfold legC; rw [if_pos hev]
    rw [ec]
    refine ed_tup (eda_cons (ed_int (ev_is (ev_op (ev_var rfl) (ev_var rfl) (rv_I (divs (by omega) (by omega)))) ?_)) (eda_cons (ed_int (ev_is (ev_var rfl) ?_)) eda_nil)) (by show 2 ≤ 100000; decide)
    · show V.int (((N / 2 : Nat) : Int) / (1 + (i : Int))) = V.int ((N / 2 / (i + 1) : Nat) : Int)
      rw [show (1 + (i : Int)) = ((i + 1 : Nat) : Int) by omega, ← Int.natCast_ediv]
    · show V.int (1 + (i : Int)) = V.int ((i + 1 : Nat) : Int)
      rw [show ((i + 1 : Nat) : Int) = 1 + (i : Int) by omega]

theorem ok__pairs_by_odd {P : Program} {w : World} {K : PySem.W.Frag} {mg : Str → Option Value} {base : Heap}  {tL tM : Tok} {cA cL cB cG cH : Addr} {f : Addr} {fd : FuncData} (F : Fun K "_pairs_by_odd" "_pairs_by_odd" s__pairs_by_odd f fd) (T : Txt K mg tL tM cA cL cB cG cH)  :
    FnOk P w K mg base CX0 1 f fd P__pairs_by_odd (spL K R__pairs_by_odd) := by
  refine F.ok sc__pairs_by_odd (spL_len fun ds es h => by
    first | (obtain ⟨_, rfl, _⟩ := h; rfl) | (obtain ⟨_, _, rfl, _⟩ := h; rfl) | (obtain ⟨_, _, _, rfl, _⟩ := h; rfl) | (obtain ⟨_, _, _, _, rfl, _⟩ := h; rfl) | (rcases h with ⟨rfl, _⟩ | ⟨_, _, rfl, _⟩ <;> rfl)) (fun cdv A outer s H vs Q E hr h => ?_)
  obtain ⟨ds, es, hv, hR, q⟩ := h
  obtain ⟨N, rfl, hN, hod, rfl⟩ := hR
  cases dvs1i hv
  refine ⟨_, (pss_cons (ps_setLc (i := 1) (own := [("divisor", 2)]) rfl sc__pairs_by_odd.nd rfl rfl (sw_true rfl rfl rfl (by decide +kernel)) (pi_range2 (by rfl) T.range (pa_cons pe_int (pa_cons (pe_op op_add (pe_callBfun cr_isqrtS (by rfl) T.isqrt (pa_cons (pv 0) pa_nil)) pe_int) pa_nil))) (blkOk_by (own := [("divisor", 2)]) (N := N__pairs_by_odd) (sc := defScope s__pairs_by_odd) (by decide +kernel)) (fun _ _ _ _ _ => (pg_name (i := 2) sc__pairs_by_odd.nd rfl (.inl rfl))) (fun _ _ _ _ _ => (pts_one (pt_cmpR op_eq (pe_op op_mod (pv 0) (pv 2)) pe_int (nomark _)))) (fun _ _ _ _ _ => (pv 2)))
      (pss_one (ps_ret (pe_lc (own := [("less", 3)]) rfl sc__pairs_by_odd.nd (pi_list (pv 1)) (blkOk_by (own := [("less", 3)]) (N := N__pairs_by_odd) (sc := defScope s__pairs_by_odd) (by decide +kernel)) (fun _ _ _ _ _ => (pg_name (i := 3) sc__pairs_by_odd.nd rfl (.inl rfl))) (fun _ _ _ _ _ => pts_nil) (fun _ _ _ _ _ => (pe_tup (pa_cons (pe_op op_fdivP (pe_op op_add (pe_op op_fdivP (pv 0) (pv 3)) (pv 3)) pe_int) (pa_cons (pe_op op_fdivP (pe_op op_sub (pe_op op_fdivP (pv 0) (pv 3)) (pv 3)) pe_int) pa_nil)))))))), ?_⟩
  have n2 := hN.lo
  have nM := hN.hi
  have hs := isq_small (n := N) nM
  have hsq : isq N = PySem.Float64.isqrt N := rfl
  have h0 : ¬ N % 2 = 0 := by omega
  have e : legPs N = few (legD N) (legC N) (isq N) := by unfold legPs legR; rw [if_neg h0]
  have e2 : ((legPs N).map fun x => pd (up x)) = few (legD N) (fun i => pd (up (legC N i))) (isq N) := by rw [e, few_map]
  rw [e2] at q
  refine q_asgLD (K := K) (ds := few (legD N) (fun i => ni (i + 1)) (isq N)) (eld_lcR2 (n := isq N) (legD N) (fun i => ni (i + 1)) (fun i => intD_i _) (ea_cons ev_c (ea_cons (ev_op (ev_isqS (ev_var rfl) (Int.natCast_nonneg _) (by omega)) ev_c rv_I0) ea_nil)) (by rw [Int.toNat_natCast]; omega) (by rw [Int.toNat_natCast]; omega) (fun _ => rfl) (fun i H2 e2 hi => ?_) fun i H2 e2 hi hc => ?_) fun p vs H1 np e1 hp hvs => ?_
  · refine et_is (et_test (ev_op (ev_op (ev_var rfl) (ev_var rfl) (rv_I (by omega))) ev_c rv_eqI)) ?_
    unfold legD
    rw [if_neg h0, ← dec_mod, show ((i + 1 : Nat) : Int) = 1 + (i : Int) by omega]
  · refine ed_int (ev_is (ev_var rfl) ?_)
    show V.int (1 + (i : Int)) = V.int ((i + 1 : Nat) : Int)
    rw [show ((i + 1 : Nat) : Int) = 1 + (i : Int) by omega]
  · have e3 : few (legD N) (fun i => pd (up (legC N i))) (isq N) = ((few (legD N) (fun i => ni (i + 1)) (isq N)).filter fun _ => true).map (oddF N) := by
      rw [List.filter_eq_self.mpr fun _ _ => rfl, few_map]
      refine few_same _ (fun _ _ => rfl) fun i hi hc => ?_
      have hc' : decide (N % (i + 1) = 0) = true := by
        have := hc
        unfold legD at this
        rw [if_neg h0] at this
        exact this
      exact (oddF_ni h0 (of_decide_eq_true hc') (by
        have h1 := isq_lo N
        have h2 : (i + 1) * (i + 1) ≤ isq N * isq N := Nat.mul_le_mul hi hi
        omega)).symm
    rw [e3] at q
    refine s_retLD (eld_lcL (ds := few (legD N) (fun i => ni (i + 1)) (isq N)) (fun _ => true) (oddF N) (oddF_I N) (ed_var rfl (.lst (sq_of hp) hvs)) (Nat.le_trans (few_len _) (by omega)) (fun _ => rfl) (fun d x H2 e2 hd hx => tYes_t) fun d x H2 e2 hd hx hc => ?_) fun p vs H2 np e2 hp hv2 => q p vs H2 (fresh_back e1 np) (e1.trans e2) hp hv2
    obtain ⟨i, hi, _, rfl⟩ := few_mem.mp hd
    cases dvi hx
    refine ed_tup (eda_cons (ed_int ?_) (eda_cons (ed_int ?_) eda_nil)) (by show 2 ≤ 100000; decide)
    · exact ev_op (ev_op (ev_op (ev_var rfl) (ev_var rfl) (rv_I (divs (by omega) (by omega)))) (ev_var rfl) rv_I0) ev_c (rv_I (divs (by decide) (by decide)))
    · exact ev_op (ev_op (ev_op (ev_var rfl) (ev_var rfl) (rv_I (divs (by omega) (by omega)))) (ev_var rfl) rv_I0) ev_c (rv_I (divs (by decide) (by decide)))

theorem ok_Longest_init {P : Program} {w : World} {K : PySem.W.Frag} {mg : Str → Option Value} {base : Heap}  {tL tM : Tok} {cA cL cB cG cH : Addr} {f : Addr} {fd : FuncData} (F : Fun K "__init__" "Longest.__init__" s_Longest_init f fd) (T : Txt K mg tL tM cA cL cB cG cH)  :
    FnOk P w K mg base CX0 1 f fd P_Longest_init (spInitL K cL) := by

  refine F.ok sc_Longest_init (fun vs H Q E h => ?_) (fun cdv A outer s H vs Q E hr h => ?_)
  · obtain ⟨_, _, _, _, rfl, _⟩ := h
    rfl
  · obtain ⟨p, dx, a, xs, rfl, hs, hp, q⟩ := h
    refine ⟨_, (pss_one (ps_fld (pv 0) (pe_callTy (k_list (K := K) rfl) (by rfl) T.list (by decide +kernel) (pa_cons (pv 1) pa_nil)) rfl)), ?_⟩
    refine ⟨_, rfl, a, xs, rfl, .inl hs, fun l hl => ?_⟩
    refine ⟨_, rfl, p, cL, dx, [], rfl, ?_, T.cls_Longest, T.na_Longest, (by show 0 < 1000; decide), q l hl⟩
    rw [upd_ne (ne_of_none hp hl)]
    exact hp

theorem ok_Barred_init {P : Program} {w : World} {K : PySem.W.Frag} {mg : Str → Option Value} {base : Heap}  {tL tM : Tok} {cA cL cB cG cH : Addr} {f : Addr} {fd : FuncData} (F : Fun K "__init__" "Barred.__init__" s_Barred_init f fd) (T : Txt K mg tL tM cA cL cB cG cH)  :
    FnOk P w K mg base CX0 1 f fd P_Barred_init (spInitB cB) := by

  refine F.ok sc_Barred_init (fun vs H Q E h => ?_) (fun cdv A outer s H vs Q E hr h => ?_)
  · obtain ⟨_, _, _, rfl, _⟩ := h
    rfl
  · obtain ⟨p, dx, v, rfl, hp, q⟩ := h
    refine ⟨_, (pss_one (ps_fld (pv 0) (pv 1) rfl)), ?_⟩
    exact ⟨_, rfl, _, rfl, p, cB, dx, [], rfl, hp, T.cls_Barred, T.na_Barred, (by show 0 < 1000; decide), q⟩

theorem ok_Leg_init {P : Program} {w : World} {K : PySem.W.Frag} {mg : Str → Option Value} {base : Heap}  {tL tM : Tok} {cA cL cB cG cH : Addr} {f : Addr} {fd : FuncData} (F : Fun K "__init__" "Leg.__init__" s_Leg_init f fd) (T : Txt K mg tL tM cA cL cB cG cH)  :
    FnOk P w K mg base CX0 1 f fd P_Leg_init (spInitL K cG) := by

  refine F.ok sc_Leg_init (fun vs H Q E h => ?_) (fun cdv A outer s H vs Q E hr h => ?_)
  · obtain ⟨_, _, _, _, rfl, _⟩ := h
    rfl
  · obtain ⟨p, dx, a, xs, rfl, hs, hp, q⟩ := h
    refine ⟨_, (pss_one (ps_fld (pv 0) (pe_callTy (k_list (K := K) rfl) (by rfl) T.list (by decide +kernel) (pa_cons (pv 1) pa_nil)) rfl)), ?_⟩
    refine ⟨_, rfl, a, xs, rfl, .inl hs, fun l hl => ?_⟩
    refine ⟨_, rfl, p, cG, dx, [], rfl, ?_, T.cls_Leg, T.na_Leg, (by show 0 < 1000; decide), q l hl⟩
    rw [upd_ne (ne_of_none hp hl)]
    exact hp

theorem ok__law_cell_at {P : Program} {w : World} {K : PySem.W.Frag} {mg : Str → Option Value} {base : Heap}  {tL tM : Tok} {cA cL cB cG cH : Addr} {f : Addr} {fd : FuncData} (F : Fun K "_law_cell_at" "_law_cell_at" s__law_cell_at f fd) (T : Txt K mg tL tM cA cL cB cG cH)  :
    FnOk P w K mg base CX0 1 f fd P__law_cell_at (spF K R__law_cell_at) := by
  refine F.ok sc__law_cell_at (spF_len fun ds d h => by
    first | (obtain ⟨_, rfl, _⟩ := h; rfl) | (obtain ⟨_, _, rfl, _⟩ := h; rfl) | (obtain ⟨_, _, _, rfl, _⟩ := h; rfl) | (obtain ⟨_, _, _, _, rfl, _⟩ := h; rfl) | (rcases h with ⟨rfl, _⟩ | ⟨_, _, rfl, _⟩ <;> rfl)) (fun cdv A outer s H vs Q E hr h => ?_)
  obtain ⟨ds, d, hv, hR, q⟩ := h
  obtain ⟨ns, k, rfl, rfl⟩ := hR
  obtain ⟨v, w, rfl, hx, hw⟩ := dvs2 hv
  cases dvi hw
  refine ⟨_, (pss_cons (ps_if (pt_cmpR op_lt (pv 1) (pe_callB (k_len (K := K) rfl) (by rfl) T.len (by decide +kernel) (pa_cons (pv 0) pa_nil)) (nomark _)) (pss_one (ps_ret (pe_ix (k_ixL (K := K) rfl) (pv 0) (pv 1) (fun _ _ => rfl)))) pss_nil)
      (pss_one (ps_ret pe_int))), ?_⟩
  refine q_when (b := decide ((k : Int) < (ns.length : Int))) (et_test (ev_op (ev_var rfl) (ev_is (ev_lenL (ed_var rfl hx)) (by rw [List.length_map])) rv_I0)) (fun hb H1 e1 => ?_) fun hb H1 e1 => ?_
  · have hb := of_decide_eq_true hb
    have hk : k < ns.length := by omega
    have e : ns.getD k 0 = ns[k] := by rw [List.getD, List.getElem?_eq_getElem hk]; rfl
    rw [e] at q
    exact s_retD (K := K) (ed_ixL (j := k) (ed_var rfl (hx.ex e1)) (ev_var rfl) rfl (by rw [List.getElem?_map, List.getElem?_eq_getElem hk]; rfl)) fun w H2 e2 hw => q w H2 (e1.trans e2) hw
  · have hb := of_decide_eq_false hb
    have e : ns.getD k 0 = 0 := by rw [List.getD, List.getElem?_eq_none (by omega)]; rfl
    rw [e] at q
    exact s_retD (K := K) (ed_int ev_c) fun w H2 e2 hw => q w H2 (e1.trans e2) hw

theorem ok__law_draw {P : Program} {w : World} {K : PySem.W.Frag} {mg : Str → Option Value} {base : Heap}  {tL tM : Tok} {cA cL cB cG cH : Addr} {f : Addr} {fd : FuncData} (F : Fun K "_law_draw" "_law_draw" s__law_draw f fd) (T : Txt K mg tL tM cA cL cB cG cH)  :
    FnOk P w K mg base CX0 1 f fd P__law_draw (spF K R__law_draw) := by
  refine F.ok sc__law_draw (spF_len fun ds d h => by
    first | (obtain ⟨_, rfl, _⟩ := h; rfl) | (obtain ⟨_, _, rfl, _⟩ := h; rfl) | (obtain ⟨_, _, _, rfl, _⟩ := h; rfl) | (obtain ⟨_, _, _, _, rfl, _⟩ := h; rfl) | (rcases h with ⟨rfl, _⟩ | ⟨_, _, rfl, _⟩ <;> rfl)) (fun cdv A outer s H vs Q E hr h => ?_)
  obtain ⟨ds, d, hv, hR, q⟩ := h
  obtain ⟨c, k, m, rfl, hc, hk, hm, rfl⟩ := hR
  cases dvs3i hv
  refine ⟨_, (pss_cons (ps_set (i := 3) sc__law_draw.nd rfl (.inl rfl) (pe_tup (pa_cons pe_int (pa_cons pe_int (pa_cons pe_int (pa_cons pe_int (pa_cons pe_int (pa_cons pe_int (pa_cons pe_int (pa_cons pe_int (pa_cons pe_int (pa_cons pe_int (pa_cons pe_int (pa_cons pe_int (pa_cons pe_int (pa_cons pe_int (pa_cons pe_int (pa_cons pe_int pa_nil))))))))))))))))))
      (pss_one (ps_ret (pe_op op_mod (pe_op op_mod (pe_op op_add (pe_op op_mulX (pv 0) pe_int) (pe_op op_mulX (pv 1) pe_int)) (pe_ix (k_ixT (K := K) rfl) (pv 3) (pe_op op_mod (pv 1) pe_int) (fun _ _ => rfl))) (pv 2))))), ?_⟩
  obtain ⟨g1, g2⟩ := primeAt_get k
  refine q_asgD (K := K) (d := .tuple (lawPrimes.map .int)) (ed_tup (by repeat' first | exact eda_nil | refine eda_cons (ed_int ev_c) ?_) (by show 16 ≤ 100000; decide)) fun pv H1 e1 hp => ?_
  refine s_retD (K := K) (d := .int (lawDraw c k m)) (ed_int ?_) fun w H2 e2 hw => q w H2 (e1.trans e2) hw
  refine ev_op (ev_op (ev_op (ev_op (ev_var rfl) ev_c (rv_I (hc.cm (b := 20) (show (48271 : Int).natAbs < 2 ^ 20 by decide) (by decide)))) (ev_op (ev_var rfl) ev_c (rv_I (hk.cm (b := 20) (show (69621 : Int).natAbs < 2 ^ 20 by decide) (by decide)))) rv_I0)
    (ev_intD (ed_ixT (j := (k % 16).toNat) (i := k % 16) (d := .int (primeAt k)) (ed_var rfl hp) (ev_op (ev_var rfl) ev_c (rv_I (by decide))) (by omega) (by rw [List.getElem?_map, g1]; rfl))) (rv_I g2)) (ev_var rfl) (rv_I hm)

theorem ok__law_triple {P : Program} {w : World} {K : PySem.W.Frag} {mg : Str → Option Value} {base : Heap}  {tL tM : Tok} {cA cL cB cG cH : Addr} {f : Addr} {fd : FuncData} (F : Fun K "_law_triple" "_law_triple" s__law_triple f fd) (T : Txt K mg tL tM cA cL cB cG cH)  :
    FnOk P w K mg base CX0 1 f fd P__law_triple (spF K R__law_triple) := by
  refine F.ok sc__law_triple (spF_len fun ds d h => by
    first | (obtain ⟨_, rfl, _⟩ := h; rfl) | (obtain ⟨_, _, rfl, _⟩ := h; rfl) | (obtain ⟨_, _, _, rfl, _⟩ := h; rfl) | (obtain ⟨_, _, _, _, rfl, _⟩ := h; rfl) | (rcases h with ⟨rfl, _⟩ | ⟨_, _, rfl, _⟩ <;> rfl)) (fun cdv A outer s H vs Q E hr h => ?_)
  obtain ⟨ds, d, hv, hR, q⟩ := h
  obtain ⟨p, rfl, hm, hn, rfl⟩ := hR
  obtain ⟨v, rfl, hx⟩ := dvs1 hv
  refine ⟨_, (pss_cons (ps_asg (pv 0) (pg_tup rfl (pgs_cons (pg_name (i := 1) sc__law_triple.nd rfl (.inl rfl)) (pgs_cons (pg_name (i := 2) sc__law_triple.nd rfl (.inl rfl)) pgs_nil))))
      (pss_one (ps_ret (pe_tup (pa_cons (pe_op op_sub (pe_op op_mulX (pv 1) (pv 1)) (pe_op op_mulX (pv 2) (pv 2))) (pa_cons (pe_op op_mulX (pe_op op_mulX pe_int (pv 1)) (pv 2)) (pa_cons (pe_op op_add (pe_op op_mulX (pv 1) (pv 1)) (pe_op op_mulX (pv 2) (pv 2))) pa_nil))))))), ?_⟩
  refine q_un2i (ed_var rfl hx) fun H1 e1 => ?_
  refine s_retD (K := K) (d := td p) (ed_tup (eda_cons (ed_int ?_) (eda_cons (ed_int ?_) (eda_cons (ed_int ?_) eda_nil))) (by show 3 ≤ 100000; decide)) fun w H3 e3 hw => q w H3 (e1.trans e3) hw
  · exact ev_op (ev_op (ev_var rfl) (ev_var rfl) (rv_I (hm.cm hm (by decide)))) (ev_op (ev_var rfl) (ev_var rfl) (rv_I (hn.cm hn (by decide)))) rv_I0
  · exact ev_op (ev_op ev_c (ev_var rfl) (rv_I (sm2.cm hm (by decide)))) (ev_var rfl) (rv_I ((sm2.mul hm).cm hn (by decide)))
  · exact ev_op (ev_op (ev_var rfl) (ev_var rfl) (rv_I (hm.cm hm (by decide)))) (ev_op (ev_var rfl) (ev_var rfl) (rv_I (hn.cm hn (by decide)))) rv_I0

theorem ok__law_common {P : Program} {w : World} {K : PySem.W.Frag} {mg : Str → Option Value} {base : Heap}  {tL tM : Tok} {cA cL cB cG cH : Addr} {f : Addr} {fd : FuncData} (F : Fun K "_law_common" "_law_common" s__law_common f fd) (T : Txt K mg tL tM cA cL cB cG cH)  :
    FnOk P w K mg base CX0 1 f fd P__law_common (spF K R__law_common) := by
  refine F.ok sc__law_common (spF_len fun ds d h => by
    first | (obtain ⟨_, rfl, _⟩ := h; rfl) | (obtain ⟨_, _, rfl, _⟩ := h; rfl) | (obtain ⟨_, _, _, rfl, _⟩ := h; rfl) | (obtain ⟨_, _, _, _, rfl, _⟩ := h; rfl) | (rcases h with ⟨rfl, _⟩ | ⟨_, _, rfl, _⟩ <;> rfl)) (fun cdv A outer s H vs Q E hr h => ?_)
  obtain ⟨ds, d, hv, hR, q⟩ := h
  obtain ⟨a, b, rfl, rfl⟩ := hR
  cases dvs2i hv
  refine ⟨_, (pss_cons (ps_while PassesOwn.never (pt_cmpR op_gt (pv 1) pe_int (nomark _)) (pss_one (ps_par (i := 0) (j := 1) rfl sc__law_common.nd rfl rfl (by decide) rfl rfl (pa_cons (pv 1) (pa_cons (pe_op op_mod (pv 0) (pv 1)) pa_nil)) (by rfl))))
      (pss_one (ps_ret (pv 0)))), ?_⟩
  refine q_while (fun μ σ' H' => ∃ x y : Nat, σ' = [some (.int x), some (.int y)] ∧ Nat.gcd x y = Nat.gcd a b ∧ Ex H H' ∧ μ = y) b ⟨a, b, rfl, rfl, Ex.refl _, rfl⟩ ?_
  rintro μ σ' H' ⟨x, y, rfl, hg, eH, rfl⟩
  refine ⟨decide ((0 : Int) < (μ : Int)), et_test (ev_op (ev_var rfl) ev_c rv_I0), fun hb H1 e1 => ?_, fun hb H1 e1 => ?_⟩
  · have hb := of_decide_eq_true hb
    have hy : 0 < μ := by omega
    refine ⟨fun σ2 H2 => ∃ x' y' : Nat, σ2 = [some (.int x'), some (.int y')] ∧ Nat.gcd x' y' = Nat.gcd a b ∧ Ex H H2 ∧ y' < μ, fun σ2 H2 ⟨x', y', h1, h2, h3, h4⟩ => ⟨y', h4, x', y', h1, h2, h3, rfl⟩, ?_⟩
    refine s_par (ea_cons (ev_var rfl) (ea_cons (ev_op (ev_var rfl) (ev_var rfl) (rv_I (by omega))) ea_nil)) fun H2 e2 => ⟨μ, x % μ, ?_, ?_, (eH.trans e1).trans e2, Nat.mod_lt _ hy⟩
    · rw [Int.natCast_emod]; rfl
    · rw [← hg, Nat.gcd_comm x μ, Nat.gcd_rec μ x, Nat.gcd_comm]
  · have hb := of_decide_eq_false hb
    have hy : μ = 0 := by omega
    subst hy
    rw [Nat.gcd_zero_right] at hg
    rw [← hg] at q
    exact s_retD (K := K) (ed_int (ev_var rfl)) fun w H2 e2 hw => q w H2 ((eH.trans e1).trans e2) hw

theorem ok__law_whole {P : Program} {w : World} {K : PySem.W.Frag} {mg : Str → Option Value} {base : Heap}  {tL tM : Tok} {cA cL cB cG cH : Addr} {f : Addr} {fd : FuncData} (F : Fun K "_law_whole" "_law_whole" s__law_whole f fd) (T : Txt K mg tL tM cA cL cB cG cH)  :
    FnOk P w K mg base CX0 1 f fd P__law_whole (spF K R__law_whole) := by
  refine F.ok sc__law_whole (spF_len fun ds d h => by
    first | (obtain ⟨_, rfl, _⟩ := h; rfl) | (obtain ⟨_, _, rfl, _⟩ := h; rfl) | (obtain ⟨_, _, _, rfl, _⟩ := h; rfl) | (obtain ⟨_, _, _, _, rfl, _⟩ := h; rfl) | (rcases h with ⟨rfl, _⟩ | ⟨_, _, rfl, _⟩ <;> rfl)) (fun cdv A outer s H vs Q E hr h => ?_)
  obtain ⟨ds, d, hv, hR, q⟩ := h
  obtain ⟨x, rfl, rfl⟩ := hR
  obtain ⟨v, rfl, hx⟩ := dvs1 hv
  refine ⟨_, (pss_one (ps_ret (pe_and (pe_callB (k_isi (K := K) rfl) (by rfl) T.isinstance (by decide +kernel) (pa_cons (pv 0) (pa_cons (pe_bltn (v := .ty "int") (u := .type "int") (by rfl) T.int (by decide +kernel) rfl) pa_nil))) (pe_one (pe_not (pe_callB (k_isi (K := K) rfl) (by rfl) T.isinstance (by decide +kernel) (pa_cons (pv 0) (pa_cons (pe_bltn (v := .ty "bool") (u := .type "bool") (by rfl) T.bool (by decide +kernel) rfl) pa_nil)))))))), ?_⟩
  refine s_retD (K := K) (d := .bool (whole x)) (ed_bl ?_) q
  rw [whole_eq]
  exact ev_andV (ev_isi (ed_var rfl hx) (kit_int x)) fun _ => ev_notV (ev_isi (ed_var rfl hx) (kit_bool x))

theorem ok__law_root {P : Program} {w : World} {K : PySem.W.Frag} {mg : Str → Option Value} {base : Heap}  {tL tM : Tok} {cA cL cB cG cH : Addr} {f : Addr} {fd : FuncData} (F : Fun K "_law_root" "_law_root" s__law_root f fd) (T : Txt K mg tL tM cA cL cB cG cH)  :
    FnOk P w K mg base CX0 1 f fd P__law_root (spF K R__law_root) := by
  refine F.ok sc__law_root (spF_len fun ds d h => by
    first | (obtain ⟨_, rfl, _⟩ := h; rfl) | (obtain ⟨_, _, rfl, _⟩ := h; rfl) | (obtain ⟨_, _, _, rfl, _⟩ := h; rfl) | (obtain ⟨_, _, _, _, rfl, _⟩ := h; rfl) | (rcases h with ⟨rfl, _⟩ | ⟨_, _, rfl, _⟩ <;> rfl)) (fun cdv A outer s H vs Q E hr h => ?_)
  obtain ⟨ds, d, hv, hR, q⟩ := h
  obtain ⟨N, rfl, hN, rfl⟩ := hR
  cases dvs1i hv
  refine ⟨_, (pss_cons (ps_asg (pe_tup (pa_cons pe_int (pa_cons pe_int pa_nil))) (pg_tup rfl (pgs_cons (pg_name (i := 1) sc__law_root.nd rfl (.inl rfl)) (pgs_cons (pg_name (i := 2) sc__law_root.nd rfl (.inl rfl)) pgs_nil))))
      (pss_cons (ps_while PassesOwn.never (pt_cmpR op_le (pe_op op_mulX (pv 2) (pv 2)) (pv 0) (nomark _)) (pss_one (ps_set (i := 2) sc__law_root.nd rfl (.inl rfl) (pe_op op_mulX pe_int (pv 2)))))
      (pss_cons (ps_while PassesOwn.never (pt_cmpR op_gt (pe_op op_sub (pv 2) (pv 1)) pe_int (nomark _)) (pss_cons (ps_set (i := 3) sc__law_root.nd rfl (.inl rfl) (pe_op op_fdivP (pe_op op_add (pv 1) (pv 2)) pe_int))
      (pss_one (ps_asg (pe_ifExp (pt_cmpR op_le (pe_op op_mulX (pv 3) (pv 3)) (pv 0) (nomark _)) (pe_tup (pa_cons (pv 3) (pa_cons (pv 2) pa_nil))) (pe_tup (pa_cons (pv 1) (pa_cons (pv 3) pa_nil)))) (pg_tup rfl (pgs_cons (pg_name (i := 1) sc__law_root.nd rfl (.inl rfl)) (pgs_cons (pg_name (i := 2) sc__law_root.nd rfl (.inl rfl)) pgs_nil)))))))
      (pss_one (ps_ret (pv 1)))))), ?_⟩
  refine q_un2i (a := 0) (b := 1) (ed_tup (eda_cons (ed_int ev_c) (eda_cons (ed_int ev_c) eda_nil)) (by show 2 ≤ 100000; decide)) fun H1 e1 => ?_
  refine q_while (fun μ σ' H' => ∃ h : Nat, μ = 2 * N + 2 - h ∧ σ' = [some (.int N), some (.int 0), some (.int h), none] ∧ 1 ≤ h ∧ h ≤ 2 * N + 1 ∧ Ex H H') (2 * N + 2 - 1) ⟨1, rfl, rfl, Nat.le_refl _, by omega, e1⟩ ?_
  rintro μ σ' H' ⟨h, rfl, rfl, h1, h2, eH⟩
  refine ⟨decide (h * h ≤ N), et_is (et_test (ev_op (ev_op (ev_var rfl) (ev_var rfl) (rv_I (cm_small (by omega) (by omega)))) (ev_var rfl) rv_I0)) dec_sq, fun hb H4 e4 => ?_, fun hb H4 e4 => ?_⟩
  · have hb := of_decide_eq_true hb
    have hle : h ≤ N := by
      have : 1 * h ≤ h * h := Nat.mul_le_mul_right _ h1
      omega
    refine ⟨fun σ2 H2' => σ2 = [some (.int N), some (.int 0), some (.int ((2 * h : Nat) : Int)), none] ∧ Ex H H2', ?_, ?_⟩
    · rintro σ2 H2' ⟨g1, g2⟩
      exact ⟨2 * N + 2 - 2 * h, by omega, 2 * h, rfl, g1, by omega, by omega, g2⟩
    refine s_asg (v := .int ((2 * h : Nat) : Int)) (ev_is (ev_op ev_c (ev_var rfl) (rv_I (cm_small (by omega) (by omega)))) (by rw [Int.natCast_mul]; rfl)) fun H5 e5 => ⟨rfl, (eH.trans e4).trans e5⟩
  · have hb := of_decide_eq_false hb
    refine q_while (fun μ σ' H' => ∃ (l u : Nat) (x : Option V), μ = u - l ∧ σ' = [some (.int N), some (.int l), some (.int u), x] ∧ l < u ∧ u ≤ 2 * N + 1 ∧ l * l ≤ N ∧ N < u * u ∧ Ex H H') (h - 0) ⟨0, h, none, rfl, rfl, h1, h2, Nat.zero_le _, by omega, eH.trans e4⟩ ?_
    rintro μ σ' H5 ⟨l, u, x, rfl, rfl, g1, g2, g3, g4, e5⟩
    refine ⟨decide (1 < u - l), et_is (et_test (ev_op (ev_op (ev_var rfl) (ev_var rfl) rv_I0) ev_c rv_I0)) ?_, fun hb H6 e6 => ?_, fun hb H6 e6 => ?_⟩
    · by_cases z : 1 < u - l
      · rw [decide_eq_true z]; exact decide_eq_true (by omega)
      · rw [decide_eq_false z]; exact decide_eq_false (by omega)
    · have hb := of_decide_eq_true hb
      refine ⟨fun σ2 H2' => ∃ (l' u' : Nat) (x : Option V), u' - l' < u - l ∧ σ2 = [some (.int N), some (.int l'), some (.int u'), x] ∧ l' < u' ∧ u' ≤ 2 * N + 1 ∧ l' * l' ≤ N ∧ N < u' * u' ∧ Ex H H2', ?_, ?_⟩
      · rintro σ2 H2' ⟨l', u', x, k1, k2, k3, k4, k5, k6, k7⟩
        exact ⟨u' - l', k1, l', u', x, rfl, k2, k3, k4, k5, k6, k7⟩
      refine q_asg (v := .int (((l + u) / 2 : Nat) : Int)) (ev_is (ev_op (ev_op (ev_var rfl) (ev_var rfl) rv_I0) ev_c (rv_I (divs (by decide) (by decide)))) (by rw [Int.natCast_ediv, Int.natCast_add]; rfl)) fun H7 e7 => ?_
      generalize hm : (l + u) / 2 = m
      have m1 : l < m ∧ m < u := by omega
      by_cases z : m * m ≤ N
      · refine s_un2i (K := K) (a := (m : Int)) (b := (u : Int)) (ed_if (b := true) (et_is (et_test (ev_op (ev_op (ev_var rfl) (ev_var rfl) (rv_I (cm_small (by omega) (by omega)))) (ev_var rfl) rv_I0)) (by rw [dec_sq]; exact decide_eq_true z)) (fun _ => ed_tup (eda_cons (ed_int (ev_var rfl)) (eda_cons (ed_int (ev_var rfl)) eda_nil)) (by show 2 ≤ 100000; decide)) fun y => Bool.noConfusion y) fun H8 e8 => ?_
        exact ⟨m, u, some (.int m), by omega, rfl, m1.2, g2, z, g4, ((e5.trans e6).trans e7).trans e8⟩
      · refine s_un2i (K := K) (a := (l : Int)) (b := (m : Int)) (ed_if (b := false) (et_is (et_test (ev_op (ev_op (ev_var rfl) (ev_var rfl) (rv_I (cm_small (by omega) (by omega)))) (ev_var rfl) rv_I0)) (by rw [dec_sq]; exact decide_eq_false z)) (fun y => Bool.noConfusion y) fun _ => ed_tup (eda_cons (ed_int (ev_var rfl)) (eda_cons (ed_int (ev_var rfl)) eda_nil)) (by show 2 ≤ 100000; decide)) fun H8 e8 => ?_
        exact ⟨l, m, some (.int m), by omega, rfl, m1.1, by omega, g3, by omega, ((e5.trans e6).trans e7).trans e8⟩
    · have hb := of_decide_eq_false hb
      have eu : u = l + 1 := by omega
      subst eu
      rw [isq_of g3 g4] at q
      exact s_retD (K := K) (d := .int (l : Int)) (ed_int (ev_var rfl)) fun w H7 e7 hw => q w H7 ((e5.trans e6).trans e7) hw

theorem ok__law_says {P : Program} {w : World} {K : PySem.W.Frag} {mg : Str → Option Value} {base : Heap}  {tL tM : Tok} {cA cL cB cG cH : Addr} {f : Addr} {fd : FuncData} (F : Fun K "_law_says" "_law_says" s__law_says f fd) (T : Txt K mg tL tM cA cL cB cG cH)  :
    FnOk P w K mg base CX0 1 f fd P__law_says (spF K R__law_says) := by
  refine F.ok sc__law_says (spF_len fun ds d h => by
    first | (obtain ⟨_, rfl, _⟩ := h; rfl) | (obtain ⟨_, _, rfl, _⟩ := h; rfl) | (obtain ⟨_, _, _, rfl, _⟩ := h; rfl) | (obtain ⟨_, _, _, _, rfl, _⟩ := h; rfl) | (rcases h with ⟨rfl, _⟩ | ⟨_, _, rfl, _⟩ <;> rfl)) (fun cdv A outer s H vs Q E hr h => ?_)
  obtain ⟨ds, d, hv, hR, q⟩ := h
  obtain ⟨a, b, rfl, rfl⟩ := hR
  obtain ⟨v, w, rfl, hx, hw⟩ := dvs2 hv
  cases hx
  cases hw
  refine ⟨_, (pss_one (ps_ret (pe_and (pe_callB (k_isi (K := K) rfl) (by rfl) T.isinstance (by decide +kernel) (pa_cons (pv 0) (pa_cons (pe_bltn (v := .ty "bool") (u := .type "bool") (by rfl) T.bool (by decide +kernel) rfl) pa_nil))) (pe_one (pe_cmpR op_eq (pv 0) (pv 1) (nomark _)))))), ?_⟩
  refine s_retD (K := K) (d := .bool (a == b)) (ed_bl ?_) q
  refine ev_is (ev_andV (a := true) (ev_isi (ed_bl (ev_var rfl)) (kit_bool (.bool a))) fun _ => ev_op (ev_var rfl) (ev_var rfl) (rv_eq rfl)) ?_
  cases a <;> cases b <;> rfl

theorem ok_are_whole {P : Program} {w : World} {K : PySem.W.Frag} {mg : Str → Option Value} {base : Heap}  {tL tM : Tok} {cA cL cB cG cH : Addr} {f : Addr} {fd : FuncData} (F : Fun K "are_whole" "are_whole" s_are_whole f fd) (T : Txt K mg tL tM cA cL cB cG cH) (C_is_whole : Cal P w K mg base CX0 "is_whole" 1 P_is_whole (spF K R_is_whole)) :
    FnOk P w K mg base CX0 2 f fd P_are_whole (spF K R_are_whole) := by
  refine F.ok sc_are_whole (spF_len fun ds d h => by
    first | (obtain ⟨_, rfl, _⟩ := h; rfl) | (obtain ⟨_, _, rfl, _⟩ := h; rfl) | (obtain ⟨_, _, _, rfl, _⟩ := h; rfl) | (obtain ⟨_, _, _, _, rfl, _⟩ := h; rfl) | (rcases h with ⟨rfl, _⟩ | ⟨_, _, rfl, _⟩ <;> rfl)) (fun cdv A outer s H vs Q E hr h => ?_)
  obtain ⟨ds, d, hv, hR, q⟩ := h
  obtain ⟨x, n, rfl, hz, rfl⟩ := hR
  obtain ⟨v, w, rfl, hx, hn⟩ := dvs2 hv
  cases dvi hn
  refine ⟨_, (pss_one (ps_ret (pe_and (pe_callB (k_isi (K := K) rfl) (by rfl) T.isinstance (by decide +kernel) (pa_cons (pv 0) (pa_cons (pe_bltn (v := .ty "tuple") (u := .type "tuple") (by rfl) T.tuple (by decide +kernel) rfl) pa_nil))) (pe_and (pe_cmpR op_eq (pe_callB (k_len (K := K) rfl) (by rfl) T.len (by decide +kernel) (pa_cons (pv 0) pa_nil)) (pv 1) (nomark _)) (pe_one (pe_callB (k_all (K := K) rfl rfl) (by rfl) T.all (by decide +kernel) (pa_cons (pe_lc (own := [("part", 2)]) rfl sc_are_whole.nd (pi_tup (pv 0)) (blkOk_by (own := [("part", 2)]) (N := N_are_whole) (sc := defScope s_are_whole) (by decide +kernel)) (fun _ _ _ _ _ => (pg_name (i := 2) sc_are_whole.nd rfl (.inl rfl))) (fun _ _ _ _ _ => pts_nil) (fun _ _ _ _ _ => (pe_cal C_is_whole (hr.mono (by decide)) (by rfl) pass0 (pa_cons (pv 2) pa_nil)))) pa_nil))))))), ?_⟩
  refine s_retD (K := K) (d := .bool (areWhole x n)) (ed_bl ?_) q
  have e : areWhole x n = (isTuple x && areWhole x n) := by cases x <;> rfl
  rw [e]
  refine ev_andV (ev_isi (ed_var rfl hx) (kit_tuple x)) fun hT => ?_
  obtain ⟨xs, rfl⟩ := isTuple_yes hT
  refine ev_andV (ev_op (ev_lenT (ed_var rfl hx)) (ev_var rfl) rv_eqI) fun _ => ?_
  exact all_lcT whole (ed_var rfl hx) (hz xs rfl) (fun _ => rfl) fun d x H1 e hd hv => ev_blD (ed_call (eda_cons (ed_var rfl hv) eda_nil) ⟨d, rfl, rfl⟩)

theorem ok_is_side {P : Program} {w : World} {K : PySem.W.Frag} {mg : Str → Option Value} {base : Heap}  {tL tM : Tok} {cA cL cB cG cH : Addr} {f : Addr} {fd : FuncData} (F : Fun K "is_side" "is_side" s_is_side f fd) (T : Txt K mg tL tM cA cL cB cG cH) (C_is_whole : Cal P w K mg base CX0 "is_whole" 1 P_is_whole (spF K R_is_whole)) :
    FnOk P w K mg base CX0 2 f fd P_is_side (spF K R_is_side) := by
  refine F.ok sc_is_side (spF_len fun ds d h => by
    first | (obtain ⟨_, rfl, _⟩ := h; rfl) | (obtain ⟨_, _, rfl, _⟩ := h; rfl) | (obtain ⟨_, _, _, rfl, _⟩ := h; rfl) | (obtain ⟨_, _, _, _, rfl, _⟩ := h; rfl) | (rcases h with ⟨rfl, _⟩ | ⟨_, _, rfl, _⟩ <;> rfl)) (fun cdv A outer s H vs Q E hr h => ?_)
  obtain ⟨ds, d, hv, hR, q⟩ := h
  obtain ⟨x, rfl, rfl⟩ := hR
  obtain ⟨v, rfl, hx⟩ := dvs1 hv
  refine ⟨_, (pss_one (ps_ret (pe_and (pe_cal C_is_whole (hr.mono (by decide)) (by rfl) pass0 (pa_cons (pv 0) pa_nil)) (pe_one (pe_chain op_le op_le (pe_glob (v := .int 2) (by rfl) T.LEAST ⟨_, rfl⟩) (pv 0) (pe_glob (v := .int 1000000) (by rfl) T.GREATEST ⟨_, rfl⟩)))))), ?_⟩
  refine s_retD (K := K) (d := .bool (isSide x)) (ed_bl ?_) q
  cases hw : whole x with
  | false =>
    rw [isSide_no hw]
    exact ev_andV (a := false) (b := true) (ev_is (ev_blD (ed_call (eda_cons (ed_var rfl hx) eda_nil) ⟨x, rfl, rfl⟩)) (by rw [hw])) (fun z => Bool.noConfusion z)
  | true =>
    obtain ⟨i, rfl⟩ := whole_yes hw
    cases dvi hx
    show Ev _ _ _ (.bl (true && (decide (2 ≤ i) && decide (i ≤ 1000000))))
    exact ev_andV (ev_blD (ed_call (eda_cons (ed_int (ev_var rfl)) eda_nil) ⟨.int i, rfl, rfl⟩)) fun _ => ev_chain ev_c (ev_var rfl) rv_I0 (fun _ => ev_c) fun _ => rv_I0

theorem ok_barring_primes {P : Program} {w : World} {K : PySem.W.Frag} {mg : Str → Option Value} {base : Heap}  {tL tM : Tok} {cA cL cB cG cH : Addr} {f : Addr} {fd : FuncData} (F : Fun K "barring_primes" "barring_primes" s_barring_primes f fd) (T : Txt K mg tL tM cA cL cB cG cH) (C__primes_of : Cal P w K mg base CX0 "_primes_of" 1 P__primes_of (spL K R__primes_of)) :
    FnOk P w K mg base CX0 2 f fd P_barring_primes (spL K R_barring_primes) := by
  refine F.ok sc_barring_primes (spL_len fun ds es h => by
    first | (obtain ⟨_, rfl, _⟩ := h; rfl) | (obtain ⟨_, _, rfl, _⟩ := h; rfl) | (obtain ⟨_, _, _, rfl, _⟩ := h; rfl) | (obtain ⟨_, _, _, _, rfl, _⟩ := h; rfl) | (rcases h with ⟨rfl, _⟩ | ⟨_, _, rfl, _⟩ <;> rfl)) (fun cdv A outer s H vs Q E hr h => ?_)
  obtain ⟨ds, es, hv, hR, q⟩ := h
  obtain ⟨N, rfl, hN, rfl⟩ := hR
  cases dvs1i hv
  refine ⟨_, (pss_one (ps_ret (pe_lc (own := [("prime", 1)]) rfl sc_barring_primes.nd (pi_list (pe_cal C__primes_of (hr.mono (by decide)) (by rfl) pass0 (pa_cons (pv 0) pa_nil))) (blkOk_by (own := [("prime", 1)]) (N := N_barring_primes) (sc := defScope s_barring_primes) (by decide +kernel)) (fun _ _ _ _ _ => (pg_name (i := 1) sc_barring_primes.nd rfl (.inl rfl))) (fun _ _ _ _ _ => (pts_one (PW.pt (pw_or (pt_cmpR op_eq (pv 1) pe_int (nomark _)) (pw_or1 (pt_cmpR op_eq (pe_op op_mod (pv 1) pe_int) pe_int (nomark _))))))) (fun _ _ _ _ _ => (pv 1))))), ?_⟩
  rw [← barring_data] at q
  refine s_retLD (eld_lcL (ds := (primesOf N).map ni) barF intF intF_I (EvLD.ev (eld_call (eda_cons (ed_int (ev_var rfl)) eda_nil) ⟨N, rfl, hN, rfl⟩)) ?_ (fun _ => rfl) (fun d x H1 e1 hd hx => ?_) fun d x H1 e1 hd hx hc => ?_) q
  · rw [List.length_map]
    exact Nat.le_trans (primes_len (N := N) (by have := hN.lo; omega) hN.hi) (by decide)
  · obtain ⟨p, hp, rfl⟩ := List.mem_map.mp hd
    cases dvi hx
    exact et_or (et_test (ev_op (ev_var rfl) ev_c rv_eqI)) fun _ => et_test (ev_op (ev_op (ev_var rfl) ev_c (rv_I (by decide))) ev_c rv_eqI)
  · obtain ⟨p, hp, rfl⟩ := List.mem_map.mp hd
    cases dvi hx
    exact ed_int (ev_var rfl)

theorem ok__law_value {P : Program} {w : World} {K : PySem.W.Frag} {mg : Str → Option Value} {base : Heap}  {tL tM : Tok} {cA cL cB cG cH : Addr} {f : Addr} {fd : FuncData} (F : Fun K "_law_value" "_law_value" s__law_value f fd) (T : Txt K mg tL tM cA cL cB cG cH) (C__law_draw : Cal P w K mg base CX0 "_law_draw" 1 P__law_draw (spF K R__law_draw)) :
    FnOk P w K mg base CX0 2 f fd P__law_value (spF K R__law_value) := by
  refine F.ok sc__law_value (spF_len fun ds d h => by
    first | (obtain ⟨_, rfl, _⟩ := h; rfl) | (obtain ⟨_, _, rfl, _⟩ := h; rfl) | (obtain ⟨_, _, _, rfl, _⟩ := h; rfl) | (obtain ⟨_, _, _, _, rfl, _⟩ := h; rfl) | (rcases h with ⟨rfl, _⟩ | ⟨_, _, rfl, _⟩ <;> rfl)) (fun cdv A outer s H vs Q E hr h => ?_)
  obtain ⟨ds, d, hv, hR, q⟩ := h
  obtain ⟨c, k, lim, rfl, hc, hk, hm, rfl⟩ := hR
  cases dvs3i hv
  refine ⟨_, (pss_cons (ps_if (pt_cmpR op_ge (pv 0) (pe_op op_pow pe_int pe_int) (nomark _)) (pss_one (ps_ret (pe_op op_mod (pe_op op_fdivP (pe_op op_sub (pv 0) (pe_op op_pow pe_int pe_int)) (pe_ix (k_ixT (K := K) rfl) (pe_tup (pa_cons pe_int (pa_cons pe_int (pa_cons pe_int (pa_cons pe_int pa_nil))))) (pe_op op_mod (pv 1) pe_int) (fun _ _ => rfl))) (pe_op op_pow pe_int pe_int)))) pss_nil)
      (pss_one (ps_ret (pe_cal C__law_draw (hr.mono (by decide)) (by rfl) pass0 (pa_cons (pe_op op_mulX (pe_op op_add (pv 0) (pe_op op_mulX pe_int (pv 1))) (pe_op op_add (pe_op op_add (pv 0) (pe_op op_mulX pe_int (pv 1))) pe_int)) (pa_cons (pe_op op_add (pe_op op_mod (pv 1) pe_int) pe_int) (pa_cons (pv 2) pa_nil))))))), ?_⟩
  have p18 : Ev (tOp (rI CPow fun i j => .int (i ^ j.toNat)) (tC (.int 10)) (tC (.int 18))) (start N__law_value [.int c, .int k, .int lim]) H (.int E18) := ev_is (ev_op ev_c ev_c (rv_I ⟨by decide, by decide, by decide⟩)) (congrArg V.int pow18)
  have p40 : Ev (tOp (rI CPow fun i j => .int (i ^ j.toNat)) (tC (.int 10)) (tC (.int 40))) (start N__law_value [.int c, .int k, .int lim]) H (.int E40) := ev_is (ev_op ev_c ev_c (rv_I ⟨by decide, by decide, by decide⟩)) (congrArg V.int pow40)
  obtain ⟨g1, g2, g3⟩ := fourAt_get k
  refine q_when (et_test (ev_op (ev_var rfl) p18 rv_I0)) (fun hb H1 e1 => ?_) fun hb H1 e1 => ?_
  · have hb := of_decide_eq_true hb
    have el : lawValue c k lim = (c - E18) / fourAt k % E40 := if_pos hb
    rw [el] at q
    refine s_retD (K := K) (ed_int ?_) fun w H2 e2 hw => q w H2 (e1.trans e2) hw
    refine ev_op (ev_op (ev_op (ev_var rfl) (p18.mono e1) rv_I0) (ev_intD (ed_ixT (j := (k % 4).toNat) (i := k % 4) (d := .int (fourAt k)) (ds := ([1, 7, 49, 343] : List Int).map .int) (ed_tup (by repeat' first | exact eda_nil | refine eda_cons (ed_int ev_c) ?_) (by show 4 ≤ 100000; decide)) (ev_op (ev_var rfl) ev_c (rv_I (by decide))) (by omega) (by rw [List.getElem?_map, g1]; rfl))) (rv_I (divs g2 (by omega)))) (p40.mono e1) (rv_I (by decide))
  · have hb := of_decide_eq_false hb
    have el : lawValue c k lim = lawDraw ((c + 977 * k) * (c + 31 * k + 5)) (k % 9 + 1) lim := if_neg hb
    rw [el] at q
    have k1 : Sm 1048578 (c + 977 * k) := Sm.add hc (Sm.up (Sm.mul (a := 20) (show (977 : Int).natAbs < 2 ^ 20 by decide) hk) (by decide))
    have k2 : Sm 1048579 (c + 31 * k + 5) := Sm.add (Sm.add hc (Sm.up (Sm.mul (a := 20) (show (31 : Int).natAbs < 2 ^ 20 by decide) hk) (by decide))) (Sm.up (a := 20) (show (5 : Int).natAbs < 2 ^ 20 by decide) (by decide))
    have k3 : Sm 3000000 (k % 9 + 1) := by
      refine Sm.up (a := 20) ?_ (by decide)
      have e20 : (2 : Nat) ^ 20 = 1048576 := by decide
      show (k % 9 + 1).natAbs < 2 ^ 20
      rw [e20]
      omega
    refine s_retD (K := K) (ed_call (eda_cons (ed_int (ev_op (ev_op (ev_var rfl) (ev_op ev_c (ev_var rfl) (rv_I (Sm.cm (a := 20) (show (977 : Int).natAbs < 2 ^ 20 by decide) hk (by decide)))) rv_I0) (ev_op (ev_op (ev_var rfl) (ev_op ev_c (ev_var rfl) (rv_I (Sm.cm (a := 20) (show (31 : Int).natAbs < 2 ^ 20 by decide) hk (by decide)))) rv_I0) ev_c rv_I0) (rv_I (k1.cm k2 (by decide)))))
      (eda_cons (ed_int (ev_op (ev_op (ev_var rfl) ev_c (rv_I (by decide))) ev_c rv_I0)) (eda_cons (ed_int (ev_var rfl)) eda_nil))) ⟨_, _, _, rfl, (k1.mul k2).up (by decide), k3, hm, rfl⟩) fun w H2 e2 hw => q w H2 (e1.trans e2) hw

theorem ok__law_are {P : Program} {w : World} {K : PySem.W.Frag} {mg : Str → Option Value} {base : Heap}  {tL tM : Tok} {cA cL cB cG cH : Addr} {f : Addr} {fd : FuncData} (F : Fun K "_law_are" "_law_are" s__law_are f fd) (T : Txt K mg tL tM cA cL cB cG cH) (C__law_whole : Cal P w K mg base CX0 "_law_whole" 1 P__law_whole (spF K R__law_whole)) :
    FnOk P w K mg base CX0 2 f fd P__law_are (spF K R__law_are) := by
  refine F.ok sc__law_are (spF_len fun ds d h => by
    first | (obtain ⟨_, rfl, _⟩ := h; rfl) | (obtain ⟨_, _, rfl, _⟩ := h; rfl) | (obtain ⟨_, _, _, rfl, _⟩ := h; rfl) | (obtain ⟨_, _, _, _, rfl, _⟩ := h; rfl) | (rcases h with ⟨rfl, _⟩ | ⟨_, _, rfl, _⟩ <;> rfl)) (fun cdv A outer s H vs Q E hr h => ?_)
  obtain ⟨ds, d, hv, hR, q⟩ := h
  obtain ⟨x, n, rfl, hz, rfl⟩ := hR
  obtain ⟨v, w, rfl, hx, hn⟩ := dvs2 hv
  cases dvi hn
  refine ⟨_, (pss_one (ps_ret (pe_and (pe_callB (k_isi (K := K) rfl) (by rfl) T.isinstance (by decide +kernel) (pa_cons (pv 0) (pa_cons (pe_bltn (v := .ty "tuple") (u := .type "tuple") (by rfl) T.tuple (by decide +kernel) rfl) pa_nil))) (pe_and (pe_cmpR op_eq (pe_callB (k_len (K := K) rfl) (by rfl) T.len (by decide +kernel) (pa_cons (pv 0) pa_nil)) (pv 1) (nomark _)) (pe_one (pe_callB (k_all (K := K) rfl rfl) (by rfl) T.all (by decide +kernel) (pa_cons (pe_lc (own := [("_law_one", 2)]) rfl sc__law_are.nd (pi_tup (pv 0)) (blkOk_by (own := [("_law_one", 2)]) (N := N__law_are) (sc := defScope s__law_are) (by decide +kernel)) (fun _ _ _ _ _ => (pg_name (i := 2) sc__law_are.nd rfl (.inl rfl))) (fun _ _ _ _ _ => pts_nil) (fun _ _ _ _ _ => (pe_cal C__law_whole (hr.mono (by decide)) (by rfl) pass0 (pa_cons (pv 2) pa_nil)))) pa_nil))))))), ?_⟩
  refine s_retD (K := K) (d := .bool (areWhole x n)) (ed_bl ?_) q
  have e : areWhole x n = (isTuple x && areWhole x n) := by cases x <;> rfl
  rw [e]
  refine ev_andV (ev_isi (ed_var rfl hx) (kit_tuple x)) fun hT => ?_
  obtain ⟨xs, rfl⟩ := isTuple_yes hT
  refine ev_andV (ev_op (ev_lenT (ed_var rfl hx)) (ev_var rfl) rv_eqI) fun _ => ?_
  exact all_lcT whole (ed_var rfl hx) (hz xs rfl) (fun _ => rfl) fun d x H1 e hd hv => ev_blD (ed_call (eda_cons (ed_var rfl hv) eda_nil) ⟨d, rfl, rfl⟩)

theorem ok__law_longest {P : Program} {w : World} {K : PySem.W.Frag} {mg : Str → Option Value} {base : Heap}  {tL tM : Tok} {cA cL cB cG cH : Addr} {f : Addr} {fd : FuncData} (F : Fun K "_law_longest" "_law_longest" s__law_longest f fd) (T : Txt K mg tL tM cA cL cB cG cH) (C__law_root : Cal P w K mg base CX0 "_law_root" 1 P__law_root (spF K R__law_root)) (C__law_common : Cal P w K mg base CX0 "_law_common" 1 P__law_common (spF K R__law_common)) (C__law_triple : Cal P w K mg base CX0 "_law_triple" 1 P__law_triple (spF K R__law_triple)) :
    FnOk P w K mg base CX0 2 f fd P__law_longest (spL K R__law_longest) := by
  refine F.ok sc__law_longest (spL_len fun ds es h => by
    first | (obtain ⟨_, rfl, _⟩ := h; rfl) | (obtain ⟨_, _, rfl, _⟩ := h; rfl) | (obtain ⟨_, _, _, rfl, _⟩ := h; rfl) | (obtain ⟨_, _, _, _, rfl, _⟩ := h; rfl) | (rcases h with ⟨rfl, _⟩ | ⟨_, _, rfl, _⟩ <;> rfl)) (fun cdv A outer s H vs Q E hr h => ?_)
  obtain ⟨ds, es, hv, hR, q⟩ := h
  obtain ⟨N, rfl, hN, rfl⟩ := hR
  cases dvs1i hv
  refine ⟨_, (pss_cons (ps_par (i := 1) (j := 2) rfl sc__law_longest.nd rfl rfl (by decide) rfl rfl (pa_cons (pe_lst pa_nil) (pa_cons (pe_cal C__law_root (hr.mono (by decide)) (by rfl) pass0 (pa_cons (pv 0) pa_nil)) pa_nil)) (by rfl))
      (pss_cons (ps_for PassesOwn.never rfl (pi_range2 (by rfl) T.range (pa_cons pe_int (pa_cons (pe_op op_add (pv 2) pe_int) pa_nil))) (pg_name (i := 3) sc__law_longest.nd rfl (.inl rfl)) (pss_cons (ps_while PassesOwn.never (pt_cmpR op_gt (pe_op op_add (pe_op op_mulX (pv 2) (pv 2)) (pe_op op_mulX (pv 3) (pv 3))) (pv 0) (nomark _)) (pss_one (ps_set (i := 2) sc__law_longest.nd rfl (.inl rfl) (pe_op op_sub (pv 2) pe_int))))
      (pss_one (ps_if (PW.pt (pw_and (pt_cmpR op_gt (pv 2) (pv 3) (nomark _)) (pw_and (pt_cmpR op_eq (pe_op op_add (pe_op op_mulX (pv 2) (pv 2)) (pe_op op_mulX (pv 3) (pv 3))) (pv 0) (nomark _)) (pw_and (pt_cmpR op_eq (pe_op op_mod (pe_op op_add (pv 2) (pv 3)) pe_int) pe_int (nomark _)) (pw_and1 (pt_cmpR op_eq (pe_cal C__law_common (hr.mono (by decide)) (by rfl) pass0 (pa_cons (pv 2) (pa_cons (pv 3) pa_nil))) pe_int (nomark _))))))) (pss_one (ps_expr (pe_bm PySem.F.plainAttrs_list PySem.F.slot_list_append PySem.F.type_list_append mt_append (pv 1) (pa_cons (pe_cal C__law_triple (hr.mono (by decide)) (by rfl) pass0 (pa_cons (pe_tup (pa_cons (pv 2) (pa_cons (pv 3) pa_nil))) pa_nil)) pa_nil)))) pss_nil))))
      (pss_one (ps_ret (pe_callB (cr_sortedN (K := K) rfl (hu64 hr)) (by rfl) T.sorted (by decide +kernel) (pa_cons (pv 1) pa_nil)))))), ?_⟩
  have n2 := hN.lo
  have nM := hN.hi
  have hs := isq_small (n := N) nM
  have hsq : isq N = PySem.Float64.isqrt N := rfl
  refine q_parLD (K := K) (d := .int ((isq N : Nat) : Int)) (eld_lst eda_nil (by show 0 ≤ 100000; decide)) (ed_call (eda_cons (ed_int (ev_var rfl)) eda_nil) ⟨N, rfl, by omega, rfl⟩) fun l vs w H1 nl e1 hl hvs hw => ?_
  cases dvi hw
  refine q_forR2 (lo := 1) (n := (isq N : Int) + 1) (ea_cons ev_c (ea_cons (ev_op (ev_var rfl) ev_c rv_I0) ea_nil)) (by omega)
    (fun i σ' H' => ∃ (m : Nat) (xs : List V) (x : Option V), σ' = [some (.int N), some (.ref l), some (.int m), x] ∧ m ≤ 1000 ∧ N < (m + 1) * (m + 1) + (i + 1) * (i + 1) ∧ Ex H H' ∧ H' l = some (.lst xs) ∧ DVs K H' xs (few (fun i => lonT N (lonC N i)) (fun i => tn (lonC N i)) i))
    (fun H2 e2 => ⟨isq N, vs, none, rfl, hs, by have := isq_hi N; omega, e1.trans e2, e2 _ _ hl, hvs.ex e2⟩) (fun i σ' H' hi p => ?_) fun σ' H' p => ?_
  · obtain ⟨m, xs, x, rfl, m1, m2, eH, hl', hxs⟩ := p
    have hi' : i + 1 ≤ isq N := by omega
    have hii : (i + 1) * (i + 1) ≤ N := Nat.le_trans (Nat.mul_le_mul hi' hi') (isq_lo N)
    have ei : (1 : Int) + (i : Int) = ((i + 1 : Nat) : Int) := by omega
    rw [ei]
    refine q_while (fun μ σ' H' => ∃ (m : Nat), μ = m ∧ σ' = [some (.int N), some (.ref l), some (.int m), some (.int ((i + 1 : Nat) : Int))] ∧ m ≤ 1000 ∧ N < (m + 1) * (m + 1) + (i + 1) * (i + 1) ∧ Ex H H' ∧ H' l = some (.lst xs) ∧ DVs K H' xs (few (fun i => lonT N (lonC N i)) (fun i => tn (lonC N i)) i)) m ⟨m, rfl, rfl, m1, m2, eH, hl', hxs⟩ ?_
    rintro m σ' H3 ⟨_, rfl, rfl, m1, m2, e3, hl3, hx3⟩
    refine ⟨decide (N < m * m + (i + 1) * (i + 1)), et_is (et_test (ev_op (ev_op (ev_op (ev_var rfl) (ev_var rfl) (rv_I (cm_small (by omega) (by omega)))) (ev_op (ev_var rfl) (ev_var rfl) (rv_I (cm_small (by omega) (by omega)))) rv_I0) (ev_var rfl) rv_I0)) dec_gt2, fun hb H4 e4 => ?_, fun hb H4 e4 => ?_⟩
    · have hb := of_decide_eq_true hb
      have hm : 1 ≤ m := Nat.pos_of_ne_zero fun z => by rw [z] at hb; omega
      refine ⟨fun σ2 H2' => σ2 = [some (.int N), some (.ref l), some (.int ((m - 1 : Nat) : Int)), some (.int ((i + 1 : Nat) : Int))] ∧ Ex H H2' ∧ H2' l = some (.lst xs) ∧ DVs K H2' xs (few (fun i => lonT N (lonC N i)) (fun i => tn (lonC N i)) i), ?_, ?_⟩
      · rintro σ2 H2' ⟨g1, g2, g3, g4⟩
        exact ⟨m - 1, by omega, m - 1, rfl, g1, by omega, by rw [show m - 1 + 1 = m by omega]; exact hb, g2, g3, g4⟩
      refine s_asg (v := .int ((m - 1 : Nat) : Int)) (ev_is (ev_op (ev_var rfl) ev_c rv_I0) (congrArg V.int (by omega))) fun H5 e5 => ⟨rfl, (e3.trans e4).trans e5, e5 _ _ (e4 _ _ hl3), hx3.ex (e4.trans e5)⟩
    · have hb := of_decide_eq_false hb
      have hm : isq (N - (i + 1) * (i + 1)) = m := isq_of (by omega) (by omega)
      have ec : lonC N i = (m, i + 1) := by unfold lonC; rw [hm]
      refine s_whenAppD (K := K) (H0 := H) (b := lonT N (lonC N i)) (d := tn (lonC N i)) (e3.trans e4) nl (e4 _ _ hl3) (hx3.ex e4) (intD_few (fun i => intD_td _) i) (intD_td _) (Nat.lt_of_le_of_lt (few_len i) (by omega)) ?_ (ev_var rfl) (fun hb => ?_) fun xs' H5 e5 hl5 hx5 => ⟨m, xs', some (.int ((i + 1 : Nat) : Int)), rfl, m1, by
          have h1 : (i + 1) * (i + 1) ≤ (i + 1 + 1) * (i + 1 + 1) := Nat.mul_le_mul (by omega) (by omega)
          omega, e5, hl5, by rw [few_succ]; exact hx5⟩
      · rw [ec]
        refine et_is (et_and (et_test (ev_op (ev_var rfl) (ev_var rfl) rv_I0)) fun _ => et_and (et_test (ev_op (ev_op (ev_op (ev_var rfl) (ev_var rfl) (rv_I (cm_small (by omega) (by omega)))) (ev_op (ev_var rfl) (ev_var rfl) (rv_I (cm_small (by omega) (by omega)))) rv_I0) (ev_var rfl) rv_eqI)) fun _ => et_and (et_test (ev_op (ev_op (ev_op (ev_var rfl) (ev_var rfl) rv_I0) ev_c (rv_I (show (0 : Int) < 2 by decide))) ev_c rv_eqI)) fun _ =>
          et_test (ev_op (ev_intD (ed_call (eda_cons (ed_int (ev_var rfl)) (eda_cons (ed_int (ev_var rfl)) eda_nil)) ⟨m, i + 1, rfl, rfl⟩)) ev_c rv_eqI)) (lon_test N m i)
      · rw [ec]
        exact ed_call (eda_cons (ed_tup (eda_cons (ed_int (ev_var rfl)) (eda_cons (ed_int (ev_var rfl)) eda_nil)) (by show 2 ≤ 100000; decide)) eda_nil) ⟨up (m, i + 1), rfl, (sm30 (by show -1000000000 ≤ (m : Int) ∧ (m : Int) ≤ 1000000000; omega)).up (by decide), (sm30 (by show -1000000000 ≤ ((i + 1 : Nat) : Int) ∧ ((i + 1 : Nat) : Int) ≤ 1000000000; omega)).up (by decide), rfl⟩
  · obtain ⟨m, xs, x, rfl, m1, m2, eH, hl', hxs⟩ := p
    have ek : ((isq N : Int) + 1 - 1).toNat = isq N := by omega
    rw [ek] at hxs
    have e3 : few (fun i => lonT N (lonC N i)) (fun i => tn (lonC N i)) (isq N) = (lonN N).map tn := by rw [← lon_more (isq_mono (Nat.div_le_self N 2)), few_map]
    rw [e3] at hxs
    exact s_retLD (K := K) (ds := (lonT' N).map tn) (eld_sorted (ps := lonN N) (ed_var rfl (.lst (sq_of hl') hxs))) fun p vs H2 np e2 hp hv2 => q p vs H2 (fresh_back eH np) (eH.trans e2) hp hv2

theorem ok__law_legs {P : Program} {w : World} {K : PySem.W.Frag} {mg : Str → Option Value} {base : Heap}  {tL tM : Tok} {cA cL cB cG cH : Addr} {f : Addr} {fd : FuncData} (F : Fun K "_law_legs" "_law_legs" s__law_legs f fd) (T : Txt K mg tL tM cA cL cB cG cH) (C__law_root : Cal P w K mg base CX0 "_law_root" 1 P__law_root (spF K R__law_root)) (C__law_common : Cal P w K mg base CX0 "_law_common" 1 P__law_common (spF K R__law_common)) (C__law_triple : Cal P w K mg base CX0 "_law_triple" 1 P__law_triple (spF K R__law_triple)) :
    FnOk P w K mg base CX0 2 f fd P__law_legs (spL K R__law_legs) := by
  refine F.ok sc__law_legs (spL_len fun ds es h => by
    first | (obtain ⟨_, rfl, _⟩ := h; rfl) | (obtain ⟨_, _, rfl, _⟩ := h; rfl) | (obtain ⟨_, _, _, rfl, _⟩ := h; rfl) | (obtain ⟨_, _, _, _, rfl, _⟩ := h; rfl) | (rcases h with ⟨rfl, _⟩ | ⟨_, _, rfl, _⟩ <;> rfl)) (fun cdv A outer s H vs Q E hr h => ?_)
  obtain ⟨ds, es, hv, hR, q⟩ := h
  obtain ⟨N, rfl, hN, rfl⟩ := hR
  cases dvs1i hv
  refine ⟨_, (pss_cons (ps_set (i := 1) sc__law_legs.nd rfl (.inl rfl) (pe_lst pa_nil))
      (pss_cons (ps_for PassesOwn.never rfl (pi_range2 (by rfl) T.range (pa_cons pe_int (pa_cons (pe_op op_add (pe_cal C__law_root (hr.mono (by decide)) (by rfl) pass0 (pa_cons (pv 0) pa_nil)) pe_int) pa_nil))) (pg_name (i := 2) sc__law_legs.nd rfl (.inl rfl)) (pss_cons (ps_set (i := 3) sc__law_legs.nd rfl (.inl rfl) (pe_op op_fdivP (pv 0) (pv 2)))
      (pss_cons (ps_if (PW.pt (pw_and (pt_cmpR op_eq (pe_op op_mod (pv 0) (pv 2)) pe_int (nomark _)) (pw_and (pt_cmpR op_lt (pv 2) (pv 3) (nomark _)) (pw_and (pt_cmpR op_eq (pe_cal C__law_common (hr.mono (by decide)) (by rfl) pass0 (pa_cons (pv 2) (pa_cons (pv 3) pa_nil))) pe_int (nomark _)) (pw_and1 (pt_cmpR op_eq (pe_op op_mod (pv 0) pe_int) pe_int (nomark _))))))) (pss_one (ps_expr (pe_bm PySem.F.plainAttrs_list PySem.F.slot_list_append PySem.F.type_list_append mt_append (pv 1) (pa_cons (pe_cal C__law_triple (hr.mono (by decide)) (by rfl) pass0 (pa_cons (pe_tup (pa_cons (pe_op op_fdivP (pe_op op_add (pv 3) (pv 2)) pe_int) (pa_cons (pe_op op_fdivP (pe_op op_sub (pv 3) (pv 2)) pe_int) pa_nil))) pa_nil)) pa_nil)))) pss_nil)
      (pss_cons (ps_set (i := 4) sc__law_legs.nd rfl (.inl rfl) (pe_op op_fdivP (pe_op op_fdivP (pv 0) pe_int) (pv 2)))
      (pss_one (ps_if (PW.pt (pw_and (pt_cmpR op_eq (pe_op op_mod (pv 0) pe_int) pe_int (nomark _)) (pw_and (pt_cmpR op_eq (pe_op op_mod (pe_op op_fdivP (pv 0) pe_int) (pv 2)) pe_int (nomark _)) (pw_and (pt_cmpR op_lt (pv 2) (pv 4) (nomark _)) (pw_and1 (pt_cmpR op_eq (pe_cal C__law_common (hr.mono (by decide)) (by rfl) pass0 (pa_cons (pv 2) (pa_cons (pv 4) pa_nil))) pe_int (nomark _))))))) (pss_one (ps_expr (pe_bm PySem.F.plainAttrs_list PySem.F.slot_list_append PySem.F.type_list_append mt_append (pv 1) (pa_cons (pe_cal C__law_triple (hr.mono (by decide)) (by rfl) pass0 (pa_cons (pe_tup (pa_cons (pv 4) (pa_cons (pv 2) pa_nil))) pa_nil)) pa_nil)))) pss_nil))))))
      (pss_one (ps_ret (pe_callB (cr_sortedN (K := K) rfl (hu64 hr)) (by rfl) T.sorted (by decide +kernel) (pa_cons (pv 1) pa_nil)))))), ?_⟩
  have n2 := hN.lo
  have nM := hN.hi
  have hs := isq_small (n := N) nM
  have hsq : isq N = PySem.Float64.isqrt N := rfl
  refine q_asgL (el_lst ea_nil (by show 0 ≤ 100000; decide)) fun l H1 nl e1 hl => ?_
  refine q_forR2 (lo := 1) (n := (isq N : Int) + 1) (ea_cons ev_c (ea_cons (ev_op (ev_intD (ed_call (eda_cons (ed_int (ev_var rfl)) eda_nil) ⟨N, rfl, by omega, rfl⟩)) ev_c rv_I0) ea_nil)) (by omega)
    (fun i σ' H' => ∃ (xs : List V) (x y z : Option V), σ' = [some (.int N), some (.ref l), x, y, z] ∧ Ex H H' ∧ H' l = some (.lst xs) ∧ DVs K H' xs ((lawLegs N i).map tn))
    (fun H2 e2 => ⟨[], none, none, none, rfl, e1.trans e2, e2 _ _ hl, .nil⟩) (fun i σ' H' hi p => ?_) fun σ' H' p => ?_
  · obtain ⟨xs, x, y, z, rfl, eH, hl', hxs⟩ := p
    have hi' : i + 1 ≤ 1000 := by omega
    have ei : (1 : Int) + (i : Int) = ((i + 1 : Nat) : Int) := by omega
    rw [ei]
    have hq1 : N / (i + 1) ≤ N := Nat.div_le_self _ _
    have hq2 : N / 2 / (i + 1) ≤ N / 2 := Nat.div_le_self _ _
    have hint : ∀ ps : List NN, ∀ e ∈ ps.map tn, IntD e := fun ps e he => by
      obtain ⟨p, _, rfl⟩ := List.mem_map.mp he
      exact intD_td _
    have hlen := lawLegs_len N i
    refine q_asg (v := .int ((N / (i + 1) : Nat) : Int)) (ev_is (ev_op (ev_var rfl) (ev_var rfl) (rv_I (divs (by omega) (by omega)))) (by rw [Int.natCast_ediv])) fun H2 e2 => ?_
    refine q_whenAppD (K := K) (H0 := H) (b := lawL1 N i) (d := tn ((N / (i + 1) + (i + 1)) / 2, (N / (i + 1) - (i + 1)) / 2)) (eH.trans e2) nl (e2 _ _ hl') (hxs.ex e2) (hint _) (intD_td _) (by rw [List.length_map]; omega) ?_ (ev_var rfl) (fun hb => ?_) fun xs1 H3 e3 hl3 hx3 => ?_
    · refine et_is (et_and (et_is (et_test (ev_op (ev_op (ev_var rfl) (ev_var rfl) (rv_I (show (0 : Int) < ((i + 1 : Nat) : Int) by omega))) ev_c rv_eqI)) dec_mod) fun _ => et_and (et_test (ev_op (ev_var rfl) (ev_var rfl) rv_I0)) fun _ => et_and (et_test (ev_op (ev_intD (ed_call (eda_cons (ed_int (ev_var rfl)) (eda_cons (ed_int (ev_var rfl)) eda_nil)) ⟨i + 1, N / (i + 1), rfl, rfl⟩)) ev_c rv_eqI)) fun _ => et_test (ev_op (ev_op (ev_var rfl) ev_c (rv_I (show (0 : Int) < 2 by decide))) ev_c rv_eqI)) (leg1_test N i)
    · have hlt : i + 1 < N / (i + 1) := by
        unfold lawL1 at hb
        simp only [Bool.and_eq_true, decide_eq_true_eq] at hb
        exact hb.1.1.2
      refine ed_call (eda_cons (ed_tup (eda_cons (ed_int (ev_is (ev_op (ev_op (ev_var rfl) (ev_var rfl) rv_I0) ev_c (rv_I (divs (by decide) (by decide)))) (show _ = V.int (((N / (i + 1) + (i + 1)) / 2 : Nat) : Int) from congrArg V.int (by omega)))) (eda_cons (ed_int (ev_is (ev_op (ev_op (ev_var rfl) (ev_var rfl) rv_I0) ev_c (rv_I (divs (by decide) (by decide)))) (show _ = V.int (((N / (i + 1) - (i + 1)) / 2 : Nat) : Int) from congrArg V.int (by omega)))) eda_nil)) (by show 2 ≤ 100000; decide)) eda_nil)
        ⟨up ((N / (i + 1) + (i + 1)) / 2, (N / (i + 1) - (i + 1)) / 2), rfl, (sm30 (by show -1000000000 ≤ (((N / (i + 1) + (i + 1)) / 2 : Nat) : Int) ∧ (((N / (i + 1) + (i + 1)) / 2 : Nat) : Int) ≤ 1000000000; omega)).up (by decide), (sm30 (by show -1000000000 ≤ (((N / (i + 1) - (i + 1)) / 2 : Nat) : Int) ∧ (((N / (i + 1) - (i + 1)) / 2 : Nat) : Int) ≤ 1000000000; omega)).up (by decide), rfl⟩
    refine q_asg (v := .int ((N / 2 / (i + 1) : Nat) : Int)) (ev_is (ev_op (ev_op (ev_var rfl) ev_c (rv_I (divs (by decide) (by decide)))) (ev_var rfl) (rv_I (divs (by omega) (by omega)))) (by rw [Int.natCast_ediv, Int.natCast_ediv]; rfl)) fun H4 e4 => ?_
    have e12 : ∀ b : Bool, ((lawLegs N i).map tn ++ if b = true then [tn ((N / (i + 1) + (i + 1)) / 2, (N / (i + 1) - (i + 1)) / 2)] else []) = (lawLegs N i ++ if b = true then [((N / (i + 1) + (i + 1)) / 2, (N / (i + 1) - (i + 1)) / 2)] else []).map tn := fun b => by
      rw [List.map_append]
      cases b <;> rfl
    rw [e12] at hx3
    have hl3' : (lawLegs N i ++ if lawL1 N i = true then [((N / (i + 1) + (i + 1)) / 2, (N / (i + 1) - (i + 1)) / 2)] else []).length ≤ 2 * i + 1 := by
      rw [List.length_append]
      split <;> simp <;> omega
    refine s_whenAppD (K := K) (H0 := H) (b := lawL2 N i) (d := tn (N / 2 / (i + 1), i + 1)) (e3.trans e4) nl (e4 _ _ hl3) (hx3.ex e4) (hint _) (intD_td _) (by rw [List.length_map]; omega) ?_ (ev_var rfl) (fun hb => ?_) fun xs2 H5 e5 hl5 hx5 => ⟨xs2, _, _, _, rfl, e5, hl5, ?_⟩
    · refine et_is (et_and (et_test (ev_op (ev_op (ev_var rfl) ev_c (rv_I (show (0 : Int) < 4 by decide))) ev_c rv_eqI)) fun _ => et_and (et_test (ev_op (ev_op (ev_op (ev_var rfl) ev_c (rv_I (divs (by decide) (by decide)))) (ev_var rfl) (rv_I (show (0 : Int) < ((i + 1 : Nat) : Int) by omega))) ev_c rv_eqI)) fun _ => et_and (et_test (ev_op (ev_var rfl) (ev_var rfl) rv_I0)) fun _ => et_test (ev_op (ev_intD (ed_call (eda_cons (ed_int (ev_var rfl)) (eda_cons (ed_int (ev_var rfl)) eda_nil)) ⟨i + 1, N / 2 / (i + 1), rfl, rfl⟩)) ev_c rv_eqI)) (leg2_test N i)
    · exact ed_call (eda_cons (ed_tup (eda_cons (ed_int (ev_var rfl)) (eda_cons (ed_int (ev_var rfl)) eda_nil)) (by show 2 ≤ 100000; decide)) eda_nil) ⟨up (N / 2 / (i + 1), i + 1), rfl, (sm30 (by show -1000000000 ≤ ((N / 2 / (i + 1) : Nat) : Int) ∧ ((N / 2 / (i + 1) : Nat) : Int) ≤ 1000000000; generalize N / 2 / (i + 1) = z at hq2 ⊢; omega)).up (by decide), (sm30 (by show -1000000000 ≤ ((i + 1 : Nat) : Int) ∧ ((i + 1 : Nat) : Int) ≤ 1000000000; omega)).up (by decide), rfl⟩
    · rw [lawLegs_succ, ← List.append_assoc, List.map_append]
      have e6 : (if lawL2 N i = true then [tn (N / 2 / (i + 1), i + 1)] else []) = (if lawL2 N i = true then [(N / 2 / (i + 1), i + 1)] else []).map tn := by cases lawL2 N i <;> rfl
      rw [← e6]
      exact hx5
  · obtain ⟨xs, x, y, z, rfl, eH, hl', hxs⟩ := p
    have ek : ((isq N : Int) + 1 - 1).toNat = isq N := by omega
    rw [ek, lawLegs_all] at hxs
    exact s_retLD (K := K) (ds := (legT' N).map tn) (eld_sorted (ps := legN N) (ed_var rfl (.lst (sq_of hl') hxs))) fun p vs H2 np e2 hp hv2 => q p vs H2 (fresh_back eH np) (eH.trans e2) hp hv2

theorem ok__law_is_prime {P : Program} {w : World} {K : PySem.W.Frag} {mg : Str → Option Value} {base : Heap}  {tL tM : Tok} {cA cL cB cG cH : Addr} {f : Addr} {fd : FuncData} (F : Fun K "_law_is_prime" "_law_is_prime" s__law_is_prime f fd) (T : Txt K mg tL tM cA cL cB cG cH) (C__law_root : Cal P w K mg base CX0 "_law_root" 1 P__law_root (spF K R__law_root)) :
    FnOk P w K mg base CX0 2 f fd P__law_is_prime (spF K R__law_is_prime) := by
  refine F.ok sc__law_is_prime (spF_len fun ds d h => by
    first | (obtain ⟨_, rfl, _⟩ := h; rfl) | (obtain ⟨_, _, rfl, _⟩ := h; rfl) | (obtain ⟨_, _, _, rfl, _⟩ := h; rfl) | (obtain ⟨_, _, _, _, rfl, _⟩ := h; rfl) | (rcases h with ⟨rfl, _⟩ | ⟨_, _, rfl, _⟩ <;> rfl)) (fun cdv A outer s H vs Q E hr h => ?_)
  obtain ⟨ds, d, hv, hR, q⟩ := h
  obtain ⟨p, rfl, hp, rfl⟩ := hR
  cases dvs1i hv
  refine ⟨_, (pss_cons (ps_if (pt_cmpR op_lt (pv 0) pe_int (nomark _)) (pss_one (ps_ret pe_bl)) pss_nil)
      (pss_one (ps_ret (pe_not (pe_callB (k_any (K := K) rfl rfl) (by rfl) T.any (by decide +kernel) (pa_cons (pe_lc (own := [("_law_part", 1)]) rfl sc__law_is_prime.nd (pi_range2 (by rfl) T.range (pa_cons pe_int (pa_cons (pe_op op_add (pe_cal C__law_root (hr.mono (by decide)) (by rfl) pass0 (pa_cons (pv 0) pa_nil)) pe_int) pa_nil))) (blkOk_by (own := [("_law_part", 1)]) (N := N__law_is_prime) (sc := defScope s__law_is_prime) (by decide +kernel)) (fun _ _ _ _ _ => (pg_name (i := 1) sc__law_is_prime.nd rfl (.inl rfl))) (fun _ _ _ _ _ => pts_nil) (fun _ _ _ _ _ => (pe_cmpR op_eq (pe_op op_mod (pv 0) (pv 1)) pe_int (nomark _)))) pa_nil)))))), ?_⟩
  have n2 := hp.lo
  have nM := hp.hi
  have hs := isq_small (n := p) nM
  refine q_pass (et_is (et_test (ev_op (ev_var rfl) ev_c rv_I0)) (decide_eq_false (by omega))) fun H1 e1 => ?_
  refine s_retD (K := K) (d := .bool (tryPrime (isq p) p)) (ed_bl ?_) fun w H2 e2 hw => q w H2 (e1.trans e2) hw
  unfold tryPrime
  refine ev_notV ?_
  refine any_lcR2 (n := isq p - 1) (fun i => decide (p % (i + 2) = 0)) (ea_cons ev_c (ea_cons (ev_op (ev_intD (ed_call (eda_cons (ed_int (ev_var rfl)) eda_nil) ⟨p, rfl, by omega, rfl⟩)) ev_c rv_I0) ea_nil)) (by omega) (by omega) (fun _ => rfl) fun i H2 e2 hi => ?_
  refine ev_is (ev_op (ev_op (ev_var rfl) (ev_var rfl) (rv_I (by omega))) ev_c rv_eqI) ?_
  rw [show (2 : Int) + (i : Int) = ((i + 2 : Nat) : Int) by omega]
  exact congrArg V.bl dec_mod

theorem ok_is_pair {P : Program} {w : World} {K : PySem.W.Frag} {mg : Str → Option Value} {base : Heap}  {tL tM : Tok} {cA cL cB cG cH : Addr} {f : Addr} {fd : FuncData} (F : Fun K "is_pair" "is_pair" s_is_pair f fd) (T : Txt K mg tL tM cA cL cB cG cH) (C_are_whole : Cal P w K mg base CX0 "are_whole" 2 P_are_whole (spF K R_are_whole)) :
    FnOk P w K mg base CX0 3 f fd P_is_pair (spF K R_is_pair) := by
  refine F.ok sc_is_pair (spF_len fun ds d h => by
    first | (obtain ⟨_, rfl, _⟩ := h; rfl) | (obtain ⟨_, _, rfl, _⟩ := h; rfl) | (obtain ⟨_, _, _, rfl, _⟩ := h; rfl) | (obtain ⟨_, _, _, _, rfl, _⟩ := h; rfl) | (rcases h with ⟨rfl, _⟩ | ⟨_, _, rfl, _⟩ <;> rfl)) (fun cdv A outer s H vs Q E hr h => ?_)
  obtain ⟨ds, d, hv, hR, q⟩ := h
  obtain ⟨x, rfl, hz, rfl⟩ := hR
  obtain ⟨v, rfl, hx⟩ := dvs1 hv
  refine ⟨_, (pss_cons (ps_if (pt_not (pt_val (pe_cal C_are_whole (hr.mono (by decide)) (by rfl) pass0 (pa_cons (pv 0) (pa_cons pe_int pa_nil))))) (pss_one (ps_ret pe_bl)) pss_nil)
      (pss_cons (ps_asg (pv 0) (pg_tup rfl (pgs_cons (pg_name (i := 1) sc_is_pair.nd rfl (.inl rfl)) (pgs_cons (pg_name (i := 2) sc_is_pair.nd rfl (.inl rfl)) pgs_nil))))
      (pss_one (ps_ret (pe_and (pe_chain op_lt op_lt pe_int (pv 2) (pv 1)) (pe_and (pe_cmpR op_eq (pe_op op_mod (pe_op op_sub (pv 1) (pv 2)) pe_int) pe_int (nomark _)) (pe_one (pe_cmpR op_eq (pe_callBfun cr_gcd (by rfl) T.gcd (pa_cons (pv 1) (pa_cons (pv 2) pa_nil))) pe_int (nomark _))))))))), ?_⟩
  have h1 : EvT (tNot (tB (tCall (spF K R_are_whole) [] E0 (tCons (tVar 0) (tCons (tC (.int 2)) tNil))))) (start N_is_pair [v]) H (!areWhole x 2) :=
    et_not (et_B (ev_blD (ed_call (eda_cons (ed_var rfl hx) (eda_cons (ed_int ev_c) eda_nil)) ⟨x, 2, rfl, hz, rfl⟩)))
  cases hw : areWhole x 2 with
  | false =>
    rw [hw] at h1
    rw [isPairD_no hw] at q
    exact q_taken h1 fun H1 e => s_retD (ed_bl ev_c) fun w H2 e2 hw => q w H2 (e.trans e2) hw
  | true =>
    rw [hw] at h1
    obtain ⟨m, n, rfl⟩ := areWhole2 hw
    refine q_pass h1 fun H1 e => ?_
    refine q_un2i (ed_var rfl (hx.ex e)) fun H2 e2 => ?_
    refine s_retD (K := K) (d := .bool (isPairD (.tuple [.int m, .int n]))) (ed_bl ?_) fun w H3 e3 hw => q w H3 ((e.trans e2).trans e3) hw
    show Ev _ _ _ (.bl (decide (0 < n) && decide (n < m) && (decide ((m - n) % 2 = 1) && decide (Int.gcd m n = 1))))
    refine ev_andV (ev_chain ev_c (ev_var rfl) rv_I0 (fun _ => ev_var rfl) fun _ => rv_I0) fun _ => ?_
    refine ev_andV (ev_op (ev_op (ev_op (ev_var rfl) (ev_var rfl) rv_I0) ev_c (rv_I (by decide))) ev_c rv_eqI) fun _ => ?_
    refine ev_is (ev_op (ev_gcd (ev_var rfl) (ev_var rfl)) ev_c rv_eqI) ?_
    congr 1
    by_cases z : m.gcd n = 1
    · rw [z]; rfl
    · rw [decide_eq_false z]; exact decide_eq_false fun z2 => z (by omega)

theorem ok_Barred_shows {P : Program} {w : World} {K : PySem.W.Frag} {mg : Str → Option Value} {base : Heap}  {tL tM : Tok} {cA cL cB cG cH : Addr} {f : Addr} {fd : FuncData} (F : Fun K "shows" "Barred.shows" s_Barred_shows f fd) (T : Txt K mg tL tM cA cL cB cG cH) (C_is_side : Cal P w K mg base CX0 "is_side" 2 P_is_side (spF K R_is_side)) (C_barring_primes : Cal P w K mg base CX0 "barring_primes" 2 P_barring_primes (spL K R_barring_primes)) :
    FnOk P w K mg base CX0 3 f fd P_Barred_shows (spShowsB cB) := by

  refine F.ok sc_Barred_shows (fun vs H Q E h => ?_) (fun cdv A outer s H vs Q E hr h => ?_)
  · obtain ⟨_, _, _, rfl, _⟩ := h
    rfl
  · obtain ⟨p, b, N, rfl, hN, hB, q⟩ := h
    refine ⟨_, (pss_one (ps_ret (pe_and (pe_cal C_is_side (hr.mono (by decide)) (by rfl) pass0 (pa_cons (pv 1) pa_nil)) (pe_one (pe_cmpR (k_in (K := K) rfl) (pe_fld (pv 0) rfl) (pe_cal C_barring_primes (hr.mono (by decide)) (by rfl) pass0 (pa_cons (pv 1) pa_nil)) rfl))))), ?_⟩
    refine s_ret (ev_is (ev_andV (a := true) (ev_is (ev_blD (ed_call (eda_cons (ed_int (ev_var rfl)) eda_nil) ⟨.int N, rfl, rfl⟩)) (by rw [isSide_N hN])) fun _ => ev_opL (ev_fldB (ev_var rfl) T.cls_Barred T.na_Barred hB) (ints_el (eld_call (eda_cons (ed_int (ev_var rfl)) eda_nil) ⟨N, rfl, hN, rfl⟩)) fun l H1 hl e1 => rv_isL (sq_of hl) rfl (flat_ints _)) ?_) q
    rw [inV_bars, Bool.true_and]

theorem ok_Halved_shows {P : Program} {w : World} {K : PySem.W.Frag} {mg : Str → Option Value} {base : Heap}  {tL tM : Tok} {cA cL cB cG cH : Addr} {f : Addr} {fd : FuncData} (F : Fun K "shows" "Halved.shows" s_Halved_shows f fd) (T : Txt K mg tL tM cA cL cB cG cH) (C_is_side : Cal P w K mg base CX0 "is_side" 2 P_is_side (spF K R_is_side)) :
    FnOk P w K mg base CX0 3 f fd P_Halved_shows (spShows0 cH) := by

  refine F.ok sc_Halved_shows (fun vs H Q E h => ?_) (fun cdv A outer s H vs Q E hr h => ?_)
  · obtain ⟨_, _, rfl, _⟩ := h
    rfl
  · obtain ⟨p, N, rfl, hN, hB, q⟩ := h
    refine ⟨_, (pss_one (ps_ret (pe_and (pe_cal C_is_side (hr.mono (by decide)) (by rfl) pass0 (pa_cons (pv 1) pa_nil)) (pe_one (pe_cmpR op_eq (pe_op op_mod (pv 1) pe_int) pe_int (nomark _)))))), ?_⟩
    refine s_ret (ev_is (ev_andV (a := true) (ev_is (ev_blD (ed_call (eda_cons (ed_int (ev_var rfl)) eda_nil) ⟨.int N, rfl, rfl⟩)) (by rw [isSide_N hN])) fun _ => ev_op (ev_op (ev_var rfl) ev_c (rv_I (show (0 : Int) < 4 by decide))) ev_c rv_eqI) ?_) q
    rw [Bool.true_and, dec_iff (q := N % 4 = 2) (by omega)]

theorem ok__check_side {P : Program} {w : World} {K : PySem.W.Frag} {mg : Str → Option Value} {base : Heap}  {tL tM : Tok} {cA cL cB cG cH : Addr} {f : Addr} {fd : FuncData} (F : Fun K "_check_side" "_check_side" s__check_side f fd) (T : Txt K mg tL tM cA cL cB cG cH) (C_is_side : Cal P w K mg base CX0 "is_side" 2 P_is_side (spF K R_is_side)) :
    FnOk P w K mg base CX0 3 f fd P__check_side (spF K R__check_side) := by
  refine F.ok sc__check_side (spF_len fun ds d h => by
    first | (obtain ⟨_, rfl, _⟩ := h; rfl) | (obtain ⟨_, _, rfl, _⟩ := h; rfl) | (obtain ⟨_, _, _, rfl, _⟩ := h; rfl) | (obtain ⟨_, _, _, _, rfl, _⟩ := h; rfl) | (rcases h with ⟨rfl, _⟩ | ⟨_, _, rfl, _⟩ <;> rfl)) (fun cdv A outer s H vs Q E hr h => ?_)
  obtain ⟨ds, d, hv, hR, q⟩ := h
  obtain ⟨N, rfl, hN, rfl⟩ := hR
  cases dvs1i hv
  refine ⟨_, (pss_one (ps_if (pt_not (pt_val (pe_cal C_is_side (hr.mono (by decide)) (by rfl) pass0 (pa_cons (pv 0) pa_nil)))) (pss_one ps_never) pss_nil)), ?_⟩
  exact s_when (b := false) (et_is (et_not (et_B (ev_blD (ed_call (eda_cons (ed_int (ev_var rfl)) eda_nil) ⟨.int N, rfl, rfl⟩)))) (by rw [isSide_N hN]; rfl)) (fun z => Bool.noConfusion z) fun _ H1 e1 => q _ H1 e1 .non

theorem ok__law_bars {P : Program} {w : World} {K : PySem.W.Frag} {mg : Str → Option Value} {base : Heap}  {tL tM : Tok} {cA cL cB cG cH : Addr} {f : Addr} {fd : FuncData} (F : Fun K "_law_bars" "_law_bars" s__law_bars f fd) (T : Txt K mg tL tM cA cL cB cG cH) (C__law_is_prime : Cal P w K mg base CX0 "_law_is_prime" 2 P__law_is_prime (spF K R__law_is_prime)) :
    FnOk P w K mg base CX0 3 f fd P__law_bars (spF K R__law_bars) := by
  refine F.ok sc__law_bars (spF_len fun ds d h => by
    first | (obtain ⟨_, rfl, _⟩ := h; rfl) | (obtain ⟨_, _, rfl, _⟩ := h; rfl) | (obtain ⟨_, _, _, rfl, _⟩ := h; rfl) | (obtain ⟨_, _, _, _, rfl, _⟩ := h; rfl) | (rcases h with ⟨rfl, _⟩ | ⟨_, _, rfl, _⟩ <;> rfl)) (fun cdv A outer s H vs Q E hr h => ?_)
  obtain ⟨ds, d, hv, hR, q⟩ := h
  obtain ⟨N, p, rfl, hN, rfl⟩ := hR
  cases dvs2i hv
  refine ⟨_, (pss_cons (ps_if (PW.pt (pw_or (pt_cmpR op_lt (pv 1) pe_int (nomark _)) (pw_or (pt_cmpR op_gt (pv 1) (pv 0) (nomark _)) (pw_or (pt_cmpR op_gt (pe_op op_mod (pv 0) (pv 1)) pe_int (nomark _)) (pw_or1 (PW.pt (pw_and (pt_cmpR op_gt (pv 1) pe_int (nomark _)) (pw_and1 (pt_cmpR op_ne (pe_op op_mod (pv 1) pe_int) pe_int (nomark _)))))))))) (pss_one (ps_ret pe_bl)) pss_nil)
      (pss_one (ps_ret (pe_cal C__law_is_prime (hr.mono (by decide)) (by rfl) pass0 (pa_cons (pv 1) pa_nil))))), ?_⟩
  have n2 := hN.lo
  have nM := hN.hi
  refine q_when (b := decide (p < 2) || (decide (p > (N : Int)) || (decide ((N : Int) % p > 0) || (decide (p > 2) && !decide (p % 4 = 3)))))
    (et_or (et_test (ev_op (ev_var rfl) ev_c rv_I0)) fun z => et_or (et_test (ev_op (ev_var rfl) (ev_var rfl) rv_I0)) fun _ => et_or (et_test (ev_op (ev_op (ev_var rfl) (ev_var rfl) (rv_I (show (0 : Int) < p by have := of_decide_eq_false z; omega))) ev_c rv_I0)) fun _ => et_and (et_test (ev_op (ev_var rfl) ev_c rv_I0)) fun _ => et_test (ev_op (ev_op (ev_var rfl) ev_c (rv_I (show (0 : Int) < 4 by decide))) ev_c rv_neI)) (fun hb H1 e1 => ?_) fun hb H1 e1 => ?_
  · rw [barsI_no hN hb] at q
    exact s_retD (K := K) (ed_bl ev_c) fun w H2 e2 hw => q w H2 (e1.trans e2) hw
  · obtain ⟨P, rfl, hP, e⟩ := barsI_yes hN hb
    rw [e] at q
    exact s_retD (K := K) (ed_call (eda_cons (ed_int (ev_var rfl)) eda_nil) ⟨P, rfl, hP, rfl⟩) fun w H2 e2 hw => q w H2 (e1.trans e2) hw

theorem ok__law_number {P : Program} {w : World} {K : PySem.W.Frag} {mg : Str → Option Value} {base : Heap}  {tL tM : Tok} {cA cL cB cG cH : Addr} {f : Addr} {fd : FuncData} (F : Fun K "_law_number" "_law_number" s__law_number f fd) (T : Txt K mg tL tM cA cL cB cG cH) (C__law_cell_at : Cal P w K mg base CX0 "_law_cell_at" 1 P__law_cell_at (spF K R__law_cell_at)) (C__law_value : Cal P w K mg base CX0 "_law_value" 2 P__law_value (spF K R__law_value)) (C__law_draw : Cal P w K mg base CX0 "_law_draw" 1 P__law_draw (spF K R__law_draw)) :
    FnOk P w K mg base CX0 3 f fd P__law_number (spF K R__law_number) := by
  refine F.ok sc__law_number (spF_len fun ds d h => by
    first | (obtain ⟨_, rfl, _⟩ := h; rfl) | (obtain ⟨_, _, rfl, _⟩ := h; rfl) | (obtain ⟨_, _, _, rfl, _⟩ := h; rfl) | (obtain ⟨_, _, _, _, rfl, _⟩ := h; rfl) | (rcases h with ⟨rfl, _⟩ | ⟨_, _, rfl, _⟩ <;> rfl)) (fun cdv A outer s H vs Q E hr h => ?_)
  obtain ⟨ds, d, hv, hR, q⟩ := h
  obtain ⟨ns, k, rfl, hk, hns, rfl⟩ := hR
  obtain ⟨v, w, rfl, hx, hw⟩ := dvs2 hv
  cases dvi hw
  refine ⟨_, (pss_cons (ps_set (i := 2) sc__law_number.nd rfl (.inl rfl) (pe_cal C__law_cell_at (hr.mono (by decide)) (by rfl) pass0 (pa_cons (pv 0) (pa_cons (pv 1) pa_nil))))
      (pss_cons (ps_set (i := 3) sc__law_number.nd rfl (.inl rfl) (pe_cal C__law_value (hr.mono (by decide)) (by rfl) pass0 (pa_cons (pv 2) (pa_cons (pe_op op_add (pv 1) pe_int) (pa_cons pe_int pa_nil)))))
      (pss_cons (ps_set (i := 4) sc__law_number.nd rfl (.inl rfl) (pe_cal C__law_draw (hr.mono (by decide)) (by rfl) pass0 (pa_cons (pe_op op_add (pe_op op_mod (pv 2) (pe_op op_pow pe_int pe_int)) (pe_op op_mulX pe_int (pv 1))) (pa_cons pe_int (pa_cons pe_int pa_nil)))))
      (pss_cons (ps_if (pt_cmpR op_eq (pv 4) pe_int (nomark _)) (pss_cons (ps_set (i := 5) sc__law_number.nd rfl (.inl rfl) pe_int)
      (pss_cons (ps_for PassesOwn.never rfl (pi_range1 (by rfl) T.range (pa_cons pe_int pa_nil)) (pg_name (i := 6) sc__law_number.nd rfl (.inl rfl)) (pss_one (ps_par (i := 5) (j := 3) rfl sc__law_number.nd rfl rfl (by decide) rfl rfl (pa_cons (pe_op op_mulX (pv 5) (pe_ix (k_ixT (K := K) rfl) (pe_tup (pa_cons pe_int (pa_cons pe_int (pa_cons pe_int (pa_cons pe_int (pa_cons pe_int (pa_cons pe_int (pa_cons pe_int pa_nil)))))))) (pe_op op_mod (pv 3) pe_int) (fun _ _ => rfl))) (pa_cons (pe_op op_fdivP (pv 3) pe_int) pa_nil)) (by rfl))))
      (pss_one (ps_ret (pe_callB (call_max2 rfl) (by rfl) T.max (by decide +kernel) (pa_cons pe_int (pa_cons (pv 5) pa_nil))))))) pss_nil)
      (pss_one (ps_ret (pe_op op_add pe_int (pe_op op_mod (pv 3) (pe_ix (k_ixT (K := K) rfl) (pe_tup (pa_cons pe_int (pa_cons pe_int (pa_cons pe_int (pa_cons pe_int (pa_cons pe_int pa_nil)))))) (pv 4) (fun _ _ => rfl)))))))))), ?_⟩
  have hc : Sm 1048577 (ns.getD k 0) := by
    rw [List.getD]
    cases e : ns[k]? with
    | none => exact Sm.up (a := 2) (show (0 : Int).natAbs < 2 ^ 2 by decide) (by decide)
    | some c => exact hns c (List.mem_of_getElem? e)
  refine q_asg (v := .int (ns.getD k 0)) (ev_intD (ed_call (eda_cons (ed_var rfl hx) (eda_cons (ed_int (ev_var rfl)) eda_nil)) ⟨ns, k, rfl, rfl⟩)) fun H1 e1 => ?_
  generalize ns.getD k 0 = c at hc q
  refine q_asg (v := .int (lawValue c ((k : Int) + 2) 999983)) (ev_intD (ed_call (eda_cons (ed_int (ev_var rfl)) (eda_cons (ed_int (ev_op (ev_var rfl) ev_c rv_I0)) (eda_cons (ed_int ev_c) eda_nil))) ⟨c, (k : Int) + 2, 999983, rfl, hc, (sm30 (by omega)).up (by decide), by decide, rfl⟩)) fun H2 e2 => ?_
  have hm : 0 ≤ c % E18 ∧ c % E18 < E18 := ⟨Int.emod_nonneg _ (by decide), Int.emod_lt_of_pos _ (by decide)⟩
  have s1 : Sm 3000000 (c % E18 + 31 * (k : Int)) := Sm.up (a := 62) (by
    show (c % E18 + 31 * (k : Int)).natAbs < 2 ^ 62
    have e62 : (2 : Nat) ^ 62 = 4611686018427387904 := by decide
    have e18 : E18 = 1000000000000000000 := rfl
    rw [e62]
    omega) (by decide)
  refine q_asg (v := .int (lawKind c k)) (ev_intD (ed_call (eda_cons (ed_int (ev_op (ev_op (ev_var rfl) (ev_is (ev_op ev_c ev_c (rv_I ⟨by decide, by decide, by decide⟩)) (congrArg V.int pow18)) (rv_I (by decide))) (ev_op ev_c (ev_var rfl) (rv_I (cm_small (by omega) (by omega)))) rv_I0)) (eda_cons (ed_int ev_c) (eda_cons (ed_int ev_c) eda_nil))) ⟨_, 6, 5, rfl, s1, (sm30 (by omega)).up (by decide), by decide, rfl⟩)) fun H3 e3 => ?_
  obtain ⟨d0, d1⟩ : 0 ≤ lawKind c k ∧ lawKind c k < 5 := lawDraw_lt _ _ (by decide)
  have h0 := lawValue_nn c ((k : Int) + 2) (lim := 999983) (by decide)
  unfold lawNumber at q
  generalize lawValue c ((k : Int) + 2) 999983 = dr at q h0
  generalize lawKind c k = kd at q d0 d1
  refine q_when (b := decide (kd = 2)) (et_test (ev_op (ev_var rfl) ev_c rv_eqI)) (fun hb H4 e4 => ?_) fun hb H4 e4 => ?_
  · have hb := of_decide_eq_true hb
    rw [if_pos hb] at q
    refine q_asg ev_c fun H5 e5 => ?_
    refine q_forR1 (n := 4) (ea_cons ev_c ea_nil) ⟨by decide, by decide⟩ (fun i σ' H' => ∃ x, σ' = [some v, some (.int k), some (.int c), some (.int (sevens i (1, dr)).2), some (.int kd), some (.int (sevens i (1, dr)).1), x] ∧ Ex H H') (fun H6 e6 => ⟨none, rfl, ((((e1.trans e2).trans e3).trans e4).trans e5).trans e6⟩) (fun i σ' H' hi p => ?_) fun σ' H' p => ?_
    · obtain ⟨x, rfl, e6⟩ := p
      obtain ⟨g1, g2⟩ := sevens_le dr i
      obtain ⟨g3, g4, g5⟩ := sevenAt_get (sevens i (1, dr)).2
      have hi' : i < 4 := by omega
      have p4 : (29 : Int) ^ i ≤ 707281 := by rcases (by omega : i = 0 ∨ i = 1 ∨ i = 2 ∨ i = 3) with rfl | rfl | rfl | rfl <;> decide
      have g2 : (sevens i (1, dr)).1 ≤ 707281 := Int.le_trans g2 p4
      refine s_par (v := .int (sevens (i + 1) (1, dr)).1) (z := .int (sevens (i + 1) (1, dr)).2) (ea_cons (ev_is (ev_op (ev_var rfl) (ev_intD (ed_ixT (j := ((sevens i (1, dr)).2 % 7).toNat) (i := (sevens i (1, dr)).2 % 7) (d := .int (sevenAt (sevens i (1, dr)).2)) (ds := ([5, 13, 17, 29, 1, 1, 1] : List Int).map .int) (ed_tup (by repeat' first | exact eda_nil | refine eda_cons (ed_int ev_c) ?_) (by show 7 ≤ 100000; decide)) (ev_op (ev_var rfl) ev_c (rv_I (by decide))) (by omega) (by rw [List.getElem?_map, g3]; rfl))) (rv_I (cm_small (by omega) (by omega)))) (by rw [sevens_succ])) (ea_cons (ev_is (ev_op (ev_var rfl) ev_c (rv_I (divs (by decide) (by decide)))) (by rw [sevens_succ])) ea_nil)) fun H7 e7 => ?_
      exact ⟨some (.int (i : Int)), rfl, e6.trans e7⟩
    · obtain ⟨x, rfl, e6⟩ := p
      exact s_retD (K := K) (ed_int (ev_max2 ev_c (ev_var rfl))) fun w H7 e7 hw => q w H7 (e6.trans e7) hw
  · have hb := of_decide_eq_false hb
    rw [if_neg hb] at q
    obtain ⟨g1, g2, g3⟩ := fiveAt_get d0 d1
    refine s_retD (K := K) (ed_int (ev_op ev_c (ev_op (ev_var rfl) (ev_intD (ed_ixT (j := kd.toNat) (i := kd) (d := .int (fiveAt kd)) (ds := ([60, 999999, 1, 5000, 99999] : List Int).map .int) (ed_tup (by repeat' first | exact eda_nil | refine eda_cons (ed_int ev_c) ?_) (by show 5 ≤ 100000; decide)) (ev_var rfl) (by omega) (by rw [List.getElem?_map, g1]; rfl))) (rv_I (by omega))) rv_I0)) fun w H7 e7 hw => q w H7 ((((e1.trans e2).trans e3).trans e4).trans e7) hw

theorem ok_triples_by_longest {P : Program} {w : World} {K : PySem.W.Frag} {mg : Str → Option Value} {base : Heap}  {tL tM : Tok} {cA cL cB cG cH : Addr} {f : Addr} {fd : FuncData} (F : Fun K "triples_by_longest" "triples_by_longest" s_triples_by_longest f fd) (T : Txt K mg tL tM cA cL cB cG cH) (C_is_pair : Cal P w K mg base CX0 "is_pair" 3 P_is_pair (spF K R_is_pair)) (C_formed : Cal P w K mg base CX0 "formed" 1 P_formed (spF K R_formed)) :
    FnOk P w K mg base CX0 4 f fd P_triples_by_longest (spL K R_triples_by_longest) := by
  refine F.ok sc_triples_by_longest (spL_len fun ds es h => by
    first | (obtain ⟨_, rfl, _⟩ := h; rfl) | (obtain ⟨_, _, rfl, _⟩ := h; rfl) | (obtain ⟨_, _, _, rfl, _⟩ := h; rfl) | (obtain ⟨_, _, _, _, rfl, _⟩ := h; rfl) | (rcases h with ⟨rfl, _⟩ | ⟨_, _, rfl, _⟩ <;> rfl)) (fun cdv A outer s H vs Q E hr h => ?_)
  obtain ⟨ds, es, hv, hR, q⟩ := h
  obtain ⟨N, rfl, hN, rfl⟩ := hR
  cases dvs1i hv
  refine ⟨_, (pss_cons (ps_setLc (i := 1) (own := [("n", 2)]) rfl sc_triples_by_longest.nd rfl rfl (sw_true rfl rfl rfl (by decide +kernel)) (pi_range2 (by rfl) T.range (pa_cons pe_int (pa_cons (pe_op op_add (pe_callBfun cr_isqrtS (by rfl) T.isqrt (pa_cons (pe_op op_fdivP (pv 0) pe_int) pa_nil)) pe_int) pa_nil))) (blkOk_by (own := [("n", 2)]) (N := N_triples_by_longest) (sc := defScope s_triples_by_longest) (by decide +kernel)) (fun _ _ _ _ _ => (pg_name (i := 2) sc_triples_by_longest.nd rfl (.inl rfl))) (fun _ _ _ _ _ => pts_nil) (fun _ _ _ _ _ => (pe_tup (pa_cons (pe_callBfun cr_isqrtS (by rfl) T.isqrt (pa_cons (pe_op op_sub (pv 0) (pe_op op_mulX (pv 2) (pv 2))) pa_nil)) (pa_cons (pv 2) pa_nil)))))
      (pss_one (ps_ret (pe_callB (cr_sortedN (K := K) rfl (hu64 hr)) (by rfl) T.sorted (by decide +kernel) (pa_cons (pe_lc (own := [("m", 3), ("n", 2)]) (g := gTup K 2 (gCons (gName 3) (gCons (gName 2) gNil))) rfl sc_triples_by_longest.nd (pi_list (pv 1)) (blkOk_by (own := [("m", 3), ("n", 2)]) (N := N_triples_by_longest) (sc := defScope s_triples_by_longest) (by decide +kernel)) (fun _ _ _ _ _ => (pg_tup rfl (pgs_cons (pg_name (i := 3) sc_triples_by_longest.nd rfl (.inl rfl)) (pgs_cons (pg_name (i := 2) sc_triples_by_longest.nd rfl (.inl rfl)) pgs_nil)))) (fun _ _ _ _ _ => (pts_one (PW.pt (pw_and (pt_cmpR op_eq (pe_op op_add (pe_op op_mulX (pv 3) (pv 3)) (pe_op op_mulX (pv 2) (pv 2))) (pv 0) (nomark _)) (pw_and1 (pt_val (pe_cal C_is_pair (hr.mono (by decide)) (by rfl) pass0 (pa_cons (pe_tup (pa_cons (pv 3) (pa_cons (pv 2) pa_nil))) pa_nil)))))))) (fun _ _ _ _ _ => (pe_cal C_formed (hr.mono (by decide)) (by rfl) pass0 (pa_cons (pv 3) (pa_cons (pv 2) pa_nil))))) pa_nil))))), ?_⟩
  have n2 := hN.lo
  have nM := hN.hi
  have hs := isq_small (n := N / 2) (by omega)
  have hsq : isq (N / 2) = PySem.Float64.isqrt (N / 2) := rfl
  have e0 : few (fun _ => true) (fun i => pd (up (lonC N i))) (isq (N / 2)) = (((List.range (isq (N / 2))).map (lonC N)).map fun x => pd (up x)) := by
    rw [few_all (fun _ => rfl), List.map_map]
    rfl
  refine q_asgLD (K := K) (ds := few (fun _ => true) (fun i => pd (up (lonC N i))) (isq (N / 2))) (eld_lcR2 (n := isq (N / 2)) (fun _ => true) (fun i => pd (up (lonC N i))) (fun i => intD_pd _) (ea_cons ev_c (ea_cons (ev_op (ev_isqS (ev_is (ev_op (ev_var rfl) ev_c (rv_I (divs (by decide) (by decide)))) (show _ = V.int ((N / 2 : Nat) : Int) by rw [Int.natCast_ediv]; rfl)) (Int.natCast_nonneg _) (by omega)) ev_c rv_I0) ea_nil)) (by rw [Int.toNat_natCast]; omega) (by rw [Int.toNat_natCast]; omega) (fun _ => rfl) (fun i H2 e2 hi => tYes_t) fun i H2 e2 hi hc => ?_) fun p vs H1 np e1 hp hvs => ?_
  · have h1 := isq_lo (N / 2)
    have h2 : (i + 1) * (i + 1) ≤ isq (N / 2) * isq (N / 2) := Nat.mul_le_mul hi hi
    have h3 : (1 + (i : Int)) * (1 + (i : Int)) = (((i + 1) * (i + 1) : Nat) : Int) := by
      rw [show (1 + (i : Int)) = ((i + 1 : Nat) : Int) by omega, Int.natCast_mul]
    refine ed_tup (eda_cons (ed_int (ev_is (ev_isqS (ev_op (ev_var rfl) (ev_op (ev_var rfl) (ev_var rfl) (rv_I (cm_small (by omega) (by omega)))) rv_I0) ?_ ?_) ?_)) (eda_cons (ed_int (ev_is (ev_var rfl) ?_)) eda_nil)) (by show 2 ≤ 100000; decide)
    · rw [h3]; omega
    · rw [h3]; omega
    · rw [h3, show ((N : Int) - (((i + 1) * (i + 1) : Nat) : Int)).toNat = N - (i + 1) * (i + 1) by omega]
      rfl
    · show V.int (1 + (i : Int)) = V.int ((i + 1 : Nat) : Int)
      rw [show ((i + 1 : Nat) : Int) = 1 + (i : Int) by omega]
  · rw [e0] at hvs
    refine s_retLD (K := K) (ds := (lonT' N).map tn) (eld_sorted (ps := lonN N) (EvLD.ev ?_)) fun p vs H2 np e2 hp hv2 => q p vs H2 (fresh_back e1 np) (e1.trans e2) hp hv2
    have e3 : (lonN N).map tn = (((List.range (isq (N / 2))).map (lonC N)).filter (lonT N)).map tn := by rw [filter_map_few]; rfl
    rw [e3]
    refine eld_lcP (lonT N) tn (fun d => intD_td _) (ed_var rfl (.lst (sq_of hp) hvs)) (by rw [List.length_map, List.length_range]; omega) (fun _ _ => rfl) (fun x H2 e2 hx => ?_) fun x H2 e2 hx hc => ?_
    · obtain ⟨i, hi, rfl⟩ := List.mem_map.mp hx
      have hi := List.mem_range.mp hi
      have h1 : (lonC N i).1 ≤ 1000 := isq_small (by omega)
      have h2 : (lonC N i).2 ≤ 1000 := by show i + 1 ≤ 1000; omega
      unfold lonT
      generalize lonC N i = x at h1 h2 hx
      refine et_and (et_is (et_test (ev_op (ev_op (ev_op (ev_var rfl) (ev_var rfl) (rv_I (cm_small (by omega) (by omega)))) (ev_op (ev_var rfl) (ev_var rfl) (rv_I (cm_small (by omega) (by omega)))) rv_I0) (ev_var rfl) rv_eqI)) ?_) fun _ => et_test (ev_is (ev_blD (ed_call (eda_cons (ed_tup (eda_cons (ed_int (ev_var rfl)) (eda_cons (ed_int (ev_var rfl)) eda_nil)) (by show 2 ≤ 100000; decide)) eda_nil) ⟨pd (up x), rfl, szT_pd _, rfl⟩)) ?_)
      · exact dec_sum
      · rw [pairD_up]
    · obtain ⟨i, hi, rfl⟩ := List.mem_map.mp hx
      have hi := List.mem_range.mp hi
      have h1 : (lonC N i).1 ≤ 1000 := isq_small (by omega)
      have h2 : (lonC N i).2 ≤ 1000 := by show i + 1 ≤ 1000; omega
      generalize lonC N i = x at h1 h2 hx
      exact ed_call (eda_cons (ed_int (ev_var rfl)) (eda_cons (ed_int (ev_var rfl)) eda_nil)) ⟨_, _, rfl, (sm30 (by omega)).up (by decide), (sm30 (by omega)).up (by decide), rfl⟩

theorem ok_triples_by_leg {P : Program} {w : World} {K : PySem.W.Frag} {mg : Str → Option Value} {base : Heap}  {tL tM : Tok} {cA cL cB cG cH : Addr} {f : Addr} {fd : FuncData} (F : Fun K "triples_by_leg" "triples_by_leg" s_triples_by_leg f fd) (T : Txt K mg tL tM cA cL cB cG cH) (C_is_pair : Cal P w K mg base CX0 "is_pair" 3 P_is_pair (spF K R_is_pair)) (C_formed : Cal P w K mg base CX0 "formed" 1 P_formed (spF K R_formed)) (C__pairs_by_even : Cal P w K mg base CX0 "_pairs_by_even" 1 P__pairs_by_even (spL K R__pairs_by_even)) (C__pairs_by_odd : Cal P w K mg base CX0 "_pairs_by_odd" 1 P__pairs_by_odd (spL K R__pairs_by_odd)) :
    FnOk P w K mg base CX0 4 f fd P_triples_by_leg (spL K R_triples_by_leg) := by
  refine F.ok sc_triples_by_leg (spL_len fun ds es h => by
    first | (obtain ⟨_, rfl, _⟩ := h; rfl) | (obtain ⟨_, _, rfl, _⟩ := h; rfl) | (obtain ⟨_, _, _, rfl, _⟩ := h; rfl) | (obtain ⟨_, _, _, _, rfl, _⟩ := h; rfl) | (rcases h with ⟨rfl, _⟩ | ⟨_, _, rfl, _⟩ <;> rfl)) (fun cdv A outer s H vs Q E hr h => ?_)
  obtain ⟨ds, es, hv, hR, q⟩ := h
  obtain ⟨N, rfl, hN, rfl⟩ := hR
  cases dvs1i hv
  refine ⟨_, (pss_cons (ps_set (i := 1) sc_triples_by_leg.nd rfl (.inl rfl) (pe_ifExp (pt_cmpR op_eq (pe_op op_mod (pv 0) pe_int) pe_int (nomark _)) (pe_cal C__pairs_by_even (hr.mono (by decide)) (by rfl) pass0 (pa_cons (pv 0) pa_nil)) (pe_cal C__pairs_by_odd (hr.mono (by decide)) (by rfl) pass0 (pa_cons (pv 0) pa_nil))))
      (pss_one (ps_ret (pe_callB (cr_sortedN (K := K) rfl (hu64 hr)) (by rfl) T.sorted (by decide +kernel) (pa_cons (pe_lc (own := [("m", 2), ("n", 3)]) (g := gTup K 2 (gCons (gName 2) (gCons (gName 3) gNil))) rfl sc_triples_by_leg.nd (pi_list (pv 1)) (blkOk_by (own := [("m", 2), ("n", 3)]) (N := N_triples_by_leg) (sc := defScope s_triples_by_leg) (by decide +kernel)) (fun _ _ _ _ _ => (pg_tup rfl (pgs_cons (pg_name (i := 2) sc_triples_by_leg.nd rfl (.inl rfl)) (pgs_cons (pg_name (i := 3) sc_triples_by_leg.nd rfl (.inl rfl)) pgs_nil)))) (fun _ _ _ _ _ => (pts_one (pt_val (pe_cal C_is_pair (hr.mono (by decide)) (by rfl) pass0 (pa_cons (pe_tup (pa_cons (pv 2) (pa_cons (pv 3) pa_nil))) pa_nil))))) (fun _ _ _ _ _ => (pe_cal C_formed (hr.mono (by decide)) (by rfl) pass0 (pa_cons (pv 2) (pa_cons (pv 3) pa_nil))))) pa_nil))))), ?_⟩
  have n2 := hN.lo
  have nM := hN.hi
  refine q_asgD (K := K) (d := .list ((legPs N).map fun x => pd (up x))) (ed_if (b := decide (N % 2 = 0)) (et_is (et_test (ev_op (ev_op (ev_var rfl) ev_c (rv_I (by decide))) ev_c rv_eqI)) dec_mod) (fun hb => EvLD.ev (eld_call (eda_cons (ed_int (ev_var rfl)) eda_nil) ⟨N, rfl, hN, of_decide_eq_true hb, rfl⟩)) fun hb => EvLD.ev (eld_call (eda_cons (ed_int (ev_var rfl)) eda_nil) ⟨N, rfl, hN, by have := of_decide_eq_false hb; omega, rfl⟩)) fun v H1 e1 hvs => ?_
  refine s_retLD (K := K) (ds := (legT' N).map tn) (eld_sorted (ps := legN N) (EvLD.ev ?_)) fun p vs H2 np e2 hp hv2 => q p vs H2 (fresh_back e1 np) (e1.trans e2) hp hv2
  rw [← legPs_filter]
  have hb : ∀ x ∈ legPs N, x.1 ≤ 1000000 ∧ x.2 ≤ 1000000 := fun x hx => legPs_le nM hx
  refine eld_lcP (fun x => pairN x.1 x.2) tn (fun d => intD_td _) (ed_var rfl hvs) (Nat.le_trans (few_len _) (Nat.le_trans (legR_le nM) (by decide))) (fun _ _ => rfl) (fun x H2 e2 hx => ?_) fun x H2 e2 hx hc => ?_
  · exact et_test (ev_is (ev_blD (ed_call (eda_cons (ed_tup (eda_cons (ed_int (ev_var rfl)) (eda_cons (ed_int (ev_var rfl)) eda_nil)) (by show 2 ≤ 100000; decide)) eda_nil) ⟨pd (up x), rfl, szT_pd _, rfl⟩)) (by rw [pairD_up]))
  · obtain ⟨h1, h2⟩ := hb x hx
    exact ed_call (eda_cons (ed_int (ev_var rfl)) (eda_cons (ed_int (ev_var rfl)) eda_nil)) ⟨_, _, rfl, (sm30 (by omega)).up (by decide), (sm30 (by omega)).up (by decide), rfl⟩

theorem ok__law_due {P : Program} {w : World} {K : PySem.W.Frag} {mg : Str → Option Value} {base : Heap}  {tL tM : Tok} {cA cL cB cG cH : Addr} {f : Addr} {fd : FuncData} (F : Fun K "_law_due" "_law_due" s__law_due f fd) (T : Txt K mg tL tM cA cL cB cG cH) (C__law_longest : Cal P w K mg base CX0 "_law_longest" 2 P__law_longest (spL K R__law_longest)) (C__law_legs : Cal P w K mg base CX0 "_law_legs" 2 P__law_legs (spL K R__law_legs)) (C__law_bars : Cal P w K mg base CX0 "_law_bars" 3 P__law_bars (spF K R__law_bars)) :
    FnOk P w K mg base CX0 4 f fd P__law_due (spDue K (Csf cL cB cG cH)) := by

  refine F.ok sc__law_due (fun vs H Q E h => ?_) (fun cdv A outer s H vs Q E hr h => ?_)
  · obtain ⟨_, _, _, _, _, _, _, _, rfl, _⟩ := h
    rfl
  · obtain ⟨d, p, l, xs, N, a, c, o, rfl, hN, hc, hne, hl, ho, hD, hA, q⟩ := h
    refine ⟨_, (pss_cons (ps_if (pt_cmp (pc_dnotin (hu_of hr) (pv 1) (pv 0))) (pss_one (ps_dput (hu_of hr) (pv 0) (pv 1) (pe_tup (pa_cons (pe_cal C__law_longest (hr.mono (by decide)) (by rfl) pass0 (pa_cons (pv 1) pa_nil)) (pa_cons (pe_cal C__law_legs (hr.mono (by decide)) (by rfl) pass0 (pa_cons (pv 1) pa_nil)) pa_nil))) rfl)) pss_nil)
      (pss_cons (ps_if (pt_val (pe_callB (k_isi (K := K) rfl) (by rfl) T.isinstance (by decide +kernel) (pa_cons (pv 2) (pa_cons (pe_glob (v := .ref cL) (by rfl) T.Longest rfl) pa_nil)))) (pss_one (ps_ret (pe_and (pe_cmpR (k_neD (K := K) rfl (hu64 hr)) (pe_fld (pv 2) rfl) (pe_lst pa_nil) (nomark _)) (pe_one (pe_cmpR (k_eqD (K := K) rfl (hu64 hr)) (pe_fld (pv 2) rfl) (pe_ix (k_ixT (K := K) rfl) (pe_dget (hu_of hr) (pv 0) (pv 1) (fun _ _ => rfl)) pe_int (fun _ _ => rfl)) (nomark _)))))) pss_nil)
      (pss_cons (ps_if (pt_val (pe_callB (k_isi (K := K) rfl) (by rfl) T.isinstance (by decide +kernel) (pa_cons (pv 2) (pa_cons (pe_glob (v := .ref cG) (by rfl) T.Leg rfl) pa_nil)))) (pss_one (ps_ret (pe_and (pe_cmpR (k_neD (K := K) rfl (hu64 hr)) (pe_fld (pv 2) rfl) (pe_lst pa_nil) (nomark _)) (pe_one (pe_cmpR (k_eqD (K := K) rfl (hu64 hr)) (pe_fld (pv 2) rfl) (pe_ix (k_ixT (K := K) rfl) (pe_dget (hu_of hr) (pv 0) (pv 1) (fun _ _ => rfl)) pe_int (fun _ _ => rfl)) (nomark _)))))) pss_nil)
      (pss_one (ps_ret (pe_ifExp (pt_val (pe_callB (k_isi (K := K) rfl) (by rfl) T.isinstance (by decide +kernel) (pa_cons (pv 2) (pa_cons (pe_glob (v := .ref cH) (by rfl) T.Halved rfl) pa_nil)))) (pe_cmpR op_eq (pe_op op_mod (pv 1) pe_int) pe_int (nomark _)) (pe_cal C__law_bars (hr.mono (by decide)) (by rfl) pass0 (pa_cons (pv 1) (pa_cons (pe_fld (pv 2) rfl) pa_nil))))))))), ?_⟩
    obtain ⟨kv0, g1, _⟩ := id hD
    refine q_known (K := K) rfl rfl hN hc hne hl ho hD fun H1 v kvs e1 hD1 hd1 hv1 hk1 => ?_
    have hA1 := hA.ersD g1 e1
    have fin : ∀ H2, Ex H1 H2 → Q (.bl (a.shows N)) H2 := fun H2 e2 => q H2 (e1.trans e2) (hD1.ex e2)
    cases a with
    | lon ps =>
      refine q_taken (et_is (et_test (ev_isiC T.kit (j := 0) (by decide) (ev_var rfl) hA1)) rfl) fun H2 e2 => ?_
      refine s_ret (ev_is (ev_andV (ev_neD (d := .list (ps.map tn)) (e := .list (([] : List NN).map tn)) (ed_fldL (ev_var rfl) T.cls_Longest T.na_Longest (hA1.1.ex e2) (hA1.2.1.ex e2)) (EvLD.ev (eld_lst eda_nil (by show 0 ≤ 100000; decide))) (shaped_tl _) (shaped_tl _)) fun _ => ev_eqD (d := .list (ps.map tn)) (e := .list ((lonT' N).map tn)) (ed_fldL (ev_var rfl) T.cls_Longest T.na_Longest (hA1.1.ex e2) (hA1.2.1.ex e2)) (ed_ixT (j := 0) (ed_dget rfl rfl (e2 _ _ hd1) hv1 (hk1.ex e2)) ev_c rfl rfl) (shaped_tl _) (shaped_tl _)) ?_) fun H3 e3 => fin H3 (e2.trans e3)
      rw [eqv_tl hA1.2.2 (lonT_P N), eqv_tl (qs := []) hA1.2.2 (fun _ z => nomatch z), ← decide_not]
      exact congrArg V.bl (lon_due ps N)
    | bar b =>
      refine q_pass (et_is (et_test (ev_isiC T.kit (j := 0) (by decide) (ev_var rfl) hA1)) rfl) fun H2 e2 => ?_
      refine q_pass (et_is (et_test (ev_isiC T.kit (j := 2) (by decide) (ev_var rfl) (hA1.ex e2))) rfl) fun H3 e3 => ?_
      exact s_ret (ev_if (b := false) (et_is (et_test (ev_isiC T.kit (j := 3) (by decide) (ev_var rfl) (hA1.ex (e2.trans e3)))) rfl) (fun z => Bool.noConfusion z) fun _ => ev_blD (K := K) (ed_call (eda_cons (ed_int (ev_var rfl)) (eda_cons (ed_int (ev_fldB (ev_var rfl) T.cls_Barred T.na_Barred (HasB.ex hA1 (e2.trans e3)))) eda_nil)) ⟨N, b, rfl, hN, rfl⟩)) fun H4 e4 => fin H4 ((e2.trans e3).trans e4)
    | leg ps =>
      refine q_pass (et_is (et_test (ev_isiC T.kit (j := 0) (by decide) (ev_var rfl) hA1)) rfl) fun H2 e2 => ?_
      refine q_taken (et_is (et_test (ev_isiC T.kit (j := 2) (by decide) (ev_var rfl) (hA1.ex e2))) rfl) fun H3 e3 => ?_
      have e23 := e2.trans e3
      refine s_ret (ev_is (ev_andV (ev_neD (d := .list (ps.map tn)) (e := .list (([] : List NN).map tn)) (ed_fldL (ev_var rfl) T.cls_Leg T.na_Leg (hA1.1.ex e23) (hA1.2.1.ex e23)) (EvLD.ev (eld_lst eda_nil (by show 0 ≤ 100000; decide))) (shaped_tl _) (shaped_tl _)) fun _ => ev_eqD (d := .list (ps.map tn)) (e := .list ((legT' N).map tn)) (ed_fldL (ev_var rfl) T.cls_Leg T.na_Leg (hA1.1.ex e23) (hA1.2.1.ex e23)) (ed_ixT (j := 1) (ed_dget rfl rfl (e23 _ _ hd1) hv1 (hk1.ex e23)) ev_c rfl rfl) (shaped_tl _) (shaped_tl _)) ?_) fun H4 e4 => fin H4 (e23.trans e4)
      rw [eqv_tl hA1.2.2 (legT_P N), eqv_tl (qs := []) hA1.2.2 (fun _ z => nomatch z), ← decide_not]
      exact congrArg V.bl (leg_due ps N)
    | hal =>
      refine q_pass (et_is (et_test (ev_isiC T.kit (j := 0) (by decide) (ev_var rfl) hA1)) rfl) fun H2 e2 => ?_
      refine q_pass (et_is (et_test (ev_isiC T.kit (j := 2) (by decide) (ev_var rfl) (hA1.ex e2))) rfl) fun H3 e3 => ?_
      exact s_ret (ev_is (ev_if (b := true) (et_is (et_test (ev_isiC T.kit (j := 3) (by decide) (ev_var rfl) (hA1.ex (e2.trans e3)))) rfl) (fun _ => ev_op (ev_op (ev_var rfl) ev_c (rv_I (show (0 : Int) < 4 by decide))) ev_c rv_eqI) fun z => Bool.noConfusion z) (congrArg V.bl (dec_iff (by omega)))) fun H4 e4 => fin H4 ((e2.trans e3).trans e4)

theorem ok_Longest_shows {P : Program} {w : World} {K : PySem.W.Frag} {mg : Str → Option Value} {base : Heap}  {tL tM : Tok} {cA cL cB cG cH : Addr} {f : Addr} {fd : FuncData} (F : Fun K "shows" "Longest.shows" s_Longest_shows f fd) (T : Txt K mg tL tM cA cL cB cG cH) (C_is_side : Cal P w K mg base CX0 "is_side" 2 P_is_side (spF K R_is_side)) (C_triples_by_longest : Cal P w K mg base CX0 "triples_by_longest" 4 P_triples_by_longest (spL K R_triples_by_longest)) :
    FnOk P w K mg base CX0 5 f fd P_Longest_shows (spShowsL K cL lonT') := by

  refine F.ok sc_Longest_shows (fun vs H Q E h => ?_) (fun cdv A outer s H vs Q E hr h => ?_)
  · obtain ⟨_, _, _, _, _, rfl, _⟩ := h
    rfl
  · obtain ⟨p, l, xs, ps, N, rfl, hN, hP, hL, hxs, q⟩ := h
    refine ⟨_, (pss_cons (ps_if (pt_not (pt_val (pe_cal C_is_side (hr.mono (by decide)) (by rfl) pass0 (pa_cons (pv 1) pa_nil)))) (pss_one (ps_ret pe_bl)) pss_nil)
      (pss_cons (ps_set (i := 2) sc_Longest_shows.nd rfl (.inl rfl) (pe_cal C_triples_by_longest (hr.mono (by decide)) (by rfl) pass0 (pa_cons (pv 1) pa_nil)))
      (pss_one (ps_ret (pe_and (pe_cmpR op_gt (pe_callB (k_len (K := K) rfl) (by rfl) T.len (by decide +kernel) (pa_cons (pv 2) pa_nil)) pe_int (nomark _)) (pe_one (pe_cmpR (k_eqD (K := K) rfl (hu64 hr)) (pe_fld (pv 0) rfl) (pv 2) (nomark _)))))))), ?_⟩
    refine q_pass (et_is (et_not (et_B (ev_blD (ed_call (eda_cons (ed_int (ev_var rfl)) eda_nil) ⟨.int N, rfl, rfl⟩)))) (by rw [isSide_N hN]; rfl)) fun H1 e1 => ?_
    refine q_asgLD (K := K) (eld_call (eda_cons (ed_int (ev_var rfl)) eda_nil) ⟨N, rfl, hN, rfl⟩) fun t vs H2 nt e2 ht hvs => ?_
    have e12 := e1.trans e2
    refine s_ret (ev_is (ev_andV (ev_op (ev_lenL (ed_var rfl (.lst (sq_of ht) hvs))) ev_c rv_I0) fun _ => ev_eqD (ed_fldL (ev_var rfl) T.cls_Longest T.na_Longest (hL.ex e12) (hxs.ex e12)) (ed_var rfl (.lst (sq_of ht) hvs)) (shaped_tl _) (shaped_tl _)) ?_) fun H3 e3 => q H3 (e12.trans e3)
    rw [eqv_tl hP (lonT_P N), List.length_map]
    congr 2
    cases lonT' N with
    | nil => rfl
    | cons a b => exact decide_eq_true (by rw [List.length_cons]; omega)

theorem ok_Leg_shows {P : Program} {w : World} {K : PySem.W.Frag} {mg : Str → Option Value} {base : Heap}  {tL tM : Tok} {cA cL cB cG cH : Addr} {f : Addr} {fd : FuncData} (F : Fun K "shows" "Leg.shows" s_Leg_shows f fd) (T : Txt K mg tL tM cA cL cB cG cH) (C_is_side : Cal P w K mg base CX0 "is_side" 2 P_is_side (spF K R_is_side)) (C_triples_by_leg : Cal P w K mg base CX0 "triples_by_leg" 4 P_triples_by_leg (spL K R_triples_by_leg)) :
    FnOk P w K mg base CX0 5 f fd P_Leg_shows (spShowsL K cG legT') := by

  refine F.ok sc_Leg_shows (fun vs H Q E h => ?_) (fun cdv A outer s H vs Q E hr h => ?_)
  · obtain ⟨_, _, _, _, _, rfl, _⟩ := h
    rfl
  · obtain ⟨p, l, xs, ps, N, rfl, hN, hP, hL, hxs, q⟩ := h
    refine ⟨_, (pss_cons (ps_if (pt_not (pt_val (pe_cal C_is_side (hr.mono (by decide)) (by rfl) pass0 (pa_cons (pv 1) pa_nil)))) (pss_one (ps_ret pe_bl)) pss_nil)
      (pss_cons (ps_set (i := 2) sc_Leg_shows.nd rfl (.inl rfl) (pe_cal C_triples_by_leg (hr.mono (by decide)) (by rfl) pass0 (pa_cons (pv 1) pa_nil)))
      (pss_one (ps_ret (pe_and (pe_cmpR op_gt (pe_callB (k_len (K := K) rfl) (by rfl) T.len (by decide +kernel) (pa_cons (pv 2) pa_nil)) pe_int (nomark _)) (pe_one (pe_cmpR (k_eqD (K := K) rfl (hu64 hr)) (pe_fld (pv 0) rfl) (pv 2) (nomark _)))))))), ?_⟩
    refine q_pass (et_is (et_not (et_B (ev_blD (ed_call (eda_cons (ed_int (ev_var rfl)) eda_nil) ⟨.int N, rfl, rfl⟩)))) (by rw [isSide_N hN]; rfl)) fun H1 e1 => ?_
    refine q_asgLD (K := K) (eld_call (eda_cons (ed_int (ev_var rfl)) eda_nil) ⟨N, rfl, hN, rfl⟩) fun t vs H2 nt e2 ht hvs => ?_
    have e12 := e1.trans e2
    refine s_ret (ev_is (ev_andV (ev_op (ev_lenL (ed_var rfl (.lst (sq_of ht) hvs))) ev_c rv_I0) fun _ => ev_eqD (ed_fldL (ev_var rfl) T.cls_Leg T.na_Leg (hL.ex e12) (hxs.ex e12)) (ed_var rfl (.lst (sq_of ht) hvs)) (shaped_tl _) (shaped_tl _)) ?_) fun H3 e3 => q H3 (e12.trans e3)
    rw [eqv_tl hP (legT_P N), List.length_map]
    congr 2
    cases legT' N with
    | nil => rfl
    | cons a b => exact decide_eq_true (by rw [List.length_cons]; omega)

theorem ok_longest {P : Program} {w : World} {K : PySem.W.Frag} {mg : Str → Option Value} {base : Heap}  {tL tM : Tok} {cA cL cB cG cH : Addr} {f : Addr} {fd : FuncData} (F : Fun K "longest" "longest" s_longest f fd) (T : Txt K mg tL tM cA cL cB cG cH) (C__check_side : Cal P w K mg base CX0 "_check_side" 3 P__check_side (spF K R__check_side)) (C_barring_primes : Cal P w K mg base CX0 "barring_primes" 2 P_barring_primes (spL K R_barring_primes)) (C_triples_by_longest : Cal P w K mg base CX0 "triples_by_longest" 4 P_triples_by_longest (spL K R_triples_by_longest)) (C_Longest_init : KCal P w K mg base CX0 cL 1 P_Longest_init (spInitL K cL)) (C_Barred_init : KCal P w K mg base CX0 cB 1 P_Barred_init (spInitB cB)) :
    FnOk P w K mg base CX0 5 f fd P_longest (spAsk K (Csf cL cB cG cH) 0) := by

  refine F.ok sc_longest (fun vs H Q E h => ?_) (fun cdv A outer s H vs Q E hr h => ?_)
  · obtain ⟨_, rfl, _⟩ := h
    rfl
  · obtain ⟨N, rfl, hN, q⟩ := h
    refine ⟨_, (pss_cons (ps_expr (pe_cal C__check_side (hr.mono (by decide)) (by rfl) pass0 (pa_cons (pv 0) pa_nil)))
      (pss_cons (ps_set (i := 1) sc_longest.nd rfl (.inl rfl) (pe_cal C_barring_primes (hr.mono (by decide)) (by rfl) pass0 (pa_cons (pv 0) pa_nil)))
      (pss_cons (ps_if (pt_cmpR op_gt (pe_callB (k_len (K := K) rfl) (by rfl) T.len (by decide +kernel) (pa_cons (pv 1) pa_nil)) pe_int (nomark _)) (pss_one (ps_ret (pe_kcal C_Barred_init (hr.mono (by decide)) (by rfl) T.Barred pass0 (pa_cons (pe_ix (k_ixL (K := K) rfl) (pv 1) pe_int (fun _ _ => rfl)) pa_nil)))) pss_nil)
      (pss_one (ps_ret (pe_kcal C_Longest_init (hr.mono (by decide)) (by rfl) T.Longest pass0 (pa_cons (pe_cal C_triples_by_longest (hr.mono (by decide)) (by rfl) pass0 (pa_cons (pv 0) pa_nil)) pa_nil))))))), ?_⟩
    have n2 := hN.lo
    refine q_drop (ev_nonD (ed_call (eda_cons (ed_int (ev_var rfl)) eda_nil) ⟨N, rfl, hN, rfl⟩)) fun H1 e1 => ?_
    refine q_asgLD (K := K) (eld_call (eda_cons (ed_int (ev_var rfl)) eda_nil) ⟨N, rfl, hN, rfl⟩) fun t vs H2 nt e2 ht hvs => ?_
    have e12 := e1.trans e2
    cases hb : barring N with
    | nil =>
      rw [hb] at hvs
      refine q_pass (et_is (et_test (ev_op (ev_lenL (ed_var rfl (.lst (sq_of ht) hvs))) ev_c rv_I0)) rfl) fun H3 e3 => ?_
      have hne : lonT' N ≠ [] := fun z => lon_some n2 hN.hi hb (lonT_nil.mp z)
      exact em_L (EvLD.ev (eld_call (eda_cons (ed_int (ev_var rfl)) eda_nil) ⟨N, rfl, hN, rfl⟩)) _ (Ex.refl _) _ fun p l xs H4 np nl e4 hL hxs => q (.lon (lonT' N)) p l xs H4 ⟨rfl, rfl, hne, hb⟩ (fresh_back (e12.trans e3) np) (fresh_back (e12.trans e3) nl) ((e12.trans e3).trans e4) ⟨hL, hxs, lonT_P N⟩ (by obtain ⟨_, _, z⟩ := hL; exact ⟨_, z, trivial⟩)
    | cons b bs =>
      rw [hb] at hvs
      refine q_taken (et_is (et_test (ev_op (ev_lenL (ed_var rfl (.lst (sq_of ht) hvs))) ev_c rv_I0)) (decide_eq_true (by rw [List.length_map, List.length_cons]; omega))) fun H3 e3 => ?_
      have hm : b ∈ barring N := by rw [hb]; exact List.mem_cons_self
      have hs : barsI N (b : Int) = true := by
        unfold barsI
        rw [decide_eq_true (show (0 : Int) ≤ (b : Int) by omega), Int.toNat_natCast, decide_eq_true hm]
        rfl
      exact em_B (ev_intD (ed_ixL (j := 0) (ed_var rfl ((DV.lst (sq_of ht) hvs).ex e3)) ev_c rfl rfl)) _ (Ex.refl _) _ fun p H4 np e4 hB => q (.bar b) p p [] H4 ⟨rfl, hs⟩ (fresh_back (e12.trans e3) np) (fresh_back (e12.trans e3) np) ((e12.trans e3).trans e4) hB (by obtain ⟨_, z⟩ := hB; exact ⟨_, z, trivial⟩)

theorem ok_leg {P : Program} {w : World} {K : PySem.W.Frag} {mg : Str → Option Value} {base : Heap}  {tL tM : Tok} {cA cL cB cG cH : Addr} {f : Addr} {fd : FuncData} (F : Fun K "leg" "leg" s_leg f fd) (T : Txt K mg tL tM cA cL cB cG cH) (C__check_side : Cal P w K mg base CX0 "_check_side" 3 P__check_side (spF K R__check_side)) (C_triples_by_leg : Cal P w K mg base CX0 "triples_by_leg" 4 P_triples_by_leg (spL K R_triples_by_leg)) (C_Leg_init : KCal P w K mg base CX0 cG 1 P_Leg_init (spInitL K cG)) :
    FnOk P w K mg base CX0 5 f fd P_leg (spAsk K (Csf cL cB cG cH) 2) := by

  refine F.ok sc_leg (fun vs H Q E h => ?_) (fun cdv A outer s H vs Q E hr h => ?_)
  · obtain ⟨_, rfl, _⟩ := h
    rfl
  · obtain ⟨N, rfl, hN, q⟩ := h
    refine ⟨_, (pss_cons (ps_expr (pe_cal C__check_side (hr.mono (by decide)) (by rfl) pass0 (pa_cons (pv 0) pa_nil)))
      (pss_cons (ps_if (pt_cmpR op_eq (pe_op op_mod (pv 0) pe_int) pe_int (nomark _)) (pss_one (ps_ret (pe_mk0 T.mk_Halved (by rfl) T.Halved))) pss_nil)
      (pss_one (ps_ret (pe_kcal C_Leg_init (hr.mono (by decide)) (by rfl) T.Leg pass0 (pa_cons (pe_cal C_triples_by_leg (hr.mono (by decide)) (by rfl) pass0 (pa_cons (pv 0) pa_nil)) pa_nil)))))), ?_⟩
    have n2 := hN.lo
    refine q_drop (ev_nonD (ed_call (eda_cons (ed_int (ev_var rfl)) eda_nil) ⟨N, rfl, hN, rfl⟩)) fun H1 e1 => ?_
    refine q_when (b := decide (N % 4 = 2)) (et_is (et_test (ev_op (ev_op (ev_var rfl) ev_c (rv_I (show (0 : Int) < 4 by decide))) ev_c rv_eqI)) (dec_iff (by omega))) (fun hb H2 e2 => ?_) fun hb H2 e2 => ?_
    · exact em_0 _ (Ex.refl _) _ fun p H4 np e4 h0 => q .hal p p [] H4 ⟨rfl, of_decide_eq_true hb⟩ (fresh_back (e1.trans e2) np) (fresh_back (e1.trans e2) np) ((e1.trans e2).trans e4) h0 (by obtain ⟨_, z⟩ := h0; exact ⟨_, z, trivial⟩)
    · have hne : legT' N ≠ [] := fun z => leg_some n2 (of_decide_eq_false hb) (legT_nil.mp z)
      exact em_L (EvLD.ev (eld_call (eda_cons (ed_int (ev_var rfl)) eda_nil) ⟨N, rfl, hN, rfl⟩)) _ (Ex.refl _) _ fun p l xs H4 np nl e4 hL hxs => q (.leg (legT' N)) p l xs H4 ⟨rfl, rfl, hne, of_decide_eq_false hb⟩ (fresh_back (e1.trans e2) np) (fresh_back (e1.trans e2) nl) ((e1.trans e2).trans e4) ⟨hL, hxs, legT_P N⟩ (by obtain ⟨_, _, z⟩ := hL; exact ⟨_, z, trivial⟩)

theorem ok__law_told_right {P : Program} {w : World} {K : PySem.W.Frag} {mg : Str → Option Value} {base : Heap}  {tL tM : Tok} {cA cL cB cG cH : Addr} {f : Addr} {fd : FuncData} (F : Fun K "_law_told_right" "_law_told_right" s__law_told_right f fd) (T : Txt K mg tL tM cA cL cB cG cH) {fL fG : Addr} (hfne : fL ≠ fG) (hA : ∀ f sp, Sask K (Csf cL cB cG cH) fL fG f = some sp → Held P w K mg base 5 f sp) (hSh : ∀ i : Fin 4, MCal P w K mg base CX0 (Csf cL cB cG cH i.val) "shows" 5 ["self", "number"] (spsA K (Csf cL cB cG cH) i.val)) (C__law_due : Cal P w K mg base CX0 "_law_due" 4 P__law_due (spDue K (Csf cL cB cG cH))) (C__law_says : Cal P w K mg base CX0 "_law_says" 1 P__law_says (spF K R__law_says)) (C__law_whole : Cal P w K mg base CX0 "_law_whole" 1 P__law_whole (spF K R__law_whole)) (C__law_are : Cal P w K mg base CX0 "_law_are" 2 P__law_are (spF K R__law_are)) :
    FnOk P w K mg base CX0 20 f fd P__law_told_right (spTold K (Csf cL cB cG cH) fL fG) := by

  refine F.ok sc__law_told_right (fun vs H Q E h => ?_) (fun cdv A outer s H vs Q E hr h => ?_)
  · obtain ⟨_, _, _, _, _, _, _, _, rfl, _⟩ := h
    rfl
  · obtain ⟨d, f, o, N, g, M1, M2, c, rfl, hf, hN, hM1, hM2, hc, hD, ho, q⟩ := h
    refine ⟨_, (pss_cons (ps_for PassesOwn.never rfl (pi_range1 (by rfl) T.range (pa_cons pe_int pa_nil)) (pg_name (i := 5) sc__law_told_right.nd rfl (.inl rfl)) (pss_cons (ps_set (i := 6) sc__law_told_right.nd rfl (.inl rfl) (pe_callA hA (hr.mono (by decide)) (i := 2) (by rfl) (.inl rfl) (pa_cons (pv 1) pa_nil)))
      (pss_cons (ps_set (i := 7) sc__law_told_right.nd rfl (.inl rfl) (pe_lst (pa_cons (pe_callB (k_isi (K := K) rfl) (by rfl) T.isinstance (by decide +kernel) (pa_cons (pv 6) (pa_cons (pe_glob (v := .ref cL) (by rfl) T.Longest rfl) pa_nil))) (pa_cons (pe_callB (k_isi (K := K) rfl) (by rfl) T.isinstance (by decide +kernel) (pa_cons (pv 6) (pa_cons (pe_glob (v := .ref cB) (by rfl) T.Barred rfl) pa_nil))) pa_nil))))
      (pss_cons (ps_set (i := 7) sc__law_told_right.nd rfl (.inl rfl) (pe_op op_cat (pv 7) (pe_lst (pa_cons (pe_callB (k_isi (K := K) rfl) (by rfl) T.isinstance (by decide +kernel) (pa_cons (pv 6) (pa_cons (pe_glob (v := .ref cG) (by rfl) T.Leg rfl) pa_nil))) (pa_cons (pe_callB (k_isi (K := K) rfl) (by rfl) T.isinstance (by decide +kernel) (pa_cons (pv 6) (pa_cons (pe_glob (v := .ref cH) (by rfl) T.Halved rfl) pa_nil))) pa_nil)))))
      (pss_cons (ps_if (PW.pt (pw_or (pt_not (pt_val (pe_callB (k_isi (K := K) rfl) (by rfl) T.isinstance (by decide +kernel) (pa_cons (pv 6) (pa_cons (pe_glob (v := .ref cA) (by rfl) T.Answer rfl) pa_nil))))) (pw_or1 (pt_cmpR op_ne (pe_bm PySem.F.plainAttrs_list PySem.F.slot_list_count PySem.F.type_list_count (mt_countD (K := K) rfl (hu65 hr)) (pv 7) (pa_cons pe_bl pa_nil)) pe_int (nomark _))))) (pss_one (ps_ret pe_bl)) pss_nil)
      (pss_cons (ps_if (pt_cmpR (k_notin (K := K) rfl) (pe_bm PySem.F.plainAttrs_list PySem.F.slot_list_index PySem.F.type_list_index (k_index (K := K) rfl) (pv 7) (pa_cons pe_bl pa_nil)) (pe_tup (pa_cons (pv 3) (pa_cons (pe_op op_add (pv 3) pe_int) pa_nil))) rfl) (pss_one (ps_ret pe_bl)) pss_nil)
      (pss_cons (ps_if (PW.pt (pw_or (pt_not (pt_val (pe_cal C__law_due (hr.mono (by decide)) (by rfl) pass0 (pa_cons (pv 0) (pa_cons (pv 1) (pa_cons (pv 6) pa_nil)))))) (pw_or1 (pt_cmpR op_notBl (pe_any (ι := Fin 4) fun i => pe_mcal (hSh i) (pv 6) (T.kit.ins i.val i.isLt).cl (hr.mono (by decide)) pass0 (pa_cons (pv 1) pa_nil)) pe_bl (nomark _))))) (pss_one (ps_ret pe_bl)) pss_nil)
      (pss_cons (ps_for PassesOwn.never rfl (pi_list (pv 4)) (pg_name (i := 8) sc__law_told_right.nd rfl (.inl rfl)) (pss_cons (ps_set (i := 9) sc__law_told_right.nd rfl (.inl rfl) (pe_cal C__law_due (hr.mono (by decide)) (by rfl) pass0 (pa_cons (pv 0) (pa_cons (pv 8) (pa_cons (pv 6) pa_nil)))))
      (pss_one (ps_if (pt_not (pt_val (pe_cal C__law_says (hr.mono (by decide)) (by rfl) pass0 (pa_cons (pe_any (ι := Fin 4) fun i => pe_mcal (hSh i) (pv 6) (T.kit.ins i.val i.isLt).cl (hr.mono (by decide)) pass0 (pa_cons (pv 8) pa_nil)) (pa_cons (pv 9) pa_nil))))) (pss_one (ps_ret pe_bl)) pss_nil))))
      (pss_cons (ps_if (PW.pt (pw_and (pt_val (pe_ix (k_ixL (K := K) rfl) (pv 7) pe_int (fun _ _ => rfl))) (pw_and1 (pt_not (pt_val (pe_cal C__law_whole (hr.mono (by decide)) (by rfl) pass0 (pa_cons (pe_fld (pv 6) rfl) pa_nil))))))) (pss_one (ps_ret pe_bl)) pss_nil)
      (pss_cons (ps_if (pt_cmpR op_eq (pe_bm PySem.F.plainAttrs_list PySem.F.slot_list_index PySem.F.type_list_index (k_index (K := K) rfl) (pv 7) (pa_cons pe_bl pa_nil)) (pe_op op_add (pv 3) pe_int) (nomark _)) (pss_one (ps_ret pe_bl)) pss_nil)
      (pss_cons (ps_if (PW.pt (pw_or (pt_not (pt_val (pe_callB (k_isi (K := K) rfl) (by rfl) T.isinstance (by decide +kernel) (pa_cons (pe_fld (pv 6) rfl) (pa_cons (pe_bltn (v := .ty "list") (u := .type "list") (by rfl) T.list (by decide +kernel) rfl) pa_nil))))) (pw_or1 (pt_not (pt_val (pe_callB (k_all (K := K) rfl rfl) (by rfl) T.all (by decide +kernel) (pa_cons (pe_lc (own := [("_law_triple_here", 10)]) rfl sc__law_told_right.nd (pi_list (pe_fld (pv 6) rfl)) (blkOk_by (own := [("_law_triple_here", 10)]) (N := N__law_told_right) (sc := defScope s__law_told_right) (by decide +kernel)) (fun _ _ _ _ _ => (pg_name (i := 10) sc__law_told_right.nd rfl (.inl rfl))) (fun _ _ _ _ _ => pts_nil) (fun _ _ _ _ _ => (pe_cal C__law_are (hr.mono (by decide)) (by rfl) pass0 (pa_cons (pv 10) (pa_cons pe_int pa_nil))))) pa_nil))))))) (pss_one (ps_ret pe_bl)) pss_nil)
      (pss_cons (ps_expr (pe_bm PySem.F.plainAttrs_list PySem.F.slot_list_append PySem.F.type_list_append mt_append (pe_fld (pv 6) rfl) (pa_cons (pe_tup (pa_cons pe_int (pa_cons pe_int (pa_cons pe_int pa_nil)))) pa_nil)))
      (pss_one (ps_if (pt_cmpR op_notBl (pe_any (ι := Fin 4) fun i => pe_mcal (hSh i) (pv 6) (T.kit.ins i.val i.isLt).cl (hr.mono (by decide)) pass0 (pa_cons (pv 1) pa_nil)) pe_bl (nomark _)) (pss_one (ps_ret pe_bl)) pss_nil))))))))))))))
      (pss_one (ps_ret pe_bl))), ?_⟩
    obtain ⟨kv0, gd0, _⟩ := id hD
    refine q_forR1 (n := 2) (ea_cons ev_c ea_nil) ⟨by decide, by decide⟩ (fun i σ' H' => ∃ x5 x6 x7 x8 x9, σ' = [some (.ref d), some (.int (N : Int)), some (.ref f), some (.int (g : Int)), some (.ref o), x5, x6, x7, x8, x9, none] ∧ Ex (ers d H) H' ∧ DK K H' d (c + 3 * i) d) (fun H1 e1 => ⟨none, none, none, none, none, rfl, (ers_in d H).trans e1, hD.ex e1⟩) (fun i σ' H' hi P => ?_) fun σ' H' P => ?_
    · obtain ⟨x5, x6, x7, x8, x9, rfl, eH, hD0⟩ := P
      have hi : i < 2 := by omega
      obtain ⟨kv1, gd1, _⟩ := id hD0
      refine ⟨f, spAsk K (Csf cL cB cG cH) g, rfl, ask_some hfne hf, _, rfl, N, rfl, hN, fun a p l xs H1 hs np nl e1 hA1 hob => ?_⟩
      obtain ⟨ob, hl1, hob⟩ := hob
      have hne : d ≠ l := fun z => by rw [← z, gd1] at nl; cases nl
      have hD1 := hD0.apart e1 nl
      have e01 : Ex (ers d H) H1 := eH.trans e1
      refine q_asgLD (K := K) (ds := ([decide (a.ix = 0), decide (a.ix = 1)] : List Bool).map .bool) (eld_lst (eda_cons (ed_bl (ev_isiC T.kit (j := 0) (by decide) (ev_var rfl) hA1)) (eda_cons (ed_bl (ev_isiC T.kit (j := 1) (by decide) (ev_var rfl) hA1)) eda_nil)) (by show 2 ≤ 100000; decide)) fun k1 v1 H2 nk1 e2 hk1 hv1 => ?_
      refine q_asgLD (K := K) (ds := ([decide (a.ix = 0), decide (a.ix = 1)] : List Bool).map .bool ++ ([decide (a.ix = 2), decide (a.ix = 3)] : List Bool).map .bool) (eld_catV rfl hk1 hv1 (eld_lst (eda_cons (ed_bl (ev_isiC T.kit (j := 2) (by decide) (ev_var rfl) (hA1.ex e2))) (eda_cons (ed_bl (ev_isiC T.kit (j := 3) (by decide) (ev_var rfl) (hA1.ex e2))) eda_nil)) (by show 2 ≤ 100000; decide)) (by show 2 + 2 ≤ 100000; decide)) fun k2 v2 H3 nk2 e3 hk2 hv2 => ?_
      have ev2 : v2 = [.bl (decide (a.ix = 0)), .bl (decide (a.ix = 1)), .bl (decide (a.ix = 2)), .bl (decide (a.ix = 3))] := bools_vals (K := K) (H := H3) (bs := [decide (a.ix = 0), decide (a.ix = 1), decide (a.ix = 2), decide (a.ix = 3)]) hv2
      subst ev2
      have e13 := e2.trans e3
      refine q_pass (et_is (et_or (et_not (et_B (ev_isiA T.kit (ev_var rfl) (hA1.ex e13)))) fun _ => et_test (ev_op (ev_count (d := .bool true) (ds := ([decide (a.ix = 0), decide (a.ix = 1), decide (a.ix = 2), decide (a.ix = 3)] : List Bool).map .bool) (ed_var rfl (.lst (sq_of hk2) hv2)) (ed_bl ev_c) (shaped_bools _) rfl) ev_c rv_neI)) (kinds_test a)) fun H4 e4 => ?_
      refine q_pass (et_is (et_test (ev_niU (ev_kind (a := a) (ev_var rfl) (e4 _ _ hk2)) (eu_tup (ea_cons (ev_var rfl) (ea_cons (ev_op (ev_var rfl) ev_c rv_I0) ea_nil)) (by show 2 ≤ 100000; decide)) rfl rfl)) (by
        unfold inV
        rcases said_ix hs with z | z
        · rw [z]; simp [eqV]
        · rw [z]; simp [eqV])) fun H5 e5 => ?_
      have e15 := (e13.trans e4).trans e5
      have hA5 := hA1.ex e15
      have hD5 := hD1.ex e15
      have gd5 := e15 _ _ (e1 _ _ gd1)
      refine q_passD (K := K) (d := d) (l := l) (c' := c + 3 * i + 1) (etd_or (etd_due (Cs := Csf cL cB cG cH) (a := a) (N := N) rfl rfl rfl hN (by omega) hne (e15 _ _ hl1) hob hD5 hA5 hs.shows) fun H6 e6 hD6 => et_is (et_test (ev_op (ev_showsA (ev_var rfl) (ev_var rfl) hN (hA5.ersD gd5 e6)) ev_c rv_notB)) (by rw [hs.shows]; rfl)) fun H6 e6 hD6 => ?_
      have hA6 := hA5.ersD gd5 e6
      have e06 : Ex (ers d H) H6 := fun b u z => by
        have y := (e01.trans e15) _ _ z
        by_cases w : b = d
        · rw [w, ers_self] at z; cases z
        · exact e6 _ _ (by rw [ers_ne w]; exact y)
      have hoL : ∀ H7, Ex (ers d H) H7 → SqL K H7 o [.int (M1 : Int), .int (M2 : Int)] := fun H7 e => ex_l e (sqL_ersD gd0 ho)
      have hl6 : H6 l = some ob := e6 _ _ (by rw [ers_ne hne.symm]; exact e15 _ _ hl1)
      have hk6 : H6 k2 = some (.lst [.bl (decide (a.ix = 0)), .bl (decide (a.ix = 1)), .bl (decide (a.ix = 2)), .bl (decide (a.ix = 3))]) := by
        have y := e5 _ _ (e4 _ _ hk2)
        exact e6 _ _ (by rw [ers_ne (ne_of y gd5 (by intro z; cases z))]; exact y)
      refine q_forLn (K := K) (ev_var rfl) (hoL _ e06) (fun j σ2 H7 => ∃ x8 x9, σ2 = [some (.ref d), some (.int (N : Int)), some (.ref f), some (.int (g : Int)), some (.ref o), some (.int (i : Int)), some (.ref p), some (.ref k2), x8, x9, none] ∧ Ex (ers d H) H7 ∧ Ex (ers d H6) H7 ∧ DK K H7 d (c + 3 * i + 1 + j) l) (fun H7 e7 => ⟨x8, x9, rfl, e06.trans e7, (ers_in d H6).trans e7, hD6.ex e7⟩) (fun j σ2 H7 _ P => by obtain ⟨_, _, _, e, _⟩ := P; exact hoL _ e) (fun j w σ2 H7 hw P => ?_) fun σ2 H7 P => ?_
      · obtain ⟨x8', x9', rfl, e7, e67, hD7⟩ := P
        obtain ⟨kv6, gd6, _⟩ := id hD6
        obtain ⟨kv7, gd7, _⟩ := id hD7
        obtain ⟨M, rfl, hM, hj⟩ : ∃ M : Nat, w = .int (M : Int) ∧ Side M ∧ j < 2 := by
          match j, hw with
          | 0, hw => exact ⟨M1, (Option.some.inj hw).symm, hM1, by decide⟩
          | 1, hw => exact ⟨M2, (Option.some.inj hw).symm, hM2, by decide⟩
          | k + 2, hw => cases hw
        have hA7 := hA6.ersD gd6 e67
        have hl7 : H7 l = some ob := e67 _ _ (by rw [ers_ne hne.symm]; exact hl6)
        refine q_due (K := K) (d := d) (l := l) (Cs := Csf cL cB cG cH) (i := 0) (j := 8) (k := 6) (N := M) (a := a) rfl rfl rfl hM (by omega) hne hl7 hob hD7 hA7 fun H8 e8 hD8 => ?_
        have hA8 := hA7.ersD gd7 e8
        refine s_no (et_says (ev_showsA (ev_var rfl) (ev_var rfl) hM hA8) (ev_var rfl)) fun H9 e9 => ?_
        have st : ∀ b u, b ≠ d → H7 b = some u → H9 b = some u := fun b u w z => e9 _ _ (e8 _ _ (by rw [ers_ne w]; exact z))
        refine ⟨_, _, rfl, fun b u z => ?_, fun b u z => ?_, by have := hD8.ex e9; rw [show c + 3 * i + 1 + (j + 1) = c + 3 * i + 1 + j + 1 by omega]; exact this⟩
        · by_cases w : b = d
          · rw [w, ers_self] at z; cases z
          · exact st _ _ w (e7 _ _ z)
        · by_cases w : b = d
          · rw [w, ers_self] at z; cases z
          · exact st _ _ w (e67 _ _ z)
      · obtain ⟨x8', x9', rfl, e7, e67, hD7⟩ := P
        obtain ⟨kv6, gd6, _⟩ := id hD6
        obtain ⟨kv7, gd7, _⟩ := id hD7
        have hA7 := hA6.ersD gd6 e67
        have hl7 : H7 l = some ob := e67 _ _ (by rw [ers_ne hne.symm]; exact hl6)
        have hk7 : H7 k2 = some (.lst [.bl (decide (a.ix = 0)), .bl (decide (a.ix = 1)), .bl (decide (a.ix = 2)), .bl (decide (a.ix = 3))]) := e67 _ _ (by rw [ers_ne (ne_of hk6 gd6 (by intro z; cases z))]; exact hk6)
        have hD7 : DK K H7 d (c + 3 * i + 3) l := hD7
        refine q_pass (et_is (et_and (a := decide (a.ix = 1)) (b := false) (et_test (ev_op (ev_var rfl) ev_c (rv_ixL (sq_of hk7) (atI_dv (j := 1) rfl rfl)))) fun hb => ?_) (by cases decide (a.ix = 1) <;> rfl)) fun H8 e8 => ?_
        · cases a with
          | bar b => exact et_is (et_not (et_B (ev_blD (K := K) (ed_call (eda_cons (ed_int (ev_fldB (ev_var rfl) T.cls_Barred T.na_Barred hA7)) eda_nil) ⟨_, rfl, rfl⟩)))) rfl
          | lon ps => cases hb
          | leg ps => cases hb
          | hal => cases hb
        have fin : ∀ H9, Ex (ers d H) H9 → DK K H9 d (c + 3 * i + 3) l → Q (.bl true) H9 := fun H9 e hD9 => q H9 e (hD9.back.up (by omega))
        have hA8 := hA7.ex e8
        have hD8 := hD7.ex e8
        have e08 := e7.trans e8
        have hgi : ((a.ix : Int) = (g : Int) + 1) ↔ a.ix = g + 1 := by omega
        refine q_when (b := decide (a.ix = g + 1)) (et_is (et_test (ev_op (ev_kind (a := a) (ev_var rfl) (e8 _ _ hk7)) (ev_op (ev_var rfl) ev_c rv_I0) rv_eqI)) (dec_iff hgi)) (fun hb H9 e9 => ?_) fun hb H9 e9 => ?_
        · exact s_ret ev_c fun H10 e10 => fin H10 ((e08.trans e9).trans e10) (hD8.ex (e9.trans e10))
        · have hb := of_decide_eq_false hb
          have hix : a.ix = g := (said_ix hs).resolve_right hb
          have e19 : Ex H7 H9 := e8.trans e9
          have hA9 := hA8.ex e9
          have hD9 := hD8.ex e9
          obtain ⟨C, ps, hL, hxs, hlen, hcl, hna, hnew⟩ : ∃ C ps, HasL H9 C p l xs ∧ DVs K H9 xs (ps.map tn) ∧ ps.length ≤ 1000 ∧ Cls K C ∧ NoAttr K C "triples" ∧ ∃ a' : Ans, a'.shows N = false ∧ ∀ H12 xs', HasL H12 C p l xs' → DVs K H12 xs' ((ps ++ [(2, 1)]).map tn) → a'.At K (Csf cL cB cG cH) H12 p l xs' := by
            have more : ∀ ps : List NN, AllP ps → AllP (ps ++ [(2, 1)]) := fun ps hP x hx => by
              rcases List.mem_append.mp hx with z | z
              · exact hP x z
              · rw [List.mem_singleton.mp z]; exact pair21
            cases a with
            | lon ps => exact ⟨cL, ps, hA9.1, hA9.2.1, said_len hN hs ps (.inl rfl), T.cls_Longest, T.na_Longest, .lon (ps ++ [(2, 1)]), more_not hs.2.1, fun H12 xs' h1 h2 => ⟨h1, h2, more _ hA9.2.2⟩⟩
            | leg ps => exact ⟨cG, ps, hA9.1, hA9.2.1, said_len hN hs ps (.inr rfl), T.cls_Leg, T.na_Leg, .leg (ps ++ [(2, 1)]), more_not hs.2.1, fun H12 xs' h1 h2 => ⟨h1, h2, more _ hA9.2.2⟩⟩
            | bar b => exact absurd (show (1 : Nat) = 0 + 1 from rfl) (by have h1 := hs.1; subst h1; exact hb)
            | hal => exact absurd (show (3 : Nat) = 2 + 1 from rfl) (by have h1 := hs.1; subst h1; exact hb)
          obtain ⟨a', hsh, hAt⟩ := hnew
          refine q_pass (et_is (et_or (et_not (et_B (ev_isi (ed_fldL (ev_var rfl) hcl hna hL hxs) (kit_list _)))) fun _ => et_not (et_B (all_lcL (fun d => areWhole d 3) (ed_fldL (ev_var rfl) hcl hna hL hxs) (by rw [List.length_map]; omega) (fun _ => rfl) fun D x H10 e10 hd hx => ev_blD (K := K) (by
            obtain ⟨y, _, rfl⟩ := List.mem_map.mp hd
            exact ed_call (eda_cons (ed_var rfl hx) (eda_cons (ed_int ev_c) eda_nil)) ⟨tn y, 3, rfl, szT_tn y, rfl⟩)))) (by rw [whole3]; rfl)) fun H10 e10 => ?_
          obtain ⟨dx, hp9, hl9⟩ := id hL
          refine q_appI (K := K) (d := tn (2, 1)) (e10 _ _ hl9) (by rw [hxs.len, List.length_map]; omega) (ev_fldL (ev_var rfl) hcl hna (hL.ex e10)) e345 fun w H11 e11 hw => ?_
          have hl11 := (e10.trans e11) _ _ hl9
          have hp11 := (e10.trans e11) _ _ hp9
          have hA12 : a'.At K (Csf cL cB cG cH) (upd H11 l (.lst (xs ++ [w]))) p l (xs ++ [w]) := by
            refine hAt _ _ ⟨dx, by rw [upd_ne (ne_of hp11 hl11 (by intro z; cases z))]; exact hp11, upd_same⟩ ?_
            rw [List.map_append]
            exact DVs.append (dvs_intD (fun a xs h => sqT_upd hl11 h) (hint_tn _) (hxs.ex (e10.trans e11))) (.cons (dv_intD (fun a xs h => sqT_upd hl11 h) (intD_td _) hw) .nil)
          have e12 : Ex (ers d H) (upd H11 l (.lst (xs ++ [w]))) := Ex.mut (((e08.trans e9).trans e10).trans e11) (fresh_back eH nl)
          have hD12 := (DK.mut (o := .lst (xs ++ [w])) (hD9.ex (e10.trans e11)) hne).back
          exact s_no (et_is (et_test (ev_op (ev_showsA (ev_var rfl) (ev_var rfl) hN hA12) ev_c rv_notB)) (by rw [hsh]; rfl)) fun H13 e13 => ⟨_, _, _, _, _, rfl, e12.trans e13, by rw [show c + 3 * (i + 1) = c + 3 * i + 3 by omega]; exact hD12.ex e13⟩
    · obtain ⟨x5, x6, x7, x8, x9, rfl, eH, hD0⟩ := P
      exact s_ret ev_c fun H1 e1 => q H1 (eH.trans e1) (hD0.ex e1)

theorem ok_law {P : Program} {w : World} {K : PySem.W.Frag} {mg : Str → Option Value} {base : Heap}  {tL tM : Tok} {cA cL cB cG cH : Addr} {f : Addr} {fd : FuncData} (F : Fun K "law" "law" s_law f fd) (T : Txt K mg tL tM cA cL cB cG cH) {fL fG : Addr} (mL : mg "longest" = some (.ref fL)) (mG : mg "leg" = some (.ref fG)) (C__law_number : Cal P w K mg base CX0 "_law_number" 3 P__law_number (spF K R__law_number)) (C__law_told_right : Cal P w K mg base CX0 "_law_told_right" 20 P__law_told_right (spTold K (Csf cL cB cG cH) fL fG)) (C_longest : Cal P w K mg base CX0 "longest" 5 P_longest (spAsk K (Csf cL cB cG cH) 0)) (C_leg : Cal P w K mg base CX0 "leg" 5 P_leg (spAsk K (Csf cL cB cG cH) 2)) :
    FnOk P w K mg base CX0 21 f fd P_law (spF K R_law3) := by
  refine F.ok sc_law (spF_len fun ds d h => by
    first | (obtain ⟨_, rfl, _⟩ := h; rfl) | (obtain ⟨_, _, rfl, _⟩ := h; rfl) | (obtain ⟨_, _, _, rfl, _⟩ := h; rfl) | (obtain ⟨_, _, _, _, rfl, _⟩ := h; rfl) | (rcases h with ⟨rfl, _⟩ | ⟨_, _, rfl, _⟩ <;> rfl)) (fun cdv A outer s H vs Q E hr h => ?_)
  obtain ⟨ds, d, hv, hR, q⟩ := h
  obtain ⟨ns, rfl, hl63, hns, rfl⟩ := hR
  obtain ⟨v, rfl, hx⟩ := dvs1 hv
  refine ⟨_, (pss_cons (ps_par (i := 0) (j := 1) rfl sc_law.nd rfl rfl (by decide) rfl rfl (pa_cons (pe_slice sl_list (pv 0) po_none (po_some pe_int)) (pa_cons pe_dnewK pa_nil)) (by rfl))
      (pss_cons (ps_for PassesOwn.never rfl (pi_range3 (by rfl) T.range (pa_cons pe_int (pa_cons (pe_callB (k_len (K := K) rfl) (by rfl) T.len (by decide +kernel) (pa_cons (pv 0) pa_nil)) (pa_cons (pe_op op_add pe_int (pe_op op_fdivP (pe_callB (k_len (K := K) rfl) (by rfl) T.len (by decide +kernel) (pa_cons (pv 0) pa_nil)) pe_int)) pa_nil)))) (pg_name (i := 2) sc_law.nd rfl (.inl rfl)) (pss_cons (ps_set (i := 3) sc_law.nd rfl (.inl rfl) (pe_cal C__law_number (hr.mono (by decide)) (by rfl) pass0 (pa_cons (pv 0) (pa_cons (pv 2) pa_nil))))
      (pss_one (ps_for PassesOwn.never rfl (pi_tup (pe_tup (pa_cons (pv 3) (pa_cons (pe_op op_add (pv 3) pe_int) (pa_cons (pe_callB (call_min2 rfl) (by rfl) T.min (by decide +kernel) (pa_cons (pe_op op_mulX pe_int (pv 3)) (pa_cons pe_int pa_nil))) pa_nil))))) (pg_name (i := 4) sc_law.nd rfl (.inl rfl)) (pss_cons (ps_set (i := 4) sc_law.nd rfl (.inl rfl) (pe_callB (call_min2 rfl) (by rfl) T.min (by decide +kernel) (pa_cons (pv 4) (pa_cons pe_int pa_nil))))
      (pss_cons (ps_if (pt_not (pt_val (pe_cal C__law_told_right (hr.mono (by decide)) (by rfl) pass0 (pa_cons (pv 1) (pa_cons (pv 4) (pa_cons (pe_glob (v := .ref fL) (by rfl) mL rfl) (pa_cons pe_int (pa_cons (pe_lst (pa_cons (pv 3) (pa_cons pe_int pa_nil))) pa_nil)))))))) (pss_one (ps_ret pe_bl)) pss_nil)
      (pss_one (ps_if (pt_not (pt_val (pe_cal C__law_told_right (hr.mono (by decide)) (by rfl) pass0 (pa_cons (pv 1) (pa_cons (pv 4) (pa_cons (pe_glob (v := .ref fG) (by rfl) mG rfl) (pa_cons pe_int (pa_cons (pe_lst (pa_cons (pv 3) (pa_cons pe_int pa_nil))) pa_nil)))))))) (pss_one (ps_ret pe_bl)) pss_nil))))))))
      (pss_cons (ps_if (PW.pt (pw_or (pt_cmpR (k_neD (K := K) rfl (hu64 hr)) (pe_fld (pe_cal C_longest (hr.mono (by decide)) (by rfl) pass0 (pa_cons pe_int pa_nil)) rfl) (pe_lst (pa_cons (pe_tup (pa_cons pe_int (pa_cons pe_int (pa_cons pe_int pa_nil)))) (pa_cons (pe_tup (pa_cons pe_int (pa_cons pe_int (pa_cons pe_int pa_nil)))) pa_nil))) (nomark _)) (pw_or1 (pt_cmpR (k_neD (K := K) rfl (hu64 hr)) (pe_ix (k_ixL (K := K) rfl) (pe_fld (pe_cal C_leg (hr.mono (by decide)) (by rfl) pass0 (pa_cons pe_int pa_nil)) rfl) pe_int (fun _ _ => rfl)) (pe_tup (pa_cons pe_int (pa_cons pe_int (pa_cons pe_int pa_nil)))) (nomark _))))) (pss_one (ps_ret pe_bl)) pss_nil)
      (pss_cons (ps_if (PW.pt (pw_or (pt_not (pt_val (pe_callB (k_isi (K := K) rfl) (by rfl) T.isinstance (by decide +kernel) (pa_cons (pe_cal C_longest (hr.mono (by decide)) (by rfl) pass0 (pa_cons pe_int pa_nil)) (pa_cons (pe_glob (v := .ref cB) (by rfl) T.Barred rfl) pa_nil))))) (pw_or (pt_not (pt_val (pe_callB (k_isi (K := K) rfl) (by rfl) T.isinstance (by decide +kernel) (pa_cons (pe_cal C_leg (hr.mono (by decide)) (by rfl) pass0 (pa_cons pe_int pa_nil)) (pa_cons (pe_glob (v := .ref cH) (by rfl) T.Halved rfl) pa_nil))))) (pw_or1 (pt_cmpR op_ne (pe_callB (k_len (K := K) rfl) (by rfl) T.len (by decide +kernel) (pa_cons (pe_fld (pe_cal C_leg (hr.mono (by decide)) (by rfl) pass0 (pa_cons pe_int pa_nil)) rfl) pa_nil)) pe_int (nomark _)))))) (pss_one (ps_ret pe_bl)) pss_nil)
      (pss_cons (ps_if (PW.pt (pw_or (pt_cmpR (k_neD (K := K) rfl (hu64 hr)) (pe_fld (pe_cal C_longest (hr.mono (by decide)) (by rfl) pass0 (pa_cons pe_int pa_nil)) rfl) (pe_lst (pa_cons (pe_tup (pa_cons pe_int (pa_cons pe_int (pa_cons pe_int pa_nil)))) pa_nil)) (nomark _)) (pw_or1 (pt_cmpR op_ne (pe_fld (pe_cal C_longest (hr.mono (by decide)) (by rfl) pass0 (pa_cons pe_int pa_nil)) rfl) pe_int (nomark _))))) (pss_one (ps_ret pe_bl)) pss_nil)
      (pss_one (ps_ret (pe_and (pe_cmpR (k_eqD (K := K) rfl (hu64 hr)) (pe_fld (pe_cal C_leg (hr.mono (by decide)) (by rfl) pass0 (pa_cons pe_int pa_nil)) rfl) (pe_lst (pa_cons (pe_tup (pa_cons pe_int (pa_cons pe_int (pa_cons pe_int pa_nil)))) pa_nil)) (nomark _)) (pe_one (pe_cmpR (k_eqD (K := K) rfl (hu64 hr)) (pe_fld (pe_cal C_longest (hr.mono (by decide)) (by rfl) pass0 (pa_cons pe_int pa_nil)) rfl) (pe_lst (pa_cons (pe_tup (pa_cons pe_int (pa_cons pe_int (pa_cons pe_int pa_nil)))) pa_nil)) (nomark _))))))))))), ?_⟩
  refine q_parSD (K := K) (ds := ns.map .int) (eld_sl (lo := none) (hi := some 63) (ed_var rfl hx) eo_none (eo_some ev_c) (by
    unfold cutD
    exact (cut_to (ns.map PyData.int) 63).trans (List.take_of_length_le (by rw [List.length_map]; exact hl63)))) fun p vs d H1 np nd hpd e1 hp hvs hd => ?_
  obtain ⟨n, hrg, hlt⟩ := rgc_up (len := ns.length) (c := 1 + (ns.length : Int) / 3) (by omega) (by omega) (by omega)
  have hsc : ∀ H2, Ex (ers d H1) H2 → DV K H2 (.ref p) (.list (ns.map .int)) := fun H2 e => (dv_ersD hd _ _ (SeqAt.canLay_of_shaped (shaped_intsL ns)) (.lst (sq_of hp) hvs)).ex e
  have hD0 : DK K H1 d 0 d := ⟨[], hd, Nat.le_refl _, fun k v h => by rw [valV_nil] at h; cases h⟩
  have eE : Ex H (ers d H1) := fun b u z => by
    rw [ers_ne fun w => by rw [w, nd] at z; cases z]
    exact e1 _ _ z
  refine q_forR3 (lo := 0) (hi := (ns.length : Int)) (c := 1 + (ns.length : Int) / 3) (n := n) (ea_cons ev_c (ea_cons (ev_is (ev_lenL (ed_var (d := .list (ns.map .int)) rfl (hsc _ (ers_in d H1)))) (by rw [List.length_map])) (ea_cons (ev_op ev_c (ev_op (ev_is (ev_lenL (ed_var (d := .list (ns.map .int)) rfl (hsc _ (ers_in d H1)))) (by rw [List.length_map])) ev_c (rv_I (divs (by decide) (by decide)))) rv_I0) ea_nil))) hrg
    (fun k σ' H' => ∃ x2 x3 x4, σ' = [some (.ref p), some (.ref d), x2, x3, x4] ∧ Ex (ers d H1) H' ∧ DK K H' d (36 * k) d) (fun H2 e2 => ⟨none, none, none, rfl, (ers_in d H1).trans e2, hD0.ex e2⟩) (fun k σ' H' hk P => ?_) fun σ' H' P => ?_
  · obtain ⟨x2, x3, x4, rfl, eH, hDk⟩ := P
    have hk3 := few3 (hlt k hk)
    obtain ⟨m, em, hm⟩ := step3 hl63 (hlt k hk)
    rw [em]
    obtain ⟨N, eN, hN⟩ := lawNumber_side (ns.getD m 0) m
    refine q_asg (v := .int (lawNumber (ns.getD m 0) m)) (ev_intD (ed_call (eda_cons (ed_var rfl (hsc _ eH)) (eda_cons (ed_int (ev_var rfl)) eda_nil)) ⟨ns, m, rfl, by omega, hns, rfl⟩)) fun H2 e2 => ?_
    rw [eN]
    have n2 := hN.lo
    have nM := hN.hi
    refine s_forTU (K := K) (vs := [.int (N : Int), .int ((N : Int) + 1), .int (if 1000000 < 4 * (N : Int) then 1000000 else 4 * (N : Int))]) (eu_tup (ea_cons (ev_var rfl) (ea_cons (ev_op (ev_var rfl) ev_c rv_I0) (ea_cons (ev_min2 (ev_op ev_c (ev_var rfl) (rv_I (cm_small (by omega) (by omega)))) ev_c) ea_nil))) (by show 3 ≤ 100000; decide))
      (fun t j σ2 H3 => ∃ x4, σ2 = [some (.ref p), some (.ref d), some (.int (m : Int)), some (.int (N : Int)), x4] ∧ Ex (ers d H1) H3 ∧ DK K H3 d (36 * k + 12 * j) d ∧ H3 t = some (.tup [.int (N : Int), .int ((N : Int) + 1), .int (if 1000000 < 4 * (N : Int) then 1000000 else 4 * (N : Int))])) (fun t H3 nt e3 ht => ⟨x4, rfl, (eH.trans e2).trans e3, hDk.ex (e2.trans e3), ht⟩) (fun t j σ2 H3 P => by obtain ⟨_, _, _, _, h⟩ := P; exact st_of h) (fun t j w σ2 H3 hw P => ?_) fun t σ2 H3 P => ?_
    · obtain ⟨x4', rfl, e3, hD3, ht⟩ := P
      obtain ⟨kv3, gd3, _⟩ := id hD3
      have htd : t ≠ d := ne_of ht gd3 (by intro z; cases z)
      obtain ⟨S, rfl, hS2, hj⟩ : ∃ S : Nat, w = .int (S : Int) ∧ 2 ≤ S ∧ j < 3 := by
        match j, hw with
        | 0, hw => exact ⟨N, (Option.some.inj hw).symm, n2, by decide⟩
        | 1, hw => exact ⟨N + 1, (Option.some.inj hw).symm, by omega, by decide⟩
        | 2, hw =>
          refine ⟨(if 1000000 < 4 * (N : Int) then 1000000 else 4 * (N : Int)).toNat, ?_, ?_, by decide⟩
          · rw [← Option.some.inj hw]
            congr 1
            split <;> omega
          · split <;> omega
        | k + 3, hw => cases hw
      refine q_asg (v := .int ((min S 1000000 : Nat) : Int)) (ev_is (ev_min2 (ev_var rfl) ev_c) (by
        congr 1
        split <;> omega)) fun H4 e4 => ?_
      have hSS : Side (min S 1000000) := ⟨by omega, by omega⟩
      generalize min S 1000000 = S' at hSS
      refine q_passD (K := K) (d := d) (l := d) (et_told (Cs := Csf cL cB cG cH) (fL := fL) (fG := fG) (i := 1) (j := 4) (k := 3) (N := S') (g := 0) (M1 := N) (M2 := 25) rfl rfl rfl (.inl ⟨rfl, rfl⟩) hSS hN ⟨by decide, by decide⟩ (by omega) (hD3.ex e4)) fun H5 e5 hD5 => ?_
      refine s_passD (K := K) (d := d) (l := d) (et_told (Cs := Csf cL cB cG cH) (fL := fL) (fG := fG) (i := 1) (j := 4) (k := 3) (N := S') (g := 2) (M1 := N) (M2 := 60) rfl rfl rfl (.inr ⟨rfl, rfl⟩) hSS hN ⟨by decide, by decide⟩ (by omega) hD5) fun H6 e6 hD6 => ?_
      have e46 := ers_trans e5 e6
      exact ⟨_, rfl, ers_trans (e3.trans e4) e46, by rw [show 36 * k + 12 * (j + 1) = 36 * k + 12 * j + 6 + 6 by omega]; exact hD6, e46 _ _ (by rw [ers_ne htd]; exact e4 _ _ ht)⟩
    · obtain ⟨x4', rfl, e3, hD3, ht⟩ := P
      exact ⟨_, _, _, rfl, e3, by rw [show 36 * (k + 1) = 36 * k + 12 * 3 by omega]; exact hD3⟩
  · obtain ⟨x2, x3, x4, rfl, eH, _⟩ := P
    have side : ∀ k : Nat, decide (2 ≤ k ∧ k ≤ 1000000) = true → Side k := fun k h => ⟨(of_decide_eq_true h).1, (of_decide_eq_true h).2⟩
    have l1 : ∀ (x : NN) (a b c : Int) (h : tn x = .tuple [.int a, .int b, .int c]) σ H, EvD K (tLst (tCons (tTup (tCons (tC (.int a)) (tCons (tC (.int b)) (tCons (tC (.int c)) tNil)))) tNil)) σ H (.list (([x] : List NN).map tn)) := fun x a b c h σ H => EvLD.ev (eld_lst (eda_cons (etn x h) eda_nil) (by show 1 ≤ 100000; decide))
    refine q_pass (et_is (et_or (et_test (ev_neD (d := .list ((lonT' 65).map tn)) (e := .list (([(7, 4), (8, 1)] : List NN).map tn)) (ed_ask0 (N := 65) ev_c (side _ (by decide)) bar65 T.cls_Longest T.na_Longest) (EvLD.ev (eld_lst (eda_cons (etn (7, 4) rfl) (eda_cons (etn (8, 1) rfl) eda_nil)) (by show 2 ≤ 100000; decide))) (shaped_tl _) (shaped_tl _))) fun _ =>
      et_test (ev_neD (d := tn (6, 5)) (e := tn (6, 5)) (ed_ixL (j := 0) (ed_ask2 (N := 60) ev_c (side _ (by decide)) (by decide) T.cls_Leg T.na_Leg) ev_c rfl (by rw [legT60]; rfl)) (etn (6, 5) rfl) (shaped_td _) (shaped_td _))) (by rw [lonT65, eqv_same (shaped_tl _), eqv_same (show SeqAt.shaped (tn (6, 5)) = true from shaped_td _)]; rfl)) fun H2 e2 => ?_
    refine q_pass (et_is (et_or (et_not (et_B (ev_askI T.kit (N := 999999) (g := 0) (j := 1) (b := true) (by decide) ev_c (side _ (by decide)) fun a h => by
      cases a with
      | lon ps => exact absurd h.2.2.2 bar999
      | bar b => rfl
      | leg ps => exact absurd h.1 (by decide)
      | hal => exact absurd h.1 (by decide)))) fun _ => et_or (et_not (et_B (ev_askI T.kit (N := 999998) (g := 2) (j := 3) (b := true) (by decide) ev_c (side _ (by decide)) fun a h => by
      cases a with
      | lon ps => exact absurd h.1 (by decide)
      | bar b => exact absurd h.1 (by decide)
      | leg ps => exact absurd (show 999998 % 4 = 2 by decide) h.2.2.2
      | hal => rfl))) fun _ => et_test (ev_op (ev_lenL (ed_ask2 (N := 60) ev_c (side _ (by decide)) (by decide) T.cls_Leg T.na_Leg)) ev_c rv_neI)) (by rw [legT60]; rfl)) fun H3 e3 => ?_
    refine q_pass (et_is (et_or (et_test (ev_neD (d := .list ((lonT' 25).map tn)) (e := .list (([(4, 3)] : List NN).map tn)) (ed_ask0 (N := 25) ev_c (side _ (by decide)) bar25 T.cls_Longest T.na_Longest) (l1 (4, 3) _ _ _ rfl _ _) (shaped_tl _) (shaped_tl _))) fun _ => et_test (ev_op (ev_askP (N := 2) (v := 2) ev_c (side _ (by decide)) bar2n bar2 T.cls_Barred T.na_Barred) ev_c rv_neI)) (by rw [lonT25, eqv_same (shaped_tl _)]; rfl)) fun H4 e4 => ?_
    refine s_retD (K := K) (d := .bool true) (ed_bl ?_) fun w H5 e5 hw => q w H5 ((((eE.trans eH).trans e2).trans (e3.trans e4)).trans e5) hw
    refine ev_is (ev_andV (ev_eqD (d := .list ((legT' 3).map tn)) (e := .list (([(2, 1)] : List NN).map tn)) (ed_ask2 (N := 3) ev_c (side _ (by decide)) (by decide) T.cls_Leg T.na_Leg) (l1 (2, 1) _ _ _ rfl _ _) (shaped_tl _) (shaped_tl _)) fun _ => ev_eqD (d := .list ((lonT' 5).map tn)) (e := .list (([(2, 1)] : List NN).map tn)) (ed_ask0 (N := 5) ev_c (side _ (by decide)) bar5 T.cls_Longest T.na_Longest) (l1 (2, 1) _ _ _ rfl _ _) (shaped_tl _) (shaped_tl _)) ?_
    rw [legT3, lonT5, eqv_same (shaped_tl _)]
    rfl

theorem all_mk {P : Program} {w : World} {K : PySem.W.Frag} {h : Heap} {mg : Str → Option Value} {fa : Addr} (X : K.In h) (G : h.Ns mainGlobals mg) (hfa : mg "law" = some (.ref fa)) (ht : P.given.tree = none)
    {f0 : Addr} {od0 an0 : Option Addr} {sl0 : Array (Option Value)} {oc0 kV0 dc0 pm0 cd0 ct0 : Value}
    {f1 : Addr} {od1 an1 : Option Addr} {sl1 : Array (Option Value)} {oc1 kV1 dc1 pm1 cd1 ct1 : Value}
    {f2 : Addr} {od2 an2 : Option Addr} {sl2 : Array (Option Value)} {oc2 kV2 dc2 pm2 cd2 ct2 : Value}
    {f3 : Addr} {od3 an3 : Option Addr} {sl3 : Array (Option Value)} {oc3 kV3 dc3 pm3 cd3 ct3 : Value}
    {f4 : Addr} {od4 an4 : Option Addr} {sl4 : Array (Option Value)} {oc4 kV4 dc4 pm4 cd4 ct4 : Value}
    {f5 : Addr} {od5 an5 : Option Addr} {sl5 : Array (Option Value)} {oc5 kV5 dc5 pm5 cd5 ct5 : Value}
    {f6 : Addr} {od6 an6 : Option Addr} {sl6 : Array (Option Value)} {oc6 kV6 dc6 pm6 cd6 ct6 : Value}
    {f7 : Addr} {od7 an7 : Option Addr} {sl7 : Array (Option Value)} {oc7 kV7 dc7 pm7 cd7 ct7 : Value}
    {f8 : Addr} {od8 an8 : Option Addr} {sl8 : Array (Option Value)} {oc8 kV8 dc8 pm8 cd8 ct8 : Value}
    {f9 : Addr} {od9 an9 : Option Addr} {sl9 : Array (Option Value)} {oc9 kV9 dc9 pm9 cd9 ct9 : Value}
    {f10 : Addr} {od10 an10 : Option Addr} {sl10 : Array (Option Value)} {oc10 kV10 dc10 pm10 cd10 ct10 : Value}
    {f11 : Addr} {od11 an11 : Option Addr} {sl11 : Array (Option Value)} {oc11 kV11 dc11 pm11 cd11 ct11 : Value}
    {f12 : Addr} {od12 an12 : Option Addr} {sl12 : Array (Option Value)} {oc12 kV12 dc12 pm12 cd12 ct12 : Value}
    {f13 : Addr} {od13 an13 : Option Addr} {sl13 : Array (Option Value)} {oc13 kV13 dc13 pm13 cd13 ct13 : Value}
    {f14 : Addr} {od14 an14 : Option Addr} {sl14 : Array (Option Value)} {oc14 kV14 dc14 pm14 cd14 ct14 : Value}
    {f15 : Addr} {od15 an15 : Option Addr} {sl15 : Array (Option Value)} {oc15 kV15 dc15 pm15 cd15 ct15 : Value}
    {f16 : Addr} {od16 an16 : Option Addr} {sl16 : Array (Option Value)} {oc16 kV16 dc16 pm16 cd16 ct16 : Value}
    {f17 : Addr} {od17 an17 : Option Addr} {sl17 : Array (Option Value)} {oc17 kV17 dc17 pm17 cd17 ct17 : Value}
    {f18 : Addr} {od18 an18 : Option Addr} {sl18 : Array (Option Value)} {oc18 kV18 dc18 pm18 cd18 ct18 : Value}
    {f19 : Addr} {od19 an19 : Option Addr} {sl19 : Array (Option Value)} {oc19 kV19 dc19 pm19 cd19 ct19 : Value}
    {f20 : Addr} {od20 an20 : Option Addr} {sl20 : Array (Option Value)} {oc20 kV20 dc20 pm20 cd20 ct20 : Value}
    {f21 : Addr} {od21 an21 : Option Addr} {sl21 : Array (Option Value)} {oc21 kV21 dc21 pm21 cd21 ct21 : Value}
    {f22 : Addr} {od22 an22 : Option Addr} {sl22 : Array (Option Value)} {oc22 kV22 dc22 pm22 cd22 ct22 : Value}
    {f23 : Addr} {od23 an23 : Option Addr} {sl23 : Array (Option Value)} {oc23 kV23 dc23 pm23 cd23 ct23 : Value}
    {f24 : Addr} {od24 an24 : Option Addr} {sl24 : Array (Option Value)} {oc24 kV24 dc24 pm24 cd24 ct24 : Value}
    {f25 : Addr} {od25 an25 : Option Addr} {sl25 : Array (Option Value)} {oc25 kV25 dc25 pm25 cd25 ct25 : Value}
    {f26 : Addr} {od26 an26 : Option Addr} {sl26 : Array (Option Value)} {oc26 kV26 dc26 pm26 cd26 ct26 : Value}
    {f27 : Addr} {od27 an27 : Option Addr} {sl27 : Array (Option Value)} {oc27 kV27 dc27 pm27 cd27 ct27 : Value}
    {f28 : Addr} {od28 an28 : Option Addr} {sl28 : Array (Option Value)} {oc28 kV28 dc28 pm28 cd28 ct28 : Value}
    {f29 : Addr} {od29 an29 : Option Addr} {sl29 : Array (Option Value)} {oc29 kV29 dc29 pm29 cd29 ct29 : Value}
    {f30 : Addr} {od30 an30 : Option Addr} {sl30 : Array (Option Value)} {oc30 kV30 dc30 pm30 cd30 ct30 : Value}
    {f31 : Addr} {od31 an31 : Option Addr} {sl31 : Array (Option Value)} {oc31 kV31 dc31 pm31 cd31 ct31 : Value}
    {f32 : Addr} {od32 an32 : Option Addr} {sl32 : Array (Option Value)} {oc32 kV32 dc32 pm32 cd32 ct32 : Value}
    {f33 : Addr} {od33 an33 : Option Addr} {sl33 : Array (Option Value)} {oc33 kV33 dc33 pm33 cd33 ct33 : Value}
    {f34 : Addr} {od34 an34 : Option Addr} {sl34 : Array (Option Value)} {oc34 kV34 dc34 pm34 cd34 ct34 : Value}
    {f35 : Addr} {od35 an35 : Option Addr} {sl35 : Array (Option Value)} {oc35 kV35 dc35 pm35 cd35 ct35 : Value}
    {f36 : Addr} {od36 an36 : Option Addr} {sl36 : Array (Option Value)} {oc36 kV36 dc36 pm36 cd36 ct36 : Value}
    {f37 : Addr} {od37 an37 : Option Addr} {sl37 : Array (Option Value)} {oc37 kV37 dc37 pm37 cd37 ct37 : Value}
    {tL tM : Tok}
    {cA cL cB cG cH : Addr}
    (a0 : PySem.W.nsIn K mainGlobals "is_whole" = some (some (.ref f0)))
    (l0 : K.lookup f0 = some ⟨oc0, od0, .func (PySem.W.fnOf "is_whole" "is_whole" (defArgs s_is_whole) (defBody s_is_whole) (defScope s_is_whole) .none kV0 dc0 pm0 an0 cd0 ct0), sl0⟩) (c0 : PySem.W.codeIn K cd0 "is_whole" = true) (k0 : PySem.W.keepIn K (.ref f0) = true)
    (a1 : PySem.W.nsIn K mainGlobals "are_whole" = some (some (.ref f1)))
    (l1 : K.lookup f1 = some ⟨oc1, od1, .func (PySem.W.fnOf "are_whole" "are_whole" (defArgs s_are_whole) (defBody s_are_whole) (defScope s_are_whole) .none kV1 dc1 pm1 an1 cd1 ct1), sl1⟩) (c1 : PySem.W.codeIn K cd1 "are_whole" = true) (k1 : PySem.W.keepIn K (.ref f1) = true)
    (a2 : PySem.W.nsIn K mainGlobals "is_side" = some (some (.ref f2)))
    (l2 : K.lookup f2 = some ⟨oc2, od2, .func (PySem.W.fnOf "is_side" "is_side" (defArgs s_is_side) (defBody s_is_side) (defScope s_is_side) .none kV2 dc2 pm2 an2 cd2 ct2), sl2⟩) (c2 : PySem.W.codeIn K cd2 "is_side" = true) (k2 : PySem.W.keepIn K (.ref f2) = true)
    (a3 : PySem.W.nsIn K mainGlobals "is_pair" = some (some (.ref f3)))
    (l3 : K.lookup f3 = some ⟨oc3, od3, .func (PySem.W.fnOf "is_pair" "is_pair" (defArgs s_is_pair) (defBody s_is_pair) (defScope s_is_pair) .none kV3 dc3 pm3 an3 cd3 ct3), sl3⟩) (c3 : PySem.W.codeIn K cd3 "is_pair" = true) (k3 : PySem.W.keepIn K (.ref f3) = true)
    (a4 : PySem.W.nsIn K mainGlobals "formed" = some (some (.ref f4)))
    (l4 : K.lookup f4 = some ⟨oc4, od4, .func (PySem.W.fnOf "formed" "formed" (defArgs s_formed) (defBody s_formed) (defScope s_formed) .none kV4 dc4 pm4 an4 cd4 ct4), sl4⟩) (c4 : PySem.W.codeIn K cd4 "formed" = true) (k4 : PySem.W.keepIn K (.ref f4) = true)
    (a5 : PySem.W.nsIn K mainGlobals "barring_primes" = some (some (.ref f5)))
    (l5 : K.lookup f5 = some ⟨oc5, od5, .func (PySem.W.fnOf "barring_primes" "barring_primes" (defArgs s_barring_primes) (defBody s_barring_primes) (defScope s_barring_primes) .none kV5 dc5 pm5 an5 cd5 ct5), sl5⟩) (c5 : PySem.W.codeIn K cd5 "barring_primes" = true) (k5 : PySem.W.keepIn K (.ref f5) = true)
    (a6 : PySem.W.nsIn K mainGlobals "_primes_of" = some (some (.ref f6)))
    (l6 : K.lookup f6 = some ⟨oc6, od6, .func (PySem.W.fnOf "_primes_of" "_primes_of" (defArgs s__primes_of) (defBody s__primes_of) (defScope s__primes_of) .none kV6 dc6 pm6 an6 cd6 ct6), sl6⟩) (c6 : PySem.W.codeIn K cd6 "_primes_of" = true) (k6 : PySem.W.keepIn K (.ref f6) = true)
    (a7 : PySem.W.nsIn K mainGlobals "triples_by_longest" = some (some (.ref f7)))
    (l7 : K.lookup f7 = some ⟨oc7, od7, .func (PySem.W.fnOf "triples_by_longest" "triples_by_longest" (defArgs s_triples_by_longest) (defBody s_triples_by_longest) (defScope s_triples_by_longest) .none kV7 dc7 pm7 an7 cd7 ct7), sl7⟩) (c7 : PySem.W.codeIn K cd7 "triples_by_longest" = true) (k7 : PySem.W.keepIn K (.ref f7) = true)
    (a8 : PySem.W.nsIn K mainGlobals "triples_by_leg" = some (some (.ref f8)))
    (l8 : K.lookup f8 = some ⟨oc8, od8, .func (PySem.W.fnOf "triples_by_leg" "triples_by_leg" (defArgs s_triples_by_leg) (defBody s_triples_by_leg) (defScope s_triples_by_leg) .none kV8 dc8 pm8 an8 cd8 ct8), sl8⟩) (c8 : PySem.W.codeIn K cd8 "triples_by_leg" = true) (k8 : PySem.W.keepIn K (.ref f8) = true)
    (a9 : PySem.W.nsIn K mainGlobals "_pairs_by_even" = some (some (.ref f9)))
    (l9 : K.lookup f9 = some ⟨oc9, od9, .func (PySem.W.fnOf "_pairs_by_even" "_pairs_by_even" (defArgs s__pairs_by_even) (defBody s__pairs_by_even) (defScope s__pairs_by_even) .none kV9 dc9 pm9 an9 cd9 ct9), sl9⟩) (c9 : PySem.W.codeIn K cd9 "_pairs_by_even" = true) (k9 : PySem.W.keepIn K (.ref f9) = true)
    (a10 : PySem.W.nsIn K mainGlobals "_pairs_by_odd" = some (some (.ref f10)))
    (l10 : K.lookup f10 = some ⟨oc10, od10, .func (PySem.W.fnOf "_pairs_by_odd" "_pairs_by_odd" (defArgs s__pairs_by_odd) (defBody s__pairs_by_odd) (defScope s__pairs_by_odd) .none kV10 dc10 pm10 an10 cd10 ct10), sl10⟩) (c10 : PySem.W.codeIn K cd10 "_pairs_by_odd" = true) (k10 : PySem.W.keepIn K (.ref f10) = true)
    (a11 : PySem.W.findIn K (.ref cL) "__init__" = some (some (.ref f11))) (i11 : PySem.W.isFn K (.ref f11) = true)
    (l11 : K.lookup f11 = some ⟨oc11, od11, .func (PySem.W.fnOf "__init__" "Longest.__init__" (defArgs s_Longest_init) (defBody s_Longest_init) (defScope s_Longest_init) .none kV11 dc11 pm11 an11 cd11 ct11), sl11⟩) (c11 : PySem.W.codeIn K cd11 "Longest.__init__" = true) (k11 : PySem.W.keepIn K (.ref f11) = true)
    (a12 : PySem.W.findIn K (.ref cL) "shows" = some (some (.ref f12))) (i12 : PySem.W.isFn K (.ref f12) = true)
    (l12 : K.lookup f12 = some ⟨oc12, od12, .func (PySem.W.fnOf "shows" "Longest.shows" (defArgs s_Longest_shows) (defBody s_Longest_shows) (defScope s_Longest_shows) .none kV12 dc12 pm12 an12 cd12 ct12), sl12⟩) (c12 : PySem.W.codeIn K cd12 "Longest.shows" = true) (k12 : PySem.W.keepIn K (.ref f12) = true)
    (a13 : PySem.W.findIn K (.ref cB) "__init__" = some (some (.ref f13))) (i13 : PySem.W.isFn K (.ref f13) = true)
    (l13 : K.lookup f13 = some ⟨oc13, od13, .func (PySem.W.fnOf "__init__" "Barred.__init__" (defArgs s_Barred_init) (defBody s_Barred_init) (defScope s_Barred_init) .none kV13 dc13 pm13 an13 cd13 ct13), sl13⟩) (c13 : PySem.W.codeIn K cd13 "Barred.__init__" = true) (k13 : PySem.W.keepIn K (.ref f13) = true)
    (a14 : PySem.W.findIn K (.ref cB) "shows" = some (some (.ref f14))) (i14 : PySem.W.isFn K (.ref f14) = true)
    (l14 : K.lookup f14 = some ⟨oc14, od14, .func (PySem.W.fnOf "shows" "Barred.shows" (defArgs s_Barred_shows) (defBody s_Barred_shows) (defScope s_Barred_shows) .none kV14 dc14 pm14 an14 cd14 ct14), sl14⟩) (c14 : PySem.W.codeIn K cd14 "Barred.shows" = true) (k14 : PySem.W.keepIn K (.ref f14) = true)
    (a15 : PySem.W.findIn K (.ref cG) "__init__" = some (some (.ref f15))) (i15 : PySem.W.isFn K (.ref f15) = true)
    (l15 : K.lookup f15 = some ⟨oc15, od15, .func (PySem.W.fnOf "__init__" "Leg.__init__" (defArgs s_Leg_init) (defBody s_Leg_init) (defScope s_Leg_init) .none kV15 dc15 pm15 an15 cd15 ct15), sl15⟩) (c15 : PySem.W.codeIn K cd15 "Leg.__init__" = true) (k15 : PySem.W.keepIn K (.ref f15) = true)
    (a16 : PySem.W.findIn K (.ref cG) "shows" = some (some (.ref f16))) (i16 : PySem.W.isFn K (.ref f16) = true)
    (l16 : K.lookup f16 = some ⟨oc16, od16, .func (PySem.W.fnOf "shows" "Leg.shows" (defArgs s_Leg_shows) (defBody s_Leg_shows) (defScope s_Leg_shows) .none kV16 dc16 pm16 an16 cd16 ct16), sl16⟩) (c16 : PySem.W.codeIn K cd16 "Leg.shows" = true) (k16 : PySem.W.keepIn K (.ref f16) = true)
    (a17 : PySem.W.findIn K (.ref cH) "shows" = some (some (.ref f17))) (i17 : PySem.W.isFn K (.ref f17) = true)
    (l17 : K.lookup f17 = some ⟨oc17, od17, .func (PySem.W.fnOf "shows" "Halved.shows" (defArgs s_Halved_shows) (defBody s_Halved_shows) (defScope s_Halved_shows) .none kV17 dc17 pm17 an17 cd17 ct17), sl17⟩) (c17 : PySem.W.codeIn K cd17 "Halved.shows" = true) (k17 : PySem.W.keepIn K (.ref f17) = true)
    (a18 : PySem.W.nsIn K mainGlobals "longest" = some (some (.ref f18)))
    (l18 : K.lookup f18 = some ⟨oc18, od18, .func (PySem.W.fnOf "longest" "longest" (defArgs s_longest) (defBody s_longest) (defScope s_longest) .none kV18 dc18 pm18 an18 cd18 ct18), sl18⟩) (c18 : PySem.W.codeIn K cd18 "longest" = true) (k18 : PySem.W.keepIn K (.ref f18) = true)
    (a19 : PySem.W.nsIn K mainGlobals "leg" = some (some (.ref f19)))
    (l19 : K.lookup f19 = some ⟨oc19, od19, .func (PySem.W.fnOf "leg" "leg" (defArgs s_leg) (defBody s_leg) (defScope s_leg) .none kV19 dc19 pm19 an19 cd19 ct19), sl19⟩) (c19 : PySem.W.codeIn K cd19 "leg" = true) (k19 : PySem.W.keepIn K (.ref f19) = true)
    (a20 : PySem.W.nsIn K mainGlobals "_check_side" = some (some (.ref f20)))
    (l20 : K.lookup f20 = some ⟨oc20, od20, .func (PySem.W.fnOf "_check_side" "_check_side" (defArgs s__check_side) (defBody s__check_side) (defScope s__check_side) .none kV20 dc20 pm20 an20 cd20 ct20), sl20⟩) (c20 : PySem.W.codeIn K cd20 "_check_side" = true) (k20 : PySem.W.keepIn K (.ref f20) = true)
    (a21 : PySem.W.nsIn K mainGlobals "_law_cell_at" = some (some (.ref f21)))
    (l21 : K.lookup f21 = some ⟨oc21, od21, .func (PySem.W.fnOf "_law_cell_at" "_law_cell_at" (defArgs s__law_cell_at) (defBody s__law_cell_at) (defScope s__law_cell_at) .none kV21 dc21 pm21 an21 cd21 ct21), sl21⟩) (c21 : PySem.W.codeIn K cd21 "_law_cell_at" = true) (k21 : PySem.W.keepIn K (.ref f21) = true)
    (a22 : PySem.W.nsIn K mainGlobals "_law_draw" = some (some (.ref f22)))
    (l22 : K.lookup f22 = some ⟨oc22, od22, .func (PySem.W.fnOf "_law_draw" "_law_draw" (defArgs s__law_draw) (defBody s__law_draw) (defScope s__law_draw) .none kV22 dc22 pm22 an22 cd22 ct22), sl22⟩) (c22 : PySem.W.codeIn K cd22 "_law_draw" = true) (k22 : PySem.W.keepIn K (.ref f22) = true)
    (a23 : PySem.W.nsIn K mainGlobals "_law_value" = some (some (.ref f23)))
    (l23 : K.lookup f23 = some ⟨oc23, od23, .func (PySem.W.fnOf "_law_value" "_law_value" (defArgs s__law_value) (defBody s__law_value) (defScope s__law_value) .none kV23 dc23 pm23 an23 cd23 ct23), sl23⟩) (c23 : PySem.W.codeIn K cd23 "_law_value" = true) (k23 : PySem.W.keepIn K (.ref f23) = true)
    (a24 : PySem.W.nsIn K mainGlobals "_law_triple" = some (some (.ref f24)))
    (l24 : K.lookup f24 = some ⟨oc24, od24, .func (PySem.W.fnOf "_law_triple" "_law_triple" (defArgs s__law_triple) (defBody s__law_triple) (defScope s__law_triple) .none kV24 dc24 pm24 an24 cd24 ct24), sl24⟩) (c24 : PySem.W.codeIn K cd24 "_law_triple" = true) (k24 : PySem.W.keepIn K (.ref f24) = true)
    (a25 : PySem.W.nsIn K mainGlobals "_law_common" = some (some (.ref f25)))
    (l25 : K.lookup f25 = some ⟨oc25, od25, .func (PySem.W.fnOf "_law_common" "_law_common" (defArgs s__law_common) (defBody s__law_common) (defScope s__law_common) .none kV25 dc25 pm25 an25 cd25 ct25), sl25⟩) (c25 : PySem.W.codeIn K cd25 "_law_common" = true) (k25 : PySem.W.keepIn K (.ref f25) = true)
    (a26 : PySem.W.nsIn K mainGlobals "_law_whole" = some (some (.ref f26)))
    (l26 : K.lookup f26 = some ⟨oc26, od26, .func (PySem.W.fnOf "_law_whole" "_law_whole" (defArgs s__law_whole) (defBody s__law_whole) (defScope s__law_whole) .none kV26 dc26 pm26 an26 cd26 ct26), sl26⟩) (c26 : PySem.W.codeIn K cd26 "_law_whole" = true) (k26 : PySem.W.keepIn K (.ref f26) = true)
    (a27 : PySem.W.nsIn K mainGlobals "_law_are" = some (some (.ref f27)))
    (l27 : K.lookup f27 = some ⟨oc27, od27, .func (PySem.W.fnOf "_law_are" "_law_are" (defArgs s__law_are) (defBody s__law_are) (defScope s__law_are) .none kV27 dc27 pm27 an27 cd27 ct27), sl27⟩) (c27 : PySem.W.codeIn K cd27 "_law_are" = true) (k27 : PySem.W.keepIn K (.ref f27) = true)
    (a28 : PySem.W.nsIn K mainGlobals "_law_root" = some (some (.ref f28)))
    (l28 : K.lookup f28 = some ⟨oc28, od28, .func (PySem.W.fnOf "_law_root" "_law_root" (defArgs s__law_root) (defBody s__law_root) (defScope s__law_root) .none kV28 dc28 pm28 an28 cd28 ct28), sl28⟩) (c28 : PySem.W.codeIn K cd28 "_law_root" = true) (k28 : PySem.W.keepIn K (.ref f28) = true)
    (a29 : PySem.W.nsIn K mainGlobals "_law_longest" = some (some (.ref f29)))
    (l29 : K.lookup f29 = some ⟨oc29, od29, .func (PySem.W.fnOf "_law_longest" "_law_longest" (defArgs s__law_longest) (defBody s__law_longest) (defScope s__law_longest) .none kV29 dc29 pm29 an29 cd29 ct29), sl29⟩) (c29 : PySem.W.codeIn K cd29 "_law_longest" = true) (k29 : PySem.W.keepIn K (.ref f29) = true)
    (a30 : PySem.W.nsIn K mainGlobals "_law_legs" = some (some (.ref f30)))
    (l30 : K.lookup f30 = some ⟨oc30, od30, .func (PySem.W.fnOf "_law_legs" "_law_legs" (defArgs s__law_legs) (defBody s__law_legs) (defScope s__law_legs) .none kV30 dc30 pm30 an30 cd30 ct30), sl30⟩) (c30 : PySem.W.codeIn K cd30 "_law_legs" = true) (k30 : PySem.W.keepIn K (.ref f30) = true)
    (a31 : PySem.W.nsIn K mainGlobals "_law_is_prime" = some (some (.ref f31)))
    (l31 : K.lookup f31 = some ⟨oc31, od31, .func (PySem.W.fnOf "_law_is_prime" "_law_is_prime" (defArgs s__law_is_prime) (defBody s__law_is_prime) (defScope s__law_is_prime) .none kV31 dc31 pm31 an31 cd31 ct31), sl31⟩) (c31 : PySem.W.codeIn K cd31 "_law_is_prime" = true) (k31 : PySem.W.keepIn K (.ref f31) = true)
    (a32 : PySem.W.nsIn K mainGlobals "_law_bars" = some (some (.ref f32)))
    (l32 : K.lookup f32 = some ⟨oc32, od32, .func (PySem.W.fnOf "_law_bars" "_law_bars" (defArgs s__law_bars) (defBody s__law_bars) (defScope s__law_bars) .none kV32 dc32 pm32 an32 cd32 ct32), sl32⟩) (c32 : PySem.W.codeIn K cd32 "_law_bars" = true) (k32 : PySem.W.keepIn K (.ref f32) = true)
    (a33 : PySem.W.nsIn K mainGlobals "_law_number" = some (some (.ref f33)))
    (l33 : K.lookup f33 = some ⟨oc33, od33, .func (PySem.W.fnOf "_law_number" "_law_number" (defArgs s__law_number) (defBody s__law_number) (defScope s__law_number) .none kV33 dc33 pm33 an33 cd33 ct33), sl33⟩) (c33 : PySem.W.codeIn K cd33 "_law_number" = true) (k33 : PySem.W.keepIn K (.ref f33) = true)
    (a34 : PySem.W.nsIn K mainGlobals "_law_says" = some (some (.ref f34)))
    (l34 : K.lookup f34 = some ⟨oc34, od34, .func (PySem.W.fnOf "_law_says" "_law_says" (defArgs s__law_says) (defBody s__law_says) (defScope s__law_says) .none kV34 dc34 pm34 an34 cd34 ct34), sl34⟩) (c34 : PySem.W.codeIn K cd34 "_law_says" = true) (k34 : PySem.W.keepIn K (.ref f34) = true)
    (a35 : PySem.W.nsIn K mainGlobals "_law_due" = some (some (.ref f35)))
    (l35 : K.lookup f35 = some ⟨oc35, od35, .func (PySem.W.fnOf "_law_due" "_law_due" (defArgs s__law_due) (defBody s__law_due) (defScope s__law_due) .none kV35 dc35 pm35 an35 cd35 ct35), sl35⟩) (c35 : PySem.W.codeIn K cd35 "_law_due" = true) (k35 : PySem.W.keepIn K (.ref f35) = true)
    (a36 : PySem.W.nsIn K mainGlobals "_law_told_right" = some (some (.ref f36)))
    (l36 : K.lookup f36 = some ⟨oc36, od36, .func (PySem.W.fnOf "_law_told_right" "_law_told_right" (defArgs s__law_told_right) (defBody s__law_told_right) (defScope s__law_told_right) .none kV36 dc36 pm36 an36 cd36 ct36), sl36⟩) (c36 : PySem.W.codeIn K cd36 "_law_told_right" = true) (k36 : PySem.W.keepIn K (.ref f36) = true)
    (a37 : PySem.W.nsIn K mainGlobals "law" = some (some (.ref f37)))
    (l37 : K.lookup f37 = some ⟨oc37, od37, .func (PySem.W.fnOf "law" "law" (defArgs s_law) (defBody s_law) (defScope s_law) .none kV37 dc37 pm37 an37 cd37 ct37), sl37⟩) (c37 : PySem.W.codeIn K cd37 "law" = true) (k37 : PySem.W.keepIn K (.ref f37) = true)
    (z_isinstance : PySem.W.nsIn K mainGlobals "isinstance" = some none)
    (z_int : PySem.W.nsIn K mainGlobals "int" = some none)
    (z_bool : PySem.W.nsIn K mainGlobals "bool" = some none)
    (z_tuple : PySem.W.nsIn K mainGlobals "tuple" = some none)
    (z_list : PySem.W.nsIn K mainGlobals "list" = some none)
    (z_len : PySem.W.nsIn K mainGlobals "len" = some none)
    (z_all : PySem.W.nsIn K mainGlobals "all" = some none)
    (z_any : PySem.W.nsIn K mainGlobals "any" = some none)
    (z_range : PySem.W.nsIn K mainGlobals "range" = some none)
    (z_max : PySem.W.nsIn K mainGlobals "max" = some none)
    (z_min : PySem.W.nsIn K mainGlobals "min" = some none)
    (z_sorted : PySem.W.nsIn K mainGlobals "sorted" = some none)
    (z_isqrt : PySem.W.nsIn K mainGlobals "isqrt" = some (some (.builtin "math.isqrt")))
    (z_gcd : PySem.W.nsIn K mainGlobals "gcd" = some (some (.builtin "math.gcd")))
    (z_L : PySem.W.nsIn K mainGlobals "LEAST" = some (some (.int 2 tL))) (z_M : PySem.W.nsIn K mainGlobals "GREATEST" = some (some (.int 1000000 tM)))
    (aC_cA : PySem.W.nsIn K mainGlobals "Answer" = some (some (.ref cA)))
    (pg_cA : PySem.W.plainGet K cA Str.empty = true)
    (hd_cA : PySem.W.hasDictIn K cA = true)
    (po_cA : PySem.W.plainOver K cA = true)
    (sa_cA : PySem.W.findIn K (.ref cA) "__setattr__" = some (some (.builtin "object.__setattr__")))
    (ty_cA : PySem.W.typeIn K (.ref cA) = some (.type "type"))
    (aC_cL : PySem.W.nsIn K mainGlobals "Longest" = some (some (.ref cL)))
    (pg_cL : PySem.W.plainGet K cL Str.empty = true)
    (hd_cL : PySem.W.hasDictIn K cL = true)
    (po_cL : PySem.W.plainOver K cL = true)
    (sa_cL : PySem.W.findIn K (.ref cL) "__setattr__" = some (some (.builtin "object.__setattr__")))
    (mk_cL : PySem.W.makesIn K cL = true)
    (kc_cL : PySem.W.keepIn K (.ref cL) = true)
    (ha_cL : PySem.W.findIn K (.ref cL) "__class__" = some (some (.builtin "object.__class__")))
    (hn_cL : PySem.W.specialIn K (.builtin "object.__class__") "__get__" = some (some (.builtin "getset_descriptor.__get__")))
    (ht_cL : PySem.W.takesIn K (.builtin "object.__class__") = some true)
    (hm_cL : PySem.W.mroIn K cL (.type "object") = some true)
    (ty_cL : PySem.W.typeIn K (.ref cL) = some (.type "type"))
    (sub_cA_cL : PySem.W.subIn K (.ref cL) (.ref cA) = some true)
    (ne_cA_cL : (cL == cA) = false)
    (sub_cB_cL : PySem.W.subIn K (.ref cL) (.ref cB) = some false)
    (ne_cB_cL : (cL == cB) = false)
    (sub_cG_cL : PySem.W.subIn K (.ref cL) (.ref cG) = some false)
    (ne_cG_cL : (cL == cG) = false)
    (sub_cH_cL : PySem.W.subIn K (.ref cL) (.ref cH) = some false)
    (ne_cH_cL : (cL == cH) = false)
    (na_cL : PySem.W.findIn K (.ref cL) "triples" = some none)
    (aC_cB : PySem.W.nsIn K mainGlobals "Barred" = some (some (.ref cB)))
    (pg_cB : PySem.W.plainGet K cB Str.empty = true)
    (hd_cB : PySem.W.hasDictIn K cB = true)
    (po_cB : PySem.W.plainOver K cB = true)
    (sa_cB : PySem.W.findIn K (.ref cB) "__setattr__" = some (some (.builtin "object.__setattr__")))
    (mk_cB : PySem.W.makesIn K cB = true)
    (kc_cB : PySem.W.keepIn K (.ref cB) = true)
    (ha_cB : PySem.W.findIn K (.ref cB) "__class__" = some (some (.builtin "object.__class__")))
    (hn_cB : PySem.W.specialIn K (.builtin "object.__class__") "__get__" = some (some (.builtin "getset_descriptor.__get__")))
    (ht_cB : PySem.W.takesIn K (.builtin "object.__class__") = some true)
    (hm_cB : PySem.W.mroIn K cB (.type "object") = some true)
    (ty_cB : PySem.W.typeIn K (.ref cB) = some (.type "type"))
    (sub_cA_cB : PySem.W.subIn K (.ref cB) (.ref cA) = some true)
    (ne_cA_cB : (cB == cA) = false)
    (sub_cL_cB : PySem.W.subIn K (.ref cB) (.ref cL) = some false)
    (ne_cL_cB : (cB == cL) = false)
    (sub_cG_cB : PySem.W.subIn K (.ref cB) (.ref cG) = some false)
    (ne_cG_cB : (cB == cG) = false)
    (sub_cH_cB : PySem.W.subIn K (.ref cB) (.ref cH) = some false)
    (ne_cH_cB : (cB == cH) = false)
    (na_cB : PySem.W.findIn K (.ref cB) "prime" = some none)
    (aC_cG : PySem.W.nsIn K mainGlobals "Leg" = some (some (.ref cG)))
    (pg_cG : PySem.W.plainGet K cG Str.empty = true)
    (hd_cG : PySem.W.hasDictIn K cG = true)
    (po_cG : PySem.W.plainOver K cG = true)
    (sa_cG : PySem.W.findIn K (.ref cG) "__setattr__" = some (some (.builtin "object.__setattr__")))
    (mk_cG : PySem.W.makesIn K cG = true)
    (kc_cG : PySem.W.keepIn K (.ref cG) = true)
    (ha_cG : PySem.W.findIn K (.ref cG) "__class__" = some (some (.builtin "object.__class__")))
    (hn_cG : PySem.W.specialIn K (.builtin "object.__class__") "__get__" = some (some (.builtin "getset_descriptor.__get__")))
    (ht_cG : PySem.W.takesIn K (.builtin "object.__class__") = some true)
    (hm_cG : PySem.W.mroIn K cG (.type "object") = some true)
    (ty_cG : PySem.W.typeIn K (.ref cG) = some (.type "type"))
    (sub_cA_cG : PySem.W.subIn K (.ref cG) (.ref cA) = some true)
    (ne_cA_cG : (cG == cA) = false)
    (sub_cL_cG : PySem.W.subIn K (.ref cG) (.ref cL) = some false)
    (ne_cL_cG : (cG == cL) = false)
    (sub_cB_cG : PySem.W.subIn K (.ref cG) (.ref cB) = some false)
    (ne_cB_cG : (cG == cB) = false)
    (sub_cH_cG : PySem.W.subIn K (.ref cG) (.ref cH) = some false)
    (ne_cH_cG : (cG == cH) = false)
    (na_cG : PySem.W.findIn K (.ref cG) "triples" = some none)
    (aC_cH : PySem.W.nsIn K mainGlobals "Halved" = some (some (.ref cH)))
    (pg_cH : PySem.W.plainGet K cH Str.empty = true)
    (hd_cH : PySem.W.hasDictIn K cH = true)
    (po_cH : PySem.W.plainOver K cH = true)
    (sa_cH : PySem.W.findIn K (.ref cH) "__setattr__" = some (some (.builtin "object.__setattr__")))
    (mk_cH : PySem.W.makesIn K cH = true)
    (kc_cH : PySem.W.keepIn K (.ref cH) = true)
    (ha_cH : PySem.W.findIn K (.ref cH) "__class__" = some (some (.builtin "object.__class__")))
    (hn_cH : PySem.W.specialIn K (.builtin "object.__class__") "__get__" = some (some (.builtin "getset_descriptor.__get__")))
    (ht_cH : PySem.W.takesIn K (.builtin "object.__class__") = some true)
    (hm_cH : PySem.W.mroIn K cH (.type "object") = some true)
    (ty_cH : PySem.W.typeIn K (.ref cH) = some (.type "type"))
    (sub_cA_cH : PySem.W.subIn K (.ref cH) (.ref cA) = some true)
    (ne_cA_cH : (cH == cA) = false)
    (sub_cL_cH : PySem.W.subIn K (.ref cH) (.ref cL) = some false)
    (ne_cL_cH : (cH == cL) = false)
    (sub_cB_cH : PySem.W.subIn K (.ref cH) (.ref cB) = some false)
    (ne_cB_cH : (cH == cB) = false)
    (sub_cG_cH : PySem.W.subIn K (.ref cH) (.ref cG) = some false)
    (ne_cG_cH : (cH == cG) = false)
    (oi_cH : PySem.W.findIn K (.ref cH) "__init__" = some (some (.builtin "object.__init__")))
    (ms_cH : PySem.W.mroIn K cH (.ref cH) = some true)
    (ne_ask : (f18 == f19) = false)
    : ∃ fd : FuncData, (∀ (s : Shared) (v : Value), BindsTo s fd ⟨[v], []⟩ [("_law_script", v)]) ∧ ∀ base : Heap, K.In base → base.Ns mainGlobals mg → base.NoSeer → FnOk P w K mg base CX0 21 fa fd ["_law_script"] (spF K R_law3) := by
  have e := hfa.symm.trans (PySem.W.mg_of X G a37)
  cases e
  have T : Txt K mg tL tM cA cL cB cG cH := { isinstance := PySem.W.mg_none_of X G z_isinstance, int := PySem.W.mg_none_of X G z_int, bool := PySem.W.mg_none_of X G z_bool, tuple := PySem.W.mg_none_of X G z_tuple, list := PySem.W.mg_none_of X G z_list, len := PySem.W.mg_none_of X G z_len, all := PySem.W.mg_none_of X G z_all, any := PySem.W.mg_none_of X G z_any, range := PySem.W.mg_none_of X G z_range, max := PySem.W.mg_none_of X G z_max, min := PySem.W.mg_none_of X G z_min, sorted := PySem.W.mg_none_of X G z_sorted, isqrt := PySem.W.mg_of X G z_isqrt, gcd := PySem.W.mg_of X G z_gcd, LEAST := PySem.W.mg_of X G z_L, GREATEST := PySem.W.mg_of X G z_M, Answer := PySem.W.mg_of X G aC_cA, cls_Answer := ⟨pg_cA, hd_cA, po_cA, sa_cA⟩, Longest := PySem.W.mg_of X G aC_cL, cls_Longest := ⟨pg_cL, hd_cL, po_cL, sa_cL⟩, na_Longest := na_cL, Barred := PySem.W.mg_of X G aC_cB, cls_Barred := ⟨pg_cB, hd_cB, po_cB, sa_cB⟩, na_Barred := na_cB, Leg := PySem.W.mg_of X G aC_cG, cls_Leg := ⟨pg_cG, hd_cG, po_cG, sa_cG⟩, na_Leg := na_cG, Halved := PySem.W.mg_of X G aC_cH, cls_Halved := ⟨pg_cH, hd_cH, po_cH, sa_cH⟩, mk_Halved := ⟨mk_cH, oi_cH, hm_cH, ms_cH, kc_cH⟩, kit := ⟨fun i hi => match i, hi with
      | 0, _ => ⟨⟨pg_cL, hd_cL, po_cL, sa_cL⟩, ha_cL, hn_cL, ht_cL, hm_cL⟩
      | 1, _ => ⟨⟨pg_cB, hd_cB, po_cB, sa_cB⟩, ha_cB, hn_cB, ht_cB, hm_cB⟩
      | 2, _ => ⟨⟨pg_cG, hd_cG, po_cG, sa_cG⟩, ha_cG, hn_cG, ht_cG, hm_cG⟩
      | 3, _ => ⟨⟨pg_cH, hd_cH, po_cH, sa_cH⟩, ha_cH, hn_cH, ht_cH, hm_cH⟩
      , fun i j hi hj => match i, j, hi, hj with
      | 0, 0, _, _ => kit_same
      | 0, 1, _, _ => kit_sub ne_cB_cL hd_cB ty_cB sub_cB_cL
      | 0, 2, _, _ => kit_sub ne_cG_cL hd_cG ty_cG sub_cG_cL
      | 0, 3, _, _ => kit_sub ne_cH_cL hd_cH ty_cH sub_cH_cL
      | 1, 0, _, _ => kit_sub ne_cL_cB hd_cL ty_cL sub_cL_cB
      | 1, 1, _, _ => kit_same
      | 1, 2, _, _ => kit_sub ne_cG_cB hd_cG ty_cG sub_cG_cB
      | 1, 3, _, _ => kit_sub ne_cH_cB hd_cH ty_cH sub_cH_cB
      | 2, 0, _, _ => kit_sub ne_cL_cG hd_cL ty_cL sub_cL_cG
      | 2, 1, _, _ => kit_sub ne_cB_cG hd_cB ty_cB sub_cB_cG
      | 2, 2, _, _ => kit_same
      | 2, 3, _, _ => kit_sub ne_cH_cG hd_cH ty_cH sub_cH_cG
      | 3, 0, _, _ => kit_sub ne_cL_cH hd_cL ty_cL sub_cL_cH
      | 3, 1, _, _ => kit_sub ne_cB_cH hd_cB ty_cB sub_cB_cH
      | 3, 2, _, _ => kit_sub ne_cG_cH hd_cG ty_cG sub_cG_cH
      | 3, 3, _, _ => kit_same
      , fun i hi => match i, hi with
      | 0, _ => kit_sub ne_cA_cL hd_cA ty_cA sub_cA_cL
      | 1, _ => kit_sub ne_cA_cB hd_cA ty_cA sub_cA_cB
      | 2, _ => kit_sub ne_cA_cG hd_cA ty_cA sub_cA_cG
      | 3, _ => kit_sub ne_cA_cH hd_cA ty_cA sub_cA_cH
      ⟩ }
  have F0 := fun_mk (st := s_is_whole) l0 c0 k0
  have b0 := F0.binds (ps := P_is_whole) fun _ _ _ _ _ _ us hl => match us, hl with | [_], _ => rfl
  have F1 := fun_mk (st := s_are_whole) l1 c1 k1
  have b1 := F1.binds (ps := P_are_whole) fun _ _ _ _ _ _ us hl => match us, hl with | [_, _], _ => rfl
  have F2 := fun_mk (st := s_is_side) l2 c2 k2
  have b2 := F2.binds (ps := P_is_side) fun _ _ _ _ _ _ us hl => match us, hl with | [_], _ => rfl
  have F3 := fun_mk (st := s_is_pair) l3 c3 k3
  have b3 := F3.binds (ps := P_is_pair) fun _ _ _ _ _ _ us hl => match us, hl with | [_], _ => rfl
  have F4 := fun_mk (st := s_formed) l4 c4 k4
  have b4 := F4.binds (ps := P_formed) fun _ _ _ _ _ _ us hl => match us, hl with | [_, _], _ => rfl
  have F5 := fun_mk (st := s_barring_primes) l5 c5 k5
  have b5 := F5.binds (ps := P_barring_primes) fun _ _ _ _ _ _ us hl => match us, hl with | [_], _ => rfl
  have F6 := fun_mk (st := s__primes_of) l6 c6 k6
  have b6 := F6.binds (ps := P__primes_of) fun _ _ _ _ _ _ us hl => match us, hl with | [_], _ => rfl
  have F7 := fun_mk (st := s_triples_by_longest) l7 c7 k7
  have b7 := F7.binds (ps := P_triples_by_longest) fun _ _ _ _ _ _ us hl => match us, hl with | [_], _ => rfl
  have F8 := fun_mk (st := s_triples_by_leg) l8 c8 k8
  have b8 := F8.binds (ps := P_triples_by_leg) fun _ _ _ _ _ _ us hl => match us, hl with | [_], _ => rfl
  have F9 := fun_mk (st := s__pairs_by_even) l9 c9 k9
  have b9 := F9.binds (ps := P__pairs_by_even) fun _ _ _ _ _ _ us hl => match us, hl with | [_], _ => rfl
  have F10 := fun_mk (st := s__pairs_by_odd) l10 c10 k10
  have b10 := F10.binds (ps := P__pairs_by_odd) fun _ _ _ _ _ _ us hl => match us, hl with | [_], _ => rfl
  have F11 := fun_mk (st := s_Longest_init) l11 c11 k11
  have b11 := F11.binds (ps := P_Longest_init) fun _ _ _ _ _ _ us hl => match us, hl with | [_, _], _ => rfl
  have F12 := fun_mk (st := s_Longest_shows) l12 c12 k12
  have b12 := F12.binds (ps := P_Longest_shows) fun _ _ _ _ _ _ us hl => match us, hl with | [_, _], _ => rfl
  have F13 := fun_mk (st := s_Barred_init) l13 c13 k13
  have b13 := F13.binds (ps := P_Barred_init) fun _ _ _ _ _ _ us hl => match us, hl with | [_, _], _ => rfl
  have F14 := fun_mk (st := s_Barred_shows) l14 c14 k14
  have b14 := F14.binds (ps := P_Barred_shows) fun _ _ _ _ _ _ us hl => match us, hl with | [_, _], _ => rfl
  have F15 := fun_mk (st := s_Leg_init) l15 c15 k15
  have b15 := F15.binds (ps := P_Leg_init) fun _ _ _ _ _ _ us hl => match us, hl with | [_, _], _ => rfl
  have F16 := fun_mk (st := s_Leg_shows) l16 c16 k16
  have b16 := F16.binds (ps := P_Leg_shows) fun _ _ _ _ _ _ us hl => match us, hl with | [_, _], _ => rfl
  have F17 := fun_mk (st := s_Halved_shows) l17 c17 k17
  have b17 := F17.binds (ps := P_Halved_shows) fun _ _ _ _ _ _ us hl => match us, hl with | [_, _], _ => rfl
  have F18 := fun_mk (st := s_longest) l18 c18 k18
  have b18 := F18.binds (ps := P_longest) fun _ _ _ _ _ _ us hl => match us, hl with | [_], _ => rfl
  have F19 := fun_mk (st := s_leg) l19 c19 k19
  have b19 := F19.binds (ps := P_leg) fun _ _ _ _ _ _ us hl => match us, hl with | [_], _ => rfl
  have F20 := fun_mk (st := s__check_side) l20 c20 k20
  have b20 := F20.binds (ps := P__check_side) fun _ _ _ _ _ _ us hl => match us, hl with | [_], _ => rfl
  have F21 := fun_mk (st := s__law_cell_at) l21 c21 k21
  have b21 := F21.binds (ps := P__law_cell_at) fun _ _ _ _ _ _ us hl => match us, hl with | [_, _], _ => rfl
  have F22 := fun_mk (st := s__law_draw) l22 c22 k22
  have b22 := F22.binds (ps := P__law_draw) fun _ _ _ _ _ _ us hl => match us, hl with | [_, _, _], _ => rfl
  have F23 := fun_mk (st := s__law_value) l23 c23 k23
  have b23 := F23.binds (ps := P__law_value) fun _ _ _ _ _ _ us hl => match us, hl with | [_, _, _], _ => rfl
  have F24 := fun_mk (st := s__law_triple) l24 c24 k24
  have b24 := F24.binds (ps := P__law_triple) fun _ _ _ _ _ _ us hl => match us, hl with | [_], _ => rfl
  have F25 := fun_mk (st := s__law_common) l25 c25 k25
  have b25 := F25.binds (ps := P__law_common) fun _ _ _ _ _ _ us hl => match us, hl with | [_, _], _ => rfl
  have F26 := fun_mk (st := s__law_whole) l26 c26 k26
  have b26 := F26.binds (ps := P__law_whole) fun _ _ _ _ _ _ us hl => match us, hl with | [_], _ => rfl
  have F27 := fun_mk (st := s__law_are) l27 c27 k27
  have b27 := F27.binds (ps := P__law_are) fun _ _ _ _ _ _ us hl => match us, hl with | [_, _], _ => rfl
  have F28 := fun_mk (st := s__law_root) l28 c28 k28
  have b28 := F28.binds (ps := P__law_root) fun _ _ _ _ _ _ us hl => match us, hl with | [_], _ => rfl
  have F29 := fun_mk (st := s__law_longest) l29 c29 k29
  have b29 := F29.binds (ps := P__law_longest) fun _ _ _ _ _ _ us hl => match us, hl with | [_], _ => rfl
  have F30 := fun_mk (st := s__law_legs) l30 c30 k30
  have b30 := F30.binds (ps := P__law_legs) fun _ _ _ _ _ _ us hl => match us, hl with | [_], _ => rfl
  have F31 := fun_mk (st := s__law_is_prime) l31 c31 k31
  have b31 := F31.binds (ps := P__law_is_prime) fun _ _ _ _ _ _ us hl => match us, hl with | [_], _ => rfl
  have F32 := fun_mk (st := s__law_bars) l32 c32 k32
  have b32 := F32.binds (ps := P__law_bars) fun _ _ _ _ _ _ us hl => match us, hl with | [_, _], _ => rfl
  have F33 := fun_mk (st := s__law_number) l33 c33 k33
  have b33 := F33.binds (ps := P__law_number) fun _ _ _ _ _ _ us hl => match us, hl with | [_, _], _ => rfl
  have F34 := fun_mk (st := s__law_says) l34 c34 k34
  have b34 := F34.binds (ps := P__law_says) fun _ _ _ _ _ _ us hl => match us, hl with | [_, _], _ => rfl
  have F35 := fun_mk (st := s__law_due) l35 c35 k35
  have b35 := F35.binds (ps := P__law_due) fun _ _ _ _ _ _ us hl => match us, hl with | [_, _, _], _ => rfl
  have F36 := fun_mk (st := s__law_told_right) l36 c36 k36
  have b36 := F36.binds (ps := P__law_told_right) fun _ _ _ _ _ _ us hl => match us, hl with | [_, _, _, _, _], _ => rfl
  have F37 := fun_mk (st := s_law) l37 c37 k37
  refine ⟨PySem.W.fnOf "law" "law" (defArgs s_law) (defBody s_law) (defScope s_law) .none kV37 dc37 pm37 an37 cd37 ct37, fun s v => .of_eq rfl, fun base KB GB hS => ?_⟩
  have C_is_whole : Cal P w K mg base CX0 "is_whole" 1 P_is_whole (spF K R_is_whole) := cal_of (PySem.W.mg_of X G a0) k0 b0 (ok_is_whole (w := w) F0 T )
  have C_formed : Cal P w K mg base CX0 "formed" 1 P_formed (spF K R_formed) := cal_of (PySem.W.mg_of X G a4) k4 b4 (ok_formed (w := w) F4 T )
  have C__primes_of : Cal P w K mg base CX0 "_primes_of" 1 P__primes_of (spL K R__primes_of) := cal_of (PySem.W.mg_of X G a6) k6 b6 (ok__primes_of (w := w) F6 T )
  have C__pairs_by_even : Cal P w K mg base CX0 "_pairs_by_even" 1 P__pairs_by_even (spL K R__pairs_by_even) := cal_of (PySem.W.mg_of X G a9) k9 b9 (ok__pairs_by_even (w := w) F9 T )
  have C__pairs_by_odd : Cal P w K mg base CX0 "_pairs_by_odd" 1 P__pairs_by_odd (spL K R__pairs_by_odd) := cal_of (PySem.W.mg_of X G a10) k10 b10 (ok__pairs_by_odd (w := w) F10 T )
  have C_Longest_init : KCal P w K mg base CX0 cL 1 P_Longest_init (spInitL K cL) := ⟨f11, _, ⟨mk_cL, a11, i11, kc_cL⟩, b11, ok_Longest_init (w := w) F11 T ⟩
  have C_Barred_init : KCal P w K mg base CX0 cB 1 P_Barred_init (spInitB cB) := ⟨f13, _, ⟨mk_cB, a13, i13, kc_cB⟩, b13, ok_Barred_init (w := w) F13 T ⟩
  have C_Leg_init : KCal P w K mg base CX0 cG 1 P_Leg_init (spInitL K cG) := ⟨f15, _, ⟨mk_cG, a15, i15, kc_cG⟩, b15, ok_Leg_init (w := w) F15 T ⟩
  have C__law_cell_at : Cal P w K mg base CX0 "_law_cell_at" 1 P__law_cell_at (spF K R__law_cell_at) := cal_of (PySem.W.mg_of X G a21) k21 b21 (ok__law_cell_at (w := w) F21 T )
  have C__law_draw : Cal P w K mg base CX0 "_law_draw" 1 P__law_draw (spF K R__law_draw) := cal_of (PySem.W.mg_of X G a22) k22 b22 (ok__law_draw (w := w) F22 T )
  have C__law_triple : Cal P w K mg base CX0 "_law_triple" 1 P__law_triple (spF K R__law_triple) := cal_of (PySem.W.mg_of X G a24) k24 b24 (ok__law_triple (w := w) F24 T )
  have C__law_common : Cal P w K mg base CX0 "_law_common" 1 P__law_common (spF K R__law_common) := cal_of (PySem.W.mg_of X G a25) k25 b25 (ok__law_common (w := w) F25 T )
  have C__law_whole : Cal P w K mg base CX0 "_law_whole" 1 P__law_whole (spF K R__law_whole) := cal_of (PySem.W.mg_of X G a26) k26 b26 (ok__law_whole (w := w) F26 T )
  have C__law_root : Cal P w K mg base CX0 "_law_root" 1 P__law_root (spF K R__law_root) := cal_of (PySem.W.mg_of X G a28) k28 b28 (ok__law_root (w := w) F28 T )
  have C__law_says : Cal P w K mg base CX0 "_law_says" 1 P__law_says (spF K R__law_says) := cal_of (PySem.W.mg_of X G a34) k34 b34 (ok__law_says (w := w) F34 T )
  have C_are_whole : Cal P w K mg base CX0 "are_whole" 2 P_are_whole (spF K R_are_whole) := cal_of (PySem.W.mg_of X G a1) k1 b1 (ok_are_whole (w := w) F1 T C_is_whole)
  have C_is_side : Cal P w K mg base CX0 "is_side" 2 P_is_side (spF K R_is_side) := cal_of (PySem.W.mg_of X G a2) k2 b2 (ok_is_side (w := w) F2 T C_is_whole)
  have C_barring_primes : Cal P w K mg base CX0 "barring_primes" 2 P_barring_primes (spL K R_barring_primes) := cal_of (PySem.W.mg_of X G a5) k5 b5 (ok_barring_primes (w := w) F5 T C__primes_of)
  have C__law_value : Cal P w K mg base CX0 "_law_value" 2 P__law_value (spF K R__law_value) := cal_of (PySem.W.mg_of X G a23) k23 b23 (ok__law_value (w := w) F23 T C__law_draw)
  have C__law_are : Cal P w K mg base CX0 "_law_are" 2 P__law_are (spF K R__law_are) := cal_of (PySem.W.mg_of X G a27) k27 b27 (ok__law_are (w := w) F27 T C__law_whole)
  have C__law_longest : Cal P w K mg base CX0 "_law_longest" 2 P__law_longest (spL K R__law_longest) := cal_of (PySem.W.mg_of X G a29) k29 b29 (ok__law_longest (w := w) F29 T C__law_root C__law_common C__law_triple)
  have C__law_legs : Cal P w K mg base CX0 "_law_legs" 2 P__law_legs (spL K R__law_legs) := cal_of (PySem.W.mg_of X G a30) k30 b30 (ok__law_legs (w := w) F30 T C__law_root C__law_common C__law_triple)
  have C__law_is_prime : Cal P w K mg base CX0 "_law_is_prime" 2 P__law_is_prime (spF K R__law_is_prime) := cal_of (PySem.W.mg_of X G a31) k31 b31 (ok__law_is_prime (w := w) F31 T C__law_root)
  have C_is_pair : Cal P w K mg base CX0 "is_pair" 3 P_is_pair (spF K R_is_pair) := cal_of (PySem.W.mg_of X G a3) k3 b3 (ok_is_pair (w := w) F3 T C_are_whole)
  have C_Barred_shows : MCal P w K mg base CX0 cB "shows" 3 P_Barred_shows (spShowsB cB) := ⟨f14, _, ⟨a14, i14, k14⟩, b14, ok_Barred_shows (w := w) F14 T C_is_side C_barring_primes⟩
  have C_Halved_shows : MCal P w K mg base CX0 cH "shows" 3 P_Halved_shows (spShows0 cH) := ⟨f17, _, ⟨a17, i17, k17⟩, b17, ok_Halved_shows (w := w) F17 T C_is_side⟩
  have C__check_side : Cal P w K mg base CX0 "_check_side" 3 P__check_side (spF K R__check_side) := cal_of (PySem.W.mg_of X G a20) k20 b20 (ok__check_side (w := w) F20 T C_is_side)
  have C__law_bars : Cal P w K mg base CX0 "_law_bars" 3 P__law_bars (spF K R__law_bars) := cal_of (PySem.W.mg_of X G a32) k32 b32 (ok__law_bars (w := w) F32 T C__law_is_prime)
  have C__law_number : Cal P w K mg base CX0 "_law_number" 3 P__law_number (spF K R__law_number) := cal_of (PySem.W.mg_of X G a33) k33 b33 (ok__law_number (w := w) F33 T C__law_cell_at C__law_value C__law_draw)
  have C_triples_by_longest : Cal P w K mg base CX0 "triples_by_longest" 4 P_triples_by_longest (spL K R_triples_by_longest) := cal_of (PySem.W.mg_of X G a7) k7 b7 (ok_triples_by_longest (w := w) F7 T C_is_pair C_formed)
  have C_triples_by_leg : Cal P w K mg base CX0 "triples_by_leg" 4 P_triples_by_leg (spL K R_triples_by_leg) := cal_of (PySem.W.mg_of X G a8) k8 b8 (ok_triples_by_leg (w := w) F8 T C_is_pair C_formed C__pairs_by_even C__pairs_by_odd)
  have C__law_due : Cal P w K mg base CX0 "_law_due" 4 P__law_due (spDue K (Csf cL cB cG cH)) := cal_of (PySem.W.mg_of X G a35) k35 b35 (ok__law_due (w := w) F35 T C__law_longest C__law_legs C__law_bars)
  have C_Longest_shows : MCal P w K mg base CX0 cL "shows" 5 P_Longest_shows (spShowsL K cL lonT') := ⟨f12, _, ⟨a12, i12, k12⟩, b12, ok_Longest_shows (w := w) F12 T C_is_side C_triples_by_longest⟩
  have C_Leg_shows : MCal P w K mg base CX0 cG "shows" 5 P_Leg_shows (spShowsL K cG legT') := ⟨f16, _, ⟨a16, i16, k16⟩, b16, ok_Leg_shows (w := w) F16 T C_is_side C_triples_by_leg⟩
  have C_longest : Cal P w K mg base CX0 "longest" 5 P_longest (spAsk K (Csf cL cB cG cH) 0) := cal_of (PySem.W.mg_of X G a18) k18 b18 (ok_longest (w := w) F18 T C__check_side C_barring_primes C_triples_by_longest C_Longest_init C_Barred_init)
  have C_leg : Cal P w K mg base CX0 "leg" 5 P_leg (spAsk K (Csf cL cB cG cH) 2) := cal_of (PySem.W.mg_of X G a19) k19 b19 (ok_leg (w := w) F19 T C__check_side C_triples_by_leg C_Leg_init)
  have hfne : f18 ≠ f19 := fun z => by rw [z] at ne_ask; simp at ne_ask
  have hA : ∀ f sp, Sask K (Csf cL cB cG cH) f18 f19 f = some sp → Held P w K mg base 5 f sp := fun f sp h => by
    unfold Sask at h
    by_cases z : f = f18
    · rw [if_pos z] at h
      subst z
      cases Option.some.inj h
      obtain ⟨f', fd', h1, h2, h3, h4⟩ := C_longest.ex
      have e := (PySem.W.mg_of X G a18).symm.trans h1
      cases e
      exact ⟨_, _, h4.mono (by decide), h2, h3⟩
    · rw [if_neg z] at h
      by_cases y : f = f19
      · rw [if_pos y] at h
        subst y
        cases Option.some.inj h
        obtain ⟨f', fd', h1, h2, h3, h4⟩ := C_leg.ex
        have e := (PySem.W.mg_of X G a19).symm.trans h1
        cases e
        exact ⟨_, _, h4.mono (by decide), h2, h3⟩
      · rw [if_neg y] at h
        cases h
  have hSh : ∀ i : _root_.Fin 4, MCal P w K mg base CX0 (Csf cL cB cG cH i.val) "shows" 5 ["self", "number"] (spsA K (Csf cL cB cG cH) i.val) := fun i => match i with
    | ⟨0, _⟩ => (by obtain ⟨f, fd, h1, h2, h3⟩ := C_Longest_shows.ex; exact ⟨f, fd, h1, h2, h3.mono (by decide)⟩)
    | ⟨1, _⟩ => (by obtain ⟨f, fd, h1, h2, h3⟩ := C_Barred_shows.ex; exact ⟨f, fd, h1, h2, h3.mono (by decide)⟩)
    | ⟨2, _⟩ => (by obtain ⟨f, fd, h1, h2, h3⟩ := C_Leg_shows.ex; exact ⟨f, fd, h1, h2, h3.mono (by decide)⟩)
    | ⟨3, _⟩ => (by obtain ⟨f, fd, h1, h2, h3⟩ := C_Halved_shows.ex; exact ⟨f, fd, h1, h2, h3.mono (by decide)⟩)
  have C__law_told_right : Cal P w K mg base CX0 "_law_told_right" 20 P__law_told_right (spTold K (Csf cL cB cG cH) f18 f19) := cal_of (PySem.W.mg_of X G a36) k36 b36 (ok__law_told_right (w := w) F36 T hfne hA hSh C__law_due C__law_says C__law_whole C__law_are)
  exact ok_law F37 T (PySem.W.mg_of X G a18) (PySem.W.mg_of X G a19) C__law_number C__law_told_right C_longest C_leg
end Sq

open PySem PySem.W PyProof.Rows in
set_option maxRecDepth 100000 in
set_option maxHeartbeats 0 in
theorem PySem.Challenge.cw_squaretree_k03_whole_sides_holds : PySem.Challenge.rw_squaretree_k03_whole_sides.Holds := by
  w_on; o_law; k_head; (case hw => w_witness2)
  k_fill
  refine Sq.walk_S (l := PySem.Challenge.rw_squaretree_k03_whole_sides) (k := 21) (x := "_law_script") (R := Sq.R_law3) rfl rfl ⟨rfl, by decide, by decide⟩ (by decide +kernel) (fun w h Y => PySem.W.kIn_of Y) ?F ?S
  case S => exact fun ns h1 h2 => ⟨ns, rfl, h1, h2, rfl⟩
  case F =>
    intro w mg fa h KX G hmg
    refine' Sq.all_mk KX G hmg rfl ?a0 ?l0 ?c0 ?k0 ?a1 ?l1 ?c1 ?k1 ?a2 ?l2 ?c2 ?k2 ?a3 ?l3 ?c3 ?k3 ?a4 ?l4 ?c4 ?k4 ?a5 ?l5 ?c5 ?k5 ?a6 ?l6 ?c6 ?k6 ?a7 ?l7 ?c7 ?k7 ?a8 ?l8 ?c8 ?k8 ?a9 ?l9 ?c9 ?k9 ?a10 ?l10 ?c10 ?k10 ?a11 ?i11 ?l11 ?c11 ?k11 ?a12 ?i12 ?l12 ?c12 ?k12 ?a13 ?i13 ?l13 ?c13 ?k13 ?a14 ?i14 ?l14 ?c14 ?k14 ?a15 ?i15 ?l15 ?c15 ?k15 ?a16 ?i16 ?l16 ?c16 ?k16 ?a17 ?i17 ?l17 ?c17 ?k17 ?a18 ?l18 ?c18 ?k18 ?a19 ?l19 ?c19 ?k19 ?a20 ?l20 ?c20 ?k20 ?a21 ?l21 ?c21 ?k21 ?a22 ?l22 ?c22 ?k22 ?a23 ?l23 ?c23 ?k23 ?a24 ?l24 ?c24 ?k24 ?a25 ?l25 ?c25 ?k25 ?a26 ?l26 ?c26 ?k26 ?a27 ?l27 ?c27 ?k27 ?a28 ?l28 ?c28 ?k28 ?a29 ?l29 ?c29 ?k29 ?a30 ?l30 ?c30 ?k30 ?a31 ?l31 ?c31 ?k31 ?a32 ?l32 ?c32 ?k32 ?a33 ?l33 ?c33 ?k33 ?a34 ?l34 ?c34 ?k34 ?a35 ?l35 ?c35 ?k35 ?a36 ?l36 ?c36 ?k36 ?a37 ?l37 ?c37 ?k37 ?z_isinstance ?z_int ?z_bool ?z_tuple ?z_list ?z_len ?z_all ?z_any ?z_range ?z_max ?z_min ?z_sorted ?z_isqrt ?z_gcd ?z_L ?z_M ?aC_cA ?pg_cA ?hd_cA ?po_cA ?sa_cA ?ty_cA ?aC_cL ?pg_cL ?hd_cL ?po_cL ?sa_cL ?mk_cL ?kc_cL ?ha_cL ?hn_cL ?ht_cL ?hm_cL ?ty_cL ?sub_cA_cL ?ne_cA_cL ?sub_cB_cL ?ne_cB_cL ?sub_cG_cL ?ne_cG_cL ?sub_cH_cL ?ne_cH_cL ?na_cL ?aC_cB ?pg_cB ?hd_cB ?po_cB ?sa_cB ?mk_cB ?kc_cB ?ha_cB ?hn_cB ?ht_cB ?hm_cB ?ty_cB ?sub_cA_cB ?ne_cA_cB ?sub_cL_cB ?ne_cL_cB ?sub_cG_cB ?ne_cG_cB ?sub_cH_cB ?ne_cH_cB ?na_cB ?aC_cG ?pg_cG ?hd_cG ?po_cG ?sa_cG ?mk_cG ?kc_cG ?ha_cG ?hn_cG ?ht_cG ?hm_cG ?ty_cG ?sub_cA_cG ?ne_cA_cG ?sub_cL_cG ?ne_cL_cG ?sub_cB_cG ?ne_cB_cG ?sub_cH_cG ?ne_cH_cG ?na_cG ?aC_cH ?pg_cH ?hd_cH ?po_cH ?sa_cH ?mk_cH ?kc_cH ?ha_cH ?hn_cH ?ht_cH ?hm_cH ?ty_cH ?sub_cA_cH ?ne_cA_cH ?sub_cL_cH ?ne_cL_cH ?sub_cB_cH ?ne_cB_cH ?sub_cG_cH ?ne_cG_cH ?oi_cH ?ms_cH ?ne_ask
    (case aC_cA => k_is)
    (case aC_cL => k_is)
    (case aC_cB => k_is)
    (case aC_cG => k_is)
    (case aC_cH => k_is)
    (case a0 => k_is)
    (case l0 => k_is)
    (case c0 => k_is)
    (case k0 => k_is)
    (case a1 => k_is)
    (case l1 => k_is)
    (case c1 => k_is)
    (case k1 => k_is)
    (case a2 => k_is)
    (case l2 => k_is)
    (case c2 => k_is)
    (case k2 => k_is)
    (case a3 => k_is)
    (case l3 => k_is)
    (case c3 => k_is)
    (case k3 => k_is)
    (case a4 => k_is)
    (case l4 => k_is)
    (case c4 => k_is)
    (case k4 => k_is)
    (case a5 => k_is)
    (case l5 => k_is)
    (case c5 => k_is)
    (case k5 => k_is)
    (case a6 => k_is)
    (case l6 => k_is)
    (case c6 => k_is)
    (case k6 => k_is)
    (case a7 => k_is)
    (case l7 => k_is)
    (case c7 => k_is)
    (case k7 => k_is)
    (case a8 => k_is)
    (case l8 => k_is)
    (case c8 => k_is)
    (case k8 => k_is)
    (case a9 => k_is)
    (case l9 => k_is)
    (case c9 => k_is)
    (case k9 => k_is)
    (case a10 => k_is)
    (case l10 => k_is)
    (case c10 => k_is)
    (case k10 => k_is)
    (case a11 => k_is)
    (case i11 => k_is)
    (case l11 => k_is)
    (case c11 => k_is)
    (case k11 => k_is)
    (case a12 => k_is)
    (case i12 => k_is)
    (case l12 => k_is)
    (case c12 => k_is)
    (case k12 => k_is)
    (case a13 => k_is)
    (case i13 => k_is)
    (case l13 => k_is)
    (case c13 => k_is)
    (case k13 => k_is)
    (case a14 => k_is)
    (case i14 => k_is)
    (case l14 => k_is)
    (case c14 => k_is)
    (case k14 => k_is)
    (case a15 => k_is)
    (case i15 => k_is)
    (case l15 => k_is)
    (case c15 => k_is)
    (case k15 => k_is)
    (case a16 => k_is)
    (case i16 => k_is)
    (case l16 => k_is)
    (case c16 => k_is)
    (case k16 => k_is)
    (case a17 => k_is)
    (case i17 => k_is)
    (case l17 => k_is)
    (case c17 => k_is)
    (case k17 => k_is)
    (case a18 => k_is)
    (case l18 => k_is)
    (case c18 => k_is)
    (case k18 => k_is)
    (case a19 => k_is)
    (case l19 => k_is)
    (case c19 => k_is)
    (case k19 => k_is)
    (case a20 => k_is)
    (case l20 => k_is)
    (case c20 => k_is)
    (case k20 => k_is)
    (case a21 => k_is)
    (case l21 => k_is)
    (case c21 => k_is)
    (case k21 => k_is)
    (case a22 => k_is)
    (case l22 => k_is)
    (case c22 => k_is)
    (case k22 => k_is)
    (case a23 => k_is)
    (case l23 => k_is)
    (case c23 => k_is)
    (case k23 => k_is)
    (case a24 => k_is)
    (case l24 => k_is)
    (case c24 => k_is)
    (case k24 => k_is)
    (case a25 => k_is)
    (case l25 => k_is)
    (case c25 => k_is)
    (case k25 => k_is)
    (case a26 => k_is)
    (case l26 => k_is)
    (case c26 => k_is)
    (case k26 => k_is)
    (case a27 => k_is)
    (case l27 => k_is)
    (case c27 => k_is)
    (case k27 => k_is)
    (case a28 => k_is)
    (case l28 => k_is)
    (case c28 => k_is)
    (case k28 => k_is)
    (case a29 => k_is)
    (case l29 => k_is)
    (case c29 => k_is)
    (case k29 => k_is)
    (case a30 => k_is)
    (case l30 => k_is)
    (case c30 => k_is)
    (case k30 => k_is)
    (case a31 => k_is)
    (case l31 => k_is)
    (case c31 => k_is)
    (case k31 => k_is)
    (case a32 => k_is)
    (case l32 => k_is)
    (case c32 => k_is)
    (case k32 => k_is)
    (case a33 => k_is)
    (case l33 => k_is)
    (case c33 => k_is)
    (case k33 => k_is)
    (case a34 => k_is)
    (case l34 => k_is)
    (case c34 => k_is)
    (case k34 => k_is)
    (case a35 => k_is)
    (case l35 => k_is)
    (case c35 => k_is)
    (case k35 => k_is)
    (case a36 => k_is)
    (case l36 => k_is)
    (case c36 => k_is)
    (case k36 => k_is)
    (case a37 => k_is)
    (case l37 => k_is)
    (case c37 => k_is)
    (case k37 => k_is)
    (case z_isinstance => k_is)
    (case z_int => k_is)
    (case z_bool => k_is)
    (case z_tuple => k_is)
    (case z_list => k_is)
    (case z_len => k_is)
    (case z_all => k_is)
    (case z_any => k_is)
    (case z_range => k_is)
    (case z_max => k_is)
    (case z_min => k_is)
    (case z_sorted => k_is)
    (case z_isqrt => k_is)
    (case z_gcd => k_is)
    (case z_L => k_is)
    (case z_M => k_is)
    (case pg_cA => k_is)
    (case hd_cA => k_is)
    (case po_cA => k_is)
    (case sa_cA => k_is)
    (case ty_cA => k_is)
    (case pg_cL => k_is)
    (case hd_cL => k_is)
    (case po_cL => k_is)
    (case sa_cL => k_is)
    (case mk_cL => k_is)
    (case kc_cL => k_is)
    (case ha_cL => k_is)
    (case hn_cL => k_is)
    (case ht_cL => k_is)
    (case hm_cL => k_is)
    (case ty_cL => k_is)
    (case sub_cA_cL => k_is)
    (case sub_cB_cL => k_is)
    (case sub_cG_cL => k_is)
    (case sub_cH_cL => k_is)
    (case na_cL => k_is)
    (case pg_cB => k_is)
    (case hd_cB => k_is)
    (case po_cB => k_is)
    (case sa_cB => k_is)
    (case mk_cB => k_is)
    (case kc_cB => k_is)
    (case ha_cB => k_is)
    (case hn_cB => k_is)
    (case ht_cB => k_is)
    (case hm_cB => k_is)
    (case ty_cB => k_is)
    (case sub_cA_cB => k_is)
    (case sub_cL_cB => k_is)
    (case sub_cG_cB => k_is)
    (case sub_cH_cB => k_is)
    (case na_cB => k_is)
    (case pg_cG => k_is)
    (case hd_cG => k_is)
    (case po_cG => k_is)
    (case sa_cG => k_is)
    (case mk_cG => k_is)
    (case kc_cG => k_is)
    (case ha_cG => k_is)
    (case hn_cG => k_is)
    (case ht_cG => k_is)
    (case hm_cG => k_is)
    (case ty_cG => k_is)
    (case sub_cA_cG => k_is)
    (case sub_cL_cG => k_is)
    (case sub_cB_cG => k_is)
    (case sub_cH_cG => k_is)
    (case na_cG => k_is)
    (case pg_cH => k_is)
    (case hd_cH => k_is)
    (case po_cH => k_is)
    (case sa_cH => k_is)
    (case mk_cH => k_is)
    (case kc_cH => k_is)
    (case ha_cH => k_is)
    (case hn_cH => k_is)
    (case ht_cH => k_is)
    (case hm_cH => k_is)
    (case ty_cH => k_is)
    (case sub_cA_cH => k_is)
    (case sub_cL_cH => k_is)
    (case sub_cB_cH => k_is)
    (case sub_cG_cH => k_is)
    (case oi_cH => k_is)
    (case ms_cH => k_is)
    (case ne_cA_cL => rfl)
    (case ne_cB_cL => rfl)
    (case ne_cG_cL => rfl)
    (case ne_cH_cL => rfl)
    (case ne_cA_cB => rfl)
    (case ne_cL_cB => rfl)
    (case ne_cG_cB => rfl)
    (case ne_cH_cB => rfl)
    (case ne_cA_cG => rfl)
    (case ne_cL_cG => rfl)
    (case ne_cB_cG => rfl)
    (case ne_cH_cG => rfl)
    (case ne_cA_cH => rfl)
    (case ne_cL_cH => rfl)
    (case ne_cB_cH => rfl)
    (case ne_cG_cH => rfl)
    (case ne_ask => rfl)

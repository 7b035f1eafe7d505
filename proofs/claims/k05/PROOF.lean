import PyProof.Rows.All
import Wide.All
import OpenK.AllK
import Wide.FinOn
import PyProof.NoPylong
import Flt.RightSqrt
import HandS.ForMost
import HandS.ForExc
import HandS.Evl
import HandS.IsInst
import HandS.Gcd
import HandS.WideBits
import HandS.Style
import HandS.Steps
import HandS.EndBits
import KE.DataFind
import PyProof.Rows.ChunkEnd
import PyProof.Rows.ChunkLeaf
import HandS.SortRule
import KE.SortData
import HandS.HotCalls
import HandS.ExcIs
import HandS.CallLocal
import PySem.Challenge.RW_squaretree_k05_refused
set_option Elab.async false
set_option linter.all false
set_option maxRecDepth 100000
set_option maxHeartbeats 8000000
namespace Sq
/-! ### pairs -/
abbrev P2 := Int × Int
def IsPair (p : P2) : Prop := 0 < p.2 ∧ p.2 < p.1 ∧ (p.1 - p.2) % 2 = 1 ∧ Int.gcd p.1 p.2 = 1
def one (p : P2) : P2 := (2 * p.1 + p.2, p.1)
def un (p : P2) : P2 := (p.2, p.1 - 2 * p.2)
instance (p : P2) : Decidable (IsPair p) := by unfold IsPair; infer_instance
theorem un_one (p : P2) : un (one p) = p := by
  obtain ⟨m, n⟩ := p
  show ((m, 2 * m + n - 2 * m) : P2) = (m, n)
  congr 1
  omega
theorem one_un (p : P2) : one (un p) = p := by
  obtain ⟨m, n⟩ := p
  show ((2 * n + (m - 2 * n), n) : P2) = (m, n)
  congr 1
  omega
def iter (f : P2 → P2) : Nat → P2 → P2
  | 0, p => p
  | k + 1, p => f (iter f k p)
theorem iter_add (f : P2 → P2) (a b : Nat) (p : P2) : iter f (a + b) p = iter f a (iter f b p) := by
  induction a with
  | zero => rw [Nat.zero_add]; rfl
  | succ a ih => rw [show a + 1 + b = (a + b) + 1 by omega]; show f _ = f _; rw [ih]
theorem iter_succ' (f : P2 → P2) (k : Nat) (p : P2) : iter f (k + 1) p = iter f k (f p) := iter_add f k 1 p
theorem un_iter_one (k : Nat) (p : P2) : iter un k (iter one k p) = p := by
  induction k with
  | zero => rfl
  | succ k ih => rw [iter_succ' un]; show iter un k (un (one (iter one k p))) = p; rw [un_one, ih]
theorem one_iter_un (k : Nat) (p : P2) : iter one k (iter un k p) = p := by
  induction k with
  | zero => rfl
  | succ k ih => rw [iter_succ' one]; show iter one k (one (un (iter un k p))) = p; rw [one_un, ih]

/-! ### Pell's numbers -/
/-- (at k, at k + 1) -/
def pell : Nat → P2
  | 0 => (0, 1)
  | k + 1 => ((pell k).2, 2 * (pell k).2 + (pell k).1)
theorem pell_s1 (k : Nat) : (pell (k + 1)).1 = (pell k).2 := rfl
theorem pell_s2 (k : Nat) : (pell (k + 1)).2 = 2 * (pell k).2 + (pell k).1 := rfl
/-- sums of places -/
theorem pell_add (a : Nat) : ∀ b : Nat, (pell (a + b)).1 = (pell a).1 * ((pell b).2 - 2 * (pell b).1) + (pell a).2 * (pell b).1 ∧ (pell (a + b)).2 = (pell a).1 * (pell b).1 + (pell a).2 * (pell b).2
  | 0 => by constructor <;> simp [pell]
  | b + 1 => by
    obtain ⟨h1, h2⟩ := pell_add a b
    constructor
    · show (pell (a + b)).2 = _
      rw [h2, pell_s1, pell_s2]
      grind
    · show 2 * (pell (a + b)).2 + (pell (a + b)).1 = _
      rw [h1, h2, pell_s1, pell_s2]
      grind
theorem pell_dbl (k : Nat) : pell (2 * k) = (2 * (pell k).1 * ((pell k).2 - (pell k).1), (pell k).1 * (pell k).1 + (pell k).2 * (pell k).2) := by
  obtain ⟨h1, h2⟩ := pell_add k k
  rw [show 2 * k = k + k by omega]
  refine Prod.ext ?_ h2
  rw [h1]
  grind
theorem pell_pos : ∀ k : Nat, 0 ≤ (pell k).1 ∧ (pell k).1 < (pell k).2 ∧ (pell k).2 ≤ 3 ^ k
  | 0 => by decide
  | k + 1 => by
    obtain ⟨h1, h2, h3⟩ := pell_pos k
    refine ⟨?_, ?_, ?_⟩
    · rw [pell_s1]; omega
    · rw [pell_s1, pell_s2]; omega
    · rw [pell_s2, Int.pow_succ]; omega
/-- step 1, k times -/
theorem one_pell (m n : Int) : ∀ k : Nat, iter one k (m, n) = ((pell k).2 * m + (pell k).1 * n, (pell k).1 * m + ((pell k).2 - 2 * (pell k).1) * n)
  | 0 => by simp [pell, iter]
  | k + 1 => by
    show one (iter one k (m, n)) = _
    rw [one_pell m n k, pell_s1, pell_s2]
    refine Prod.ext ?_ ?_
    · show 2 * ((pell k).2 * m + (pell k).1 * n) + ((pell k).1 * m + ((pell k).2 - 2 * (pell k).1) * n) = _
      grind
    · show (pell k).2 * m + (pell k).1 * n = _
      grind
def sgn (k : Nat) : Int := if k % 2 = 0 then 1 else -1
theorem sgn_s (k : Nat) : sgn (k + 1) = - sgn k := by
  unfold sgn
  by_cases h : k % 2 = 0
  · rw [if_pos h, if_neg (by omega)]
  · rw [if_neg h, if_pos (by omega)]; rfl
/-- .. and back -/
theorem un_pell (m n : Int) : ∀ k : Nat, iter un k (m, n) = (sgn k * (((pell k).2 - 2 * (pell k).1) * m - (pell k).1 * n), sgn k * ((pell k).2 * n - (pell k).1 * m))
  | 0 => by simp [pell, iter, sgn]
  | k + 1 => by
    show un (iter un k (m, n)) = _
    rw [un_pell m n k, pell_s1, pell_s2, sgn_s]
    refine Prod.ext ?_ ?_
    · show sgn k * ((pell k).2 * n - (pell k).1 * m) = _
      grind
    · show sgn k * (((pell k).2 - 2 * (pell k).1) * m - (pell k).1 * n) - 2 * (sgn k * ((pell k).2 * n - (pell k).1 * m)) = _
      grind

/-! ### steps -/
def led (p : P2) (s : Int) (t : Nat) : P2 :=
  if s = 0 then (p.1 + (p.1 - p.2) * t, p.2 + (p.1 - p.2) * t)
  else if s = 2 then (p.1 + 2 * p.2 * t, p.2)
  else iter one t p
def ledBack (p : P2) (s : Int) (t : Nat) : P2 :=
  if s = 0 then (p.1 - (p.1 - p.2) * t, p.2 - (p.1 - p.2) * t)
  else if s = 2 then (p.1 - 2 * p.2 * t, p.2)
  else iter un t p
def Ok2 (p : P2) : Prop := 0 < p.2 ∧ p.2 < p.1
theorem ok_one {p : P2} (h : Ok2 p) : Ok2 (one p) := by
  obtain ⟨m, n⟩ := p
  obtain ⟨h1, h2⟩ := h
  refine ⟨?_, ?_⟩
  · show 0 < m
    have : 0 < n := h1
    have : n < m := h2
    omega
  · show m < 2 * m + n
    have : 0 < n := h1
    have : n < m := h2
    omega
theorem ok_iter {p : P2} (h : Ok2 p) : ∀ k, Ok2 (iter one k p)
  | 0 => h
  | k + 1 => ok_one (ok_iter h k)
theorem led_zero (p : P2) (s : Int) : led p s 0 = p := by
  unfold led
  split
  · simp
  · split
    · simp
    · rfl
/-- one by one -/
theorem led_succ (p : P2) (s : Int) (t : Nat) : led p s (t + 1) = led (led p s t) s 1 := by
  unfold led
  by_cases h0 : s = 0
  · simp only [if_pos h0]
    refine Prod.ext ?_ ?_
    · show p.1 + (p.1 - p.2) * ((t + 1 : Nat) : Int) = (p.1 + (p.1 - p.2) * t) + ((p.1 + (p.1 - p.2) * t) - (p.2 + (p.1 - p.2) * t)) * ((1 : Nat) : Int)
      rw [Int.natCast_add]
      grind
    · show p.2 + (p.1 - p.2) * ((t + 1 : Nat) : Int) = (p.2 + (p.1 - p.2) * t) + ((p.1 + (p.1 - p.2) * t) - (p.2 + (p.1 - p.2) * t)) * ((1 : Nat) : Int)
      rw [Int.natCast_add]
      grind
  · simp only [if_neg h0]
    by_cases h2 : s = 2
    · simp only [if_pos h2]
      refine Prod.ext ?_ rfl
      show p.1 + 2 * p.2 * ((t + 1 : Nat) : Int) = (p.1 + 2 * p.2 * t) + 2 * p.2 * ((1 : Nat) : Int)
      rw [Int.natCast_add]
      grind
    · simp only [if_neg h2]
      rfl
theorem ledBack_led (p : P2) (s : Int) (t : Nat) : ledBack (led p s t) s t = p := by
  unfold led ledBack
  by_cases h0 : s = 0
  · simp only [if_pos h0]
    refine Prod.ext ?_ ?_
    · show (p.1 + (p.1 - p.2) * t) - ((p.1 + (p.1 - p.2) * t) - (p.2 + (p.1 - p.2) * t)) * (t : Int) = p.1
      grind
    · show (p.2 + (p.1 - p.2) * t) - ((p.1 + (p.1 - p.2) * t) - (p.2 + (p.1 - p.2) * t)) * (t : Int) = p.2
      grind
  · simp only [if_neg h0]
    by_cases h2 : s = 2
    · simp only [if_pos h2]
      refine Prod.ext ?_ rfl
      show (p.1 + 2 * p.2 * t) - 2 * p.2 * t = p.1
      omega
    · simp only [if_neg h2]
      exact un_iter_one t p
theorem led_ledBack (p : P2) (s : Int) (t : Nat) : led (ledBack p s t) s t = p := by
  unfold led ledBack
  by_cases h0 : s = 0
  · simp only [if_pos h0]
    refine Prod.ext ?_ ?_
    · show (p.1 - (p.1 - p.2) * t) + ((p.1 - (p.1 - p.2) * t) - (p.2 - (p.1 - p.2) * t)) * (t : Int) = p.1
      grind
    · show (p.2 - (p.1 - p.2) * t) + ((p.1 - (p.1 - p.2) * t) - (p.2 - (p.1 - p.2) * t)) * (t : Int) = p.2
      grind
  · simp only [if_neg h0]
    by_cases h2 : s = 2
    · simp only [if_pos h2]
      refine Prod.ext ?_ rfl
      show (p.1 - 2 * p.2 * t) + 2 * p.2 * t = p.1
      omega
    · simp only [if_neg h2]
      exact one_iter_un t p
theorem led_ok {p : P2} (h : Ok2 p) (s : Int) : ∀ t, Ok2 (led p s t)
  | 0 => by rw [led_zero]; exact h
  | t + 1 => by
    rw [led_succ]
    have ih := led_ok h s t
    generalize led p s t = q at ih
    obtain ⟨m, n⟩ := q
    obtain ⟨h1, h2⟩ := ih
    have h1 : 0 < n := h1
    have h2 : n < m := h2
    unfold led
    split
    · refine ⟨?_, ?_⟩
      · show 0 < n + (m - n) * ((1 : Nat) : Int); omega
      · show n + (m - n) * ((1 : Nat) : Int) < m + (m - n) * ((1 : Nat) : Int); omega
    · split
      · refine ⟨h1, ?_⟩
        show n < m + 2 * n * ((1 : Nat) : Int)
        omega
      · exact ok_one ⟨h1, h2⟩
theorem led_pair1 {p : P2} (h : IsPair p) (s : Int) : IsPair (led p s 1) := by
  obtain ⟨m, n⟩ := p
  obtain ⟨h1, h2, h3, h4⟩ := h
  have h1 : 0 < n := h1
  have h2 : n < m := h2
  have h3 : (m - n) % 2 = 1 := h3
  have h4 : Int.gcd m n = 1 := h4
  obtain ⟨o1, o2⟩ := led_ok (p := (m, n)) ⟨h1, h2⟩ s 1
  refine ⟨o1, o2, ?_, ?_⟩ <;> clear o1 o2 <;> unfold led
  · split
    · show ((m + (m - n) * ((1 : Nat) : Int)) - (n + (m - n) * ((1 : Nat) : Int))) % 2 = 1; omega
    · split
      · show ((m + 2 * n * ((1 : Nat) : Int)) - n) % 2 = 1; omega
      · show ((2 * m + n) - m) % 2 = 1; omega
  · have key : ∀ a b : Int, (∀ d : Int, d ∣ a → d ∣ b → d ∣ m ∧ d ∣ n) → Int.gcd a b = 1 := fun a b hd => by
      obtain ⟨q1, q2⟩ := hd (Int.gcd a b : Int) (Int.gcd_dvd_left ..) (Int.gcd_dvd_right ..)
      have := Int.dvd_gcd q1 q2
      rw [h4] at this
      have : (Int.gcd a b) ∣ 1 := by exact_mod_cast this
      exact Nat.dvd_one.mp this
    split
    · refine key _ _ fun d q1 q2 => ?_
      have q1 : d ∣ m + (m - n) * ((1 : Nat) : Int) := q1
      have q2 : d ∣ n + (m - n) * ((1 : Nat) : Int) := q2
      have e : n + (m - n) * ((1 : Nat) : Int) = m := by omega
      rw [e] at q2
      refine ⟨q2, ?_⟩
      have e2 : n = 2 * m - (m + (m - n) * ((1 : Nat) : Int)) := by omega
      rw [e2]
      exact Int.dvd_sub (Int.dvd_mul_of_dvd_right q2) q1
    · split
      · refine key _ _ fun d q1 q2 => ⟨?_, q2⟩
        have q1 : d ∣ m + 2 * n * ((1 : Nat) : Int) := q1
        have q2 : d ∣ n := q2
        have e2 : m = (m + 2 * n * ((1 : Nat) : Int)) - 2 * n := by omega
        rw [e2]
        exact Int.dvd_sub q1 (Int.dvd_mul_of_dvd_right q2)
      · refine key _ _ fun d q1 q2 => ⟨q2, ?_⟩
        have q1 : d ∣ 2 * m + n := q1
        have q2 : d ∣ m := q2
        have e2 : n = (2 * m + n) - 2 * m := by omega
        rw [e2]
        exact Int.dvd_sub q1 (Int.dvd_mul_of_dvd_right q2)
theorem led_pair {p : P2} (h : IsPair p) (s : Int) : ∀ t, IsPair (led p s t)
  | 0 => by rw [led_zero]; exact h
  | t + 1 => by rw [led_succ]; exact led_pair1 (led_pair h s t) s

/-! ### the last step -/
def lastStep (p : P2) : Int := if p.1 < 2 * p.2 then 0 else if p.1 < 3 * p.2 then 1 else 2
theorem lastStep_of {p : P2} (h : Ok2 p) {s : Int} (hs : s = 0 ∨ s = 1 ∨ s = 2) (t : Nat) : lastStep (led p s (t + 1)) = s := by
  rw [led_succ]
  have ih := led_ok h s t
  generalize led p s t = q at ih
  obtain ⟨m, n⟩ := q
  obtain ⟨h1, h2⟩ := ih
  have h1 : 0 < n := h1
  have h2 : n < m := h2
  rcases hs with rfl | rfl | rfl
  · show (if m + (m - n) * ((1 : Nat) : Int) < 2 * (n + (m - n) * ((1 : Nat) : Int)) then (0 : Int) else _) = 0
    rw [if_pos (by omega)]
  · show (if 2 * m + n < 2 * m then (0 : Int) else if 2 * m + n < 3 * m then 1 else 2) = 1
    rw [if_neg (by omega), if_pos (by omega)]
  · show (if m + 2 * n * ((1 : Nat) : Int) < 2 * n then (0 : Int) else if m + 2 * n * ((1 : Nat) : Int) < 3 * n then 1 else 2) = 2
    rw [if_neg (by omega), if_neg (by omega)]
/-- where no step s may have come last -/
abbrev root : P2 := (2, 1)
def NotLast (s : Int) (p : P2) : Prop := p = root ∨ lastStep p ≠ s
theorem root_pair : IsPair root := ⟨by decide, by decide, by decide, by decide⟩
/-- the two at the borders -/
theorem at_two {p : P2} (h : IsPair p) (e : p.1 = 2 * p.2) : p = (2, 1) := by
  obtain ⟨m, n⟩ := p
  obtain ⟨h1, h2, h3, h4⟩ := h
  have e : m = 2 * n := e
  have h4 : Int.gcd m n = 1 := h4
  have h1 : 0 < n := h1
  have q : n ∣ (Int.gcd m n : Int) := Int.dvd_coe_gcd (by rw [e]; exact Int.dvd_mul_left ..) (Int.dvd_refl _)
  rw [h4] at q
  have : n = 1 := by
    have := Int.le_of_dvd (by decide) q
    omega
  subst this
  subst e
  rfl
theorem not_three {p : P2} (h : IsPair p) : p.1 ≠ 3 * p.2 := by
  intro e
  obtain ⟨m, n⟩ := p
  obtain ⟨h1, h2, h3, h4⟩ := h
  have e : m = 3 * n := e
  have h3 : (m - n) % 2 = 1 := h3
  omega

/-- how often step 0, step 2 came last -/
theorem times0 {p : P2} (h : IsPair p) (hl : NotLast 0 p) (t : Nat) : ((led p 0 t).2 - 1) / ((led p 0 t).1 - (led p 0 t).2) = t := by
  obtain ⟨m, n⟩ := p
  obtain ⟨h1, h2, h3, h4⟩ := id h
  have h1 : 0 < n := h1
  have h2 : n < m := h2
  have hg : n ≤ m - n := by
    rcases hl with e | e
    · cases e; decide
    · unfold lastStep at e
      split at e
      · exact absurd rfl e
      · rename_i z
        have : ¬ m < 2 * n := z
        omega
  show ((n + (m - n) * t) - 1) / ((m + (m - n) * t) - (n + (m - n) * t)) = (t : Int)
  have e1 : (m + (m - n) * t) - (n + (m - n) * t) = m - n := by omega
  have e2 : (n + (m - n) * t) - 1 = (n - 1) + (m - n) * t := by omega
  rw [e1, e2, Int.add_mul_ediv_left _ _ (by omega), Int.ediv_eq_zero_of_lt (by omega) (by omega), Int.zero_add]
theorem times2 {p : P2} (h : IsPair p) (hl : NotLast 2 p) (t : Nat) : ((led p 2 t).1 - (led p 2 t).2) / (2 * (led p 2 t).2) = t := by
  obtain ⟨m, n⟩ := p
  obtain ⟨h1, h2, h3, h4⟩ := id h
  have h1 : 0 < n := h1
  have h2 : n < m := h2
  have hg : m < 3 * n := by
    rcases hl with e | e
    · cases e; decide
    · unfold lastStep at e
      split at e
      · have : m < 2 * n := by assumption
        omega
      · split at e
        · assumption
        · exact absurd rfl e
  show ((m + 2 * n * t) - n) / (2 * n) = (t : Int)
  have e2 : (m + 2 * n * t) - n = (m - n) + 2 * n * t := by omega
  rw [e2, Int.add_mul_ediv_left _ _ (by omega), Int.ediv_eq_zero_of_lt (by omega) (by omega), Int.zero_add]
/-- .. and step 1: one step back is none -/
theorem un_not {p : P2} (h : IsPair p) (hl : NotLast 1 p) : ¬ Ok2 (un p) := by
  obtain ⟨m, n⟩ := p
  obtain ⟨h1, h2, h3, h4⟩ := id h
  have h1 : 0 < n := h1
  have h2 : n < m := h2
  rintro ⟨q1, q2⟩
  have q1 : 0 < m - 2 * n := q1
  have q2 : m - 2 * n < n := q2
  rcases hl with e | e
  · cases e; omega
  · unfold lastStep at e
    rw [if_neg (show ¬ m < 2 * n by omega), if_pos (show m < 3 * n by omega)] at e
    exact e rfl
theorem leap_ok {p : P2} (h : IsPair p) (hl : NotLast 1 p) (t j : Nat) : Ok2 (iter un j (iter one t p)) ↔ j ≤ t := by
  obtain ⟨h1, h2, _, _⟩ := id h
  constructor
  · intro q
    refine Nat.le_of_not_lt fun hj => ?_
    obtain ⟨d, rfl⟩ : ∃ d, j = d + 1 + t := ⟨j - t - 1, by omega⟩
    rw [iter_add, un_iter_one, iter_succ'] at q
    have := ok_iter q d
    rw [one_iter_un] at this
    exact un_not h hl this
  · intro hj
    obtain ⟨d, rfl⟩ : ∃ d, t = j + d := ⟨t - j, by omega⟩
    rw [iter_add, un_iter_one]
    exact ok_iter ⟨h1, h2⟩ d
theorem back_iter {p : P2} {t j : Nat} (hj : j ≤ t) : iter un j (iter one t p) = iter one (t - j) p := by
  obtain ⟨d, rfl⟩ : ∃ d, t = j + d := ⟨t - j, by omega⟩
  rw [iter_add, un_iter_one, Nat.add_sub_cancel_left]

/-! ### rows -/
abbrev Row := List (Int × Nat)
def behind : P2 → Row → P2
  | p, [] => p
  | p, (s, t) :: r => behind (led p s t) r
theorem behind_append (p : P2) (a b : Row) : behind p (a ++ b) = behind (behind p a) b := by
  induction a generalizing p with
  | nil => rfl
  | cons x a ih => obtain ⟨s, t⟩ := x; exact ih _
/-- a row whose first step is not l -/
def Good : Int → Row → Prop
  | _, [] => True
  | l, (s, t) :: r => (s = 0 ∨ s = 1 ∨ s = 2) ∧ s ≠ l ∧ 0 < t ∧ (s = 1 → t ≤ 1000) ∧ Good s r
theorem good_pair {p : P2} (h : IsPair p) : ∀ r : Row, IsPair (behind p r)
  | [] => h
  | (s, t) :: r => good_pair (led_pair h s t) r

theorem one_up {p : P2} (h : Ok2 p) : p.1 < (one p).1 := by
  obtain ⟨m, n⟩ := p
  obtain ⟨h1, h2⟩ := h
  have h1 : 0 < n := h1
  have h2 : n < m := h2
  show m < 2 * m + n
  omega
theorem iter_up {p : P2} (h : Ok2 p) : ∀ a b : Nat, a ≤ b → (iter one a p).1 ≤ (iter one b p).1
  | a, 0, hab => by rw [Nat.le_zero.mp hab]; exact Int.le_refl _
  | a, b + 1, hab => by
    by_cases e : a = b + 1
    · rw [e]; exact Int.le_refl _
    · exact Int.le_trans (iter_up h a b (by omega)) (Int.le_of_lt (one_up (ok_iter h b)))
theorem led_up1 {p : P2} (h : Ok2 p) (s : Int) : p.1 < (led p s 1).1 := by
  obtain ⟨m, n⟩ := p
  obtain ⟨h1, h2⟩ := id h
  have h1 : 0 < n := h1
  have h2 : n < m := h2
  unfold led
  split
  · show m < m + (m - n) * ((1 : Nat) : Int); omega
  · split
    · show m < m + 2 * n * ((1 : Nat) : Int); omega
    · exact one_up h
theorem led_up {p : P2} (h : Ok2 p) (s : Int) : ∀ a b : Nat, a ≤ b → (led p s a).1 ≤ (led p s b).1
  | a, 0, hab => by rw [Nat.le_zero.mp hab]; exact Int.le_refl _
  | a, b + 1, hab => by
    by_cases e : a = b + 1
    · rw [e]; exact Int.le_refl _
    · refine Int.le_trans (led_up h s a b (by omega)) ?_
      rw [led_succ]
      exact Int.le_of_lt (led_up1 (led_ok h s b) s)
theorem led_more {p : P2} (h : Ok2 p) (s : Int) {t : Nat} (ht : 0 < t) : p.1 < (led p s t).1 := by
  have := led_up h s 1 t ht
  have := led_up1 h s
  omega
theorem behind_ok {p : P2} (h : Ok2 p) : ∀ r : Row, Ok2 (behind p r)
  | [] => h
  | (s, t) :: r => behind_ok (led_ok h s t) r
theorem behind_up {p : P2} (h : Ok2 p) : ∀ r : Row, p.1 ≤ (behind p r).1
  | [] => Int.le_refl _
  | (s, t) :: r => by
    have h1 := led_up h s 0 t (Nat.zero_le _)
    rw [led_zero] at h1
    exact Int.le_trans h1 (behind_up (led_ok h s t) r)
theorem ok_of {p : P2} (h : IsPair p) : Ok2 p := ⟨h.1, h.2.1⟩
theorem behind_take_up (r : Row) (j : Nat) : (behind root (r.take j)).1 ≤ (behind root r).1 := by
  have e : behind root r = behind (behind root (r.take j)) (r.drop j) := by rw [← behind_append, List.take_append_drop]
  rw [e]
  exact behind_up (behind_ok (ok_of root_pair) _) _
/-- a row's places -/
theorem Good.at {l : Int} : ∀ {r : Row} {j : Nat} {s : Int} {t : Nat}, Good l r → r[j]? = some (s, t) → (s = 0 ∨ s = 1 ∨ s = 2) ∧ 0 < t ∧ (s = 1 → t ≤ 1000)
  | [], j, s, t, _, e => by simp at e
  | (a, b) :: r, j, s, t, g, e => by
    obtain ⟨g1, g2, g3, g4, g5⟩ := g
    cases j with
    | zero =>
      have e' := Option.some.inj e
      cases e'
      exact ⟨g1, g3, g4⟩
    | succ j => exact Good.at (j := j) g5 (by simpa using e)
theorem Good.next {l : Int} : ∀ {r : Row} {j : Nat} {s s' : Int} {t t' : Nat}, Good l r → r[j]? = some (s, t) → r[j + 1]? = some (s', t') → s' ≠ s
  | [], j, _, _, _, _, _, e, _ => by simp at e
  | (a, b) :: r, j, s, s', t, t', g, e, e2 => by
    obtain ⟨g1, g2, g3, g4, g5⟩ := g
    cases j with
    | zero =>
      have e' := Option.some.inj e
      cases e'
      have e2 : r[0]? = some (s', t') := by simpa using e2
      cases r with
      | nil => simp at e2
      | cons x r =>
        have e2' := Option.some.inj e2
        subst e2'
        exact g5.2.1
    | succ j => exact Good.next (j := j) g5 (by simpa using e) (by simpa using e2)
theorem behind_snoc (p : P2) (r : Row) (s : Int) (t : Nat) : behind p (r ++ [(s, t)]) = led (behind p r) s t := by rw [behind_append]; rfl
theorem take_snoc {r : Row} {j : Nat} {x : Int × Nat} (h : r[j]? = some x) : r.take (j + 1) = r.take j ++ [x] := by
  rw [List.take_add_one, h]; rfl
/-- at place j of a good row the step may be told -/
theorem row_last {r : Row} {l : Int} {j : Nat} {s : Int} {t : Nat} (g : Good l r) (e : r[j]? = some (s, t)) : NotLast s (behind root (r.take j)) := by
  cases j with
  | zero => exact .inl rfl
  | succ j =>
    have hj : j < r.length := by
      have := (List.getElem?_eq_some_iff.mp e).1
      omega
    have e0 : r[j]? = some r[j] := List.getElem?_eq_getElem hj
    generalize r[j] = x at e0
    obtain ⟨s0, t0⟩ := x
    obtain ⟨a1, a2, a3⟩ := g.at e0
    refine .inr ?_
    rw [take_snoc e0, behind_snoc]
    obtain ⟨t1, rfl⟩ : ∃ t1, t0 = t1 + 1 := ⟨t0 - 1, by omega⟩
    rw [lastStep_of (behind_ok (ok_of root_pair) _) a1 t1]
    exact fun z => g.next e0 e z.symm
end Sq

namespace Sq
open PySem PySem.Spec PyProof.Rows L2 Evl

/-! ### room for isqrt and the like -/
theorem wpAny_roomInverse {M : Model} {A : Around} {E : Value → Shared → Prop} {s : Shared} {n : Nat} {Q : Unit → Shared → Prop} (hl : s.heap.NoLimit) (hd : A.depth + Builtin.pylongFrames < recursionLimit) (hs : SeerAt M A s.heap) (h : Q () s) :
    wpAny M A (Builtin.roomForPylongsInverse n) Q E s := by
  unfold Builtin.roomForPylongsInverse
  by_cases hb : n.log2 / 30 + 1 > 450
  · rw [if_pos hb]
    refine wpAny_bind (hs A.units s E _ rfl ?_)
    exact wpAny_pylongFrames hl hd h
  · rw [if_neg hb]
    exact wpAny_pure h
theorem isqrt_any {prog : Program} {w : World} {A : Around} {E : Value → Shared → Prop} {s : Shared} {Q : Value → Shared → Prop} {a : Int} {t : Tok} (h0 : 0 ≤ a) (h1 : a.toNat.log2 ≤ 200000)
    (hl : s.heap.NoLimit) (hd : A.depth + Builtin.pylongFrames < recursionLimit) (hs : SeerAt (model prog w) A s.heap) (h : Q (.int ((Float64.isqrt a.toNat : Nat) : Int) s.toks) { s with toks := s.toks + 1 }) :
    wpAny (model prog w) A (call (.builtin "math.isqrt") [.int a t]) Q E s := by
  refine Calls.call_function_entry PySem.W.MGF.kind_isqrt PySem.W.MGF.plain_isqrt PySem.W.MGF.entry_isqrt (PySem.W.MGF.args_isqrt _) ?_
  obtain ⟨hp, g, d, tk, os⟩ := s
  have hc0 : ¬ a < 0 := by omega
  have hc1 : ¬ a.toNat.log2 > 200000 := by omega
  wp_walk using (wpAny_roomInverse (A := A.in1) hl hd hs)
  exact ⟨_, rfl, h⟩

/-! ### math.isqrt -/
def rIsqrt : List V → Hp → VK → Prop := fun vs H Q => ∃ a : Int, vs = [.int a] ∧ 0 ≤ a ∧ a.toNat.log2 ≤ 200000 ∧ Q (.int ((Float64.isqrt a.toNat : Nat) : Int)) H
section
variable {X : Cx}
theorem seer_of {pins : List (Addr × Obj)} {σ : L2.St} {H : Hp} {s : Shared} (I : Inv X pins σ H s) (hS : X.base.NoSeer) (ht : X.prog.given.tree = none) (hk : X.stack = X.env :: X.outer)
    (hg : X.env.scope.isGenerator = false) (hc : X.env.scope.isCoroutine = false) : SeerAt (model X.prog X.w) X.A s.heap :=
  SeerAt.of (hS.keeps I.bk) ht (I.ok.frames.trans (by rw [hk])) hg hc I.ok.blt I.ok.glob
/-- of great numbers, in a def's own body -/
theorem cr_isqrt {k : Nat} (hS : X.base.NoSeer) (ht : X.prog.given.tree = none) (hk : X.stack = X.env :: X.outer) (hg : X.env.scope.isGenerator = false) (hc : X.env.scope.isCoroutine = false) (hr : Room k X.A) (h32 : 32 ≤ k) :
    CallR X (.builtin "math.isqrt") rIsqrt := by
  intro pins s σ H vs us Q I r h
  obtain ⟨a, rfl, h0, h1, q⟩ := h
  obtain ⟨u, rfl, t, rfl⟩ : ∃ u, us = [u] ∧ RelV (.int a) u := by
    cases r with
    | cons p q => cases q; exact ⟨_, rfl, p⟩
  refine isqrt_any h0 h1 I.nolimit ?_ (seer_of I hS ht hk hg hc) ⟨.int _, H, I.tok _, ⟨_, rfl⟩, q⟩
  have := hr.dp
  show X.A.depth + 100 < recursionLimit
  omega
/-- of small ones, anywhere -/
def rIsqrtS : List V → Hp → VK → Prop := fun vs H Q => ∃ a : Int, vs = [.int a] ∧ 0 ≤ a ∧ a < 2 ^ 64 ∧ Q (.int ((Float64.isqrt a.toNat : Nat) : Int)) H
theorem cr_isqrtS : CallR X (.builtin "math.isqrt") rIsqrtS := by
  intro pins s σ H vs us Q I r h
  obtain ⟨a, rfl, h0, h1, q⟩ := h
  obtain ⟨u, rfl, t, rfl⟩ : ∃ u, us = [u] ∧ RelV (.int a) u := by
    cases r with
    | cons p q => cases q; exact ⟨_, rfl, p⟩
  exact PySem.W.mg_isqrt h0 h1 ⟨.int _, H, I.tok _, ⟨_, rfl⟩, q⟩

/-! ### // of any size where C does it, in place too -/
theorem op_fdivP : OpR X (binaryOp .FloorDiv) (rI CDivP fun i j => .int (i / j)) := opI fun i j _ _ _ _ _ hc q => by
  have h1 : (0 : Int) < j := hc.1
  exact floordiv_int (by omega) (by rw [Int.fdiv_eq_ediv_of_nonneg i (by omega)]; exact q) (.inl hc.2)
/-- of any size at all, in a def's own body -/
theorem op_fdivB {k : Nat} (hS : X.base.NoSeer) (ht : X.prog.given.tree = none) (hk : X.stack = X.env :: X.outer) (hg : X.env.scope.isGenerator = false) (hc : X.env.scope.isCoroutine = false) (hr : Room k X.A) (h32 : 32 ≤ k) :
    OpR X (binaryOp .FloorDiv) (rI (fun _ j => 0 < j) fun i j => .int (i / j)) := by
  intro pins s σ H x y v u Q I rx ry h
  obtain ⟨i, j, rfl, rfl, h1, q⟩ := h
  obtain ⟨t, rfl⟩ := rx
  obtain ⟨t', rfl⟩ := ry
  have h1 : (0 : Int) < j := h1
  have hd : X.A.depth + Builtin.pylongFrames < recursionLimit := by
    have := hr.dp
    show X.A.depth + 100 < recursionLimit
    omega
  refine floordiv_int (by omega) ?_ (.inr (PylongRoom.of I.nolimit hd (seer_of I hS ht hk hg hc)))
  rw [Int.fdiv_eq_ediv_of_nonneg i (by omega)]
  exact ⟨.int _, H, I.tok _, ⟨_, rfl⟩, q⟩
theorem iop_fdivP : OpR X (inplaceOp .FloorDiv) (rI CDivP fun i j => .int (i / j)) := opI fun i j _ _ _ _ _ hc q => by
  have h1 : (0 : Int) < j := hc.1
  exact ifloordiv_int (by omega) (by rw [Int.fdiv_eq_ediv_of_nonneg i (by omega)]; exact q) (.inl hc.2)
theorem ip_fdivP : PIp X .FloorDiv (rI CDivP fun i j => .int (i / j)) := fun pins s σ H x y v u Q I rx ry h => iop_fdivP pins s σ H x y v u Q I rx ry h
theorem iop_mulX : OpR X (inplaceOp .Mult) (rI CMulX fun i j => .int (i * j)) := opI fun _ _ _ _ _ _ _ hc q => imul_int q hc.ok
theorem ip_mulX : PIp X .Mult (rI CMulX fun i j => .int (i * j)) := fun pins s σ H x y v u Q I rx ry h => iop_mulX pins s σ H x y v u Q I rx ry h
end
theorem divs {i j : Int} (h : 0 < j) (h2 : j < 1073741824) : CDivP i j := ⟨h, PyProof.noPylong_small (by omega)⟩
theorem hu64 {A : Around} {k : Nat} (hr : Room k A) : A.units + 64 < cLine := hr.units

/-! ### rules with the written part named (within a comprehension) -/
section
variable {X : Cx} {K : PySem.W.Frag}
theorem k_ixL (h : X.K = K) : IxR X (rIxL K) := by subst h; exact ix_list
theorem k_ixT (h : X.K = K) : IxR X (rIxT K) := by subst h; exact ix_tup
theorem k_isi (h : X.K = K) : CallR X (.builtin "isinstance") (rIsi K) := by subst h; exact call_isi
theorem k_len (h : X.K = K) : CallR X (.builtin "len") (rLenS K) := by subst h; exact call_len_seq
theorem k_list (h : X.K = K) : CallR X (.type "list") (rListS K) := by subst h; exact call_list_of
theorem k_all (h : X.K = K) (hc : X.calm = true) : CallR X (.builtin "all") (rAll K) := by subst h; exact cr_all hc
theorem k_eqD (h : X.K = K) (hu : X.A.units + 64 < cLine) : OpR X (compareOp .Eq) (rEqD K) := by subst h; exact op_eqD hu
theorem k_neD (h : X.K = K) (hu : X.A.units + 64 < cLine) : OpR X (compareOp .NotEq) (rNeD K) := by subst h; exact op_neD hu
end

/-! ### xs.count(x), data of any depth -/
def rCntD (K : PySem.W.Frag) : V → List V → Hp → VK → Prop := fun x xs H Q => ∃ (p : Addr) (y : V) (d : PyData) (ds : List PyData), x = .ref p ∧ xs = [y] ∧ Dp K H (.ref p) (.list ds) ∧ Dp K H y d ∧ SeqAt.shaped (.list ds) = true ∧ SeqAt.shaped d = true ∧
  Q (.int ((ds.countP fun z => PyData.eqv z d : Nat) : Int)) H
theorem mt_countD {X : Cx} {K : PySem.W.Frag} (hK : X.K = K) (hu : X.A.units + 65 < cLine) : MtR X "list.count" (rCntD K) := by
  subst hK
  intro pins s σ H x xs v us Q I rx rxs h
  obtain ⟨a, y, d, ds, rfl, rfl, hl, hy, sl, sd, q⟩ := h
  cases rx
  cases rxs with
  | cons ry rt =>
    rename_i uy ut
    cases rt
    obtain ⟨bs, r1⟩ := Dp.reads I d y uy hy ry
    cases hl with
    | lst hs ha =>
      obtain ⟨its, rv, pl, hlen⟩ := I.list hs
      obtain ⟨as, h4⟩ := Dp.readsAll I ds _ its ha rv
      have hroom : X.A.units + 1 + min (PyData.depthAll ds) d.depth < cLine := by
        have h1 := SeqAt.depth_of_shaped sd
        have h2 : min (PyData.depthAll ds) d.depth ≤ d.depth := Nat.min_le_right _ _
        omega
      exact SeqAt.count_list_data pl.isList h4 r1 (PyData.plainAll_of_canLay0 ds (SeqAt.canLay_of_shaped sl)) (PyData.plain_of_canLay0 d (SeqAt.canLay_of_shaped sd)) hroom ⟨.int _, H, I.tok _, ⟨_, rfl⟩, q⟩
theorem hu65 {A : Around} {k : Nat} (hr : Room k A) : A.units + 65 < cLine := by have := hr.un; omega

/-! ### a def that stands in the module, with its promise -/
structure Cal (P : Program) (w : World) (K : PySem.W.Frag) (mg : Str → Option Value) (base : Heap) (CX : CXT) (x : Str) (k : Nat) (ps : List Str) (sp : Sp) : Prop where
  ex : ∃ f fd, mg x = some (.ref f) ∧ PySem.W.keepIn K (.ref f) = true ∧ Binds K fd ps [] ∧ FnOk P w K mg base CX k f fd ps sp
theorem pe_cal {X : Cx} {CX : CXT} {x : Str} {k : Nat} {ps : List Str} {sp : Sp} {E : XK} {e : Expr} {es : List Expr} {t : TA} {p pos : Pos} (C : Cal X.prog X.w X.K X.mg X.base CX x k ps sp) (hr : Room k X.A) (hg : Gl X x) (hx : Passes CX X E) (ha : PA X (e :: es) t)
    (hdb : (x == ("__debug__" : Str)) = false := by decide) (he : starEach (e :: es) X.env = (false, eval e X.env) :: starEach es X.env := by rfl) (hpl : (backTo pos (starEach es X.env)).any (·.1) = false := by rfl) :
    PE X (.Call (.Name x p) (e :: es) [] pos) (tCall sp [] E t) := by
  obtain ⟨f, fd, hm, hk, hb, F⟩ := C.ex
  exact pe_call F hr hg hm hk hb .nil hx ha hdb he hpl

/-! ### what evaluates to what data -/
theorem dp_ex {K : PySem.W.Frag} {H H' : Hp} (e : Ex H H') : ∀ {d : PyData} {v : V}, Dp K H v d → Dp K H' v d := by
  have key : (∀ (d : PyData) (v : V), Dp K H v d → Dp K H' v d) ∧ (∀ (ds : List PyData) (vs : List V), DpAll K H vs ds → DpAll K H' vs ds) ∧ (∀ kvs : List (PyData × PyData), True) ∧ (∀ kv : PyData × PyData, True) := by
    refine ⟨?_, ?_, fun _ => trivial, fun _ => trivial⟩
    · intro d v h
      exact h.rec (motive_1 := fun v d _ => Dp K H' v d) (motive_2 := fun vs ds _ => DpAll K H' vs ds) .non .bl .int .str (fun h _ ih => .lst (ex_l e h) ih) (fun h _ ih => .tup (ex_t e h) ih) .nil (fun _ _ a b => .cons a b)
    · intro ds vs h
      exact h.rec (motive_1 := fun v d _ => Dp K H' v d) (motive_2 := fun vs ds _ => DpAll K H' vs ds) .non .bl .int .str (fun h _ ih => .lst (ex_l e h) ih) (fun h _ ih => .tup (ex_t e h) ih) .nil (fun _ _ a b => .cons a b)
  exact fun {d v} h => key.1 d v h
theorem dpa_ex {K : PySem.W.Frag} {H H' : Hp} (e : Ex H H') {ds : List PyData} {vs : List V} (h : DpAll K H vs ds) : DpAll K H' vs ds :=
  h.rec (motive_1 := fun v d _ => Dp K H' v d) (motive_2 := fun vs ds _ => DpAll K H' vs ds) .non .bl .int .str (fun h _ ih => .lst (ex_l e h) ih) (fun h _ ih => .tup (ex_t e h) ih) .nil (fun _ _ a b => .cons a b)
theorem DpAll.len {K : PySem.W.Frag} {H : Hp} : ∀ {ds : List PyData} {vs : List V}, DpAll K H vs ds → vs.length = ds.length
  | [], _, h => by cases h; rfl
  | _ :: _, _, h => by
    cases h with
    | cons a b => rw [List.length_cons, List.length_cons, DpAll.len b]
end Sq

namespace Sq
open PySem PySem.Spec PyProof.Rows L2 Evl
/-! ### data behind a value; an empty dict too -/
mutual
inductive DV (K : PySem.W.Frag) (H : Hp) : V → PyData → Prop
  | non : DV K H .non .none
  | bl (b : Bool) : DV K H (.bl b) (.bool b)
  | int (i : Int) : DV K H (.int i) (.int i)
  | str (x : Str) : DV K H (.str x) (.str x)
  | lst {a : Addr} {xs : List V} {ds : List PyData} : SqL K H a xs → DVs K H xs ds → DV K H (.ref a) (.list ds)
  | tup {a : Addr} {xs : List V} {ds : List PyData} : SqT K H a xs → DVs K H xs ds → DV K H (.ref a) (.tuple ds)
  | dct {a : Addr} : H a = some (.dK []) → DV K H (.ref a) (.dict [])
inductive DVs (K : PySem.W.Frag) (H : Hp) : List V → List PyData → Prop
  | nil : DVs K H [] []
  | cons {v : V} {vs : List V} {d : PyData} {ds : List PyData} : DV K H v d → DVs K H vs ds → DVs K H (v :: vs) (d :: ds)
end
section
variable {K : PySem.W.Frag} {H H' : Hp}
mutual
theorem dv_ex (e : Ex H H') : ∀ (d : PyData) (v : V), DV K H v d → DV K H' v d
  | .none, _, h => by cases h; exact .non
  | .bool _, _, h => by cases h; exact .bl _
  | .int _, _, h => by cases h; exact .int _
  | .str _, _, h => by cases h; exact .str _
  | .list ds, _, h => by
    cases h with
    | lst a b => exact .lst (ex_l e a) (dvs_ex e ds _ b)
  | .tuple ds, _, h => by
    cases h with
    | tup a b => exact .tup (ex_t e a) (dvs_ex e ds _ b)
  | .dict _, _, h => by
    cases h with
    | dct a => exact .dct (e _ _ a)
theorem dvs_ex (e : Ex H H') : ∀ (ds : List PyData) (vs : List V), DVs K H vs ds → DVs K H' vs ds
  | [], _, h => by cases h; exact .nil
  | d :: ds, _, h => by
    cases h with
    | cons a b => exact .cons (dv_ex e d _ a) (dvs_ex e ds _ b)
end
theorem DV.ex {d : PyData} {v : V} (h : DV K H v d) (e : Ex H H') : DV K H' v d := dv_ex e d v h
theorem DVs.ex {ds : List PyData} {vs : List V} (h : DVs K H vs ds) (e : Ex H H') : DVs K H' vs ds := dvs_ex e ds vs h
mutual
theorem dv_dp : ∀ (d : PyData) (v : V), d.canLay0 = true → DV K H v d → Dp K H v d
  | .none, _, _, h => by cases h; exact .non
  | .bool _, _, _, h => by cases h; exact .bl _
  | .int _, _, _, h => by cases h; exact .int _
  | .str _, _, _, h => by cases h; exact .str _
  | .list ds, _, c, h => by
    cases h with
    | lst a b => exact .lst a (dvs_dp ds _ (by simpa [PyData.canLay0] using c) b)
  | .tuple ds, _, c, h => by
    cases h with
    | tup a b => exact .tup a (dvs_dp ds _ (by simpa [PyData.canLay0] using c) b)
  | .dict _, _, c, h => by simp [PyData.canLay0] at c
theorem dvs_dp : ∀ (ds : List PyData) (vs : List V), PyData.canLayAll0 ds = true → DVs K H vs ds → DpAll K H vs ds
  | [], _, _, h => by cases h; exact .nil
  | d :: ds, _, c, h => by
    have c' : d.canLay0 = true ∧ PyData.canLayAll0 ds = true := by simpa [PyData.canLayAll0] using c
    cases h with
    | cons a b => exact .cons (dv_dp d _ c'.1 a) (dvs_dp ds _ c'.2 b)
end
theorem DV.dp {d : PyData} {v : V} (h : DV K H v d) (c : SeqAt.shaped d = true) : Dp K H v d := dv_dp d v (SeqAt.canLay_of_shaped c) h
theorem DVs.len : ∀ {ds : List PyData} {vs : List V}, DVs K H vs ds → vs.length = ds.length
  | [], _, h => by cases h; rfl
  | _ :: _, _, h => by
    cases h with
    | cons a b => rw [List.length_cons, List.length_cons, DVs.len b]
theorem DVs.get : ∀ {ds : List PyData} {vs : List V} {i : Nat} {v : V}, DVs K H vs ds → vs[i]? = some v → ∃ d, ds[i]? = some d ∧ DV K H v d
  | [], _, i, v, h, e => by cases h; simp at e
  | d :: ds, _, i, v, h, e => by
    cases h with
    | cons a b =>
      cases i with
      | zero =>
        have e' := Option.some.inj e
        subst e'
        exact ⟨d, rfl, a⟩
      | succ i =>
        obtain ⟨d', h1, h2⟩ := DVs.get (i := i) b (by simpa using e)
        exact ⟨d', by simpa using h1, h2⟩
theorem DVs.get' : ∀ {ds : List PyData} {vs : List V} {i : Nat} {d : PyData}, DVs K H vs ds → ds[i]? = some d → ∃ v, vs[i]? = some v ∧ DV K H v d
  | [], _, i, v, h, e => by cases h; simp at e
  | d :: ds, _, i, v, h, e => by
    cases h with
    | cons a b =>
      cases i with
      | zero =>
        have e' := Option.some.inj e
        subst e'
        exact ⟨_, rfl, a⟩
      | succ i =>
        obtain ⟨v', h1, h2⟩ := DVs.get' (i := i) b (by simpa using e)
        exact ⟨v', by simpa using h1, h2⟩
theorem DVs.append : ∀ {ds es : List PyData} {vs ws : List V}, DVs K H vs ds → DVs K H ws es → DVs K H (vs ++ ws) (ds ++ es)
  | [], _, _, _, h, g => by cases h; exact g
  | d :: ds, _, _, _, h, g => by
    cases h with
    | cons a b => exact .cons a (DVs.append b g)
theorem DVs.take : ∀ {ds : List PyData} {vs : List V} (n : Nat), DVs K H vs ds → DVs K H (vs.take n) (ds.take n)
  | _, _, 0, _ => by rw [List.take_zero, List.take_zero]; exact .nil
  | [], _, n + 1, h => by cases h; exact .nil
  | d :: ds, _, n + 1, h => by
    cases h with
    | cons a b => exact .cons a (DVs.take n b)
theorem DVs.drop : ∀ {ds : List PyData} {vs : List V} (n : Nat), DVs K H vs ds → DVs K H (vs.drop n) (ds.drop n)
  | _, _, 0, h => h
  | [], _, n + 1, h => by cases h; exact .nil
  | d :: ds, _, n + 1, h => by
    cases h with
    | cons a b => exact DVs.drop n b
theorem DVs.reverse : ∀ {ds : List PyData} {vs : List V}, DVs K H vs ds → DVs K H vs.reverse ds.reverse
  | [], _, h => by cases h; exact .nil
  | d :: ds, _, h => by
    cases h with
    | cons a b => rw [List.reverse_cons, List.reverse_cons]; exact (DVs.reverse b).append (.cons a .nil)
theorem DVs.of_map {α : Type} {f : α → V} {g : α → PyData} : ∀ {xs : List α}, (∀ x ∈ xs, DV K H (f x) (g x)) → DVs K H (xs.map f) (xs.map g)
  | [], _ => .nil
  | x :: xs, h => .cons (h x List.mem_cons_self) (DVs.of_map fun y hy => h y (List.mem_cons_of_mem _ hy))
/-- what holds tuples of numbers alone stays, whatever becomes of the lists -/
def TEx (H H' : Hp) : Prop := ∀ a xs, H a = some (.tup xs) → H' a = some (.tup xs)
def flatT : PyData → Bool
  | .tuple xs => xs.all fun | .int _ => true | .bool _ => true | .str _ => true | .none => true | _ => false
  | .int _ => true
  | .bool _ => true
  | .str _ => true
  | .none => true
  | _ => false
end

/-! ### what evaluates to what data -/
def EvD (K : PySem.W.Frag) (te : TE) (σ : L2.St) (H : Hp) (d : PyData) : Prop := ∀ H1, Ex H H1 → ∀ Q : VK, (∀ v H2, Ex H1 H2 → DV K H2 v d → Q v H2) → te σ H1 Q
def EvDA (K : PySem.W.Frag) (ta : TA) (σ : L2.St) (H : Hp) (ds : List PyData) : Prop := ∀ H1, Ex H H1 → ∀ Q : List V → Hp → Prop, (∀ vs H2, Ex H1 H2 → DVs K H2 vs ds → Q vs H2) → ta σ H1 Q
/-- a promise of data: R args result -/
def RetD (K : PySem.W.Frag) (d : PyData) (H : Hp) (Q : VK) : Prop := ∀ v H2, Ex H H2 → DV K H2 v d → Q v H2
def spF (K : PySem.W.Frag) (R : List PyData → PyData → Prop) : Sp := fun vs H Q _ => ∃ ds d, DVs K H vs ds ∧ R ds d ∧ RetD K d H Q
/-- .. of a new list -/
def RetDL (K : PySem.W.Frag) (ds : List PyData) (H : Hp) (Q : VK) : Prop := ∀ p vs H2, H p = none → Ex H H2 → H2 p = some (.lst vs) → DVs K H2 vs ds → Q (.ref p) H2
def spL (K : PySem.W.Frag) (R : List PyData → List PyData → Prop) : Sp := fun vs H Q _ => ∃ ds es, DVs K H vs ds ∧ R ds es ∧ RetDL K es H Q
section
variable {K : PySem.W.Frag} {σ : L2.St} {H H' : Hp} {ta tb te tx : TE} {t u : TT} {x y z v : V} {r : R2} {d e : PyData} {ds es : List PyData} {tA tB' : TA}
theorem EvD.mono (x : Ex H H') (h : EvD K te σ H d) : EvD K te σ H' d := fun H1 a Q q => h H1 (x.trans a) Q q
theorem EvDA.mono (x : Ex H H') (h : EvDA K tA σ H ds) : EvDA K tA σ H' ds := fun H1 a Q q => h H1 (x.trans a) Q q
theorem ed_of (h : Ev te σ H v) (hd : DV K H v d) : EvD K te σ H d := fun H1 a Q q => h H1 a Q fun H2 b => q v H2 b (hd.ex (a.trans b))
theorem ed_var {i : Nat} (h : σ[i]? = some (some v)) (hd : DV K H v d) : EvD K (tVar i) σ H d := ed_of (ev_var h) hd
theorem ed_int {i : Int} (h : Ev te σ H (.int i)) : EvD K te σ H (.int i) := ed_of h (.int i)
theorem ed_bl {b : Bool} (h : Ev te σ H (.bl b)) : EvD K te σ H (.bool b) := ed_of h (.bl b)
theorem ed_non (h : Ev te σ H .non) : EvD K te σ H .none := ed_of h .non
theorem ed_str {s : Str} (h : Ev te σ H (.str s)) : EvD K te σ H (.str s) := ed_of h (.str s)
theorem ev_intD {i : Int} (h : EvD K te σ H (.int i)) : Ev te σ H (.int i) := fun H1 a Q q => h H1 a Q fun v H2 b hv => by cases hv; exact q H2 b
theorem ev_blD {b : Bool} (h : EvD K te σ H (.bool b)) : Ev te σ H (.bl b) := fun H1 a Q q => h H1 a Q fun v H2 b hv => by cases hv; exact q H2 b
theorem ev_nonD (h : EvD K te σ H .none) : Ev te σ H .non := fun H1 a Q q => h H1 a Q fun v H2 b hv => by cases hv; exact q H2 b
theorem eda_nil : EvDA K tNil σ H [] := fun H1 _ _ q => q [] H1 (Ex.refl H1) .nil
theorem eda_cons (h : EvD K te σ H d) (hr : EvDA K tA σ H ds) : EvDA K (tCons te tA) σ H (d :: ds) := fun H1 a _ q =>
  h H1 a _ fun v H2 b hv => hr H2 (a.trans b) _ fun vs H3 c hvs => q (v :: vs) H3 (b.trans c) (.cons (hv.ex c) hvs)
theorem ed_tup (h : EvDA K tA σ H ds) (hl : ds.length ≤ 100000) : EvD K (tTup tA) σ H (.tuple ds) := fun H1 a _ q =>
  h H1 a _ fun vs H2 b hvs => ⟨sz_of (by rw [hvs.len]; exact hl), fun p hp => q _ _ (b.trans (Ex.new hp)) (.tup (st_of upd_same) (hvs.ex (Ex.new hp)))⟩
theorem ed_lst (h : EvDA K tA σ H ds) (hl : ds.length ≤ 100000) : EvD K (tLst tA) σ H (.list ds) := fun H1 a _ q =>
  h H1 a _ fun vs H2 b hvs => ⟨sz_of (by rw [hvs.len]; exact hl), fun p hp => q _ _ (b.trans (Ex.new hp)) (.lst (sq_of upd_same) (hvs.ex (Ex.new hp)))⟩
theorem ed_call {R : List PyData → PyData → Prop} {E : XK} (h : EvDA K tA σ H ds) (hR : R ds d) : EvD K (tCall (spF K R) [] E tA) σ H d := fun H1 a _ q =>
  h H1 a _ fun vs H2 b hvs => ⟨ds, d, by rw [List.append_nil]; exact hvs, hR, fun v H3 c hv => q v H3 (b.trans c) hv⟩
theorem ed_callL {R : List PyData → List PyData → Prop} {E : XK} (h : EvDA K tA σ H ds) (hR : R ds es) : EvD K (tCall (spL K R) [] E tA) σ H (.list es) := fun H1 a _ q =>
  h H1 a _ fun vs H2 b hvs => ⟨ds, es, by rw [List.append_nil]; exact hvs, hR, fun p vs H3 _ c hp hv => q _ H3 (b.trans c) (.lst (sq_of hp) hv)⟩
theorem ev_eqD (ha : EvD K ta σ H d) (hb : EvD K tb σ H e) (sd : SeqAt.shaped d = true) (se : SeqAt.shaped e = true) : Ev (tOp (rEqD K) ta tb) σ H (.bl (PyData.eqv d e)) := fun H1 a _ q =>
  ha H1 a _ fun v H2 b hv => hb H2 (a.trans b) _ fun w H3 c hw => ⟨d, e, (hv.ex c).dp sd, hw.dp se, sd, se, q H3 (b.trans c)⟩
theorem ev_neD (ha : EvD K ta σ H d) (hb : EvD K tb σ H e) (sd : SeqAt.shaped d = true) (se : SeqAt.shaped e = true) : Ev (tOp (rNeD K) ta tb) σ H (.bl (!PyData.eqv d e)) := fun H1 a _ q =>
  ha H1 a _ fun v H2 b hv => hb H2 (a.trans b) _ fun w H3 c hw => ⟨d, e, (hv.ex c).dp sd, hw.dp se, sd, se, q H3 (b.trans c)⟩
theorem atI_dv {xs : List V} {i : Int} {j : Nat} {w : V} (hj : i = (j : Int)) (h : xs[j]? = some w) : atI xs i = some w := at_of hj h
theorem ed_ixT {i : Int} {j : Nat} (ha : EvD K ta σ H (.tuple ds)) (hb : Ev tb σ H (.int i)) (hj : i = (j : Int)) (h : ds[j]? = some d) : EvD K (tOp (rIxT K) ta tb) σ H d := fun H1 a _ q =>
  ha H1 a _ fun v H2 b hv => hb H2 (a.trans b) _ fun H3 c => by
    cases hv with
    | @tup p xs _ hp hx =>
      obtain ⟨w, h1, h2⟩ := hx.get' h
      exact ⟨p, xs, i, w, rfl, rfl, ex_t c hp, atI_dv hj h1, q w H3 (b.trans c) (h2.ex c)⟩
theorem ed_ixL {i : Int} {j : Nat} (ha : EvD K ta σ H (.list ds)) (hb : Ev tb σ H (.int i)) (hj : i = (j : Int)) (h : ds[j]? = some d) : EvD K (tOp (rIxL K) ta tb) σ H d := fun H1 a _ q =>
  ha H1 a _ fun v H2 b hv => hb H2 (a.trans b) _ fun H3 c => by
    cases hv with
    | @lst p xs _ hp hx =>
      obtain ⟨w, h1, h2⟩ := hx.get' h
      exact ⟨p, xs, i, w, rfl, rfl, ex_l c hp, atI_dv hj h1, q w H3 (b.trans c) (h2.ex c)⟩
theorem at_end {α : Type} {xs : List α} {v : α} (h : xs[xs.length - 1]? = some v) : atI xs (-1) = some v := by
  have h2 : xs.getLast? = some v := by rw [List.getLast?_eq_getElem?]; exact h
  have hne : xs ≠ [] := by
    intro z
    subst z
    simp at h2
  have h3 : xs.dropLast ++ [v] = xs := by
    have := List.dropLast_concat_getLast hne
    rw [List.getLast?_eq_some_getLast hne] at h2
    rw [← Option.some.inj h2]
    exact this
  rw [← h3]
  exact atI_last _ _
/-- xs[-1] -/
theorem ed_ixLast (ha : EvD K ta σ H (.list ds)) (hb : Ev tb σ H (.int (-1))) (h : ds[ds.length - 1]? = some d) : EvD K (tOp (rIxL K) ta tb) σ H d := fun H1 a _ q =>
  ha H1 a _ fun v H2 b hv => hb H2 (a.trans b) _ fun H3 c => by
    cases hv with
    | @lst p xs _ hp hx =>
      obtain ⟨w, h1, h2⟩ := hx.get' h
      have h0 : ds.length - 1 < ds.length := (List.getElem?_eq_some_iff.mp h).1
      rw [← hx.len] at h1
      exact ⟨p, xs, -1, w, rfl, rfl, ex_l c hp, at_end h1, q w H3 (b.trans c) (h2.ex c)⟩
theorem ev_lenT (ha : EvD K ta σ H (.tuple ds)) : Ev (tCB (rLenS K) (tCons ta tNil)) σ H (.int (ds.length : Int)) := fun H1 a _ q =>
  ha H1 a _ fun v H2 b hv => by
    cases hv with
    | @tup p xs _ hp hx => exact ⟨p, xs, rfl, .inr hp, by rw [hx.len]; exact q H2 b⟩
theorem ev_lenL (ha : EvD K ta σ H (.list ds)) : Ev (tCB (rLenS K) (tCons ta tNil)) σ H (.int (ds.length : Int)) := fun H1 a _ q =>
  ha H1 a _ fun v H2 b hv => by
    cases hv with
    | @lst p xs _ hp hx => exact ⟨p, xs, rfl, .inl hp, by rw [hx.len]; exact q H2 b⟩
/-- the class's name of data -/
def tyN : PyData → String
  | .none => "NoneType" | .bool _ => "bool" | .int _ => "int" | .str _ => "str" | .list _ => "list" | .tuple _ => "tuple" | .dict _ => "dict"
theorem tyx_of (h : DV K H v d) : TyX K H v (.type (tyN d)) := by
  cases h with
  | non => exact .base .non
  | bl b => exact .base (.bl b)
  | int i => exact .base (.int i)
  | str s => exact .base (.str s)
  | lst hp _ =>
    rcases hp with (hp | ⟨o, hp⟩) | ⟨o, its, n, hk, hc, _⟩
    · exact .base (.lst hp)
    · exact .base (.frz hp)
    · exact .kList hk hc
  | tup hp _ =>
    rcases hp with (hp | ⟨o, hp⟩) | ⟨o, its, n, hk, hc, _⟩
    · exact .base (.tup hp)
    · exact .fTuple hp
    · exact .kTuple hk hc
  | dct hp => exact .base (.dK hp)
theorem ev_isi {n : String} {b : Bool} (ha : EvD K ta σ H d) (hb : kitB (tyN d) n = some b) : Ev (tCB (rIsi K) (tCons ta (tCons (tC (.ty n)) tNil))) σ H (.bl b) := fun H1 a _ q =>
  ha H1 a _ fun v H2 c hv => ⟨v, .ty n, _, _, b, rfl, .ty n, tyx_of hv, kit_ty hb, q H2 c⟩
theorem ev_chain {r' : R2} {tc : TE} {b1 b2 : Bool} (ha : Ev ta σ H x) (hb : Ev tb σ H y) (h1 : RV r x y H (.bl b1)) (hc : b1 = true → Ev tc σ H z) (h2 : b1 = true → RV r' y z H (.bl b2)) : Ev (tChain r r' ta tb tc) σ H (.bl (b1 && b2)) := fun H1 a Q q =>
  ha H1 a _ fun H2 b => hb H2 (a.trans b) _ fun H3 c => h1 H3 ((a.trans b).trans c) _ fun H4 f => ⟨b1, rfl, by
    cases b1 with
    | true =>
      rw [if_pos rfl]
      exact hc rfl H4 (((a.trans b).trans c).trans f) _ fun H5 g => h2 rfl H5 ((((a.trans b).trans c).trans f).trans g) Q fun H6 k => q H6 ((((b.trans c).trans f).trans g).trans k)
    | false =>
      rw [if_neg Bool.false_ne_true]
      exact q H4 ((b.trans c).trans f)⟩
theorem ev_all {bs : List Bool} (h : EvL te σ H (bs.map V.bl)) : Ev (tCB (rAll K) (tCons te tNil)) σ H (.bl (bs.all id)) := fun H1 a Q q =>
  h H1 a _ fun p H2 _ b hp => ⟨p, bs, rfl, sq_of hp, q H2 b⟩
theorem ev_isq {a : Int} (h : Ev te σ H (.int a)) (h0 : 0 ≤ a) (h1 : a.toNat.log2 ≤ 200000) : Ev (tCB rIsqrt (tCons te tNil)) σ H (.int ((Float64.isqrt a.toNat : Nat) : Int)) := fun H1 x Q q =>
  h H1 x _ fun H2 b => ⟨a, rfl, h0, h1, q H2 b⟩
theorem ev_isqS {a : Int} (h : Ev te σ H (.int a)) (h0 : 0 ≤ a) (h1 : a < 2 ^ 64) : Ev (tCB rIsqrtS (tCons te tNil)) σ H (.int ((Float64.isqrt a.toNat : Nat) : Int)) := fun H1 x Q q =>
  h H1 x _ fun H2 b => ⟨a, rfl, h0, h1, q H2 b⟩
theorem ev_gcd {a b : Int} (h : Ev ta σ H (.int a)) (h' : Ev tb σ H (.int b)) : Ev (tCB rGcd (tCons ta (tCons tb tNil))) σ H (.int ((Int.gcd a b : Nat) : Int)) := fun H1 x Q q =>
  h H1 x _ fun H2 e2 => h' H2 (x.trans e2) _ fun H3 e3 => ⟨a, b, rfl, q H3 (e2.trans e3)⟩
theorem ev_bits {a : Int} (h : Ev te σ H (.int a)) : Ev (tBits te) σ H (.int ((Builtin.Int.intBits a : Nat) : Int)) := fun H1 x Q q =>
  h H1 x _ fun H2 e2 => ⟨a, rfl, q H2 e2⟩

/-! ### comprehensions over data, a truth a turn -/
theorem given_all (n : Nat) (v : Nat → V) : given n (fun _ => true) v = (List.range n).map v := by
  unfold given
  congr 1
  exact List.filter_eq_self.mpr fun _ _ => rfl
theorem el_lcT {a : Addr} {xs : List V} {tl : TE} {j : Nat} {vs : List Nat} (f : Nat → Bool) (v : Nat → V) (h : Ev tl σ H (.ref a)) (hx : SqT K H a xs) (hz : xs.length ≤ 40000) (hw : ∀ x, wipe ((wipe σ vs).set j (some x)) vs = wipe σ vs)
    (ht : ∀ (i : Nat) (x : V) H1, Ex H H1 → xs[i]? = some x → EvT t ((wipe σ vs).set j (some x)) H1 (f i)) (he : ∀ (i : Nat) (x : V) H1, Ex H H1 → xs[i]? = some x → f i = true → Ev te ((wipe σ vs).set j (some x)) H1 (v i)) :
    EvL (tLc (iTup K tl) (gName j) t te vs) σ H (given xs.length f v) := fun H0 e Q q => h H0 e _ fun H1 e1 => ⟨a, rfl, ⟨xs, ex_t (e.trans e1) hx⟩, fun Dl hD =>
  lc_tup (xs := xs) (Cw H1 f v Dl) ⟨hD, Ex.new hD, upd_same⟩ (fun i H' _ p => ex_t ((e.trans e1).trans p.2.1) hx) (fun i x H' hi p => ⟨hw x, cw_turn p (by have := (List.getElem?_eq_some_iff.mp hi).1; omega) (ht i x H1 (e.trans e1) hi) (fun hf => he i x H1 (e.trans e1) hi hf)⟩)
    (fun H' p => q Dl H' (fresh_back e1 p.1) (e1.trans p.2.1) p.2.2)⟩
theorem map_range_get {α : Type} {n : Nat} {ds : List PyData} {f : PyData → α} {dflt : PyData} (hn : n = ds.length) : (List.range n).map (fun i => f (ds.getD i dflt)) = ds.map f := by
  subst hn
  apply List.ext_getElem?
  intro i
  rw [List.getElem?_map, List.getElem?_map]
  by_cases hi : i < ds.length
  · rw [List.getElem?_range hi]
    simp [hi, List.getD]
  · rw [List.getElem?_eq_none (by rw [List.length_range]; omega), List.getElem?_eq_none (by omega)]
    rfl
theorem tYes_t : EvT tYes σ H true := fun H1 _ _ q => q H1 (Ex.refl H1)
theorem all_lcT {tl : TE} {j : Nat} {vs : List Nat} (f : PyData → Bool) (h : EvD K tl σ H (.tuple ds)) (hz : ds.length ≤ 40000) (hw : ∀ x, wipe ((wipe σ vs).set j (some x)) vs = wipe σ vs)
    (he : ∀ (d : PyData) (x : V) H1, Ex H H1 → d ∈ ds → DV K H1 x d → Ev te ((wipe σ vs).set j (some x)) H1 (.bl (f d))) :
    Ev (tCB (rAll K) (tCons (tLc (iTup K tl) (gName j) tYes te vs) tNil)) σ H (.bl (ds.all f)) := by
  intro H0 e Q q
  refine h H0 e _ fun w H1 e1 hw1 => ?_
  cases hw1 with
  | @tup a xs _ hp hx =>
    have hlen := hx.len
    refine ⟨a, rfl, ⟨xs, hp⟩, fun Dl hD => lc_tup (xs := xs) (Cw H1 (fun _ => true) (fun i => V.bl (f (ds.getD i .none))) Dl) ⟨hD, Ex.new hD, upd_same⟩ (fun i H' _ p => ex_t p.2.1 hp) (fun i x H' hi p => ⟨hw x, cw_turn p (by have := (List.getElem?_eq_some_iff.mp hi).1; omega) tYes_t fun _ => ?_⟩) fun H' p => ?_⟩
    · obtain ⟨d, h1, h2⟩ := hx.get hi
      have e2 : ds.getD i .none = d := by rw [List.getD, h1]; rfl
      rw [e2]
      exact he d x H1 (e.trans e1) (List.mem_of_getElem? h1) h2
    · have e3 := p.2.2
      rw [given_all, hlen] at e3
      have e4 : (List.range ds.length).map (fun i => V.bl (f (ds.getD i .none))) = (ds.map f).map V.bl := by
        rw [map_range_get (f := fun d => V.bl (f d)) rfl, List.map_map]
        rfl
      rw [e4] at e3
      refine ⟨Dl, ds.map f, rfl, sq_of e3, ?_⟩
      have e5 : (ds.map f).all id = ds.all f := by rw [List.all_map]; rfl
      rw [e5]
      exact q H' (e1.trans p.2.1)
theorem all_lcL {tl : TE} {j : Nat} {vs : List Nat} (f : PyData → Bool) (h : EvD K tl σ H (.list ds)) (hz : ds.length ≤ 40000) (hw : ∀ x, wipe ((wipe σ vs).set j (some x)) vs = wipe σ vs)
    (he : ∀ (d : PyData) (x : V) H1, Ex H H1 → d ∈ ds → DV K H1 x d → Ev te ((wipe σ vs).set j (some x)) H1 (.bl (f d))) :
    Ev (tCB (rAll K) (tCons (tLc (iList K tl) (gName j) tYes te vs) tNil)) σ H (.bl (ds.all f)) := by
  intro H0 e Q q
  refine h H0 e _ fun w H1 e1 hw1 => ?_
  cases hw1 with
  | @lst a xs _ hp hx =>
    have hlen := hx.len
    refine ⟨a, rfl, ⟨xs, hp⟩, fun Dl hD => lc_list (xs := xs) (Cw H1 (fun _ => true) (fun i => V.bl (f (ds.getD i .none))) Dl) ⟨hD, Ex.new hD, upd_same⟩ (fun i H' _ p => ex_l p.2.1 hp) (fun i x H' hi p => ⟨hw x, cw_turn p (by have := (List.getElem?_eq_some_iff.mp hi).1; omega) tYes_t fun _ => ?_⟩) fun H' p => ?_⟩
    · obtain ⟨d, h1, h2⟩ := hx.get hi
      have e2 : ds.getD i .none = d := by rw [List.getD, h1]; rfl
      rw [e2]
      exact he d x H1 (e.trans e1) (List.mem_of_getElem? h1) h2
    · have e3 := p.2.2
      rw [given_all, hlen] at e3
      have e4 : (List.range ds.length).map (fun i => V.bl (f (ds.getD i .none))) = (ds.map f).map V.bl := by
        rw [map_range_get (f := fun d => V.bl (f d)) rfl, List.map_map]
        rfl
      rw [e4] at e3
      refine ⟨Dl, ds.map f, rfl, sq_of e3, ?_⟩
      have e5 : (ds.map f).all id = ds.all f := by rw [List.all_map]; rfl
      rw [e5]
      exact q H' (e1.trans p.2.1)

theorem all_lcR2 {tA : TA} {j : Nat} {vs : List Nat} {lo hi : Int} {n : Nat} (f : Nat → Bool) (h : EvA tA σ H [.int lo, .int hi]) (hn : n = (hi - lo).toNat) (hb : -100000 ≤ lo ∧ lo ≤ 100000 ∧ -100000 ≤ hi ∧ hi ≤ 40000 ∧ n ≤ 40000) (hw : ∀ x, wipe ((wipe σ vs).set j (some x)) vs = wipe σ vs)
    (he : ∀ (i : Nat) H1, Ex H H1 → i < n → Ev te ((wipe σ vs).set j (some (.int (lo + (i : Int))))) H1 (.bl (f i))) :
    Ev (tCB (rAll K) (tCons (tLc (iRng2 tA) (gName j) tYes te vs) tNil)) σ H (.bl ((List.range n).all f)) := by
  intro H0 e Q q
  refine h H0 e _ fun H1 e1 => ⟨lo, hi, rfl, ⟨by omega, by omega, by omega, by omega⟩, fun Dl hD => ?_⟩
  rw [← hn]
  refine lc_range (lo := lo) (n := n) (Cw H1 (fun _ => true) (fun i => V.bl (f i)) Dl) ⟨hD, Ex.new hD, upd_same⟩ (fun i H' hi p => ⟨hw _, cw_turn p (by omega) tYes_t fun _ => he i H1 (e.trans e1) hi⟩) fun H' p => ?_
  have e3 := p.2.2
  rw [given_all] at e3
  have e4 : (List.range n).map (fun i => V.bl (f i)) = ((List.range n).map f).map V.bl := by rw [List.map_map]; rfl
  rw [e4] at e3
  refine ⟨Dl, (List.range n).map f, rfl, sq_of e3, ?_⟩
  have e5 : ((List.range n).map f).all id = (List.range n).all f := by rw [List.all_map]; rfl
  rw [e5]
  exact q H' (e1.trans p.2.1)

/-! ### statements -/
variable {D : Ends} {tu tw tz : TS} {g : TG}
theorem s_asgD {i : Nat} (h : EvD K te σ H d) (k : ∀ v H1, Ex H H1 → DV K H1 v d → D.nx (σ.set i (some v)) H1) : tAsg te (gName i) D σ H := h H (Ex.refl H) _ fun v H1 e hv => k v H1 e hv
theorem q_asgD {i : Nat} (h : EvD K te σ H d) (k : ∀ v H1, Ex H H1 → DV K H1 v d → tz D (σ.set i (some v)) H1) : tSeq (tAsg te (gName i)) tz D σ H := s_asgD (D := { D with nx := tz D }) h k
theorem s_retD (h : EvD K te σ H d) (k : RetD K d H D.rt) : tRet te D σ H := h H (Ex.refl H) _ fun v H1 e hv => k v H1 e hv
theorem s_dropD (h : EvD K te σ H d) (k : ∀ H1, Ex H H1 → D.nx σ H1) : tDrop te D σ H := h H (Ex.refl H) _ fun _ H1 e _ => k H1 e
/-- a, b = e -/
theorem s_un2 {i j : Nat} {d1 d2 : PyData} (h : EvD K te σ H (.tuple [d1, d2])) (k : ∀ v1 v2 H1, Ex H H1 → DV K H1 v1 d1 → DV K H1 v2 d2 → D.nx ((σ.set i (some v1)).set j (some v2)) H1) : tAsg te (gTup K 2 (gCons (gName i) (gCons (gName j) gNil))) D σ H :=
  h H (Ex.refl H) _ fun v H1 e hv => by
    cases hv with
    | @tup p xs _ hp hx =>
      cases hx with
      | cons a hx =>
        cases hx with
        | cons b hx =>
          cases hx
          exact ⟨p, _, rfl, hp, rfl, _, _, rfl, _, _, rfl, rfl, k _ _ H1 e a b⟩
theorem s_un2i {i j : Nat} {a b : Int} (h : EvD K te σ H (.tuple [.int a, .int b])) (k : ∀ H1, Ex H H1 → D.nx ((σ.set i (some (.int a))).set j (some (.int b))) H1) : tAsg te (gTup K 2 (gCons (gName i) (gCons (gName j) gNil))) D σ H :=
  s_un2 h fun v1 v2 H1 e h1 h2 => by cases h1; cases h2; exact k H1 e
theorem q_un2 {i j : Nat} {d1 d2 : PyData} (h : EvD K te σ H (.tuple [d1, d2])) (k : ∀ v1 v2 H1, Ex H H1 → DV K H1 v1 d1 → DV K H1 v2 d2 → tz D ((σ.set i (some v1)).set j (some v2)) H1) : tSeq (tAsg te (gTup K 2 (gCons (gName i) (gCons (gName j) gNil)))) tz D σ H :=
  s_un2 (D := { D with nx := tz D }) h k
theorem q_un2i {i j : Nat} {a b : Int} (h : EvD K te σ H (.tuple [.int a, .int b])) (k : ∀ H1, Ex H H1 → tz D ((σ.set i (some (.int a))).set j (some (.int b))) H1) : tSeq (tAsg te (gTup K 2 (gCons (gName i) (gCons (gName j) gNil)))) tz D σ H :=
  s_un2i (D := { D with nx := tz D }) h k
theorem s_un3i {i j l : Nat} {a b c : Int} (h : EvD K te σ H (.tuple [.int a, .int b, .int c])) (k : ∀ H1, Ex H H1 → D.nx (((σ.set i (some (.int a))).set j (some (.int b))).set l (some (.int c))) H1) :
    tAsg te (gTup K 3 (gCons (gName i) (gCons (gName j) (gCons (gName l) gNil)))) D σ H :=
  h H (Ex.refl H) _ fun v H1 e hv => by
    cases hv with
    | @tup p xs _ hp hx =>
      cases hx with
      | cons a hx =>
        cases hx with
        | cons b hx =>
          cases hx with
          | cons c hx =>
            cases hx; cases a; cases b; cases c
            exact ⟨p, _, rfl, hp, rfl, _, _, rfl, _, _, rfl, _, _, rfl, rfl, k H1 e⟩
theorem q_un3i {i j l : Nat} {a b c : Int} (h : EvD K te σ H (.tuple [.int a, .int b, .int c])) (k : ∀ H1, Ex H H1 → tz D (((σ.set i (some (.int a))).set j (some (.int b))).set l (some (.int c))) H1) :
    tSeq (tAsg te (gTup K 3 (gCons (gName i) (gCons (gName j) (gCons (gName l) gNil))))) tz D σ H := s_un3i (D := { D with nx := tz D }) h k
/-- a, b = x, y -/
theorem s_par {i j : Nat} (h : EvA tA σ H [v, z]) (k : ∀ H1, Ex H H1 → D.nx ((σ.set i (some v)).set j (some z)) H1) : tPar i j tA D σ H := h H (Ex.refl H) _ fun H1 e => ⟨v, z, rfl, k H1 e⟩
theorem q_par {i j : Nat} (h : EvA tA σ H [v, z]) (k : ∀ H1, Ex H H1 → tz D ((σ.set i (some v)).set j (some z)) H1) : tSeq (tPar i j tA) tz D σ H := s_par (D := { D with nx := tz D }) h k
theorem s_parD {i j : Nat} {d1 d2 : PyData} (h : EvDA K tA σ H [d1, d2]) (k : ∀ v1 v2 H1, Ex H H1 → DV K H1 v1 d1 → DV K H1 v2 d2 → D.nx ((σ.set i (some v1)).set j (some v2)) H1) : tPar i j tA D σ H := h H (Ex.refl H) _ fun vs H1 e hv => by
  cases hv with
  | cons a hv =>
    cases hv with
    | cons b hv =>
      cases hv
      exact ⟨_, _, rfl, k _ _ H1 e a b⟩
theorem q_parD {i j : Nat} {d1 d2 : PyData} (h : EvDA K tA σ H [d1, d2]) (k : ∀ v1 v2 H1, Ex H H1 → DV K H1 v1 d1 → DV K H1 v2 d2 → tz D ((σ.set i (some v1)).set j (some v2)) H1) : tSeq (tPar i j tA) tz D σ H := s_parD (D := { D with nx := tz D }) h k
/-- x op= e, ints under a condition -/
theorem s_augI {i : Nat} {C : Int → Int → Prop} {f : Int → Int → V} {a b : Int} (hx : σ[i]? = some (some (.int a))) (h : Ev te σ H (.int b)) (hc : C a b) (k : ∀ H1, Ex H H1 → D.nx (σ.set i (some (f a b))) H1) : tAug i te (rI C f) D σ H :=
  ⟨.int a, hx, h H (Ex.refl H) _ fun H1 e => ⟨a, b, rfl, rfl, hc, k H1 e⟩⟩
theorem q_augI {i : Nat} {C : Int → Int → Prop} {f : Int → Int → V} {a b : Int} (hx : σ[i]? = some (some (.int a))) (h : Ev te σ H (.int b)) (hc : C a b) (k : ∀ H1, Ex H H1 → tz D (σ.set i (some (f a b))) H1) : tSeq (tAug i te (rI C f)) tz D σ H :=
  s_augI (D := { D with nx := tz D }) hx h hc k
/-- a test known to be false: an if is passed by; known true -/
theorem q_pass (h : EvT t σ H false) (k : ∀ H1, Ex H H1 → tz D σ H1) : tSeq (tIfS t tu tNext) tz D σ H := q_when h (fun z => Bool.noConfusion z) fun _ H1 e => k H1 e
theorem s_yes (h : EvT t σ H true) (k : ∀ H1, Ex H H1 → tu D σ H1) : tIfS t tu tw D σ H := s_if h (fun _ H1 e => k H1 e) fun z => Bool.noConfusion z
theorem s_no (h : EvT t σ H false) (k : ∀ H1, Ex H H1 → tw D σ H1) : tIfS t tu tw D σ H := s_if h (fun z => Bool.noConfusion z) fun _ H1 e => k H1 e
theorem q_taken (h : EvT t σ H true) (k : ∀ H1, Ex H H1 → tu { D with nx := tz D } σ H1) : tSeq (tIfS t tu tw) tz D σ H := q_if h (fun _ H1 e => k H1 e) fun z => Bool.noConfusion z
end

/-! ### arguments -/
section
variable {K : PySem.W.Frag} {H : Hp} {vs : List V} {d d1 d2 : PyData} {i j k l : Int}
theorem dvs1 (h : DVs K H vs [d]) : ∃ v, vs = [v] ∧ DV K H v d := by
  cases h with
  | cons a h => cases h; exact ⟨_, rfl, a⟩
theorem dvs2 (h : DVs K H vs [d1, d2]) : ∃ v w, vs = [v, w] ∧ DV K H v d1 ∧ DV K H w d2 := by
  cases h with
  | cons a h =>
    obtain ⟨w, rfl, b⟩ := dvs1 h
    exact ⟨_, w, rfl, a, b⟩
theorem dvi {v : V} (h : DV K H v (.int i)) : v = .int i := by cases h; rfl
theorem dvs1i (h : DVs K H vs [.int i]) : vs = [.int i] := by
  obtain ⟨v, rfl, a⟩ := dvs1 h
  rw [dvi a]
theorem dvs2i (h : DVs K H vs [.int i, .int j]) : vs = [.int i, .int j] := by
  cases h with
  | cons a h => rw [dvi a, dvs1i h]
theorem dvs3i (h : DVs K H vs [.int i, .int j, .int k]) : vs = [.int i, .int j, .int k] := by
  cases h with
  | cons a h => rw [dvi a, dvs2i h]
theorem dvs4i (h : DVs K H vs [.int i, .int j, .int k, .int l]) : vs = [.int i, .int j, .int k, .int l] := by
  cases h with
  | cons a h => rw [dvi a, dvs3i h]
end

/-! ### loops -/
section
variable {K : PySem.W.Frag} {σ : L2.St} {H H' : Hp} {te : TE} {tA : TA} {D : Ends} {tu tz : TS}
theorem s_forR3 {j : Nat} {lo hi c : Int} {n : Nat} (h : EvA tA σ H [.int lo, .int hi, .int c]) (hc : RgC lo hi c n) (Pv : Nat → L2.St → Hp → Prop) (h0 : ∀ H1, Ex H H1 → Pv 0 σ H1)
    (hs : ∀ (i : Nat) σ' H', i < n → Pv i σ' H' → tu { D with nx := Pv (i + 1), ct := Pv (i + 1), bk := D.nx } (σ'.set j (some (.int (lo + (i : Int) * c)))) H') (hd : ∀ σ' H', Pv n σ' H' → D.nx σ' H') : tFor (iRng3 tA) (gName j) tu D σ H :=
  h H (Ex.refl H) _ fun H1 e => ⟨lo, hi, c, n, rfl, hc, for_rangeC (lo := lo) (c := c) (n := n) Pv (h0 H1 e) (fun i σ' H' hi p => hs i σ' H' hi p) hd⟩
theorem q_forR3 {j : Nat} {lo hi c : Int} {n : Nat} (h : EvA tA σ H [.int lo, .int hi, .int c]) (hc : RgC lo hi c n) (Pv : Nat → L2.St → Hp → Prop) (h0 : ∀ H1, Ex H H1 → Pv 0 σ H1)
    (hs : ∀ (i : Nat) σ' H', i < n → Pv i σ' H' → tu { D with nx := Pv (i + 1), ct := Pv (i + 1), bk := tz D } (σ'.set j (some (.int (lo + (i : Int) * c)))) H') (hd : ∀ σ' H', Pv n σ' H' → tz D σ' H') : tSeq (tFor (iRng3 tA) (gName j) tu) tz D σ H :=
  s_forR3 (D := { D with nx := tz D }) h hc Pv h0 hs hd
/-- over a list of pairs of ints that stands still: for a, b in xs -/
theorem s_forP {i j k0 : Nat} {v : V} {xs : List (Int × Int)} (hv : σ[k0]? = some (some v)) (hx : DV K H v (.list (xs.map fun x => .tuple [.int x.1, .int x.2]))) (Pv : Nat → L2.St → Hp → Prop) (h0 : Pv 0 σ H) (hE : ∀ k σ' H', Pv k σ' H' → Ex H H')
    (hs : ∀ k a b σ' H', xs[k]? = some (a, b) → Pv k σ' H' → tu { D with nx := Pv (k + 1), ct := Pv (k + 1), bk := D.nx } ((σ'.set i (some (.int a))).set j (some (.int b))) H') (hd : ∀ σ' H', Pv xs.length σ' H' → D.nx σ' H') :
    tFor (iList K (tVar k0)) (gTup K 2 (gCons (gName i) (gCons (gName j) gNil))) tu D σ H := by
  cases hx with
  | @lst a vs _ hp hx =>
    have hlen : vs.length = xs.length := by rw [hx.len, List.length_map]
    refine ⟨_, hv, a, rfl, ⟨vs, hp⟩, for_list (xs := vs) Pv h0 (fun k σ' H' _ p => ex_l (hE k σ' H' p) hp) (fun k x σ' H' hk p => ?_) (by rw [hlen]; exact hd)⟩
    obtain ⟨d, h1, h2⟩ := hx.get hk
    rw [List.getElem?_map] at h1
    cases hxs : xs[k]? with
    | none => rw [hxs] at h1; cases h1
    | some ab =>
      rw [hxs] at h1
      obtain ⟨a', b'⟩ := ab
      cases Option.some.inj h1
      have h3 := h2.ex (hE k σ' H' p)
      cases h3 with
      | @tup q ys _ hq hy =>
        cases dvs2i hy
        exact ⟨q, _, rfl, hq, rfl, _, _, rfl, _, _, rfl, rfl, hs k a' b' σ' H' hxs p⟩
theorem q_forP {i j k0 : Nat} {v : V} {xs : List (Int × Int)} (hv : σ[k0]? = some (some v)) (hx : DV K H v (.list (xs.map fun x => .tuple [.int x.1, .int x.2]))) (Pv : Nat → L2.St → Hp → Prop) (h0 : Pv 0 σ H) (hE : ∀ k σ' H', Pv k σ' H' → Ex H H')
    (hs : ∀ k a b σ' H', xs[k]? = some (a, b) → Pv k σ' H' → tu { D with nx := Pv (k + 1), ct := Pv (k + 1), bk := tz D } ((σ'.set i (some (.int a))).set j (some (.int b))) H') (hd : ∀ σ' H', Pv xs.length σ' H' → tz D σ' H') :
    tSeq (tFor (iList K (tVar k0)) (gTup K 2 (gCons (gName i) (gCons (gName j) gNil))) tu) tz D σ H := s_forP (D := { D with nx := tz D }) hv hx Pv h0 hE hs hd
theorem el_rev {a : Addr} {xs : List V} (h : Ev te σ H (.ref a)) (hs : SqL K H a xs) : EvL (tRevL K te) σ H xs.reverse := fun H1 e _ q =>
  h H1 e _ fun H2 e2 => ⟨a, xs, rfl, ex_l (e.trans e2) hs, fun p hp => q p _ (fresh_back e2 hp) (e2.trans (Ex.new hp)) upd_same⟩
/-- a new tuple's data, a new list's -/
theorem sqT_upd {a l : Addr} {xs ys zs : List V} (hl : H l = some (.lst ys)) (h : SqT K H a xs) : SqT K (upd H l (.lst zs)) a xs := by
  rcases h with (h | ⟨o, h⟩) | h
  · exact .inl (.inl (by rw [upd_ne (ne_of h hl (by intro z; cases z))]; exact h))
  · exact .inl (.inr ⟨o, by rw [upd_ne (ne_of h hl (by intro z; cases z))]; exact h⟩)
  · exact .inr h
theorem dv_ints (h : ∀ a xs, SqT K H a xs → SqT K H' a xs) {is : List Int} {v : V} (hv : DV K H v (.tuple (is.map .int))) : DV K H' v (.tuple (is.map .int)) := by
  cases hv with
  | tup hp hx =>
    refine .tup (h _ _ hp) ?_
    have key : ∀ (is : List Int) (vs : List V), DVs K H vs (is.map .int) → DVs K H' vs (is.map .int) := by
      intro is
      induction is with
      | nil => intro vs h; cases h; exact .nil
      | cons i is ih =>
        intro vs h
        cases h with
        | cons a b => cases a; exact .cons (.int i) (ih _ b)
    exact key _ _ hx
/-- items that are tuples of ints outlive a list's change -/
theorem dvs_ints {α : Type} {f : α → List Int} (h : ∀ a xs, SqT K H a xs → SqT K H' a xs) : ∀ {xs : List α} {vs : List V}, DVs K H vs (xs.map fun x => .tuple ((f x).map .int)) → DVs K H' vs (xs.map fun x => .tuple ((f x).map .int))
  | [], _, hv => by cases hv; exact .nil
  | x :: xs, _, hv => by
    cases hv with
    | cons a b => exact .cons (dv_ints h a) (dvs_ints h b)
end

/-! ### isinstance of data -/
def isInt : PyData → Bool
  | .bool _ => true
  | .int _ => true
  | _ => false
theorem kit_int : ∀ d : PyData, kitB (tyN d) "int" = some (isInt d)
  | .none => (by decide +kernel : kitB "NoneType" "int" = some false)
  | .bool _ => (by decide +kernel : kitB "bool" "int" = some true)
  | .int _ => (by decide +kernel : kitB "int" "int" = some true)
  | .str _ => (by decide +kernel : kitB "str" "int" = some false)
  | .list _ => (by decide +kernel : kitB "list" "int" = some false)
  | .tuple _ => (by decide +kernel : kitB "tuple" "int" = some false)
  | .dict _ => (by decide +kernel : kitB "dict" "int" = some false)
def isBool : PyData → Bool
  | .bool _ => true
  | _ => false
theorem kit_bool : ∀ d : PyData, kitB (tyN d) "bool" = some (isBool d)
  | .none => (by decide +kernel : kitB "NoneType" "bool" = some false)
  | .bool _ => (by decide +kernel : kitB "bool" "bool" = some true)
  | .int _ => (by decide +kernel : kitB "int" "bool" = some false)
  | .str _ => (by decide +kernel : kitB "str" "bool" = some false)
  | .list _ => (by decide +kernel : kitB "list" "bool" = some false)
  | .tuple _ => (by decide +kernel : kitB "tuple" "bool" = some false)
  | .dict _ => (by decide +kernel : kitB "dict" "bool" = some false)
def isTuple : PyData → Bool
  | .tuple _ => true
  | _ => false
theorem kit_tuple : ∀ d : PyData, kitB (tyN d) "tuple" = some (isTuple d)
  | .none => (by decide +kernel : kitB "NoneType" "tuple" = some false)
  | .bool _ => (by decide +kernel : kitB "bool" "tuple" = some false)
  | .int _ => (by decide +kernel : kitB "int" "tuple" = some false)
  | .str _ => (by decide +kernel : kitB "str" "tuple" = some false)
  | .list _ => (by decide +kernel : kitB "list" "tuple" = some false)
  | .tuple _ => (by decide +kernel : kitB "tuple" "tuple" = some true)
  | .dict _ => (by decide +kernel : kitB "dict" "tuple" = some false)
def isList : PyData → Bool
  | .list _ => true
  | _ => false
theorem kit_list : ∀ d : PyData, kitB (tyN d) "list" = some (isList d)
  | .none => (by decide +kernel : kitB "NoneType" "list" = some false)
  | .bool _ => (by decide +kernel : kitB "bool" "list" = some false)
  | .int _ => (by decide +kernel : kitB "int" "list" = some false)
  | .str _ => (by decide +kernel : kitB "str" "list" = some false)
  | .list _ => (by decide +kernel : kitB "list" "list" = some true)
  | .tuple _ => (by decide +kernel : kitB "tuple" "list" = some false)
  | .dict _ => (by decide +kernel : kitB "dict" "list" = some false)
theorem isTuple_yes : ∀ {d : PyData}, isTuple d = true → ∃ xs, d = .tuple xs
  | .tuple xs, _ => ⟨xs, rfl⟩
theorem isList_yes : ∀ {d : PyData}, isList d = true → ∃ xs, d = .list xs
  | .list xs, _ => ⟨xs, rfl⟩
theorem rv_eqI {H : Hp} {i j : Int} : RV rEq (.int i) (.int j) H (.bl (decide (i = j))) := fun H1 _ Q q => ⟨rfl, by
  have e : decide (V.int i = V.int j) = decide (i = j) := by
    by_cases h : i = j
    · subst h; simp
    · rw [decide_eq_false h]; exact decide_eq_false fun z => h (V.int.inj z)
  show Q (.bl (decide (V.int i = V.int j))) H1
  rw [e]
  exact q H1 (Ex.refl H1)⟩
theorem rv_neI {H : Hp} {i j : Int} : RV rNe (.int i) (.int j) H (.bl (!decide (i = j))) := fun H1 _ Q q => ⟨rfl, by
  have e : decide (V.int i = V.int j) = decide (i = j) := by
    by_cases h : i = j
    · subst h; simp
    · rw [decide_eq_false h]; exact decide_eq_false fun z => h (V.int.inj z)
  show Q (.bl (!decide (V.int i = V.int j))) H1
  rw [e]
  exact q H1 (Ex.refl H1)⟩
def whole : PyData → Bool
  | .int _ => true
  | _ => false
theorem whole_eq : ∀ d : PyData, whole d = (isInt d && !isBool d)
  | .none => rfl | .bool _ => rfl | .int _ => rfl | .str _ => rfl | .list _ => rfl | .tuple _ => rfl | .dict _ => rfl
theorem spF_len {K : PySem.W.Frag} {R : List PyData → PyData → Prop} {n : Nat} (h : ∀ ds d, R ds d → ds.length = n) : ∀ vs H Q E, spF K R vs H Q E → vs.length = n := fun vs H Q E q => by
  obtain ⟨ds, d, a, b, _⟩ := q
  rw [a.len]
  exact h _ _ b
theorem spL_len {K : PySem.W.Frag} {R : List PyData → List PyData → Prop} {n : Nat} (h : ∀ ds es, R ds es → ds.length = n) : ∀ vs H Q E, spL K R vs H Q E → vs.length = n := fun vs H Q E q => by
  obtain ⟨ds, d, a, b, _⟩ := q
  rw [a.len]
  exact h _ _ b

/-! ### numbers, pairs, rows as data -/
section
theorem shaped_ints (is : List Int) : SeqAt.shaped (.tuple (is.map .int)) = true := by
  have h : ∀ is : List Int, PyData.canLayAll0 (is.map .int) = true ∧ PyData.depthAll (is.map .int) = 0 := by
    intro is
    induction is with
    | nil => exact ⟨rfl, rfl⟩
    | cons i is ih => rw [List.map_cons]; simp [PyData.canLayAll0, PyData.canLay0, PyData.depthAll, PyData.depth, ih.1, ih.2]
  unfold SeqAt.shaped
  simp [PyData.canLay0, PyData.depth, (h is).1, (h is).2]
theorem eqv_ints : ∀ is js : List Int, PyData.eqvAll (is.map .int) (js.map .int) = decide (is = js)
  | [], [] => by simp [PyData.eqvAll]
  | [], _ :: _ => by simp [PyData.eqvAll]
  | _ :: _, [] => by simp [PyData.eqvAll]
  | i :: is, j :: js => by
    rw [List.map_cons, List.map_cons]
    simp only [PyData.eqvAll, PyData.eqv, eqv_ints is js]
    by_cases h1 : i = j
    · by_cases h2 : is = js
      · simp [h1, h2]
      · simp [h1, h2]
    · simp [h1]
end
end Sq

namespace Sq
open PySem PySem.Spec PyProof.Rows L2 Evl
/-! ### data -/
def pd (p : P2) : PyData := .tuple [.int p.1, .int p.2]
def td (p : P2) : PyData := .tuple [.int (p.1 * p.1 - p.2 * p.2), .int (2 * p.1 * p.2), .int (p.1 * p.1 + p.2 * p.2)]
def sd (x : Int × Nat) : PyData := .tuple [.int x.1, .int x.2]
def rd (r : Row) : PyData := .list (r.map sd)
/-! ### sizes -/
def Sm (b : Nat) (x : Int) : Prop := x.natAbs < 2 ^ b
theorem Sm.up {a b : Nat} {x : Int} (h : Sm a x) (hab : a ≤ b) : Sm b x := Nat.lt_of_lt_of_le h (Nat.pow_le_pow_right (by decide) hab)
theorem Sm.mul {a b : Nat} {x y : Int} (h : Sm a x) (h' : Sm b y) : Sm (a + b) (x * y) := by
  show (x * y).natAbs < 2 ^ (a + b)
  rw [Int.natAbs_mul, Nat.pow_add]
  exact Nat.mul_lt_mul'' h h'
theorem Sm.add {a : Nat} {x y : Int} (h : Sm a x) (h' : Sm a y) : Sm (a + 1) (x + y) := by
  have h : x.natAbs < 2 ^ a := h
  have h' : y.natAbs < 2 ^ a := h'
  show (x + y).natAbs < 2 ^ (a + 1)
  rw [Nat.pow_succ]
  omega
theorem Sm.sub {a : Nat} {x y : Int} (h : Sm a x) (h' : Sm a y) : Sm (a + 1) (x - y) := by
  have h : x.natAbs < 2 ^ a := h
  have h' : y.natAbs < 2 ^ a := h'
  show (x - y).natAbs < 2 ^ (a + 1)
  rw [Nat.pow_succ]
  omega
theorem Sm.le {a : Nat} {x y : Int} (h : Sm a y) (h0 : 0 ≤ x) (h1 : x ≤ y) : Sm a x := by
  have h : y.natAbs < 2 ^ a := h
  show x.natAbs < 2 ^ a
  omega
theorem Sm.cm {a b : Nat} {x y : Int} (h : Sm a x) (h' : Sm b y) (hab : a + b ≤ 134217728) : CMulX x y := mulx_ok h h' hab
theorem sm_nat {b n : Nat} (h : n < 2 ^ b) : Sm b (n : Int) := by
  show (n : Int).natAbs < 2 ^ b
  omega
theorem sm2 : Sm 2 2 := show (2 : Int).natAbs < 2 ^ 2 by decide
theorem sm3 : Sm 2 3 := show (3 : Int).natAbs < 2 ^ 2 by decide
theorem sm1 : Sm 5000 ((1 : Nat) : Int) := Sm.up (show ((1 : Nat) : Int).natAbs < 2 ^ 2 by decide) (by decide)
theorem sm_log {b : Nat} {x : Int} (h : Sm b x) (hb : 0 < b) : x.toNat.log2 < b := by
  by_cases h0 : x.toNat = 0
  · rw [h0, Nat.log2_zero]; exact hb
  · refine (Nat.log2_lt h0).mpr ?_
    have h : x.natAbs < 2 ^ b := h
    omega
theorem pell_sm {t : Nat} (h : t ≤ 3000) : Sm 6001 (pell t).1 ∧ Sm 6001 (pell t).2 := by
  obtain ⟨h1, h2, h3⟩ := pell_pos t
  have h4 : (3 : Int) ^ t ≤ 2 ^ 6000 := by
    have e1 : (3 : Nat) ^ t ≤ 4 ^ t := Nat.pow_le_pow_left (by decide) t
    have e2 : (4 : Nat) ^ t = 2 ^ (2 * t) := by rw [Nat.pow_mul]
    have e3 : (2 : Nat) ^ (2 * t) ≤ 2 ^ 6000 := Nat.pow_le_pow_right (by decide) (by omega)
    have e4 : (3 : Nat) ^ t ≤ 2 ^ 6000 := by omega
    exact_mod_cast e4
  have h5 : (2 : Int) ^ 6001 = 2 * 2 ^ 6000 := by rw [Int.pow_succ]; omega
  have hp : (0 : Int) < 2 ^ 6000 := Int.pow_pos (by decide)
  have key : ∀ x : Int, 0 ≤ x → x ≤ 2 ^ 6000 → Sm 6001 x := fun x a b => by
    have c : ((x.natAbs : Nat) : Int) < ((2 ^ 6001 : Nat) : Int) := by
      rw [Int.natAbs_of_nonneg a]
      have : ((2 ^ 6001 : Nat) : Int) = (2 : Int) ^ 6001 := by exact_mod_cast rfl
      rw [this, h5]
      omega
    exact Int.ofNat_lt.mp c
  exact ⟨key _ h1 (by omega), key _ (by omega) (by omega)⟩
theorem bits_lt (t : Nat) : t < 2 ^ Builtin.Int.intBits (t : Int) := by
  unfold Builtin.Int.intBits
  by_cases h : t = 0
  · subst h; decide
  · rw [if_neg (by simpa using h), Int.natAbs_natCast]
    exact Nat.lt_log2_self
/-! ### roots -/
theorem isqrt_sq' (m : Nat) : Float64.isqrt (m * m) = m := by
  obtain ⟨h1, h2⟩ := PySem.Float64.isqrt_spec (m * m)
  refine Nat.le_antisymm ?_ ?_
  · exact Nat.le_of_not_lt fun h => by
      have : (m + 1) * (m + 1) ≤ Float64.isqrt (m * m) * Float64.isqrt (m * m) := Nat.mul_le_mul h h
      have e : (m + 1) * (m + 1) = m * m + 2 * m + 1 := by grind
      omega
  · exact Nat.le_of_not_lt fun h => by
      have : (Float64.isqrt (m * m) + 1) * (Float64.isqrt (m * m) + 1) ≤ m * m := Nat.mul_le_mul h h
      omega
theorem isqrt_int {m : Int} (h : 0 ≤ m) : ((Float64.isqrt (m * m).toNat : Nat) : Int) = m := by
  obtain ⟨k, rfl⟩ := Int.eq_ofNat_of_zero_le h
  rw [show ((k : Int) * (k : Int)).toNat = k * k by rw [← Int.natCast_mul, Int.toNat_natCast], isqrt_sq']
/-! ### what compares -/
theorem eqv_pd (p q : P2) : PyData.eqv (pd p) (pd q) = decide (p = q) := by
  show PyData.eqvAll ([p.1, p.2].map .int) ([q.1, q.2].map .int) = _
  rw [eqv_ints]
  obtain ⟨a, b⟩ := p
  obtain ⟨c, d⟩ := q
  simp
theorem shaped_pd (p : P2) : SeqAt.shaped (pd p) = true := shaped_ints [p.1, p.2]
theorem shaped_td (p : P2) : SeqAt.shaped (td p) = true := shaped_ints [_, _, _]
theorem td_inj {p q : P2} (hp : Ok2 p) (hq : Ok2 q) (h1 : p.1 * p.1 - p.2 * p.2 = q.1 * q.1 - q.2 * q.2) (h3 : p.1 * p.1 + p.2 * p.2 = q.1 * q.1 + q.2 * q.2) : p = q := by
  obtain ⟨m, n⟩ := p
  obtain ⟨a, b⟩ := q
  obtain ⟨x1, x2⟩ := hp
  obtain ⟨y1, y2⟩ := hq
  have x1 : 0 < n := x1
  have x2 : n < m := x2
  have y1 : 0 < b := y1
  have y2 : b < a := y2
  have h1 : m * m - n * n = a * a - b * b := h1
  have h3 : m * m + n * n = a * a + b * b := h3
  have e1 : m * m = a * a := by omega
  have e2 : n * n = b * b := by omega
  have key : ∀ x y : Int, 0 < x → 0 < y → x * x = y * y → x = y := fun x y hx hy h => by
    have q : (x - y) * (x + y) = 0 := by
      have : (x - y) * (x + y) = x * x - y * y := by grind
      omega
    rcases Int.mul_eq_zero.mp q with z | z <;> omega
  rw [key m a (by omega) (by omega) e1, key n b x1 y1 e2]
theorem eqv_td {p q : P2} (hp : Ok2 p) (hq : Ok2 q) : PyData.eqv (td p) (td q) = decide (p = q) := by
  show PyData.eqvAll ([p.1 * p.1 - p.2 * p.2, 2 * p.1 * p.2, p.1 * p.1 + p.2 * p.2].map .int) ([q.1 * q.1 - q.2 * q.2, 2 * q.1 * q.2, q.1 * q.1 + q.2 * q.2].map .int) = _
  rw [eqv_ints]
  by_cases h : p = q
  · subst h; simp
  · rw [decide_eq_false h]
    refine decide_eq_false fun z => h ?_
    injection z with z1 z
    injection z with z2 z
    injection z with z3 _
    exact td_inj hp hq z1 z3
theorem eqv_sds : ∀ a b : Row, PyData.eqvAll (a.map sd) (b.map sd) = decide (a = b)
  | [], [] => by simp [PyData.eqvAll]
  | [], _ :: _ => by simp [PyData.eqvAll]
  | _ :: _, [] => by simp [PyData.eqvAll]
  | (s, t) :: a, (s', t') :: b => by
    rw [List.map_cons, List.map_cons]
    have e : PyData.eqv (sd (s, t)) (sd (s', t')) = decide ((s, t) = (s', t')) := by
      show PyData.eqvAll ([s, (t : Int)].map .int) ([s', (t' : Int)].map .int) = _
      rw [eqv_ints]
      by_cases h : s = s' ∧ t = t'
      · obtain ⟨rfl, rfl⟩ := h; simp
      · rw [decide_eq_false, decide_eq_false]
        · intro z; cases z; exact h ⟨rfl, rfl⟩
        · intro z
          injection z with z1 z
          injection z with z2 _
          exact h ⟨z1, by omega⟩
    simp only [PyData.eqvAll, e, eqv_sds a b]
    by_cases h1 : (s, t) = (s', t')
    · by_cases h2 : a = b
      · simp [h1, h2]
      · simp [h1, h2]
    · rw [decide_eq_false h1, Bool.false_and]
      refine (decide_eq_false fun z => ?_).symm
      injection z with z1 _
      exact h1 z1
theorem eqv_rd (a b : Row) : PyData.eqv (rd a) (rd b) = decide (a = b) := eqv_sds a b
theorem shaped_rd (a : Row) : SeqAt.shaped (rd a) = true := by
  have h : ∀ a : Row, PyData.canLayAll0 (a.map sd) = true ∧ PyData.depthAll (a.map sd) ≤ 1 := by
    intro a
    induction a with
    | nil => exact ⟨rfl, Nat.zero_le _⟩
    | cons x a ih =>
      rw [List.map_cons]
      simp only [PyData.canLayAll0, PyData.depthAll, sd, PyData.canLay0, PyData.depth]
      refine ⟨by simpa using ih.1, ?_⟩
      have := ih.2
      omega
  have h1 := (h a).1
  have h2 := (h a).2
  unfold SeqAt.shaped rd
  simp only [PyData.canLay0, PyData.depth, h1, Bool.true_and, decide_eq_true_eq]
  exact decide_eq_true (by omega)

/-! ### the program's answers on data -/
def areWhole (x : PyData) (n : Int) : Bool := match x with
  | .tuple xs => decide ((xs.length : Int) = n) && xs.all whole
  | _ => false
def szT (x : PyData) : Prop := ∀ xs, x = .tuple xs → xs.length ≤ 40000
def isPairD : PyData → Bool
  | .tuple [.int m, .int n] => decide (0 < n) && decide (n < m) && (decide ((m - n) % 2 = 1) && decide (Int.gcd m n = 1))
  | _ => false
theorem areWhole2 {x : PyData} (h : areWhole x 2 = true) : ∃ m n, x = .tuple [.int m, .int n] := by
  unfold areWhole at h
  split at h
  · rename_i xs
    rw [Bool.and_eq_true] at h
    obtain ⟨h1, h2⟩ := h
    have h1 := of_decide_eq_true h1
    match xs, h1, h2 with
    | [a, b], _, h2 =>
      simp only [List.all_cons, List.all_nil, Bool.and_true, Bool.and_eq_true] at h2
      obtain ⟨ha, hb⟩ := h2
      cases a <;> simp [whole] at ha
      cases b <;> simp [whole] at hb
      exact ⟨_, _, rfl⟩
    | [], h1, _ => simp at h1
    | [_], h1, _ => simp at h1
    | _ :: _ :: _ :: _, h1, _ => simp at h1; omega
  · cases h
theorem areWhole3 {x : PyData} (h : areWhole x 3 = true) : ∃ a b c, x = .tuple [.int a, .int b, .int c] := by
  unfold areWhole at h
  split at h
  · rename_i xs
    rw [Bool.and_eq_true] at h
    obtain ⟨h1, h2⟩ := h
    have h1 := of_decide_eq_true h1
    match xs, h1, h2 with
    | [a, b, c], _, h2 =>
      simp only [List.all_cons, List.all_nil, Bool.and_true, Bool.and_eq_true] at h2
      obtain ⟨ha, hb, hc⟩ := h2
      cases a <;> simp [whole] at ha
      cases b <;> simp [whole] at hb
      cases c <;> simp [whole] at hc
      exact ⟨_, _, _, rfl⟩
    | [], h1, _ => simp at h1
    | [_], h1, _ => simp at h1
    | [_, _], h1, _ => simp at h1
    | _ :: _ :: _ :: _ :: _, h1, _ => simp at h1; omega
  · cases h
theorem isPairD_no {x : PyData} (h : areWhole x 2 = false) : isPairD x = false := by
  unfold isPairD
  split
  · simp [areWhole, whole] at h
  · rfl
theorem isPairD_pd (p : P2) : isPairD (pd p) = decide (IsPair p) := by
  obtain ⟨m, n⟩ := p
  unfold pd isPairD IsPair
  by_cases h1 : 0 < n <;> by_cases h2 : n < m <;> by_cases h3 : (m - n) % 2 = 1 <;> by_cases h4 : m.gcd n = 1 <;> simp [h1, h2, h3, h4]
def isStepD : PyData → Bool
  | .int s => decide (0 ≤ s) && decide (s ≤ 2)
  | _ => false
def isPartD : PyData → Bool
  | .tuple [.int s, .int t] => decide (0 ≤ s) && decide (s ≤ 2) && (decide (0 < t) && (!decide (s = 1) || decide (t ≤ 1000)))
  | _ => false
theorem isPartD_no {x : PyData} (h : areWhole x 2 = false) : isPartD x = false := by
  unfold isPartD
  split
  · simp [areWhole, whole] at h
  · rfl
theorem isPartD_yes {x : PyData} (h : isPartD x = true) : ∃ s t : Int, x = .tuple [.int s, .int t] ∧ 0 ≤ s ∧ s ≤ 2 := by
  unfold isPartD at h
  split at h
  · rename_i s t
    simp only [Bool.and_eq_true, decide_eq_true_eq] at h
    exact ⟨s, t, rfl, h.1.1, h.1.2⟩
  · cases h
def firstD : PyData → Int
  | .tuple (.int s :: _) => s
  | _ => 0
def isRowD : PyData → Bool
  | .list xs => decide ((xs.length : Int) ≤ 200) && (xs.all isPartD && (List.range (xs.length - 1)).all fun i => !decide (firstD (xs.getD i .none) = firstD (xs.getD (i + 1) .none)))
  | _ => false
def szL (x : PyData) : Prop := (∀ xs, x = .list xs → xs.length ≤ 40000 ∧ ∀ y ∈ xs, szT y)
theorem dv_root {K : PySem.W.Frag} {H : Hp} {a : Addr} (h : SqT K H a [.int 2, .int 1]) : DV K H (.ref a) (pd root) := .tup h (.cons (.int 2) (.cons (.int 1) .nil))
/-! ### relations -/
abbrev Rel := List PyData → PyData → Prop
abbrev RelL := List PyData → List PyData → Prop
def R_is_whole : Rel := fun ds d => ∃ x, ds = [x] ∧ d = .bool (whole x)
def R_are_whole : Rel := fun ds d => ∃ x n, ds = [x, .int n] ∧ szT x ∧ d = .bool (areWhole x n)
def R_is_pair : Rel := fun ds d => ∃ x, ds = [x] ∧ szT x ∧ d = .bool (isPairD x)
def R_formed : Rel := fun ds d => ∃ m n : Int, ds = [.int m, .int n] ∧ Sm 95000 m ∧ Sm 95000 n ∧ d = td (m, n)
def R_pair_of : Rel := fun ds d => ∃ p, ds = [td p] ∧ IsPair p ∧ Sm 90000 p.1 ∧ d = pd p
def R_triple_of : Rel := fun ds d => ∃ p, ds = [pd p] ∧ IsPair p ∧ Sm 90000 p.1 ∧ d = td p
def Step (s : Int) : Prop := s = 0 ∨ s = 1 ∨ s = 2
def R_stepped : Rel := fun ds d => ∃ p s, ds = [td p, .int s] ∧ IsPair p ∧ Sm 89000 p.1 ∧ Step s ∧ d = td (led p s 1)
def R_back : Rel := fun ds d => (ds = [td root] ∧ d = .none) ∨ ∃ p s, ds = [td (led p s 1)] ∧ IsPair p ∧ Step s ∧ Sm 90000 (led p s 1).1 ∧ d = .tuple [td p, .int s]
/-- a row that may be asked for -/
structure Fit (r : Row) : Prop where
  good : Good (-1) r
  len : r.length ≤ 200
  few : ∀ x ∈ r, x.2 < 2 ^ 3000
  sm : Sm 80000 (behind root r).1
def R_by_row : Rel := fun ds d => ∃ r, ds = [rd r] ∧ Fit r ∧ d = td (behind root r)
def R_row_of : RelL := fun ds es => ∃ r, ds = [td (behind root r)] ∧ Fit r ∧ es = r.map sd
def R__is_step : Rel := fun ds d => ∃ x, ds = [x] ∧ d = .bool (isStepD x)
def R__is_part : Rel := fun ds d => ∃ x, ds = [x] ∧ szT x ∧ d = .bool (isPartD x)
def R__is_row : Rel := fun ds d => ∃ x, ds = [x] ∧ szL x ∧ d = .bool (isRowD x)
def R__led : Rel := fun ds d => ∃ (m n s : Int) (t : Nat), ds = [.int m, .int n, .int s, .int t] ∧ Step s ∧ (s = 1 → t ≤ 3000) ∧ Sm 95000 m ∧ Sm 95000 n ∧ Sm 5000 (t : Int) ∧ d = pd (led (m, n) s t)
def R__led_back : Rel := fun ds d => ∃ (m n s : Int) (t : Nat), ds = [.int m, .int n, .int s, .int t] ∧ Step s ∧ (s = 1 → t ≤ 3000) ∧ Sm 95000 m ∧ Sm 95000 n ∧ Sm 5000 (t : Int) ∧ d = pd (ledBack (m, n) s t)
def R__pell : Rel := fun ds d => ∃ t : Nat, ds = [.int t] ∧ t ≤ 3000 ∧ d = .tuple [.int ((pell t).2 - 2 * (pell t).1), .int (pell t).1, .int (pell t).2]
def R__last_step : Rel := fun ds d => ∃ m n : Int, ds = [.int m, .int n] ∧ Sm 95000 m ∧ Sm 95000 n ∧ d = .int (lastStep (m, n))
def R__last_times : Rel := fun ds d => ∃ (q : P2) (s : Int) (t : Nat), ds = [.int (led q s t).1, .int (led q s t).2, .int s] ∧ IsPair q ∧ Step s ∧ NotLast s q ∧ (s = 1 → t ≤ 1000) ∧ Sm 95000 (led q s t).1 ∧ d = .int t
def R__last_times_of_1 : Rel := fun ds d => ∃ (q : P2) (t : Nat), ds = [.int (iter one t q).1, .int (iter one t q).2] ∧ IsPair q ∧ NotLast 1 q ∧ t ≤ 1000 ∧ Sm 95000 (iter one t q).1 ∧ d = .int t

theorem led_sm {p : P2} (hp : IsPair p) {s : Int} (hs : Step s) {b : Nat} (h : Sm b p.1) : 0 < (led p s 1).2 ∧ (led p s 1).2 < (led p s 1).1 ∧ Sm (b + 2) (led p s 1).1 ∧ Sm (b + 2) (led p s 1).2 := by
  obtain ⟨g1, g2⟩ := led_ok (ok_of hp) s 1
  have h : p.1.natAbs < 2 ^ b := h
  obtain ⟨m, n⟩ := p
  obtain ⟨a1, a2⟩ := ok_of hp
  have a1 : 0 < n := a1
  have a2 : n < m := a2
  have h : m.natAbs < 2 ^ b := h
  have e : (led (m, n) s 1).1 ≤ 3 * m := by
    rcases hs with rfl | rfl | rfl
    · show m + (m - n) * ((1 : Nat) : Int) ≤ 3 * m; omega
    · show 2 * m + n ≤ 3 * m; omega
    · show m + 2 * n * ((1 : Nat) : Int) ≤ 3 * m; omega
  have e4 : 2 ^ (b + 2) = 4 * 2 ^ b := by rw [Nat.pow_add]; omega
  refine ⟨g1, g2, ?_, ?_⟩
  · show (led (m, n) s 1).1.natAbs < 2 ^ (b + 2)
    omega
  · show (led (m, n) s 1).2.natAbs < 2 ^ (b + 2)
    omega
theorem isPartD_sd {s : Int} {t : Nat} (hs : Step s) (ht : 0 < t) (h1 : s = 1 → t ≤ 1000) : isPartD (sd (s, t)) = true := by
  show (decide (0 ≤ s) && decide (s ≤ 2) && (decide (0 < (t : Int)) && (!decide (s = 1) || decide ((t : Int) ≤ 1000)))) = true
  rcases hs with rfl | rfl | rfl
  · rw [decide_eq_true (show 0 < (t : Int) by omega)]; rfl
  · rw [decide_eq_true (show 0 < (t : Int) by omega), decide_eq_true (show (t : Int) ≤ 1000 by have := h1 rfl; omega)]; rfl
  · rw [decide_eq_true (show 0 < (t : Int) by omega)]; rfl
theorem szT_sd (x : Int × Nat) : szT (sd x) := fun xs h => by cases h; exact (by decide : 2 ≤ 40000)
theorem szL_rd {r : Row} (h : r.length ≤ 40000) : szL (rd r) := fun xs e => by
  cases e
  refine ⟨by rw [List.length_map]; exact h, fun y hy => ?_⟩
  obtain ⟨x, _, rfl⟩ := List.mem_map.mp hy
  exact szT_sd x
theorem rd_getD (r : Row) {i : Nat} {s : Int} {t : Nat} (h : r[i]? = some (s, t)) : (r.map sd).getD i .none = sd (s, t) := by
  rw [List.getD, List.getElem?_map, h]; rfl
theorem isRowD_rd {l : Int} {r : Row} (g : Good l r) (h : r.length ≤ 200) : isRowD (rd r) = true := by
  show (decide (((r.map sd).length : Int) ≤ 200) && ((r.map sd).all isPartD && _)) = true
  rw [Bool.and_eq_true, Bool.and_eq_true]
  refine ⟨decide_eq_true (by rw [List.length_map]; omega), List.all_eq_true.mpr fun y hy => ?_, List.all_eq_true.mpr fun i hi => ?_⟩
  · obtain ⟨⟨s, t⟩, hx, rfl⟩ := List.mem_map.mp hy
    obtain ⟨j, hj⟩ := List.mem_iff_getElem?.mp hx
    obtain ⟨a1, a2, a3⟩ := g.at hj
    exact isPartD_sd a1 a2 a3
  · have hi := List.mem_range.mp hi
    rw [List.length_map] at hi
    have h1 : r[i]? = some r[i] := List.getElem?_eq_getElem (by omega)
    have h2 : r[i + 1]? = some r[i + 1] := List.getElem?_eq_getElem (by omega)
    generalize r[i] = a at h1
    generalize r[i + 1] = b at h2
    obtain ⟨s, t⟩ := a
    obtain ⟨s', t'⟩ := b
    rw [rd_getD r h1, rd_getD r h2]
    have := g.next h1 h2
    show (!decide (s = s')) = true
    rw [decide_eq_false fun z => this z.symm]
    rfl
end Sq

namespace Sq
open PySem PySem.Spec PyProof.Rows L2 Evl
/-! ### slices -/
theorem cut_to {α : Type} (xs : List α) (k : Nat) : (xs.drop (HT.sIx xs.length 0 none)).take (HT.sIx xs.length xs.length (some (k : Int)) - HT.sIx xs.length 0 none) = xs.take k := by
  rw [HT.sIx_none, HT.sIx_nat, Nat.sub_zero]
  show (xs.drop 0).take (min k xs.length) = _
  rw [List.drop_zero]
  by_cases h : k ≤ xs.length
  · rw [Nat.min_eq_left h]
  · rw [Nat.min_eq_right (by omega), List.take_length, List.take_of_length_le (by omega)]
theorem cut_from {α : Type} (xs : List α) (k : Nat) : (xs.drop (HT.sIx xs.length 0 (some (k : Int)))).take (HT.sIx xs.length xs.length none - HT.sIx xs.length 0 (some (k : Int))) = xs.drop k := by
  rw [HT.sIx_none, HT.sIx_nat]
  by_cases h : k ≤ xs.length
  · rw [Nat.min_eq_left h, List.take_of_length_le (by rw [List.length_drop]; exact Nat.le_refl _)]
  · rw [Nat.min_eq_right (by omega), List.drop_eq_nil_of_le (Nat.le_refl _), List.drop_eq_nil_of_le (by omega), List.take_nil]
theorem cut_part {α : Type} (xs : List α) (a k : Nat) : (xs.drop (HT.sIx xs.length 0 (some (a : Int)))).take (HT.sIx xs.length xs.length (some ((a + k : Nat) : Int)) - HT.sIx xs.length 0 (some (a : Int))) = (xs.drop a).take k := by
  rw [HT.sIx_nat, HT.sIx_nat]
  by_cases h : a ≤ xs.length
  · rw [Nat.min_eq_left h]
    by_cases h2 : a + k ≤ xs.length
    · rw [Nat.min_eq_left h2, Nat.add_sub_cancel_left]
    · rw [Nat.min_eq_right (by omega), List.take_of_length_le (by rw [List.length_drop]; exact Nat.le_refl _), List.take_of_length_le (by rw [List.length_drop]; omega)]
  · rw [Nat.min_eq_right (show xs.length ≤ a by omega), List.drop_eq_nil_of_le (Nat.le_refl _), List.drop_eq_nil_of_le (show xs.length ≤ a by omega), List.take_nil, List.take_nil]
theorem cut_but {α : Type} (xs : List α) : (xs.drop (HT.sIx xs.length 0 none)).take (HT.sIx xs.length xs.length (some (-1)) - HT.sIx xs.length 0 none) = xs.dropLast := by
  have e : HT.sIx xs.length xs.length (some (-1)) = xs.length - 1 := by
    show (if (-1 : Int) < 0 then ((-1 : Int) + (xs.length : Int)).toNat else min (-1 : Int).toNat xs.length) = _
    rw [if_pos (by decide)]
    omega
  rw [HT.sIx_none, e, Nat.sub_zero]
  show (xs.drop 0).take _ = _
  rw [List.drop_zero, List.dropLast_eq_take]

/-! ### a heap without one address -/
def ers (l : Addr) (H : Hp) : Hp := fun b => if b = l then none else H b
theorem ers_self (l : Addr) (H : Hp) : ers l H l = none := if_pos rfl
theorem ers_ne {l b : Addr} {H : Hp} (h : b ≠ l) : ers l H b = H b := if_neg h
theorem ers_in (l : Addr) (H : Hp) : Ex (ers l H) H := fun a o e => by
  by_cases h : a = l
  · rw [h, ers_self] at e; cases e
  · rw [ers_ne h] at e; exact e
theorem ers_ex {l : Addr} {H H' : Hp} (h : Ex H H') : Ex (ers l H) (ers l H') := fun a o e => by
  by_cases z : a = l
  · rw [z, ers_self] at e; cases e
  · rw [ers_ne z] at e ⊢; exact h a o e
theorem ers_upd (l : Addr) (H : Hp) (o : HO) : ers l (upd H l o) = ers l H := by
  funext b
  by_cases z : b = l
  · rw [z, ers_self, ers_self]
  · rw [ers_ne z, ers_ne z, upd_ne z]
theorem sqT_ers {K : PySem.W.Frag} {H : Hp} {a l : Addr} {xs ys : List V} (hl : H l = some (.lst ys)) (h : SqT K H a xs) : SqT K (ers l H) a xs := by
  rcases h with (h | ⟨o, h⟩) | h
  · exact .inl (.inl (by rw [ers_ne (ne_of h hl (by intro z; cases z))]; exact h))
  · exact .inl (.inr ⟨o, by rw [ers_ne (ne_of h hl (by intro z; cases z))]; exact h⟩)
  · exact .inr h
/-! ### a new list and its data -/
def cutD (ds : List PyData) (lo hi : Option Int) : List PyData := (ds.drop (HT.sIx ds.length 0 lo)).take (HT.sIx ds.length ds.length hi - HT.sIx ds.length 0 lo)
theorem dvs_cut {K : PySem.W.Frag} {H : Hp} {vs : List V} {ds : List PyData} (h : DVs K H vs ds) (lo hi : Option Int) : DVs K H (cutV vs lo hi) (cutD ds lo hi) := by
  unfold cutV cutD
  rw [h.len]
  exact (h.drop _).take _
def EvLD (K : PySem.W.Frag) (te : TE) (σ : L2.St) (H : Hp) (ds : List PyData) : Prop := ∀ H1, Ex H H1 → ∀ Q : VK, (∀ p vs H2, H1 p = none → Ex H1 H2 → H2 p = some (.lst vs) → DVs K H2 vs ds → Q (.ref p) H2) → te σ H1 Q
section
variable {K : PySem.W.Frag} {σ : L2.St} {H H' : Hp} {ta tb te tx : TE} {t u : TT} {x y z v : V} {d e : PyData} {ds es : List PyData} {tA tB' : TA} {D : Ends} {tu tw tz : TS} {g : TG}
theorem EvLD.mono (a : Ex H H') (h : EvLD K te σ H ds) : EvLD K te σ H' ds := fun H1 b Q q => h H1 (a.trans b) Q q
theorem EvLD.ev (h : EvLD K te σ H ds) : EvD K te σ H (.list ds) := fun H1 a Q q => h H1 a Q fun p vs H2 _ b hp hv => q _ H2 b (.lst (sq_of hp) hv)
theorem eld_lst (h : EvDA K tA σ H ds) (hl : ds.length ≤ 100000) : EvLD K (tLst tA) σ H ds := fun H1 a _ q =>
  h H1 a _ fun vs H2 b hvs => ⟨sz_of (by rw [hvs.len]; exact hl), fun p hp => q p vs _ (fresh_back b hp) (b.trans (Ex.new hp)) upd_same (hvs.ex (Ex.new hp))⟩
theorem eld_call {R : RelL} {E : XK} (h : EvDA K tA σ H ds) (hR : R ds es) : EvLD K (tCall (spL K R) [] E tA) σ H es := fun H1 a _ q =>
  h H1 a _ fun vs H2 b hvs => ⟨ds, es, by rw [List.append_nil]; exact hvs, hR, fun p vs H3 hn c hp hv => q p vs H3 (fresh_back b hn) (b.trans c) hp hv⟩
theorem eld_sl {tl th : TO} {lo hi : Option Int} (h : EvD K te σ H (.list ds)) (h1 : EvO tl σ H lo) (h2 : EvO th σ H hi) (he : cutD ds lo hi = es) : EvLD K (tSl (rSlL K) te tl th) σ H es := fun H1 a _ q =>
  h H1 a _ fun v H2 e2 hv => h1 H2 (a.trans e2) _ fun H3 e3 => h2 H3 ((a.trans e2).trans e3) _ fun H4 e4 => by
    cases hv with
    | @lst p xs _ hp hx =>
      exact ⟨p, xs, rfl, ex_l (e3.trans e4) hp, fun l hl => q l _ _ (fresh_back ((e2.trans e3).trans e4) hl) (((e2.trans e3).trans e4).trans (Ex.new hl)) upd_same (by rw [← he]; exact (dvs_cut hx lo hi).ex ((e3.trans e4).trans (Ex.new hl)))⟩
theorem eld_list (h : EvD K te σ H (.list ds)) : EvLD K (tCB (rListS K) (tCons te tNil)) σ H ds := fun H1 a _ q =>
  h H1 a _ fun v H2 e2 hv => by
    cases hv with
    | @lst p xs _ hp hx => exact ⟨p, xs, rfl, .inl hp, fun l hl => q l _ _ (fresh_back e2 hl) (e2.trans (Ex.new hl)) upd_same (hx.ex (Ex.new hl))⟩
theorem eld_cat (h : EvLD K ta σ H ds) (h2 : EvLD K tb σ H es) (hl : ds.length + es.length ≤ 100000) : EvLD K (tOp rCat ta tb) σ H (ds ++ es) := fun H1 a _ q =>
  h H1 a _ fun p vs H2 hn e2 hp hv => h2 H2 (a.trans e2) _ fun p' vs' H3 hn' e3 hp' hv' =>
    ⟨p, p', vs, vs', rfl, rfl, e3 _ _ hp, hp', sz_of (by rw [hv.len, hv'.len]; exact hl), fun l hl => q l _ _ (fresh_back (e2.trans e3) hl) ((e2.trans e3).trans (Ex.new hl)) upd_same (((hv.ex e3).append hv').ex (Ex.new hl))⟩
theorem eld_rev (h : EvD K te σ H (.list ds)) : EvLD K (tRevL K te) σ H ds.reverse := fun H1 a _ q =>
  h H1 a _ fun v H2 e2 hv => by
    cases hv with
    | @lst p xs _ hp hx => exact ⟨p, xs, rfl, hp, fun l hl => q l _ _ (fresh_back e2 hl) (e2.trans (Ex.new hl)) upd_same (hx.reverse.ex (Ex.new hl))⟩
theorem eld_if {b : Bool} (h : EvT t σ H b) (h1 : b = true → EvLD K ta σ H ds) (h2 : b = false → EvLD K tb σ H ds) : EvLD K (tIf t ta tb) σ H ds := fun H1 a Q q => h H1 a _ fun H2 e2 => by
  cases b with
  | true =>
    show ta σ H2 Q
    exact h1 rfl H2 (a.trans e2) Q fun p vs H3 hn e3 hp hv => q p vs H3 (fresh_back e2 hn) (e2.trans e3) hp hv
  | false =>
    show tb σ H2 Q
    exact h2 rfl H2 (a.trans e2) Q fun p vs H3 hn e3 hp hv => q p vs H3 (fresh_back e2 hn) (e2.trans e3) hp hv
theorem s_asgLD {i : Nat} (h : EvLD K te σ H ds) (k : ∀ p vs H1, H p = none → Ex H H1 → H1 p = some (.lst vs) → DVs K H1 vs ds → D.nx (σ.set i (some (.ref p))) H1) : tAsg te (gName i) D σ H := h H (Ex.refl H) _ fun p vs H1 hn e hp hv => k p vs H1 hn e hp hv
theorem q_asgLD {i : Nat} (h : EvLD K te σ H ds) (k : ∀ p vs H1, H p = none → Ex H H1 → H1 p = some (.lst vs) → DVs K H1 vs ds → tz D (σ.set i (some (.ref p))) H1) : tSeq (tAsg te (gName i)) tz D σ H := s_asgLD (D := { D with nx := tz D }) h k
theorem s_retLD (h : EvLD K te σ H ds) (k : RetDL K ds H D.rt) : tRet te D σ H := h H (Ex.refl H) _ fun p vs H1 hn e hp hv => k p vs H1 hn e hp hv
/-- a new list and another value: a, b = [..], e -/
theorem s_parLD {i j : Nat} (h : EvLD K te σ H ds) (h2 : EvD K tx σ H d) (k : ∀ p vs w H1, H p = none → Ex H H1 → H1 p = some (.lst vs) → DVs K H1 vs ds → DV K H1 w d → D.nx ((σ.set i (some (.ref p))).set j (some w)) H1) : tPar i j (tCons te (tCons tx tNil)) D σ H :=
  h H (Ex.refl H) _ fun p vs H1 hn e hp hv => h2 H1 e _ fun w H2 e2 hw => ⟨_, _, rfl, k p vs w H2 hn (e.trans e2) (e2 _ _ hp) (hv.ex e2) hw⟩
theorem q_parLD {i j : Nat} (h : EvLD K te σ H ds) (h2 : EvD K tx σ H d) (k : ∀ p vs w H1, H p = none → Ex H H1 → H1 p = some (.lst vs) → DVs K H1 vs ds → DV K H1 w d → tz D ((σ.set i (some (.ref p))).set j (some w)) H1) : tSeq (tPar i j (tCons te (tCons tx tNil))) tz D σ H :=
  s_parLD (D := { D with nx := tz D }) h h2 k
/-- xs.pop() -/
theorem s_pop {l : Addr} {vs : List V} {w : V} (hl : H l = some (.lst vs)) (ha : Ev ta σ H (.ref l)) (hw : vs[vs.length - 1]? = some w) (k : ∀ H1, Ex H H1 → D.nx σ (upd H1 l (.lst vs.dropLast))) : tDrop (tBM0 K "list" rPop ta) D σ H :=
  ha H (Ex.refl H) _ fun H1 e => ⟨Or.inl ⟨rfl, vs, sq_of (e _ _ hl)⟩, l, vs, w, rfl, rfl, e _ _ hl, hw, k H1 e⟩
theorem q_pop {l : Addr} {vs : List V} {w : V} (hl : H l = some (.lst vs)) (ha : Ev ta σ H (.ref l)) (hw : vs[vs.length - 1]? = some w) (k : ∀ H1, Ex H H1 → tz D σ (upd H1 l (.lst vs.dropLast))) : tSeq (tDrop (tBM0 K "list" rPop ta)) tz D σ H :=
  s_pop (D := { D with nx := tz D }) hl ha hw k
/-- for i, x in enumerate(a new list) -/
theorem q_forEnum {xs : List V} {i j : Nat} (h : EvL te σ H xs) (Pv : Addr → Nat → L2.St → Hp → Prop) (h0 : ∀ p H1, H p = none → Ex H H1 → H1 p = some (.lst xs) → Pv p 0 σ H1) (hl : ∀ p k σ' H', Pv p k σ' H' → SqL K H' p xs)
    (hs : ∀ p k w σ' H', xs[k]? = some w → Pv p k σ' H' → ∀ H1, Ex H' H1 → tu { D with nx := Pv p (k + 1), ct := Pv p (k + 1), bk := tz D } ((σ'.set i (some (.int (k : Int)))).set j (some w)) H1) (hd : ∀ p σ' H', Pv p xs.length σ' H' → tz D σ' H') :
    tSeq (tFor (iEnum K (tCons te tNil)) (gTup K 2 (gCons (gName i) (gCons (gName j) gNil))) tu) tz D σ H :=
  h H (Ex.refl H) _ fun p H1 hn e hp => ⟨p, xs, rfl, sq_of hp, fun k m σ' H' => m = xs.length - k ∧ k ≤ xs.length ∧ Pv p k σ' H', ⟨xs.length, by simp, Nat.zero_le _, h0 p H1 hn e hp⟩, by
    rintro k m σ' H' ⟨rfl, hk, P⟩
    have hS := hl p k σ' H' P
    by_cases hlt : k < xs.length
    · refine .inr ⟨⟨xs, xs[k], hS, List.getElem?_eq_getElem hlt⟩, Pv p (k + 1), fun σ2 H2 P2 => ⟨xs.length - (k + 1), by omega, rfl, hlt, P2⟩, fun w H2 hy => ?_⟩
      obtain ⟨T, y, rfl, nT, rfl, hy⟩ := hy
      exact ⟨T, _, rfl, st_of upd_same, rfl, _, _, rfl, _, _, rfl, rfl, hs p k y σ' H' (hy xs hS) P _ (Ex.new nT)⟩
    · have e : k = xs.length := by omega
      subst e
      exact .inl ⟨⟨xs, hS, Nat.le_refl _⟩, hd p σ' H' P⟩⟩
/-- for x in (a, b, ..), a tuple made here: its items' data -/
theorem s_forTD {i : Nat} (h : EvD K te σ H (.tuple ds)) (Pv : Nat → L2.St → Hp → Prop) (h0 : ∀ H1, Ex H H1 → Pv 0 σ H1) (hE : ∀ k σ' H', Pv k σ' H' → Ex H H')
    (hs : ∀ k d' w σ' H', ds[k]? = some d' → DV K H' w d' → Pv k σ' H' → tu { D with nx := fun σ2 H2 => Pv (k + 1) σ2 H2 ∧ Ex H' H2, ct := fun σ2 H2 => Pv (k + 1) σ2 H2 ∧ Ex H' H2, bk := D.nx } (σ'.set i (some w)) H') (hd : ∀ σ' H', Pv ds.length σ' H' → D.nx σ' H') : tFor (iTup K te) (gName i) tu D σ H :=
  h H (Ex.refl H) _ fun v H1 e hv => by
    cases hv with
    | @tup p xs _ hp hx =>
      have hlen := hx.len
      refine ⟨p, rfl, ⟨xs, hp⟩, fun k m σ' H' => m = xs.length - k ∧ k ≤ xs.length ∧ Pv k σ' H' ∧ Ex H1 H', ⟨xs.length, by simp, Nat.zero_le _, h0 H1 e, Ex.refl _⟩, ?_⟩
      rintro k m σ' H' ⟨rfl, hk, P, e1⟩
      have hS := ex_t e1 hp
      by_cases hlt : k < xs.length
      · refine .inr ⟨⟨xs, xs[k], hS, List.getElem?_eq_getElem hlt⟩, fun σ2 H2 => Pv (k + 1) σ2 H2 ∧ Ex H' H2, fun σ2 H2 P2 => ⟨xs.length - (k + 1), by omega, rfl, hlt, P2.1, e1.trans P2.2⟩, fun w H2 hy => ?_⟩
        obtain ⟨hy1, hy2⟩ := hy
        subst hy1
        have hw := hy2 xs hS
        obtain ⟨d', g1, g2⟩ := hx.get hw
        exact hs k d' w σ' _ g1 (g2.ex e1) P
      · have ek : k = xs.length := by omega
        subst ek
        exact .inl ⟨⟨xs, hS, Nat.le_refl _⟩, hd σ' H' (by rw [← hlen]; exact P)⟩
theorem q_forTD {i : Nat} (h : EvD K te σ H (.tuple ds)) (Pv : Nat → L2.St → Hp → Prop) (h0 : ∀ H1, Ex H H1 → Pv 0 σ H1) (hE : ∀ k σ' H', Pv k σ' H' → Ex H H')
    (hs : ∀ k d' w σ' H', ds[k]? = some d' → DV K H' w d' → Pv k σ' H' → tu { D with nx := fun σ2 H2 => Pv (k + 1) σ2 H2 ∧ Ex H' H2, ct := fun σ2 H2 => Pv (k + 1) σ2 H2 ∧ Ex H' H2, bk := tz D } (σ'.set i (some w)) H') (hd : ∀ σ' H', Pv ds.length σ' H' → tz D σ' H') : tSeq (tFor (iTup K te) (gName i) tu) tz D σ H :=
  s_forTD (D := { D with nx := tz D }) h Pv h0 hE hs hd
theorem eld_rep {k : Int} (h : EvLD K ta σ H ds) (h2 : Ev tb σ H (.int k)) (h0 : 0 ≤ k) (h1 : k < 2 ^ 62) (hl : ds.length * k.toNat ≤ 100000) : EvLD K (tOp rRep ta tb) σ H (List.replicate k.toNat ds).flatten := fun H1 a _ q =>
  h H1 a _ fun p vs H2 hn e2 hp hv => h2 H2 (a.trans e2) _ fun H3 e3 =>
    ⟨p, k, vs, rfl, rfl, e3 _ _ hp, by omega, by omega, sz_of (by rw [hv.len]; exact hl), fun l hl => q l _ _ (fresh_back (e2.trans e3) hl) ((e2.trans e3).trans (Ex.new hl)) upd_same (by
      have key : ∀ n : Nat, DVs K H3 (List.replicate n vs).flatten (List.replicate n ds).flatten := by
        intro n
        induction n with
        | zero => exact .nil
        | succ n ih => rw [List.replicate_succ, List.replicate_succ, List.flatten_cons, List.flatten_cons]; exact (hv.ex e3).append ih
      exact (key _).ex (Ex.new hl))⟩
/-- a list that stands in a slot, plus a new one -/
theorem eld_catV {i : Nat} {p : Addr} {vs : List V} (hv : σ[i]? = some (some (.ref p))) (hp : H p = some (.lst vs)) (hvs : DVs K H vs ds) (h2 : EvLD K tb σ H es) (hl : ds.length + es.length ≤ 100000) : EvLD K (tOp rCat (tVar i) tb) σ H (ds ++ es) := fun H1 a _ q =>
  ⟨.ref p, hv, h2 H1 a _ fun p' vs' H3 hn' e3 hp' hv' =>
    ⟨p, p', vs, vs', rfl, rfl, e3 _ _ (a _ _ hp), hp', sz_of (by rw [hvs.len, hv'.len]; exact hl), fun l hl => q l _ _ (fresh_back e3 hl) (e3.trans (Ex.new hl)) upd_same (((hvs.ex (a.trans e3)).append hv').ex (Ex.new hl))⟩⟩
theorem s_appLD {l : Addr} {xs : List V} (hl : H l = some (.lst xs)) (ha : Ev ta σ H (.ref l)) (h : EvLD K te σ H ds) (hz : xs.length < 100000) (k : ∀ p vs H1, H p = none → Ex H H1 → H1 p = some (.lst vs) → DVs K H1 vs ds → D.nx σ (upd H1 l (.lst (xs ++ [.ref p])))) :
    tDrop (tBM K "list" rAppend ta (tCons te tNil)) D σ H := ha H (Ex.refl H) _ fun H1 e1 =>
  ⟨Or.inl ⟨rfl, xs, sq_of (e1 l _ hl)⟩, h H1 e1 _ fun p vs H2 hp e2 h2 hv => ⟨l, xs, .ref p, rfl, rfl, e2 l _ (e1 l _ hl), sz_lt hz, k p vs H2 (fresh_back e1 hp) (e1.trans e2) h2 hv⟩⟩
theorem ev_count (ha : EvD K ta σ H (.list ds)) (hb : EvD K tb σ H d) (sl : SeqAt.shaped (.list ds) = true) (sd : SeqAt.shaped d = true) : Ev (tBM K "list" (rCntD K) ta (tCons tb tNil)) σ H (.int ((ds.countP fun z => PyData.eqv z d : Nat) : Int)) := fun H1 a _ q =>
  ha H1 a _ fun v H2 e2 hv => by
    cases hv with
    | @lst p xs _ hp hx =>
      exact ⟨Or.inl ⟨rfl, xs, hp⟩, hb H2 (a.trans e2) _ fun w H3 e3 hw => ⟨p, w, d, ds, rfl, rfl, ((DV.lst hp hx).ex e3).dp sl, hw.dp sd, sl, sd, q H3 (e2.trans e3)⟩⟩
theorem ev_isNT (ha : EvD K ta σ H (.tuple ds)) : Ev (tOp rIsN ta (tC .non)) σ H (.bl false) := fun H1 a _ q =>
  ha H1 a _ fun v H2 e2 hv => by
    cases hv with
    | @tup p xs _ hp hx => exact ⟨rfl, q H2 e2⟩
/-- for x in a list of data that stands in a slot -/
theorem s_forLD {i k0 : Nat} {v : V} (hv : σ[k0]? = some (some v)) (hx : DV K H v (.list ds)) (Pv : Nat → L2.St → Hp → Prop) (h0 : Pv 0 σ H) (hE : ∀ k σ' H', Pv k σ' H' → Ex H H')
    (hs : ∀ k d' w σ' H', ds[k]? = some d' → DV K H' w d' → Pv k σ' H' → tu { D with nx := Pv (k + 1), ct := Pv (k + 1), bk := D.nx } (σ'.set i (some w)) H') (hd : ∀ σ' H', Pv ds.length σ' H' → D.nx σ' H') : tFor (iList K (tVar k0)) (gName i) tu D σ H := by
  cases hx with
  | @lst a vs _ hp hx =>
    have hlen := hx.len
    refine ⟨_, hv, a, rfl, ⟨vs, hp⟩, for_list (xs := vs) Pv h0 (fun k σ' H' _ p => ex_l (hE k σ' H' p) hp) (fun k x σ' H' hk p => ?_) (by rw [hlen]; exact hd)⟩
    obtain ⟨d, h1, h2⟩ := hx.get hk
    exact hs k d x σ' H' h1 (h2.ex (hE k σ' H' p)) p
theorem q_forLD {i k0 : Nat} {v : V} (hv : σ[k0]? = some (some v)) (hx : DV K H v (.list ds)) (Pv : Nat → L2.St → Hp → Prop) (h0 : Pv 0 σ H) (hE : ∀ k σ' H', Pv k σ' H' → Ex H H')
    (hs : ∀ k d' w σ' H', ds[k]? = some d' → DV K H' w d' → Pv k σ' H' → tu { D with nx := Pv (k + 1), ct := Pv (k + 1), bk := tz D } (σ'.set i (some w)) H') (hd : ∀ σ' H', Pv ds.length σ' H' → tz D σ' H') : tSeq (tFor (iList K (tVar k0)) (gName i) tu) tz D σ H :=
  s_forLD (D := { D with nx := tz D }) hv hx Pv h0 hE hs hd
/-! what stands beside a list -/
/-- range(0, len, c), c above 0 -/
theorem rgc_up {len : Nat} {c : Int} (hc : 1 ≤ c) (hc2 : c ≤ 1000) (hl : len ≤ 1000) : ∃ n : Nat, RgC 0 (len : Int) c n ∧ (∀ i : Nat, i < n → (i : Int) * c < len) := by
  have h1 := rangeSize_pos (len := (len : Int)) (c := c) hc (by omega)
  have h2 : (len : Int) + c - 1 < 2001 := by omega
  have h3 : 0 ≤ ((len : Int) + c - 1) / c := Int.ediv_nonneg (by omega) (by omega)
  have h4 : ((len : Int) + c - 1) / c ≤ (len : Int) + c - 1 := Int.ediv_le_self _ (by omega)
  refine ⟨(Builtin.Range.rangeSize 0 (len : Int) c).toNat, ⟨by omega, by omega, ?_, rangeSize_toNat _ _ _⟩, fun i hi => ?_⟩
  · unfold Builtin.Range.small
    rw [h1]
    generalize ((len : Int) + c - 1) / c = z at h3 h4
    simp only [Builtin.Range.rangeFitsLong, Bool.and_eq_true, Bool.or_eq_true, decide_eq_true_eq, beq_iff_eq, show c > 0 by omega, if_true]
    omega
  · exact (start_inside hc (by omega) (by omega) (by omega)).2
end
theorem rv_notN {H : Hp} {x : V} : RV rNotN x .non H (.bl (!decide (x = .non))) := fun H1 _ _ q => ⟨rfl, q H1 (Ex.refl H1)⟩
theorem rv_isN {H : Hp} {x : V} : RV rIsN x .non H (.bl (decide (x = .non))) := fun H1 _ _ q => ⟨rfl, q H1 (Ex.refl H1)⟩
theorem shaped_tdi (p : P2) (s : Int) : SeqAt.shaped (.tuple [td p, .int s]) = true := by
  simp [SeqAt.shaped, td, PyData.canLay0, PyData.canLayAll0, PyData.depth, PyData.depthAll]
theorem shaped_intsL (is : List Int) : SeqAt.shaped (.list (is.map .int)) = true := by
  have h := shaped_ints is
  unfold SeqAt.shaped at h ⊢
  exact h
theorem eqv_same {d : PyData} (h : SeqAt.shaped d = true) : PyData.eqv d d = true := SeqAt.eqv_refl d (SeqAt.canLay_of_shaped h)
theorem ints_vals {K : PySem.W.Frag} {H : Hp} : ∀ {cs : List Int} {vs : List V}, DVs K H vs (cs.map .int) → vs = cs.map V.int
  | [], _, h => by cases h; rfl
  | c :: cs, _, h => by
    cases h with
    | cons a b => rw [dvi a, ints_vals b]; rfl
theorem vals_ints' {K : PySem.W.Frag} {H : Hp} : ∀ cs : List Int, DVs K H (cs.map V.int) (cs.map .int)
  | [] => .nil
  | c :: cs => .cons (.int c) (vals_ints' cs)
end Sq

namespace Sq
open PySem PySem.Spec PyProof.Rows L2 Evl
/-! ### the law's own drawing -/
def lawPrimes : List Int := [1000003, 1000033, 1000037, 1000039, 1000081, 1000099, 1000117, 1000121, 1000133, 1000151, 1000159, 1000171, 1000183, 1000187, 1000193, 1000199]
def primeAt (k : Int) : Int := lawPrimes.getD (k % 16).toNat 0
theorem primeAt_get (k : Int) : lawPrimes[(k % 16).toNat]? = some (primeAt k) ∧ 0 < primeAt k := by
  have h : (k % 16).toNat < 16 := by omega
  unfold primeAt
  generalize (k % 16).toNat = j at h
  have key : ∀ j : Fin 16, lawPrimes[j.val]? = some (lawPrimes.getD j.val 0) ∧ 0 < lawPrimes.getD j.val 0 := by decide
  exact key ⟨j, h⟩
def lawDraw (c k m : Int) : Int := (c * 48271 + k * 69621) % primeAt k % m
theorem lawDraw_lt (c k : Int) {m : Int} (h : 0 < m) : 0 ≤ lawDraw c k m ∧ lawDraw c k m < m := ⟨Int.emod_nonneg _ (by omega), Int.emod_lt_of_pos _ h⟩
def fourAt (k : Int) : Int := ([1, 7, 49, 343] : List Int).getD (k % 4).toNat 0
theorem fourAt_get (k : Int) : ([1, 7, 49, 343] : List Int)[(k % 4).toNat]? = some (fourAt k) ∧ 0 < fourAt k ∧ fourAt k ≤ 343 := by
  have h : (k % 4).toNat < 4 := by omega
  unfold fourAt
  generalize (k % 4).toNat = j at h
  have key : ∀ j : Fin 4, ([1, 7, 49, 343] : List Int)[j.val]? = some (([1, 7, 49, 343] : List Int).getD j.val 0) ∧ 0 < ([1, 7, 49, 343] : List Int).getD j.val 0 ∧ ([1, 7, 49, 343] : List Int).getD j.val 0 ≤ 343 := by decide
  exact key ⟨j, h⟩
def E18 : Int := 1000000000000000000
def E40 : Int := 10000000000000000000000000000000000000000
theorem pow18 : (10 : Int) ^ (18 : Int).toNat = E18 := by decide
theorem pow40 : (10 : Int) ^ (40 : Int).toNat = E40 := by decide
def lawValue (c k lim : Int) : Int := if E18 ≤ c then (c - E18) / fourAt k % E40 else lawDraw ((c + 977 * k) * (c + 31 * k + 5)) (k % 9 + 1) lim
theorem lawValue_nn (c k : Int) {lim : Int} (h : 0 < lim) : 0 ≤ lawValue c k lim := by
  unfold lawValue
  split
  · exact Int.emod_nonneg _ (by decide)
  · exact (lawDraw_lt _ _ h).1
theorem lawValue_lt (c k : Int) {lim : Int} (h : 0 < lim) (h2 : lim ≤ E40) : lawValue c k lim < E40 := by
  unfold lawValue
  split
  · exact Int.emod_lt_of_pos _ (by decide)
  · have := (lawDraw_lt ((c + 977 * k) * (c + 31 * k + 5)) (k % 9 + 1) h).2
    omega
def R__law_draw : Rel := fun ds d => ∃ c k m : Int, ds = [.int c, .int k, .int m] ∧ Sm 3000000 c ∧ Sm 3000000 k ∧ 0 < m ∧ d = .int (lawDraw c k m)
def R__law_value : Rel := fun ds d => ∃ c k lim : Int, ds = [.int c, .int k, .int lim] ∧ Sm 1048577 c ∧ Sm 64 k ∧ 0 < lim ∧ d = .int (lawValue c k lim)
/-! ### its rows -/
def wayAt (v : Int) : Int := ([2, 7, 900000, E40] : List Int).getD (v / 7 % 4).toNat 0
theorem wayAt_get (v : Int) : ([2, 7, 900000, E40] : List Int)[(v / 7 % 4).toNat]? = some (wayAt v) ∧ 0 < wayAt v ∧ wayAt v ≤ E40 := by
  have h : (v / 7 % 4).toNat < 4 := by omega
  unfold wayAt
  generalize (v / 7 % 4).toNat = j at h
  have key : ∀ j : Fin 4, ([2, 7, 900000, E40] : List Int)[j.val]? = some (([2, 7, 900000, E40] : List Int).getD j.val 0) ∧ 0 < ([2, 7, 900000, E40] : List Int).getD j.val 0 ∧ ([2, 7, 900000, E40] : List Int).getD j.val 0 ≤ E40 := by decide
  exact key ⟨j, h⟩
def lawStep (last v : Int) : Int := if last = 3 then v % 3 else (last + 1 + v % 2) % 3
def lawOften (st v : Int) : Int := if st = 1 then 1 + v / 5 % (if 0 < v / 11 % 40 then 4 else 1000) else 1 + v / 3 % wayAt v
def lawRowFrom (b : Int) : Nat → Int → List Int → Row
  | _, _, [] => []
  | i, last, c :: cs =>
    (lawStep last (lawValue c ((i : Int) + b) 900000), (lawOften (lawStep last (lawValue c ((i : Int) + b) 900000)) (lawValue c ((i : Int) + b) 900000)).toNat) :: lawRowFrom b (i + 1) (lawStep last (lawValue c ((i : Int) + b) 900000)) cs
theorem lawRowFrom_nil (b : Int) (i : Nat) (last : Int) : lawRowFrom b i last [] = [] := rfl
theorem lawRowFrom_cons (b : Int) (i : Nat) (last c : Int) (cs : List Int) : lawRowFrom b i last (c :: cs) = (lawStep last (lawValue c ((i : Int) + b) 900000), (lawOften (lawStep last (lawValue c ((i : Int) + b) 900000)) (lawValue c ((i : Int) + b) 900000)).toNat) :: lawRowFrom b (i + 1) (lawStep last (lawValue c ((i : Int) + b) 900000)) cs := rfl
def lawRow (cells : List Int) (b : Nat) : Row := lawRowFrom b 0 3 ((cells.drop b).take 16)
theorem lawStep_ok (last v : Int) (hl : last = 0 ∨ last = 1 ∨ last = 2 ∨ last = 3) : Step (lawStep last v) ∧ lawStep last v ≠ last := by
  unfold lawStep Step
  split
  · rename_i h
    subst h
    omega
  · rename_i h
    omega
theorem lawOften_ok (st v : Int) (hv : 0 ≤ v) : 0 < lawOften st v ∧ (st = 1 → lawOften st v ≤ 1000) ∧ lawOften st v ≤ E40 := by
  unfold lawOften
  split
  · have h1 : 0 < (if 0 < v / 11 % 40 then (4 : Int) else 1000) ∧ (if 0 < v / 11 % 40 then (4 : Int) else 1000) ≤ 1000 := by split <;> decide
    generalize (if 0 < v / 11 % 40 then (4 : Int) else 1000) = w at h1
    have h2 := Int.emod_nonneg (v / 5) (show w ≠ 0 by omega)
    have h3 := Int.emod_lt_of_pos (v / 5) h1.1
    have h4 : (1000 : Int) ≤ E40 := by decide
    refine ⟨by omega, fun _ => by omega, by omega⟩
  · rename_i hs
    obtain ⟨_, w1, w2⟩ := wayAt_get v
    have h2 := Int.emod_nonneg (v / 3) (show wayAt v ≠ 0 by omega)
    have h3 := Int.emod_lt_of_pos (v / 3) w1
    exact ⟨by omega, fun z => absurd z hs, by omega⟩
theorem lawRowFrom_good (b : Int) : ∀ (cs : List Int) (i : Nat) (last : Int), (last = 0 ∨ last = 1 ∨ last = 2 ∨ last = 3) → Good last (lawRowFrom b i last cs) ∧ (lawRowFrom b i last cs).length = cs.length ∧ ∀ x ∈ lawRowFrom b i last cs, (x.2 : Int) ≤ E40
  | [], _, _, _ => ⟨trivial, rfl, fun x hx => nomatch hx⟩
  | c :: cs, i, last, hl => by
    have hv := lawValue_nn c ((i : Int) + b) (show (0 : Int) < 900000 by decide)
    unfold lawRowFrom
    generalize lawValue c ((i : Int) + b) 900000 = v at hv
    obtain ⟨s1, s2⟩ := lawStep_ok last v hl
    generalize lawStep last v = st at s1 s2
    obtain ⟨o1, o2, o3⟩ := lawOften_ok st v hv
    generalize lawOften st v = o at o1 o2 o3
    obtain ⟨i1, i2, i3⟩ := lawRowFrom_good b cs (i + 1) st (by unfold Step at s1; omega)
    refine ⟨⟨s1, s2, by omega, fun z => by have := o2 z; omega, i1⟩, by rw [List.length_cons, List.length_cons, i2], fun x hx => ?_⟩
    rcases List.mem_cons.mp hx with e | hx
    · subst e
      show ((o.toNat : Nat) : Int) ≤ E40
      omega
    · exact i3 x hx
theorem Good.weak {l : Int} : ∀ {r : Row}, Good l r → Good (-1) r
  | [], _ => trivial
  | (s, t) :: r, g => ⟨g.1, by have := g.1; omega, g.2.2.1, g.2.2.2.1, g.2.2.2.2⟩
theorem Good.take {l : Int} : ∀ {r : Row} (n : Nat), Good l r → Good l (r.take n)
  | _, 0, _ => by rw [List.take_zero]; trivial
  | [], _ + 1, _ => trivial
  | (s, t) :: r, n + 1, g => ⟨g.1, g.2.1, g.2.2.1, g.2.2.2.1, Good.take n g.2.2.2.2⟩
/-- how fast a row grows -/
theorem led_grow {p : P2} (h : Ok2 p) {s : Int} (hs : Step s) {t : Nat} (ht : (t : Int) ≤ E40) (h1 : s = 1 → t ≤ 1000) : (led p s t).1 ≤ p.1 * 2 ^ 2000 := by
  obtain ⟨m, n⟩ := p
  obtain ⟨g1, g2⟩ := h
  have g1 : 0 < n := g1
  have g2 : n < m := g2
  have big : (2 : Int) ^ 200 ≤ 2 ^ 2000 := by
    have : (2 : Nat) ^ 200 ≤ 2 ^ 2000 := Nat.pow_le_pow_right (by decide) (by decide)
    exact_mod_cast this
  have e200 : 1 + 2 * E40 ≤ (2 : Int) ^ 200 := by decide
  show _ ≤ m * 2 ^ 2000
  rcases hs with rfl | rfl | rfl
  · show m + (m - n) * (t : Int) ≤ _
    have a : (m - n) * (t : Int) ≤ m * E40 := Int.mul_le_mul (by omega) ht (by omega) (by omega)
    have b : m * (1 + 2 * E40) ≤ m * 2 ^ 2000 := Int.mul_le_mul_of_nonneg_left (by omega) (by omega)
    have c : m * (1 + 2 * E40) = m + 2 * (m * E40) := by grind
    have d : 0 ≤ m * E40 := Int.mul_nonneg (by omega) (by decide)
    omega
  · have key : ∀ k : Nat, k ≤ 1000 → (iter one k (m, n)).1 ≤ m * 4 ^ k := by
      intro k
      induction k with
      | zero => intro _; show m ≤ m * 1; omega
      | succ k ih =>
        intro hk
        have ih := ih (by omega)
        obtain ⟨q1, q2⟩ := ok_iter (p := (m, n)) ⟨g1, g2⟩ k
        show 2 * (iter one k (m, n)).1 + (iter one k (m, n)).2 ≤ _
        rw [Int.pow_succ]
        have c : m * (4 ^ k * 4) = 4 * (m * 4 ^ k) := by grind
        rw [c]
        omega
    have h3 := key t (h1 rfl)
    have e : (4 : Int) ^ t ≤ 2 ^ 2000 := by
      have h1 := h1 rfl
      have e1 : (4 : Nat) ^ t = 2 ^ (2 * t) := by rw [Nat.pow_mul]
      have e2 : (2 : Nat) ^ (2 * t) ≤ 2 ^ 2000 := Nat.pow_le_pow_right (by decide) (by omega)
      rw [← e1] at e2
      exact_mod_cast e2
    have h4 : m * 4 ^ t ≤ m * 2 ^ 2000 := Int.mul_le_mul_of_nonneg_left e (by omega)
    show (iter one t (m, n)).1 ≤ _
    exact Int.le_trans h3 h4
  · show m + 2 * n * (t : Int) ≤ _
    have a : n * (t : Int) ≤ m * E40 := Int.mul_le_mul (by omega) ht (by omega) (by omega)
    have b : m * (1 + 2 * E40) ≤ m * 2 ^ 2000 := Int.mul_le_mul_of_nonneg_left (by omega) (by omega)
    have c : m * (1 + 2 * E40) = m + 2 * (m * E40) := by grind
    have d : 2 * n * (t : Int) = 2 * (n * (t : Int)) := by grind
    omega
theorem behind_grow {l : Int} : ∀ (r : Row) (p : P2), Ok2 p → Good l r → (∀ x ∈ r, (x.2 : Int) ≤ E40) → (behind p r).1 ≤ p.1 * (2 ^ 2000) ^ r.length
  | [], p, _, _, _ => by show p.1 ≤ p.1 * 1; omega
  | (s, t) :: r, p, h, g, f => by
    have h1 := led_grow h g.1 (f (s, t) List.mem_cons_self) g.2.2.2.1
    have h2 := behind_grow r (led p s t) (led_ok h s t) g.2.2.2.2 fun x hx => f x (List.mem_cons_of_mem _ hx)
    show (behind (led p s t) r).1 ≤ _
    have hp : (0 : Int) ≤ (2 ^ 2000) ^ r.length := Int.pow_nonneg (Int.pow_nonneg (by decide))
    have h3 := Int.mul_le_mul_of_nonneg_right h1 hp
    rw [List.length_cons, Int.pow_succ]
    have e : p.1 * ((2 ^ 2000) ^ r.length * 2 ^ 2000) = p.1 * 2 ^ 2000 * (2 ^ 2000) ^ r.length := by
      rw [Int.mul_assoc, Int.mul_comm (2 ^ 2000)]
    rw [e]
    exact Int.le_trans h2 h3
theorem fit_of {r : Row} (g : Good (-1) r) (hl : r.length ≤ 30) (f : ∀ x ∈ r, (x.2 : Int) ≤ E40) : Fit r := by
  refine ⟨g, by omega, fun x hx => ?_, ?_⟩
  · have h1 := f x hx
    have h2 : (E40 : Int) < ((2 ^ 200 : Nat) : Int) := by decide
    have h3 : (x.2 : Int) < ((2 ^ 200 : Nat) : Int) := Int.lt_of_le_of_lt h1 h2
    exact Nat.lt_of_lt_of_le (Int.ofNat_lt.mp h3) (Nat.pow_le_pow_right (by decide) (by decide))
  · have h1 := behind_grow r root (ok_of root_pair) g f
    have h2 : (2 : Int) * (2 ^ 2000) ^ r.length ≤ ((2 ^ 60001 : Nat) : Int) := by
      have e1 : ((2 : Nat) ^ 2000) ^ r.length = 2 ^ (2000 * r.length) := by rw [Nat.pow_mul]
      have e2 : 2 * (2 : Nat) ^ (2000 * r.length) = 2 ^ (2000 * r.length + 1) := by rw [Nat.pow_succ]; omega
      have e3 : (2 : Nat) ^ (2000 * r.length + 1) ≤ 2 ^ 60001 := Nat.pow_le_pow_right (by decide) (by omega)
      rw [← e2, ← e1] at e3
      exact_mod_cast e3
    have h3 : 0 ≤ (behind root r).1 := by
      obtain ⟨a, b⟩ := behind_ok (ok_of root_pair) r
      omega
    have h4 : (behind root r).1 ≤ ((2 ^ 60001 : Nat) : Int) := Int.le_trans h1 h2
    have h5 : (behind root r).1.natAbs ≤ 2 ^ 60001 := by
      have : (((behind root r).1.natAbs : Nat) : Int) ≤ ((2 ^ 60001 : Nat) : Int) := by
        rw [Int.natAbs_of_nonneg h3]
        exact h4
      exact Int.ofNat_le.mp this
    show (behind root r).1.natAbs < 2 ^ 80000
    exact Nat.lt_of_le_of_lt h5 (Nat.pow_lt_pow_right (by decide) (by decide))
theorem Fit.take {r : Row} (h : Fit r) (n : Nat) : Fit (r.take n) := by
  refine ⟨h.good.take n, ?_, fun x hx => h.few x (List.mem_of_mem_take hx), ?_⟩
  · rw [List.length_take]; have := h.len; omega
  · obtain ⟨a, b⟩ := behind_ok (ok_of root_pair) (r.take n)
    exact h.sm.le (by omega) (behind_take_up r n)
theorem lawRow_fit (cells : List Int) (b : Nat) : Fit (lawRow cells b) := by
  obtain ⟨h1, h2, h3⟩ := lawRowFrom_good b ((cells.drop b).take 16) 0 3 (by omega)
  refine fit_of h1.weak ?_ h3
  unfold lawRow
  rw [h2, List.length_take]
  omega
def R__law_row : RelL := fun ds es => ∃ (cells : List Int) (b : Nat), ds = [.list (cells.map .int), .int b] ∧ (∀ c ∈ cells, Sm 1048577 c) ∧ b ≤ 63 ∧ cells.length ≤ 63 ∧ es = (lawRow cells b).map sd
def Parts (r : Row) : Prop := ∀ x ∈ r, Step x.1 ∧ (x.1 = 1 → x.2 ≤ 1000) ∧ x.2 < 2 ^ 3000
theorem Fit.parts {r : Row} (h : Fit r) : Parts r := fun x hx => by
  obtain ⟨j, hj⟩ := List.mem_iff_getElem?.mp hx
  obtain ⟨s, t⟩ := x
  obtain ⟨a1, a2, a3⟩ := h.good.at hj
  exact ⟨a1, a3, h.few _ hx⟩
def R__law_led : Rel := fun ds d => ∃ (p : P2) (s : Int) (t : Nat), ds = [pd p, .int s, .int t] ∧ Step s ∧ Ok2 p ∧ (s = 1 → t ≤ 1000) ∧ Sm 5000 (t : Int) ∧ Sm 95000 (led p s t).1 ∧ d = pd (led p s t)
def R__law_behind : Rel := fun ds d => ∃ r : Row, ds = [rd r] ∧ Parts r ∧ Sm 80000 (behind root r).1 ∧ r.length ≤ 40000 ∧ d = pd (behind root r)
def R__law_triple : Rel := fun ds d => ∃ p : P2, ds = [pd p] ∧ Sm 92000 p.1 ∧ Sm 92000 p.2 ∧ d = td p
abbrev R__law_whole := R_is_whole
abbrev R__law_are := R_are_whole
def R__law_steps_right : Rel := fun ds d => ∃ p : P2, ds = [pd p, td p] ∧ IsPair p ∧ Sm 85000 p.1 ∧ d = .bool true
def R__law_right1 : Rel := fun ds d => ∃ r : Row, ds = [rd r] ∧ Fit r ∧ d = .bool true
def R_law1 : Rel := fun ds d => ∃ ns : List Int, ds = [.list (ns.map .int)] ∧ ns.length ≤ 63 ∧ (∀ c ∈ ns, Sm 1048577 c) ∧ d = .bool true
theorem fit_nil : Fit [] := fit_of trivial (by decide) fun x hx => nomatch hx
theorem fit_one {s : Int} {t : Nat} (hs : Step s) (ht : 0 < t) (h1 : s = 1 → t ≤ 1000) (h2 : (t : Int) ≤ E40) : Fit [(s, t)] :=
  fit_of ⟨hs, by unfold Step at hs; omega, ht, h1, trivial⟩ (by show 1 ≤ 30; decide) fun x hx => by
    cases hx with
    | head => exact h2
    | tail _ h => cases h
theorem fit_two {s s' : Int} {t t' : Nat} (hs : Step s) (ht : 0 < t) (h1 : s = 1 → t ≤ 1000) (h2 : (t : Int) ≤ E40) (hs' : Step s') (hne : s' ≠ s) (ht' : 0 < t') (h1' : s' = 1 → t' ≤ 1000) (h2' : (t' : Int) ≤ E40) : Fit [(s, t), (s', t')] :=
  fit_of ⟨hs, by unfold Step at hs; omega, ht, h1, hs', hne, ht', h1', trivial⟩ (by show 2 ≤ 30; decide) fun x hx => by
    cases hx with
    | head => exact h2
    | tail _ h =>
      cases h with
      | head => exact h2'
      | tail _ h => cases h
end Sq

namespace Sq
/-! ### primes that leave 1 by 4 are sums of two squares, up to a million: by great bit masks -/
/-- bits at q * j, j < 2 ^ k -/
def mults (q : Nat) : Nat → Nat
  | 0 => 1
  | k + 1 => mults q k ||| (mults q k <<< (q * 2 ^ k))
theorem mults_bit (q : Nat) : ∀ (k i : Nat), (mults q k).testBit i = true → q ∣ i
  | 0, i, h => by
    unfold mults at h
    rw [Nat.testBit_one_eq_true_iff_self_eq_zero] at h
    subst h
    exact Nat.dvd_zero _
  | k + 1, i, h => by
    unfold mults at h
    rw [Nat.testBit_or, Nat.testBit_shiftLeft, Bool.or_eq_true, Bool.and_eq_true] at h
    rcases h with h | ⟨h1, h2⟩
    · exact mults_bit q k i h
    · have h1 := of_decide_eq_true h1
      have := mults_bit q k _ h2
      have e : i = (i - q * 2 ^ k) + q * 2 ^ k := by omega
      rw [e]
      exact Nat.dvd_add this (Nat.dvd_mul_right _ _)
/-- bits at a a, 1 ≤ a ≤ k -/
def sqs : Nat → Nat
  | 0 => 0
  | k + 1 => sqs k ||| (1 <<< ((k + 1) * (k + 1)))
theorem sqs_bit : ∀ (k i : Nat), (sqs k).testBit i = true → ∃ a, 0 < a ∧ i = a * a
  | 0, i, h => by unfold sqs at h; rw [Nat.zero_testBit] at h; cases h
  | k + 1, i, h => by
    unfold sqs at h
    rw [Nat.testBit_or, Nat.testBit_shiftLeft, Bool.or_eq_true, Bool.and_eq_true] at h
    rcases h with h | ⟨h1, h2⟩
    · exact sqs_bit k i h
    · have h1 := of_decide_eq_true h1
      rw [Nat.testBit_one_eq_true_iff_self_eq_zero] at h2
      exact ⟨k + 1, by omega, by omega⟩
/-- sums of two -/
def sums (s : Nat) : Nat → Nat
  | 0 => 0
  | k + 1 => sums s k ||| (s <<< ((k + 1) * (k + 1)))
theorem sums_bit (s : Nat) : ∀ (k i : Nat), (sums s k).testBit i = true → ∃ a j, 0 < a ∧ s.testBit j = true ∧ i = a * a + j
  | 0, i, h => by unfold sums at h; rw [Nat.zero_testBit] at h; cases h
  | k + 1, i, h => by
    unfold sums at h
    rw [Nat.testBit_or, Nat.testBit_shiftLeft, Bool.or_eq_true, Bool.and_eq_true] at h
    rcases h with h | ⟨h1, h2⟩
    · exact sums_bit s k i h
    · have h1 := of_decide_eq_true h1
      exact ⟨k + 1, i - (k + 1) * (k + 1), by omega, h2, by omega⟩
/-- what some odd q goes into, 3 ≤ q ≤ 2 k + 1, q itself left out -/
def comps : Nat → Nat
  | 0 => 0
  | k + 1 => comps k ||| ((mults (2 * k + 3) (20 - (2 * k + 3).log2)) ^^^ ((1 <<< (2 * k + 3)) &&& (mults (2 * k + 3) (20 - (2 * k + 3).log2))))
theorem comps_bit : ∀ (k i : Nat), (comps k).testBit i = true → ∃ q, 2 < q ∧ q ∣ i ∧ q ≠ i
  | 0, i, h => by unfold comps at h; rw [Nat.zero_testBit] at h; cases h
  | k + 1, i, h => by
    unfold comps at h
    generalize hm : mults (2 * k + 3) (20 - (2 * k + 3).log2) = M at h
    rw [Nat.testBit_or, Nat.testBit_xor, Nat.testBit_and, Nat.testBit_shiftLeft, Bool.or_eq_true] at h
    rcases h with h | h
    · exact comps_bit k i h
    · by_cases hM : M.testBit i = true
      · refine ⟨2 * k + 3, by omega, mults_bit _ _ _ (by rw [hm]; exact hM), fun e => ?_⟩
        subst e
        rw [hM, Nat.sub_self] at h
        simp at h
      · rw [Bool.not_eq_true] at hM
        rw [hM] at h
        simp at h
def ones : Nat := (mults 4 18) <<< 1
def two : Nat := sums (sqs 1000) 1000
def cmp : Nat := comps 499
/-- each number that leaves 1 by 4, below a million and more than 1, is a sum of two squares or no prime -/
theorem all_told : (ones ^^^ 2) &&& ((two ||| cmp) ^^^ (ones ^^^ 2)) &&& (2 ^ 1000001 - 1) = 0 := by decide +kernel
theorem mults_has (q : Nat) : ∀ (k j : Nat), j < 2 ^ k → (mults q k).testBit (q * j) = true
  | 0, j, h => by
    have : j = 0 := by omega
    subst this
    rw [Nat.mul_zero]
    simp [mults]
  | k + 1, j, h => by
    unfold mults
    rw [Nat.testBit_or, Nat.testBit_shiftLeft, Bool.or_eq_true, Bool.and_eq_true]
    by_cases hj : j < 2 ^ k
    · exact .inl (mults_has q k j hj)
    · refine .inr ⟨decide_eq_true (Nat.mul_le_mul_left q (by omega)), ?_⟩
      rw [← Nat.mul_sub]
      exact mults_has q k (j - 2 ^ k) (by rw [Nat.pow_succ] at h; omega)
def Prime (p : Nat) : Prop := 2 ≤ p ∧ ∀ d, d ∣ p → d = 1 ∨ d = p
theorem two_squares {p : Nat} (hp : Prime p) (h4 : p % 4 = 1) (hle : p ≤ 1000000) : ∃ a b : Nat, 0 < a ∧ 0 < b ∧ p = a * a + b * b := by
  have h1 : 1 < p := hp.1
  have hones : (ones ^^^ 2).testBit p = true := by
    rw [Nat.testBit_xor]
    have e1 : ones.testBit p = true := by
      unfold ones
      rw [Nat.testBit_shiftLeft, Bool.and_eq_true]
      refine ⟨decide_eq_true (by omega), ?_⟩
      obtain ⟨j, hj⟩ : ∃ j, p - 1 = 4 * j := ⟨(p - 1) / 4, by omega⟩
      rw [hj]
      refine mults_has 4 18 j ?_
      have : (2 : Nat) ^ 18 = 262144 := by decide
      omega
    have e2 : (2 : Nat).testBit p = false := by
      have : p ≠ 1 := by omega
      rw [show (2 : Nat) = 2 ^ 1 by decide, Nat.testBit_two_pow]
      exact decide_eq_false (by omega)
    rw [e1, e2]
    rfl
  have hmask : (2 ^ 1000001 - 1).testBit p = true := by
    rw [Nat.testBit_two_pow_sub_one]
    exact decide_eq_true (by omega)
  have h := congrArg (fun x => x.testBit p) all_told
  simp only [Nat.testBit_and, Nat.zero_testBit, hones, hmask, Bool.true_and, Bool.and_true] at h
  rw [Nat.testBit_xor, hones, Nat.testBit_or] at h
  have h2 : (two.testBit p || cmp.testBit p) = true := by
    cases hx : (two.testBit p || cmp.testBit p) with
    | true => rfl
    | false => rw [hx] at h; cases h
  rw [Bool.or_eq_true] at h2
  rcases h2 with h2 | h2
  · obtain ⟨a, j, ha, hj, e⟩ := sums_bit _ _ _ h2
    obtain ⟨b, hb, e2⟩ := sqs_bit _ _ hj
    exact ⟨a, b, ha, hb, by omega⟩
  · obtain ⟨q, hq, hd, hne⟩ := comps_bit _ _ h2
    rcases hp.2 q hd with z | z
    · omega
    · exact absurd z hne
end Sq

namespace Sq
/-! ### primes -/
theorem has_prime : ∀ n : Nat, 2 ≤ n → ∃ p, Prime p ∧ p ∣ n := by
  intro n
  induction n using Nat.strongRecOn with
  | ind n ih =>
    intro h
    by_cases hp : Prime n
    · exact ⟨n, hp, Nat.dvd_refl _⟩
    · have : ¬ ∀ d, d ∣ n → d = 1 ∨ d = n := fun z => hp ⟨h, z⟩
      obtain ⟨d, hd⟩ := Classical.not_forall.mp this
      have hdn : d ∣ n := Classical.byContradiction fun z => hd fun y => absurd y z
      have h1 : d ≠ 1 := fun z => hd fun _ => .inl z
      have h2 : d ≠ n := fun z => hd fun _ => .inr z
      have h3 : d ≤ n := Nat.le_of_dvd (by omega) hdn
      have h0 : d ≠ 0 := fun z => by rw [z, Nat.zero_dvd] at hdn; omega
      obtain ⟨p, pp, pd⟩ := ih d (by omega) (by omega)
      exact ⟨p, pp, Nat.dvd_trans pd hdn⟩
theorem Prime.cop {p x : Nat} (hp : Prime p) (h : ¬ p ∣ x) : Nat.Coprime p x := by
  rcases hp.2 (Nat.gcd p x) (Nat.gcd_dvd_left _ _) with z | z
  · exact z
  · exact absurd (z ▸ Nat.gcd_dvd_right p x) h
theorem Prime.mul {p x y : Nat} (hp : Prime p) (h : p ∣ x * y) : p ∣ x ∨ p ∣ y := by
  by_cases hx : p ∣ x
  · exact .inl hx
  · exact .inr ((hp.cop hx).dvd_of_dvd_mul_left h)
theorem Prime.imul {p : Nat} {x y : Int} (hp : Prime p) (h : (p : Int) ∣ x * y) : (p : Int) ∣ x ∨ (p : Int) ∣ y := by
  have h1 : p ∣ x.natAbs * y.natAbs := by
    rw [← Int.natAbs_mul]
    have := Int.natAbs_dvd_natAbs.mpr h
    rw [Int.natAbs_natCast] at this
    exact this
  rcases hp.mul h1 with z | z
  · exact .inl (Int.natAbs_dvd_natAbs.mp (by rw [Int.natAbs_natCast]; exact z))
  · exact .inr (Int.natAbs_dvd_natAbs.mp (by rw [Int.natAbs_natCast]; exact z))
/-- no prime goes into both -/
theorem cop_of {x y : Int} (h0 : x ≠ 0 ∨ y ≠ 0) (h : ∀ q : Nat, Prime q → (q : Int) ∣ x → (q : Int) ∣ y → False) : Int.gcd x y = 1 := by
  refine Classical.byContradiction fun hg => ?_
  have hg0 : Int.gcd x y ≠ 0 := fun z => by
    have := Int.gcd_eq_zero_iff.mp z
    rcases h0 with a | a
    · exact a this.1
    · exact a this.2
  obtain ⟨q, hq, hd⟩ := has_prime (Int.gcd x y) (by omega)
  exact h q hq (Int.dvd_trans (Int.natCast_dvd_natCast.mpr hd) (Int.gcd_dvd_left ..)) (Int.dvd_trans (Int.natCast_dvd_natCast.mpr hd) (Int.gcd_dvd_right ..))
theorem not_both {x y : Int} {q : Nat} (hg : Int.gcd x y = 1) (hq : Prime q) (hx : (q : Int) ∣ x) (hy : (q : Int) ∣ y) : False := by
  have := Int.dvd_coe_gcd hx hy
  rw [hg] at this
  have : q ∣ 1 := by exact_mod_cast this
  have := Nat.dvd_one.mp this
  have := hq.1
  omega
/-- one of the two products is without common divisor -/
theorem compose {m n : Int} {p a b : Nat} (hg : Int.gcd m n = 1) (hp : Prime p) (hodd : p % 2 = 1) (ha : 0 < a) (hb : 0 < b) (e : p = a * a + b * b) :
    ∃ x y : Int, x * x + y * y = (m * m + n * n) * p ∧ Int.gcd x y = 1 := by
  have eI : (p : Int) = (a : Int) * a + (b : Int) * b := by rw [e]; simp
  have hmn : m * m + n * n ≠ 0 := fun z => by
    have h1 : 0 ≤ m * m := by have := Int.sq_nonneg m; rw [Int.pow_succ, Int.pow_succ, Int.pow_zero, Int.one_mul] at this; exact this
    have h2 : 0 ≤ n * n := by have := Int.sq_nonneg n; rw [Int.pow_succ, Int.pow_succ, Int.pow_zero, Int.one_mul] at this; exact this
    have m0 : m * m = 0 := by omega
    have n0 : n * n = 0 := by omega
    have m0 : m = 0 := by rcases Int.mul_eq_zero.mp m0 with z | z <;> exact z
    have n0 : n = 0 := by rcases Int.mul_eq_zero.mp n0 with z | z <;> exact z
    rw [m0, n0] at hg
    cases hg
  have hp0 : (p : Int) ≠ 0 := by have := hp.1; omega
  -- a prime into both is p
  have key : ∀ (s : Int), s * s = 1 → ∀ q : Nat, Prime q → (q : Int) ∣ m * a - s * (n * b) → (q : Int) ∣ m * b + s * (n * a) → q = p := fun s hs q hq h1 h2 => by
    have d1 : (q : Int) ∣ m * p := by
      have e1 : m * p = (m * a - s * (n * b)) * a + (m * b + s * (n * a)) * b := by rw [eI]; grind
      rw [e1]
      exact Int.dvd_add (Int.dvd_mul_of_dvd_left h1) (Int.dvd_mul_of_dvd_left h2)
    have d2 : (q : Int) ∣ n * p := by
      have e1 : n * p = s * ((m * b + s * (n * a)) * a - (m * a - s * (n * b)) * b) := by
        have : s * ((m * b + s * (n * a)) * a - (m * a - s * (n * b)) * b) = (s * s) * (n * (a * a + b * b)) := by grind
        rw [this, hs, eI]
        grind
      rw [e1]
      exact Int.dvd_mul_of_dvd_right (Int.dvd_sub (Int.dvd_mul_of_dvd_left h2) (Int.dvd_mul_of_dvd_left h1))
    refine Classical.byContradiction fun hne => ?_
    have hqp : ¬ (q : Int) ∣ (p : Int) := fun z => by
      have z : q ∣ p := by exact_mod_cast z
      rcases hp.2 q z with y | y
      · have := hq.1; omega
      · exact hne y
    have hm := (hq.imul d1).resolve_right hqp
    have hn := (hq.imul d2).resolve_right hqp
    exact not_both hg hq hm hn
  have sq : ∀ s : Int, s * s = 1 → (m * a - s * (n * b)) * (m * a - s * (n * b)) + (m * b + s * (n * a)) * (m * b + s * (n * a)) = (m * m + n * n) * p := fun s hs => by
    rw [eI]
    have : (m * a - s * (n * b)) * (m * a - s * (n * b)) + (m * b + s * (n * a)) * (m * b + s * (n * a)) = m * m * (a * a + b * b) + (s * s) * (n * n * (a * a + b * b)) := by grind
    rw [this, hs]
    grind
  have nz : ∀ s : Int, s * s = 1 → m * a - s * (n * b) ≠ 0 ∨ m * b + s * (n * a) ≠ 0 := fun s hs => by
    refine Classical.byContradiction fun z => ?_
    have z1 : m * a - s * (n * b) = 0 := Classical.byContradiction fun y => z (.inl y)
    have z2 : m * b + s * (n * a) = 0 := Classical.byContradiction fun y => z (.inr y)
    have := sq s hs
    rw [z1, z2] at this
    rcases Int.mul_eq_zero.mp (show (m * m + n * n) * (p : Int) = 0 by omega) with y | y
    · exact hmn y
    · exact hp0 y
  by_cases c1 : Int.gcd (m * a - 1 * (n * b)) (m * b + 1 * (n * a)) = 1
  · exact ⟨_, _, sq 1 (by decide), c1⟩
  · by_cases c2 : Int.gcd (m * a - (-1) * (n * b)) (m * b + (-1) * (n * a)) = 1
    · exact ⟨_, _, sq (-1) (by decide), c2⟩
    · exfalso
      have g1 : (p : Int) ∣ m * a - 1 * (n * b) ∧ (p : Int) ∣ m * b + 1 * (n * a) := Classical.byContradiction fun z => c1 (cop_of (nz 1 (by decide)) fun q hq h1 h2 => by
        have := key 1 (by decide) q hq h1 h2
        subst this
        exact z ⟨h1, h2⟩)
      have g2 : (p : Int) ∣ m * a - (-1) * (n * b) ∧ (p : Int) ∣ m * b + (-1) * (n * a) := Classical.byContradiction fun z => c2 (cop_of (nz (-1) (by decide)) fun q hq h1 h2 => by
        have := key (-1) (by decide) q hq h1 h2
        subst this
        exact z ⟨h1, h2⟩)
      have a_lt : a < p := by
        have : a * 1 ≤ a * a := Nat.mul_le_mul_left a ha
        have : 0 < b * b := Nat.mul_pos hb hb
        omega
      have pa : ¬ (p : Int) ∣ (a : Int) := fun z => by
        have z : p ∣ a := by exact_mod_cast z
        have := Nat.le_of_dvd ha z
        omega
      have p2 : ¬ (p : Int) ∣ 2 := fun z => by
        have z : p ∣ 2 := by exact_mod_cast z
        have := Nat.le_of_dvd (by decide) z
        have := hp.1
        omega
      have d1 : (p : Int) ∣ 2 * (m * a) := by
        have e1 : 2 * (m * a) = (m * a - 1 * (n * b)) + (m * a - (-1) * (n * b)) := by omega
        rw [e1]
        exact Int.dvd_add g1.1 g2.1
      have d2 : (p : Int) ∣ 2 * (n * a) := by
        have e1 : 2 * (n * a) = (m * b + 1 * (n * a)) - (m * b + (-1) * (n * a)) := by omega
        rw [e1]
        exact Int.dvd_sub g1.2 g2.2
      have hm := (hp.imul ((hp.imul d1).resolve_left p2)).resolve_right pa
      have hn := (hp.imul ((hp.imul d2).resolve_left p2)).resolve_right pa
      exact not_both hg hp hm hn
/-- where all primes leave 1 by 4, there is a sum without common divisor -/
theorem prim_rep : ∀ N : Nat, 1 ≤ N → N ≤ 1000000 → (∀ p, Prime p → p ∣ N → p % 4 = 1) → ∃ m n : Int, m * m + n * n = N ∧ Int.gcd m n = 1 := by
  intro N
  induction N using Nat.strongRecOn with
  | ind N ih =>
    intro h1 hle hall
    by_cases hN : N = 1
    · exact ⟨1, 0, by rw [hN]; rfl, rfl⟩
    · obtain ⟨p, hp, k, rfl⟩ := has_prime N (by omega)
      have hp2 := hp.1
      have hk0 : k ≠ 0 := fun z => by rw [z] at h1; omega
      have hkN : k < p * k := by
        have : 2 * k ≤ p * k := Nat.mul_le_mul_right k hp2
        omega
      obtain ⟨m, n, e, g⟩ := ih k hkN (by omega) (by omega) fun q hq hd => hall q hq (Nat.dvd_trans hd (Nat.dvd_mul_left _ _))
      have hp4 := hall p hp (Nat.dvd_mul_right _ _)
      have hpl : p ≤ p * k := Nat.le_mul_of_pos_right p (by omega)
      obtain ⟨a, b, ha, hb, eab⟩ := two_squares hp hp4 (by omega)
      obtain ⟨x, y, exy, gxy⟩ := compose (m := m) (n := n) g hp (by omega) ha hb eab
      refine ⟨x, y, ?_, gxy⟩
      rw [exy, e, Int.natCast_mul, Int.mul_comm]
end Sq

namespace Sq
/-! ### the primes of a number, as the program finds them -/
theorem Prime.one {p q : Nat} (hp : Prime p) (hq : Prime q) (h : p ∣ q) : p = q := by
  have := hp.1
  rcases hq.2 p h with z | z
  · omega
  · exact z
open Classical in
noncomputable def isPr (N p : Nat) : Bool := decide (Prime p ∧ p ∣ N)
open Classical in
theorem isPr_iff {N p : Nat} : isPr N p = true ↔ Prime p ∧ p ∣ N := by unfold isPr; exact decide_eq_true_iff
noncomputable def below (N d : Nat) : List Nat := (List.range d).filter (isPr N)
noncomputable def primesOf (N : Nat) : List Nat := below N (N + 1)
def bar (p : Nat) : Bool := decide (p = 2) || decide (p % 4 = 3)
noncomputable def barring (N : Nat) : List Nat := (primesOf N).filter bar
theorem below_succ (N d : Nat) : below N (d + 1) = below N d ++ if isPr N d = true then [d] else [] := by
  unfold below
  rw [List.range_succ, List.filter_append]
  congr 1
  cases h : isPr N d <;> simp [h]
theorem below_len (N d : Nat) : (below N d).length ≤ d := by
  unfold below
  exact Nat.le_trans (List.length_filter_le _ _) (by rw [List.length_range]; exact Nat.le_refl _)
theorem below_more {N : Nat} : ∀ (c d : Nat), (∀ p, d ≤ p → p < d + c → isPr N p = false) → below N (d + c) = below N d
  | 0, d, _ => rfl
  | c + 1, d, h => by
    rw [← Nat.add_assoc, below_succ, h (d + c) (by omega) (by omega), below_more c d fun p h1 h2 => h p h1 (by omega)]
    simp
theorem mem_primes {N p : Nat} (h0 : 0 < N) : p ∈ primesOf N ↔ Prime p ∧ p ∣ N := by
  unfold primesOf below
  rw [List.mem_filter, List.mem_range, isPr_iff]
  exact ⟨fun h => h.2, fun h => ⟨Nat.lt_succ_of_le (Nat.le_of_dvd h0 h.2), h⟩⟩
theorem mem_barring {N p : Nat} (h0 : 0 < N) : p ∈ barring N ↔ (Prime p ∧ p ∣ N) ∧ (p = 2 ∨ p % 4 = 3) := by
  unfold barring
  rw [List.mem_filter, mem_primes h0]
  unfold bar
  rw [Bool.or_eq_true, decide_eq_true_iff, decide_eq_true_iff]
/-- what stands ahead of a turn: rest holds just the primes from d on -/
def Rest (N d r : Nat) : Prop := 0 < r ∧ r ≤ N ∧ ∀ p, Prime p → (p ∣ r ↔ p ∣ N ∧ d ≤ p)
theorem rest_start {N : Nat} (h : 0 < N) : Rest N 2 N := ⟨h, Nat.le_refl _, fun p hp => ⟨fun z => ⟨z, hp.1⟩, fun z => z.1⟩⟩
theorem rest_here {N d r : Nat} (h : Rest N d r) (hd : 2 ≤ d) : isPr N d = decide (r % d = 0) := by
  by_cases z : r % d = 0
  · rw [decide_eq_true z, isPr_iff]
    have zd : d ∣ r := Nat.dvd_of_mod_eq_zero z
    obtain ⟨q, hq, hqd⟩ := has_prime d hd
    have h1 := ((h.2.2 q hq).mp (Nat.dvd_trans hqd zd)).2
    have h2 := Nat.le_of_dvd (by omega) hqd
    have e : q = d := by omega
    subst e
    exact ⟨hq, ((h.2.2 q hq).mp zd).1⟩
  · rw [decide_eq_false z]
    cases e : isPr N d with
    | false => rfl
    | true =>
      obtain ⟨h1, h2⟩ := isPr_iff.mp e
      exact absurd (Nat.mod_eq_zero_of_dvd ((h.2.2 d h1).mpr ⟨h2, Nat.le_refl _⟩)) z
/-- within the inner loop -/
def Mid (N d r : Nat) : Prop := 0 < r ∧ r ≤ N ∧ (r % d = 0 → Prime d) ∧ ∀ p, Prime p → p ≠ d → (p ∣ r ↔ p ∣ N ∧ d ≤ p)
theorem mid_start {N d r : Nat} (h : Rest N d r) (hd : 2 ≤ d) : Mid N d r := ⟨h.1, h.2.1, fun z => by
  have e := rest_here h hd
  rw [decide_eq_true z] at e
  exact (isPr_iff.mp e).1, fun p hp _ => h.2.2 p hp⟩
theorem mid_step {N d r : Nat} (h : Mid N d r) (hd : 2 ≤ d) (z : r % d = 0) : Mid N d (r / d) ∧ r / d < r := by
  obtain ⟨h1, h2, h3, h4⟩ := h
  obtain ⟨k, rfl⟩ := Nat.dvd_of_mod_eq_zero z
  rw [Nat.mul_div_cancel_left _ (by omega)]
  have hk : 0 < k := Nat.pos_of_ne_zero fun y => by rw [y] at h1; omega
  have hlt : k < d * k := by
    have : 2 * k ≤ d * k := Nat.mul_le_mul_right k hd
    omega
  refine ⟨⟨hk, by omega, fun _ => h3 z, fun p hp hne => ?_⟩, hlt⟩
  rw [← h4 p hp hne]
  refine ⟨fun y => Nat.dvd_trans y (Nat.dvd_mul_left _ _), fun y => ?_⟩
  rcases hp.mul y with y | y
  · exact absurd (hp.one (h3 z) y) hne
  · exact y
theorem mid_end {N d r : Nat} (h : Mid N d r) (z : r % d ≠ 0) : Rest N (d + 1) r := by
  obtain ⟨h1, h2, h3, h4⟩ := h
  refine ⟨h1, h2, fun p hp => ?_⟩
  by_cases e : p = d
  · subst e
    exact ⟨fun y => absurd (Nat.mod_eq_zero_of_dvd y) z, fun y => absurd y.2 (by omega)⟩
  · rw [h4 p hp e]
    exact ⟨fun y => ⟨y.1, by omega⟩, fun y => ⟨y.1, by omega⟩⟩
theorem rest_prime {N d r : Nat} (h : Rest N d r) (hd : 2 ≤ d) (hlt : r < d * d) (h1 : 1 < r) : Prime r ∧ r ∣ N ∧ d ≤ r := by
  obtain ⟨q, hq, k, rfl⟩ := has_prime r h1
  have hqd := ((h.2.2 q hq).mp (Nat.dvd_mul_right _ _)).2
  have hk0 : 0 < k := Nat.pos_of_ne_zero fun y => by rw [y] at h1; omega
  by_cases hk : k = 1
  · subst hk
    rw [Nat.mul_one] at h ⊢
    exact ⟨hq, ((h.2.2 q hq).mp (Nat.dvd_refl _)).1, hqd⟩
  · obtain ⟨p, hp, hpk⟩ := has_prime k (by omega)
    have hpd := ((h.2.2 p hp).mp (Nat.dvd_trans hpk (Nat.dvd_mul_left _ _))).2
    have h3 := Nat.le_of_dvd hk0 hpk
    have h4 : d * d ≤ q * k := Nat.mul_le_mul hqd (by omega)
    omega
theorem rest_done {N d r : Nat} (h : Rest N d r) (hN : 0 < N) (hd : 2 ≤ d) (hlt : r < d * d) : primesOf N = below N d ++ if 1 < r then [r] else [] := by
  unfold primesOf
  by_cases h1 : 1 < r
  · obtain ⟨hp, hn, hdr⟩ := rest_prime h hd hlt h1
    rw [if_pos h1]
    have e1 : below N r = below N d := by
      have := below_more (N := N) (r - d) d fun p hp1 hp2 => by
        cases e : isPr N p with
        | false => rfl
        | true =>
          obtain ⟨a, b⟩ := isPr_iff.mp e
          have c := (h.2.2 p a).mpr ⟨b, hp1⟩
          have := a.one hp c
          omega
      rw [show d + (r - d) = r by omega] at this
      exact this
    have hrN := Nat.le_of_dvd hN hn
    have e2 : below N (N + 1) = below N (r + 1) := by
      have := below_more (N := N) (N - r) (r + 1) fun p hp1 hp2 => by
        cases e : isPr N p with
        | false => rfl
        | true =>
          obtain ⟨a, b⟩ := isPr_iff.mp e
          have c := (h.2.2 p a).mpr ⟨b, by omega⟩
          have := a.one hp c
          omega
      rw [show r + 1 + (N - r) = N + 1 by omega] at this
      exact this
    rw [e2, below_succ, e1, if_pos (isPr_iff.mpr ⟨hp, hn⟩)]
  · rw [if_neg h1, List.append_nil]
    have hr1 : r = 1 := by have := h.1; omega
    have none_ : ∀ p, d ≤ p → isPr N p = false := fun p hp1 => by
      cases e : isPr N p with
      | false => rfl
      | true =>
        obtain ⟨a, b⟩ := isPr_iff.mp e
        have c := (h.2.2 p a).mpr ⟨b, hp1⟩
        rw [hr1] at c
        have := Nat.le_of_dvd (by decide) c
        have := a.1
        omega
    by_cases hdN : d ≤ N + 1
    · have := below_more (N := N) (N + 1 - d) d fun p hp1 _ => none_ p hp1
      rw [show d + (N + 1 - d) = N + 1 by omega] at this
      exact this
    · have := below_more (N := N) (d - (N + 1)) (N + 1) fun p hp1 hp2 => by
        cases e : isPr N p with
        | false => rfl
        | true =>
          obtain ⟨a, b⟩ := isPr_iff.mp e
          have := Nat.le_of_dvd hN b
          omega
      rw [show N + 1 + (d - (N + 1)) = d by omega] at this
      exact this.symm
/-- two to the number of them is no more -/
theorem below_pow {N : Nat} (h0 : 0 < N) : ∀ d : Nat, ∃ k, 0 < k ∧ k ∣ N ∧ 2 ^ (below N d).length ≤ k ∧ ∀ p, Prime p → p ∣ k → p < d
  | 0 => ⟨1, by decide, Nat.one_dvd _, Nat.le_refl _, fun p hp hd => by
      have := Nat.le_of_dvd (by decide) hd
      have := hp.1
      omega⟩
  | d + 1 => by
    obtain ⟨k, h1, h2, h3, h4⟩ := below_pow h0 d
    rw [below_succ]
    by_cases e : isPr N d = true
    · obtain ⟨hp, hd⟩ := isPr_iff.mp e
      rw [if_pos e, List.length_append, List.length_singleton, Nat.pow_succ]
      have hc : Nat.Coprime d k := hp.cop fun z => absurd (h4 d hp z) (by omega)
      refine ⟨d * k, Nat.mul_pos (by have := hp.1; omega) h1, hc.mul_dvd_of_dvd_of_dvd hd h2, ?_, fun p pp pd => ?_⟩
      · rw [Nat.mul_comm]
        exact Nat.mul_le_mul hp.1 h3
      · rcases pp.mul pd with z | z
        · rw [pp.one hp z]; omega
        · have := h4 p pp z; omega
    · rw [if_neg e, List.append_nil]
      exact ⟨k, h1, h2, h3, fun p pp pd => by have := h4 p pp pd; omega⟩
theorem primes_len {N : Nat} (h0 : 0 < N) (h1 : N ≤ 1000000) : (primesOf N).length ≤ 20 := by
  obtain ⟨k, h2, h3, h4, _⟩ := below_pow h0 (N + 1)
  have h5 := Nat.le_of_dvd h0 h3
  refine Nat.le_of_not_lt fun z => ?_
  have h6 : 2 ^ 20 ≤ 2 ^ (below N (N + 1)).length := Nat.pow_le_pow_right (by decide) (Nat.le_of_lt z)
  have h7 : (2 : Nat) ^ 20 = 1048576 := by decide
  omega
/-! ### prime, by trying -/
def tryPrime (r p : Nat) : Bool := !(List.range (r - 1)).any fun i => decide (p % (i + 2) = 0)
theorem tryPrime_iff {r p : Nat} (hp : 2 ≤ p) (h1 : r * r ≤ p) (h2 : p < (r + 1) * (r + 1)) : tryPrime r p = true ↔ Prime p := by
  unfold tryPrime
  rw [Bool.not_eq_true', List.any_eq_false]
  constructor
  · intro h
    obtain ⟨q, hq, k, rfl⟩ := has_prime p hp
    have hk0 : 0 < k := Nat.pos_of_ne_zero fun y => by rw [y] at hp; omega
    by_cases hk : k = 1
    · subst hk; rw [Nat.mul_one]; exact hq
    · have hq2 := hq.1
      rcases Nat.lt_or_ge r q with hrq | hqr
      · have hkr : k ≤ r := by
          refine Nat.le_of_not_lt fun z => ?_
          have : (r + 1) * (r + 1) ≤ q * k := Nat.mul_le_mul hrq z
          omega
        exact absurd (decide_eq_true (show q * k % (k - 2 + 2) = 0 by rw [show k - 2 + 2 = k by omega]; exact Nat.mul_mod_left _ _)) (h (k - 2) (List.mem_range.mpr (by omega)))
      · exact absurd (decide_eq_true (show q * k % (q - 2 + 2) = 0 by rw [show q - 2 + 2 = q by omega]; exact Nat.mul_mod_right _ _)) (h (q - 2) (List.mem_range.mpr (by omega)))
  · intro h i hi z
    have hi := List.mem_range.mp hi
    have z := Nat.dvd_of_mod_eq_zero (of_decide_eq_true z)
    rcases h.2 _ z with y | y
    · omega
    · have : (i + 2) * (i + 2) ≤ r * r := Nat.mul_le_mul (by omega) (by omega)
      have h3 : 2 * (i + 2) ≤ (i + 2) * (i + 2) := Nat.mul_le_mul_right _ (by omega)
      omega
end Sq

namespace Sq
abbrev isq (n : Nat) : Nat := PySem.Float64.isqrt n
theorem isq_lo (n : Nat) : isq n * isq n ≤ n := (PySem.Float64.isqrt_spec n).1
theorem isq_hi (n : Nat) : n < (isq n + 1) * (isq n + 1) := (PySem.Float64.isqrt_spec n).2
theorem isq_of {n r : Nat} (h1 : r * r ≤ n) (h2 : n < (r + 1) * (r + 1)) : isq n = r := by
  have a := isq_lo n
  have b := isq_hi n
  generalize isq n = s at *
  refine Nat.le_antisymm (Nat.le_of_not_lt fun h => ?_) (Nat.le_of_not_lt fun h => ?_)
  · have : (r + 1) * (r + 1) ≤ s * s := Nat.mul_le_mul h h
    omega
  · have : (s + 1) * (s + 1) ≤ r * r := Nat.mul_le_mul h h
    omega
theorem isq_mono {a b : Nat} (h : a ≤ b) : isq a ≤ isq b := Nat.le_of_not_lt fun z => by
  have h1 := isq_lo a
  have h2 := isq_hi b
  have : (isq b + 1) * (isq b + 1) ≤ isq a * isq a := Nat.mul_le_mul z z
  omega
theorem isq_le (n : Nat) : isq n ≤ n := by
  have h := isq_lo n
  refine Nat.le_of_not_lt fun z => ?_
  have h1 : 1 * isq n ≤ isq n * isq n := Nat.mul_le_mul_right _ (by omega)
  omega
theorem isq_small {n : Nat} (h : n ≤ 1000000) : isq n ≤ 1000 := Nat.le_of_not_lt fun z => by
  have h1 := isq_lo n
  have : 1001 * 1001 ≤ isq n * isq n := Nat.mul_le_mul z z
  omega
/-! ### pairs of numbers -/
abbrev NN := Nat × Nat
def pairN (m n : Nat) : Bool := decide (0 < n) && decide (n < m) && (decide ((m + n) % 2 = 1) && decide (Nat.gcd m n = 1))
theorem pairN_iff {m n : Nat} : pairN m n = true ↔ 0 < n ∧ n < m ∧ (m + n) % 2 = 1 ∧ Nat.gcd m n = 1 := by
  unfold pairN
  simp only [Bool.and_eq_true, decide_eq_true_eq, and_assoc]
theorem pairN_no {m n : Nat} (h : ¬ (0 < n ∧ n < m ∧ (m + n) % 2 = 1 ∧ Nat.gcd m n = 1)) : pairN m n = false := by
  cases e : pairN m n with
  | false => rfl
  | true => exact absurd (pairN_iff.mp e) h
/-- what n turns give, a turn at most one -/
def few {α : Type} (c : Nat → Bool) (f : Nat → α) (k : Nat) : List α := (List.range k).flatMap fun i => if c i = true then [f i] else []
section
variable {α : Type} {c c' : Nat → Bool} {f f' : Nat → α}
theorem few_zero : few c f 0 = [] := rfl
theorem few_succ (k : Nat) : few c f (k + 1) = few c f k ++ if c k = true then [f k] else [] := by
  unfold few
  rw [List.range_succ, List.flatMap_append]
  simp
theorem few_yes {k : Nat} (h : c k = true) : few c f (k + 1) = few c f k ++ [f k] := by rw [few_succ, if_pos h]
theorem few_no {k : Nat} (h : c k = false) : few c f (k + 1) = few c f k := by rw [few_succ, if_neg (by rw [h]; decide), List.append_nil]
theorem few_len (k : Nat) : (few c f k).length ≤ k := by
  induction k with
  | zero => exact Nat.le_refl _
  | succ k ih =>
    rw [few_succ, List.length_append]
    split <;> simp <;> omega
theorem few_more (a : Nat) : ∀ b : Nat, (∀ i, a ≤ i → i < a + b → c i = false) → few c f (a + b) = few c f a
  | 0, _ => rfl
  | b + 1, h => by
    rw [← Nat.add_assoc, few_no (h (a + b) (by omega) (by omega)), few_more a b fun i h1 h2 => h i h1 (by omega)]
theorem few_le {a b : Nat} (hab : a ≤ b) (h : ∀ i, a ≤ i → i < b → c i = false) : few c f b = few c f a := by
  have := few_more (f := f) a (b - a) fun i h1 h2 => h i h1 (by omega)
  rwa [show a + (b - a) = b by omega] at this
theorem few_same : ∀ k : Nat, (∀ i, i < k → c i = c' i) → (∀ i, i < k → c i = true → f i = f' i) → few c f k = few c' f' k
  | 0, _, _ => rfl
  | k + 1, h, h' => by
    rw [few_succ, few_succ, few_same k (fun i hi => h i (by omega)) fun i hi => h' i (by omega), h k (Nat.lt_succ_self k)]
    cases e : c' k with
    | false => rfl
    | true => rw [if_pos rfl, if_pos rfl, h' k (Nat.lt_succ_self k) (by rw [h k (Nat.lt_succ_self k)]; exact e)]
theorem few_mem {x : α} : ∀ {k : Nat}, x ∈ few c f k ↔ ∃ i, i < k ∧ c i = true ∧ x = f i := by
  intro k
  unfold few
  rw [List.mem_flatMap]
  constructor
  · rintro ⟨i, h1, h2⟩
    have h1 := List.mem_range.mp h1
    by_cases z : c i = true
    · rw [if_pos z] at h2
      exact ⟨i, h1, z, List.mem_singleton.mp h2⟩
    · rw [if_neg z] at h2; cases h2
  · rintro ⟨i, h1, h2, rfl⟩
    exact ⟨i, List.mem_range.mpr h1, by rw [if_pos h2]; exact List.mem_singleton.mpr rfl⟩
/-- filters over filters -/
theorem filter_map_few (p : α → Bool) (k : Nat) : ((List.range k).map f).filter p = few (fun i => p (f i)) f k := by
  induction k with
  | zero => rfl
  | succ k ih =>
    rw [List.range_succ, List.map_append, List.filter_append, few_succ, ih]
    congr 1
    cases e : p (f k) <;> simp [e]
theorem few_map {β : Type} (g : α → β) (k : Nat) : (few c f k).map g = few c (fun i => g (f i)) k := by
  induction k with
  | zero => rfl
  | succ k ih =>
    rw [few_succ, few_succ, List.map_append, ih]
    congr 1
    cases c k <;> rfl
theorem few_filter (p : α → Bool) (k : Nat) : (few c f k).filter p = few (fun i => c i && p (f i)) f k := by
  induction k with
  | zero => rfl
  | succ k ih =>
    rw [few_succ, few_succ, List.filter_append, ih]
    congr 1
    cases e : c k with
    | false => rfl
    | true => cases e2 : p (f k) <;> simp [e2]
end
/-! ### the triples with a given longest side -/
def lonC (N i : Nat) : NN := (isq (N - (i + 1) * (i + 1)), i + 1)
def lonT (N : Nat) (x : NN) : Bool := decide (x.1 * x.1 + x.2 * x.2 = N) && pairN x.1 x.2
def lonN (N : Nat) : List NN := few (fun i => lonT N (lonC N i)) (lonC N) (isq (N / 2))
theorem lon_more {N k : Nat} (h : isq (N / 2) ≤ k) : few (fun i => lonT N (lonC N i)) (lonC N) k = lonN N := by
  refine few_le h fun i h1 h2 => ?_
  cases e : lonT N (lonC N i) with
  | false => rfl
  | true =>
    unfold lonT at e
    rw [Bool.and_eq_true, pairN_iff] at e
    have e1 := of_decide_eq_true e.1
    obtain ⟨_, e3, _⟩ := e.2
    have hd := isq_hi (N / 2)
    have e4 : (isq (N / 2) + 1) * (isq (N / 2) + 1) ≤ (i + 1) * (i + 1) := Nat.mul_le_mul (by omega) (by omega)
    have e3 : i + 1 < (lonC N i).1 := e3
    have e5 : (i + 1) * (i + 1) ≤ (lonC N i).1 * (lonC N i).1 := Nat.mul_le_mul (by omega) (by omega)
    have e1 : (lonC N i).1 * (lonC N i).1 + (i + 1) * (i + 1) = N := e1
    have e6 : (i + 1) * (i + 1) ≤ N / 2 := by omega
    omega
theorem lon_pair {N : Nat} {x : NN} (h : x ∈ lonN N) : pairN x.1 x.2 = true ∧ x.1 * x.1 + x.2 * x.2 = N := by
  obtain ⟨i, _, h2, rfl⟩ := few_mem.mp h
  unfold lonT at h2
  rw [Bool.and_eq_true] at h2
  exact ⟨h2.2, of_decide_eq_true h2.1⟩
theorem lon_have {N m n : Nat} (h : pairN m n = true) (e : m * m + n * n = N) : (m, n) ∈ lonN N := by
  obtain ⟨h1, h2, h3, h4⟩ := pairN_iff.mp h
  have hm : isq (N - n * n) = m := isq_of (by omega) (by
    have : (m + 1) * (m + 1) = m * m + 2 * m + 1 := by grind
    omega)
  have hnm : n * n < m * m := Nat.mul_lt_mul'' h2 h2
  have hn : n ≤ isq (N / 2) := Nat.le_of_not_lt fun z => by
    have := isq_hi (N / 2)
    have h5 : (isq (N / 2) + 1) * (isq (N / 2) + 1) ≤ n * n := Nat.mul_le_mul z z
    omega
  have ec : lonC N (n - 1) = (m, n) := by
    unfold lonC
    rw [show n - 1 + 1 = n by omega, hm]
  refine few_mem.mpr ⟨n - 1, by omega, ?_, ec.symm⟩
  rw [ec]
  unfold lonT
  rw [Bool.and_eq_true]
  exact ⟨decide_eq_true e, h⟩
/-- where no prime bars, there is one -/
theorem lon_some {N : Nat} (h2 : 2 ≤ N) (hle : N ≤ 1000000) (hb : barring N = []) : lonN N ≠ [] := by
  have nob : ∀ p, Prime p → p ∣ N → ¬ (p = 2 ∨ p % 4 = 3) := fun p hp hd z => by
    have := (mem_barring (N := N) (by omega)).mpr ⟨⟨hp, hd⟩, z⟩
    rw [hb] at this; cases this
  have two : Prime 2 := ⟨by decide, fun d hd => by
    have := Nat.le_of_dvd (by decide) hd
    have h0 : d ≠ 0 := fun z => by rw [z, Nat.zero_dvd] at hd; cases hd
    omega⟩
  have hodd : N % 2 = 1 := by
    have := nob 2 two
    rcases Nat.mod_two_eq_zero_or_one N with z | z
    · exact absurd (.inl rfl) (this (Nat.dvd_of_mod_eq_zero z))
    · exact z
  obtain ⟨m, n, e, g⟩ := prim_rep N (by omega) hle fun p hp hd => by
    have h3 := nob p hp hd
    have hp2 := hp.1
    have h4 : p % 2 = 1 := by
      rcases Nat.mod_two_eq_zero_or_one p with z | z
      · have h5 := Nat.dvd_trans (Nat.dvd_of_mod_eq_zero z) hd
        have := Nat.mod_eq_zero_of_dvd h5
        omega
      · exact z
    have h6 : p % 4 < 4 := Nat.mod_lt _ (by decide)
    have h7 : p % 4 ≠ 3 := fun z => h3 (.inr z)
    omega
  have key : ∀ a b : Nat, a * a + b * b = N → Nat.gcd a b = 1 → b ≤ a → (a, b) ∈ lonN N := fun a b e g hab => by
    refine lon_have (pairN_iff.mpr ⟨?_, ?_, ?_, g⟩) e
    · refine Nat.pos_of_ne_zero fun z => ?_
      subst z
      rw [Nat.gcd_zero_right] at g
      subst g
      omega
    · refine Nat.lt_of_le_of_ne hab fun z => ?_
      subst z
      rw [Nat.gcd_self] at g
      subst g
      omega
    · have e1 := congrArg (· % 2) e
      have e2 : (a * a + b * b) % 2 = (a + b) % 2 := by
        rcases Nat.mod_two_eq_zero_or_one a with z | z <;> rcases Nat.mod_two_eq_zero_or_one b with y | y <;> simp [Nat.add_mod, Nat.mul_mod, z, y]
      have e1 : (a * a + b * b) % 2 = N % 2 := e1
      omega
  have e' : m.natAbs * m.natAbs + n.natAbs * n.natAbs = N := by
    have h1 : ((m.natAbs * m.natAbs : Nat) : Int) = m * m := by rw [Int.natCast_mul]; exact Int.natAbs_mul_self' m
    have h2 : ((n.natAbs * n.natAbs : Nat) : Int) = n * n := by rw [Int.natCast_mul]; exact Int.natAbs_mul_self' n
    omega
  have g' : Nat.gcd m.natAbs n.natAbs = 1 := g
  intro z
  rcases Nat.le_total n.natAbs m.natAbs with h | h
  · have := key _ _ e' g' h
    rw [z] at this; cases this
  · have := key _ _ (by rw [Nat.add_comm]; exact e') (by rw [Nat.gcd_comm]; exact g') h
    rw [z] at this; cases this
/-! ### the triples with a given leg -/
def legC (N i : Nat) : NN := if N % 2 = 0 then (N / 2 / (i + 1), i + 1) else ((N / (i + 1) + (i + 1)) / 2, (N / (i + 1) - (i + 1)) / 2)
def legD (N i : Nat) : Bool := if N % 2 = 0 then decide (N / 2 % (i + 1) = 0) else decide (N % (i + 1) = 0)
def legR (N : Nat) : Nat := if N % 2 = 0 then isq (N / 2) else isq N
def legN (N : Nat) : List NN := few (fun i => legD N i && pairN (legC N i).1 (legC N i).2) (legC N) (legR N)
theorem leg_pair {N : Nat} {x : NN} (h : x ∈ legN N) : pairN x.1 x.2 = true := by
  obtain ⟨i, _, h2, rfl⟩ := few_mem.mp h
  rw [Bool.and_eq_true] at h2
  exact h2.2
theorem leg_some {N : Nat} (h2 : 2 ≤ N) (h4 : N % 4 ≠ 2) : legN N ≠ [] := by
  have h1 : 0 < legR N := by
    unfold legR
    split
    · refine Nat.pos_of_ne_zero fun z => ?_
      have := isq_hi (N / 2)
      rw [z] at this
      omega
    · refine Nat.pos_of_ne_zero fun z => ?_
      have := isq_hi N
      rw [z] at this
      omega
  intro z
  have : legC N 0 ∈ legN N := few_mem.mpr ⟨0, h1, ?_, rfl⟩
  · rw [z] at this; cases this
  · unfold legD legC
    by_cases e : N % 2 = 0
    · rw [if_pos e, if_pos e, Bool.and_eq_true]
      refine ⟨decide_eq_true (Nat.mod_one _), pairN_iff.mpr ⟨Nat.succ_pos _, ?_, ?_, ?_⟩⟩
      · show 0 + 1 < N / 2 / (0 + 1)
        rw [Nat.zero_add, Nat.div_one]; omega
      · show (N / 2 / (0 + 1) + (0 + 1)) % 2 = 1
        rw [Nat.zero_add, Nat.div_one]; omega
      · show Nat.gcd _ (0 + 1) = 1
        rw [Nat.zero_add, Nat.gcd_one_right]
    · rw [if_neg e, if_neg e, Bool.and_eq_true]
      refine ⟨decide_eq_true (Nat.mod_one _), pairN_iff.mpr ?_⟩
      show 0 < (N / (0 + 1) - (0 + 1)) / 2 ∧ (N / (0 + 1) - (0 + 1)) / 2 < (N / (0 + 1) + (0 + 1)) / 2 ∧ ((N / (0 + 1) + (0 + 1)) / 2 + (N / (0 + 1) - (0 + 1)) / 2) % 2 = 1 ∧ Nat.gcd ((N / (0 + 1) + (0 + 1)) / 2) ((N / (0 + 1) - (0 + 1)) / 2) = 1
      rw [Nat.zero_add, Nat.div_one]
      obtain ⟨k, rfl⟩ : ∃ k, N = 2 * k + 1 := ⟨N / 2, by omega⟩
      rw [show (2 * k + 1 + 1) / 2 = k + 1 by omega, show (2 * k + 1 - 1) / 2 = k by omega]
      refine ⟨by omega, by omega, by omega, ?_⟩
      rw [Nat.gcd_comm, Nat.gcd_self_add_right, Nat.gcd_one_right]
/-- the law's own turns -/
def lawL1 (N i : Nat) : Bool := decide (N % (i + 1) = 0) && decide (i + 1 < N / (i + 1)) && decide (Nat.gcd (i + 1) (N / (i + 1)) = 1) && decide (N % 2 = 1)
def lawL2 (N i : Nat) : Bool := decide (N % 4 = 0) && decide (N / 2 % (i + 1) = 0) && decide (i + 1 < N / 2 / (i + 1)) && decide (Nat.gcd (i + 1) (N / 2 / (i + 1)) = 1)
theorem gcd_half {d e : Nat} (hd : d % 2 = 1) (he : e % 2 = 1) (h : d < e) : Nat.gcd ((e + d) / 2) ((e - d) / 2) = 1 ↔ Nat.gcd d e = 1 := by
  obtain ⟨m, hm⟩ : ∃ m, e + d = 2 * m := ⟨(e + d) / 2, by omega⟩
  obtain ⟨n, hn⟩ : ∃ n, e - d = 2 * n := ⟨(e - d) / 2, by omega⟩
  rw [hm, hn, Nat.mul_div_cancel_left _ (by decide), Nat.mul_div_cancel_left _ (by decide)]
  have e1 : e = m + n := by omega
  have e2 : d = m - n := by omega
  have hnm : n ≤ m := by omega
  constructor
  · intro g
    refine Nat.dvd_one.mp ?_
    have a := Nat.gcd_dvd_left d e
    have b := Nat.gcd_dvd_right d e
    generalize hg : Nat.gcd d e = c at a b ⊢
    have hc : c % 2 = 1 := by
      rcases Nat.mod_two_eq_zero_or_one c with z | z
      · have := Nat.mod_eq_zero_of_dvd (Nat.dvd_trans (Nat.dvd_of_mod_eq_zero z) a)
        omega
      · exact z
    have c2 : Nat.Coprime c 2 := by
      unfold Nat.Coprime
      rw [Nat.gcd_comm, Nat.gcd_rec, hc]
      rfl
    have d1 : c ∣ 2 * m := by rw [← hm]; exact Nat.dvd_add b a
    have d2 : c ∣ 2 * n := by rw [← hn]; exact Nat.dvd_sub b a
    rw [← g]
    exact Nat.dvd_gcd (c2.dvd_of_dvd_mul_left d1) (c2.dvd_of_dvd_mul_left d2)
  · intro g
    refine Nat.dvd_one.mp ?_
    rw [← g]
    have a := Nat.gcd_dvd_left m n
    have b := Nat.gcd_dvd_right m n
    refine Nat.dvd_gcd ?_ ?_
    · rw [e2]; exact Nat.dvd_sub a b
    · rw [e1]; exact Nat.dvd_add a b
theorem law_leg1 {N i : Nat} (h : N % 2 = 1) : lawL1 N i = (legD N i && pairN (legC N i).1 (legC N i).2) := by
  have hodd : ¬ N % 2 = 0 := by omega
  unfold lawL1 legD legC
  rw [if_neg hodd, if_neg hodd]
  by_cases hd : N % (i + 1) = 0
  · rw [decide_eq_true hd, Bool.true_and, Bool.true_and, decide_eq_true h, Bool.and_true]
    obtain ⟨e, he⟩ := Nat.dvd_of_mod_eq_zero hd
    rw [he, Nat.mul_div_cancel_left _ (by omega)]
    have hpar : (i + 1) % 2 = 1 ∧ e % 2 = 1 := by
      rw [he, Nat.mul_mod] at h
      rcases Nat.mod_two_eq_zero_or_one (i + 1) with z | z <;> rcases Nat.mod_two_eq_zero_or_one e with y | y <;> rw [z, y] at h <;> simp at h
      exact ⟨z, y⟩
    obtain ⟨p1, p2⟩ := hpar
    generalize hx : i + 1 = d at *
    by_cases hlt : d < e
    · rw [decide_eq_true hlt, Bool.true_and]
      have hg := gcd_half p1 p2 hlt
      by_cases g : Nat.gcd d e = 1
      · rw [decide_eq_true g]
        exact (pairN_iff.mpr ⟨by omega, by omega, by omega, hg.mpr g⟩).symm
      · rw [decide_eq_false g]
        exact (pairN_no fun z => g (hg.mp z.2.2.2)).symm
    · rw [decide_eq_false hlt, Bool.false_and]
      exact (pairN_no fun z => by
        have := z.1
        have e0 : (e - d) / 2 = 0 := by rw [Nat.sub_eq_zero_of_le (by omega)]
        rw [e0] at this
        omega).symm
  · rw [decide_eq_false hd, Bool.false_and, Bool.false_and, Bool.false_and, Bool.false_and]
theorem law_leg2 {N i : Nat} (h : N % 2 = 0) : lawL2 N i = (legD N i && pairN (legC N i).1 (legC N i).2) := by
  unfold lawL2 legD legC
  rw [if_pos h, if_pos h]
  show _ = (decide (N / 2 % (i + 1) = 0) && pairN (N / 2 / (i + 1)) (i + 1))
  by_cases hd : N / 2 % (i + 1) = 0
  · rw [decide_eq_true hd, Bool.and_true, Bool.true_and]
    obtain ⟨e, he⟩ := Nat.dvd_of_mod_eq_zero hd
    have e4 : (N % 4 = 0) = ((i + 1) * e % 2 = 0) := propext ⟨fun z => by omega, fun z => by omega⟩
    rw [he, Nat.mul_div_cancel_left _ (by omega)]
    generalize hx : i + 1 = d at *
    by_cases hlt : d < e
    · rw [decide_eq_true hlt, Bool.and_true]
      by_cases g : Nat.gcd d e = 1
      · rw [decide_eq_true g, Bool.and_true]
        have nb : ¬ (d % 2 = 0 ∧ e % 2 = 0) := fun z => by
          have := Nat.dvd_gcd (Nat.dvd_of_mod_eq_zero z.1) (Nat.dvd_of_mod_eq_zero z.2)
          rw [g] at this
          have := Nat.le_of_dvd (by decide) this
          omega
        have hm : d * e % 2 = (d % 2) * (e % 2) % 2 := Nat.mul_mod _ _ _
        by_cases z : N % 4 = 0
        · rw [decide_eq_true z]
          have z := e4 ▸ z
          refine (pairN_iff.mpr ⟨by omega, hlt, ?_, by rw [Nat.gcd_comm]; exact g⟩).symm
          rcases Nat.mod_two_eq_zero_or_one d with p | p <;> rcases Nat.mod_two_eq_zero_or_one e with q | q <;> rw [p, q] at hm <;> first | omega | exact absurd (And.intro p q) nb
        · rw [decide_eq_false z]
          have z : ¬ d * e % 2 = 0 := fun y => z (e4 ▸ y)
          refine (pairN_no fun y => ?_).symm
          have y := y.2.2.1
          rcases Nat.mod_two_eq_zero_or_one d with p | p <;> rcases Nat.mod_two_eq_zero_or_one e with q | q <;> rw [p, q] at hm <;> omega
      · rw [decide_eq_false g, Bool.and_false]
        exact (pairN_no fun z => g (by rw [Nat.gcd_comm]; exact z.2.2.2)).symm
    · rw [decide_eq_false hlt, Bool.and_false, Bool.false_and]
      exact (pairN_no fun z => hlt z.2.1).symm
  · rw [decide_eq_false hd, Bool.and_false, Bool.false_and, Bool.false_and, Bool.false_and]
/-- the law's list after k turns -/
def lawLegs (N k : Nat) : List NN := (List.range k).flatMap fun i => (if lawL1 N i = true then [((N / (i + 1) + (i + 1)) / 2, (N / (i + 1) - (i + 1)) / 2)] else []) ++ if lawL2 N i = true then [(N / 2 / (i + 1), i + 1)] else []
theorem lawLegs_succ (N k : Nat) : lawLegs N (k + 1) = lawLegs N k ++ ((if lawL1 N k = true then [((N / (k + 1) + (k + 1)) / 2, (N / (k + 1) - (k + 1)) / 2)] else []) ++ if lawL2 N k = true then [(N / 2 / (k + 1), k + 1)] else []) := by
  unfold lawLegs
  rw [List.range_succ, List.flatMap_append]
  simp
theorem lawLegs_len (N : Nat) : ∀ k, (lawLegs N k).length ≤ 2 * k
  | 0 => Nat.le_refl _
  | k + 1 => by
    have := lawLegs_len N k
    rw [lawLegs_succ, List.length_append, List.length_append]
    split <;> split <;> simp <;> omega
theorem lawLegs_few (N : Nat) : ∀ k, lawLegs N k = few (fun i => legD N i && pairN (legC N i).1 (legC N i).2) (legC N) k
  | 0 => rfl
  | k + 1 => by
    rw [lawLegs_succ, few_succ, lawLegs_few N k]
    congr 1
    rcases Nat.mod_two_eq_zero_or_one N with h | h
    · have e1 : lawL1 N k = false := by unfold lawL1; rw [decide_eq_false (show ¬ N % 2 = 1 by omega), Bool.and_false]
      rw [e1, law_leg2 h, if_neg (by decide), List.nil_append]
      have : legC N k = (N / 2 / (k + 1), k + 1) := if_pos h
      rw [this]
    · have e1 : lawL2 N k = false := by unfold lawL2; rw [decide_eq_false (show ¬ N % 4 = 0 by omega), Bool.false_and, Bool.false_and, Bool.false_and]
      rw [e1, law_leg1 h, if_neg (show ¬ false = true by decide), List.append_nil]
      have : legC N k = ((N / (k + 1) + (k + 1)) / 2, (N / (k + 1) - (k + 1)) / 2) := if_neg (by omega)
      rw [this]
theorem lawLegs_all (N : Nat) : lawLegs N (isq N) = legN N := by
  rw [lawLegs_few]
  unfold legN
  refine few_le ?_ fun i h1 h2 => ?_
  · unfold legR
    split
    · exact isq_mono (Nat.div_le_self _ _)
    · exact Nat.le_refl _
  · unfold legR at h1
    by_cases h : N % 2 = 0
    · rw [if_pos h] at h1
      have e : legC N i = (N / 2 / (i + 1), i + 1) := if_pos h
      rw [e, pairN_no, Bool.and_false]
      rintro ⟨_, z, _⟩
      have z : i + 1 < N / 2 / (i + 1) := z
      have h3 := isq_hi (N / 2)
      have h4 : (isq (N / 2) + 1) * (isq (N / 2) + 1) ≤ (i + 1) * (i + 1) := Nat.mul_le_mul (by omega) (by omega)
      have h5 : N / 2 / (i + 1) * (i + 1) ≤ N / 2 := Nat.div_mul_le_self _ _
      have h6 : (i + 1) * (i + 1) ≤ N / 2 / (i + 1) * (i + 1) := Nat.mul_le_mul_right _ (by omega)
      omega
    · rw [if_neg h] at h1
      omega
theorem leg_none {N : Nat} (h : N % 4 = 2) : legN N = [] := by
  unfold legN
  have h2 : N % 2 = 0 := by omega
  have : few (fun i => legD N i && pairN (legC N i).1 (legC N i).2) (legC N) (legR N) = few (fun i => legD N i && pairN (legC N i).1 (legC N i).2) (legC N) 0 := by
    refine few_le (Nat.zero_le _) fun i _ _ => ?_
    rw [← law_leg2 h2]
    unfold lawL2
    rw [decide_eq_false (show ¬ N % 4 = 0 by omega), Bool.false_and, Bool.false_and, Bool.false_and]
  rw [this]
  rfl
theorem lon_len {N : Nat} (h : N ≤ 1000000) : (lonN N).length ≤ 1000 := Nat.le_trans (few_len _) (isq_small (by omega))
theorem leg_len {N : Nat} (h : N ≤ 1000000) : (legN N).length ≤ 1000 := by
  refine Nat.le_trans (few_len _) ?_
  unfold legR
  split
  · exact isq_small (by omega)
  · exact isq_small h
end Sq

namespace Sq
open PySem PySem.Spec PyProof.Rows L2 Evl
/-! ### triples as data; sorted of such -/
def up (x : NN) : P2 := ((x.1 : Int), (x.2 : Int))
def tn (x : NN) : PyData := td (up x)
noncomputable def leN : NN → NN → Bool := PySem.W.dataLe false tn
theorem tn_ref {K : PySem.W.Frag} {H : Hp} {v : V} {x : NN} (h : DV K H v (tn x)) : ∃ t, v = .ref t := by
  unfold tn td at h
  cases h with
  | tup a b => exact ⟨_, rfl⟩
def rSortedN (K : PySem.W.Frag) : List V → Hp → VK → Prop := fun vs H Q => ∃ (a : Addr) (ps : List NN) (xs : List V), vs = [.ref a] ∧ SqL K H a xs ∧ DVs K H xs (ps.map tn) ∧
  ∀ ys p, H p = none → DVs K (upd H p (.lst ys)) ys ((ps.mergeSort leN).map tn) → Q (.ref p) (upd H p (.lst ys))
theorem backV_ref {K : PySem.W.Frag} {H : Hp} : ∀ {ps : List NN} {out : List Value}, PySem.W.EachIs (fun v p => ∃ t, v = Value.ref t ∧ DV K H (.ref t) (tn p)) out ps → (∀ u ∈ out, ∃ a, u = Value.ref a) ∧ DVs K H (out.map backV) (ps.map tn)
  | _, _, .nil => ⟨fun u h => (by cases h), .nil⟩
  | _, _, .cons ⟨t, e, h⟩ r => by
    obtain ⟨h1, h2⟩ := backV_ref r
    refine ⟨fun u hu => ?_, ?_⟩
    · rcases List.mem_cons.mp hu with z | z
      · exact ⟨t, z.trans e⟩
      · exact h1 u z
    · subst e
      exact .cons h h2
section
variable {X : Cx} {K : PySem.W.Frag}
theorem each_of {pins : List (Addr × Obj)} {s : Shared} {σ : L2.St} {H : Hp} (I : Inv X pins σ H s) : ∀ {ps : List NN} {xs : List V} {its : List Value}, Vals xs its → DVs X.K H xs (ps.map tn) →
    PySem.W.EachIs (fun v p => ∃ t, v = Value.ref t ∧ DV X.K H (.ref t) (tn p)) its ps ∧ PySem.W.EachIs (fun v p => ∃ as, Reads s.heap v (tn p) as) its ps
  | [], _, _, r, h => by cases h; cases r; exact ⟨.nil, .nil⟩
  | p :: ps, _, _, r, h => by
    cases h with
    | cons a b =>
      cases r with
      | cons r1 r2 =>
        obtain ⟨t, rfl⟩ := tn_ref a
        obtain ⟨g1, g2⟩ := each_of I r2 b
        obtain ⟨as, g3⟩ := Dp.reads I (tn p) (.ref t) _ (a.dp (shaped_td _)) r1
        exact ⟨.cons ⟨t, r1, a⟩ g1, .cons ⟨as, g3⟩ g2⟩
theorem cr_sortedN (hK : X.K = K) (hu : X.A.units + 64 < cLine) : CallR X (.builtin "sorted") (rSortedN K) := by
  subst hK
  intro pins s σ H vs us Q I r h
  obtain ⟨a, ps, xs, rfl, hs, hx, q⟩ := h
  obtain ⟨its, rv, hl, hz⟩ := I.list hs
  obtain ⟨u, rfl, ru⟩ := vals1 r
  obtain rfl : u = Value.ref a := ru
  obtain ⟨g1, g2⟩ := each_of I rv hx
  have hlen : ps.length = xs.length := by rw [hx.len, List.length_map]
  refine PySem.W.sorted_data (enc := tn) (bs := ps) hl.isList g1 g2 (PySem.W.AllAlike.of fun p p' => by simp [PySem.W.alike, PySem.W.alikeAll, tn, td]) (PySem.W.Sortable.tuples fun p => ⟨_, _, rfl⟩) (by rw [hlen]; exact hz) (fun p _ => ?_) fun out ho eo => ?_
  · have hd : (tn p).depth = 1 := by simp [tn, td, PyData.depth, PyData.depthAll]
    omega
  · obtain ⟨h1, h2⟩ := backV_ref eo
    obtain ⟨ep, he'⟩ := PyProof.Rows.sortedAll_at s.heap its out.toArray
    have hl2 : (out.map backV).length ≤ sizeLine := by rw [List.length_map, ho, hlen]; exact hz
    have nf := I.hok.fresh (Nat.le_succ s.heap.objs.size)
    exact ⟨.ref _, upd H (s.heap.objs.size + 1) (.lst (out.map backV)), I.laid (t' := s.toks) (fun _ _ => PyProof.Rows.sortedAll_old) (Nat.le_succ _) ⟨hl2, out, ep, vals_back h1, he'⟩, rfl, q _ _ nf (h2.ex (Ex.new nf))⟩
end
section
variable {K : PySem.W.Frag} {σ : L2.St} {H : Hp} {te : TE}
theorem eld_sorted {ps : List NN} (h : EvD K te σ H (.list (ps.map tn))) : EvLD K (tCB (rSortedN K) (tCons te tNil)) σ H ((ps.mergeSort leN).map tn) := fun H1 a _ q =>
  h H1 a _ fun v H2 e2 hv => by
    cases hv with
    | @lst p xs _ hp hx => exact ⟨p, ps, xs, rfl, hp, hx, fun ys l nl hy => q l ys _ (fresh_back e2 nl) (e2.trans (Ex.new nl)) upd_same hy⟩
end
end Sq

namespace Sq
open PySem PySem.Spec PyProof.Rows L2 Evl
/-! ### comprehensions whose items are numbers or tuples of numbers -/
def IntD (d : PyData) : Prop := (∃ i, d = .int i) ∨ ∃ is : List Int, d = .tuple (is.map .int)
theorem intD_pd (p : P2) : IntD (pd p) := .inr ⟨[p.1, p.2], rfl⟩
theorem intD_td (p : P2) : IntD (td p) := .inr ⟨[_, _, _], rfl⟩
theorem intD_i (i : Int) : IntD (.int i) := .inl ⟨i, rfl⟩
section
variable {K : PySem.W.Frag} {H H' : Hp}
theorem dv_intD (h : ∀ a xs, SqT K H a xs → SqT K H' a xs) {d : PyData} (hd : IntD d) {v : V} (hv : DV K H v d) : DV K H' v d := by
  rcases hd with ⟨i, rfl⟩ | ⟨is, rfl⟩
  · rw [dvi hv]; exact .int i
  · exact dv_ints h hv
theorem dvs_intD (h : ∀ a xs, SqT K H a xs → SqT K H' a xs) : ∀ {ds : List PyData} {vs : List V}, (∀ d ∈ ds, IntD d) → DVs K H vs ds → DVs K H' vs ds
  | [], _, _, hv => by cases hv; exact .nil
  | d :: ds, _, hd, hv => by
    cases hv with
    | cons a b => exact .cons (dv_intD h (hd d List.mem_cons_self) a) (dvs_intD h (fun e he => hd e (List.mem_cons_of_mem _ he)) b)
theorem intD_few {c : Nat → Bool} {f : Nat → PyData} (h : ∀ i, IntD (f i)) (k : Nat) : ∀ d ∈ few c f k, IntD d := fun d hd => by
  obtain ⟨i, _, _, rfl⟩ := few_mem.mp hd
  exact h i
def CwD (K : PySem.W.Frag) (H : Hp) (c : Nat → Bool) (f : Nat → PyData) (Dl : Addr) (i : Nat) (H' : Hp) : Prop := H Dl = none ∧ Ex H H' ∧ ∃ acc, H' Dl = some (.lst acc) ∧ DVs K H' acc (few c f i)
variable {te : TE} {t : TT} {c : Nat → Bool} {f : Nat → PyData} {Dl : Addr} {i : Nat} {σ2 σ : L2.St} {tl : TE}
theorem cwD_turn (hI : ∀ i, IntD (f i)) (p : CwD K H c f Dl i H') (hi : i < 50000) (ht : EvT t σ2 H (c i)) (he : c i = true → EvD K te σ2 H (f i)) :
    t σ2 H' fun b H3 => if b = true then te σ2 H3 fun y H4 => ∃ acc, H4 Dl = some (.lst acc) ∧ acc.length < sizeLine ∧ CwD K H c f Dl (i + 1) (upd H4 Dl (.lst (acc ++ [y]))) else CwD K H c f Dl (i + 1) H3 := by
  obtain ⟨p1, p2, acc, p3, p4⟩ := p
  refine ht H' p2 _ fun H3 e3 => ?_
  cases hf : c i with
  | true =>
    show te σ2 H3 fun y H4 => ∃ acc, H4 Dl = some (.lst acc) ∧ acc.length < sizeLine ∧ CwD K H c f Dl (i + 1) (upd H4 Dl (.lst (acc ++ [y])))
    refine he hf H3 (p2.trans e3) _ fun y H4 e4 hy => ?_
    have h4 := e4 Dl _ (e3 Dl _ p3)
    have hl : acc.length ≤ i := by rw [p4.len]; exact few_len i
    refine ⟨acc, h4, sz_lt (by omega), p1, Ex.mut ((p2.trans e3).trans e4) p1, _, upd_same, ?_⟩
    rw [few_yes hf]
    refine DVs.append ?_ (.cons ?_ .nil)
    · exact dvs_intD (fun a xs h => sqT_upd h4 h) (intD_few hI i) (p4.ex (e3.trans e4))
    · exact dv_intD (fun a xs h => sqT_upd h4 h) (hI i) hy
  | false =>
    show CwD K H c f Dl (i + 1) H3
    refine ⟨p1, p2.trans e3, acc, e3 Dl _ p3, ?_⟩
    rw [few_no hf]
    exact p4.ex e3
theorem eld_lcR2 {tA : TA} {j : Nat} {vs : List Nat} {lo hi : Int} {n : Nat} (c : Nat → Bool) (f : Nat → PyData) (hI : ∀ i, IntD (f i)) (h : EvA tA σ H [.int lo, .int hi]) (hn : n = (hi - lo).toNat) (hb : -100000 ≤ lo ∧ lo ≤ 100000 ∧ -100000 ≤ hi ∧ hi ≤ 40000 ∧ n ≤ 40000) (hw : ∀ x, wipe ((wipe σ vs).set j (some x)) vs = wipe σ vs)
    (ht : ∀ (i : Nat) H1, Ex H H1 → i < n → EvT t ((wipe σ vs).set j (some (.int (lo + (i : Int))))) H1 (c i)) (he : ∀ (i : Nat) H1, Ex H H1 → i < n → c i = true → EvD K te ((wipe σ vs).set j (some (.int (lo + (i : Int))))) H1 (f i)) :
    EvLD K (tLc (iRng2 tA) (gName j) t te vs) σ H (few c f n) := by
  intro H0 e Q q
  refine h H0 e _ fun H1 e1 => ⟨lo, hi, rfl, ⟨by omega, by omega, by omega, by omega⟩, fun Dl hD => ?_⟩
  rw [← hn]
  refine lc_range (lo := lo) (n := n) (CwD K H1 c f Dl) ⟨hD, Ex.new hD, [], upd_same, .nil⟩ (fun i H' hi p => ⟨hw _, cwD_turn hI p (by omega) (ht i H1 (e.trans e1) hi) (fun hc => he i H1 (e.trans e1) hi hc)⟩) fun H' p => ?_
  obtain ⟨p1, p2, acc, p3, p4⟩ := p
  exact q Dl acc H' (fresh_back e1 p1) (e1.trans p2) p3 p4
theorem few_list {α : Type} {ds : List α} {dflt : α} (c : α → Bool) (f : α → PyData) : few (fun i => c (ds.getD i dflt)) (fun i => f (ds.getD i dflt)) ds.length = (ds.filter c).map f := by
  have key : ∀ (k : Nat), k ≤ ds.length → few (fun i => c (ds.getD i dflt)) (fun i => f (ds.getD i dflt)) k = ((ds.take k).filter c).map f := by
    intro k
    induction k with
    | zero => intro _; rfl
    | succ k ih =>
      intro hk
      have hk' : k < ds.length := hk
      rw [few_succ, ih (by omega), List.take_succ, List.getElem?_eq_getElem hk', List.filter_append, List.map_append]
      congr 1
      have e : ds.getD k dflt = ds[k] := by simp [List.getD, hk']
      rw [e]
      show _ = List.map f (List.filter c [ds[k]])
      cases h : c ds[k] <;> simp [h]
  rw [key ds.length (Nat.le_refl _), List.take_length]
/-- over a list of data, one name -/
theorem eld_lcL {ds : List PyData} {j : Nat} {vs : List Nat} (c : PyData → Bool) (f : PyData → PyData) (hI : ∀ d, IntD (f d)) (h : EvD K tl σ H (.list ds)) (hz : ds.length ≤ 40000) (hw : ∀ x, wipe ((wipe σ vs).set j (some x)) vs = wipe σ vs)
    (ht : ∀ d x H1, Ex H H1 → d ∈ ds → DV K H1 x d → EvT t ((wipe σ vs).set j (some x)) H1 (c d)) (he : ∀ d x H1, Ex H H1 → d ∈ ds → DV K H1 x d → c d = true → EvD K te ((wipe σ vs).set j (some x)) H1 (f d)) :
    EvLD K (tLc (iList K tl) (gName j) t te vs) σ H ((ds.filter c).map f) := by
  intro H0 e Q q
  refine h H0 e _ fun w H1 e1 hw1 => ?_
  cases hw1 with
  | @lst a xs _ hp hx =>
    have hlen := hx.len
    refine ⟨a, rfl, ⟨xs, hp⟩, fun Dl hD => lc_list (xs := xs) (CwD K H1 (fun i => c (ds.getD i .none)) (fun i => f (ds.getD i .none)) Dl) ⟨hD, Ex.new hD, [], upd_same, .nil⟩ (fun i H' _ p => ex_l p.2.1 hp) (fun i x H' hi p => ⟨hw x, ?_⟩) fun H' p => ?_⟩
    · obtain ⟨d, h1, h2⟩ := hx.get hi
      have e2 : ds.getD i .none = d := by rw [List.getD, h1]; rfl
      refine cwD_turn (fun i => hI _) p (by have := (List.getElem?_eq_some_iff.mp hi).1; omega) ?_ fun hc => ?_
      · rw [e2]; exact ht d x H1 (e.trans e1) (List.mem_of_getElem? h1) h2
      · rw [e2] at hc ⊢; exact he d x H1 (e.trans e1) (List.mem_of_getElem? h1) h2 hc
    · obtain ⟨p1, p2, acc, p3, p4⟩ := p
      rw [hlen, few_list] at p4
      exact q Dl acc H' (fresh_back e1 p1) (e1.trans p2) p3 p4
/-- over a list of pairs, two names -/
theorem eld_lcP {ps : List NN} {j l : Nat} {vs : List Nat} (c : NN → Bool) (f : NN → PyData) (hI : ∀ d, IntD (f d)) (h : EvD K tl σ H (.list (ps.map fun x => pd (up x)))) (hz : ps.length ≤ 40000) (hw : ∀ x y, wipe (((wipe σ vs).set j (some x)).set l (some y)) vs = wipe σ vs)
    (ht : ∀ (p : NN) H1, Ex H H1 → p ∈ ps → EvT t (((wipe σ vs).set j (some (.int (p.1 : Int)))).set l (some (.int (p.2 : Int)))) H1 (c p)) (he : ∀ (p : NN) H1, Ex H H1 → p ∈ ps → c p = true → EvD K te (((wipe σ vs).set j (some (.int (p.1 : Int)))).set l (some (.int (p.2 : Int)))) H1 (f p)) :
    EvLD K (tLc (iList K tl) (gTup K 2 (gCons (gName j) (gCons (gName l) gNil))) t te vs) σ H ((ps.filter c).map f) := by
  intro H0 e Q q
  refine h H0 e _ fun w H1 e1 hw1 => ?_
  cases hw1 with
  | @lst a xs _ hp hx =>
    have hlen : xs.length = ps.length := by rw [hx.len, List.length_map]
    refine ⟨a, rfl, ⟨xs, hp⟩, fun Dl hD => lc_list (xs := xs) (CwD K H1 (fun i => c (ps.getD i (0, 0))) (fun i => f (ps.getD i (0, 0))) Dl) ⟨hD, Ex.new hD, [], upd_same, .nil⟩ (fun i H' _ p => ex_l p.2.1 hp) (fun i x H' hi p => ?_) fun H' p => ?_⟩
    · obtain ⟨d, h1, h2⟩ := hx.get hi
      rw [List.getElem?_map] at h1
      cases hps : ps[i]? with
      | none => rw [hps] at h1; cases h1
      | some z =>
        rw [hps] at h1
        cases Option.some.inj h1
        have e2 : ps.getD i (0, 0) = z := by rw [List.getD, hps]; rfl
        have h3 := h2.ex p.2.1
        cases h3 with
        | @tup b ys _ hb hy =>
          cases dvs2i hy
          refine ⟨b, _, rfl, hb, rfl, _, _, rfl, _, _, rfl, rfl, hw _ _, ?_⟩
          refine cwD_turn (fun i => hI _) p (by have := (List.getElem?_eq_some_iff.mp hi).1; omega) ?_ fun hc => ?_
          · rw [e2]; exact ht z H1 (e.trans e1) (List.mem_of_getElem? hps)
          · rw [e2] at hc ⊢; exact he z H1 (e.trans e1) (List.mem_of_getElem? hps) hc
    · obtain ⟨p1, p2, acc, p3, p4⟩ := p
      rw [hlen, few_list] at p4
      exact q Dl acc H' (fresh_back e1 p1) (e1.trans p2) p3 p4
theorem few_all {c : Nat → Bool} {f : Nat → PyData} (h : ∀ i, c i = true) (n : Nat) : few c f n = (List.range n).map f := by
  induction n with
  | zero => rfl
  | succ n ih => rw [few_yes (h n), ih, List.range_succ, List.map_append]; rfl
theorem any_lcR2 {tA : TA} {j : Nat} {vs : List Nat} {lo hi : Int} {n : Nat} (f : Nat → Bool) (h : EvA tA σ H [.int lo, .int hi]) (hn : n = (hi - lo).toNat) (hb : -100000 ≤ lo ∧ lo ≤ 100000 ∧ -100000 ≤ hi ∧ hi ≤ 40000 ∧ n ≤ 40000) (hw : ∀ x, wipe ((wipe σ vs).set j (some x)) vs = wipe σ vs)
    (he : ∀ (i : Nat) H1, Ex H H1 → i < n → Ev te ((wipe σ vs).set j (some (.int (lo + (i : Int))))) H1 (.bl (f i))) :
    Ev (tCB (rAny K) (tCons (tLc (iRng2 tA) (gName j) tYes te vs) tNil)) σ H (.bl ((List.range n).any f)) := by
  intro H0 e Q q
  refine h H0 e _ fun H1 e1 => ⟨lo, hi, rfl, ⟨by omega, by omega, by omega, by omega⟩, fun Dl hD => ?_⟩
  rw [← hn]
  refine lc_range (lo := lo) (n := n) (Cw H1 (fun _ => true) (fun i => V.bl (f i)) Dl) ⟨hD, Ex.new hD, upd_same⟩ (fun i H' hi p => ⟨hw _, cw_turn p (by omega) tYes_t fun _ => he i H1 (e.trans e1) hi⟩) fun H' p => ?_
  have e3 := p.2.2
  rw [given_all] at e3
  have e4 : (List.range n).map (fun i => V.bl (f i)) = ((List.range n).map f).map V.bl := by rw [List.map_map]; rfl
  rw [e4] at e3
  refine ⟨Dl, (List.range n).map f, rfl, sq_of e3, ?_⟩
  have e5 : ((List.range n).map f).any id = (List.range n).any f := by rw [List.any_map]; rfl
  rw [e5]
  exact q H' (e1.trans p.2.1)
end
section
variable {X : Cx} {K : PySem.W.Frag}
theorem k_any (h : X.K = K) (hc : X.calm = true) : CallR X (.builtin "any") (rAny K) := by subst h; exact cr_any hc
theorem k_in (h : X.K = K) : OpR X (compareOp .In) (rIn K false) := by subst h; exact op_in_seq
theorem k_notin (h : X.K = K) : OpR X (compareOp .NotIn) (rIn K true) := by subst h; exact op_notIn_seq
theorem k_index (h : X.K = K) : MtR X "list.index" (rIndex K) := by subst h; exact mt_index
end
end Sq

namespace Sq
open PySem PySem.Spec PyProof.Rows L2 Evl
/-! ### the law's call, where the base has no seer: what isqrt and great divisions ask -/
/-- the heap in which at most the script is known, and that as it stands -/
structure Begin (K : PySem.W.Frag) (h : Heap) (a : Addr) (vs : List Value) (ns : List Int) (H : Hp) : Prop where
  only : ∀ b u, H b = some u → b = a ∧ u = .frz { cls := .type "list", data := .seq vs.toArray } (.lst (ns.map V.int)) ∧ K.lookup b = none
  there : h.get? a = some { cls := .type "list", data := .seq vs.toArray }
  sq : SqL K H a (ns.map V.int)
section
variable {K : PySem.W.Frag} {h : Heap} {a : Addr} {vs : List Value} {ns : List Int} {H : Hp}
theorem begin_of (KX : K.In h) (ha : h.get? a = some { cls := .type "list", data := .seq vs.toArray }) (hi : IntsAre vs ns) (hl : ns.length ≤ sizeLine) : ∃ H, Begin K h a vs ns H := by
  by_cases hk : K.lookup a = none
  · refine ⟨fun b => if b = a then some (.frz { cls := .type "list", data := .seq vs.toArray } (.lst (ns.map V.int))) else none, ⟨fun b u e => ?_, ha, .inl (.inr ⟨_, if_pos rfl⟩)⟩⟩
    by_cases hb : b = a
    · subst hb
      exact ⟨rfl, (Option.some.inj ((if_pos rfl).symm.trans e)).symm, hk⟩
    · exact nomatch (if_neg hb).symm.trans e
  · refine ⟨fun _ => none, ⟨fun _ _ e => (nomatch e), ha, ?_⟩⟩
    cases e : K.lookup a with
    | none => exact absurd e hk
    | some o =>
      have same : o = _ := Option.some.inj ((KX a o e).symm.trans ha)
      subst same
      exact .inr ⟨_, vs.toArray, _, e, rfl, rfl, rfl, by rw [List.size_toArray, hi.length]; exact hl, vals_ints hi⟩
/-- what is no list is seen in the base -/
theorem Begin.see (B : Begin K h a vs ns H) {b : Addr} {o : Obj} (e : h.get? b = some o) (n : o.cls ≠ .type "list" ∨ ∃ es ep, o.data = .dict es ep) : (hidT h H).get? b = some o := by
  refine hidT_get e ?_
  cases z : H b with
  | none => rfl
  | some u =>
    have hb := (B.only b u z).1
    rw [hb] at e
    have eo := Option.some.inj (B.there.symm.trans e)
    subst eo
    rcases n with n | ⟨es, ep, n⟩
    · exact absurd rfl n
    · exact nomatch n
theorem Begin.space (B : Begin K h a vs ns H) {b : Addr} {m : Str → Option Value} (x : h.Ns b m) : (hidT h H).Ns b m := by
  obtain ⟨o, es, ep, e, d, r⟩ := x
  exact ⟨o, es, ep, B.see e (.inr ⟨es, ep, d⟩), d, r⟩
theorem Begin.seer (B : Begin K h a vs ns H) (S : h.NoSeer) : (hidT h H).NoSeer where
  statics := S.statics.imp fun _ x => ⟨B.space x.1, x.2⟩
  mods := S.mods.imp fun _ x => ⟨B.space x.1, x.2⟩
  imp := S.imp.imp fun _ x => ⟨B.space x.1, x.2⟩
  main := S.main.imp fun _ x => x.imp fun _ y => y.imp fun ob z => ⟨B.space z.1, z.2.1, B.see z.2.2.1 (.inl (by rw [z.2.2.2.1]; intro w; injection w with w; exact absurd w (by decide))), z.2.2.2⟩
theorem Begin.known (B : Begin K h a vs ns H) (X : K.In h) : K.In (hidT h H) := fun b o e => hidT_get (X b o e) (by
  cases z : H b with
  | none => rfl
  | some u => exact nomatch (B.only b u z).2.2.symm.trans e)
theorem Begin.holds (B : Begin K h a vs ns H) {P : Program} {w : World} (hi : IntsAre vs ns) (hl : ns.length ≤ sizeLine) : HOk P w H h := fun b u z => by
  obtain ⟨hb, hu, _⟩ := B.only b u z
  subst hb hu
  exact ⟨B.there, by rw [List.length_map]; exact hl, vs, _, vals_ints hi, B.there⟩
end
/-- a promise of data, kept over every base without a seer: the law's call gives True and leaves all as it was -/
theorem law_true {P : Program} {w : World} {K : PySem.W.Frag} {mg mb : Str → Option Value} {k : Nat} {fa a : Addr} {fd : FuncData} {x : Str} {R : Rel} {s : Shared} {vs : List Value} {ns : List Int}
    (KX : K.In s.heap) (hm : s.heap.Ns mainGlobals mg) (hb : s.heap.Ns builtinsNs mb) (hbb : ∀ x : Str, x ≠ "__name__" → mb x = bootBuiltins x) (hlim : s.heap.NoLimit) (hg : s.gens = #[]) (hS : s.heap.NoSeer)
    (ha : s.heap.get? a = some { cls := .type "list", data := .seq vs.toArray }) (hi : IntsAre vs ns) (hl : ns.length ≤ sizeLine) (hr : Room k callerA)
    (F : ∀ base : Heap, K.In base → base.Ns mainGlobals mg → base.NoSeer → FnOk P w K mg base CX0 k fa fd [x] (spF K R)) (bind : ∀ (s : Shared) (u : Value), BindsTo s fd ⟨[u], []⟩ [(x, u)])
    (hR : R [.list (ns.map .int)] (.bool true)) :
    codeAny (model P w) callerA (.call (.ref fa) ⟨[.ref a], []⟩) (fun r s' => r = .ok (.ret (.bool true)) ∧ OldK s.heap s'.heap ∧ s'.os = s.os ∧ AllBare s'.gens) s := by
  obtain ⟨H, B⟩ := begin_of KX ha hi hl
  have frame : Env0 P w K mg (hidT s.heap H) callerA [] s H := {
    frames := rfl
    mod := ⟨B.known KX, B.space hm, ⟨mb, B.space hb, hbb⟩, hlim.imp fun _ y => ⟨B.space y.1, y.2⟩⟩
    bs := fun _ _ y => of_hidT y
    bsz := Nat.le_of_eq (hidT_size _ _)
    funs := trivial
    frf := fun b y => nomatch y
    hok := B.holds hi hl
    bare := .of_eq hg }
  have run := (F _ (B.known KX) (B.space hm) (B.seer hS)).run callerA [] s H ⟨[.ref a], []⟩ [.ref a] [.ref a] (fun v _ => v = .bl true) (fun _ _ _ => False) hr frame (bind s (.ref a)) (.cons rfl .nil)
    ⟨[.list (ns.map .int)], .bool true, .cons (.lst B.sq (vals_ints' ns)) .nil, hR, fun v _ _ hv => by cases hv; rfl⟩
  refine codeAny_mono run fun r s' out => ?_
  match r, out with
  | .ok (.ret u), out =>
    obtain ⟨v, H', os, bare, un, ok', ru, rfl⟩ := out
    cases (show u = Value.bool true from ru)
    refine ⟨rfl, OldK.of_keep fun b o e => ?_, os, bare⟩
    cases z : H b with
    | none => exact un.keep b o e z (fun y => nomatch y) (fun y => nomatch y)
    | some u =>
      obtain ⟨hba, hu, _⟩ := B.only b u z
      subst hu
      have after := (ok' b _ (un.frzs b _ _ z)).1
      rw [hba] at e ⊢
      rw [hba] at after
      rw [after, ← e, B.there]
theorem sm_bits {z : Int} (h : Builtin.Int.intBits z ≤ 1048576) : Sm 1048577 z := by
  unfold Builtin.Int.intBits at h
  by_cases h0 : z = 0
  · subst h0
    exact Sm.up (show (0 : Int).natAbs < 2 ^ 2 by decide) (by decide)
  · rw [if_neg (by simpa using h0)] at h
    have h1 : z.natAbs ≠ 0 := by omega
    refine Sm.up (a := z.natAbs.log2 + 1) (Nat.lt_log2_self) (by omega)
/-- the goal that k_head leaves, from a promise of data: the law's def gives True -/
theorem walk_S {l : PySem.W.OpenLaw} {k : Nat} {q : Program} {loose : List Str} {XP : (Str → Option Value) → Heap → Prop} {YP : World → Heap → Prop} {d : DefRec} {K : Params → PySem.W.Frag} {R : Rel} {x : Str}
    (hn : l.most = some 63) (hdf : d.params.defaults = []) (hr : Room k callerA) (hq : importsNone q = true)
    (hY : ∀ (w : World) (h : Heap), YP w h → (K w.params).In h)
    (F : ∀ (w : World) (mg : Str → Option Value) (fa : Addr) (h : Heap), (K w.params).In h → h.Ns mainGlobals mg → mg d.name = some (.ref fa) →
      ∃ fd : FuncData, (∀ (s : Shared) (u : Value), BindsTo s fd ⟨[u], []⟩ [(x, u)]) ∧
        ∀ base : Heap, (K w.params).In base → base.Ns mainGlobals mg → base.NoSeer → FnOk l.prog w (K w.params) mg base CX0 k fa fd [x] (spF (K w.params) R))
    (hR : ∀ ns : List Int, ns.length ≤ 63 → (∀ c ∈ ns, Sm 1048577 c) → R [.list (ns.map .int)] (.bool true)) :
    PySem.W.WalkO q loose XP YP l.row.toRowW d [] (fun f vs => PySem.call f vs) := by
  refine Att.attach_callB hn hdf fun w s₀ s₁ mg mb fa o pm cd doc a vs ns G Y ho hd hcd hmg hobj hints hlen hbits hg => ?_
  have KX := hY w _ Y
  obtain ⟨fd, hb, hF⟩ := F w mg fa _ KX G.T.g hmg
  exact law_true KX G.T.g G.T.b G.T.builtins G.T.nolimit hg (G.T.seer hq) hobj hints (Nat.le_trans hlen (by decide)) hr hF hb (hR ns hlen fun c hc => sm_bits (hbits c hc))
theorem cal_of {P : Program} {w : World} {K : PySem.W.Frag} {mg : Str → Option Value} {base : Heap} {CX : CXT} {x : Str} {k : Nat} {ps : List Str} {sp : Sp} {f : Addr} {fd : FuncData} (hm : mg x = some (.ref f)) (hk : PySem.W.keepIn K (.ref f) = true) (hb : Binds K fd ps [])
    (F : FnOk P w K mg base CX k f fd ps sp) : Cal P w K mg base CX x k ps sp := ⟨f, fd, hm, hk, hb, F⟩
end Sq

namespace Sq
open PySem PySem.Spec PyProof.Rows L2 Evl

/-! ### a def that is handed the error which its caller's except suite holds -/
abbrev SpP := Addr → Value → Option Addr → List V → Hp → VK → Prop
structure FnP (P : Program) (w : World) (K : PySem.W.Frag) (mg : Str → Option Value) (base : Heap) (k : Nat) (f : Addr) (fd : FuncData) (ps : List Str) (sp : SpP) : Prop where
  len : ∀ a c d vs H Q, sp a c d vs H Q → vs.length = ps.length
  run : ∀ (a : Addr) (oe : Obj) (c : Value) (d : Option Addr), Zc c d oe → (∃ fs, oe.data = .fields fs) → ∀ (A : Around) (outer : List Env) (s : Shared) (H : Hp) (us : List Value) (vs : List V) (Q : VK),
    L2H.RoomH k A → L2H.PinOk outer H s (a, oe) → Env0 P w K mg base A outer s H → BindsTo s fd ⟨us, []⟩ (ps.zip us) → Vals vs us → sp a c d vs H Q → codeAny (model P w) A (.call (.ref f) ⟨us, []⟩) (CR CX0 outer P w H s Q E0) s
theorem okP {P : Program} {w : World} {K : PySem.W.Frag} {mg : Str → Option Value} {base : Heap} {x qual : Str} {st : Stmt} {f : Addr} {fd : FuncData} {N ps : List Str} {k : Nat} {sp : SpP}
    (F : Fun K x qual st f fd) (S : FnScope N ps (defScope st)) (len : ∀ a c d vs H Q, sp a c d vs H Q → vs.length = ps.length)
    (body : ∀ (a : Addr) (oe : Obj) (c : Value) (d : Option Addr), Zc c d oe → (∃ fs, oe.data = .fields fs) → ∀ (cdv : Value) (A : Around) (outer : List Env) (s : Shared) (H : Hp) (vs : List V) (Q : VK),
      L2H.RoomH k (A.deeper (envOfC qual (defScope st) s.heap.objs.size f cdv)) → sp a c d vs H Q →
      ∃ t, PSs (L2H.cxH CX0 P w K mg base N qual (defScope st) f cdv A outer s H E0 (a, oe)) (defBody st) t ∧ t { nx := fun _ H' => Q .non H', rt := Q } (start N vs) H) :
    FnP P w K mg base (k + 1) f fd ps sp := by
  obtain ⟨oc, od, kV, doc, pm, an, cdv, ct, osl, rfl, look, hcode⟩ := F.ex
  refine ⟨len, fun a oe c d zc flds A outer s H us vs Q room pin env bind rel want => ?_⟩
  have many := len _ _ _ _ _ _ want
  have there : ∀ b o, base.get? b = some o → s.heap.get? b = some o := fun b o e => (env.bs b o e).1
  have known : K.In s.heap := env.mod.kin.keeps there
  have lim : s.heap.NoLimit := env.mod.nolimit.keeps there
  have kinds : ∀ y ∈ ps.zip us, (defScope st).names.lookup y.1 = some .local ∨ ((defScope st).names.lookup y.1 = some .cell ∧ ((cellsFrom (s.heap.objs.size + 1) (defScope st).names []).lookup y.1).isSome = true) := by
    rintro ⟨n, u⟩ hy
    have z := S.par n (List.of_mem_zip hy).1
    exact z.imp id fun z => ⟨z, PySem.W.cellsFrom_some _ _ _ (.inl z)⟩
  refine codeAny_call_function room.depth (known _ _ look) rfl S.co S.gen rfl (PySem.W.codeRec_of known hcode) (bind _ _ _ _ (wpAny_newFunctionEnv_cells S.kind kinds fun e he s1 inside => ?_))
  subst he
  obtain ⟨t, run, holds⟩ := body a oe c d zc flds cdv A outer s H vs Q (room.deeper _) want
  have J := L2H.inv_startH (CX := CX0) (E := E0) (N := N) S pin env many rel inside
  refine ⟨lim.keeps inside.toInCall.keep, codeAny_func (wpAny_mono (run.run [] s1 _ H _ J holds) (fun flow s2 out => ?_) fun _ _ out => out)⟩
  match flow, out with
  | .ret u, ⟨v, σ2, H2, J2, r2, q2⟩ => exact ⟨v, H2, J2.os, J2.bare, J2.base, J2.hok, r2, q2⟩
  | .next, ⟨σ2, H2, J2, q2⟩ => exact ⟨.non, H2, J2.os, J2.bare, J2.base, J2.hok, rfl, q2⟩
  | .brk, ⟨_, _, _, q2⟩ => exact q2.elim
  | .cont, ⟨_, _, _, q2⟩ => exact q2.elim
structure CalP (P : Program) (w : World) (K : PySem.W.Frag) (mg : Str → Option Value) (base : Heap) (x : Str) (k : Nat) (ps : List Str) (sp : SpP) : Prop where
  ex : ∃ f fd, mg x = some (.ref f) ∧ PySem.W.keepIn K (.ref f) = true ∧ Binds K fd ps [] ∧ FnP P w K mg base k f fd ps sp
/-- .. its call in the suite -/
def tCallP (a : Addr) (c : Value) (d : Option Addr) (sp : SpP) (t : TA) : TE := fun σ H Q => t σ H fun vs H1 => sp a c d vs H1 Q
section
variable {X : Cx} {a : Addr} {oe : Obj} {c : Value} {d : Option Addr} {pn : List (Addr × Obj)} {x : Str} {k : Nat} {ps : List Str} {sp : SpP} {e : Expr} {es : List Expr} {t : TA} {p pos : Pos}
theorem pe_callP (zc : Zc c d oe) (flds : ∃ fs, oe.data = .fields fs) (G : CalP X.prog X.w X.K X.mg X.base x k ps sp) (room : Room k X.A) (hg : Gl X x) (ha : PA (X.suite a ((a, oe) :: pn)) (e :: es) t) (hdb : (x == ("__debug__" : Str)) = false := by decide)
    (he : starEach (e :: es) X.env = (false, eval e X.env) :: starEach es X.env := by rfl) (hpl : (backTo pos (starEach es X.env)).any (·.1) = false := by rfl) :
    PE (X.suite a ((a, oe) :: pn)) (.Call (.Name x p) (e :: es) [] pos) (tCallP a c d sp t) := by
  obtain ⟨f, fd, hm, hk, hb, F⟩ := G.ex
  refine ⟨fun pins s σ H Q I want => wpAny_Call_Name_kw (ld_glob I hg hm (PySem.W.callWith_K (h₀ := X.base) I.ok.mod.kin hk (thn (ha.run pos pins s σ H _ I want) fun us s1 out => ?_) he hpl) hdb)⟩
  obtain ⟨vs, H1, J, rel, want1⟩ := out
  refine ⟨J.kIn, ?_⟩
  obtain ⟨g1, g2, g3, g4, g5⟩ := J.pin (a, oe) (List.mem_append_left _ List.mem_cons_self)
  have many : us.length = ps.length := rel.length.symm.trans (F.len _ _ _ _ _ _ want1)
  have bind := hb s1 us J.kIn (by rw [List.append_nil]; exact many)
  rw [List.append_nil] at bind
  have away : a ∉ frs X.stack := fun hm => by
    rcases List.mem_cons.mp (J.stkSub a hm) with z | z
    · exact g3 z
    · exact g4 z
  refine wpAny_call (codeAny_mono (F.run a oe c d zc flds _ X.stack s1 H1 us vs Q ⟨room.dp, room.un⟩ ⟨g1, g2, away, g5⟩ J.env0 bind rel want1) fun r s2 out => ?_)
  match r, out with
  | .ok (.ret u), out => exact J.after out
  | .ok .next, out => exact out.elim
  | .ok .brk, out => exact out.elim
  | .ok .cont, out => exact out.elim
  | .error _, out => exact out.elim
/-- isinstance(e, C) of an error that is pinned -/
theorem call_isP {D : Addr} (C : ExcC X.K D) (zc : Zc (.ref D) none oe) (flds : ∃ fs, oe.data = .fields fs) (hp : (a, oe) ∈ X.pn) : CallR X (.builtin "isinstance") (rIsE X.K D a) := by
  intro pins s σ H xs us Q I rel want
  obtain ⟨cl, cv, b, rfl, hcv, hb, q⟩ := want
  obtain ⟨u1, u2, rfl, r1, r2⟩ := vals2 rel
  cases (show u1 = Value.ref a from r1)
  cases hcv _ r2
  have at1 : s.heap.get? a = some oe := (I.pin (a, oe) (List.mem_append_left _ hp)).1
  obtain ⟨fs, hfs⟩ := flds
  have inst : PySem.W.InstAt s.heap a oe D none := by
    obtain ⟨z1, z2⟩ := zc
    refine ⟨at1, z1, ?_, ?_⟩
    · unfold PySem.W.notCls
      rw [hfs]
    · rw [z2]
      trivial
  exact PySem.W.kia_one (PySem.W.handS_kitx_exc C.hg C.hk C.hs C.hd C.ha C.hn C.ht C.hm) I.kIn inst hb (fun z => nomatch z) fun tk => ⟨.bl b, H, I.tok tk, rfl, q⟩
end
end Sq

namespace Sq
open PySem PySem.Spec PyProof.Rows L2 Evl

/-! ### promises of two ways: an answer, or an error of the class at C -/
abbrev Bad := List PyData → Addr → Prop
def spB (K : PySem.W.Frag) (B : Bad) : Sp := fun vs H _ E => ∃ ds C, DVs K H vs ds ∧ B ds C ∧ ∀ H', Ex H H' → E (.ref C) none H'
def spX (K : PySem.W.Frag) (R : Rel) (B : Bad) : Sp := fun vs H Q E => spF K R vs H Q E ∨ spB K B vs H Q E
def spXL (K : PySem.W.Frag) (R : RelL) (B : Bad) : Sp := fun vs H Q E => spL K R vs H Q E ∨ spB K B vs H Q E
section
variable {K : PySem.W.Frag} {σ : L2.St} {H : Hp} {tA : TA} {ds es : List PyData} {d : PyData} {C : Addr} {E : XK} {R : Rel} {RL : RelL} {B : Bad} {Q : VK}
theorem ed_callX (h : EvDA K tA σ H ds) (hR : R ds d) : EvD K (tCall (spX K R B) [] E tA) σ H d := fun H1 a Q q =>
  h H1 a _ fun vs H2 b hvs => .inl ⟨ds, d, by rw [List.append_nil]; exact hvs, hR, fun v H3 c hv => q v H3 (b.trans c) hv⟩
theorem ed_callXL (h : EvDA K tA σ H ds) (hR : RL ds es) : EvD K (tCall (spXL K RL B) [] E tA) σ H (.list es) := fun H1 a Q q =>
  h H1 a _ fun vs H2 b hvs => .inl ⟨ds, es, by rw [List.append_nil]; exact hvs, hR, fun p vs H3 _ c hp hv => q _ H3 (b.trans c) (.lst (sq_of hp) hv)⟩
theorem x_call (h : EvDA K tA σ H ds) (hB : B ds C) (q : ∀ H', Ex H H' → E (.ref C) none H') : tCall (spX K R B) [] E tA σ H Q :=
  h H (Ex.refl H) _ fun vs H2 b hvs => .inr ⟨ds, C, by rw [List.append_nil]; exact hvs, hB, fun H3 c => q H3 (b.trans c)⟩
theorem x_callL (h : EvDA K tA σ H ds) (hB : B ds C) (q : ∀ H', Ex H H' → E (.ref C) none H') : tCall (spXL K RL B) [] E tA σ H Q :=
  h H (Ex.refl H) _ fun vs H2 b hvs => .inr ⟨ds, C, by rw [List.append_nil]; exact hvs, hB, fun H3 c => q H3 (b.trans c)⟩
theorem x_callB (h : EvDA K tA σ H ds) (hB : B ds C) (q : ∀ H', Ex H H' → E (.ref C) none H') : tCall (spB K B) [] E tA σ H Q :=
  h H (Ex.refl H) _ fun vs H2 b hvs => ⟨ds, C, by rw [List.append_nil]; exact hvs, hB, fun H3 c => q H3 (b.trans c)⟩
/-- what follows is not reached -/
theorem x_asg {te : TE} {g : TG} {D : Ends} {tz : TS} (h : ∀ Q, te σ H Q) : tSeq (tAsg te g) tz D σ H := h _
theorem x_drop {te : TE} {D : Ends} {tz : TS} (h : ∀ Q, te σ H Q) : tSeq (tDrop te) tz D σ H := h _
theorem x_ret {te : TE} {D : Ends} (h : ∀ Q, te σ H Q) : tRet te D σ H := h _
theorem x_ifT {t : TT} {ta tb : TE} (h : EvT t σ H true) (k : ∀ H1, Ex H H1 → ta σ H1 Q) : tIf t ta tb σ H Q := h H (Ex.refl H) _ fun H1 e => k H1 e
theorem x_ifF {t : TT} {ta tb : TE} (h : EvT t σ H false) (k : ∀ H1, Ex H H1 → tb σ H1 Q) : tIf t ta tb σ H Q := h H (Ex.refl H) _ fun H1 e => k H1 e
theorem spB_len {n : Nat} (h : ∀ ds C, B ds C → ds.length = n) : ∀ vs H Q E, spB K B vs H Q E → vs.length = n := fun vs H Q E q => by
  obtain ⟨ds, C, a, b, _⟩ := q
  rw [a.len]
  exact h _ _ b
theorem spX_len {n : Nat} (hR : ∀ ds d, R ds d → ds.length = n) (h : ∀ ds C, B ds C → ds.length = n) : ∀ vs H Q E, spX K R B vs H Q E → vs.length = n := fun vs H Q E q => by
  rcases q with q | q
  · exact spF_len hR vs H Q E q
  · exact spB_len h vs H Q E q
theorem spXL_len {n : Nat} (hR : ∀ ds d, RL ds d → ds.length = n) (h : ∀ ds C, B ds C → ds.length = n) : ∀ vs H Q E, spXL K RL B vs H Q E → vs.length = n := fun vs H Q E q => by
  rcases q with q | q
  · exact spL_len hR vs H Q E q
  · exact spB_len h vs H Q E q
end
theorem passX {X : Cx} {E : XK} (tk : Takes X (fun cls d _ H => E cls d H)) : Passes (L2.CX X.prog X.w) X E := passes_call tk fun _ _ _ _ h => h

/-! ### a local name that holds one of several defs that raise -/
structure HeldX (P : Program) (w : World) (K : PySem.W.Frag) (mg : Str → Option Value) (base : Heap) (k : Nat) (f : Addr) (sp : Sp) : Prop where
  ex : ∃ (fd : FuncData) (ps : List Str), FnOk P w K mg base (L2.CX P w) k f fd ps sp ∧ PySem.W.keepIn K (.ref f) = true ∧ Binds K fd ps []
def tCallAX (i : Nat) (S : Addr → Sp → Prop) (E : L2.St → XK) (t : TA) : TE := fun σ H Q => ∃ f sp, σ[i]? = some (some (.ref f)) ∧ S f sp ∧ t σ H fun vs H1 => sp vs H1 Q (E σ)
theorem pe_callAX {X : Cx} {S : Addr → Sp → Prop} {k i : Nat} {E : L2.St → XK} {x : Str} {e : Expr} {es : List Expr} {t : TA} {p pos : Pos} (hA : ∀ f sp, S f sp → HeldX X.prog X.w X.K X.mg X.base k f sp) (room : Room k X.A) (hN : X.N[i]? = some x) (hv : Vis X.env.scope x)
    (hx : ∀ σ, PassesAt (L2.CX X.prog X.w) X σ (E σ)) (ha : PA X (e :: es) t) (hdb : (x == ("__debug__" : Str)) = false := by decide) (hcd : (x == ("__classdict__" : Str)) = false := by decide)
    (he : starEach (e :: es) X.env = (false, eval e X.env) :: starEach es X.env := by rfl) (hpl : (backTo pos (starEach es X.env)).any (·.1) = false := by rfl) : PE X (.Call (.Name x p) (e :: es) [] pos) (tCallAX i S E t) := by
  refine ⟨fun pins s σ H Q I want => ?_⟩
  obtain ⟨f, sp, hf, hS, want⟩ := want
  obtain ⟨fd, ps, F, hk, hb⟩ := (hA f sp hS).ex
  have name := (pe_var (X := X) (pos := p) hN hv hdb hcd).run pins s σ H (fun v H1 => v = .ref f ∧ H1 = H) I ⟨.ref f, hf, rfl, rfl⟩
  refine wpAny_Call_Name_kw (thn name fun u s1 ⟨v, H1, J, rel, e1, e2⟩ => ?_)
  subst e1 e2
  cases rel
  refine PySem.W.callWith_K (h₀ := X.base) J.ok.mod.kin hk (thn (ha.run pos pins s1 σ _ _ J want) fun us s2 ⟨vs, H2, J2, rel2, want2⟩ => ⟨J2.kIn, ?_⟩) he hpl
  exact run_fnS F room hb (hx σ) J2 rel2 want2

/-! ### the error classes -/
structure ErrK (K : PySem.W.Frag) (Cs : Nat → Addr) (cT : Addr) : Prop where
  exc : ∀ i, i < 5 → ExcC K (Cs i)
  kit : ∀ i j, i < 5 → j < 5 → PySem.W.kitOne K (.ref (Cs i)) (.ref (Cs j)) = some (decide (i = j))
  val : ∀ i, i < 5 → PySem.W.kitOne K (.ref (Cs i)) (.type "ValueError") = some true
  exm : ∀ i, i < 5 → PySem.W.exmOne K (.ref (Cs i)) (.ref cT) = some true
def Cse (e0 e1 e2 e3 e4 : Addr) : Nat → Addr
  | 0 => e0 | 1 => e1 | 2 => e2 | 3 => e3 | _ => e4
theorem kit_same {K : PySem.W.Frag} {C : Addr} : PySem.W.kitOne K (.ref C) (.ref C) = some true := by
  unfold PySem.W.kitOne
  rw [if_pos (by simp)]
theorem kit_sub {K : PySem.W.Frag} {C D : Addr} {b : Bool} (hne : (C == D) = false) (hd : PySem.W.hasDictIn K D = true) (ht : PySem.W.typeIn K (.ref D) = some (.type "type")) (hs : PySem.W.subIn K (.ref C) (.ref D) = some b) : PySem.W.kitOne K (.ref C) (.ref D) = some b := by
  obtain ⟨cd, hc, _⟩ := PySem.W.any_some hd
  unfold PySem.W.kitOne
  have h1 : ¬ ((Value.ref C == Value.ref D) = true) := fun z => by
    have z := beq_iff_eq.mp z
    rw [Value.ref.inj z] at hne
    simp at hne
  rw [if_neg h1]
  show (if ((PySem.W.clsIn K D).isSome && PySem.W.typeIn K (.ref D) == some (.type "type")) = true then PySem.W.subIn K (.ref C) (.ref D) else none) = some b
  rw [if_pos (by rw [hc, ht]; simp), hs]
theorem kit_val {K : PySem.W.Frag} {C : Addr} (h : PySem.W.subIn K (.ref C) (.type "ValueError") = some true) : PySem.W.kitOne K (.ref C) (.type "ValueError") = some true := by
  unfold PySem.W.kitOne
  rw [if_neg (show ¬ ((Value.ref C == Value.type "ValueError") = true) from fun z => nomatch beq_iff_eq.mp z)]
  show (if PySem.W.kitMeta "ValueError" = true then PySem.W.subIn K (.ref C) (.type "ValueError") else none) = some true
  rw [if_pos (by decide +kernel), h]
/-- what _law_kinds tells of an error of the i-th class -/
def kindsD (i : Nat) : PyData := .list ([decide (i = 0), decide (i = 1), decide (i = 2), decide (i = 3), decide (i = 4), true].map .bool)
def spKinds (K : PySem.W.Frag) (Cs : Nat → Addr) : SpP := fun a c d vs H Q => ∃ i, i < 5 ∧ c = .ref (Cs i) ∧ d = none ∧ vs = [.ref a] ∧ RetD K (kindsD i) H Q
theorem ev_isE {K : PySem.W.Frag} {σ : L2.St} {H : Hp} {te : TE} {D a : Addr} {c : V} {cv : Value} {b : Bool} {tc : TE} (h : Ev te σ H (.ref a)) (hc : Ev tc σ H c) (hcv : ∀ u, RelV c u → u = cv) (hb : PySem.W.kitOne K (.ref D) cv = some b) : Ev (tCB (rIsE K D a) (tCons te (tCons tc tNil))) σ H (.bl b) := fun H1 e Q q =>
  h H1 e _ fun H2 e2 => hc H2 (e.trans e2) _ fun H3 e3 => ⟨c, cv, b, rfl, hcv, hb, q H3 (e2.trans e3)⟩
theorem shaped_kinds (i : Nat) : SeqAt.shaped (kindsD i) = true := by
  unfold kindsD
  generalize decide (i = 0) = b0
  generalize decide (i = 1) = b1
  generalize decide (i = 2) = b2
  generalize decide (i = 3) = b3
  generalize decide (i = 4) = b4
  rfl
end Sq

namespace Sq
open PySem PySem.Spec PyProof.Rows L2 Evl
/-! ### what is no triple, no pair, no step, no row, no number -/
abbrev t3 (a b c : Int) : PyData := .tuple [.int a, .int b, .int c]
abbrev t2 (a b : Int) : PyData := .tuple [.int a, .int b]
def BadT (x : PyData) : Prop := szT x ∧ (∀ a b c, x = t3 a b c → Sm 180000 a ∧ Sm 180000 b ∧ Sm 180000 c) ∧ ∀ p, IsPair p → x ≠ td p
theorem td_inj3 {a b c : Int} {p : P2} (h : t3 a b c = td p) : a = p.1 * p.1 - p.2 * p.2 ∧ b = 2 * p.1 * p.2 ∧ c = p.1 * p.1 + p.2 * p.2 := by
  have h : t3 a b c = t3 (p.1 * p.1 - p.2 * p.2) (2 * p.1 * p.2) (p.1 * p.1 + p.2 * p.2) := h
  injection h with h
  injection h with h1 h
  injection h with h2 h
  injection h with h3 h
  injection h1 with h1
  injection h2 with h2
  injection h3 with h3
  exact ⟨h1, h2, h3⟩
structure Tri (a b c m n : Int) : Prop where
  a0 : 0 < a
  b0 : 0 < b
  c0 : 0 < c
  a1 : a % 2 = 1
  b1 : b % 2 = 0
  c1 : c % 2 = 1
  sq : a * a + b * b = c * c
  up : c + a = 2 * (m * m)
  dn : c - a = 2 * (n * n)
theorem td_tri {p : P2} (hp : IsPair p) : Tri (p.1 * p.1 - p.2 * p.2) (2 * p.1 * p.2) (p.1 * p.1 + p.2 * p.2) p.1 p.2 := by
  obtain ⟨m, n⟩ := p
  obtain ⟨g1, g2, g3, g4⟩ := hp
  have g1 : 0 < n := g1
  have g2 : n < m := g2
  have g3 : (m - n) % 2 = 1 := g3
  show Tri (m * m - n * n) (2 * m * n) (m * m + n * n) m n
  obtain ⟨i, hi⟩ : ∃ i, m = n + 2 * i + 1 := ⟨(m - n) / 2, by omega⟩
  have k1 : 0 < m * m - n * n := by
    have : (m - n) * (m + n) = m * m - n * n := by grind
    have : 0 < (m - n) * (m + n) := Int.mul_pos (by omega) (by omega)
    omega
  have k2 : 0 < m * n := Int.mul_pos (by omega) g1
  have k3 : 0 < n * n := Int.mul_pos g1 g1
  have e1 : m * m - n * n = 2 * (2 * (i * n) + 2 * (i * i) + 2 * i + n) + 1 := by subst hi; grind
  have e2 : 2 * m * n = 2 * (m * n) := by grind
  refine ⟨k1, by omega, by omega, by omega, by omega, ?_, by grind, by omega, by omega⟩
  have : m * m + n * n = m * m - n * n + 2 * (n * n) := by omega
  omega
theorem tri_of {a b c : Int} {p : P2} (hp : IsPair p) (h : t3 a b c = td p) : Tri a b c p.1 p.2 := by
  obtain ⟨h1, h2, h3⟩ := td_inj3 h
  rw [h1, h2, h3]
  exact td_tri hp
theorem sq_ne {x y : Int} (hx : 0 < x) (h : x < y) : x * x ≠ y * y := fun e => by
  have k : (y - x) * (y + x) = y * y - x * x := by grind
  have : 0 < (y - x) * (y + x) := Int.mul_pos (by omega) (by omega)
  omega
theorem three_of {x : Int} (h : (x * x) % 3 = 0) : (3 : Int) ∣ x := by
  obtain ⟨k, r, hr, e⟩ : ∃ k r, (r = 0 ∨ r = 1 ∨ r = 2) ∧ x = 3 * k + r := ⟨x / 3, x % 3, by omega, by omega⟩
  have e2 : x * x = 3 * (3 * (k * k) + 2 * (k * r)) + r * r := by rw [e]; grind
  rcases hr with rfl | rfl | rfl
  · exact ⟨k, by omega⟩
  · exfalso; omega
  · exfalso; omega
theorem no_three {m n : Int} (g : Int.gcd m n = 1) (h1 : (3 : Int) ∣ m) (h2 : (3 : Int) ∣ n) : False := by
  have h : (3 : Int) ∣ ((Int.gcd m n : Nat) : Int) := Int.dvd_coe_gcd h1 h2
  rw [g] at h
  exact absurd h (by decide)
theorem sm_lit {x : Int} (h : x.natAbs < 2 ^ 20) : Sm 180000 x := Sm.up h (by decide)
theorem szT_few {xs : List PyData} (h : xs.length ≤ 40000) : szT (.tuple xs) := fun ys e => by cases e; exact h
theorem badT_of {a b c : Int} (h : Sm 180000 a ∧ Sm 180000 b ∧ Sm 180000 c) (k : ∀ m n, IsPair (m, n) → Tri a b c m n → False) : BadT (t3 a b c) :=
  ⟨szT_few (show 3 ≤ 40000 by decide), fun a' b' c' e => by cases e; exact h, fun p hp e => k p.1 p.2 hp (tri_of hp e)⟩
theorem badT_other {x : PyData} (hz : szT x) (h : areWhole x 3 = false) : BadT x :=
  ⟨hz, fun a b c e => by rw [e] at h; exact absurd h (by simp [areWhole, whole]), fun p _ e => by rw [e] at h; exact absurd h (by simp [td, areWhole, whole])⟩
theorem BadT.out {a b c : Int} (h : BadT (t3 a b c)) (m n : Int) : (!PyData.eqv (td (m, n)) (t3 a b c) || !isPairD (pd (m, n))) = true := by
  rw [isPairD_pd]
  by_cases hp : IsPair (m, n)
  · have e : PyData.eqv (td (m, n)) (t3 a b c) = decide ([m * m - n * n, 2 * m * n, m * m + n * n] = [a, b, c]) := eqv_ints [m * m - n * n, 2 * m * n, m * m + n * n] [a, b, c]
    rw [e, decide_eq_false fun z => ?_]
    · rfl
    · refine h.2.2 (m, n) hp ?_
      injection z with z1 z
      injection z with z2 z
      injection z with z3 _
      show t3 a b c = t3 (m * m - n * n) (2 * m * n) (m * m + n * n)
      rw [z1, z2, z3]
  · rw [decide_eq_false hp, Bool.not_false, Bool.or_true]

/-! ### the law's lists -/
def lTri1 : List PyData := [.none, .str "3", .bool true, .list [.int 3], .tuple [.int 3], .dict [], .int 5, .tuple [], t3 0 0 0, t2 3 4, .tuple [.int 3, .int 4, .int 5, .int 6], .list [.int 3, .int 4, .int 5]]
def lTri2 : List PyData := [.tuple [.str "3", .int 4, .int 5], .tuple [.int 3, .none, .int 5], t3 4 3 5, t3 6 8 10, t3 (-3) 4 5, t3 3 (-4) 5, t3 3 4 (-5)]
def lTri3 : List PyData := [t3 3 4 6, t3 9 12 15, t3 1 0 1]
def lTri4 (a b c f : Int) : List PyData := [t3 b a c, t3 (3 * a) (3 * b) (3 * c), t3 a b (c + 1 + f), t3 a b (-c), t3 (a + 2) b c, .tuple [.bool true, .int 0, .int 1]]
theorem lTri_bad {p : P2} (hp : IsPair p) (hm : Sm 80000 p.1) {f : Int} (hf : 0 ≤ f) (hfm : Sm 5000 f) {x : PyData} (hx : x ∈ lTri1 ++ lTri2 ++ lTri3 ++ lTri4 (p.1 * p.1 - p.2 * p.2) (2 * p.1 * p.2) (p.1 * p.1 + p.2 * p.2) f) : BadT x := by
  obtain ⟨m, n⟩ := p
  have hm : Sm 80000 m := hm
  have ok := ok_of hp
  obtain ⟨g1, g2⟩ := ok
  have g1 : 0 < n := g1
  have g2 : n < m := g2
  have hn : Sm 80000 n := hm.le (by omega) (by omega)
  have t := td_tri hp
  have gp : Int.gcd m n = 1 := hp.2.2.2
  have ea : Sm 170000 (m * m - n * n) := Sm.up ((hm.mul hm).sub (hn.mul hn)) (by decide)
  have eb : Sm 170000 (2 * m * n) := Sm.up ((sm2.mul hm).mul hn) (by decide)
  have ec : Sm 170000 (m * m + n * n) := Sm.up ((hm.mul hm).add (hn.mul hn)) (by decide)
  have hx : x ∈ lTri1 ++ lTri2 ++ lTri3 ++ lTri4 (m * m - n * n) (2 * m * n) (m * m + n * n) f := hx
  have t : Tri (m * m - n * n) (2 * m * n) (m * m + n * n) m n := t
  have sq3 : (m * m) = m * m := rfl
  generalize hA : m * m - n * n = a at *
  generalize hB : 2 * m * n = b at *
  generalize hC : m * m + n * n = c at *
  have up : ∀ {z : Int}, Sm 170000 z → Sm 180000 z := fun h => h.up (by decide)
  have lit : ∀ {a b c : Int}, a.natAbs < 2 ^ 20 → b.natAbs < 2 ^ 20 → c.natAbs < 2 ^ 20 → Sm 180000 a ∧ Sm 180000 b ∧ Sm 180000 c := fun h1 h2 h3 => ⟨sm_lit h1, sm_lit h2, sm_lit h3⟩
  have sm3 : Sm 2 3 := sm3
  unfold lTri1 lTri2 lTri3 lTri4 at hx
  simp only [List.cons_append, List.nil_append, List.mem_cons, List.not_mem_nil, or_false] at hx
  have none_sz : ∀ {x : PyData}, (∀ xs, x ≠ .tuple xs) → szT x := fun h xs e => absurd e (h xs)
  rcases hx with rfl | rfl | rfl | rfl | rfl | rfl | rfl | rfl | rfl | rfl | rfl | rfl | rfl | rfl | rfl | rfl | rfl | rfl | rfl | rfl | rfl | rfl | rfl | rfl | rfl | rfl | rfl | rfl
  · exact badT_other (none_sz fun _ e => by cases e) rfl
  · exact badT_other (none_sz fun _ e => by cases e) rfl
  · exact badT_other (none_sz fun _ e => by cases e) rfl
  · exact badT_other (none_sz fun _ e => by cases e) rfl
  · exact badT_other (szT_few (show 1 ≤ 40000 by decide)) rfl
  · exact badT_other (none_sz fun _ e => by cases e) rfl
  · exact badT_other (none_sz fun _ e => by cases e) rfl
  · exact badT_other (szT_few (show 0 ≤ 40000 by decide)) rfl
  · exact badT_of (lit (by decide) (by decide) (by decide)) fun m n _ t => absurd t.a0 (by decide)
  · exact badT_other (szT_few (show 2 ≤ 40000 by decide)) rfl
  · exact badT_other (szT_few (show 4 ≤ 40000 by decide)) rfl
  · exact badT_other (none_sz fun _ e => by cases e) rfl
  · exact badT_other (szT_few (show 3 ≤ 40000 by decide)) rfl
  · exact badT_other (szT_few (show 3 ≤ 40000 by decide)) rfl
  · exact badT_of (lit (by decide) (by decide) (by decide)) fun m n _ t => absurd t.a1 (by decide)
  · exact badT_of (lit (by decide) (by decide) (by decide)) fun m n _ t => absurd t.a1 (by decide)
  · exact badT_of (lit (by decide) (by decide) (by decide)) fun m n _ t => absurd t.a0 (by decide)
  · exact badT_of (lit (by decide) (by decide) (by decide)) fun m n _ t => absurd t.b0 (by decide)
  · exact badT_of (lit (by decide) (by decide) (by decide)) fun m n _ t => absurd t.c0 (by decide)
  · exact badT_of (lit (by decide) (by decide) (by decide)) fun m n _ t => absurd t.c1 (by decide)
  · refine badT_of (lit (by decide) (by decide) (by decide)) fun m n hp t => ?_
    have h3 : n * n = 3 := by have := t.dn; omega
    have n0 : 0 < n := hp.1
    by_cases h1 : n = 1
    · rw [h1] at h3; omega
    · have : 2 * 2 ≤ n * n := Int.mul_le_mul (by omega) (by omega) (by omega) (by omega)
      omega
  · exact badT_of (lit (by decide) (by decide) (by decide)) fun m n _ t => absurd t.b0 (by decide)
  · exact badT_of ⟨up eb, up ea, up ec⟩ fun m n _ t2 => by have := t.b1; have := t2.a1; omega
  · refine badT_of ⟨Sm.up (sm3.mul ea) (by decide), Sm.up (sm3.mul eb) (by decide), Sm.up (sm3.mul ec) (by decide)⟩ fun m' n' hp' t2 => ?_
    have u := t.up
    have d := t.dn
    have u2 := t2.up
    have d2 := t2.dn
    exact no_three (m := m') (n := n') hp'.2.2.2 (three_of (by omega)) (three_of (by omega))
  · refine badT_of ⟨up ea, up eb, Sm.up (Sm.add (Sm.add ec (Sm.up sm1 (by decide))) (Sm.up hfm (by decide))) (by decide)⟩ fun m' n' _ t2 => ?_
    have e1 := t.sq
    have e2 := t2.sq
    exact sq_ne t.c0 (show c < c + 1 + f by omega) (by omega)
  · refine badT_of ⟨up ea, up eb, up ?_⟩ fun m' n' _ t2 => ?_
    · show (-c).natAbs < 2 ^ 170000
      rw [Int.natAbs_neg]
      exact ec
    · have := t.c0
      have := t2.c0
      omega
  · refine badT_of ⟨Sm.up (Sm.add ea (Sm.up sm2 (by decide))) (by decide), up eb, up ec⟩ fun m' n' _ t2 => ?_
    have e1 := t.sq
    have e2 := t2.sq
    have h0 := t.a0
    exact sq_ne h0 (show a < a + 2 by omega) (by omega)
  · exact badT_other (szT_few (show 3 ≤ 40000 by decide)) rfl
end Sq

namespace Sq
open PySem PySem.Spec PyProof.Rows L2 Evl
def isSide : PyData → Bool
  | .int i => decide (2 ≤ i) && decide (i ≤ 1000000)
  | _ => false
theorem isSide_no {x : PyData} (h : whole x = false) : isSide x = false := by cases x <;> simp [whole] at h <;> rfl
theorem whole_yes : ∀ {x : PyData}, whole x = true → ∃ i, x = .int i
  | .int i, _ => ⟨i, rfl⟩
abbrev R_is_side : Rel := fun ds d => ∃ x, ds = [x] ∧ d = .bool (isSide x)
def lPair1 : List PyData := [.none, .str "21", .int 5, .tuple [], .tuple [.int 2], .tuple [.int 2, .int 1, .int 1], .list [.int 2, .int 1], t2 1 2, t2 3 1, t2 4 2, t2 2 2, t2 2 0, t2 0 1]
def lPair2 (f : Int) : List PyData := [t2 2 (-1), t2 (-2) (-1), .tuple [.int 2, .bool true], .tuple [.str "2", .int 1], .tuple [.int 2, .none], t2 (9 + 6 * f) 6, t2 (5 + 2 * f) 3]
def BadP (x : PyData) : Prop := szT x ∧ isPairD x = false
theorem none_sz {x : PyData} (h : ∀ xs, x ≠ .tuple xs) : szT x := fun xs e => absurd e (h xs)
theorem szT2 {a b : PyData} : szT (.tuple [a, b]) := szT_few (show 2 ≤ 40000 by decide)
theorem lPair_bad {f : Int} {x : PyData} (hx : x ∈ lPair1 ++ lPair2 f) : BadP x := by
  unfold lPair1 lPair2 at hx
  simp only [List.cons_append, List.nil_append, List.mem_cons, List.not_mem_nil, or_false] at hx
  rcases hx with rfl | rfl | rfl | rfl | rfl | rfl | rfl | rfl | rfl | rfl | rfl | rfl | rfl | rfl | rfl | rfl | rfl | rfl | rfl | rfl
  · exact ⟨none_sz (fun _ e => by cases e), rfl⟩
  · exact ⟨none_sz (fun _ e => by cases e), rfl⟩
  · exact ⟨none_sz (fun _ e => by cases e), rfl⟩
  · exact ⟨szT_few (show 0 ≤ 40000 by decide), rfl⟩
  · exact ⟨szT_few (show 1 ≤ 40000 by decide), rfl⟩
  · exact ⟨szT_few (show 3 ≤ 40000 by decide), rfl⟩
  · exact ⟨none_sz (fun _ e => by cases e), rfl⟩
  · exact ⟨szT2, by decide⟩
  · exact ⟨szT2, by decide⟩
  · exact ⟨szT2, by decide⟩
  · exact ⟨szT2, by decide⟩
  · exact ⟨szT2, by decide⟩
  · exact ⟨szT2, by decide⟩
  · exact ⟨szT2, by decide⟩
  · exact ⟨szT2, by decide⟩
  · exact ⟨szT2, rfl⟩
  · exact ⟨szT2, rfl⟩
  · exact ⟨szT2, rfl⟩
  · refine ⟨szT2, (isPairD_pd (9 + 6 * f, 6)).trans (decide_eq_false fun hp => ?_)⟩
    exact no_three (m := 9 + 6 * f) (n := 6) hp.2.2.2 ⟨3 + 2 * f, by omega⟩ ⟨2, by omega⟩
  · refine ⟨szT2, (isPairD_pd (5 + 2 * f, 3)).trans (decide_eq_false fun hp => ?_)⟩
    have h : (5 + 2 * f - 3) % 2 = 1 := hp.2.2.1
    omega
def lStep (f : Int) : List PyData := [.none, .str "0", .bool true, .bool false, .list [.int 0], .int (-1), .int (-1 - f), .int 3, .int (3 + f)]
theorem lStep_bad {f : Int} (hf : 0 ≤ f) {x : PyData} (hx : x ∈ lStep f) : isStepD x = false := by
  unfold lStep at hx
  simp only [List.mem_cons, List.not_mem_nil, or_false] at hx
  have low : ∀ {s : Int}, s < 0 → isStepD (.int s) = false := fun {s} h => by
    show (decide (0 ≤ s) && decide (s ≤ 2)) = false
    rw [decide_eq_false (show ¬ 0 ≤ s by omega), Bool.false_and]
  have high : ∀ {s : Int}, 2 < s → isStepD (.int s) = false := fun {s} h => by
    show (decide (0 ≤ s) && decide (s ≤ 2)) = false
    rw [decide_eq_false (show ¬ s ≤ 2 by omega), Bool.and_false]
  rcases hx with rfl | rfl | rfl | rfl | rfl | rfl | rfl | rfl | rfl
  · rfl
  · rfl
  · rfl
  · rfl
  · rfl
  · exact low (by decide)
  · exact low (by omega)
  · exact high (by decide)
  · exact high (by omega)
def lNum (f : Int) : List PyData := [.none, .str "5", .bool true, .list [.int 5], .tuple [.int 5], .dict [], .int 1, .int 0, .int (-1), .int (-5 - f), .int 1000001, .int (1000001 + f)]
theorem lNum_bad {f : Int} (hf : 0 ≤ f) {x : PyData} (hx : x ∈ lNum f) : isSide x = false := by
  unfold lNum at hx
  simp only [List.mem_cons, List.not_mem_nil, or_false] at hx
  have low : ∀ {s : Int}, s < 2 → isSide (.int s) = false := fun {s} h => by
    show (decide (2 ≤ s) && decide (s ≤ 1000000)) = false
    rw [decide_eq_false (show ¬ 2 ≤ s by omega), Bool.false_and]
  have high : ∀ {s : Int}, 1000000 < s → isSide (.int s) = false := fun {s} h => by
    show (decide (2 ≤ s) && decide (s ≤ 1000000)) = false
    rw [decide_eq_false (show ¬ s ≤ 1000000 by omega), Bool.and_false]
  rcases hx with rfl | rfl | rfl | rfl | rfl | rfl | rfl | rfl | rfl | rfl | rfl | rfl
  · rfl
  · rfl
  · rfl
  · rfl
  · rfl
  · rfl
  · exact low (by decide)
  · exact low (by decide)
  · exact low (by decide)
  · exact low (by omega)
  · exact high (by decide)
  · exact high (by omega)
/-! ### rows -/
def altD (n : Nat) : List PyData := (List.range n).map fun k : Nat => t2 ((k : Int) % 2 * 2) 1
def lRow1 : List PyData := [.none, .tuple [], .tuple [t2 0 1], .str "01", .dict [], .int 5, .list [.none], .list [.int 0], .list [.tuple [.int 0]], .list [.tuple [.int 0, .int 1, .int 1]], .list [.list [.int 0, .int 1]], .list [t2 3 1], .list [t2 (-1) 1], .list [t2 0 0]]
def lRow2 (f : Int) : List PyData := [.list [t2 0 (-1 - f)], .list [t2 1 1001], .list [t2 1 (1001 + f)], .list [.tuple [.bool true, .int 1]], .list [.tuple [.int 0, .bool true]], .list [.tuple [.str "0", .int 1]], .list [.tuple [.int 2, .none]]]
def lRow3 : List PyData := [.list [t2 0 1, t2 0 1], .list [t2 2 1, t2 1 1, t2 1 2], .list (altD 201)]
def lParts (f : Int) : List PyData := [.none, t2 3 1, t2 0 0, t2 1 (1001 + f), .list [.int 0, .int 1], .tuple [.int 0, .str "1"]]
def putIn (r : Row) (n : Nat) (x : PyData) : PyData := .list ((r.take n).map sd ++ [x] ++ (r.drop n).map sd)
def lRows (r : Row) (n : Nat) (f : Int) : List PyData := lRow1 ++ lRow2 f ++ lRow3 ++ (lParts f).map (putIn r n)
def BadR (x : PyData) : Prop := szL x ∧ isRowD x = false
theorem badR_part {xs : List PyData} (h : szL (.list xs)) (hp : xs.all isPartD = false) : BadR (.list xs) := by
  refine ⟨h, ?_⟩
  show (decide ((xs.length : Int) ≤ 200) && (xs.all isPartD && _)) = false
  rw [hp, Bool.false_and, Bool.and_false]
theorem badR_long {xs : List PyData} (h : szL (.list xs)) (hl : 200 < xs.length) : BadR (.list xs) := by
  refine ⟨h, ?_⟩
  show (decide ((xs.length : Int) ≤ 200) && (xs.all isPartD && _)) = false
  rw [decide_eq_false (show ¬ (xs.length : Int) ≤ 200 by omega), Bool.false_and]
theorem badR_other {x : PyData} (h : ∀ xs, x ≠ .list xs) : BadR x := ⟨fun xs e => absurd e (h xs), by cases x <;> first | rfl | exact absurd rfl (h _)⟩
theorem lParts_bad {f : Int} (hf : 0 ≤ f) {x : PyData} (hx : x ∈ lParts f) : szT x ∧ isPartD x = false := by
  unfold lParts at hx
  simp only [List.mem_cons, List.not_mem_nil, or_false] at hx
  rcases hx with rfl | rfl | rfl | rfl | rfl | rfl
  · exact ⟨none_sz (fun _ e => by cases e), rfl⟩
  · exact ⟨szT2, by decide⟩
  · exact ⟨szT2, by decide⟩
  · refine ⟨szT2, ?_⟩
    show (decide ((0 : Int) ≤ 1) && decide ((1 : Int) ≤ 2) && (decide (0 < 1001 + f) && (!decide ((1 : Int) = 1) || decide (1001 + f ≤ 1000)))) = false
    rw [decide_eq_false (show ¬ 1001 + f ≤ 1000 by omega)]
    simp
  · exact ⟨none_sz (fun _ e => by cases e), rfl⟩
  · exact ⟨szT2, rfl⟩
theorem szL_one {x : PyData} (h : szT x) : szL (.list [x]) := fun xs e => by
  cases e
  exact ⟨by show 1 ≤ 40000; decide, fun y hy => by rw [List.mem_singleton.mp hy]; exact h⟩
theorem szL_list {xs : List PyData} (h : xs.length ≤ 40000) (k : ∀ y ∈ xs, szT y) : szL (.list xs) := fun ys e => by cases e; exact ⟨h, k⟩
theorem putIn_bad {r : Row} {n : Nat} {x : PyData} (hr : r.length ≤ 200) (h : szT x ∧ isPartD x = false) : BadR (putIn r n x) := by
  refine badR_part (szL_list ?_ fun y hy => ?_) ?_
  · simp only [List.length_append, List.length_map, List.length_take, List.length_drop, List.length_singleton]
    omega
  · simp only [List.mem_append, List.mem_singleton, List.mem_map] at hy
    rcases hy with (⟨z, _, rfl⟩ | rfl) | ⟨z, _, rfl⟩
    · exact szT_sd z
    · exact h.1
    · exact szT_sd z
  · rw [List.all_append, List.all_append]
    have e : [x].all isPartD = false := by rw [List.all_cons, h.2]; rfl
    rw [e, Bool.and_false, Bool.false_and]
theorem badR_1 {x : PyData} (h : szT x) (hp : isPartD x = false) : BadR (.list [x]) := badR_part (szL_one h) (by rw [List.all_cons, hp]; rfl)
theorem lRows_bad {r : Row} {n : Nat} {f : Int} (hr : r.length ≤ 200) (hf : 0 ≤ f) {x : PyData} (hx : x ∈ lRows r n f) : BadR x := by
  unfold lRows at hx
  rcases List.mem_append.mp hx with hx | hx
  · unfold lRow1 lRow2 lRow3 at hx
    simp only [List.cons_append, List.nil_append, List.mem_cons, List.not_mem_nil, or_false] at hx
    rcases hx with rfl | rfl | rfl | rfl | rfl | rfl | rfl | rfl | rfl | rfl | rfl | rfl | rfl | rfl | rfl | rfl | rfl | rfl | rfl | rfl | rfl | rfl | rfl | rfl
    · exact badR_other fun _ e => by cases e
    · exact badR_other fun _ e => by cases e
    · exact badR_other fun _ e => by cases e
    · exact badR_other fun _ e => by cases e
    · exact badR_other fun _ e => by cases e
    · exact badR_other fun _ e => by cases e
    · exact badR_1 (none_sz fun _ e => by cases e) rfl
    · exact badR_1 (none_sz fun _ e => by cases e) rfl
    · exact badR_1 (szT_few (show 1 ≤ 40000 by decide)) rfl
    · exact badR_1 (szT_few (show 3 ≤ 40000 by decide)) rfl
    · exact badR_1 (none_sz fun _ e => by cases e) rfl
    · exact badR_1 szT2 (by decide)
    · exact badR_1 szT2 (by decide)
    · exact badR_1 szT2 (by decide)
    · refine badR_1 szT2 ?_
      show (decide ((0 : Int) ≤ 0) && decide ((0 : Int) ≤ 2) && (decide (0 < -1 - f) && (!decide ((0 : Int) = 1) || decide (-1 - f ≤ 1000)))) = false
      rw [decide_eq_false (show ¬ 0 < -1 - f by omega)]
      simp
    · exact badR_1 szT2 (by decide)
    · exact badR_1 szT2 (lParts_bad hf (x := t2 1 (1001 + f)) (by simp [lParts])).2
    · exact badR_1 szT2 rfl
    · exact badR_1 szT2 rfl
    · exact badR_1 szT2 rfl
    · exact badR_1 szT2 rfl
    · refine ⟨szL_list (show 2 ≤ 40000 by decide) fun y hy => ?_, by decide⟩
      simp only [List.mem_cons, List.not_mem_nil, or_false] at hy
      rcases hy with rfl | rfl <;> exact szT2
    · refine ⟨szL_list (show 3 ≤ 40000 by decide) fun y hy => ?_, by decide⟩
      simp only [List.mem_cons, List.not_mem_nil, or_false] at hy
      rcases hy with rfl | rfl | rfl <;> exact szT2
    · have hl : (altD 201).length = 201 := by unfold altD; rw [List.length_map, List.length_range]
      refine badR_long (szL_list (by rw [hl]; decide) fun y hy => ?_) (by rw [hl]; decide)
      unfold altD at hy
      obtain ⟨k, _, rfl⟩ := List.mem_map.mp hy
      exact szT2
  · obtain ⟨y, hy, rfl⟩ := List.mem_map.mp hx
    exact putIn_bad hr (lParts_bad hf hy)
theorem few_alt (n : Nat) : few (fun _ => true) (fun k => t2 ((0 + (k : Int)) % 2 * 2) 1) n = altD n := by
  induction n with
  | zero => rfl
  | succ n ih =>
    rw [few_succ, ih]
    unfold altD
    rw [List.range_succ, List.map_append]
    simp
/-- the row of two hundred -/
def altRow (n : Nat) : Row := (List.range n).map fun k : Nat => (((k : Int) % 2 * 2), 1)
theorem altRow_d (n : Nat) : (altRow n).map sd = altD n := by
  unfold altRow altD
  rw [List.map_map]
  rfl
theorem altRow_fit : Fit (altRow 200) where
  good := by
    have key : ∀ (n k : Nat) (l : Int), l ≠ (k : Int) % 2 * 2 → Good l ((List.range' k n).map fun k : Nat => (((k : Int) % 2 * 2), 1)) := by
      intro n
      induction n with
      | zero => intro k l _; exact trivial
      | succ n ih =>
        intro k l hl
        rw [List.range'_succ, List.map_cons]
        refine ⟨?_, fun z => hl z.symm, by decide, fun z => by omega, ih _ _ ?_⟩
        · rcases (by omega : (k : Int) % 2 = 0 ∨ (k : Int) % 2 = 1) with h | h <;> rw [h]
          · exact .inl rfl
          · exact .inr (.inr rfl)
        · rw [Int.natCast_add]
          omega
    unfold altRow
    rw [List.range_eq_range']
    exact key 200 0 (-1) (by decide)
  len := by unfold altRow; rw [List.length_map, List.length_range]; exact Nat.le_refl _
  few := fun x hx => by
    unfold altRow at hx
    obtain ⟨k, _, rfl⟩ := List.mem_map.mp hx
    exact Nat.one_lt_two_pow (by decide)
  sm := Sm.up (show (behind root (altRow 200)).1.natAbs < 2 ^ 800 by decide +kernel) (by decide)
theorem far_row : 1 * 2 ^ (2400 : Int).toNat < (behind root [(1, 1000)]).1 * (behind root [(1, 1000)]).1 - (behind root [(1, 1000)]).2 * (behind root [(1, 1000)]).2 := by decide +kernel
end Sq

namespace Sq
open PySem PySem.Spec PyProof.Rows L2 Evl
/-! ### what the doors refuse, by what class -/
def B_pair_of (e0 : Addr) : Bad := fun ds C => ∃ x, ds = [x] ∧ BadT x ∧ C = e0
def B_triple_of (e1 : Addr) : Bad := fun ds C => ∃ x, ds = [x] ∧ BadP x ∧ C = e1
def B_stepped (e0 e2 : Addr) : Bad := fun ds C => ∃ x y, ds = [x, y] ∧ ((BadT x ∧ C = e0) ∨ ∃ p, x = td p ∧ IsPair p ∧ Sm 90000 p.1 ∧ isStepD y = false ∧ C = e2)
def B_by_row (e3 : Addr) : Bad := fun ds C => ∃ x, ds = [x] ∧ BadR x ∧ C = e3
def B_side (e4 : Addr) : Bad := fun ds C => ∃ x, ds = [x] ∧ isSide x = false ∧ C = e4
def BAsk (Cs : Nat → Addr) (i : Nat) : Bad := fun ds C => ∃ y x, ds = [y, x] ∧ C = Cs i ∧ (match i with
  | 0 => ∃ g : Nat, y = .int (g : Int) ∧ g < 4 ∧ BadT x
  | 1 => BadP x
  | 2 => ∃ p, y = td p ∧ IsPair p ∧ Sm 90000 p.1 ∧ isStepD x = false
  | 3 => BadR x
  | _ => ∃ g : Int, y = .int g ∧ isSide x = false)
def spTold5 (K : PySem.W.Frag) (Cs fA : Nat → Addr) : Sp := fun vs H Q _ => ∃ (f : Addr) (v1 v2 : V) (d1 d2 : PyData) (i : Nat), vs = [.ref f, v1, v2] ∧ i < 5 ∧ f = fA i ∧ DV K H v1 d1 ∧ DV K H v2 d2 ∧ BAsk Cs i [d1, d2] (Cs i) ∧ RetD K (kindsD i) H Q
def spAll5 (K : PySem.W.Frag) (Cs fA : Nat → Addr) : Sp := fun vs H Q _ => ∃ (f : Addr) (v1 vt vd : V) (d1 : PyData) (ds : List PyData) (i : Nat), vs = [.ref f, v1, vt, vd] ∧ i < 5 ∧ f = fA i ∧ DV K H v1 d1 ∧ DV K H vt (.list ds) ∧ ds.length ≤ 40000 ∧ (∀ x ∈ ds, BAsk Cs i [d1, x] (Cs i)) ∧ DV K H vd (kindsD i) ∧ ∀ H', Ex H H' → Q (.bl true) H'
/-- the five that are asked -/
def AskS (K : PySem.W.Frag) (Cs fA : Nat → Addr) : Addr → Sp → Prop := fun f sp => ∃ i, i < 5 ∧ f = fA i ∧ sp = spB K (BAsk Cs i)
def R__law_bad_rows5 : RelL := fun ds es => ∃ (r : Row) (f : Int), ds = [rd r, .int f] ∧ r.length ≤ 16 ∧ 0 ≤ f ∧ es = lRows r (f % ((r.length : Int) + 1)).toNat f
def R_law5 : Rel := fun ds d => ∃ ns : List Int, ds = [.list (ns.map .int)] ∧ ns.length ≤ 63 ∧ (∀ c ∈ ns, Sm 1048577 c) ∧ d = .bool true
theorem ed_told {K : PySem.W.Frag} {Cs fA : Nat → Addr} {σ : L2.St} {H : Hp} {ta t1 t2 : TE} {E : XK} {i : Nat} {d1 d2 : PyData} (hi : i < 5) (ha : Ev ta σ H (.ref (fA i))) (h1 : EvD K t1 σ H d1) (h2 : EvD K t2 σ H d2) (hB : BAsk Cs i [d1, d2] (Cs i)) :
    EvD K (tCall (spTold5 K Cs fA) [] E (tCons ta (tCons t1 (tCons t2 tNil)))) σ H (kindsD i) := fun H1 a Q q =>
  ha H1 a _ fun H2 b => h1 H2 (a.trans b) _ fun v1 H3 c hv1 => h2 H3 ((a.trans b).trans c) _ fun v2 H4 d hv2 =>
    ⟨_, _, _, d1, d2, i, rfl, hi, rfl, hv1.ex d, hv2, hB, fun v H5 e hv => q v H5 (((b.trans c).trans d).trans e) hv⟩
theorem ev_all5 {K : PySem.W.Frag} {Cs fA : Nat → Addr} {σ : L2.St} {H : Hp} {ta t1 t2 t3 : TE} {E : XK} {i : Nat} {d1 : PyData} {ds : List PyData} (hi : i < 5) (ha : Ev ta σ H (.ref (fA i))) (h1 : EvD K t1 σ H d1) (h2 : EvD K t2 σ H (.list ds)) (h3 : EvD K t3 σ H (kindsD i)) (hl : ds.length ≤ 40000)
    (hB : ∀ x ∈ ds, BAsk Cs i [d1, x] (Cs i)) : Ev (tCall (spAll5 K Cs fA) [] E (tCons ta (tCons t1 (tCons t2 (tCons t3 tNil))))) σ H (.bl true) := fun H1 a Q q =>
  ha H1 a _ fun H2 b => h1 H2 (a.trans b) _ fun v1 H3 c hv1 => h2 H3 ((a.trans b).trans c) _ fun v2 H4 d hv2 => h3 H4 (((a.trans b).trans c).trans d) _ fun v3 H5 e hv3 =>
    ⟨_, _, _, _, d1, ds, i, rfl, hi, rfl, (hv1.ex d).ex e, hv2.ex e, hl, hB, hv3, fun H6 g => q H6 ((((b.trans c).trans d).trans e).trans g)⟩
def R__law_cell_at : Rel := fun ds d => ∃ (ns : List Int) (k : Nat), ds = [.list (ns.map .int), .int k] ∧ d = .int (ns.getD k 0)
def askN : Nat → Str
  | 0 => "_law_with_triple" | 1 => "_law_with_pair" | 2 => "_law_with_step" | 3 => "_law_with_row" | _ => "_law_with_number"
/-! ### sizes -/
theorem Sm.half {b : Nat} {x : Int} (h : Sm b x) (h0 : 0 ≤ x) : Sm b (x / 2) := by
  have h : x.natAbs < 2 ^ b := h
  show (x / 2).natAbs < 2 ^ b
  generalize 2 ^ b = z at *
  omega
theorem sm_isqrt {b : Nat} {z : Int} (h : Sm (b + b) z) (h0 : 0 ≤ z) : Sm b ((Float64.isqrt z.toNat : Nat) : Int) := by
  have h : z.natAbs < 2 ^ (b + b) := h
  show ((Float64.isqrt z.toNat : Nat) : Int).natAbs < 2 ^ b
  rw [Int.natAbs_natCast]
  obtain ⟨h1, _⟩ := PySem.Float64.isqrt_spec z.toNat
  refine Nat.lt_of_not_le fun hle => ?_
  have h2 : 2 ^ b * 2 ^ b ≤ Float64.isqrt z.toNat * Float64.isqrt z.toNat := Nat.mul_le_mul hle hle
  rw [← Nat.pow_add] at h2
  have h3 : z.toNat = z.natAbs := by omega
  omega
/-! ### an empty dict, as data -/
theorem ed_dct {K : PySem.W.Frag} {σ : L2.St} {H : Hp} : EvD K tDNewK σ H (.dict []) := fun H1 _ _ q => fun p hp => q _ _ (Ex.new hp) (.dct upd_same)
end Sq

namespace Sq
open PySem PySem.Spec PyProof.Rows L2 Evl
/-! ### a new list whose items stand apart from it -/
section
variable {K : PySem.W.Frag} {σ : L2.St} {H H' : Hp} {ta tb te tx : TE} {ds es : List PyData} {d e : PyData} {D : Ends} {tu tz : TS}
def EvLE (K : PySem.W.Frag) (te : TE) (σ : L2.St) (H : Hp) (ds : List PyData) : Prop := ∀ H1, Ex H H1 → ∀ Q : VK, (∀ p vs H2, H1 p = none → Ex H1 H2 → H2 p = some (.lst vs) → DVs K (ers p H2) vs ds → Q (.ref p) H2) → te σ H1 Q
theorem ers_new {p : Addr} {o : HO} (h : H p = none) : ers p (upd H p o) = H := by
  funext b
  by_cases z : b = p
  · rw [z, ers_self, h]
  · rw [ers_ne z, upd_ne z]
theorem ele_catV {i : Nat} {p : Addr} {vs : List V} (hv : σ[i]? = some (some (.ref p))) (hp : H p = some (.lst vs)) (hvs : DVs K H vs ds) (h2 : EvLD K tb σ H es) (hl : ds.length + es.length ≤ 100000) : EvLE K (tOp rCat (tVar i) tb) σ H (ds ++ es) := fun H1 a _ q =>
  ⟨.ref p, hv, h2 H1 a _ fun p' vs' H3 hn' e3 hp' hv' =>
    ⟨p, p', vs, vs', rfl, rfl, e3 _ _ (a _ _ hp), hp', sz_of (by rw [hvs.len, hv'.len]; exact hl), fun l hl => q l _ _ (fresh_back e3 hl) (e3.trans (Ex.new hl)) upd_same (by rw [ers_new hl]; exact (hvs.ex (a.trans e3)).append hv')⟩⟩
theorem q_asgLE {i : Nat} (h : EvLE K te σ H ds) (k : ∀ p vs H1, H p = none → Ex H H1 → H1 p = some (.lst vs) → DVs K (ers p H1) vs ds → tz D (σ.set i (some (.ref p))) H1) : tSeq (tAsg te (gName i)) tz D σ H := h H (Ex.refl H) _ fun p vs H1 hn e hp hv => k p vs H1 hn e hp hv
/-- for x in (a, b, ..), a tuple made here, whose turns change a list of ours -/
theorem q_forTE {i : Nat} (h : EvD K te σ H (.tuple ds)) (Pv : Addr → List V → Nat → L2.St → Hp → Prop) (h0 : ∀ t xs H1, Ex H H1 → SqT K H1 t xs → DVs K H1 xs ds → Pv t xs 0 σ H1) (hT : ∀ t xs k σ' H', Pv t xs k σ' H' → SqT K H' t xs)
    (hs : ∀ t xs k w σ' H', xs[k]? = some w → Pv t xs k σ' H' → tu { D with nx := Pv t xs (k + 1), ct := Pv t xs (k + 1), bk := tz D } (σ'.set i (some w)) H') (hd : ∀ t xs σ' H', Pv t xs ds.length σ' H' → tz D σ' H') : tSeq (tFor (iTup K te) (gName i) tu) tz D σ H :=
  h H (Ex.refl H) _ fun v H1 e hv => by
    cases hv with
    | @tup p xs _ hp hx =>
      have hlen := hx.len
      refine ⟨p, rfl, ⟨xs, hp⟩, fun k m σ' H' => m = xs.length - k ∧ k ≤ xs.length ∧ Pv p xs k σ' H', ⟨xs.length, by simp, Nat.zero_le _, h0 p xs H1 e hp hx⟩, ?_⟩
      rintro k m σ' H' ⟨rfl, hk, P⟩
      have hS := hT p xs k σ' H' P
      by_cases hlt : k < xs.length
      · refine .inr ⟨⟨xs, xs[k], hS, List.getElem?_eq_getElem hlt⟩, Pv p xs (k + 1), fun σ2 H2 P2 => ⟨xs.length - (k + 1), by omega, rfl, hlt, P2⟩, fun w H2 hy => ?_⟩
        obtain ⟨hy1, hy2⟩ := hy
        subst hy1
        exact hs p xs k w σ' _ (hy2 xs hS) P
      · have ek : k = xs.length := by omega
        subst ek
        exact .inl ⟨⟨xs, hS, Nat.le_refl _⟩, hd p xs σ' H' (by rw [← hlen]; exact P)⟩
/-- a, b = x, [..] -/
theorem q_parDL {i j : Nat} (h : EvD K te σ H d) (h2 : EvLD K tx σ H ds) (k : ∀ w p vs H1, H p = none → Ex H H1 → H1 p = some (.lst vs) → DVs K H1 vs ds → DV K H1 w d → tz D ((σ.set i (some w)).set j (some (.ref p))) H1) : tSeq (tPar i j (tCons te (tCons tx tNil))) tz D σ H :=
  h H (Ex.refl H) _ fun w H1 e hw => h2 H1 e _ fun p vs H2 hn e2 hp hv => ⟨_, _, rfl, k w p vs H2 (fresh_back e hn) (e.trans e2) hp hv (hw.ex e2)⟩
theorem dvs_bools : ∀ {bs : List Bool} {vs : List V}, DVs K H vs (bs.map .bool) → vs = bs.map .bl
  | [], _, h => by cases h; rfl
  | b :: bs, _, h => by
    cases h with
    | cons x y =>
      cases x
      rw [dvs_bools y]
      rfl
/-- a, (b, c, d) = x, y -/
theorem q_un4 {i j k l : Nat} {d1 : PyData} {a b c : Int} (h : EvD K te σ H (.tuple [d1, t3 a b c])) (z : ∀ v H1, Ex H H1 → DV K H1 v d1 → tz D ((((σ.set i (some v)).set j (some (.int a))).set k (some (.int b))).set l (some (.int c))) H1) :
    tSeq (tAsg te (gTup K 2 (gCons (gName i) (gCons (gTup K 3 (gCons (gName j) (gCons (gName k) (gCons (gName l) gNil)))) gNil)))) tz D σ H :=
  h H (Ex.refl H) _ fun v H1 e hv => by
    cases hv with
    | @tup p xs _ hp hx =>
      cases hx with
      | cons x1 hx =>
        cases hx with
        | cons x2 hx =>
          cases hx
          cases x2 with
          | @tup p2 ys _ hp2 hy =>
            cases dvs3i hy
            exact ⟨p, _, rfl, hp, rfl, _, _, rfl, _, _, rfl, ⟨p2, _, rfl, hp2, rfl, _, _, rfl, _, _, rfl, _, _, rfl, rfl, rfl, z _ H1 e x1⟩⟩
end
/-! ### data that stand apart from a list, as they hold no list of its length -/
mutual
def okL (n : Nat) : PyData → Bool
  | .list ds => !decide (ds.length = n) && okLs n ds
  | .tuple ds => okLs n ds
  | _ => true
def okLs (n : Nat) : List PyData → Bool
  | [] => true
  | d :: ds => okL n d && okLs n ds
end
section
variable {K : PySem.W.Frag} {H H' : Hp} {l : Addr} {ys : List V}
mutual
theorem dv_ersL (hl : H l = some (.lst ys)) : ∀ (d : PyData) (v : V), okL ys.length d = true → DV K H v d → DV K (ers l H) v d
  | .none, _, _, h => by cases h; exact .non
  | .bool _, _, _, h => by cases h; exact .bl _
  | .int _, _, _, h => by cases h; exact .int _
  | .str _, _, _, h => by cases h; exact .str _
  | .list ds, _, c, h => by
    have c' : ds.length ≠ ys.length ∧ okLs ys.length ds = true := by simpa [okL] using c
    cases h with
    | @lst a xs _ p q =>
      refine .lst ?_ (dvs_ersL hl ds _ c'.2 q)
      have far : ∀ {o : HO}, H a = some o → o ≠ .lst ys → SqL K (ers l H) a xs := fun {o} ha no => by
        have hne : a ≠ l := fun z => by rw [z, hl] at ha; exact no (Option.some.inj ha).symm
        rcases p with (p | ⟨ob, p⟩) | p
        · exact .inl (.inl (by rw [ers_ne hne]; exact p))
        · exact .inl (.inr ⟨ob, by rw [ers_ne hne]; exact p⟩)
        · exact .inr p
      rcases id p with (p2 | ⟨ob, p2⟩) | p2
      · exact far p2 fun z => by
          cases z
          exact c'.1 q.len.symm
      · exact far p2 fun z => by cases z
      · exact .inr p2
  | .tuple ds, _, c, h => by
    have c' : okLs ys.length ds = true := by simpa [okL] using c
    cases h with
    | tup p q => exact .tup (sqT_ers hl p) (dvs_ersL hl ds _ c' q)
  | .dict _, _, _, h => by
    cases h with
    | dct p => exact .dct (by rw [ers_ne (ne_of p hl (by intro z; cases z))]; exact p)
theorem dvs_ersL (hl : H l = some (.lst ys)) : ∀ (ds : List PyData) (vs : List V), okLs ys.length ds = true → DVs K H vs ds → DVs K (ers l H) vs ds
  | [], _, _, h => by cases h; exact .nil
  | d :: ds, _, c, h => by
    have c' : okL ys.length d = true ∧ okLs ys.length ds = true := by simpa [okLs] using c
    cases h with
    | cons a b => exact .cons (dv_ersL hl d _ c'.1 a) (dvs_ersL hl ds _ c'.2 b)
end
theorem ex_ers (nl : H l = none) (e : Ex H H') : Ex H (ers l H') := fun a o h => by
  rw [ers_ne fun z => by rw [z, nl] at h; cases h]
  exact e a o h
end
theorem okLs_app (n : Nat) : ∀ (a b : List PyData), okLs n (a ++ b) = (okLs n a && okLs n b)
  | [], b => by simp [okLs]
  | d :: a, b => by rw [List.cons_append]; simp only [okLs, okLs_app n a b, Bool.and_assoc]
theorem okLs_sd (n : Nat) : ∀ r : Row, okLs n (r.map sd) = true
  | [] => rfl
  | x :: r => by rw [List.map_cons]; simp only [okLs, okLs_sd n r, sd, okL, Bool.and_true]
theorem putIn_ok {r : Row} {k n : Nat} {x : PyData} (hr : r.length ≤ 16) (hn : 24 ≤ n) (hx : okL n x = true) : okL n (putIn r k x) = true := by
  have hl : ((r.take k).map sd ++ [x] ++ (r.drop k).map sd).length ≠ n := by
    simp only [List.length_append, List.length_map, List.length_take, List.length_drop, List.length_singleton]
    omega
  have hs : okLs n ((r.take k).map sd ++ [x] ++ (r.drop k).map sd) = true := by
    rw [okLs_app, okLs_app, okLs_sd, okLs_sd]
    simp [okLs, hx]
  unfold putIn okL
  rw [hs, decide_eq_false hl]
  rfl
theorem lParts_ok {f : Int} {n : Nat} (hn : 24 ≤ n) {x : PyData} (hx : x ∈ lParts f) : okL n x = true := by
  unfold lParts at hx
  simp only [List.mem_cons, List.not_mem_nil, or_false] at hx
  rcases hx with rfl | rfl | rfl | rfl | rfl | rfl
  · rfl
  · rfl
  · rfl
  · rfl
  · have h : ¬ (2 = n) := by omega
    simp [okL, okLs, h]
  · rfl
theorem okLs_all {n : Nat} : ∀ {ds : List PyData}, (∀ x ∈ ds, okL n x = true) → okLs n ds = true
  | [], _ => rfl
  | d :: ds, h => by
    unfold okLs
    rw [h d List.mem_cons_self, okLs_all fun x hx => h x (List.mem_cons_of_mem _ hx)]
    rfl
/-- [e for x in range(n)] -/
theorem eld_lcR1 {K : PySem.W.Frag} {σ : L2.St} {H : Hp} {te : TE} {tA : TA} {j : Nat} {vs : List Nat} {hi : Int} {n : Nat} (f : Nat → PyData) (hI : ∀ i, IntD (f i)) (h : EvA tA σ H [.int hi]) (hn : hi = (n : Int)) (hb : n ≤ 40000) (hw : ∀ x, wipe ((wipe σ vs).set j (some x)) vs = wipe σ vs)
    (he : ∀ (i : Nat) H1, Ex H H1 → i < n → EvD K te ((wipe σ vs).set j (some (.int (0 + (i : Int))))) H1 (f i)) : EvLD K (tLc (iRng1 tA) (gName j) tYes te vs) σ H (few (fun _ => true) f n) := by
  intro H0 e Q q
  subst hn
  refine h H0 e _ fun H1 e1 => ⟨(n : Int), rfl, by omega, by omega, fun Dl hD => ?_⟩
  rw [Int.toNat_natCast]
  refine lc_range (lo := 0) (n := n) (CwD K H1 (fun _ => true) f Dl) ⟨hD, Ex.new hD, [], upd_same, .nil⟩ (fun i H' hi p => ⟨hw _, cwD_turn hI p (by omega) tYes_t fun _ => he i H1 (e.trans e1) hi⟩) fun H' p => ?_
  obtain ⟨p1, p2, acc, p3, p4⟩ := p
  exact q Dl acc H' (fresh_back e1 p1) (e1.trans p2) p3 p4
/-! ### what is due, list by list -/
def kindsV (i : Nat) : List V := [.bl (decide (i = 0)), .bl (decide (i = 1)), .bl (decide (i = 2)), .bl (decide (i = 3)), .bl (decide (i = 4)), .bl true]
theorem kinds_of {K : PySem.W.Frag} {H : Hp} {i : Nat} {p : Addr} (h : H p = some (.lst (kindsV i))) : DV K H (.ref p) (kindsD i) :=
  .lst (sq_of h) (.cons (.bl _) (.cons (.bl _) (.cons (.bl _) (.cons (.bl _) (.cons (.bl _) (.cons (.bl _) .nil))))))
def DueL (H : Hp) (l : Addr) (n : Nat) : Prop := ∃ ps : List Addr, ps.length = n ∧ H l = some (.lst (ps.map .ref)) ∧ ∀ (i : Nat) p, ps[i]? = some p → H p = some (.lst (kindsV i)) ∧ p ≠ l
theorem due_data {K : PySem.W.Frag} {H : Hp} {l : Addr} {n : Nat} (h : DueL H l n) : DV K H (.ref l) (.list ((List.range n).map kindsD)) := by
  obtain ⟨ps, rfl, hl, hp⟩ := h
  refine .lst (sq_of hl) ?_
  have key : ∀ (ps : List Addr) (k : Nat), (∀ (i : Nat) p, ps[i]? = some p → H p = some (.lst (kindsV (k + i)))) → DVs K H (ps.map .ref) ((List.range' k ps.length).map kindsD) := by
    intro ps
    induction ps with
    | nil => intro k _; exact .nil
    | cons p ps ih =>
      intro k h
      rw [List.length_cons, List.range'_succ, List.map_cons, List.map_cons]
      refine .cons (kinds_of (h 0 p rfl)) (ih (k + 1) fun i q hq => ?_)
      have := h (i + 1) q (by simpa using hq)
      rw [show k + 1 + i = k + (i + 1) by omega]
      exact this
  rw [List.range_eq_range']
  exact key ps 0 fun i p h => by rw [Nat.zero_add]; exact (hp i p h).1
theorem DueL.ex {H H' : Hp} {l : Addr} {n : Nat} (h : DueL H l n) (e : Ex H H') : DueL H' l n := by
  obtain ⟨ps, h1, h2, h3⟩ := h
  exact ⟨ps, h1, e _ _ h2, fun i p hi => ⟨e _ _ (h3 i p hi).1, (h3 i p hi).2⟩⟩
theorem DueL.add {H : Hp} {l p : Addr} {n : Nat} {xs : List V} (h : DueL H l n) (hl : H l = some (.lst xs)) (hp : H p = some (.lst (kindsV n))) (hne : p ≠ l) : DueL (upd H l (.lst (xs ++ [.ref p]))) l (n + 1) := by
  obtain ⟨ps, rfl, h2, h3⟩ := h
  have e : xs = ps.map .ref := by
    have z := hl.symm.trans h2
    cases z
    rfl
  subst e
  refine ⟨ps ++ [p], by rw [List.length_append]; rfl, by rw [upd_same, List.map_append]; rfl, fun i q hi => ?_⟩
  by_cases hlt : i < ps.length
  · rw [List.getElem?_append_left hlt] at hi
    obtain ⟨g1, g2⟩ := h3 i q hi
    exact ⟨by rw [upd_ne g2]; exact g1, g2⟩
  · rw [List.getElem?_append_right (by omega)] at hi
    have e : i = ps.length := by
      by_cases z : i - ps.length = 0
      · omega
      · rw [List.getElem?_eq_none (by rw [List.length_singleton]; omega)] at hi
        cases hi
    subst e
    rw [Nat.sub_self] at hi
    cases Option.some.inj hi
    exact ⟨by rw [upd_ne hne]; exact hp, hne⟩
end Sq

namespace Sq
open PySem PySem.Spec PyProof.Rows L2 Evl

def topS (i : Nat) : Stmt := PySem.Challenge.pw_squaretree_k05_refused.main.body.getD i (.Pass ⟨0, 0, 0, 0⟩)

abbrev s_is_whole : Stmt := topS 12
abbrev N_is_whole : List Str := ["value"]
abbrev P_is_whole : List Str := ["value"]
theorem sc_is_whole : FnScope N_is_whole P_is_whole (defScope s_is_whole) := ⟨rfl, rfl, rfl, by decide +kernel, rfl, by decide +kernel, by decide +kernel⟩

abbrev s_are_whole : Stmt := topS 13
abbrev N_are_whole : List Str := ["value", "many", "part"]
abbrev P_are_whole : List Str := ["value", "many"]
theorem sc_are_whole : FnScope N_are_whole P_are_whole (defScope s_are_whole) := ⟨rfl, rfl, rfl, by decide +kernel, rfl, by decide +kernel, by decide +kernel⟩

abbrev s_is_side : Stmt := topS 14
abbrev N_is_side : List Str := ["value"]
abbrev P_is_side : List Str := ["value"]
theorem sc_is_side : FnScope N_is_side P_is_side (defScope s_is_side) := ⟨rfl, rfl, rfl, by decide +kernel, rfl, by decide +kernel, by decide +kernel⟩

abbrev s_is_pair : Stmt := topS 15
abbrev N_is_pair : List Str := ["value", "m", "n"]
abbrev P_is_pair : List Str := ["value"]
theorem sc_is_pair : FnScope N_is_pair P_is_pair (defScope s_is_pair) := ⟨rfl, rfl, rfl, by decide +kernel, rfl, by decide +kernel, by decide +kernel⟩

abbrev s_formed : Stmt := topS 16
abbrev N_formed : List Str := ["m", "n", "greater", "lesser"]
abbrev P_formed : List Str := ["m", "n"]
theorem sc_formed : FnScope N_formed P_formed (defScope s_formed) := ⟨rfl, rfl, rfl, by decide +kernel, rfl, by decide +kernel, by decide +kernel⟩

abbrev s_pair_of : Stmt := topS 24
abbrev N_pair_of : List Str := ["triple", "odd", "even", "longest", "m", "n"]
abbrev P_pair_of : List Str := ["triple"]
theorem sc_pair_of : FnScope N_pair_of P_pair_of (defScope s_pair_of) := ⟨rfl, rfl, rfl, by decide +kernel, rfl, by decide +kernel, by decide +kernel⟩

abbrev s_triple_of : Stmt := topS 25
abbrev N_triple_of : List Str := ["pair", "m", "n"]
abbrev P_triple_of : List Str := ["pair"]
theorem sc_triple_of : FnScope N_triple_of P_triple_of (defScope s_triple_of) := ⟨rfl, rfl, rfl, by decide +kernel, rfl, by decide +kernel, by decide +kernel⟩

abbrev s_stepped : Stmt := topS 30
abbrev N_stepped : List Str := ["triple", "step", "m", "n"]
abbrev P_stepped : List Str := ["triple", "step"]
theorem sc_stepped : FnScope N_stepped P_stepped (defScope s_stepped) := ⟨rfl, rfl, rfl, by decide +kernel, rfl, by decide +kernel, by decide +kernel⟩

abbrev s_back : Stmt := topS 31
abbrev N_back : List Str := ["triple", "m", "n", "step"]
abbrev P_back : List Str := ["triple"]
theorem sc_back : FnScope N_back P_back (defScope s_back) := ⟨rfl, rfl, rfl, by decide +kernel, rfl, by decide +kernel, by decide +kernel⟩

abbrev s_by_row : Stmt := topS 32
abbrev N_by_row : List Str := ["row", "m", "n", "step", "times"]
abbrev P_by_row : List Str := ["row"]
theorem sc_by_row : FnScope N_by_row P_by_row (defScope s_by_row) := ⟨rfl, rfl, rfl, by decide +kernel, rfl, by decide +kernel, by decide +kernel⟩

abbrev s_row_of : Stmt := topS 33
abbrev N_row_of : List Str := ["triple", "m", "n", "backwards", "step", "times"]
abbrev P_row_of : List Str := ["triple"]
theorem sc_row_of : FnScope N_row_of P_row_of (defScope s_row_of) := ⟨rfl, rfl, rfl, by decide +kernel, rfl, by decide +kernel, by decide +kernel⟩

abbrev s__is_step : Stmt := topS 34
abbrev N__is_step : List Str := ["value"]
abbrev P__is_step : List Str := ["value"]
theorem sc__is_step : FnScope N__is_step P__is_step (defScope s__is_step) := ⟨rfl, rfl, rfl, by decide +kernel, rfl, by decide +kernel, by decide +kernel⟩

abbrev s__is_row : Stmt := topS 35
abbrev N__is_row : List Str := ["value", "part", "at"]
abbrev P__is_row : List Str := ["value"]
theorem sc__is_row : FnScope N__is_row P__is_row (defScope s__is_row) := ⟨rfl, rfl, rfl, by decide +kernel, rfl, by decide +kernel, by decide +kernel⟩

abbrev s__is_part : Stmt := topS 36
abbrev N__is_part : List Str := ["value", "step", "times"]
abbrev P__is_part : List Str := ["value"]
theorem sc__is_part : FnScope N__is_part P__is_part (defScope s__is_part) := ⟨rfl, rfl, rfl, by decide +kernel, rfl, by decide +kernel, by decide +kernel⟩

abbrev s__led : Stmt := topS 37
abbrev N__led : List Str := ["m", "n", "step", "times", "low", "middle", "high", "gap"]
abbrev P__led : List Str := ["m", "n", "step", "times"]
theorem sc__led : FnScope N__led P__led (defScope s__led) := ⟨rfl, rfl, rfl, by decide +kernel, rfl, by decide +kernel, by decide +kernel⟩

abbrev s__led_back : Stmt := topS 38
abbrev N__led_back : List Str := ["m", "n", "step", "times", "low", "middle", "high", "sign", "gap"]
abbrev P__led_back : List Str := ["m", "n", "step", "times"]
theorem sc__led_back : FnScope N__led_back P__led_back (defScope s__led_back) := ⟨rfl, rfl, rfl, by decide +kernel, rfl, by decide +kernel, by decide +kernel⟩

abbrev s__pell : Stmt := topS 39
abbrev N__pell : List Str := ["times", "middle", "high", "at"]
abbrev P__pell : List Str := ["times"]
theorem sc__pell : FnScope N__pell P__pell (defScope s__pell) := ⟨rfl, rfl, rfl, by decide +kernel, rfl, by decide +kernel, by decide +kernel⟩

abbrev s__last_step : Stmt := topS 40
abbrev N__last_step : List Str := ["m", "n"]
abbrev P__last_step : List Str := ["m", "n"]
theorem sc__last_step : FnScope N__last_step P__last_step (defScope s__last_step) := ⟨rfl, rfl, rfl, by decide +kernel, rfl, by decide +kernel, by decide +kernel⟩

abbrev s__last_times : Stmt := topS 41
abbrev N__last_times : List Str := ["m", "n", "step"]
abbrev P__last_times : List Str := ["m", "n", "step"]
theorem sc__last_times : FnScope N__last_times P__last_times (defScope s__last_times) := ⟨rfl, rfl, rfl, by decide +kernel, rfl, by decide +kernel, by decide +kernel⟩

abbrev s__last_times_of_1 : Stmt := topS 42
abbrev N__last_times_of_1 : List Str := ["m", "n", "times", "leap", "before_m", "before_n"]
abbrev P__last_times_of_1 : List Str := ["m", "n"]
theorem sc__last_times_of_1 : FnScope N__last_times_of_1 P__last_times_of_1 (defScope s__last_times_of_1) := ⟨rfl, rfl, rfl, by decide +kernel, rfl, by decide +kernel, by decide +kernel⟩

abbrev s_longest : Stmt := topS 50
abbrev N_longest : List Str := ["number", "primes"]
abbrev P_longest : List Str := ["number"]
theorem sc_longest : FnScope N_longest P_longest (defScope s_longest) := ⟨rfl, rfl, rfl, by decide +kernel, rfl, by decide +kernel, by decide +kernel⟩

abbrev s_leg : Stmt := topS 51
abbrev N_leg : List Str := ["number"]
abbrev P_leg : List Str := ["number"]
theorem sc_leg : FnScope N_leg P_leg (defScope s_leg) := ⟨rfl, rfl, rfl, by decide +kernel, rfl, by decide +kernel, by decide +kernel⟩

abbrev s__check_side : Stmt := topS 52
abbrev N__check_side : List Str := ["number"]
abbrev P__check_side : List Str := ["number"]
theorem sc__check_side : FnScope N__check_side P__check_side (defScope s__check_side) := ⟨rfl, rfl, rfl, by decide +kernel, rfl, by decide +kernel, by decide +kernel⟩

abbrev s__law_cell_at : Stmt := topS 54
abbrev N__law_cell_at : List Str := ["_law_script", "_law_k"]
abbrev P__law_cell_at : List Str := ["_law_script", "_law_k"]
theorem sc__law_cell_at : FnScope N__law_cell_at P__law_cell_at (defScope s__law_cell_at) := ⟨rfl, rfl, rfl, by decide +kernel, rfl, by decide +kernel, by decide +kernel⟩

abbrev s__law_draw : Stmt := topS 55
abbrev N__law_draw : List Str := ["_law_cell", "_law_k", "_law_many", "_law_primes"]
abbrev P__law_draw : List Str := ["_law_cell", "_law_k", "_law_many"]
theorem sc__law_draw : FnScope N__law_draw P__law_draw (defScope s__law_draw) := ⟨rfl, rfl, rfl, by decide +kernel, rfl, by decide +kernel, by decide +kernel⟩

abbrev s__law_value : Stmt := topS 56
abbrev N__law_value : List Str := ["_law_cell", "_law_k", "_law_limit"]
abbrev P__law_value : List Str := ["_law_cell", "_law_k", "_law_limit"]
theorem sc__law_value : FnScope N__law_value P__law_value (defScope s__law_value) := ⟨rfl, rfl, rfl, by decide +kernel, rfl, by decide +kernel, by decide +kernel⟩

abbrev s__law_row : Stmt := topS 57
abbrev N__law_row : List Str := ["_law_script", "_law_begin", "_law_found", "_law_last", "_law_at", "_law_cell", "_law_drawn", "_law_step", "_law_often"]
abbrev P__law_row : List Str := ["_law_script", "_law_begin"]
theorem sc__law_row : FnScope N__law_row P__law_row (defScope s__law_row) := ⟨rfl, rfl, rfl, by decide +kernel, rfl, by decide +kernel, by decide +kernel⟩

abbrev s__law_led : Stmt := topS 58
abbrev N__law_led : List Str := ["_law_pair", "_law_step", "_law_often", "_law_m", "_law_n", "_law_turn"]
abbrev P__law_led : List Str := ["_law_pair", "_law_step", "_law_often"]
theorem sc__law_led : FnScope N__law_led P__law_led (defScope s__law_led) := ⟨rfl, rfl, rfl, by decide +kernel, rfl, by decide +kernel, by decide +kernel⟩

abbrev s__law_behind : Stmt := topS 59
abbrev N__law_behind : List Str := ["_law_row_here", "_law_found", "_law_step", "_law_often"]
abbrev P__law_behind : List Str := ["_law_row_here"]
theorem sc__law_behind : FnScope N__law_behind P__law_behind (defScope s__law_behind) := ⟨rfl, rfl, rfl, by decide +kernel, rfl, by decide +kernel, by decide +kernel⟩

abbrev s__law_triple : Stmt := topS 60
abbrev N__law_triple : List Str := ["_law_pair", "_law_m", "_law_n"]
abbrev P__law_triple : List Str := ["_law_pair"]
theorem sc__law_triple : FnScope N__law_triple P__law_triple (defScope s__law_triple) := ⟨rfl, rfl, rfl, by decide +kernel, rfl, by decide +kernel, by decide +kernel⟩

abbrev s__law_kinds : Stmt := topS 61
abbrev N__law_kinds : List Str := ["_law_error", "_law_found"]
abbrev P__law_kinds : List Str := ["_law_error"]
theorem sc__law_kinds : FnScope N__law_kinds P__law_kinds (defScope s__law_kinds) := ⟨rfl, rfl, rfl, by decide +kernel, rfl, by decide +kernel, by decide +kernel⟩

abbrev s__law_with_triple : Stmt := topS 62
abbrev N__law_with_triple : List Str := ["_law_door", "_law_triple_here"]
abbrev P__law_with_triple : List Str := ["_law_door", "_law_triple_here"]
theorem sc__law_with_triple : FnScope N__law_with_triple P__law_with_triple (defScope s__law_with_triple) := ⟨rfl, rfl, rfl, by decide +kernel, rfl, by decide +kernel, by decide +kernel⟩

abbrev s__law_with_pair : Stmt := topS 63
abbrev N__law_with_pair : List Str := ["_law_door", "_law_pair"]
abbrev P__law_with_pair : List Str := ["_law_door", "_law_pair"]
theorem sc__law_with_pair : FnScope N__law_with_pair P__law_with_pair (defScope s__law_with_pair) := ⟨rfl, rfl, rfl, by decide +kernel, rfl, by decide +kernel, by decide +kernel⟩

abbrev s__law_with_step : Stmt := topS 64
abbrev N__law_with_step : List Str := ["_law_triple_here", "_law_step"]
abbrev P__law_with_step : List Str := ["_law_triple_here", "_law_step"]
theorem sc__law_with_step : FnScope N__law_with_step P__law_with_step (defScope s__law_with_step) := ⟨rfl, rfl, rfl, by decide +kernel, rfl, by decide +kernel, by decide +kernel⟩

abbrev s__law_with_row : Stmt := topS 65
abbrev N__law_with_row : List Str := ["_law_door", "_law_row_here"]
abbrev P__law_with_row : List Str := ["_law_door", "_law_row_here"]
theorem sc__law_with_row : FnScope N__law_with_row P__law_with_row (defScope s__law_with_row) := ⟨rfl, rfl, rfl, by decide +kernel, rfl, by decide +kernel, by decide +kernel⟩

abbrev s__law_with_number : Stmt := topS 66
abbrev N__law_with_number : List Str := ["_law_door", "_law_number"]
abbrev P__law_with_number : List Str := ["_law_door", "_law_number"]
theorem sc__law_with_number : FnScope N__law_with_number P__law_with_number (defScope s__law_with_number) := ⟨rfl, rfl, rfl, by decide +kernel, rfl, by decide +kernel, by decide +kernel⟩

abbrev s__law_told : Stmt := topS 67
abbrev N__law_told : List Str := ["_law_ask", "_law_one", "_law_other", "_law_error"]
abbrev P__law_told : List Str := ["_law_ask", "_law_one", "_law_other"]
theorem sc__law_told : FnScope N__law_told P__law_told (defScope s__law_told) := ⟨rfl, rfl, rfl, by decide +kernel, rfl, by decide +kernel, by decide +kernel⟩

abbrev s__law_all : Stmt := topS 68
abbrev N__law_all : List Str := ["_law_ask", "_law_one", "_law_things", "_law_due", "_law_thing"]
abbrev P__law_all : List Str := ["_law_ask", "_law_one", "_law_things", "_law_due"]
theorem sc__law_all : FnScope N__law_all P__law_all (defScope s__law_all) := ⟨rfl, rfl, rfl, by decide +kernel, rfl, by decide +kernel, by decide +kernel⟩

abbrev s__law_bad_rows : Stmt := topS 69
abbrev N__law_bad_rows : List Str := ["_law_row_here", "_law_far", "_law_bad", "_law_at", "_law_part"]
abbrev P__law_bad_rows : List Str := ["_law_row_here", "_law_far"]
theorem sc__law_bad_rows : FnScope N__law_bad_rows P__law_bad_rows (defScope s__law_bad_rows) := ⟨rfl, rfl, rfl, by decide +kernel, rfl, by decide +kernel, by decide +kernel⟩

abbrev s_law : Stmt := topS 70
abbrev N_law : List Str := ["_law_script", "_law_far", "_law_due", "_law_k", "_law_row_here", "_law_kept", "_law_a", "_law_b", "_law_c", "_law_strange", "_law_bad", "_law_door", "_law_pairs", "_law_numbers", "_law_many", "_law_at"]
abbrev P_law : List Str := ["_law_script"]
theorem sc_law : FnScope N_law P_law (defScope s_law) := ⟨rfl, rfl, rfl, by decide +kernel, rfl, by decide +kernel, by decide +kernel⟩

structure Txt (K : PySem.W.Frag) (mg : Str → Option Value) (aR : Addr) (tL tM tA tZ : Tok) (e0 e1 e2 e3 e4 eT : Addr) : Prop where
  isinstance : mg "isinstance" = none
  int : mg "int" = none
  bool : mg "bool" = none
  tuple : mg "tuple" = none
  list : mg "list" = none
  len : mg "len" = none
  all : mg "all" = none
  range : mg "range" = none
  enumerate : mg "enumerate" = none
  sorted : mg "sorted" = none
  ValueError : mg "ValueError" = none
  isqrt : mg "isqrt" = some (.builtin "math.isqrt")
  gcd : mg "gcd" = some (.builtin "math.gcd")
  ROOT : mg "ROOT" = some (.ref aR)
  rootT : ∀ H : Hp, SqT K H aR [.int 2, .int 1]
  LONGEST_ROW : mg "LONGEST_ROW" = some (.int 200 tL)
  MOST_OF_STEP_1 : mg "MOST_OF_STEP_1" = some (.int 1000 tM)
  LEAST : mg "LEAST" = some (.int 2 tA)
  GREATEST : mg "GREATEST" = some (.int 1000000 tZ)
  TripleError : mg "TripleError" = some (.ref eT)
  BadTriple : mg "BadTriple" = some (.ref e0)
  x_BadTriple : PySem.W.excIn K e0 [.type "ValueError", .type "Exception", .type "BaseException", .type "object"] "ValueError.__new__" = true
  k_BadTriple : PySem.W.keepIn K (.ref e0) = true
  b_BadTriple : PySem.W.subIn K (.ref e0) (.type "BaseException") = some true
  t_BadTriple : PySem.W.typeIn K (.ref e0) = some (.type "type")
  BadPair : mg "BadPair" = some (.ref e1)
  x_BadPair : PySem.W.excIn K e1 [.type "ValueError", .type "Exception", .type "BaseException", .type "object"] "ValueError.__new__" = true
  k_BadPair : PySem.W.keepIn K (.ref e1) = true
  b_BadPair : PySem.W.subIn K (.ref e1) (.type "BaseException") = some true
  t_BadPair : PySem.W.typeIn K (.ref e1) = some (.type "type")
  BadStep : mg "BadStep" = some (.ref e2)
  x_BadStep : PySem.W.excIn K e2 [.type "ValueError", .type "Exception", .type "BaseException", .type "object"] "ValueError.__new__" = true
  k_BadStep : PySem.W.keepIn K (.ref e2) = true
  b_BadStep : PySem.W.subIn K (.ref e2) (.type "BaseException") = some true
  t_BadStep : PySem.W.typeIn K (.ref e2) = some (.type "type")
  BadRow : mg "BadRow" = some (.ref e3)
  x_BadRow : PySem.W.excIn K e3 [.type "ValueError", .type "Exception", .type "BaseException", .type "object"] "ValueError.__new__" = true
  k_BadRow : PySem.W.keepIn K (.ref e3) = true
  b_BadRow : PySem.W.subIn K (.ref e3) (.type "BaseException") = some true
  t_BadRow : PySem.W.typeIn K (.ref e3) = some (.type "type")
  BadNumber : mg "BadNumber" = some (.ref e4)
  x_BadNumber : PySem.W.excIn K e4 [.type "ValueError", .type "Exception", .type "BaseException", .type "object"] "ValueError.__new__" = true
  k_BadNumber : PySem.W.keepIn K (.ref e4) = true
  b_BadNumber : PySem.W.subIn K (.ref e4) (.type "BaseException") = some true
  t_BadNumber : PySem.W.typeIn K (.ref e4) = some (.type "type")
  err : ErrK K (Cse e0 e1 e2 e3 e4) eT
end Sq

namespace Sq
open PySem PySem.Spec PyProof.Rows L2 Evl

theorem ok_is_whole {P : Program} {w : World} {K : PySem.W.Frag} {mg : Str → Option Value} {base : Heap}  {aR : Addr} {tL tM tA tZ : Tok} {e0 e1 e2 e3 e4 eT : Addr} {f : Addr} {fd : FuncData} (F : Fun K "is_whole" "is_whole" s_is_whole f fd) (T : Txt K mg aR tL tM tA tZ e0 e1 e2 e3 e4 eT)  :
    FnOk P w K mg base CX0 1 f fd P_is_whole (spF K R_is_whole) := by
  refine F.ok sc_is_whole (spF_len fun ds d h => by
    first | (obtain ⟨_, rfl, _⟩ := h; rfl) | (obtain ⟨_, _, rfl, _⟩ := h; rfl) | (obtain ⟨_, _, _, rfl, _⟩ := h; rfl) | (obtain ⟨_, _, _, _, rfl, _⟩ := h; rfl) | (rcases h with ⟨rfl, _⟩ | ⟨_, _, rfl, _⟩ <;> rfl)) (fun cdv A outer s H vs Q E hr h => ?_)
  obtain ⟨ds, d, hv, hR, q⟩ := h
  obtain ⟨x, rfl, rfl⟩ := hR
  obtain ⟨v, rfl, hx⟩ := dvs1 hv
  refine ⟨_, (pss_one (ps_ret (pe_and (pe_callB (k_isi (K := K) rfl) (by rfl) T.isinstance (by decide +kernel) (pa_cons (pv 0) (pa_cons (pe_bltn (v := .ty "int") (u := .type "int") (by rfl) T.int (by decide +kernel) rfl) pa_nil))) (pe_one (pe_not (pe_callB (k_isi (K := K) rfl) (by rfl) T.isinstance (by decide +kernel) (pa_cons (pv 0) (pa_cons (pe_bltn (v := .ty "bool") (u := .type "bool") (by rfl) T.bool (by decide +kernel) rfl) pa_nil)))))))), ?_⟩
  refine s_retD (K := K) (d := .bool (whole x)) (ed_bl ?_) q
  rw [whole_eq]
  exact ev_andV (ev_isi (ed_var rfl hx) (kit_int x)) fun _ => ev_notV (ev_isi (ed_var rfl hx) (kit_bool x))

theorem ok_formed {P : Program} {w : World} {K : PySem.W.Frag} {mg : Str → Option Value} {base : Heap}  {aR : Addr} {tL tM tA tZ : Tok} {e0 e1 e2 e3 e4 eT : Addr} {f : Addr} {fd : FuncData} (F : Fun K "formed" "formed" s_formed f fd) (T : Txt K mg aR tL tM tA tZ e0 e1 e2 e3 e4 eT)  :
    FnOk P w K mg base CX0 1 f fd P_formed (spF K R_formed) := by
  refine F.ok sc_formed (spF_len fun ds d h => by
    first | (obtain ⟨_, rfl, _⟩ := h; rfl) | (obtain ⟨_, _, rfl, _⟩ := h; rfl) | (obtain ⟨_, _, _, rfl, _⟩ := h; rfl) | (obtain ⟨_, _, _, _, rfl, _⟩ := h; rfl) | (rcases h with ⟨rfl, _⟩ | ⟨_, _, rfl, _⟩ <;> rfl)) (fun cdv A outer s H vs Q E hr h => ?_)
  obtain ⟨ds, d, hv, hR, q⟩ := h
  obtain ⟨m, n, rfl, hm, hn, rfl⟩ := hR
  cases dvs2i hv
  refine ⟨_, (pss_cons (ps_set (i := 2) sc_formed.nd rfl (.inl rfl) (pe_op op_mulX (pv 0) (pv 0)))
      (pss_cons (ps_set (i := 3) sc_formed.nd rfl (.inl rfl) (pe_op op_mulX (pv 1) (pv 1)))
      (pss_one (ps_ret (pe_tup (pa_cons (pe_op op_sub (pv 2) (pv 3)) (pa_cons (pe_op op_mulX (pe_op op_mulX pe_int (pv 0)) (pv 1)) (pa_cons (pe_op op_add (pv 2) (pv 3)) pa_nil)))))))), ?_⟩
  refine q_asg (ev_op (ev_var rfl) (ev_var rfl) (rv_I (hm.cm hm (by decide)))) fun H1 e1 => ?_
  refine q_asg (ev_op (ev_var rfl) (ev_var rfl) (rv_I (hn.cm hn (by decide)))) fun H2 e2 => ?_
  refine s_retD (K := K) (d := td (m, n)) (ed_tup (eda_cons (ed_int ?_) (eda_cons (ed_int ?_) (eda_cons (ed_int ?_) eda_nil))) (by show 3 ≤ 100000; decide)) fun w H3 e3 hw => q w H3 ((e1.trans e2).trans e3) hw
  · exact ev_op (ev_var rfl) (ev_var rfl) rv_I0
  · exact ev_op (ev_op ev_c (ev_var rfl) (rv_I (sm2.cm hm (by decide)))) (ev_var rfl) (rv_I ((sm2.mul hm).cm hn (by decide)))
  · exact ev_op (ev_var rfl) (ev_var rfl) rv_I0

theorem ok__pell {P : Program} {w : World} {K : PySem.W.Frag} {mg : Str → Option Value} {base : Heap}  {aR : Addr} {tL tM tA tZ : Tok} {e0 e1 e2 e3 e4 eT : Addr} {f : Addr} {fd : FuncData} (F : Fun K "_pell" "_pell" s__pell f fd) (T : Txt K mg aR tL tM tA tZ e0 e1 e2 e3 e4 eT)  :
    FnOk P w K mg base CX0 1 f fd P__pell (spF K R__pell) := by
  refine F.ok sc__pell (spF_len fun ds d h => by
    first | (obtain ⟨_, rfl, _⟩ := h; rfl) | (obtain ⟨_, _, rfl, _⟩ := h; rfl) | (obtain ⟨_, _, _, rfl, _⟩ := h; rfl) | (obtain ⟨_, _, _, _, rfl, _⟩ := h; rfl) | (rcases h with ⟨rfl, _⟩ | ⟨_, _, rfl, _⟩ <;> rfl)) (fun cdv A outer s H vs Q E hr h => ?_)
  obtain ⟨ds, d, hv, hR, q⟩ := h
  obtain ⟨t, rfl, ht, rfl⟩ := hR
  cases dvs1i hv
  refine ⟨_, (pss_cons (ps_asg (pe_tup (pa_cons pe_int (pa_cons pe_int pa_nil))) (pg_tup rfl (pgs_cons (pg_name (i := 1) sc__pell.nd rfl (.inl rfl)) (pgs_cons (pg_name (i := 2) sc__pell.nd rfl (.inl rfl)) pgs_nil))))
      (pss_cons (ps_for PassesOwn.never rfl (pi_range3 (by rfl) T.range (pa_cons (pe_op op_sub (pe_bits (pv 0)) pe_int) (pa_cons (pe_un un_neg pe_int) (pa_cons (pe_un un_neg pe_int) pa_nil)))) (pg_name (i := 3) sc__pell.nd rfl (.inl rfl)) (pss_cons (ps_par (i := 1) (j := 2) rfl sc__pell.nd rfl rfl (by decide) rfl rfl (pa_cons (pe_op op_mulX (pe_op op_mulX pe_int (pv 1)) (pe_op op_sub (pv 2) (pv 1))) (pa_cons (pe_op op_add (pe_op op_mulX (pv 1) (pv 1)) (pe_op op_mulX (pv 2) (pv 2))) pa_nil)) (by rfl))
      (pss_one (ps_if (pt_cmpR op_eq (pe_op op_mod (pe_op op_shr (pv 0) (pv 3)) pe_int) pe_int (nomark _)) (pss_one (ps_par (i := 1) (j := 2) rfl sc__pell.nd rfl rfl (by decide) rfl rfl (pa_cons (pv 2) (pa_cons (pe_op op_add (pe_op op_mulX pe_int (pv 2)) (pv 1)) pa_nil)) (by rfl))) pss_nil))))
      (pss_one (ps_ret (pe_tup (pa_cons (pe_op op_sub (pv 2) (pe_op op_mulX pe_int (pv 1))) (pa_cons (pv 1) (pa_cons (pv 2) pa_nil)))))))), ?_⟩
  have hN := bits_lt t
  have hN12 : Builtin.Int.intBits (t : Int) ≤ 12 := intBits_le (k := 12) (show (t : Int).natAbs < 2 ^ 12 by rw [Int.natAbs_natCast]; exact Nat.lt_of_le_of_lt ht (by decide))
  generalize hN' : Builtin.Int.intBits (t : Int) = N at hN hN12
  have sm : ∀ k, k ≤ t → Sm 6001 (pell k).1 ∧ Sm 6001 (pell k).2 := fun k hk => pell_sm (Nat.le_trans hk ht)
  refine q_un2i (ed_tup (eda_cons (ed_int ev_c) (eda_cons (ed_int ev_c) eda_nil)) (by show 2 ≤ 100000; decide)) fun H1 e1 => ?_
  refine q_forR3 (lo := (N : Int) - 1) (hi := -1) (c := -1) (n := N) (ea_cons (ev_op (ev_is (ev_bits (ev_var rfl)) (by rw [hN'])) ev_c rv_I0) (ea_cons (ev_un ev_c ru_neg) (ea_cons (ev_un ev_c ru_neg) ea_nil))) ?_
    (fun i σ' H' => ∃ x, σ' = [some (.int t), some (.int (pell (t / 2 ^ (N - i))).1), some (.int (pell (t / 2 ^ (N - i))).2), x] ∧ Ex H H') (fun H2 e2 => ⟨none, ?_, e1.trans e2⟩) (fun i σ' H' hi p => ?_) fun σ' H' p => ?_
  · have := RgC.neg (i := (N : Int) - 1) (j := -1) (by omega) (by omega) (by decide) (by decide)
    have e : ((N : Int) - 1 - -1).toNat = N := by omega
    rw [e] at this
    exact this
  · rw [Nat.sub_zero, Nat.div_eq_of_lt hN]; rfl
  · obtain ⟨x, rfl, e2⟩ := p
    have ea : (N : Int) - 1 + (i : Int) * -1 = ((N - (i + 1) : Nat) : Int) := by omega
    rw [ea]
    generalize hk : t / 2 ^ (N - i) = k
    generalize ha : N - (i + 1) = a
    have ek : k = t / 2 ^ a / 2 := by
      rw [← hk, show N - i = a + 1 by omega, Nat.pow_succ, Nat.div_div_eq_div_mul]
    have hkt : 2 * k ≤ t := by
      have h1 : t / 2 ^ a ≤ t := Nat.div_le_self _ _
      omega
    obtain ⟨p1, p2⟩ := sm k (by omega)
    obtain ⟨p3, p4⟩ := sm (2 * k) hkt
    have e2k := pell_dbl k
    have c1 : 2 * (pell k).1 * ((pell k).2 - (pell k).1) = (pell (2 * k)).1 := by rw [e2k]
    have c2 : (pell k).1 * (pell k).1 + (pell k).2 * (pell k).2 = (pell (2 * k)).2 := by rw [e2k]
    refine q_par (v := .int (pell (2 * k)).1) (z := .int (pell (2 * k)).2) (ea_cons (ev_is (ev_op (ev_op ev_c (ev_var rfl) (rv_I (sm2.cm p1 (by decide)))) (ev_op (ev_var rfl) (ev_var rfl) rv_I0) (rv_I ((sm2.mul p1).cm (Sm.sub p2 p1) (by decide)))) (congrArg V.int c1))
      (ea_cons (ev_is (ev_op (ev_op (ev_var rfl) (ev_var rfl) (rv_I (p1.cm p1 (by decide)))) (ev_op (ev_var rfl) (ev_var rfl) (rv_I (p2.cm p2 (by decide)))) rv_I0) (congrArg V.int c2)) ea_nil)) fun H3 e3 => ?_
    have eb : (t : Int) / 2 ^ ((a : Nat) : Int).toNat % 2 = ((t / 2 ^ a % 2 : Nat) : Int) := by
      rw [Int.toNat_natCast]
      have : ((2 : Int) ^ a) = ((2 ^ a : Nat) : Int) := by exact_mod_cast rfl
      rw [this, ← Int.natCast_ediv]
      omega
    refine s_when (b := decide (((t / 2 ^ a % 2 : Nat) : Int) = 1)) (et_test (ev_op (ev_is (ev_op (ev_op (ev_var rfl) (ev_var rfl) (rv_I (Int.natCast_nonneg _))) ev_c (rv_I (by decide))) (congrArg V.int eb)) ev_c rv_eqI)) (fun hb H4 e4 => ?_) fun hb H4 e4 => ?_
    · have hb := of_decide_eq_true hb
      refine s_par (ea_cons (ev_var rfl) (ea_cons (ev_op (ev_op ev_c (ev_var rfl) (rv_I (sm2.cm p4 (by decide)))) (ev_var rfl) rv_I0) ea_nil)) fun H5 e5 => ?_
      have e9 : t / 2 ^ a = 2 * k + 1 := by omega
      refine ⟨some (.int a), ?_, ((e2.trans e3).trans e4).trans e5⟩
      rw [e9]
      rfl
    · have hb := of_decide_eq_false hb
      have e9 : t / 2 ^ a = 2 * k := by omega
      refine ⟨some (.int a), ?_, (e2.trans e3).trans e4⟩
      rw [e9]
      rfl
  · obtain ⟨x, rfl, e2⟩ := p
    rw [Nat.sub_self, Nat.pow_zero, Nat.div_one]
    obtain ⟨p1, p2⟩ := sm t (Nat.le_refl _)
    exact s_retD (K := K) (ed_tup (eda_cons (ed_int (ev_op (ev_var rfl) (ev_op ev_c (ev_var rfl) (rv_I (sm2.cm p1 (by decide)))) rv_I0)) (eda_cons (ed_int (ev_var rfl)) (eda_cons (ed_int (ev_var rfl)) eda_nil))) (by show 3 ≤ 100000; decide)) fun w H3 e3 hw => q w H3 (e2.trans e3) hw

theorem ok__last_step {P : Program} {w : World} {K : PySem.W.Frag} {mg : Str → Option Value} {base : Heap}  {aR : Addr} {tL tM tA tZ : Tok} {e0 e1 e2 e3 e4 eT : Addr} {f : Addr} {fd : FuncData} (F : Fun K "_last_step" "_last_step" s__last_step f fd) (T : Txt K mg aR tL tM tA tZ e0 e1 e2 e3 e4 eT)  :
    FnOk P w K mg base CX0 1 f fd P__last_step (spF K R__last_step) := by
  refine F.ok sc__last_step (spF_len fun ds d h => by
    first | (obtain ⟨_, rfl, _⟩ := h; rfl) | (obtain ⟨_, _, rfl, _⟩ := h; rfl) | (obtain ⟨_, _, _, rfl, _⟩ := h; rfl) | (obtain ⟨_, _, _, _, rfl, _⟩ := h; rfl) | (rcases h with ⟨rfl, _⟩ | ⟨_, _, rfl, _⟩ <;> rfl)) (fun cdv A outer s H vs Q E hr h => ?_)
  obtain ⟨ds, d, hv, hR, q⟩ := h
  obtain ⟨m, n, rfl, hm, hn, rfl⟩ := hR
  cases dvs2i hv
  refine ⟨_, (pss_cons (ps_if (pt_cmpR op_lt (pv 0) (pe_op op_mulX pe_int (pv 1)) (nomark _)) (pss_one (ps_ret pe_int)) pss_nil)
      (pss_cons (ps_if (pt_cmpR op_lt (pv 0) (pe_op op_mulX pe_int (pv 1)) (nomark _)) (pss_one (ps_ret pe_int)) pss_nil)
      (pss_one (ps_ret pe_int)))), ?_⟩
  refine q_when (et_test (ev_op (ev_var rfl) (ev_op ev_c (ev_var rfl) (rv_I (sm2.cm hn (by decide)))) rv_I0)) (fun hb H1 e1 => ?_) fun hb H1 e1 => ?_
  · have hb : m < 2 * n := of_decide_eq_true hb
    refine s_ret ev_c fun H2 e2 => q _ H2 (e1.trans e2) ?_
    show DV K H2 (.int 0) (.int (if m < 2 * n then 0 else if m < 3 * n then 1 else 2))
    rw [if_pos hb]
    exact .int 0
  · have hb : ¬ m < 2 * n := of_decide_eq_false hb
    refine q_when (et_test (ev_op (ev_var rfl) (ev_op ev_c (ev_var rfl) (rv_I (sm3.cm hn (by decide)))) rv_I0)) (fun hb2 H2 e2 => ?_) fun hb2 H2 e2 => ?_
    · have hb2 : m < 3 * n := of_decide_eq_true hb2
      refine s_ret ev_c fun H3 e3 => q _ H3 ((e1.trans e2).trans e3) ?_
      show DV K H3 (.int 1) (.int (if m < 2 * n then 0 else if m < 3 * n then 1 else 2))
      rw [if_neg hb, if_pos hb2]
      exact .int 1
    · have hb2 : ¬ m < 3 * n := of_decide_eq_false hb2
      refine s_ret ev_c fun H3 e3 => q _ H3 ((e1.trans e2).trans e3) ?_
      show DV K H3 (.int 2) (.int (if m < 2 * n then 0 else if m < 3 * n then 1 else 2))
      rw [if_neg hb, if_neg hb2]
      exact .int 2

theorem ok__law_cell_at {P : Program} {w : World} {K : PySem.W.Frag} {mg : Str → Option Value} {base : Heap}  {aR : Addr} {tL tM tA tZ : Tok} {e0 e1 e2 e3 e4 eT : Addr} {f : Addr} {fd : FuncData} (F : Fun K "_law_cell_at" "_law_cell_at" s__law_cell_at f fd) (T : Txt K mg aR tL tM tA tZ e0 e1 e2 e3 e4 eT)  :
    FnOk P w K mg base CX0 1 f fd P__law_cell_at (spF K R__law_cell_at) := by
  refine F.ok sc__law_cell_at (spF_len fun ds d h => by
    first | (obtain ⟨_, rfl, _⟩ := h; rfl) | (obtain ⟨_, _, rfl, _⟩ := h; rfl) | (obtain ⟨_, _, _, rfl, _⟩ := h; rfl) | (obtain ⟨_, _, _, _, rfl, _⟩ := h; rfl) | (rcases h with ⟨rfl, _⟩ | ⟨_, _, rfl, _⟩ <;> rfl)) (fun cdv A outer s H vs Q E hr h => ?_)
  obtain ⟨ds, d, hv, hR, q⟩ := h
  obtain ⟨ns, k, rfl, rfl⟩ := hR
  obtain ⟨v, w, rfl, hx, hw⟩ := dvs2 hv
  cases dvi hw
  refine ⟨_, (pss_cons (ps_if (pt_cmpR op_lt (pv 1) (pe_callB (k_len (K := K) rfl) (by rfl) T.len (by decide +kernel) (pa_cons (pv 0) pa_nil)) (nomark _)) (pss_one (ps_ret (pe_ix (k_ixL (K := K) rfl) (pv 0) (pv 1) (fun _ _ => rfl)))) pss_nil)
      (pss_one (ps_ret pe_int))), ?_⟩
  refine q_when (b := decide ((k : Int) < (ns.length : Int))) (et_test (ev_op (ev_var rfl) (ev_is (ev_lenL (ed_var rfl hx)) (by rw [List.length_map])) rv_I0)) (fun hb H1 e1 => ?_) fun hb H1 e1 => ?_
  · have hb := of_decide_eq_true hb
    have hk : k < ns.length := by omega
    have e : ns.getD k 0 = ns[k] := by rw [List.getD, List.getElem?_eq_getElem hk]; rfl
    rw [e] at q
    exact s_retD (K := K) (ed_ixL (j := k) (ed_var rfl (hx.ex e1)) (ev_var rfl) rfl (by rw [List.getElem?_map, List.getElem?_eq_getElem hk]; rfl)) fun w H2 e2 hw => q w H2 (e1.trans e2) hw
  · have hb := of_decide_eq_false hb
    have e : ns.getD k 0 = 0 := by rw [List.getD, List.getElem?_eq_none (by omega)]; rfl
    rw [e] at q
    exact s_retD (K := K) (ed_int ev_c) fun w H2 e2 hw => q w H2 (e1.trans e2) hw

theorem ok__law_draw {P : Program} {w : World} {K : PySem.W.Frag} {mg : Str → Option Value} {base : Heap}  {aR : Addr} {tL tM tA tZ : Tok} {e0 e1 e2 e3 e4 eT : Addr} {f : Addr} {fd : FuncData} (F : Fun K "_law_draw" "_law_draw" s__law_draw f fd) (T : Txt K mg aR tL tM tA tZ e0 e1 e2 e3 e4 eT)  :
    FnOk P w K mg base CX0 1 f fd P__law_draw (spF K R__law_draw) := by
  refine F.ok sc__law_draw (spF_len fun ds d h => by
    first | (obtain ⟨_, rfl, _⟩ := h; rfl) | (obtain ⟨_, _, rfl, _⟩ := h; rfl) | (obtain ⟨_, _, _, rfl, _⟩ := h; rfl) | (obtain ⟨_, _, _, _, rfl, _⟩ := h; rfl) | (rcases h with ⟨rfl, _⟩ | ⟨_, _, rfl, _⟩ <;> rfl)) (fun cdv A outer s H vs Q E hr h => ?_)
  obtain ⟨ds, d, hv, hR, q⟩ := h
  obtain ⟨c, k, m, rfl, hc, hk, hm, rfl⟩ := hR
  cases dvs3i hv
  refine ⟨_, (pss_cons (ps_set (i := 3) sc__law_draw.nd rfl (.inl rfl) (pe_tup (pa_cons pe_int (pa_cons pe_int (pa_cons pe_int (pa_cons pe_int (pa_cons pe_int (pa_cons pe_int (pa_cons pe_int (pa_cons pe_int (pa_cons pe_int (pa_cons pe_int (pa_cons pe_int (pa_cons pe_int (pa_cons pe_int (pa_cons pe_int (pa_cons pe_int (pa_cons pe_int pa_nil))))))))))))))))))
      (pss_one (ps_ret (pe_op op_mod (pe_op op_mod (pe_op op_add (pe_op op_mulX (pv 0) pe_int) (pe_op op_mulX (pv 1) pe_int)) (pe_ix (k_ixT (K := K) rfl) (pv 3) (pe_op op_mod (pv 1) pe_int) (fun _ _ => rfl))) (pv 2))))), ?_⟩
  obtain ⟨g1, g2⟩ := primeAt_get k
  refine q_asgD (K := K) (d := .tuple (lawPrimes.map .int)) (ed_tup (by repeat' first | exact eda_nil | refine eda_cons (ed_int ev_c) ?_) (by show 16 ≤ 100000; decide)) fun pv H1 e1 hp => ?_
  refine s_retD (K := K) (d := .int (lawDraw c k m)) (ed_int ?_) fun w H2 e2 hw => q w H2 (e1.trans e2) hw
  refine ev_op (ev_op (ev_op (ev_op (ev_var rfl) ev_c (rv_I (hc.cm (b := 20) (show (48271 : Int).natAbs < 2 ^ 20 by decide) (by decide)))) (ev_op (ev_var rfl) ev_c (rv_I (hk.cm (b := 20) (show (69621 : Int).natAbs < 2 ^ 20 by decide) (by decide)))) rv_I0)
    (ev_intD (ed_ixT (j := (k % 16).toNat) (i := k % 16) (d := .int (primeAt k)) (ed_var rfl hp) (ev_op (ev_var rfl) ev_c (rv_I (by decide))) (by omega) (by rw [List.getElem?_map, g1]; rfl))) (rv_I g2)) (ev_var rfl) (rv_I hm)

theorem ok__law_led {P : Program} {w : World} {K : PySem.W.Frag} {mg : Str → Option Value} {base : Heap}  {aR : Addr} {tL tM tA tZ : Tok} {e0 e1 e2 e3 e4 eT : Addr} {f : Addr} {fd : FuncData} (F : Fun K "_law_led" "_law_led" s__law_led f fd) (T : Txt K mg aR tL tM tA tZ e0 e1 e2 e3 e4 eT)  :
    FnOk P w K mg base CX0 1 f fd P__law_led (spF K R__law_led) := by
  refine F.ok sc__law_led (spF_len fun ds d h => by
    first | (obtain ⟨_, rfl, _⟩ := h; rfl) | (obtain ⟨_, _, rfl, _⟩ := h; rfl) | (obtain ⟨_, _, _, rfl, _⟩ := h; rfl) | (obtain ⟨_, _, _, _, rfl, _⟩ := h; rfl) | (rcases h with ⟨rfl, _⟩ | ⟨_, _, rfl, _⟩ <;> rfl)) (fun cdv A outer s H vs Q E hr h => ?_)
  obtain ⟨ds, d, hv, hR, q⟩ := h
  obtain ⟨p, s', t, rfl, hs, hp, hct, hst, hsm, rfl⟩ := hR
  obtain ⟨v, w, rfl, hx, hv2⟩ : ∃ v w, vs = v :: w ∧ DV K H v (pd p) ∧ DVs K H w [.int s', .int t] := by
    cases hv with
    | cons a b => exact ⟨_, _, rfl, a, b⟩
  cases dvs2i hv2
  refine ⟨_, (pss_cons (ps_asg (pv 0) (pg_tup rfl (pgs_cons (pg_name (i := 3) sc__law_led.nd rfl (.inl rfl)) (pgs_cons (pg_name (i := 4) sc__law_led.nd rfl (.inl rfl)) pgs_nil))))
      (pss_cons (ps_if (pt_cmpR op_eq (pv 1) pe_int (nomark _)) (pss_one (ps_ret (pe_tup (pa_cons (pe_op op_add (pv 3) (pe_op op_mulX (pv 2) (pe_op op_sub (pv 3) (pv 4)))) (pa_cons (pe_op op_add (pv 4) (pe_op op_mulX (pv 2) (pe_op op_sub (pv 3) (pv 4)))) pa_nil))))) pss_nil)
      (pss_cons (ps_if (pt_cmpR op_eq (pv 1) pe_int (nomark _)) (pss_one (ps_ret (pe_tup (pa_cons (pe_op op_add (pv 3) (pe_op op_mulX (pe_op op_mulX pe_int (pv 2)) (pv 4))) (pa_cons (pv 4) pa_nil))))) pss_nil)
      (pss_cons (ps_for PassesOwn.never rfl (pi_range1 (by rfl) T.range (pa_cons (pv 2) pa_nil)) (pg_name (i := 5) sc__law_led.nd rfl (.inl rfl)) (pss_one (ps_par (i := 3) (j := 4) rfl sc__law_led.nd rfl rfl (by decide) rfl rfl (pa_cons (pe_op op_add (pe_op op_mulX pe_int (pv 3)) (pv 4)) (pa_cons (pv 3) pa_nil)) (by rfl))))
      (pss_one (ps_ret (pe_tup (pa_cons (pv 3) (pa_cons (pv 4) pa_nil))))))))), ?_⟩
  obtain ⟨g1, g2⟩ := id hp
  have hup := led_up hp s' 0 t (Nat.zero_le _)
  rw [led_zero] at hup
  have hm : Sm 95000 p.1 := hsm.le (by omega) hup
  have hn : Sm 95000 p.2 := hm.le (by omega) (by omega)
  refine q_un2i (ed_var rfl hx) fun H1 e1 => ?_
  rcases hs with rfl | rfl | rfl
  · refine q_taken (et_is (et_test (ev_op (ev_var rfl) ev_c rv_eqI)) (decide_eq_true rfl)) fun H2 e2 => ?_
    have e : pd (led p 0 t) = .tuple [.int (p.1 + (t : Int) * (p.1 - p.2)), .int (p.2 + (t : Int) * (p.1 - p.2))] := by
      rw [Int.mul_comm]; rfl
    rw [e] at q
    have cm : CMulX (t : Int) (p.1 - p.2) := hst.cm (hm.sub hn) (by decide)
    exact s_retD (K := K) (ed_tup (eda_cons (ed_int (ev_op (ev_var rfl) (ev_op (ev_var rfl) (ev_op (ev_var rfl) (ev_var rfl) rv_I0) (rv_I cm)) rv_I0)) (eda_cons (ed_int (ev_op (ev_var rfl) (ev_op (ev_var rfl) (ev_op (ev_var rfl) (ev_var rfl) rv_I0) (rv_I cm)) rv_I0)) eda_nil)) (by show 2 ≤ 100000; decide)) fun w H3 e3 hw => q w H3 ((e1.trans e2).trans e3) hw
  · have hct := hct rfl
    refine q_pass (et_is (et_test (ev_op (ev_var rfl) ev_c rv_eqI)) (decide_eq_false (by decide))) fun H2 e2 => ?_
    refine q_pass (et_is (et_test (ev_op (ev_var rfl) ev_c rv_eqI)) (decide_eq_false (by decide))) fun H3 e3 => ?_
    refine q_forR1 (n := (t : Int)) (ea_cons (ev_var rfl) ea_nil) (by omega) (fun k σ' H' => ∃ x, σ' = [some v, some (.int 1), some (.int t), some (.int (iter one k p).1), some (.int (iter one k p).2), x] ∧ Ex H H') (fun H4 e4 => ⟨none, rfl, ((e1.trans e2).trans e3).trans e4⟩) (fun k σ' H' hk P => ?_) fun σ' H' P => ?_
    · obtain ⟨x, rfl, eH⟩ := P
      obtain ⟨b1, b2⟩ := ok_iter hp k
      have b3 := iter_up hp k t (by omega)
      have s1 : Sm 95000 (iter one k p).1 := hsm.le (by omega) b3
      exact s_par (ea_cons (ev_op (ev_op ev_c (ev_var rfl) (rv_I (sm2.cm s1 (by decide)))) (ev_var rfl) rv_I0) (ea_cons (ev_var rfl) ea_nil)) fun H5 e5 => ⟨some (.int (k : Int)), rfl, eH.trans e5⟩
    · obtain ⟨x, rfl, eH⟩ := P
      rw [Int.toNat_natCast]
      exact s_retD (K := K) (d := pd (led p 1 t)) (ed_tup (eda_cons (ed_int (ev_var rfl)) (eda_cons (ed_int (ev_var rfl)) eda_nil)) (by show 2 ≤ 100000; decide)) fun w H4 e4 hw => q w H4 (eH.trans e4) hw
  · refine q_pass (et_is (et_test (ev_op (ev_var rfl) ev_c rv_eqI)) (decide_eq_false (by decide))) fun H2 e2 => ?_
    refine q_taken (et_is (et_test (ev_op (ev_var rfl) ev_c rv_eqI)) (decide_eq_true rfl)) fun H3 e3 => ?_
    have e : pd (led p 2 t) = .tuple [.int (p.1 + 2 * (t : Int) * p.2), .int p.2] := by
      rw [show 2 * (t : Int) * p.2 = 2 * p.2 * (t : Int) by grind]; rfl
    rw [e] at q
    exact s_retD (K := K) (ed_tup (eda_cons (ed_int (ev_op (ev_var rfl) (ev_op (ev_op ev_c (ev_var rfl) (rv_I (sm2.cm hst (by decide)))) (ev_var rfl) (rv_I ((sm2.mul hst).cm hn (by decide)))) rv_I0)) (eda_cons (ed_int (ev_var rfl)) eda_nil)) (by show 2 ≤ 100000; decide)) fun w H4 e4 hw => q w H4 (((e1.trans e2).trans e3).trans e4) hw

theorem ok__law_triple {P : Program} {w : World} {K : PySem.W.Frag} {mg : Str → Option Value} {base : Heap}  {aR : Addr} {tL tM tA tZ : Tok} {e0 e1 e2 e3 e4 eT : Addr} {f : Addr} {fd : FuncData} (F : Fun K "_law_triple" "_law_triple" s__law_triple f fd) (T : Txt K mg aR tL tM tA tZ e0 e1 e2 e3 e4 eT)  :
    FnOk P w K mg base CX0 1 f fd P__law_triple (spF K R__law_triple) := by
  refine F.ok sc__law_triple (spF_len fun ds d h => by
    first | (obtain ⟨_, rfl, _⟩ := h; rfl) | (obtain ⟨_, _, rfl, _⟩ := h; rfl) | (obtain ⟨_, _, _, rfl, _⟩ := h; rfl) | (obtain ⟨_, _, _, _, rfl, _⟩ := h; rfl) | (rcases h with ⟨rfl, _⟩ | ⟨_, _, rfl, _⟩ <;> rfl)) (fun cdv A outer s H vs Q E hr h => ?_)
  obtain ⟨ds, d, hv, hR, q⟩ := h
  obtain ⟨p, rfl, hm, hn, rfl⟩ := hR
  obtain ⟨v, rfl, hx⟩ := dvs1 hv
  refine ⟨_, (pss_cons (ps_asg (pv 0) (pg_tup rfl (pgs_cons (pg_name (i := 1) sc__law_triple.nd rfl (.inl rfl)) (pgs_cons (pg_name (i := 2) sc__law_triple.nd rfl (.inl rfl)) pgs_nil))))
      (pss_one (ps_ret (pe_tup (pa_cons (pe_op op_sub (pe_op op_mulX (pv 1) (pv 1)) (pe_op op_mulX (pv 2) (pv 2))) (pa_cons (pe_op op_mulX (pe_op op_mulX pe_int (pv 1)) (pv 2)) (pa_cons (pe_op op_add (pe_op op_mulX (pv 1) (pv 1)) (pe_op op_mulX (pv 2) (pv 2))) pa_nil))))))), ?_⟩
  refine q_un2i (ed_var rfl hx) fun H1 e1 => ?_
  refine s_retD (K := K) (d := td p) (ed_tup (eda_cons (ed_int ?_) (eda_cons (ed_int ?_) (eda_cons (ed_int ?_) eda_nil))) (by show 3 ≤ 100000; decide)) fun w H3 e3 hw => q w H3 (e1.trans e3) hw
  · exact ev_op (ev_op (ev_var rfl) (ev_var rfl) (rv_I (hm.cm hm (by decide)))) (ev_op (ev_var rfl) (ev_var rfl) (rv_I (hn.cm hn (by decide)))) rv_I0
  · exact ev_op (ev_op ev_c (ev_var rfl) (rv_I (sm2.cm hm (by decide)))) (ev_var rfl) (rv_I ((sm2.mul hm).cm hn (by decide)))
  · exact ev_op (ev_op (ev_var rfl) (ev_var rfl) (rv_I (hm.cm hm (by decide)))) (ev_op (ev_var rfl) (ev_var rfl) (rv_I (hn.cm hn (by decide)))) rv_I0

theorem ok__law_kinds {P : Program} {w : World} {K : PySem.W.Frag} {mg : Str → Option Value} {base : Heap}  {aR : Addr} {tL tM tA tZ : Tok} {e0 e1 e2 e3 e4 eT : Addr} {f : Addr} {fd : FuncData} (F : Fun K "_law_kinds" "_law_kinds" s__law_kinds f fd) (T : Txt K mg aR tL tM tA tZ e0 e1 e2 e3 e4 eT)  :
    FnP P w K mg base 1 f fd P__law_kinds (spKinds K (Cse e0 e1 e2 e3 e4)) := by
  refine okP F sc__law_kinds (fun a c d vs H Q h => by obtain ⟨_, _, _, _, rfl, _⟩ := h; rfl) (fun a oe c d zc flds cdv A outer s H vs Q hr h => ?_)
  obtain ⟨i, hi, rfl, rfl, rfl, q⟩ := h
  refine ⟨_, (pss_cons (ps_set (i := 1) sc__law_kinds.nd rfl (.inl rfl) (pe_lst (pa_cons (pe_callB (call_isP (T.err.exc i hi) zc flds (by exact List.mem_cons_self)) (by rfl) T.isinstance (by decide +kernel) (pa_cons (pv 0) (pa_cons (pe_glob (v := .ref e0) (by rfl) T.BadTriple rfl) pa_nil))) (pa_cons (pe_callB (call_isP (T.err.exc i hi) zc flds (by exact List.mem_cons_self)) (by rfl) T.isinstance (by decide +kernel) (pa_cons (pv 0) (pa_cons (pe_glob (v := .ref e1) (by rfl) T.BadPair rfl) pa_nil))) (pa_cons (pe_callB (call_isP (T.err.exc i hi) zc flds (by exact List.mem_cons_self)) (by rfl) T.isinstance (by decide +kernel) (pa_cons (pv 0) (pa_cons (pe_glob (v := .ref e2) (by rfl) T.BadStep rfl) pa_nil))) pa_nil)))))
      (pss_one (ps_ret (pe_op op_cat (pv 1) (pe_lst (pa_cons (pe_callB (call_isP (T.err.exc i hi) zc flds (by exact List.mem_cons_self)) (by rfl) T.isinstance (by decide +kernel) (pa_cons (pv 0) (pa_cons (pe_glob (v := .ref e3) (by rfl) T.BadRow rfl) pa_nil))) (pa_cons (pe_callB (call_isP (T.err.exc i hi) zc flds (by exact List.mem_cons_self)) (by rfl) T.isinstance (by decide +kernel) (pa_cons (pv 0) (pa_cons (pe_glob (v := .ref e4) (by rfl) T.BadNumber rfl) pa_nil))) (pa_cons (pe_callB (call_isP (T.err.exc i hi) zc flds (by exact List.mem_cons_self)) (by rfl) T.isinstance (by decide +kernel) (pa_cons (pv 0) (pa_cons (pe_bltn (v := .ty "ValueError") (u := .type "ValueError") (by rfl) T.ValueError (by decide +kernel) rfl) pa_nil))) pa_nil)))))))), ?_⟩
  refine q_asgLD (K := K) (ds := [decide (i = 0), decide (i = 1), decide (i = 2)].map .bool) (eld_lst (eda_cons (ed_bl (ev_isE (ev_var rfl) ev_c (fun _ h => h) (T.err.kit i 0 hi (by decide)))) (eda_cons (ed_bl (ev_isE (ev_var rfl) ev_c (fun _ h => h) (T.err.kit i 1 hi (by decide)))) (eda_cons (ed_bl (ev_isE (ev_var rfl) ev_c (fun _ h => h) (T.err.kit i 2 hi (by decide)))) eda_nil))) (by show 3 ≤ 100000; decide)) fun p vs1 H1 np e1 hp hvs => ?_
  refine s_retD (K := K) (d := kindsD i) (EvLD.ev (eld_catV (ds := [decide (i = 0), decide (i = 1), decide (i = 2)].map .bool) (es := [decide (i = 3), decide (i = 4), true].map .bool) rfl hp hvs (eld_lst (eda_cons (ed_bl (ev_isE (ev_var rfl) ev_c (fun _ h => h) (T.err.kit i 3 hi (by decide)))) (eda_cons (ed_bl (ev_isE (ev_var rfl) ev_c (fun _ h => h) (T.err.kit i 4 hi (by decide)))) (eda_cons (ed_bl (ev_isE (ev_var rfl) ev_c (fun _ h => h) (T.err.val i hi))) eda_nil))) (by show 3 ≤ 100000; decide)) (by show 3 + 3 ≤ 100000; decide))) fun w H2 e2 hw => q w H2 (e1.trans e2) hw

theorem ok__law_bad_rows {P : Program} {w : World} {K : PySem.W.Frag} {mg : Str → Option Value} {base : Heap}  {aR : Addr} {tL tM tA tZ : Tok} {e0 e1 e2 e3 e4 eT : Addr} {f : Addr} {fd : FuncData} (F : Fun K "_law_bad_rows" "_law_bad_rows" s__law_bad_rows f fd) (T : Txt K mg aR tL tM tA tZ e0 e1 e2 e3 e4 eT)  :
    FnOk P w K mg base CX0 1 f fd P__law_bad_rows (spL K R__law_bad_rows5) := by
  refine F.ok sc__law_bad_rows (spL_len fun ds es h => by
    first | (obtain ⟨_, rfl, _⟩ := h; rfl) | (obtain ⟨_, _, rfl, _⟩ := h; rfl) | (obtain ⟨_, _, _, rfl, _⟩ := h; rfl) | (obtain ⟨_, _, _, _, rfl, _⟩ := h; rfl) | (rcases h with ⟨rfl, _⟩ | ⟨_, _, rfl, _⟩ <;> rfl)) (fun cdv A outer s H vs Q E hr h => ?_)
  obtain ⟨ds, es, hv, hR, q⟩ := h
  obtain ⟨r, fr, rfl, hr16, hf, rfl⟩ := hR
  obtain ⟨v, w0, rfl, hx, hw0⟩ := dvs2 hv
  cases dvi hw0
  refine ⟨_, (pss_cons (ps_set (i := 2) sc__law_bad_rows.nd rfl (.inl rfl) (pe_lst (pa_cons pe_non (pa_cons (pe_tup pa_nil) (pa_cons (pe_tup (pa_cons (pe_tup (pa_cons pe_int (pa_cons pe_int pa_nil))) pa_nil)) (pa_cons pe_str (pa_cons pe_dnewK (pa_cons pe_int (pa_cons (pe_lst (pa_cons pe_non pa_nil)) (pa_cons (pe_lst (pa_cons pe_int pa_nil)) (pa_cons (pe_lst (pa_cons (pe_tup (pa_cons pe_int pa_nil)) pa_nil)) (pa_cons (pe_lst (pa_cons (pe_tup (pa_cons pe_int (pa_cons pe_int (pa_cons pe_int pa_nil)))) pa_nil)) (pa_cons (pe_lst (pa_cons (pe_lst (pa_cons pe_int (pa_cons pe_int pa_nil))) pa_nil)) (pa_cons (pe_lst (pa_cons (pe_tup (pa_cons pe_int (pa_cons pe_int pa_nil))) pa_nil)) (pa_cons (pe_lst (pa_cons (pe_tup (pa_cons (pe_un un_neg pe_int) (pa_cons pe_int pa_nil))) pa_nil)) (pa_cons (pe_lst (pa_cons (pe_tup (pa_cons pe_int (pa_cons pe_int pa_nil))) pa_nil)) pa_nil))))))))))))))))
      (pss_cons (ps_set (i := 2) sc__law_bad_rows.nd rfl (.inl rfl) (pe_op op_cat (pv 2) (pe_lst (pa_cons (pe_lst (pa_cons (pe_tup (pa_cons pe_int (pa_cons (pe_op op_sub (pe_un un_neg pe_int) (pv 1)) pa_nil))) pa_nil)) (pa_cons (pe_lst (pa_cons (pe_tup (pa_cons pe_int (pa_cons pe_int pa_nil))) pa_nil)) (pa_cons (pe_lst (pa_cons (pe_tup (pa_cons pe_int (pa_cons (pe_op op_add pe_int (pv 1)) pa_nil))) pa_nil)) (pa_cons (pe_lst (pa_cons (pe_tup (pa_cons pe_bl (pa_cons pe_int pa_nil))) pa_nil)) (pa_cons (pe_lst (pa_cons (pe_tup (pa_cons pe_int (pa_cons pe_bl pa_nil))) pa_nil)) (pa_cons (pe_lst (pa_cons (pe_tup (pa_cons pe_str (pa_cons pe_int pa_nil))) pa_nil)) (pa_cons (pe_lst (pa_cons (pe_tup (pa_cons pe_int (pa_cons pe_non pa_nil))) pa_nil)) pa_nil))))))))))
      (pss_cons (ps_set (i := 2) sc__law_bad_rows.nd rfl (.inl rfl) (pe_op op_cat (pv 2) (pe_lst (pa_cons (pe_lst (pa_cons (pe_tup (pa_cons pe_int (pa_cons pe_int pa_nil))) (pa_cons (pe_tup (pa_cons pe_int (pa_cons pe_int pa_nil))) pa_nil))) (pa_cons (pe_lst (pa_cons (pe_tup (pa_cons pe_int (pa_cons pe_int pa_nil))) (pa_cons (pe_tup (pa_cons pe_int (pa_cons pe_int pa_nil))) (pa_cons (pe_tup (pa_cons pe_int (pa_cons pe_int pa_nil))) pa_nil)))) (pa_cons (pe_lc (own := [("_law_at", 3)]) rfl sc__law_bad_rows.nd (pi_range1 (by rfl) T.range (pa_cons pe_int pa_nil)) (blkOk_by (own := [("_law_at", 3)]) (N := N__law_bad_rows) (sc := defScope s__law_bad_rows) (by decide +kernel)) (fun _ _ _ _ _ => (pg_name (i := 3) sc__law_bad_rows.nd rfl (.inl rfl))) (fun _ _ _ _ _ => pts_nil) (fun _ _ _ _ _ => (pe_tup (pa_cons (pe_op op_mulX (pe_op op_mod (pv 3) pe_int) pe_int) (pa_cons pe_int pa_nil))))) pa_nil))))))
      (pss_cons (ps_set (i := 3) sc__law_bad_rows.nd rfl (.inl rfl) (pe_op op_mod (pv 1) (pe_op op_add (pe_callB (k_len (K := K) rfl) (by rfl) T.len (by decide +kernel) (pa_cons (pv 0) pa_nil)) pe_int)))
      (pss_cons (ps_for PassesOwn.never rfl (pi_tup (pe_tup (pa_cons pe_non (pa_cons (pe_tup (pa_cons pe_int (pa_cons pe_int pa_nil))) (pa_cons (pe_tup (pa_cons pe_int (pa_cons pe_int pa_nil))) (pa_cons (pe_tup (pa_cons pe_int (pa_cons (pe_op op_add pe_int (pv 1)) pa_nil))) (pa_cons (pe_lst (pa_cons pe_int (pa_cons pe_int pa_nil))) (pa_cons (pe_tup (pa_cons pe_int (pa_cons pe_str pa_nil))) pa_nil)))))))) (pg_name (i := 4) sc__law_bad_rows.nd rfl (.inl rfl)) (pss_one (ps_expr (pe_bm PySem.F.plainAttrs_list PySem.F.slot_list_append PySem.F.type_list_append mt_append (pv 2) (pa_cons (pe_op op_cat (pe_op op_cat (pe_slice sl_list (pv 0) po_none (po_some (pv 3))) (pe_lst (pa_cons (pv 4) pa_nil))) (pe_slice sl_list (pv 0) (po_some (pv 3)) po_none)) pa_nil)))))
      (pss_one (ps_ret (pv 2)))))))), ?_⟩
  refine q_asgLD (K := K) (ds := lRow1) (eld_lst (by
    repeat' first
    | exact eda_nil
    | refine eda_cons ?_ ?_
    | exact ed_int ev_c
    | exact ed_bl ev_c
    | exact ed_str ev_c
    | exact ed_non ev_c
    | exact ed_dct
    | exact ed_int (ev_un ev_c ru_neg)
    | exact ed_int (ev_op (ev_un ev_c ru_neg) (ev_var rfl) rv_I0)
    | exact ed_int (ev_op ev_c (ev_var rfl) rv_I0)
    | refine ed_tup ?_ (Nat.le_of_ble_eq_true rfl)
    | refine EvLD.ev (eld_lst ?_ (Nat.le_of_ble_eq_true rfl))) (Nat.le_of_ble_eq_true rfl)) fun p1 vs1 H1 n1 e1 hp1 hv1 => ?_
  refine q_asgLD (K := K) (ds := lRow1 ++ lRow2 fr) (eld_catV rfl hp1 hv1 (eld_lst (by
    repeat' first
    | exact eda_nil
    | refine eda_cons ?_ ?_
    | exact ed_int ev_c
    | exact ed_bl ev_c
    | exact ed_str ev_c
    | exact ed_non ev_c
    | exact ed_dct
    | exact ed_int (ev_un ev_c ru_neg)
    | exact ed_int (ev_op (ev_un ev_c ru_neg) (ev_var rfl) rv_I0)
    | exact ed_int (ev_op ev_c (ev_var rfl) rv_I0)
    | refine ed_tup ?_ (Nat.le_of_ble_eq_true rfl)
    | refine EvLD.ev (eld_lst ?_ (Nat.le_of_ble_eq_true rfl))) (Nat.le_of_ble_eq_true rfl)) (Nat.le_of_ble_eq_true rfl)) fun p2 vs2 H2 n2 e2 hp2 hv2 => ?_
  have lc : ∀ H', EvLD K (tLc (iRng1 (tCons (tC (.int 201)) tNil)) (gName 3) tYes (tTup (tCons (tOp (rI CMulX fun i j => .int (i * j)) (tOp (rI (fun _ j => 0 < j) fun i j => .int (i % j)) (tVar 3) (tC (.int 2))) (tC (.int 2))) (tCons (tC (.int 1)) tNil))) [3]) [some v, some (.int fr), some (.ref p2), none, none] H' (altD 201) := fun H' => by
    rw [← few_alt]
    refine eld_lcR1 (n := 201) (fun k => t2 ((0 + (k : Int)) % 2 * 2) 1) (fun k => .inr ⟨[_, _], rfl⟩) (ea_cons ev_c ea_nil) rfl (by decide) (fun _ => rfl) fun k H1 e1 hk => ?_
    exact ed_tup (eda_cons (ed_int (ev_op (ev_op (ev_var rfl) ev_c (rv_I (by decide))) ev_c (rv_I (Sm.cm (a := 3) (show ((0 + (k : Int)) % 2).natAbs < 2 ^ 3 by omega) sm2 (by decide))))) (eda_cons (ed_int ev_c) eda_nil)) (Nat.le_of_ble_eq_true rfl)
  refine q_asgLE (K := K) (ds := lRow1 ++ lRow2 fr ++ lRow3) (ele_catV rfl hp2 hv2 (eld_lst (eda_cons (by
    repeat' first
    | exact eda_nil
    | refine eda_cons ?_ ?_
    | exact ed_int ev_c
    | exact ed_bl ev_c
    | exact ed_str ev_c
    | exact ed_non ev_c
    | exact ed_dct
    | exact ed_int (ev_un ev_c ru_neg)
    | exact ed_int (ev_op (ev_un ev_c ru_neg) (ev_var rfl) rv_I0)
    | exact ed_int (ev_op ev_c (ev_var rfl) rv_I0)
    | refine ed_tup ?_ (Nat.le_of_ble_eq_true rfl)
    | refine EvLD.ev (eld_lst ?_ (Nat.le_of_ble_eq_true rfl))) (eda_cons (by
    repeat' first
    | exact eda_nil
    | refine eda_cons ?_ ?_
    | exact ed_int ev_c
    | exact ed_bl ev_c
    | exact ed_str ev_c
    | exact ed_non ev_c
    | exact ed_dct
    | exact ed_int (ev_un ev_c ru_neg)
    | exact ed_int (ev_op (ev_un ev_c ru_neg) (ev_var rfl) rv_I0)
    | exact ed_int (ev_op ev_c (ev_var rfl) rv_I0)
    | refine ed_tup ?_ (Nat.le_of_ble_eq_true rfl)
    | refine EvLD.ev (eld_lst ?_ (Nat.le_of_ble_eq_true rfl))) (eda_cons (EvLD.ev (lc _)) eda_nil))) (Nat.le_of_ble_eq_true rfl)) (Nat.le_of_ble_eq_true rfl)) fun l vs3 H3 nl e3 hl hv3 => ?_
  have e13 := (e1.trans e2).trans e3
  have nl0 : H l = none := fresh_back (e1.trans e2) nl
  generalize hn : (fr % ((r.length : Int) + 1)).toNat = n at q
  refine q_asg (v := .int (n : Int)) (ev_is (ev_op (ev_var rfl) (ev_op (ev_lenL (ed_var (d := rd r) rfl (hx.ex e13))) ev_c rv_I0) (rv_I (by rw [List.length_map]; omega))) (by
    rw [List.length_map]
    show V.int (fr % ((r.length : Int) + 1)) = V.int (n : Int)
    rw [← hn, Int.toNat_of_nonneg (Int.emod_nonneg _ (by omega))])) fun H4 e4 => ?_
  have cut1 : cutD (r.map sd) none (some (n : Int)) = (r.take n).map sd := by
    unfold cutD
    rw [cut_to, List.map_take]
  have cut2 : cutD (r.map sd) (some (n : Int)) none = (r.drop n).map sd := by
    unfold cutD
    rw [cut_from, List.map_drop]
  have l3 : vs3.length = 24 := by rw [hv3.len]; rfl
  refine q_forTE (K := K) (ds := lParts fr) (ed_tup (by
    repeat' first
    | exact eda_nil
    | refine eda_cons ?_ ?_
    | exact ed_int ev_c
    | exact ed_bl ev_c
    | exact ed_str ev_c
    | exact ed_non ev_c
    | exact ed_dct
    | exact ed_int (ev_un ev_c ru_neg)
    | exact ed_int (ev_op (ev_un ev_c ru_neg) (ev_var rfl) rv_I0)
    | exact ed_int (ev_op ev_c (ev_var rfl) rv_I0)
    | refine ed_tup ?_ (Nat.le_of_ble_eq_true rfl)
    | refine EvLD.ev (eld_lst ?_ (Nat.le_of_ble_eq_true rfl))) (Nat.le_of_ble_eq_true rfl)) (fun t xs k σ' H' => ∃ vs x, σ' = [some v, some (.int fr), some (.ref l), some (.int (n : Int)), x] ∧ Ex H H' ∧ H' l = some (.lst vs) ∧ DVs K (ers l H') vs (lRow1 ++ lRow2 fr ++ lRow3 ++ ((lParts fr).take k).map (putIn r n)) ∧ vs.length = 24 + k ∧
      SqT K (ers l H') t xs ∧ DVs K (ers l H') xs (lParts fr)) (fun t xs H5 e5 ht hxs => ?_) (fun t xs k σ' H' P => ?_) (fun t xs k w' σ' H' hw P => ?_) fun t xs σ' H' P => ?_
  · have hl5 : H5 l = some (.lst vs3) := (e4.trans e5) _ _ hl
    exact ⟨vs3, none, rfl, (e13.trans e4).trans e5, hl5, by rw [List.take_zero, List.map_nil, List.append_nil]; exact hv3.ex (ers_ex (e4.trans e5)), l3, sqT_ers hl5 ht, dvs_ersL hl5 _ _ (okLs_all fun x hx => lParts_ok (by omega) hx) hxs⟩
  · obtain ⟨_, _, _, _, _, _, _, h, _⟩ := P
    exact ex_t (ers_in l H') h
  · obtain ⟨vs, x, rfl, eH, hl', hvs, hlen, ht, hxs⟩ := P
    obtain ⟨d, hd, hwd⟩ := hxs.get hw
    have hk : k < 6 := (List.getElem?_eq_some_iff.mp hd).1
    have hrow := hx.ex eH
    refine s_appLD (K := K) (ds := (r.take n).map sd ++ [d] ++ (r.drop n).map sd) hl' (ev_var rfl) (eld_cat (eld_cat (eld_sl (ed_var rfl hrow) eo_none (eo_some (ev_var rfl)) cut1) (eld_lst (eda_cons (ed_var rfl (hwd.ex (ers_in l H'))) eda_nil) (Nat.le_of_ble_eq_true rfl)) (by
      simp only [List.length_map, List.length_take, List.length_singleton]
      omega)) (eld_sl (ed_var rfl hrow) (eo_some (ev_var rfl)) eo_none cut2) (by
      simp only [List.length_append, List.length_map, List.length_take, List.length_drop, List.length_singleton]
      omega)) (by omega) fun p ws H6 np e6 hp hws => ?_
    have hl6 := e6 _ _ hl'
    have hne : p ≠ l := fun z => by rw [z, hl'] at np; cases np
    have hdm := List.mem_of_getElem? hd
    have new : DV K (ers l H6) (.ref p) (putIn r n d) := by
      refine dv_ersL hl6 _ _ ?_ (.lst (sq_of hp) hws)
      exact putIn_ok hr16 (by omega) (lParts_ok (by omega) hdm)
    have eT : (lParts fr).take (k + 1) = (lParts fr).take k ++ [d] := by
      rw [List.take_succ, hd]
      rfl
    refine ⟨vs ++ [.ref p], some w', rfl, Ex.mut (eH.trans e6) nl0, upd_same, ?_, by rw [List.length_append, hlen]; rfl, ?_, ?_⟩
    · rw [ers_upd, eT, List.map_append, ← List.append_assoc]
      exact (hvs.ex (ers_ex e6)).append (.cons new .nil)
    · rw [ers_upd]
      exact ex_t (ers_ex e6) ht
    · rw [ers_upd]
      exact hxs.ex (ers_ex e6)
  · obtain ⟨vs, x, rfl, eH, hl', hvs, _, _, _⟩ := P
    refine s_ret (ev_var rfl) fun H7 e7 => q l vs H7 nl0 (eH.trans e7) (e7 _ _ hl') ?_
    have z := (hvs.ex (ers_in l H')).ex e7
    exact z

theorem ok_are_whole {P : Program} {w : World} {K : PySem.W.Frag} {mg : Str → Option Value} {base : Heap}  {aR : Addr} {tL tM tA tZ : Tok} {e0 e1 e2 e3 e4 eT : Addr} {f : Addr} {fd : FuncData} (F : Fun K "are_whole" "are_whole" s_are_whole f fd) (T : Txt K mg aR tL tM tA tZ e0 e1 e2 e3 e4 eT) (C_is_whole : Cal P w K mg base CX0 "is_whole" 1 P_is_whole (spF K R_is_whole)) :
    FnOk P w K mg base CX0 2 f fd P_are_whole (spF K R_are_whole) := by
  refine F.ok sc_are_whole (spF_len fun ds d h => by
    first | (obtain ⟨_, rfl, _⟩ := h; rfl) | (obtain ⟨_, _, rfl, _⟩ := h; rfl) | (obtain ⟨_, _, _, rfl, _⟩ := h; rfl) | (obtain ⟨_, _, _, _, rfl, _⟩ := h; rfl) | (rcases h with ⟨rfl, _⟩ | ⟨_, _, rfl, _⟩ <;> rfl)) (fun cdv A outer s H vs Q E hr h => ?_)
  obtain ⟨ds, d, hv, hR, q⟩ := h
  obtain ⟨x, n, rfl, hz, rfl⟩ := hR
  obtain ⟨v, w, rfl, hx, hn⟩ := dvs2 hv
  cases dvi hn
  refine ⟨_, (pss_one (ps_ret (pe_and (pe_callB (k_isi (K := K) rfl) (by rfl) T.isinstance (by decide +kernel) (pa_cons (pv 0) (pa_cons (pe_bltn (v := .ty "tuple") (u := .type "tuple") (by rfl) T.tuple (by decide +kernel) rfl) pa_nil))) (pe_and (pe_cmpR op_eq (pe_callB (k_len (K := K) rfl) (by rfl) T.len (by decide +kernel) (pa_cons (pv 0) pa_nil)) (pv 1) (nomark _)) (pe_one (pe_callB (k_all (K := K) rfl rfl) (by rfl) T.all (by decide +kernel) (pa_cons (pe_lc (own := [("part", 2)]) rfl sc_are_whole.nd (pi_tup (pv 0)) (blkOk_by (own := [("part", 2)]) (N := N_are_whole) (sc := defScope s_are_whole) (by decide +kernel)) (fun _ _ _ _ _ => (pg_name (i := 2) sc_are_whole.nd rfl (.inl rfl))) (fun _ _ _ _ _ => pts_nil) (fun _ _ _ _ _ => (pe_cal C_is_whole (hr.mono (by decide)) (by rfl) pass0 (pa_cons (pv 2) pa_nil)))) pa_nil))))))), ?_⟩
  refine s_retD (K := K) (d := .bool (areWhole x n)) (ed_bl ?_) q
  have e : areWhole x n = (isTuple x && areWhole x n) := by cases x <;> rfl
  rw [e]
  refine ev_andV (ev_isi (ed_var rfl hx) (kit_tuple x)) fun hT => ?_
  obtain ⟨xs, rfl⟩ := isTuple_yes hT
  refine ev_andV (ev_op (ev_lenT (ed_var rfl hx)) (ev_var rfl) rv_eqI) fun _ => ?_
  exact all_lcT whole (ed_var rfl hx) (hz xs rfl) (fun _ => rfl) fun d x H1 e hd hv => ev_blD (ed_call (eda_cons (ed_var rfl hv) eda_nil) ⟨d, rfl, rfl⟩)

theorem ok_is_side {P : Program} {w : World} {K : PySem.W.Frag} {mg : Str → Option Value} {base : Heap}  {aR : Addr} {tL tM tA tZ : Tok} {e0 e1 e2 e3 e4 eT : Addr} {f : Addr} {fd : FuncData} (F : Fun K "is_side" "is_side" s_is_side f fd) (T : Txt K mg aR tL tM tA tZ e0 e1 e2 e3 e4 eT) (C_is_whole : Cal P w K mg base CX0 "is_whole" 1 P_is_whole (spF K R_is_whole)) :
    FnOk P w K mg base CX0 2 f fd P_is_side (spF K R_is_side) := by
  refine F.ok sc_is_side (spF_len fun ds d h => by
    first | (obtain ⟨_, rfl, _⟩ := h; rfl) | (obtain ⟨_, _, rfl, _⟩ := h; rfl) | (obtain ⟨_, _, _, rfl, _⟩ := h; rfl) | (obtain ⟨_, _, _, _, rfl, _⟩ := h; rfl) | (rcases h with ⟨rfl, _⟩ | ⟨_, _, rfl, _⟩ <;> rfl)) (fun cdv A outer s H vs Q E hr h => ?_)
  obtain ⟨ds, d, hv, hR, q⟩ := h
  obtain ⟨x, rfl, rfl⟩ := hR
  obtain ⟨v, rfl, hx⟩ := dvs1 hv
  refine ⟨_, (pss_one (ps_ret (pe_and (pe_cal C_is_whole (hr.mono (by decide)) (by rfl) pass0 (pa_cons (pv 0) pa_nil)) (pe_one (pe_chain op_le op_le (pe_glob (v := .int 2) (by rfl) T.LEAST ⟨_, rfl⟩) (pv 0) (pe_glob (v := .int 1000000) (by rfl) T.GREATEST ⟨_, rfl⟩)))))), ?_⟩
  refine s_retD (K := K) (d := .bool (isSide x)) (ed_bl ?_) q
  cases hw : whole x with
  | false =>
    rw [isSide_no hw]
    exact ev_andV (a := false) (b := true) (ev_is (ev_blD (ed_call (eda_cons (ed_var rfl hx) eda_nil) ⟨x, rfl, rfl⟩)) (by rw [hw])) (fun z => Bool.noConfusion z)
  | true =>
    obtain ⟨i, rfl⟩ := whole_yes hw
    cases dvi hx
    show Ev _ _ _ (.bl (true && (decide (2 ≤ i) && decide (i ≤ 1000000))))
    exact ev_andV (ev_blD (ed_call (eda_cons (ed_int (ev_var rfl)) eda_nil) ⟨.int i, rfl, rfl⟩)) fun _ => ev_chain ev_c (ev_var rfl) rv_I0 (fun _ => ev_c) fun _ => rv_I0

theorem ok__is_step {P : Program} {w : World} {K : PySem.W.Frag} {mg : Str → Option Value} {base : Heap}  {aR : Addr} {tL tM tA tZ : Tok} {e0 e1 e2 e3 e4 eT : Addr} {f : Addr} {fd : FuncData} (F : Fun K "_is_step" "_is_step" s__is_step f fd) (T : Txt K mg aR tL tM tA tZ e0 e1 e2 e3 e4 eT) (C_is_whole : Cal P w K mg base CX0 "is_whole" 1 P_is_whole (spF K R_is_whole)) :
    FnOk P w K mg base CX0 2 f fd P__is_step (spF K R__is_step) := by
  refine F.ok sc__is_step (spF_len fun ds d h => by
    first | (obtain ⟨_, rfl, _⟩ := h; rfl) | (obtain ⟨_, _, rfl, _⟩ := h; rfl) | (obtain ⟨_, _, _, rfl, _⟩ := h; rfl) | (obtain ⟨_, _, _, _, rfl, _⟩ := h; rfl) | (rcases h with ⟨rfl, _⟩ | ⟨_, _, rfl, _⟩ <;> rfl)) (fun cdv A outer s H vs Q E hr h => ?_)
  obtain ⟨ds, d, hv, hR, q⟩ := h
  obtain ⟨x, rfl, rfl⟩ := hR
  obtain ⟨v, rfl, hx⟩ := dvs1 hv
  refine ⟨_, (pss_one (ps_ret (pe_and (pe_cal C_is_whole (hr.mono (by decide)) (by rfl) pass0 (pa_cons (pv 0) pa_nil)) (pe_one (pe_chain op_le op_le pe_int (pv 0) pe_int))))), ?_⟩
  refine s_retD (K := K) (d := .bool (isStepD x)) (ed_bl ?_) q
  have e : isStepD x = (whole x && isStepD x) := by cases x <;> rfl
  rw [e]
  refine ev_andV (ev_blD (ed_call (eda_cons (ed_var rfl hx) eda_nil) ⟨x, rfl, rfl⟩)) fun hw => ?_
  cases x <;> try (cases hw; done)
  cases dvi hx
  exact ev_chain ev_c (ev_var rfl) rv_I0 (fun _ => ev_c) fun _ => rv_I0

theorem ok__led {P : Program} {w : World} {K : PySem.W.Frag} {mg : Str → Option Value} {base : Heap}  {aR : Addr} {tL tM tA tZ : Tok} {e0 e1 e2 e3 e4 eT : Addr} {f : Addr} {fd : FuncData} (F : Fun K "_led" "_led" s__led f fd) (T : Txt K mg aR tL tM tA tZ e0 e1 e2 e3 e4 eT) (C__pell : Cal P w K mg base CX0 "_pell" 1 P__pell (spF K R__pell)) :
    FnOk P w K mg base CX0 2 f fd P__led (spF K R__led) := by
  refine F.ok sc__led (spF_len fun ds d h => by
    first | (obtain ⟨_, rfl, _⟩ := h; rfl) | (obtain ⟨_, _, rfl, _⟩ := h; rfl) | (obtain ⟨_, _, _, rfl, _⟩ := h; rfl) | (obtain ⟨_, _, _, _, rfl, _⟩ := h; rfl) | (rcases h with ⟨rfl, _⟩ | ⟨_, _, rfl, _⟩ <;> rfl)) (fun cdv A outer s H vs Q E hr h => ?_)
  obtain ⟨ds, d, hv, hR, q⟩ := h
  obtain ⟨m, n, s', t, rfl, hs, ht, hm, hn, hst, rfl⟩ := hR
  cases dvs4i hv
  refine ⟨_, (pss_cons (ps_if (pt_cmpR op_eq (pv 2) pe_int (nomark _)) (pss_cons (ps_set (i := 7) sc__led.nd rfl (.inl rfl) (pe_op op_mulX (pe_op op_sub (pv 0) (pv 1)) (pv 3)))
      (pss_one (ps_ret (pe_tup (pa_cons (pe_op op_add (pv 0) (pv 7)) (pa_cons (pe_op op_add (pv 1) (pv 7)) pa_nil)))))) pss_nil)
      (pss_cons (ps_if (pt_cmpR op_eq (pv 2) pe_int (nomark _)) (pss_one (ps_ret (pe_tup (pa_cons (pe_op op_add (pv 0) (pe_op op_mulX (pe_op op_mulX pe_int (pv 1)) (pv 3))) (pa_cons (pv 1) pa_nil))))) pss_nil)
      (pss_cons (ps_asg (pe_cal C__pell (hr.mono (by decide)) (by rfl) pass0 (pa_cons (pv 3) pa_nil)) (pg_tup rfl (pgs_cons (pg_name (i := 4) sc__led.nd rfl (.inl rfl)) (pgs_cons (pg_name (i := 5) sc__led.nd rfl (.inl rfl)) (pgs_cons (pg_name (i := 6) sc__led.nd rfl (.inl rfl)) pgs_nil)))))
      (pss_one (ps_ret (pe_tup (pa_cons (pe_op op_add (pe_op op_mulX (pv 6) (pv 0)) (pe_op op_mulX (pv 5) (pv 1))) (pa_cons (pe_op op_add (pe_op op_mulX (pv 5) (pv 0)) (pe_op op_mulX (pv 4) (pv 1))) pa_nil)))))))), ?_⟩
  rcases hs with rfl | rfl | rfl
  · refine q_taken (et_is (et_test (ev_op (ev_var rfl) ev_c rv_eqI)) (decide_eq_true rfl)) fun H1 e1 => ?_
    refine q_asg (ev_op (ev_op (ev_var rfl) (ev_var rfl) rv_I0) (ev_var rfl) (rv_I ((hm.sub hn).cm hst (by decide)))) fun H2 e2 => ?_
    exact s_retD (K := K) (d := pd (led (m, n) 0 t)) (ed_tup (eda_cons (ed_int (ev_op (ev_var rfl) (ev_var rfl) rv_I0)) (eda_cons (ed_int (ev_op (ev_var rfl) (ev_var rfl) rv_I0)) eda_nil)) (by show 2 ≤ 100000; decide)) fun w H3 e3 hw => q w H3 ((e1.trans e2).trans e3) hw
  · have ht := ht rfl
    obtain ⟨p1, p2⟩ := pell_sm ht
    refine q_pass (et_is (et_test (ev_op (ev_var rfl) ev_c rv_eqI)) (decide_eq_false (by decide))) fun H1 e1 => ?_
    refine q_pass (et_is (et_test (ev_op (ev_var rfl) ev_c rv_eqI)) (decide_eq_false (by decide))) fun H2 e2 => ?_
    refine q_un3i (ed_call (eda_cons (ed_int (ev_var rfl)) eda_nil) ⟨t, rfl, ht, rfl⟩) fun H3 e3 => ?_
    have p3 : Sm 6004 ((pell t).2 - 2 * (pell t).1) := Sm.sub (p2.up (by decide)) (sm2.mul p1)
    have e : pd (led (m, n) 1 t) = .tuple [.int ((pell t).2 * m + (pell t).1 * n), .int ((pell t).1 * m + ((pell t).2 - 2 * (pell t).1) * n)] := by
      show pd (iter one t (m, n)) = _
      rw [one_pell]; rfl
    rw [e] at q
    exact s_retD (K := K) (ed_tup (eda_cons (ed_int (ev_op (ev_op (ev_var rfl) (ev_var rfl) (rv_I (p2.cm hm (by decide)))) (ev_op (ev_var rfl) (ev_var rfl) (rv_I (p1.cm hn (by decide)))) rv_I0))
      (eda_cons (ed_int (ev_op (ev_op (ev_var rfl) (ev_var rfl) (rv_I (p1.cm hm (by decide)))) (ev_op (ev_var rfl) (ev_var rfl) (rv_I (p3.cm hn (by decide)))) rv_I0)) eda_nil)) (by show 2 ≤ 100000; decide)) fun w H4 e4 hw => q w H4 (((e1.trans e2).trans e3).trans e4) hw
  · refine q_pass (et_is (et_test (ev_op (ev_var rfl) ev_c rv_eqI)) (decide_eq_false (by decide))) fun H1 e1 => ?_
    refine q_taken (et_is (et_test (ev_op (ev_var rfl) ev_c rv_eqI)) (decide_eq_true rfl)) fun H2 e2 => ?_
    exact s_retD (K := K) (d := pd (led (m, n) 2 t)) (ed_tup (eda_cons (ed_int (ev_op (ev_var rfl) (ev_op (ev_op ev_c (ev_var rfl) (rv_I (sm2.cm hn (by decide)))) (ev_var rfl) (rv_I ((sm2.mul hn).cm hst (by decide)))) rv_I0)) (eda_cons (ed_int (ev_var rfl)) eda_nil)) (by show 2 ≤ 100000; decide)) fun w H3 e3 hw => q w H3 ((e1.trans e2).trans e3) hw

theorem ok__led_back {P : Program} {w : World} {K : PySem.W.Frag} {mg : Str → Option Value} {base : Heap}  {aR : Addr} {tL tM tA tZ : Tok} {e0 e1 e2 e3 e4 eT : Addr} {f : Addr} {fd : FuncData} (F : Fun K "_led_back" "_led_back" s__led_back f fd) (T : Txt K mg aR tL tM tA tZ e0 e1 e2 e3 e4 eT) (C__pell : Cal P w K mg base CX0 "_pell" 1 P__pell (spF K R__pell)) :
    FnOk P w K mg base CX0 2 f fd P__led_back (spF K R__led_back) := by
  refine F.ok sc__led_back (spF_len fun ds d h => by
    first | (obtain ⟨_, rfl, _⟩ := h; rfl) | (obtain ⟨_, _, rfl, _⟩ := h; rfl) | (obtain ⟨_, _, _, rfl, _⟩ := h; rfl) | (obtain ⟨_, _, _, _, rfl, _⟩ := h; rfl) | (rcases h with ⟨rfl, _⟩ | ⟨_, _, rfl, _⟩ <;> rfl)) (fun cdv A outer s H vs Q E hr h => ?_)
  obtain ⟨ds, d, hv, hR, q⟩ := h
  obtain ⟨m, n, s', t, rfl, hs, ht, hm, hn, hst, rfl⟩ := hR
  cases dvs4i hv
  refine ⟨_, (pss_cons (ps_if (pt_cmpR op_eq (pv 2) pe_int (nomark _)) (pss_cons (ps_set (i := 8) sc__led_back.nd rfl (.inl rfl) (pe_op op_mulX (pe_op op_sub (pv 0) (pv 1)) (pv 3)))
      (pss_one (ps_ret (pe_tup (pa_cons (pe_op op_sub (pv 0) (pv 8)) (pa_cons (pe_op op_sub (pv 1) (pv 8)) pa_nil)))))) pss_nil)
      (pss_cons (ps_if (pt_cmpR op_eq (pv 2) pe_int (nomark _)) (pss_one (ps_ret (pe_tup (pa_cons (pe_op op_sub (pv 0) (pe_op op_mulX (pe_op op_mulX pe_int (pv 1)) (pv 3))) (pa_cons (pv 1) pa_nil))))) pss_nil)
      (pss_cons (ps_asg (pe_cal C__pell (hr.mono (by decide)) (by rfl) pass0 (pa_cons (pv 3) pa_nil)) (pg_tup rfl (pgs_cons (pg_name (i := 4) sc__led_back.nd rfl (.inl rfl)) (pgs_cons (pg_name (i := 5) sc__led_back.nd rfl (.inl rfl)) (pgs_cons (pg_name (i := 6) sc__led_back.nd rfl (.inl rfl)) pgs_nil)))))
      (pss_cons (ps_set (i := 7) sc__led_back.nd rfl (.inl rfl) (pe_ifExp (pt_cmpR op_eq (pe_op op_mod (pv 3) pe_int) pe_int (nomark _)) pe_int (pe_un un_neg pe_int)))
      (pss_one (ps_ret (pe_tup (pa_cons (pe_op op_mulX (pv 7) (pe_op op_sub (pe_op op_mulX (pv 4) (pv 0)) (pe_op op_mulX (pv 5) (pv 1)))) (pa_cons (pe_op op_mulX (pv 7) (pe_op op_sub (pe_op op_mulX (pv 6) (pv 1)) (pe_op op_mulX (pv 5) (pv 0)))) pa_nil))))))))), ?_⟩
  rcases hs with rfl | rfl | rfl
  · refine q_taken (et_is (et_test (ev_op (ev_var rfl) ev_c rv_eqI)) (decide_eq_true rfl)) fun H1 e1 => ?_
    refine q_asg (ev_op (ev_op (ev_var rfl) (ev_var rfl) rv_I0) (ev_var rfl) (rv_I ((hm.sub hn).cm hst (by decide)))) fun H2 e2 => ?_
    exact s_retD (K := K) (d := pd (ledBack (m, n) 0 t)) (ed_tup (eda_cons (ed_int (ev_op (ev_var rfl) (ev_var rfl) rv_I0)) (eda_cons (ed_int (ev_op (ev_var rfl) (ev_var rfl) rv_I0)) eda_nil)) (by show 2 ≤ 100000; decide)) fun w H3 e3 hw => q w H3 ((e1.trans e2).trans e3) hw
  · have ht := ht rfl
    obtain ⟨p1, p2⟩ := pell_sm ht
    refine q_pass (et_is (et_test (ev_op (ev_var rfl) ev_c rv_eqI)) (decide_eq_false (by decide))) fun H1 e1 => ?_
    refine q_pass (et_is (et_test (ev_op (ev_var rfl) ev_c rv_eqI)) (decide_eq_false (by decide))) fun H2 e2 => ?_
    refine q_un3i (ed_call (eda_cons (ed_int (ev_var rfl)) eda_nil) ⟨t, rfl, ht, rfl⟩) fun H3 e3 => ?_
    have p3 : Sm 6004 ((pell t).2 - 2 * (pell t).1) := Sm.sub (p2.up (by decide)) (sm2.mul p1)
    have e : pd (ledBack (m, n) 1 t) = .tuple [.int (sgn t * (((pell t).2 - 2 * (pell t).1) * m - (pell t).1 * n)), .int (sgn t * ((pell t).2 * n - (pell t).1 * m))] := by
      show pd (iter un t (m, n)) = _
      rw [un_pell]; rfl
    rw [e] at q
    have g : Sm 2 (sgn t) := by
      unfold sgn
      split
      · exact (show (1 : Int).natAbs < 2 ^ 2 by decide)
      · exact (show (-1 : Int).natAbs < 2 ^ 2 by decide)
    refine q_asg (v := .int (sgn t)) ?_ fun H4 e4 => ?_
    · have eb : decide ((t : Int) % 2 = 0) = decide (t % 2 = 0) := by
        by_cases z : t % 2 = 0
        · rw [decide_eq_true z]; exact decide_eq_true (by omega)
        · rw [decide_eq_false z]; exact decide_eq_false (by omega)
      refine ev_if (et_is (et_test (ev_op (ev_op (ev_var rfl) ev_c (rv_I (by decide))) ev_c rv_eqI)) eb) (fun z => ?_) fun z => ?_
      · have z := of_decide_eq_true z
        have : sgn t = 1 := if_pos z
        rw [this]; exact ev_c
      · have z := of_decide_eq_false z
        have : sgn t = -1 := if_neg z
        rw [this]; exact ev_un ev_c ru_neg
    exact s_retD (K := K) (ed_tup (eda_cons (ed_int (ev_op (ev_var rfl) (ev_op (ev_op (ev_var rfl) (ev_var rfl) (rv_I (p3.cm hm (by decide)))) (ev_op (ev_var rfl) (ev_var rfl) (rv_I (p1.cm hn (by decide)))) rv_I0) (rv_I (g.cm (Sm.sub ((p3.mul hm).up (by decide : _ ≤ 102000)) ((p1.mul hn).up (by decide))) (by decide)))))
      (eda_cons (ed_int (ev_op (ev_var rfl) (ev_op (ev_op (ev_var rfl) (ev_var rfl) (rv_I (p2.cm hn (by decide)))) (ev_op (ev_var rfl) (ev_var rfl) (rv_I (p1.cm hm (by decide)))) rv_I0) (rv_I (g.cm (Sm.sub ((p2.mul hn).up (by decide : _ ≤ 102000)) ((p1.mul hm).up (by decide))) (by decide))))) eda_nil)) (by show 2 ≤ 100000; decide)) fun w H5 e5 hw => q w H5 ((((e1.trans e2).trans e3).trans e4).trans e5) hw
  · refine q_pass (et_is (et_test (ev_op (ev_var rfl) ev_c rv_eqI)) (decide_eq_false (by decide))) fun H1 e1 => ?_
    refine q_taken (et_is (et_test (ev_op (ev_var rfl) ev_c rv_eqI)) (decide_eq_true rfl)) fun H2 e2 => ?_
    exact s_retD (K := K) (d := pd (ledBack (m, n) 2 t)) (ed_tup (eda_cons (ed_int (ev_op (ev_var rfl) (ev_op (ev_op ev_c (ev_var rfl) (rv_I (sm2.cm hn (by decide)))) (ev_var rfl) (rv_I ((sm2.mul hn).cm hst (by decide)))) rv_I0)) (eda_cons (ed_int (ev_var rfl)) eda_nil)) (by show 2 ≤ 100000; decide)) fun w H3 e3 hw => q w H3 ((e1.trans e2).trans e3) hw

theorem ok__law_value {P : Program} {w : World} {K : PySem.W.Frag} {mg : Str → Option Value} {base : Heap}  {aR : Addr} {tL tM tA tZ : Tok} {e0 e1 e2 e3 e4 eT : Addr} {f : Addr} {fd : FuncData} (F : Fun K "_law_value" "_law_value" s__law_value f fd) (T : Txt K mg aR tL tM tA tZ e0 e1 e2 e3 e4 eT) (C__law_draw : Cal P w K mg base CX0 "_law_draw" 1 P__law_draw (spF K R__law_draw)) :
    FnOk P w K mg base CX0 2 f fd P__law_value (spF K R__law_value) := by
  refine F.ok sc__law_value (spF_len fun ds d h => by
    first | (obtain ⟨_, rfl, _⟩ := h; rfl) | (obtain ⟨_, _, rfl, _⟩ := h; rfl) | (obtain ⟨_, _, _, rfl, _⟩ := h; rfl) | (obtain ⟨_, _, _, _, rfl, _⟩ := h; rfl) | (rcases h with ⟨rfl, _⟩ | ⟨_, _, rfl, _⟩ <;> rfl)) (fun cdv A outer s H vs Q E hr h => ?_)
  obtain ⟨ds, d, hv, hR, q⟩ := h
  obtain ⟨c, k, lim, rfl, hc, hk, hm, rfl⟩ := hR
  cases dvs3i hv
  refine ⟨_, (pss_cons (ps_if (pt_cmpR op_ge (pv 0) (pe_op op_pow pe_int pe_int) (nomark _)) (pss_one (ps_ret (pe_op op_mod (pe_op op_fdivP (pe_op op_sub (pv 0) (pe_op op_pow pe_int pe_int)) (pe_ix (k_ixT (K := K) rfl) (pe_tup (pa_cons pe_int (pa_cons pe_int (pa_cons pe_int (pa_cons pe_int pa_nil))))) (pe_op op_mod (pv 1) pe_int) (fun _ _ => rfl))) (pe_op op_pow pe_int pe_int)))) pss_nil)
      (pss_one (ps_ret (pe_cal C__law_draw (hr.mono (by decide)) (by rfl) pass0 (pa_cons (pe_op op_mulX (pe_op op_add (pv 0) (pe_op op_mulX pe_int (pv 1))) (pe_op op_add (pe_op op_add (pv 0) (pe_op op_mulX pe_int (pv 1))) pe_int)) (pa_cons (pe_op op_add (pe_op op_mod (pv 1) pe_int) pe_int) (pa_cons (pv 2) pa_nil))))))), ?_⟩
  have p18 : Ev (tOp (rI CPow fun i j => .int (i ^ j.toNat)) (tC (.int 10)) (tC (.int 18))) (start N__law_value [.int c, .int k, .int lim]) H (.int E18) := ev_is (ev_op ev_c ev_c (rv_I ⟨by decide, by decide, by decide⟩)) (congrArg V.int pow18)
  have p40 : Ev (tOp (rI CPow fun i j => .int (i ^ j.toNat)) (tC (.int 10)) (tC (.int 40))) (start N__law_value [.int c, .int k, .int lim]) H (.int E40) := ev_is (ev_op ev_c ev_c (rv_I ⟨by decide, by decide, by decide⟩)) (congrArg V.int pow40)
  obtain ⟨g1, g2, g3⟩ := fourAt_get k
  refine q_when (et_test (ev_op (ev_var rfl) p18 rv_I0)) (fun hb H1 e1 => ?_) fun hb H1 e1 => ?_
  · have hb := of_decide_eq_true hb
    have el : lawValue c k lim = (c - E18) / fourAt k % E40 := if_pos hb
    rw [el] at q
    refine s_retD (K := K) (ed_int ?_) fun w H2 e2 hw => q w H2 (e1.trans e2) hw
    refine ev_op (ev_op (ev_op (ev_var rfl) (p18.mono e1) rv_I0) (ev_intD (ed_ixT (j := (k % 4).toNat) (i := k % 4) (d := .int (fourAt k)) (ds := ([1, 7, 49, 343] : List Int).map .int) (ed_tup (by repeat' first | exact eda_nil | refine eda_cons (ed_int ev_c) ?_) (by show 4 ≤ 100000; decide)) (ev_op (ev_var rfl) ev_c (rv_I (by decide))) (by omega) (by rw [List.getElem?_map, g1]; rfl))) (rv_I (divs g2 (by omega)))) (p40.mono e1) (rv_I (by decide))
  · have hb := of_decide_eq_false hb
    have el : lawValue c k lim = lawDraw ((c + 977 * k) * (c + 31 * k + 5)) (k % 9 + 1) lim := if_neg hb
    rw [el] at q
    have k1 : Sm 1048578 (c + 977 * k) := Sm.add hc (Sm.up (Sm.mul (a := 20) (show (977 : Int).natAbs < 2 ^ 20 by decide) hk) (by decide))
    have k2 : Sm 1048579 (c + 31 * k + 5) := Sm.add (Sm.add hc (Sm.up (Sm.mul (a := 20) (show (31 : Int).natAbs < 2 ^ 20 by decide) hk) (by decide))) (Sm.up (a := 20) (show (5 : Int).natAbs < 2 ^ 20 by decide) (by decide))
    have k3 : Sm 3000000 (k % 9 + 1) := by
      refine Sm.up (a := 20) ?_ (by decide)
      have e20 : (2 : Nat) ^ 20 = 1048576 := by decide
      show (k % 9 + 1).natAbs < 2 ^ 20
      rw [e20]
      omega
    refine s_retD (K := K) (ed_call (eda_cons (ed_int (ev_op (ev_op (ev_var rfl) (ev_op ev_c (ev_var rfl) (rv_I (Sm.cm (a := 20) (show (977 : Int).natAbs < 2 ^ 20 by decide) hk (by decide)))) rv_I0) (ev_op (ev_op (ev_var rfl) (ev_op ev_c (ev_var rfl) (rv_I (Sm.cm (a := 20) (show (31 : Int).natAbs < 2 ^ 20 by decide) hk (by decide)))) rv_I0) ev_c rv_I0) (rv_I (k1.cm k2 (by decide)))))
      (eda_cons (ed_int (ev_op (ev_op (ev_var rfl) ev_c (rv_I (by decide))) ev_c rv_I0)) (eda_cons (ed_int (ev_var rfl)) eda_nil))) ⟨_, _, _, rfl, (k1.mul k2).up (by decide), k3, hm, rfl⟩) fun w H2 e2 hw => q w H2 (e1.trans e2) hw

theorem ok__law_behind {P : Program} {w : World} {K : PySem.W.Frag} {mg : Str → Option Value} {base : Heap}  {aR : Addr} {tL tM tA tZ : Tok} {e0 e1 e2 e3 e4 eT : Addr} {f : Addr} {fd : FuncData} (F : Fun K "_law_behind" "_law_behind" s__law_behind f fd) (T : Txt K mg aR tL tM tA tZ e0 e1 e2 e3 e4 eT) (C__law_led : Cal P w K mg base CX0 "_law_led" 1 P__law_led (spF K R__law_led)) :
    FnOk P w K mg base CX0 2 f fd P__law_behind (spF K R__law_behind) := by
  refine F.ok sc__law_behind (spF_len fun ds d h => by
    first | (obtain ⟨_, rfl, _⟩ := h; rfl) | (obtain ⟨_, _, rfl, _⟩ := h; rfl) | (obtain ⟨_, _, _, rfl, _⟩ := h; rfl) | (obtain ⟨_, _, _, _, rfl, _⟩ := h; rfl) | (rcases h with ⟨rfl, _⟩ | ⟨_, _, rfl, _⟩ <;> rfl)) (fun cdv A outer s H vs Q E hr h => ?_)
  obtain ⟨ds, d, hv, hR, q⟩ := h
  obtain ⟨r, rfl, hparts, hsm, hlen, rfl⟩ := hR
  obtain ⟨v, rfl, hx⟩ := dvs1 hv
  refine ⟨_, (pss_cons (ps_set (i := 1) sc__law_behind.nd rfl (.inl rfl) (pe_tup (pa_cons pe_int (pa_cons pe_int pa_nil))))
      (pss_cons (ps_for PassesOwn.never rfl (pi_list (pv 0)) (pg_tup rfl (pgs_cons (pg_name (i := 2) sc__law_behind.nd rfl (.inl rfl)) (pgs_cons (pg_name (i := 3) sc__law_behind.nd rfl (.inl rfl)) pgs_nil))) (pss_one (ps_set (i := 1) sc__law_behind.nd rfl (.inl rfl) (pe_cal C__law_led (hr.mono (by decide)) (by rfl) pass0 (pa_cons (pv 1) (pa_cons (pv 2) (pa_cons (pv 3) pa_nil)))))))
      (pss_one (ps_ret (pv 1))))), ?_⟩
  refine q_asgD (K := K) (d := pd root) (ed_tup (eda_cons (ed_int ev_c) (eda_cons (ed_int ev_c) eda_nil)) (by show 2 ≤ 100000; decide)) fun w0 H1 e1 hw0 => ?_
  refine q_forP (v := v) (xs := r.map fun x => (x.1, (x.2 : Int))) rfl (by rw [List.map_map]; exact hx.ex e1) (fun k σ' H' => ∃ w x y, σ' = [some v, some w, x, y] ∧ DV K H' w (pd (behind root (r.take k))) ∧ Ex H1 H') ⟨w0, none, none, rfl, hw0, Ex.refl _⟩ (fun k σ' H' p => by obtain ⟨_, _, _, _, _, e⟩ := p; exact e) (fun k a b σ' H' hk p => ?_) fun σ' H' p => ?_
  · obtain ⟨w, x, y, rfl, hw, e3⟩ := p
    rw [List.getElem?_map] at hk
    cases hrk : r[k]? with
    | none => rw [hrk] at hk; cases hk
    | some st =>
      rw [hrk] at hk
      obtain ⟨s', t⟩ := st
      have hk' := Option.some.inj hk
      cases hk'
      obtain ⟨a1, a3, a4⟩ := hparts _ (List.mem_of_getElem? hrk)
      have up := behind_take_up r (k + 1)
      have ok := behind_ok (ok_of root_pair) (r.take k)
      have ok1 := behind_ok (ok_of root_pair) (r.take (k + 1))
      obtain ⟨g1, g2⟩ := ok1
      have s1 : Sm 80000 (behind root (r.take (k + 1))).1 := hsm.le (by omega) up
      rw [take_snoc hrk, behind_snoc] at s1 ⊢
      refine s_asgD (ed_call (eda_cons (ed_var rfl hw) (eda_cons (ed_int (ev_var rfl)) (eda_cons (ed_int (ev_var rfl)) eda_nil))) ⟨_, s', t, rfl, a1, ok, a3, sm_nat (Nat.lt_of_lt_of_le a4 (Nat.pow_le_pow_right (by decide) (by decide))), s1.up (by decide), rfl⟩) fun w' H4 e4 hw' => ?_
      exact ⟨w', some (.int s'), some (.int t), rfl, hw', e3.trans e4⟩
  · obtain ⟨w, x, y, rfl, hw, e3⟩ := p
    rw [List.length_map, List.take_length] at hw
    exact s_retD (ed_var rfl hw) fun w H4 e4 hw => q w H4 ((e1.trans e3).trans e4) hw

theorem ok_is_pair {P : Program} {w : World} {K : PySem.W.Frag} {mg : Str → Option Value} {base : Heap}  {aR : Addr} {tL tM tA tZ : Tok} {e0 e1 e2 e3 e4 eT : Addr} {f : Addr} {fd : FuncData} (F : Fun K "is_pair" "is_pair" s_is_pair f fd) (T : Txt K mg aR tL tM tA tZ e0 e1 e2 e3 e4 eT) (C_are_whole : Cal P w K mg base CX0 "are_whole" 2 P_are_whole (spF K R_are_whole)) :
    FnOk P w K mg base CX0 3 f fd P_is_pair (spF K R_is_pair) := by
  refine F.ok sc_is_pair (spF_len fun ds d h => by
    first | (obtain ⟨_, rfl, _⟩ := h; rfl) | (obtain ⟨_, _, rfl, _⟩ := h; rfl) | (obtain ⟨_, _, _, rfl, _⟩ := h; rfl) | (obtain ⟨_, _, _, _, rfl, _⟩ := h; rfl) | (rcases h with ⟨rfl, _⟩ | ⟨_, _, rfl, _⟩ <;> rfl)) (fun cdv A outer s H vs Q E hr h => ?_)
  obtain ⟨ds, d, hv, hR, q⟩ := h
  obtain ⟨x, rfl, hz, rfl⟩ := hR
  obtain ⟨v, rfl, hx⟩ := dvs1 hv
  refine ⟨_, (pss_cons (ps_if (pt_not (pt_val (pe_cal C_are_whole (hr.mono (by decide)) (by rfl) pass0 (pa_cons (pv 0) (pa_cons pe_int pa_nil))))) (pss_one (ps_ret pe_bl)) pss_nil)
      (pss_cons (ps_asg (pv 0) (pg_tup rfl (pgs_cons (pg_name (i := 1) sc_is_pair.nd rfl (.inl rfl)) (pgs_cons (pg_name (i := 2) sc_is_pair.nd rfl (.inl rfl)) pgs_nil))))
      (pss_one (ps_ret (pe_and (pe_chain op_lt op_lt pe_int (pv 2) (pv 1)) (pe_and (pe_cmpR op_eq (pe_op op_mod (pe_op op_sub (pv 1) (pv 2)) pe_int) pe_int (nomark _)) (pe_one (pe_cmpR op_eq (pe_callBfun cr_gcd (by rfl) T.gcd (pa_cons (pv 1) (pa_cons (pv 2) pa_nil))) pe_int (nomark _))))))))), ?_⟩
  have h1 : EvT (tNot (tB (tCall (spF K R_are_whole) [] E0 (tCons (tVar 0) (tCons (tC (.int 2)) tNil))))) (start N_is_pair [v]) H (!areWhole x 2) :=
    et_not (et_B (ev_blD (ed_call (eda_cons (ed_var rfl hx) (eda_cons (ed_int ev_c) eda_nil)) ⟨x, 2, rfl, hz, rfl⟩)))
  cases hw : areWhole x 2 with
  | false =>
    rw [hw] at h1
    rw [isPairD_no hw] at q
    exact q_taken h1 fun H1 e => s_retD (ed_bl ev_c) fun w H2 e2 hw => q w H2 (e.trans e2) hw
  | true =>
    rw [hw] at h1
    obtain ⟨m, n, rfl⟩ := areWhole2 hw
    refine q_pass h1 fun H1 e => ?_
    refine q_un2i (ed_var rfl (hx.ex e)) fun H2 e2 => ?_
    refine s_retD (K := K) (d := .bool (isPairD (.tuple [.int m, .int n]))) (ed_bl ?_) fun w H3 e3 hw => q w H3 ((e.trans e2).trans e3) hw
    show Ev _ _ _ (.bl (decide (0 < n) && decide (n < m) && (decide ((m - n) % 2 = 1) && decide (Int.gcd m n = 1))))
    refine ev_andV (ev_chain ev_c (ev_var rfl) rv_I0 (fun _ => ev_var rfl) fun _ => rv_I0) fun _ => ?_
    refine ev_andV (ev_op (ev_op (ev_op (ev_var rfl) (ev_var rfl) rv_I0) ev_c (rv_I (by decide))) ev_c rv_eqI) fun _ => ?_
    refine ev_is (ev_op (ev_gcd (ev_var rfl) (ev_var rfl)) ev_c rv_eqI) ?_
    congr 1
    by_cases z : m.gcd n = 1
    · rw [z]; rfl
    · rw [decide_eq_false z]; exact decide_eq_false fun z2 => z (by omega)

theorem ok__is_part {P : Program} {w : World} {K : PySem.W.Frag} {mg : Str → Option Value} {base : Heap}  {aR : Addr} {tL tM tA tZ : Tok} {e0 e1 e2 e3 e4 eT : Addr} {f : Addr} {fd : FuncData} (F : Fun K "_is_part" "_is_part" s__is_part f fd) (T : Txt K mg aR tL tM tA tZ e0 e1 e2 e3 e4 eT) (C_are_whole : Cal P w K mg base CX0 "are_whole" 2 P_are_whole (spF K R_are_whole)) (C__is_step : Cal P w K mg base CX0 "_is_step" 2 P__is_step (spF K R__is_step)) :
    FnOk P w K mg base CX0 3 f fd P__is_part (spF K R__is_part) := by
  refine F.ok sc__is_part (spF_len fun ds d h => by
    first | (obtain ⟨_, rfl, _⟩ := h; rfl) | (obtain ⟨_, _, rfl, _⟩ := h; rfl) | (obtain ⟨_, _, _, rfl, _⟩ := h; rfl) | (obtain ⟨_, _, _, _, rfl, _⟩ := h; rfl) | (rcases h with ⟨rfl, _⟩ | ⟨_, _, rfl, _⟩ <;> rfl)) (fun cdv A outer s H vs Q E hr h => ?_)
  obtain ⟨ds, d, hv, hR, q⟩ := h
  obtain ⟨x, rfl, hz, rfl⟩ := hR
  obtain ⟨v, rfl, hx⟩ := dvs1 hv
  refine ⟨_, (pss_cons (ps_if (pt_not (pt_val (pe_cal C_are_whole (hr.mono (by decide)) (by rfl) pass0 (pa_cons (pv 0) (pa_cons pe_int pa_nil))))) (pss_one (ps_ret pe_bl)) pss_nil)
      (pss_cons (ps_asg (pv 0) (pg_tup rfl (pgs_cons (pg_name (i := 1) sc__is_part.nd rfl (.inl rfl)) (pgs_cons (pg_name (i := 2) sc__is_part.nd rfl (.inl rfl)) pgs_nil))))
      (pss_one (ps_ret (pe_and (pe_cal C__is_step (hr.mono (by decide)) (by rfl) pass0 (pa_cons (pv 1) pa_nil)) (pe_and (pe_cmpR op_gt (pv 2) pe_int (nomark _)) (pe_one (pe_or (pe_cmpR op_ne (pv 1) pe_int (nomark _)) (pe_one (pe_cmpR op_le (pv 2) (pe_glob (v := .int 1000) (by rfl) T.MOST_OF_STEP_1 ⟨_, rfl⟩) (nomark _))))))))))), ?_⟩
  have h1 : EvT (tNot (tB (tCall (spF K R_are_whole) [] E0 (tCons (tVar 0) (tCons (tC (.int 2)) tNil))))) (start N__is_part [v]) H (!areWhole x 2) :=
    et_not (et_B (ev_blD (ed_call (eda_cons (ed_var rfl hx) (eda_cons (ed_int ev_c) eda_nil)) ⟨x, 2, rfl, hz, rfl⟩)))
  cases hw : areWhole x 2 with
  | false =>
    rw [hw] at h1
    rw [isPartD_no hw] at q
    exact q_taken h1 fun H1 e => s_retD (ed_bl ev_c) fun w H2 e2 hw => q w H2 (e.trans e2) hw
  | true =>
    rw [hw] at h1
    obtain ⟨s', t, rfl⟩ := areWhole2 hw
    refine q_pass h1 fun H1 e => ?_
    refine q_un2i (ed_var rfl (hx.ex e)) fun H2 e2 => ?_
    refine s_retD (K := K) (d := .bool (isPartD (.tuple [.int s', .int t]))) (ed_bl ?_) fun w H3 e3 hw => q w H3 ((e.trans e2).trans e3) hw
    show Ev _ _ _ (.bl (isStepD (.int s') && (decide (0 < t) && (!decide (s' = 1) || decide (t ≤ 1000)))))
    refine ev_andV (ev_blD (ed_call (eda_cons (ed_int (ev_var rfl)) eda_nil) ⟨.int s', rfl, rfl⟩)) fun _ => ?_
    refine ev_andV (ev_op (ev_var rfl) ev_c rv_I0) fun _ => ?_
    exact ev_orV (ev_op (ev_var rfl) ev_c rv_neI) fun _ => ev_op (ev_var rfl) ev_c rv_I0

theorem ok__last_times_of_1 {P : Program} {w : World} {K : PySem.W.Frag} {mg : Str → Option Value} {base : Heap}  {aR : Addr} {tL tM tA tZ : Tok} {e0 e1 e2 e3 e4 eT : Addr} {f : Addr} {fd : FuncData} (F : Fun K "_last_times_of_1" "_last_times_of_1" s__last_times_of_1 f fd) (T : Txt K mg aR tL tM tA tZ e0 e1 e2 e3 e4 eT) (C__led_back : Cal P w K mg base CX0 "_led_back" 2 P__led_back (spF K R__led_back)) :
    FnOk P w K mg base CX0 3 f fd P__last_times_of_1 (spF K R__last_times_of_1) := by
  refine F.ok sc__last_times_of_1 (spF_len fun ds d h => by
    first | (obtain ⟨_, rfl, _⟩ := h; rfl) | (obtain ⟨_, _, rfl, _⟩ := h; rfl) | (obtain ⟨_, _, _, rfl, _⟩ := h; rfl) | (obtain ⟨_, _, _, _, rfl, _⟩ := h; rfl) | (rcases h with ⟨rfl, _⟩ | ⟨_, _, rfl, _⟩ <;> rfl)) (fun cdv A outer s H vs Q E hr h => ?_)
  obtain ⟨ds, d, hv, hR, q⟩ := h
  obtain ⟨p, t, rfl, hp, hl, ht, hsm, rfl⟩ := hR
  cases dvs2i hv
  refine ⟨_, (pss_cons (ps_set (i := 2) sc__last_times_of_1.nd rfl (.inl rfl) pe_int)
      (pss_cons (ps_set (i := 3) sc__last_times_of_1.nd rfl (.inl rfl) pe_int)
      (pss_cons (ps_while PassesOwn.never (pt_cmpR op_gt (pv 3) pe_int (nomark _)) (pss_cons (ps_asg (pe_cal C__led_back (hr.mono (by decide)) (by rfl) pass0 (pa_cons (pv 0) (pa_cons (pv 1) (pa_cons pe_int (pa_cons (pv 3) pa_nil))))) (pg_tup rfl (pgs_cons (pg_name (i := 4) sc__last_times_of_1.nd rfl (.inl rfl)) (pgs_cons (pg_name (i := 5) sc__last_times_of_1.nd rfl (.inl rfl)) pgs_nil))))
      (pss_one (ps_if (pt_chain op_lt op_lt pe_int (pv 5) (pv 4)) (pss_cons (ps_par (i := 0) (j := 1) rfl sc__last_times_of_1.nd rfl rfl (by decide) rfl rfl (pa_cons (pv 4) (pa_cons (pv 5) pa_nil)) (by rfl))
      (pss_cons (ps_aug (i := 2) sc__last_times_of_1.nd rfl (.inl rfl) (pv 3) ip_add)
      (pss_one (ps_aug (i := 3) sc__last_times_of_1.nd rfl (.inl rfl) pe_int ip_mulX)))) (pss_one (ps_aug (i := 3) sc__last_times_of_1.nd rfl (.inl rfl) pe_int ip_fdivP))))))
      (pss_one (ps_ret (pv 2)))))), ?_⟩
  refine q_asg ev_c fun H1 e1 => ?_
  refine q_asg ev_c fun H2 e2 => ?_
  refine q_while (fun μ σ' H' => ∃ (R leap : Nat) (x y : Option V), σ' = [some (.int (iter one R p).1), some (.int (iter one R p).2), some (.int ((t - R : Nat) : Int)), some (.int (leap : Int)), x, y] ∧ R ≤ t ∧ (leap = 0 → R = 0) ∧ leap ≤ 2000 ∧ Ex H H' ∧ μ = 2 * R + leap) (2 * t + 1)
    ⟨t, 1, none, none, by rw [Nat.sub_self]; rfl, Nat.le_refl _, fun z => by omega, by decide, e1.trans e2, rfl⟩ ?_
  rintro μ σ' H' ⟨R, leap, x, y, rfl, hR, h0, hleap, eH, rfl⟩
  refine ⟨decide (0 < (leap : Int)), et_test (ev_op (ev_var rfl) ev_c rv_I0), fun hb H3 e3 => ?_, fun hb H3 e3 => ?_⟩
  · have hb := of_decide_eq_true hb
    obtain ⟨g1, g2⟩ := ok_iter (ok_of hp) R
    have g1 : 0 < (iter one R p).2 := g1
    have g2 : (iter one R p).2 < (iter one R p).1 := g2
    have hup := iter_up (ok_of hp) R t hR
    have sm1 : Sm 95000 (iter one R p).1 := hsm.le (by omega) hup
    have sn1 : Sm 95000 (iter one R p).2 := hsm.le (by omega) (by omega)
    refine ⟨fun σ2 H2' => ∃ (R' leap' : Nat) (x y : Option V), σ2 = [some (.int (iter one R' p).1), some (.int (iter one R' p).2), some (.int ((t - R' : Nat) : Int)), some (.int (leap' : Int)), x, y] ∧ R' ≤ t ∧ (leap' = 0 → R' = 0) ∧ leap' ≤ 2000 ∧ Ex H H2' ∧ 2 * R' + leap' < 2 * R + leap, ?_, ?_⟩
    · rintro σ2 H2' ⟨R', leap', x, y, h1, h2, h3, h4, h5, h6⟩
      exact ⟨2 * R' + leap', h6, R', leap', x, y, h1, h2, h3, h4, h5, rfl⟩
    refine q_un2i (a := (iter un leap (iter one R p)).1) (b := (iter un leap (iter one R p)).2) (ed_call (eda_cons (ed_int (ev_var rfl)) (eda_cons (ed_int (ev_var rfl)) (eda_cons (ed_int ev_c) (eda_cons (ed_int (ev_var rfl)) eda_nil))))
      ⟨(iter one R p).1, (iter one R p).2, 1, leap, rfl, .inr (.inl rfl), fun _ => by omega, sm1, sn1, sm_nat (Nat.lt_of_le_of_lt hleap (Nat.lt_of_lt_of_le (by decide : 2000 < 2 ^ 11) (Nat.pow_le_pow_right (by decide) (by decide)))), rfl⟩) fun H4 e4 => ?_
    have key := leap_ok hp hl R leap
    have bk := back_iter (p := p) (t := R) (j := leap)
    generalize hq : iter un leap (iter one R p) = z at key bk
    refine s_if (et_test (ev_chain ev_c (ev_var rfl) rv_I0 (fun _ => ev_var rfl) fun _ => rv_I0)) (fun hb2 H5 e5 => ?_) fun hb2 H5 e5 => ?_
    · have hok : Ok2 z := by
        rw [Bool.and_eq_true] at hb2
        exact ⟨of_decide_eq_true hb2.1, of_decide_eq_true hb2.2⟩
      have hle := key.mp hok
      have ez := bk hle
      refine q_par (ea_cons (ev_var rfl) (ea_cons (ev_var rfl) ea_nil)) fun H6 e6 => ?_
      refine q_aug (f := fun i j => i + j) rfl (ev_var rfl) fun H7 e7 => ?_
      refine s_augI (C := CMulX) (f := fun i j => .int (i * j)) (b := 2) rfl ev_c (Sm.cm (a := 11) (sm_nat (Nat.lt_of_le_of_lt hleap (by decide))) sm2 (by decide)) fun H8 e8 => ?_
      refine ⟨R - leap, leap * 2, some (.int z.1), some (.int z.2), ?_, by omega, by omega, by omega, (((((eH.trans e3).trans e4).trans e5).trans e6).trans e7).trans e8, by omega⟩
      rw [← ez]
      have ea : ((t - R : Nat) : Int) + (leap : Int) = ((t - (R - leap) : Nat) : Int) := by omega
      have eb : (leap : Int) * 2 = ((leap * 2 : Nat) : Int) := by omega
      rw [← ea, ← eb]
      rfl
    · have hno : ¬ leap ≤ R := fun hle => by
        have h9 := key.mpr hle
        have : (decide (0 < z.2) && decide (z.2 < z.1)) = true := by rw [decide_eq_true h9.1, decide_eq_true h9.2]; rfl
        have hb2 : (decide (0 < z.2) && decide (z.2 < z.1)) = false := hb2
        rw [this] at hb2
        cases hb2
      refine s_augI (C := CDivP) (f := fun i j => .int (i / j)) (b := 2) rfl ev_c (divs (by decide) (by decide)) fun H6 e6 => ?_
      refine ⟨R, leap / 2, some (.int z.1), some (.int z.2), ?_, hR, by omega, by omega, (((eH.trans e3).trans e4).trans e5).trans e6, by omega⟩
      have eb : (leap : Int) / 2 = ((leap / 2 : Nat) : Int) := by omega
      rw [← eb]
      rfl
  · have hb := of_decide_eq_false hb
    have hl0 : leap = 0 := by omega
    have hR0 := h0 hl0
    subst hR0
    refine s_retD (K := K) (d := .int t) (ed_int (ev_is (ev_var rfl) ?_)) fun w H4 e4 hw => q w H4 ((eH.trans e3).trans e4) hw
    rw [Nat.sub_zero]

theorem ok__check_side {P : Program} {w : World} {K : PySem.W.Frag} {mg : Str → Option Value} {base : Heap}  {aR : Addr} {tL tM tA tZ : Tok} {e0 e1 e2 e3 e4 eT : Addr} {f : Addr} {fd : FuncData} (F : Fun K "_check_side" "_check_side" s__check_side f fd) (T : Txt K mg aR tL tM tA tZ e0 e1 e2 e3 e4 eT) (C_is_side : Cal P w K mg base CX0 "is_side" 2 P_is_side (spF K R_is_side)) :
    FnOk P w K mg base (L2.CX P w) 3 f fd P__check_side (spB K (B_side e4)) := by
  refine F.okX sc__check_side (spB_len (fun ds C h => by obtain ⟨_, rfl, _⟩ := h; rfl)) (fun cdv A outer s H vs Q E hr h => ?_)
  obtain ⟨ds, C, hv, hB, q⟩ := h
  obtain ⟨x, rfl, hb, rfl⟩ := hB
  obtain ⟨v, rfl, hx⟩ := dvs1 hv
  refine ⟨_, (pss_one (ps_if (pt_not (pt_val (pe_cal C_is_side (hr.mono (by decide)) (by rfl) pass0 (pa_cons (pv 0) pa_nil)))) (pss_one (ps_raise rfl (takes_of rfl rfl rfl rfl) (pmk_own PySem.F.excBase_ValueError T.x_BadNumber T.BadNumber T.k_BadNumber (raises_own T.b_BadNumber T.t_BadNumber) rfl))) pss_nil)), ?_⟩
  exact s_yes (et_is (et_not (et_B (ev_blD (ed_call (eda_cons (ed_var rfl hx) eda_nil) ⟨x, rfl, rfl⟩)))) (by rw [hb]; rfl)) fun H1 e1 => q H1 e1

theorem ok__law_row {P : Program} {w : World} {K : PySem.W.Frag} {mg : Str → Option Value} {base : Heap}  {aR : Addr} {tL tM tA tZ : Tok} {e0 e1 e2 e3 e4 eT : Addr} {f : Addr} {fd : FuncData} (F : Fun K "_law_row" "_law_row" s__law_row f fd) (T : Txt K mg aR tL tM tA tZ e0 e1 e2 e3 e4 eT) (C__law_value : Cal P w K mg base CX0 "_law_value" 2 P__law_value (spF K R__law_value)) :
    FnOk P w K mg base CX0 3 f fd P__law_row (spL K R__law_row) := by
  refine F.ok sc__law_row (spL_len fun ds es h => by
    first | (obtain ⟨_, rfl, _⟩ := h; rfl) | (obtain ⟨_, _, rfl, _⟩ := h; rfl) | (obtain ⟨_, _, _, rfl, _⟩ := h; rfl) | (obtain ⟨_, _, _, _, rfl, _⟩ := h; rfl) | (rcases h with ⟨rfl, _⟩ | ⟨_, _, rfl, _⟩ <;> rfl)) (fun cdv A outer s H vs Q E hr h => ?_)
  obtain ⟨ds, es, hv, hR, q⟩ := h
  obtain ⟨cells, b, rfl, hcells, hb, hcl, rfl⟩ := hR
  obtain ⟨v, w, rfl, hx, hw⟩ := dvs2 hv
  cases dvi hw
  refine ⟨_, (pss_cons (ps_par (i := 2) (j := 3) rfl sc__law_row.nd rfl rfl (by decide) rfl rfl (pa_cons (pe_lst pa_nil) (pa_cons pe_int pa_nil)) (by rfl))
      (pss_cons (ps_for PassesOwn.never rfl (pi_enum (by rfl) T.enumerate (pa_cons (pe_slice sl_list (pv 0) (po_some (pv 1)) (po_some (pe_op op_add (pv 1) pe_int))) pa_nil)) (pg_tup rfl (pgs_cons (pg_name (i := 4) sc__law_row.nd rfl (.inl rfl)) (pgs_cons (pg_name (i := 5) sc__law_row.nd rfl (.inl rfl)) pgs_nil))) (pss_cons (ps_set (i := 6) sc__law_row.nd rfl (.inl rfl) (pe_cal C__law_value (hr.mono (by decide)) (by rfl) pass0 (pa_cons (pv 5) (pa_cons (pe_op op_add (pv 4) (pv 1)) (pa_cons pe_int pa_nil)))))
      (pss_cons (ps_set (i := 7) sc__law_row.nd rfl (.inl rfl) (pe_ifExp (pt_cmpR op_eq (pv 3) pe_int (nomark _)) (pe_op op_mod (pv 6) pe_int) (pe_op op_mod (pe_op op_add (pe_op op_add (pv 3) pe_int) (pe_op op_mod (pv 6) pe_int)) pe_int)))
      (pss_cons (ps_set (i := 8) sc__law_row.nd rfl (.inl rfl) (pe_op op_add pe_int (pe_op op_mod (pe_op op_fdivP (pv 6) pe_int) (pe_ix (k_ixT (K := K) rfl) (pe_tup (pa_cons pe_int (pa_cons pe_int (pa_cons pe_int (pa_cons (pe_op op_pow pe_int pe_int) pa_nil))))) (pe_op op_mod (pe_op op_fdivP (pv 6) pe_int) pe_int) (fun _ _ => rfl)))))
      (pss_cons (ps_if (pt_cmpR op_eq (pv 7) pe_int (nomark _)) (pss_one (ps_set (i := 8) sc__law_row.nd rfl (.inl rfl) (pe_op op_add pe_int (pe_op op_mod (pe_op op_fdivP (pv 6) pe_int) (pe_ifExp (pt_cmpR op_gt (pe_op op_mod (pe_op op_fdivP (pv 6) pe_int) pe_int) pe_int (nomark _)) pe_int pe_int))))) pss_nil)
      (pss_cons (ps_expr (pe_bm PySem.F.plainAttrs_list PySem.F.slot_list_append PySem.F.type_list_append mt_append (pv 2) (pa_cons (pe_tup (pa_cons (pv 7) (pa_cons (pv 8) pa_nil))) pa_nil)))
      (pss_one (ps_set (i := 3) sc__law_row.nd rfl (.inl rfl) (pv 7)))))))))
      (pss_one (ps_ret (pv 2))))), ?_⟩
  have p40 : ∀ σ H, Ev (tOp (rI CPow fun i j => .int (i ^ j.toNat)) (tC (.int 10)) (tC (.int 40))) σ H (.int E40) := fun σ H => ev_is (ev_op ev_c ev_c (rv_I ⟨by decide, by decide, by decide⟩)) (congrArg V.int pow40)
  refine q_parLD (eld_lst (K := K) eda_nil (by show 0 ≤ 100000; decide)) (ed_int ev_c) fun l vs0 w0 H1 nl e1 hl hvs0 hw0 => ?_
  cases dvi hw0
  cases hvs0
  cases hx with
  | @lst a xs _ hp hxs =>
  have hxi : xs = cells.map V.int := by
    have key : ∀ (cs : List Int) (vs : List V), DVs K H vs (cs.map .int) → vs = cs.map V.int := by
      intro cs
      induction cs with
      | nil => intro vs h; cases h; rfl
      | cons c cs ih =>
        intro vs h
        cases h with
        | cons a b => rw [dvi a, ih _ b]; rfl
    exact key _ _ hxs
  subst hxi
  have hsl : EvL (tSl (rSlL K) (tVar 0) (tPart (tVar 1)) (tPart (tOp (rI0 fun i j => .int (i + j)) (tVar 1) (tC (.int 16))))) [some (.ref a), some (.int b), some (.ref l), some (.int 3), none, none, none, none, none] H1 (((cells.drop b).take 16).map V.int) := by
    have h := el_sl (K := K) (σ := [some (V.ref a), some (.int b), some (.ref l), some (.int 3), none, none, none, none, none]) (H := H1) (te := tVar 0) (xs := cells.map V.int) (ev_var rfl) (eo_some (ev_var (i := 1) rfl)) (eo_some (ev_op (ev_var (i := 1) rfl) (ev_c (v := .int 16)) (rv_I0 (g := fun i j => .int (i + j))))) (ex_l e1 hp)
    have e : cutV (cells.map V.int) (some (b : Int)) (some ((b : Int) + 16)) = ((cells.drop b).take 16).map V.int := by
      have h2 := cut_part (cells.map V.int) b 16
      rw [show ((b + 16 : Nat) : Int) = (b : Int) + 16 by omega] at h2
      show ((cells.map V.int).drop _).take _ = _
      rw [h2, ← List.map_drop, ← List.map_take]
    rw [e] at h
    exact h
  generalize hcs : (cells.drop b).take 16 = cs at hsl
  have hcs16 : cs.length ≤ 16 := by rw [← hcs, List.length_take]; omega
  have hcsm : ∀ c ∈ cs, Sm 1048577 c := fun c hc => hcells c (List.mem_of_mem_drop (List.mem_of_mem_take (by rw [hcs]; exact hc)))
  have hrow : lawRow cells b = lawRowFrom b 0 3 cs := by unfold lawRow; rw [hcs]
  rw [hrow] at q
  refine q_forEnum hsl (fun p k σ' H' => ∃ (vs : List V) (last : Int) (done : Row) (x1 x2 x3 x4 x5 : Option V), p ≠ l ∧ H' p = some (.lst (cs.map V.int)) ∧ σ' = [some (.ref a), some (.int b), some (.ref l), some (.int last), x1, x2, x3, x4, x5] ∧ (last = 0 ∨ last = 1 ∨ last = 2 ∨ last = 3) ∧ Ex H H' ∧ H' l = some (.lst vs) ∧ DVs K H' vs (done.map sd) ∧ vs.length ≤ k ∧ k ≤ cs.length ∧ lawRowFrom b 0 3 cs = done ++ lawRowFrom b k last (cs.drop k))
    (fun p H2 np e2 hp2 => ⟨[], 3, [], none, none, none, none, none, ?_, hp2, rfl, by omega, e1.trans e2, e2 _ _ hl, .nil, Nat.le_refl _, Nat.zero_le _, rfl⟩) (fun p k σ' H' P => ?_) (fun p k w σ' H' hk P H2 e2 => ?_) fun p σ' H' P => ?_
  · intro z
    rw [z, hl] at np
    cases np
  · obtain ⟨_, _, _, _, _, _, _, _, _, h, _⟩ := P
    exact sq_of h
  · obtain ⟨vs, last, done, x1, x2, x3, x4, x5, hpl, hp2, rfl, hlast, eH, hl', hvs, hvl, hkl, hrest⟩ := P
    rw [List.getElem?_map] at hk
    cases hck : cs[k]? with
    | none => rw [hck] at hk; cases hk
    | some c =>
    rw [hck] at hk
    have hk' : V.int c = w := Option.some.inj hk
    subst hk'
    have hklt := (List.getElem?_eq_some_iff.mp hck).1
    have hc := hcsm c (List.mem_of_getElem? hck)
    have hkb : Sm 64 ((k : Int) + (b : Int)) := by
      have : k + b < 2 ^ 64 := Nat.lt_of_le_of_lt (show k + b ≤ 79 by omega) (by decide)
      have h := sm_nat this
      rw [Int.natCast_add] at h
      exact h
    have ed : cs.drop k = c :: cs.drop (k + 1) := by
      rw [List.drop_eq_getElem_cons hklt]
      have := List.getElem?_eq_getElem hklt
      rw [hck] at this
      rw [← Option.some.inj this]
    rw [ed, lawRowFrom_cons] at hrest
    have hnn := lawValue_nn c ((k : Int) + b) (show (0 : Int) < 900000 by decide)
    have hlt := lawValue_lt c ((k : Int) + b) (show (0 : Int) < 900000 by decide) (by decide)
    refine q_asg (v := .int (lawValue c ((k : Int) + b) 900000)) (ev_intD (ed_call (eda_cons (ed_int (ev_var rfl)) (eda_cons (ed_int (ev_op (ev_var rfl) (ev_var rfl) rv_I0)) (eda_cons (ed_int ev_c) eda_nil))) ⟨c, _, _, rfl, hc, hkb, by decide, rfl⟩)) fun H3 e3 => ?_
    generalize hval : lawValue c ((k : Int) + b) 900000 = val at *
    obtain ⟨s1, s2⟩ := lawStep_ok last val hlast
    refine q_asg (v := .int (lawStep last val)) ?_ fun H4 e4 => ?_
    · refine ev_if (b := decide (last = 3)) (et_test (ev_op (ev_var rfl) ev_c rv_eqI)) (fun hb => ?_) fun hb => ?_
      · have e : lawStep last val = val % 3 := if_pos (of_decide_eq_true hb)
        rw [e]
        exact ev_op (ev_var rfl) ev_c (rv_I (by decide))
      · have e : lawStep last val = (last + 1 + val % 2) % 3 := if_neg (of_decide_eq_false hb)
        rw [e]
        exact ev_op (ev_op (ev_op (ev_var rfl) ev_c rv_I0) (ev_op (ev_var rfl) ev_c (rv_I (by decide))) rv_I0) ev_c (rv_I (by decide))
    obtain ⟨o1, o2, o3⟩ := lawOften_ok (lawStep last val) val hnn
    obtain ⟨g1, g2, g3⟩ := wayAt_get val
    generalize hst : lawStep last val = st at *
    refine q_asg (v := .int (1 + val / 3 % wayAt val)) ?_ fun H5 e5 => ?_
    · refine ev_op (x := .int 1) (y := .int (val / 3 % wayAt val)) ev_c ?_ (rv_I0 (g := fun i j => .int (i + j)))
      refine ev_op (x := .int (val / 3)) (y := .int (wayAt val)) ?_ ?_ (rv_I (g := fun i j => .int (i % j)) g2)
      · exact ev_op (ev_var rfl) ev_c (rv_I (divs (by decide) (by decide)))
      · refine ev_intD (ed_ixT (j := (val / 7 % 4).toNat) (i := val / 7 % 4) (d := .int (wayAt val)) (ds := ([2, 7, 900000, E40] : List Int).map .int) (ed_tup ?_ (by show 4 ≤ 100000; decide)) ?_ (by omega) (by rw [List.getElem?_map, g1]; rfl))
        · exact eda_cons (ed_int ev_c) (eda_cons (ed_int ev_c) (eda_cons (ed_int ev_c) (eda_cons (ed_int (p40 _ _)) eda_nil)))
        · exact ev_op (ev_op (ev_var rfl) ev_c (rv_I (divs (by decide) (by decide)))) ev_c (rv_I (by decide))
    refine q_ifAsg (i := 8) (v := .int (lawOften st val)) (et_test (ev_op (ev_var rfl) ev_c rv_eqI)) (fun hb => ?_) (fun hb => ?_) fun H6 e6 => ?_
    · have hb := of_decide_eq_true hb
      have e : lawOften st val = 1 + val / 5 % (if 0 < val / 11 % 40 then 4 else 1000) := if_pos hb
      rw [e]
      refine ev_op ev_c (ev_op (ev_op (ev_var rfl) ev_c (rv_I (divs (by decide) (by decide)))) (ev_if (v := .int (if 0 < val / 11 % 40 then 4 else 1000)) (et_test (ev_op (ev_op (ev_op (ev_var rfl) ev_c (rv_I (divs (by decide) (by decide)))) ev_c (rv_I (by decide))) ev_c rv_I0)) (fun hb => ?_) fun hb => ?_) (rv_I (by show (0 : Int) < if 0 < val / 11 % 40 then 4 else 1000; split <;> decide))) rv_I0
      · rw [if_pos (of_decide_eq_true hb)]; exact ev_c
      · rw [if_neg (of_decide_eq_false hb)]; exact ev_c
    · have hb := of_decide_eq_false hb
      have e : lawOften st val = 1 + val / 3 % wayAt val := if_neg hb
      rw [e]
      rfl
    generalize hof : lawOften st val = of' at *
    have e26 := (((e2.trans e3).trans e4).trans e5).trans e6
    refine q_appU (xs := vs) (ys := [.int st, .int of']) (e26 _ _ hl') (ev_var rfl) (eu_tup (ea_cons (ev_var rfl) (ea_cons (ev_var rfl) ea_nil)) (by show 2 ≤ 100000; decide)) (by omega) fun p' H7 np' e7 hp' => ?_
    have hl7 : H7 l = some (.lst vs) := e7 _ _ (e26 _ _ hl')
    refine s_asg (ev_var rfl) fun H8 e8 => ?_
    refine ⟨vs ++ [.ref p'], st, done ++ [(st, of'.toNat)], some (.int k), some (.int c), some (.int val), some (.int st), some (.int of'), hpl, ?_, rfl, ?_, ?_, e8 _ _ upd_same, ?_, ?_, by omega, ?_⟩
    · exact e8 _ _ (by rw [upd_ne hpl]; exact e7 _ _ (e26 _ _ hp2))
    · unfold Step at s1
      omega
    · exact (Ex.mut ((eH.trans e26).trans e7) nl).trans e8
    · rw [List.map_append]
      refine DVs.ex (DVs.append ?_ (.cons ?_ .nil)) e8
      · exact dvs_ints (f := fun x : Int × Nat => [x.1, (x.2 : Int)]) (fun a xs h => sqT_upd hl7 h) (hvs.ex (e26.trans e7))
      · have eo : ((of'.toNat : Nat) : Int) = of' := by omega
        show DV K _ (.ref p') (.tuple [.int st, .int ((of'.toNat : Nat) : Int)])
        rw [eo]
        exact dv_ints (is := [st, of']) (fun a xs h => sqT_upd hl7 h) (.tup (st_of hp') (.cons (.int st) (.cons (.int of') .nil)))
    · rw [List.length_append, List.length_singleton]
      omega
    · rw [hrest, List.append_assoc]
      rfl
  · obtain ⟨vs, last, done, x1, x2, x3, x4, x5, hpl, hp2, rfl, hlast, eH, hl', hvs, hvl, hkl, hrest⟩ := P
    rw [List.length_map, List.drop_length] at hrest
    have hd : lawRowFrom b 0 3 cs = done := by rw [hrest, lawRowFrom_nil, List.append_nil]
    rw [hd] at q
    exact s_ret (ev_var rfl) fun H2 e2 => q l vs H2 nl (eH.trans e2) (e2 _ _ hl') (hvs.ex e2)

theorem ok_triple_of {P : Program} {w : World} {K : PySem.W.Frag} {mg : Str → Option Value} {base : Heap}  {aR : Addr} {tL tM tA tZ : Tok} {e0 e1 e2 e3 e4 eT : Addr} {f : Addr} {fd : FuncData} (F : Fun K "triple_of" "triple_of" s_triple_of f fd) (T : Txt K mg aR tL tM tA tZ e0 e1 e2 e3 e4 eT) (C_is_pair : Cal P w K mg base CX0 "is_pair" 3 P_is_pair (spF K R_is_pair)) :
    FnOk P w K mg base (L2.CX P w) 4 f fd P_triple_of (spB K (B_triple_of e1)) := by
  refine F.okX sc_triple_of (spB_len (fun ds C h => by obtain ⟨_, rfl, _⟩ := h; rfl)) (fun cdv A outer s H vs Q E hr h => ?_)
  obtain ⟨ds, C, hv, hB, q⟩ := h
  obtain ⟨x, rfl, ⟨hz, hb⟩, rfl⟩ := hB
  obtain ⟨v, rfl, hx⟩ := dvs1 hv
  refine ⟨_, (pss_cons (ps_if (pt_not (pt_val (pe_cal C_is_pair (hr.mono (by decide)) (by rfl) pass0 (pa_cons (pv 0) pa_nil)))) (pss_one (ps_raise rfl (takes_of rfl rfl rfl rfl) (pmk_own PySem.F.excBase_ValueError T.x_BadPair T.BadPair T.k_BadPair (raises_own T.b_BadPair T.t_BadPair) rfl))) pss_nil)
      (pss_cons ps_never
      (pss_one ps_never))), ?_⟩
  exact q_taken (et_is (et_not (et_B (ev_blD (ed_call (eda_cons (ed_var rfl hx) eda_nil) ⟨x, rfl, hz, rfl⟩)))) (by rw [hb]; rfl)) fun H1 e1 => q H1 e1

theorem ok__is_row {P : Program} {w : World} {K : PySem.W.Frag} {mg : Str → Option Value} {base : Heap}  {aR : Addr} {tL tM tA tZ : Tok} {e0 e1 e2 e3 e4 eT : Addr} {f : Addr} {fd : FuncData} (F : Fun K "_is_row" "_is_row" s__is_row f fd) (T : Txt K mg aR tL tM tA tZ e0 e1 e2 e3 e4 eT) (C__is_part : Cal P w K mg base CX0 "_is_part" 3 P__is_part (spF K R__is_part)) :
    FnOk P w K mg base CX0 4 f fd P__is_row (spF K R__is_row) := by
  refine F.ok sc__is_row (spF_len fun ds d h => by
    first | (obtain ⟨_, rfl, _⟩ := h; rfl) | (obtain ⟨_, _, rfl, _⟩ := h; rfl) | (obtain ⟨_, _, _, rfl, _⟩ := h; rfl) | (obtain ⟨_, _, _, _, rfl, _⟩ := h; rfl) | (rcases h with ⟨rfl, _⟩ | ⟨_, _, rfl, _⟩ <;> rfl)) (fun cdv A outer s H vs Q E hr h => ?_)
  obtain ⟨ds, d, hv, hR, q⟩ := h
  obtain ⟨x, rfl, hz, rfl⟩ := hR
  obtain ⟨v, rfl, hx⟩ := dvs1 hv
  refine ⟨_, (pss_cons (ps_if (PW.pt (pw_or (pt_not (pt_val (pe_callB (k_isi (K := K) rfl) (by rfl) T.isinstance (by decide +kernel) (pa_cons (pv 0) (pa_cons (pe_bltn (v := .ty "list") (u := .type "list") (by rfl) T.list (by decide +kernel) rfl) pa_nil))))) (pw_or1 (pt_cmpR op_gt (pe_callB (k_len (K := K) rfl) (by rfl) T.len (by decide +kernel) (pa_cons (pv 0) pa_nil)) (pe_glob (v := .int 200) (by rfl) T.LONGEST_ROW ⟨_, rfl⟩) (nomark _))))) (pss_one (ps_ret pe_bl)) pss_nil)
      (pss_cons (ps_if (pt_not (pt_val (pe_callB (k_all (K := K) rfl rfl) (by rfl) T.all (by decide +kernel) (pa_cons (pe_lc (own := [("part", 1)]) rfl sc__is_row.nd (pi_list (pv 0)) (blkOk_by (own := [("part", 1)]) (N := N__is_row) (sc := defScope s__is_row) (by decide +kernel)) (fun _ _ _ _ _ => (pg_name (i := 1) sc__is_row.nd rfl (.inl rfl))) (fun _ _ _ _ _ => pts_nil) (fun _ _ _ _ _ => (pe_cal C__is_part (hr.mono (by decide)) (by rfl) pass0 (pa_cons (pv 1) pa_nil)))) pa_nil)))) (pss_one (ps_ret pe_bl)) pss_nil)
      (pss_one (ps_ret (pe_callB (k_all (K := K) rfl rfl) (by rfl) T.all (by decide +kernel) (pa_cons (pe_lc (own := [("at", 2)]) rfl sc__is_row.nd (pi_range2 (by rfl) T.range (pa_cons pe_int (pa_cons (pe_callB (k_len (K := K) rfl) (by rfl) T.len (by decide +kernel) (pa_cons (pv 0) pa_nil)) pa_nil))) (blkOk_by (own := [("at", 2)]) (N := N__is_row) (sc := defScope s__is_row) (by decide +kernel)) (fun _ _ _ _ _ => (pg_name (i := 2) sc__is_row.nd rfl (.inl rfl))) (fun _ _ _ _ _ => pts_nil) (fun _ _ _ _ _ => (pe_cmpR op_ne (pe_ix (k_ixT (K := K) rfl) (pe_ix (k_ixL (K := K) rfl) (pv 0) (pe_op op_sub (pv 2) pe_int) (fun _ _ => rfl)) pe_int (fun _ _ => rfl)) (pe_ix (k_ixT (K := K) rfl) (pe_ix (k_ixL (K := K) rfl) (pv 0) (pv 2) (fun _ _ => rfl)) pe_int (fun _ _ => rfl)) (nomark _)))) pa_nil)))))), ?_⟩
  cases hl : isList x with
  | false =>
    have e : isRowD x = false := by cases x <;> first | rfl | cases hl
    rw [e] at q
    refine q_taken (et_is (et_or (et_not (et_B (ev_isi (ed_var rfl hx) (kit_list x)))) (b := false) fun z => by rw [hl] at z; cases z) (by rw [hl]; rfl)) fun H1 e => ?_
    exact s_retD (ed_bl ev_c) fun w H2 e2 hw => q w H2 (e.trans e2) hw
  | true =>
    obtain ⟨xs, rfl⟩ := isList_yes hl
    obtain ⟨z1, z2⟩ := hz xs rfl
    have h1 := et_or (et_not (et_B (ev_isi (K := K) (ed_var (σ := start N__is_row [v]) (i := 0) rfl hx) (kit_list (.list xs))))) fun _ => et_test (ev_op (ev_lenL (ed_var (σ := start N__is_row [v]) (i := 0) rfl hx)) (ev_c (v := .int 200)) (rv_I0 (g := fun i j => .bl (decide (j < i)))))
    by_cases hlen : (xs.length : Int) ≤ 200
    · refine q_pass (et_is h1 ?_) fun H1 e1 => ?_
      · show (!true || decide ((200 : Int) < xs.length)) = false
        rw [decide_eq_false (by omega)]; rfl
      have h2 : ∀ H', Ex H1 H' → EvT _ (start N__is_row [v]) H' (!xs.all isPartD) := fun H' e' => et_not (et_B (all_lcL (te := tCall (spF K R__is_part) [] E0 (tCons (tVar 1) tNil)) (tl := tVar 0) (j := 1) (vs := [1]) isPartD (ed_var rfl (hx.ex (e1.trans e'))) z1 (fun _ => rfl) fun d x H1 e hd hv => ev_blD (ed_call (eda_cons (ed_var rfl hv) eda_nil) ⟨d, rfl, z2 d hd, rfl⟩)))
      cases hp : xs.all isPartD with
      | false =>
        have e : isRowD (.list xs) = false := by
          show (decide ((xs.length : Int) ≤ 200) && (xs.all isPartD && _)) = false
          rw [hp, Bool.false_and, Bool.and_false]
        rw [e] at q
        have h3 := h2 H1 (Ex.refl _)
        rw [hp] at h3
        exact q_taken h3 fun H2 e2 => s_retD (ed_bl ev_c) fun w H3 e3 hw => q w H3 ((e1.trans e2).trans e3) hw
      | true =>
        have h3 := h2 H1 (Ex.refl _)
        rw [hp] at h3
        refine q_pass h3 fun H2 e2 => ?_
        have e : isRowD (.list xs) = (List.range (xs.length - 1)).all fun i => !decide (firstD (xs.getD i .none) = firstD (xs.getD (i + 1) .none)) := by
          show (decide ((xs.length : Int) ≤ 200) && (xs.all isPartD && _)) = _
          rw [hp, decide_eq_true hlen]; rfl
        rw [e] at q
        refine s_retD (K := K) (ed_bl ?_) fun w H3 e3 hw => q w H3 ((e1.trans e2).trans e3) hw
        have hget : ∀ i, i < xs.length → ∃ s' t, xs[i]? = some (.tuple [.int s', .int t]) ∧ firstD (xs.getD i .none) = s' := fun i hi => by
          have h4 : xs[i]? = some xs[i] := List.getElem?_eq_getElem hi
          obtain ⟨s', t, h5, _⟩ := isPartD_yes (List.all_eq_true.mp hp xs[i] (List.getElem_mem hi))
          refine ⟨s', t, by rw [h4, h5], ?_⟩
          rw [List.getD, h4, h5]; rfl
        refine all_lcR2 (lo := 1) (hi := (xs.length : Int)) (n := xs.length - 1) (fun i => !decide (firstD (xs.getD i .none) = firstD (xs.getD (i + 1) .none))) (ea_cons ev_c (ea_cons (ev_lenL (ed_var rfl (hx.ex (e1.trans e2)))) ea_nil)) (by omega) (by omega) (fun _ => rfl) fun i H3 e3 hi => ?_
        obtain ⟨a, t1, ga, fa⟩ := hget i (by omega)
        obtain ⟨b, t2, gb, fb⟩ := hget (i + 1) (by omega)
        rw [fa, fb]
        have hx3 := hx.ex ((e1.trans e2).trans e3)
        refine ev_op (x := .int a) (y := .int b) (ev_intD (ed_ixT (j := 0) (ed_ixL (j := i) (ed_var rfl hx3) (ev_is (ev_op (ev_var rfl) ev_c rv_I0) rfl) (by omega) ga) ev_c rfl rfl)) (ev_intD (ed_ixT (j := 0) (ed_ixL (j := i + 1) (ed_var rfl hx3) (ev_var rfl) (by omega) gb) ev_c rfl rfl)) rv_neI
    · have e : isRowD (.list xs) = false := by
        show (decide ((xs.length : Int) ≤ 200) && _) = false
        rw [decide_eq_false hlen]; rfl
      rw [e] at q
      refine q_taken (et_is h1 ?_) fun H1 e1 => ?_
      · show (!true || decide ((200 : Int) < xs.length)) = true
        rw [decide_eq_true (by omega)]; rfl
      exact s_retD (ed_bl ev_c) fun w H2 e2 hw => q w H2 (e1.trans e2) hw

theorem ok_longest {P : Program} {w : World} {K : PySem.W.Frag} {mg : Str → Option Value} {base : Heap}  {aR : Addr} {tL tM tA tZ : Tok} {e0 e1 e2 e3 e4 eT : Addr} {f : Addr} {fd : FuncData} (F : Fun K "longest" "longest" s_longest f fd) (T : Txt K mg aR tL tM tA tZ e0 e1 e2 e3 e4 eT) (C__check_side : Cal P w K mg base (L2.CX P w) "_check_side" 3 P__check_side (spB K (B_side e4))) :
    FnOk P w K mg base (L2.CX P w) 4 f fd P_longest (spB K (B_side e4)) := by
  refine F.okX sc_longest (spB_len (fun ds C h => by obtain ⟨_, rfl, _⟩ := h; rfl)) (fun cdv A outer s H vs Q E hr h => ?_)
  obtain ⟨ds, C, hv, hB, q⟩ := h
  refine ⟨_, (pss_cons (ps_expr (pe_cal C__check_side (hr.mono (by decide)) (by rfl) (passX (takes_of rfl rfl rfl rfl)) (pa_cons (pv 0) pa_nil)))
      (pss_cons ps_never
      (pss_cons ps_never
      (pss_one ps_never)))), ?_⟩
  obtain ⟨x, rfl, hb, rfl⟩ := hB
  obtain ⟨v, rfl, hx⟩ := dvs1 hv
  exact x_drop fun Q => x_callB (eda_cons (ed_var rfl hx) eda_nil) ⟨x, rfl, hb, rfl⟩ q

theorem ok_leg {P : Program} {w : World} {K : PySem.W.Frag} {mg : Str → Option Value} {base : Heap}  {aR : Addr} {tL tM tA tZ : Tok} {e0 e1 e2 e3 e4 eT : Addr} {f : Addr} {fd : FuncData} (F : Fun K "leg" "leg" s_leg f fd) (T : Txt K mg aR tL tM tA tZ e0 e1 e2 e3 e4 eT) (C__check_side : Cal P w K mg base (L2.CX P w) "_check_side" 3 P__check_side (spB K (B_side e4))) :
    FnOk P w K mg base (L2.CX P w) 4 f fd P_leg (spB K (B_side e4)) := by
  refine F.okX sc_leg (spB_len (fun ds C h => by obtain ⟨_, rfl, _⟩ := h; rfl)) (fun cdv A outer s H vs Q E hr h => ?_)
  obtain ⟨ds, C, hv, hB, q⟩ := h
  refine ⟨_, (pss_cons (ps_expr (pe_cal C__check_side (hr.mono (by decide)) (by rfl) (passX (takes_of rfl rfl rfl rfl)) (pa_cons (pv 0) pa_nil)))
      (pss_cons ps_never
      (pss_one ps_never))), ?_⟩
  obtain ⟨x, rfl, hb, rfl⟩ := hB
  obtain ⟨v, rfl, hx⟩ := dvs1 hv
  exact x_drop fun Q => x_callB (eda_cons (ed_var rfl hx) eda_nil) ⟨x, rfl, hb, rfl⟩ q

theorem ok_by_row {P : Program} {w : World} {K : PySem.W.Frag} {mg : Str → Option Value} {base : Heap}  {aR : Addr} {tL tM tA tZ : Tok} {e0 e1 e2 e3 e4 eT : Addr} {f : Addr} {fd : FuncData} (F : Fun K "by_row" "by_row" s_by_row f fd) (T : Txt K mg aR tL tM tA tZ e0 e1 e2 e3 e4 eT) (C__is_row : Cal P w K mg base CX0 "_is_row" 4 P__is_row (spF K R__is_row)) (C__led : Cal P w K mg base CX0 "_led" 2 P__led (spF K R__led)) (C_formed : Cal P w K mg base CX0 "formed" 1 P_formed (spF K R_formed)) :
    FnOk P w K mg base (L2.CX P w) 5 f fd P_by_row (spX K R_by_row (B_by_row e3)) := by
  refine F.okX sc_by_row (spX_len (fun ds d h => by obtain ⟨_, rfl, _⟩ := h; rfl) (fun ds C h => by obtain ⟨_, rfl, _⟩ := h; rfl)) (fun cdv A outer s H vs Q E hr h => ?_)
  refine ⟨_, (pss_cons (ps_if (pt_not (pt_val (pe_cal C__is_row (hr.mono (by decide)) (by rfl) pass0 (pa_cons (pv 0) pa_nil)))) (pss_one (ps_raise rfl (takes_of rfl rfl rfl rfl) (pmk_own PySem.F.excBase_ValueError T.x_BadRow T.BadRow T.k_BadRow (raises_own T.b_BadRow T.t_BadRow) rfl))) pss_nil)
      (pss_cons (ps_asg (pe_glob (v := .ref aR) (by rfl) T.ROOT rfl) (pg_tup rfl (pgs_cons (pg_name (i := 1) sc_by_row.nd rfl (.inl rfl)) (pgs_cons (pg_name (i := 2) sc_by_row.nd rfl (.inl rfl)) pgs_nil))))
      (pss_cons (ps_for (passes_of rfl) rfl (pi_list (pv 0)) (pg_tup rfl (pgs_cons (pg_name (i := 3) sc_by_row.nd rfl (.inl rfl)) (pgs_cons (pg_name (i := 4) sc_by_row.nd rfl (.inl rfl)) pgs_nil))) (pss_one (ps_asg (pe_cal C__led (hr.mono (by decide)) (by rfl) pass0 (pa_cons (pv 1) (pa_cons (pv 2) (pa_cons (pv 3) (pa_cons (pv 4) pa_nil))))) (pg_tup rfl (pgs_cons (pg_name (i := 1) sc_by_row.nd rfl (.inl rfl)) (pgs_cons (pg_name (i := 2) sc_by_row.nd rfl (.inl rfl)) pgs_nil))))))
      (pss_one (ps_ret (pe_cal C_formed (hr.mono (by decide)) (by rfl) pass0 (pa_cons (pv 1) (pa_cons (pv 2) pa_nil)))))))), ?_⟩
  rcases h with ⟨ds, d, hv, hR, q⟩ | ⟨ds, C, hv, hB, q⟩
  · obtain ⟨r, rfl, hr', rfl⟩ := hR
    obtain ⟨v, rfl, hx⟩ := dvs1 hv
    obtain ⟨hgood, hlen, hfew, hsm⟩ := hr'
    refine q_pass (et_is (et_not (et_B (ev_blD (ed_call (eda_cons (ed_var rfl hx) eda_nil) ⟨rd r, rfl, szL_rd (Nat.le_trans hlen (by decide)), rfl⟩)))) ?_) fun H1 e1 => ?_
    · rw [isRowD_rd hgood hlen]; rfl
    refine q_un2i (a := 2) (b := 1) (ed_of ev_c (dv_root (T.rootT _))) fun H2 e2 => ?_
    refine q_forP (v := v) (xs := r.map fun x => (x.1, (x.2 : Int))) rfl (by rw [List.map_map]; exact hx.ex (e1.trans e2)) (fun k σ' H' => ∃ x y, σ' = [some v, some (.int (behind root (r.take k)).1), some (.int (behind root (r.take k)).2), x, y] ∧ Ex H2 H') ⟨none, none, rfl, Ex.refl _⟩ (fun k σ' H' p => by obtain ⟨_, _, _, e⟩ := p; exact e) (fun k a b σ' H' hk p => ?_) fun σ' H' p => ?_
    · obtain ⟨x, y, rfl, e3⟩ := p
      rw [List.getElem?_map] at hk
      cases hrk : r[k]? with
      | none => rw [hrk] at hk; cases hk
      | some st =>
        rw [hrk] at hk
        obtain ⟨s', t⟩ := st
        have hk' := Option.some.inj hk
        cases hk'
        obtain ⟨a1, a2, a3⟩ := hgood.at hrk
        have up := behind_take_up r k
        have ok := behind_ok (ok_of root_pair) (r.take k)
        obtain ⟨g1, g2⟩ := ok
        have s1 : Sm 80000 (behind root (r.take k)).1 := hsm.le (by omega) up
        have s2 : Sm 80000 (behind root (r.take k)).2 := s1.le (by omega) (by omega)
        refine s_un2i (a := (led (behind root (r.take k)) s' t).1) (b := (led (behind root (r.take k)) s' t).2) (ed_call (eda_cons (ed_int (ev_var rfl)) (eda_cons (ed_int (ev_var rfl)) (eda_cons (ed_int (ev_var rfl)) (eda_cons (ed_int (ev_var rfl)) eda_nil)))) ⟨_, _, s', t, rfl, a1, fun z => Nat.le_trans (a3 z) (by decide), s1.up (by decide), s2.up (by decide), sm_nat (Nat.lt_of_lt_of_le (hfew _ (List.mem_of_getElem? hrk)) (Nat.pow_le_pow_right (by decide) (by decide))), rfl⟩) fun H4 e4 => ?_
        refine ⟨some (.int s'), some (.int t), ?_, e3.trans e4⟩
        rw [take_snoc hrk, behind_snoc]
        rfl
    · obtain ⟨x, y, rfl, e3⟩ := p
      rw [List.length_map, List.take_length]
      obtain ⟨g1, g2⟩ := behind_ok (ok_of root_pair) r
      have s2 : Sm 80000 (behind root r).2 := hsm.le (by omega) (by omega)
      exact s_retD (ed_call (eda_cons (ed_int (ev_var rfl)) (eda_cons (ed_int (ev_var rfl)) eda_nil)) ⟨_, _, rfl, hsm.up (by decide), s2.up (by decide), rfl⟩) fun w H4 e4 hw => q w H4 (((e1.trans e2).trans e3).trans e4) hw
  · obtain ⟨x, rfl, ⟨hz, hb⟩, rfl⟩ := hB
    obtain ⟨v, rfl, hx⟩ := dvs1 hv
    exact q_taken (et_is (et_not (et_B (ev_blD (ed_call (eda_cons (ed_var rfl hx) eda_nil) ⟨x, rfl, hz, rfl⟩)))) (by rw [hb]; rfl)) fun H1 e1 => q H1 e1

theorem ok__law_with_pair {P : Program} {w : World} {K : PySem.W.Frag} {mg : Str → Option Value} {base : Heap}  {aR : Addr} {tL tM tA tZ : Tok} {e0 e1 e2 e3 e4 eT : Addr} {f : Addr} {fd : FuncData} (F : Fun K "_law_with_pair" "_law_with_pair" s__law_with_pair f fd) (T : Txt K mg aR tL tM tA tZ e0 e1 e2 e3 e4 eT) (C_triple_of : Cal P w K mg base (L2.CX P w) "triple_of" 4 P_triple_of (spB K (B_triple_of e1))) :
    FnOk P w K mg base (L2.CX P w) 5 f fd P__law_with_pair (spB K (BAsk (Cse e0 e1 e2 e3 e4) 1)) := by
  refine F.okX sc__law_with_pair (spB_len (fun ds C h => by obtain ⟨_, _, rfl, _⟩ := h; rfl)) (fun cdv A outer s H vs Q E hr h => ?_)
  obtain ⟨ds, C, hv, hB, q⟩ := h
  refine ⟨_, (pss_one (ps_ret (pe_cal C_triple_of (hr.mono (by decide)) (by rfl) (passX (takes_of rfl rfl rfl rfl)) (pa_cons (pv 1) pa_nil)))), ?_⟩
  obtain ⟨y, x, rfl, rfl, hB⟩ := hB
  obtain ⟨v, w', rfl, hy, hx⟩ := dvs2 hv

  exact x_ret fun Q => x_callB (eda_cons (ed_var rfl hx) eda_nil) ⟨x, rfl, hB, rfl⟩ q

theorem ok__law_with_number {P : Program} {w : World} {K : PySem.W.Frag} {mg : Str → Option Value} {base : Heap}  {aR : Addr} {tL tM tA tZ : Tok} {e0 e1 e2 e3 e4 eT : Addr} {f : Addr} {fd : FuncData} (F : Fun K "_law_with_number" "_law_with_number" s__law_with_number f fd) (T : Txt K mg aR tL tM tA tZ e0 e1 e2 e3 e4 eT) (C_longest : Cal P w K mg base (L2.CX P w) "longest" 4 P_longest (spB K (B_side e4))) (C_leg : Cal P w K mg base (L2.CX P w) "leg" 4 P_leg (spB K (B_side e4))) :
    FnOk P w K mg base (L2.CX P w) 5 f fd P__law_with_number (spB K (BAsk (Cse e0 e1 e2 e3 e4) 4)) := by
  refine F.okX sc__law_with_number (spB_len (fun ds C h => by obtain ⟨_, _, rfl, _⟩ := h; rfl)) (fun cdv A outer s H vs Q E hr h => ?_)
  obtain ⟨ds, C, hv, hB, q⟩ := h
  refine ⟨_, (pss_one (ps_ret (pe_ifExp (pt_cmpR op_eq (pv 0) pe_int (nomark _)) (pe_cal C_longest (hr.mono (by decide)) (by rfl) (passX (takes_of rfl rfl rfl rfl)) (pa_cons (pv 1) pa_nil)) (pe_cal C_leg (hr.mono (by decide)) (by rfl) (passX (takes_of rfl rfl rfl rfl)) (pa_cons (pv 1) pa_nil))))), ?_⟩
  obtain ⟨y, x, rfl, rfl, hB⟩ := hB
  obtain ⟨v, w', rfl, hy, hx⟩ := dvs2 hv

  obtain ⟨g, rfl, hb⟩ := hB
  cases dvi hy
  have h2 : EvT (tTest (tOp rEq (tVar 0) (tC (.int 0)))) (start N__law_with_number [.int g, w']) H (decide (g = 0)) := et_test (ev_op (ev_var rfl) ev_c rv_eqI)
  by_cases h0 : g = 0
  · exact x_ret fun Q => x_ifT (et_is h2 (decide_eq_true h0)) fun H2 e2 => x_callB (eda_cons (ed_var rfl (hx.ex e2)) eda_nil) ⟨x, rfl, hb, rfl⟩ fun H3 e3 => q H3 (e2.trans e3)
  · exact x_ret fun Q => x_ifF (et_is h2 (decide_eq_false h0)) fun H2 e2 => x_callB (eda_cons (ed_var rfl (hx.ex e2)) eda_nil) ⟨x, rfl, hb, rfl⟩ fun H3 e3 => q H3 (e2.trans e3)

theorem ok__law_with_row {P : Program} {w : World} {K : PySem.W.Frag} {mg : Str → Option Value} {base : Heap}  {aR : Addr} {tL tM tA tZ : Tok} {e0 e1 e2 e3 e4 eT : Addr} {f : Addr} {fd : FuncData} (F : Fun K "_law_with_row" "_law_with_row" s__law_with_row f fd) (T : Txt K mg aR tL tM tA tZ e0 e1 e2 e3 e4 eT) (C_by_row : Cal P w K mg base (L2.CX P w) "by_row" 5 P_by_row (spX K R_by_row (B_by_row e3))) :
    FnOk P w K mg base (L2.CX P w) 6 f fd P__law_with_row (spB K (BAsk (Cse e0 e1 e2 e3 e4) 3)) := by
  refine F.okX sc__law_with_row (spB_len (fun ds C h => by obtain ⟨_, _, rfl, _⟩ := h; rfl)) (fun cdv A outer s H vs Q E hr h => ?_)
  obtain ⟨ds, C, hv, hB, q⟩ := h
  refine ⟨_, (pss_one (ps_ret (pe_cal C_by_row (hr.mono (by decide)) (by rfl) (passX (takes_of rfl rfl rfl rfl)) (pa_cons (pv 1) pa_nil)))), ?_⟩
  obtain ⟨y, x, rfl, rfl, hB⟩ := hB
  obtain ⟨v, w', rfl, hy, hx⟩ := dvs2 hv

  exact x_ret fun Q => x_call (eda_cons (ed_var rfl hx) eda_nil) ⟨x, rfl, hB, rfl⟩ q

theorem ok_pair_of {P : Program} {w : World} {K : PySem.W.Frag} {mg : Str → Option Value} {base : Heap}  {aR : Addr} {tL tM tA tZ : Tok} {e0 e1 e2 e3 e4 eT : Addr} {f : Addr} {fd : FuncData} (F : Fun K "pair_of" "pair_of" s_pair_of f fd) (T : Txt K mg aR tL tM tA tZ e0 e1 e2 e3 e4 eT) (hS : base.NoSeer) (ht : P.given.tree = none) (C_are_whole : Cal P w K mg base CX0 "are_whole" 2 P_are_whole (spF K R_are_whole)) (C_formed : Cal P w K mg base CX0 "formed" 1 P_formed (spF K R_formed)) (C_is_pair : Cal P w K mg base CX0 "is_pair" 3 P_is_pair (spF K R_is_pair)) :
    FnOk P w K mg base (L2.CX P w) 33 f fd P_pair_of (spX K R_pair_of (B_pair_of e0)) := by
  refine F.okX sc_pair_of (spX_len (fun ds d h => by obtain ⟨_, rfl, _⟩ := h; rfl) (fun ds C h => by obtain ⟨_, rfl, _⟩ := h; rfl)) (fun cdv A outer s H vs Q E hr h => ?_)
  refine ⟨_, (pss_cons (ps_if (pt_not (pt_val (pe_cal C_are_whole (hr.mono (by decide)) (by rfl) pass0 (pa_cons (pv 0) (pa_cons pe_int pa_nil))))) (pss_one (ps_raise rfl (takes_of rfl rfl rfl rfl) (pmk_own PySem.F.excBase_ValueError T.x_BadTriple T.BadTriple T.k_BadTriple (raises_own T.b_BadTriple T.t_BadTriple) rfl))) pss_nil)
      (pss_cons (ps_asg (pv 0) (pg_tup rfl (pgs_cons (pg_name (i := 1) sc_pair_of.nd rfl (.inl rfl)) (pgs_cons (pg_name (i := 2) sc_pair_of.nd rfl (.inl rfl)) (pgs_cons (pg_name (i := 3) sc_pair_of.nd rfl (.inl rfl)) pgs_nil)))))
      (pss_cons (ps_if (pt_not (pt_chain op_lt op_lt pe_int (pv 1) (pv 3))) (pss_one (ps_raise rfl (takes_of rfl rfl rfl rfl) (pmk_own PySem.F.excBase_ValueError T.x_BadTriple T.BadTriple T.k_BadTriple (raises_own T.b_BadTriple T.t_BadTriple) rfl))) pss_nil)
      (pss_cons (ps_set (i := 4) sc_pair_of.nd rfl (.inl rfl) (pe_callBfun (cr_isqrt hS ht rfl rfl rfl hr (by decide)) (by rfl) T.isqrt (pa_cons (pe_op op_fdivP (pe_op op_add (pv 3) (pv 1)) pe_int) pa_nil)))
      (pss_cons (ps_set (i := 5) sc_pair_of.nd rfl (.inl rfl) (pe_callBfun (cr_isqrt hS ht rfl rfl rfl hr (by decide)) (by rfl) T.isqrt (pa_cons (pe_op op_fdivP (pe_op op_sub (pv 3) (pv 1)) pe_int) pa_nil)))
      (pss_cons (ps_if (PW.pt (pw_or (pt_cmpR (k_neD (K := K) rfl (hu64 hr)) (pe_cal C_formed (hr.mono (by decide)) (by rfl) pass0 (pa_cons (pv 4) (pa_cons (pv 5) pa_nil))) (pe_tup (pa_cons (pv 1) (pa_cons (pv 2) (pa_cons (pv 3) pa_nil)))) (nomark _)) (pw_or1 (pt_not (pt_val (pe_cal C_is_pair (hr.mono (by decide)) (by rfl) pass0 (pa_cons (pe_tup (pa_cons (pv 4) (pa_cons (pv 5) pa_nil))) pa_nil))))))) (pss_one (ps_raise rfl (takes_of rfl rfl rfl rfl) (pmk_own PySem.F.excBase_ValueError T.x_BadTriple T.BadTriple T.k_BadTriple (raises_own T.b_BadTriple T.t_BadTriple) rfl))) pss_nil)
      (pss_one (ps_ret (pe_tup (pa_cons (pv 4) (pa_cons (pv 5) pa_nil))))))))))), ?_⟩
  rcases h with ⟨ds, d, hv, hR, q⟩ | ⟨ds, C, hv, hB, q⟩
  · obtain ⟨p, rfl, hp, hsm, rfl⟩ := hR
    obtain ⟨v, rfl, hx⟩ := dvs1 hv
    obtain ⟨m, n⟩ := p
    obtain ⟨g1, g2, g3, g4⟩ := id hp
    have g1 : 0 < n := g1
    have g2 : n < m := g2
    have hsm : Sm 90000 m := hsm
    have hsn : Sm 90000 n := hsm.le (by omega) (by omega)
    have k1 : 0 < m * m - n * n := by
      have : (m - n) * (m + n) = m * m - n * n := by grind
      have : 0 < (m - n) * (m + n) := Int.mul_pos (by omega) (by omega)
      omega
    have k2 : 0 < n * n := Int.mul_pos g1 g1
    have em : (m * m + n * n + (m * m - n * n)) / 2 = m * m := by omega
    have en : (m * m + n * n - (m * m - n * n)) / 2 = n * n := by omega
    refine q_pass (et_is (et_not (et_B (ev_blD (ed_call (eda_cons (ed_var rfl hx) (eda_cons (ed_int ev_c) eda_nil)) ⟨_, 3, rfl, fun xs h => by cases h; exact (by decide : 3 ≤ 40000), rfl⟩)))) rfl) fun H1 e1 => ?_
    refine q_un3i (ed_var rfl (hx.ex e1)) fun H2 e2 => ?_
    refine q_pass (et_is (et_not (et_test (ev_chain ev_c (ev_var rfl) rv_I0 (fun _ => ev_var rfl) fun _ => rv_I0))) ?_) fun H3 e3 => ?_
    · show (!(decide (0 < m * m - n * n) && decide (m * m - n * n < m * m + n * n))) = false
      rw [decide_eq_true k1, decide_eq_true (show m * m - n * n < m * m + n * n by omega)]
      rfl
    refine q_asg (v := .int m) (ev_is (ev_isq (ev_is (ev_op (ev_op (ev_var rfl) (ev_var rfl) rv_I0) ev_c (rv_I (divs (by decide) (by decide)))) (congrArg V.int em)) (Int.mul_nonneg (by omega) (by omega)) ?_) ?_) fun H4 e4 => ?_
    · have := sm_log (hsm.mul hsm) (by decide)
      omega
    · rw [isqrt_int (by omega)]
    refine q_asg (v := .int n) (ev_is (ev_isq (ev_is (ev_op (ev_op (ev_var rfl) (ev_var rfl) rv_I0) ev_c (rv_I (divs (by decide) (by decide)))) (congrArg V.int en)) (Int.mul_nonneg (by omega) (by omega)) ?_) ?_) fun H5 e5 => ?_
    · have := sm_log (hsn.mul hsn) (by decide)
      omega
    · rw [isqrt_int (by omega)]
    have t1 : EvD K (tCall (spF K R_formed) [] E0 (tCons (tVar 4) (tCons (tVar 5) tNil))) (((((start N_pair_of [v]).set 1 (some (.int (m * m - n * n)))).set 2 (some (.int (2 * m * n)))).set 3 (some (.int (m * m + n * n)))).set 4 (some (.int m)) |>.set 5 (some (.int n))) H5 (td (m, n)) :=
      ed_call (eda_cons (ed_int (ev_var rfl)) (eda_cons (ed_int (ev_var rfl)) eda_nil)) ⟨m, n, rfl, hsm.up (by decide), hsn.up (by decide), rfl⟩
    refine q_pass (et_is (et_or (et_test (ev_neD t1 (ed_tup (eda_cons (ed_int (ev_var rfl)) (eda_cons (ed_int (ev_var rfl)) (eda_cons (ed_int (ev_var rfl)) eda_nil))) (by show 3 ≤ 100000; decide)) (shaped_td _) (shaped_td (m, n))))
      fun _ => et_not (et_B (ev_blD (ed_call (eda_cons (ed_tup (eda_cons (ed_int (ev_var rfl)) (eda_cons (ed_int (ev_var rfl)) eda_nil)) (by show 2 ≤ 100000; decide)) eda_nil) ⟨pd (m, n), rfl, fun xs h => by cases h; exact (by decide : 2 ≤ 40000), rfl⟩)))) ?_) fun H6 e6 => ?_
    · show (!PyData.eqv (td (m, n)) (td (m, n)) || !isPairD (pd (m, n))) = false
      rw [eqv_td (p := (m, n)) (q := (m, n)) ⟨g1, g2⟩ ⟨g1, g2⟩, isPairD_pd, decide_eq_true hp, decide_eq_true rfl]
      rfl
    exact s_retD (K := K) (d := pd (m, n)) (ed_tup (eda_cons (ed_int (ev_var rfl)) (eda_cons (ed_int (ev_var rfl)) eda_nil)) (by show 2 ≤ 100000; decide)) fun w H7 e7 hw => q w H7 ((((((e1.trans e2).trans e3).trans e4).trans e5).trans e6).trans e7) hw
  · obtain ⟨x, rfl, hbad, rfl⟩ := hB
    obtain ⟨v, rfl, hx⟩ := dvs1 hv
    have h1 : EvT (tNot (tB (tCall (spF K R_are_whole) [] E0 (tCons (tVar 0) (tCons (tC (.int 3)) tNil))))) (start N_pair_of [v]) H (!areWhole x 3) :=
      et_not (et_B (ev_blD (ed_call (eda_cons (ed_var rfl hx) (eda_cons (ed_int ev_c) eda_nil)) ⟨x, 3, rfl, hbad.1, rfl⟩)))
    cases hw : areWhole x 3 with
    | false =>
      rw [hw] at h1
      exact q_taken h1 fun H1 e1 => q H1 e1
    | true =>
      rw [hw] at h1
      obtain ⟨a, b, c, rfl⟩ := areWhole3 hw
      obtain ⟨ha, hb, hc⟩ := hbad.2.1 a b c rfl
      refine q_pass h1 fun H1 e1 => ?_
      refine q_un3i (ed_var rfl (hx.ex e1)) fun H2 e2 => ?_
      by_cases hk : 0 < a ∧ a < c
      · refine q_pass (et_is (et_not (et_test (ev_chain ev_c (ev_var rfl) rv_I0 (fun _ => ev_var rfl) fun _ => rv_I0))) ?_) fun H3 e3 => ?_
        · show (!(decide (0 < a) && decide (a < c))) = false
          rw [decide_eq_true hk.1, decide_eq_true hk.2]
          rfl
        have s1 : Sm 180002 ((c + a) / 2) := Sm.half (Sm.up (hc.add ha) (by decide)) (by omega)
        have s2 : Sm 180002 ((c - a) / 2) := Sm.half (Sm.up (hc.sub ha) (by decide)) (by omega)
        have hm := sm_isqrt (b := 90001) s1 (by omega)
        have hn := sm_isqrt (b := 90001) s2 (by omega)
        refine q_asg (ev_isq (ev_op (ev_op (ev_var rfl) (ev_var rfl) rv_I0) ev_c (rv_I (divs (by decide) (by decide)))) (show 0 ≤ (c + a) / 2 by omega) (Nat.le_trans (Nat.le_of_lt (sm_log s1 (by decide))) (by decide))) fun H4 e4 => ?_
        refine q_asg (ev_isq (ev_op (ev_op (ev_var rfl) (ev_var rfl) rv_I0) ev_c (rv_I (divs (by decide) (by decide)))) (show 0 ≤ (c - a) / 2 by omega) (Nat.le_trans (Nat.le_of_lt (sm_log s2 (by decide))) (by decide))) fun H5 e5 => ?_
        have key : ∀ m n : Int, Sm 90001 m → Sm 90001 n → ∀ H', EvT (tOr (tTest (tOp (rNeD K) (tCall (spF K R_formed) [] E0 (tCons (tVar 4) (tCons (tVar 5) tNil))) (tTup (tCons (tVar 1) (tCons (tVar 2) (tCons (tVar 3) tNil)))))) (tNot (tB (tCall (spF K R_is_pair) [] E0 (tCons (tTup (tCons (tVar 4) (tCons (tVar 5) tNil))) tNil)))))
            [some v, some (.int a), some (.int b), some (.int c), some (.int m), some (.int n)] H' true := fun m n hm hn H' =>
          et_is (et_or (et_test (ev_neD (d := td (m, n)) (e := t3 a b c) (ed_call (eda_cons (ed_int (ev_var rfl)) (eda_cons (ed_int (ev_var rfl)) eda_nil)) ⟨m, n, rfl, hm.up (by decide), hn.up (by decide), rfl⟩) (ed_tup (eda_cons (ed_int (ev_var rfl)) (eda_cons (ed_int (ev_var rfl)) (eda_cons (ed_int (ev_var rfl)) eda_nil))) (by show 3 ≤ 100000; decide)) (shaped_td (m, n)) (shaped_ints [a, b, c])))
            fun _ => et_not (et_B (ev_blD (ed_call (eda_cons (ed_tup (eda_cons (ed_int (ev_var rfl)) (eda_cons (ed_int (ev_var rfl)) eda_nil)) (by show 2 ≤ 100000; decide)) eda_nil) ⟨pd (m, n), rfl, szT2, rfl⟩)))) (hbad.out m n)
        exact q_taken (key _ _ hm hn H5) fun H6 e6 => q H6 (((((e1.trans e2).trans e3).trans e4).trans e5).trans e6)
      · refine q_taken (et_is (et_not (et_test (ev_chain ev_c (ev_var rfl) rv_I0 (fun _ => ev_var rfl) fun _ => rv_I0))) ?_) fun H3 e3 => q H3 ((e1.trans e2).trans e3)
        show (!(decide (0 < a) && decide (a < c))) = true
        by_cases h0 : 0 < a
        · rw [decide_eq_true h0, decide_eq_false fun z => hk ⟨h0, z⟩]
          rfl
        · rw [decide_eq_false h0]
          rfl

theorem ok__last_times {P : Program} {w : World} {K : PySem.W.Frag} {mg : Str → Option Value} {base : Heap}  {aR : Addr} {tL tM tA tZ : Tok} {e0 e1 e2 e3 e4 eT : Addr} {f : Addr} {fd : FuncData} (F : Fun K "_last_times" "_last_times" s__last_times f fd) (T : Txt K mg aR tL tM tA tZ e0 e1 e2 e3 e4 eT) (hS : base.NoSeer) (ht : P.given.tree = none) (C__last_times_of_1 : Cal P w K mg base CX0 "_last_times_of_1" 3 P__last_times_of_1 (spF K R__last_times_of_1)) :
    FnOk P w K mg base CX0 33 f fd P__last_times (spF K R__last_times) := by
  refine F.ok sc__last_times (spF_len fun ds d h => by
    first | (obtain ⟨_, rfl, _⟩ := h; rfl) | (obtain ⟨_, _, rfl, _⟩ := h; rfl) | (obtain ⟨_, _, _, rfl, _⟩ := h; rfl) | (obtain ⟨_, _, _, _, rfl, _⟩ := h; rfl) | (rcases h with ⟨rfl, _⟩ | ⟨_, _, rfl, _⟩ <;> rfl)) (fun cdv A outer s H vs Q E hr h => ?_)
  obtain ⟨ds, d, hv, hR, q⟩ := h
  obtain ⟨p, s', t, rfl, hp, hs, hl, hct, hsm, rfl⟩ := hR
  cases dvs3i hv
  refine ⟨_, (pss_cons (ps_if (pt_cmpR op_eq (pv 2) pe_int (nomark _)) (pss_one (ps_ret (pe_op (op_fdivB hS ht rfl rfl rfl hr (by decide)) (pe_op op_sub (pv 1) pe_int) (pe_op op_sub (pv 0) (pv 1))))) pss_nil)
      (pss_cons (ps_if (pt_cmpR op_eq (pv 2) pe_int (nomark _)) (pss_one (ps_ret (pe_op (op_fdivB hS ht rfl rfl rfl hr (by decide)) (pe_op op_sub (pv 0) (pv 1)) (pe_op op_mulX pe_int (pv 1))))) pss_nil)
      (pss_one (ps_ret (pe_cal C__last_times_of_1 (hr.mono (by decide)) (by rfl) pass0 (pa_cons (pv 0) (pa_cons (pv 1) pa_nil))))))), ?_⟩
  obtain ⟨g1, g2⟩ := led_ok (ok_of hp) s' t
  have g1 : 0 < (led p s' t).2 := g1
  have g2 : (led p s' t).2 < (led p s' t).1 := g2
  have hsn : Sm 95000 (led p s' t).2 := hsm.le (by omega) (by omega)
  rcases hs with rfl | rfl | rfl
  · refine q_taken (et_is (et_test (ev_op (ev_var rfl) ev_c rv_eqI)) (decide_eq_true rfl)) fun H1 e1 => ?_
    refine s_retD (K := K) (d := .int t) (ed_int (ev_is (ev_op (ev_op (ev_var rfl) ev_c rv_I0) (ev_op (ev_var rfl) (ev_var rfl) rv_I0) (rv_I (by omega))) ?_)) fun w H2 e2 hw => q w H2 (e1.trans e2) hw
    rw [times0 hp hl t]
  · refine q_pass (et_is (et_test (ev_op (ev_var rfl) ev_c rv_eqI)) (decide_eq_false (by decide))) fun H1 e1 => ?_
    refine q_pass (et_is (et_test (ev_op (ev_var rfl) ev_c rv_eqI)) (decide_eq_false (by decide))) fun H2 e2 => ?_
    exact s_retD (ed_call (eda_cons (ed_int (ev_var rfl)) (eda_cons (ed_int (ev_var rfl)) eda_nil)) ⟨p, t, rfl, hp, hl, hct rfl, hsm, rfl⟩) fun w H3 e3 hw => q w H3 ((e1.trans e2).trans e3) hw
  · refine q_pass (et_is (et_test (ev_op (ev_var rfl) ev_c rv_eqI)) (decide_eq_false (by decide))) fun H1 e1 => ?_
    refine q_taken (et_is (et_test (ev_op (ev_var rfl) ev_c rv_eqI)) (decide_eq_true rfl)) fun H2 e2 => ?_
    refine s_retD (K := K) (d := .int t) (ed_int (ev_is (ev_op (ev_op (ev_var rfl) (ev_var rfl) rv_I0) (ev_op ev_c (ev_var rfl) (rv_I (sm2.cm hsn (by decide)))) (rv_I (by omega))) ?_)) fun w H3 e3 hw => q w H3 ((e1.trans e2).trans e3) hw
    rw [times2 hp hl t]

theorem ok_stepped {P : Program} {w : World} {K : PySem.W.Frag} {mg : Str → Option Value} {base : Heap}  {aR : Addr} {tL tM tA tZ : Tok} {e0 e1 e2 e3 e4 eT : Addr} {f : Addr} {fd : FuncData} (F : Fun K "stepped" "stepped" s_stepped f fd) (T : Txt K mg aR tL tM tA tZ e0 e1 e2 e3 e4 eT) (C_pair_of : Cal P w K mg base (L2.CX P w) "pair_of" 33 P_pair_of (spX K R_pair_of (B_pair_of e0))) (C__is_step : Cal P w K mg base CX0 "_is_step" 2 P__is_step (spF K R__is_step)) :
    FnOk P w K mg base (L2.CX P w) 34 f fd P_stepped (spB K (B_stepped e0 e2)) := by
  refine F.okX sc_stepped (spB_len (fun ds C h => by obtain ⟨_, _, rfl, _⟩ := h; rfl)) (fun cdv A outer s H vs Q E hr h => ?_)
  obtain ⟨ds, C, hv, hB, q⟩ := h
  refine ⟨_, (pss_cons (ps_asg (pe_cal C_pair_of (hr.mono (by decide)) (by rfl) (passX (takes_of rfl rfl rfl rfl)) (pa_cons (pv 0) pa_nil)) (pg_tup rfl (pgs_cons (pg_name (i := 2) sc_stepped.nd rfl (.inl rfl)) (pgs_cons (pg_name (i := 3) sc_stepped.nd rfl (.inl rfl)) pgs_nil))))
      (pss_cons (ps_if (pt_not (pt_val (pe_cal C__is_step (hr.mono (by decide)) (by rfl) pass0 (pa_cons (pv 1) pa_nil)))) (pss_one (ps_raise rfl (takes_of rfl rfl rfl rfl) (pmk_own PySem.F.excBase_ValueError T.x_BadStep T.BadStep T.k_BadStep (raises_own T.b_BadStep T.t_BadStep) rfl))) pss_nil)
      (pss_cons ps_never
      (pss_one ps_never)))), ?_⟩
  obtain ⟨x, y, rfl, hB⟩ := hB
  obtain ⟨v, w', rfl, hx, hy⟩ := dvs2 hv
  rcases hB with ⟨hb, rfl⟩ | ⟨p, rfl, hp, hsm, hb, rfl⟩
  · exact x_asg fun Q => x_call (eda_cons (ed_var rfl hx) eda_nil) ⟨x, rfl, hb, rfl⟩ q
  · refine q_un2i (a := p.1) (b := p.2) (ed_callX (eda_cons (ed_var rfl hx) eda_nil) ⟨p, rfl, hp, hsm, rfl⟩) fun H1 e1 => ?_
    exact q_taken (et_is (et_not (et_B (ev_blD (ed_call (eda_cons (ed_var rfl (hy.ex e1)) eda_nil) ⟨y, rfl, rfl⟩)))) (by rw [hb]; rfl)) fun H2 e2 => q H2 (e1.trans e2)

theorem ok_back {P : Program} {w : World} {K : PySem.W.Frag} {mg : Str → Option Value} {base : Heap}  {aR : Addr} {tL tM tA tZ : Tok} {e0 e1 e2 e3 e4 eT : Addr} {f : Addr} {fd : FuncData} (F : Fun K "back" "back" s_back f fd) (T : Txt K mg aR tL tM tA tZ e0 e1 e2 e3 e4 eT) (C_pair_of : Cal P w K mg base (L2.CX P w) "pair_of" 33 P_pair_of (spX K R_pair_of (B_pair_of e0))) :
    FnOk P w K mg base (L2.CX P w) 34 f fd P_back (spB K (B_pair_of e0)) := by
  refine F.okX sc_back (spB_len (fun ds C h => by obtain ⟨_, rfl, _⟩ := h; rfl)) (fun cdv A outer s H vs Q E hr h => ?_)
  obtain ⟨ds, C, hv, hB, q⟩ := h
  refine ⟨_, (pss_cons (ps_asg (pe_cal C_pair_of (hr.mono (by decide)) (by rfl) (passX (takes_of rfl rfl rfl rfl)) (pa_cons (pv 0) pa_nil)) (pg_tup rfl (pgs_cons (pg_name (i := 1) sc_back.nd rfl (.inl rfl)) (pgs_cons (pg_name (i := 2) sc_back.nd rfl (.inl rfl)) pgs_nil))))
      (pss_cons ps_never
      (pss_cons ps_never
      (pss_cons ps_never
      (pss_one ps_never))))), ?_⟩
  obtain ⟨x, rfl, hb, rfl⟩ := hB
  obtain ⟨v, rfl, hx⟩ := dvs1 hv
  exact x_asg fun Q => x_call (eda_cons (ed_var rfl hx) eda_nil) ⟨x, rfl, hb, rfl⟩ q

theorem ok_row_of {P : Program} {w : World} {K : PySem.W.Frag} {mg : Str → Option Value} {base : Heap}  {aR : Addr} {tL tM tA tZ : Tok} {e0 e1 e2 e3 e4 eT : Addr} {f : Addr} {fd : FuncData} (F : Fun K "row_of" "row_of" s_row_of f fd) (T : Txt K mg aR tL tM tA tZ e0 e1 e2 e3 e4 eT) (C_pair_of : Cal P w K mg base (L2.CX P w) "pair_of" 33 P_pair_of (spX K R_pair_of (B_pair_of e0))) (C__last_step : Cal P w K mg base CX0 "_last_step" 1 P__last_step (spF K R__last_step)) (C__last_times : Cal P w K mg base CX0 "_last_times" 33 P__last_times (spF K R__last_times)) (C__led_back : Cal P w K mg base CX0 "_led_back" 2 P__led_back (spF K R__led_back)) :
    FnOk P w K mg base (L2.CX P w) 34 f fd P_row_of (spXL K R_row_of (B_pair_of e0)) := by
  refine F.okX sc_row_of (spXL_len (fun ds d h => by obtain ⟨_, rfl, _⟩ := h; rfl) (fun ds C h => by obtain ⟨_, rfl, _⟩ := h; rfl)) (fun cdv A outer s H vs Q E hr h => ?_)
  refine ⟨_, (pss_cons (ps_asg (pe_cal C_pair_of (hr.mono (by decide)) (by rfl) (passX (takes_of rfl rfl rfl rfl)) (pa_cons (pv 0) pa_nil)) (pg_tup rfl (pgs_cons (pg_name (i := 1) sc_row_of.nd rfl (.inl rfl)) (pgs_cons (pg_name (i := 2) sc_row_of.nd rfl (.inl rfl)) pgs_nil))))
      (pss_cons (ps_set (i := 3) sc_row_of.nd rfl (.inl rfl) (pe_lst pa_nil))
      (pss_cons (ps_while (passes_of rfl) (pt_cmpR (k_neD (K := K) rfl (hu64 hr)) (pe_tup (pa_cons (pv 1) (pa_cons (pv 2) pa_nil))) (pe_glob (v := .ref aR) (by rfl) T.ROOT rfl) (nomark _)) (pss_cons (ps_set (i := 4) sc_row_of.nd rfl (.inl rfl) (pe_cal C__last_step (hr.mono (by decide)) (by rfl) pass0 (pa_cons (pv 1) (pa_cons (pv 2) pa_nil))))
      (pss_cons (ps_set (i := 5) sc_row_of.nd rfl (.inl rfl) (pe_cal C__last_times (hr.mono (by decide)) (by rfl) pass0 (pa_cons (pv 1) (pa_cons (pv 2) (pa_cons (pv 4) pa_nil)))))
      (pss_cons (ps_asg (pe_cal C__led_back (hr.mono (by decide)) (by rfl) pass0 (pa_cons (pv 1) (pa_cons (pv 2) (pa_cons (pv 4) (pa_cons (pv 5) pa_nil))))) (pg_tup rfl (pgs_cons (pg_name (i := 1) sc_row_of.nd rfl (.inl rfl)) (pgs_cons (pg_name (i := 2) sc_row_of.nd rfl (.inl rfl)) pgs_nil))))
      (pss_one (ps_expr (pe_bm PySem.F.plainAttrs_list PySem.F.slot_list_append PySem.F.type_list_append mt_append (pv 3) (pa_cons (pe_tup (pa_cons (pv 4) (pa_cons (pv 5) pa_nil))) pa_nil))))))))
      (pss_one (ps_ret (pe_revL (pv 3))))))), ?_⟩
  rcases h with ⟨ds, es, hv, hR, q⟩ | ⟨ds, C, hv, hB, q⟩
  · obtain ⟨r, rfl, hr', rfl⟩ := hR
    obtain ⟨v, rfl, hx⟩ := dvs1 hv
    obtain ⟨hgood, hlen, hfew, hsm⟩ := hr'
    refine q_un2i (a := (behind root r).1) (b := (behind root r).2) (ed_callX (eda_cons (ed_var rfl hx) eda_nil) ⟨behind root r, rfl, good_pair root_pair r, hsm.up (by decide), rfl⟩) fun H1 e1 => ?_
    refine q_asgL (el_lst ea_nil (by show 0 ≤ 100000; decide)) fun l H2 nl e2 hl => ?_
    have nl0 : H l = none := fresh_back e1 nl
    refine q_while (fun μ σ' H' => ∃ (vs : List V) (x y : Option V), μ ≤ r.length ∧ σ' = [some v, some (.int (behind root (r.take μ)).1), some (.int (behind root (r.take μ)).2), some (.ref l), x, y] ∧ Ex H H' ∧ H' l = some (.lst vs) ∧ DVs K H' vs ((r.drop μ).reverse.map sd)) r.length
      ⟨[], none, none, Nat.le_refl _, by rw [List.take_length]; rfl, e1.trans e2, hl, by rw [List.drop_length]; exact .nil⟩ ?_
    rintro j σ' H' ⟨vs, x, y, hj, rfl, eH, hl', hvs⟩
    obtain ⟨g1, g2⟩ := behind_ok (ok_of root_pair) (r.take j)
    have up := behind_take_up r j
    have s1 : Sm 80000 (behind root (r.take j)).1 := hsm.le (by omega) up
    have s2 : Sm 80000 (behind root (r.take j)).2 := s1.le (by omega) (by omega)
    refine ⟨!decide (behind root (r.take j) = root), et_test (ev_is (ev_neD (d := pd (behind root (r.take j))) (e := pd root) (ed_tup (eda_cons (ed_int (ev_var rfl)) (eda_cons (ed_int (ev_var rfl)) eda_nil)) (by show 2 ≤ 100000; decide)) (ed_of ev_c (dv_root (T.rootT _))) (shaped_pd _) (shaped_pd _)) (by rw [eqv_pd])), fun hb H3 e3 => ?_, fun hb H3 e3 => ?_⟩
    · have hne : behind root (r.take j) ≠ root := fun z => by rw [decide_eq_true z] at hb; cases hb
      obtain ⟨i, rfl⟩ : ∃ i, j = i + 1 := by
        cases j with
        | zero => exact absurd rfl hne
        | succ i => exact ⟨i, rfl⟩
      have hi : i < r.length := by omega
      have hri : r[i]? = some r[i] := List.getElem?_eq_getElem hi
      generalize r[i] = st at hri
      obtain ⟨s', t⟩ := st
      obtain ⟨a1, a2, a3⟩ := hgood.at hri
      have hlastN := row_last hgood hri
      have hpq : IsPair (behind root (r.take i)) := good_pair root_pair _
      have eb : behind root (r.take (i + 1)) = led (behind root (r.take i)) s' t := by rw [take_snoc hri, behind_snoc]
      have hls : lastStep (led (behind root (r.take i)) s' t) = s' := by
        obtain ⟨t1, rfl⟩ : ∃ t1, t = t1 + 1 := ⟨t - 1, by omega⟩
        exact lastStep_of (ok_of hpq) a1 t1
      have hbk := ledBack_led (behind root (r.take i)) s' t
      have hft : Sm 5000 (t : Int) := sm_nat (Nat.lt_of_lt_of_le (hfew _ (List.mem_of_getElem? hri)) (Nat.pow_le_pow_right (by decide) (by decide)))
      rw [eb] at s1 s2 ⊢
      refine ⟨_, fun σ2 H2' h => ⟨i, Nat.lt_succ_self i, h⟩, ?_⟩
      refine q_asg (v := .int s') (ev_is (ev_intD (ed_call (eda_cons (ed_int (ev_var rfl)) (eda_cons (ed_int (ev_var rfl)) eda_nil)) ⟨_, _, rfl, s1.up (by decide), s2.up (by decide), rfl⟩)) (congrArg V.int hls)) fun H4 e4 => ?_
      refine q_asg (v := .int t) (ev_intD (ed_call (eda_cons (ed_int (ev_var rfl)) (eda_cons (ed_int (ev_var rfl)) (eda_cons (ed_int (ev_var rfl)) eda_nil))) ⟨behind root (r.take i), s', t, rfl, hpq, a1, hlastN, a3, s1.up (by decide), rfl⟩)) fun H5 e5 => ?_
      refine q_un2i (a := (behind root (r.take i)).1) (b := (behind root (r.take i)).2) (ed_call (eda_cons (ed_int (ev_var rfl)) (eda_cons (ed_int (ev_var rfl)) (eda_cons (ed_int (ev_var rfl)) (eda_cons (ed_int (ev_var rfl)) eda_nil)))) ⟨_, _, s', t, rfl, a1, fun z => Nat.le_trans (a3 z) (by decide), s1.up (by decide), s2.up (by decide), hft, by rw [show ledBack ((led (behind root (r.take i)) s' t).1, (led (behind root (r.take i)) s' t).2) s' t = behind root (r.take i) from hbk]; rfl⟩) fun H6 e6 => ?_
      have e36 := ((e3.trans e4).trans e5).trans e6
      have hvl : vs.length ≤ 200 := by
        rw [hvs.len, List.length_map, List.length_reverse, List.length_drop]
        omega
      refine s_appU (xs := vs) (ys := [.int s', .int t]) (e36 _ _ hl') (ev_var rfl) (eu_tup (ea_cons (ev_var rfl) (ea_cons (ev_var rfl) ea_nil)) (by show 2 ≤ 100000; decide)) (by omega) fun p H7 np e7 hp => ?_
      have hl7 : H7 l = some (.lst vs) := e7 _ _ (e36 _ _ hl')
      refine ⟨vs ++ [.ref p], some (.int s'), some (.int t), by omega, rfl, Ex.mut ((eH.trans e36).trans e7) nl0, upd_same, ?_⟩
      have ed : r.drop i = (s', t) :: r.drop (i + 1) := by
        rw [List.drop_eq_getElem_cons hi]
        have := List.getElem?_eq_getElem hi
        rw [hri] at this
        rw [← Option.some.inj this]
      rw [ed, List.reverse_cons, List.map_append]
      refine DVs.append ?_ (.cons ?_ .nil)
      · exact dvs_ints (f := fun x : Int × Nat => [x.1, (x.2 : Int)]) (fun a xs h => sqT_upd hl7 h) (hvs.ex (e36.trans e7))
      · exact dv_ints (is := [s', (t : Int)]) (fun a xs h => sqT_upd hl7 h) (.tup (st_of hp) (.cons (.int s') (.cons (.int t) .nil)))
    · have hb : behind root (r.take j) = root := by
        rw [Bool.not_eq_false'] at hb
        exact of_decide_eq_true hb
      have hj0 : j = 0 := by
        cases j with
        | zero => rfl
        | succ i =>
          have hi : i < r.length := by omega
          have hri : r[i]? = some r[i] := List.getElem?_eq_getElem hi
          generalize r[i] = st at hri
          obtain ⟨s', t⟩ := st
          obtain ⟨a1, a2, a3⟩ := hgood.at hri
          have h1 := led_more (behind_ok (ok_of root_pair) (r.take i)) s' a2
          have h2 := behind_up (ok_of root_pair) (r.take i)
          rw [take_snoc hri, behind_snoc] at hb
          rw [hb] at h1
          have h1 : (behind root (r.take i)).1 < 2 := h1
          have h2 : 2 ≤ (behind root (r.take i)).1 := h2
          omega
      subst hj0
      rw [List.drop_zero] at hvs
      refine s_retL (el_rev (ev_var rfl) (sq_of (e3 _ _ hl'))) fun p H4 np e4 hp => ?_
      refine q p _ H4 (fresh_back (eH.trans e3) np) ((eH.trans e3).trans e4) hp ?_
      have := (hvs.ex (e3.trans e4)).reverse
      rw [← List.map_reverse, List.reverse_reverse] at this
      exact this
  · obtain ⟨x, rfl, hb, rfl⟩ := hB
    obtain ⟨v, rfl, hx⟩ := dvs1 hv
    exact x_asg fun Q => x_call (eda_cons (ed_var rfl hx) eda_nil) ⟨x, rfl, hb, rfl⟩ q

theorem ok__law_with_triple {P : Program} {w : World} {K : PySem.W.Frag} {mg : Str → Option Value} {base : Heap}  {aR : Addr} {tL tM tA tZ : Tok} {e0 e1 e2 e3 e4 eT : Addr} {f : Addr} {fd : FuncData} (F : Fun K "_law_with_triple" "_law_with_triple" s__law_with_triple f fd) (T : Txt K mg aR tL tM tA tZ e0 e1 e2 e3 e4 eT) (C_pair_of : Cal P w K mg base (L2.CX P w) "pair_of" 33 P_pair_of (spX K R_pair_of (B_pair_of e0))) (C_stepped : Cal P w K mg base (L2.CX P w) "stepped" 34 P_stepped (spB K (B_stepped e0 e2))) (C_back : Cal P w K mg base (L2.CX P w) "back" 34 P_back (spB K (B_pair_of e0))) (C_row_of : Cal P w K mg base (L2.CX P w) "row_of" 34 P_row_of (spXL K R_row_of (B_pair_of e0))) :
    FnOk P w K mg base (L2.CX P w) 35 f fd P__law_with_triple (spB K (BAsk (Cse e0 e1 e2 e3 e4) 0)) := by
  refine F.okX sc__law_with_triple (spB_len (fun ds C h => by obtain ⟨_, _, rfl, _⟩ := h; rfl)) (fun cdv A outer s H vs Q E hr h => ?_)
  obtain ⟨ds, C, hv, hB, q⟩ := h
  refine ⟨_, (pss_cons (ps_if (pt_cmpR op_lt (pv 0) pe_int (nomark _)) (pss_one (ps_ret (pe_ifExp (pt_cmpR op_eq (pv 0) pe_int (nomark _)) (pe_cal C_pair_of (hr.mono (by decide)) (by rfl) (passX (takes_of rfl rfl rfl rfl)) (pa_cons (pv 1) pa_nil)) (pe_cal C_stepped (hr.mono (by decide)) (by rfl) (passX (takes_of rfl rfl rfl rfl)) (pa_cons (pv 1) (pa_cons pe_non pa_nil)))))) pss_nil)
      (pss_one (ps_ret (pe_ifExp (pt_cmpR op_eq (pv 0) pe_int (nomark _)) (pe_cal C_back (hr.mono (by decide)) (by rfl) (passX (takes_of rfl rfl rfl rfl)) (pa_cons (pv 1) pa_nil)) (pe_cal C_row_of (hr.mono (by decide)) (by rfl) (passX (takes_of rfl rfl rfl rfl)) (pa_cons (pv 1) pa_nil)))))), ?_⟩
  obtain ⟨y, x, rfl, rfl, hB⟩ := hB
  obtain ⟨v, w', rfl, hy, hx⟩ := dvs2 hv

  obtain ⟨g, rfl, hg, hb⟩ := hB
  cases dvi hy
  have h2 : EvT (tTest (tOp (rI0 fun i j => .bl (decide (i < j))) (tVar 0) (tC (.int 2)))) (start N__law_with_triple [.int (g : Int), w']) H (decide ((g : Int) < 2)) := et_test (ev_op (ev_var rfl) ev_c rv_I0)
  rcases (by omega : g = 0 ∨ g = 1 ∨ g = 2 ∨ g = 3) with rfl | rfl | rfl | rfl
  · exact q_taken h2 fun H1 e1 => x_ret fun Q => x_ifT (et_is (et_test (ev_op (ev_var rfl) ev_c rv_eqI)) rfl) fun H2 e2 => x_call (eda_cons (ed_var rfl ((hx.ex e1).ex e2)) eda_nil) ⟨x, rfl, hb, rfl⟩ fun H3 e3 => q H3 ((e1.trans e2).trans e3)
  · exact q_taken h2 fun H1 e1 => x_ret fun Q => x_ifF (et_is (et_test (ev_op (ev_var rfl) ev_c rv_eqI)) rfl) fun H2 e2 => x_callB (eda_cons (ed_var rfl ((hx.ex e1).ex e2)) (eda_cons (ed_non ev_c) eda_nil)) ⟨x, _, rfl, .inl ⟨hb, rfl⟩⟩ fun H3 e3 => q H3 ((e1.trans e2).trans e3)
  · exact q_pass h2 fun H1 e1 => x_ret fun Q => x_ifT (et_is (et_test (ev_op (ev_var rfl) ev_c rv_eqI)) rfl) fun H2 e2 => x_callB (eda_cons (ed_var rfl ((hx.ex e1).ex e2)) eda_nil) ⟨x, rfl, hb, rfl⟩ fun H3 e3 => q H3 ((e1.trans e2).trans e3)
  · exact q_pass h2 fun H1 e1 => x_ret fun Q => x_ifF (et_is (et_test (ev_op (ev_var rfl) ev_c rv_eqI)) rfl) fun H2 e2 => x_callL (eda_cons (ed_var rfl ((hx.ex e1).ex e2)) eda_nil) ⟨x, rfl, hb, rfl⟩ fun H3 e3 => q H3 ((e1.trans e2).trans e3)

theorem ok__law_with_step {P : Program} {w : World} {K : PySem.W.Frag} {mg : Str → Option Value} {base : Heap}  {aR : Addr} {tL tM tA tZ : Tok} {e0 e1 e2 e3 e4 eT : Addr} {f : Addr} {fd : FuncData} (F : Fun K "_law_with_step" "_law_with_step" s__law_with_step f fd) (T : Txt K mg aR tL tM tA tZ e0 e1 e2 e3 e4 eT) (C_stepped : Cal P w K mg base (L2.CX P w) "stepped" 34 P_stepped (spB K (B_stepped e0 e2))) :
    FnOk P w K mg base (L2.CX P w) 35 f fd P__law_with_step (spB K (BAsk (Cse e0 e1 e2 e3 e4) 2)) := by
  refine F.okX sc__law_with_step (spB_len (fun ds C h => by obtain ⟨_, _, rfl, _⟩ := h; rfl)) (fun cdv A outer s H vs Q E hr h => ?_)
  obtain ⟨ds, C, hv, hB, q⟩ := h
  refine ⟨_, (pss_one (ps_ret (pe_cal C_stepped (hr.mono (by decide)) (by rfl) (passX (takes_of rfl rfl rfl rfl)) (pa_cons (pv 0) (pa_cons (pv 1) pa_nil))))), ?_⟩
  obtain ⟨y, x, rfl, rfl, hB⟩ := hB
  obtain ⟨v, w', rfl, hy, hx⟩ := dvs2 hv

  obtain ⟨p, rfl, hp, hsm, hb⟩ := hB
  exact x_ret fun Q => x_callB (eda_cons (ed_var rfl hy) (eda_cons (ed_var rfl hx) eda_nil)) ⟨_, x, rfl, .inr ⟨p, rfl, hp, hsm, hb, rfl⟩⟩ q

theorem ok__law_told {P : Program} {w : World} {K : PySem.W.Frag} {mg : Str → Option Value} {base : Heap}  {aR : Addr} {tL tM tA tZ : Tok} {e0 e1 e2 e3 e4 eT : Addr} {f : Addr} {fd : FuncData} (F : Fun K "_law_told" "_law_told" s__law_told f fd) (T : Txt K mg aR tL tM tA tZ e0 e1 e2 e3 e4 eT) {fA : Nat → Addr} (hA : ∀ f sp, AskS K (Cse e0 e1 e2 e3 e4) fA f sp → HeldX P w K mg base 35 f sp) (C__law_kinds : CalP P w K mg base "_law_kinds" 1 P__law_kinds (spKinds K (Cse e0 e1 e2 e3 e4))) :
    FnOk P w K mg base CX0 60 f fd P__law_told (spTold5 K (Cse e0 e1 e2 e3 e4) fA) := by
  refine F.ok sc__law_told (fun vs H Q E h => by obtain ⟨_, _, _, _, _, _, rfl, _⟩ := h; rfl) (fun cdv A outer s H vs Q E hr h => ?_)
  refine ⟨_, (pss_cons (ps_try_as (i := 3) (tb := fun W => tDrop (tCallAX 0 (AskS K (Cse e0 e1 e2 e3 e4) fA) (WE W) (tCons (tVar 1) (tCons (tVar 2) tNil)))) (ts := fun a cls d => tRet (tCallP a cls d (spKinds K (Cse e0 e1 e2 e3 e4)) (tCons (tVar 3) tNil))) (Wout := fun _ _ _ _ => False) rfl rfl sc__law_told.nd rfl rfl ⟨rfl, by decide, .inl T.TripleError⟩ takes0
      (fun W pn xe tk _ => pss_one (ps_expr (by exact (pe_callAX hA (hr.mono (by decide)) rfl (.inl rfl) (fun σ => passAt tk σ) (by exact (pa_cons (pv 1) (pa_cons (pv 2) pa_nil)))))))
      (fun a oe cls d pn zc flds => pss_one (ps_ret (by exact (pe_callP zc flds C__law_kinds (hr.mono (by decide)) (by rfl) (by exact (pa_cons (pv 3) pa_nil)))))))
      (pss_one (ps_ret (pe_lst pa_nil)))), ?_⟩
  obtain ⟨f, v1, v2, d1, d2, i, rfl, hi, rfl, hv1, hv2, hB, q⟩ := h
  show tCallAX 0 (AskS K (Cse e0 e1 e2 e3 e4) fA) _ _ _ _ _
  refine ⟨_, _, rfl, ⟨i, hi, rfl, rfl⟩, v1, rfl, v2, rfl, [d1, d2], _, .cons hv1 (.cons hv2 .nil), hB, fun H1 e1 => ⟨true, T.err.exm i hi, fun _ a na => ?_, fun z => Bool.noConfusion z⟩⟩
  exact ⟨.ref a, rfl, i, hi, rfl, rfl, rfl, fun v H2 e2 hv => q v H2 (e1.trans e2) hv⟩

theorem ok__law_all {P : Program} {w : World} {K : PySem.W.Frag} {mg : Str → Option Value} {base : Heap}  {aR : Addr} {tL tM tA tZ : Tok} {e0 e1 e2 e3 e4 eT : Addr} {f : Addr} {fd : FuncData} (F : Fun K "_law_all" "_law_all" s__law_all f fd) (T : Txt K mg aR tL tM tA tZ e0 e1 e2 e3 e4 eT) {fA : Nat → Addr} (C__law_told : Cal P w K mg base CX0 "_law_told" 60 P__law_told (spTold5 K (Cse e0 e1 e2 e3 e4) fA)) :
    FnOk P w K mg base CX0 61 f fd P__law_all (spAll5 K (Cse e0 e1 e2 e3 e4) fA) := by
  refine F.ok sc__law_all (fun vs H Q E h => by obtain ⟨_, _, _, _, _, _, _, rfl, _⟩ := h; rfl) (fun cdv A outer s H vs Q E hr h => ?_)
  refine ⟨_, (pss_one (ps_ret (pe_callB (k_all (K := K) rfl rfl) (by rfl) T.all (by decide +kernel) (pa_cons (pe_lc (own := [("_law_thing", 4)]) rfl sc__law_all.nd (pi_list (pv 2)) (blkOk_by (own := [("_law_thing", 4)]) (N := N__law_all) (sc := defScope s__law_all) (by decide +kernel)) (fun _ _ _ _ _ => (pg_name (i := 4) sc__law_all.nd rfl (.inl rfl))) (fun _ _ _ _ _ => pts_nil) (fun _ _ _ _ _ => (pe_cmpR (k_eqD (K := K) rfl (hu64 hr)) (pe_cal C__law_told (hr.mono (by decide)) (by rfl) pass0 (pa_cons (pv 0) (pa_cons (pv 1) (pa_cons (pv 4) pa_nil)))) (pv 3) (nomark _)))) pa_nil)))), ?_⟩
  obtain ⟨f, v1, vt, vd, d1, ds, i, rfl, hi, rfl, hv1, hvt, hl, hB, hvd, q⟩ := h
  refine s_ret (ev_is (all_lcL (fun _ => true) (ed_var rfl hvt) hl (fun _ => rfl) fun x w' H1 e1 hx hw => ?_) (by rw [List.all_eq_true.mpr fun _ _ => rfl])) fun H1 e1 => q H1 e1
  exact ev_is (ev_eqD (d := kindsD i) (e := kindsD i) (ed_told hi (ev_var rfl) (ed_var rfl (hv1.ex e1)) (ed_var rfl hw) (hB x hx)) (ed_var rfl (hvd.ex e1)) (shaped_kinds i) (shaped_kinds i)) (by rw [eqv_same (shaped_kinds i)])

theorem ok_law {P : Program} {w : World} {K : PySem.W.Frag} {mg : Str → Option Value} {base : Heap}  {aR : Addr} {tL tM tA tZ : Tok} {e0 e1 e2 e3 e4 eT : Addr} {f : Addr} {fd : FuncData} (F : Fun K "law" "law" s_law f fd) (T : Txt K mg aR tL tM tA tZ e0 e1 e2 e3 e4 eT) {fA : Nat → Addr} (hM : ∀ i, mg (askN i) = some (.ref (fA i))) (C__law_cell_at : Cal P w K mg base CX0 "_law_cell_at" 1 P__law_cell_at (spF K R__law_cell_at)) (C__law_value : Cal P w K mg base CX0 "_law_value" 2 P__law_value (spF K R__law_value)) (C__law_row : Cal P w K mg base CX0 "_law_row" 3 P__law_row (spL K R__law_row)) (C__law_behind : Cal P w K mg base CX0 "_law_behind" 2 P__law_behind (spF K R__law_behind)) (C__law_triple : Cal P w K mg base CX0 "_law_triple" 1 P__law_triple (spF K R__law_triple)) (C__law_all : Cal P w K mg base CX0 "_law_all" 61 P__law_all (spAll5 K (Cse e0 e1 e2 e3 e4) fA)) (C__law_bad_rows : Cal P w K mg base CX0 "_law_bad_rows" 1 P__law_bad_rows (spL K R__law_bad_rows5)) (C_by_row : Cal P w K mg base (L2.CX P w) "by_row" 5 P_by_row (spX K R_by_row (B_by_row e3))) (C_row_of : Cal P w K mg base (L2.CX P w) "row_of" 34 P_row_of (spXL K R_row_of (B_pair_of e0))) :
    FnOk P w K mg base CX0 62 f fd P_law (spF K R_law5) := by
  refine F.ok sc_law (spF_len fun ds d h => by
    first | (obtain ⟨_, rfl, _⟩ := h; rfl) | (obtain ⟨_, _, rfl, _⟩ := h; rfl) | (obtain ⟨_, _, _, rfl, _⟩ := h; rfl) | (obtain ⟨_, _, _, _, rfl, _⟩ := h; rfl) | (rcases h with ⟨rfl, _⟩ | ⟨_, _, rfl, _⟩ <;> rfl)) (fun cdv A outer s H vs Q E hr h => ?_)
  obtain ⟨ds, d, hv, hR, q⟩ := h
  obtain ⟨ns, rfl, hl63, hns, rfl⟩ := hR
  obtain ⟨v, rfl, hx⟩ := dvs1 hv
  refine ⟨_, (pss_cons (ps_set (i := 0) sc_law.nd rfl (.inl rfl) (pe_slice sl_list (pv 0) po_none (po_some pe_int)))
      (pss_cons (ps_par (i := 1) (j := 2) rfl sc_law.nd rfl rfl (by decide) rfl rfl (pa_cons (pe_cal C__law_value (hr.mono (by decide)) (by rfl) pass0 (pa_cons (pe_cal C__law_cell_at (hr.mono (by decide)) (by rfl) pass0 (pa_cons (pv 0) (pa_cons pe_int pa_nil))) (pa_cons pe_int (pa_cons pe_int pa_nil)))) (pa_cons (pe_lst pa_nil) pa_nil)) (by rfl))
      (pss_cons (ps_for PassesOwn.never rfl (pi_range1 (by rfl) T.range (pa_cons pe_int pa_nil)) (pg_name (i := 3) sc_law.nd rfl (.inl rfl)) (pss_one (ps_expr (pe_bm PySem.F.plainAttrs_list PySem.F.slot_list_append PySem.F.type_list_append mt_append (pv 2) (pa_cons (pe_lst (pa_cons (pe_cmpR op_eq (pv 3) pe_int (nomark _)) (pa_cons (pe_cmpR op_eq (pv 3) pe_int (nomark _)) (pa_cons (pe_cmpR op_eq (pv 3) pe_int (nomark _)) (pa_cons (pe_cmpR op_eq (pv 3) pe_int (nomark _)) (pa_cons (pe_cmpR op_eq (pv 3) pe_int (nomark _)) (pa_cons pe_bl pa_nil))))))) pa_nil)))))
      (pss_cons (ps_set (i := 4) sc_law.nd rfl (.inl rfl) (pe_cal C__law_row (hr.mono (by decide)) (by rfl) pass0 (pa_cons (pv 0) (pa_cons pe_int pa_nil))))
      (pss_cons (ps_asg (pe_tup (pa_cons (pe_callTy (k_list (K := K) rfl) (by rfl) T.list (by decide +kernel) (pa_cons (pv 4) pa_nil)) (pa_cons (pe_cal C__law_triple (hr.mono (by decide)) (by rfl) pass0 (pa_cons (pe_cal C__law_behind (hr.mono (by decide)) (by rfl) pass0 (pa_cons (pv 4) pa_nil)) pa_nil)) pa_nil))) (pg_tup rfl (pgs_cons (pg_name (i := 5) sc_law.nd rfl (.inl rfl)) (pgs_cons (pg_tup rfl (pgs_cons (pg_name (i := 6) sc_law.nd rfl (.inl rfl)) (pgs_cons (pg_name (i := 7) sc_law.nd rfl (.inl rfl)) (pgs_cons (pg_name (i := 8) sc_law.nd rfl (.inl rfl)) pgs_nil)))) pgs_nil))))
      (pss_cons (ps_set (i := 9) sc_law.nd rfl (.inl rfl) (pe_lst (pa_cons pe_non (pa_cons pe_str (pa_cons pe_bl (pa_cons (pe_lst (pa_cons pe_int pa_nil)) (pa_cons (pe_tup (pa_cons pe_int pa_nil)) (pa_cons pe_dnewK (pa_cons pe_int (pa_cons (pe_tup pa_nil) (pa_cons (pe_tup (pa_cons pe_int (pa_cons pe_int (pa_cons pe_int pa_nil)))) (pa_cons (pe_tup (pa_cons pe_int (pa_cons pe_int pa_nil))) (pa_cons (pe_tup (pa_cons pe_int (pa_cons pe_int (pa_cons pe_int (pa_cons pe_int pa_nil))))) (pa_cons (pe_lst (pa_cons pe_int (pa_cons pe_int (pa_cons pe_int pa_nil)))) pa_nil))))))))))))))
      (pss_cons (ps_set (i := 10) sc_law.nd rfl (.inl rfl) (pe_op op_cat (pv 9) (pe_lst (pa_cons (pe_tup (pa_cons pe_str (pa_cons pe_int (pa_cons pe_int pa_nil)))) (pa_cons (pe_tup (pa_cons pe_int (pa_cons pe_non (pa_cons pe_int pa_nil)))) (pa_cons (pe_tup (pa_cons pe_int (pa_cons pe_int (pa_cons pe_int pa_nil)))) (pa_cons (pe_tup (pa_cons pe_int (pa_cons pe_int (pa_cons pe_int pa_nil)))) (pa_cons (pe_tup (pa_cons (pe_un un_neg pe_int) (pa_cons pe_int (pa_cons pe_int pa_nil)))) (pa_cons (pe_tup (pa_cons pe_int (pa_cons (pe_un un_neg pe_int) (pa_cons pe_int pa_nil)))) (pa_cons (pe_tup (pa_cons pe_int (pa_cons pe_int (pa_cons (pe_un un_neg pe_int) pa_nil)))) pa_nil))))))))))
      (pss_cons (ps_set (i := 10) sc_law.nd rfl (.inl rfl) (pe_op op_cat (pv 10) (pe_lst (pa_cons (pe_tup (pa_cons pe_int (pa_cons pe_int (pa_cons pe_int pa_nil)))) (pa_cons (pe_tup (pa_cons pe_int (pa_cons pe_int (pa_cons pe_int pa_nil)))) (pa_cons (pe_tup (pa_cons pe_int (pa_cons pe_int (pa_cons pe_int pa_nil)))) pa_nil))))))
      (pss_cons (ps_set (i := 10) sc_law.nd rfl (.inl rfl) (pe_op op_cat (pv 10) (pe_lst (pa_cons (pe_tup (pa_cons (pv 7) (pa_cons (pv 6) (pa_cons (pv 8) pa_nil)))) (pa_cons (pe_tup (pa_cons (pe_op op_mulX pe_int (pv 6)) (pa_cons (pe_op op_mulX pe_int (pv 7)) (pa_cons (pe_op op_mulX pe_int (pv 8)) pa_nil)))) (pa_cons (pe_tup (pa_cons (pv 6) (pa_cons (pv 7) (pa_cons (pe_op op_add (pe_op op_add (pv 8) pe_int) (pv 1)) pa_nil)))) (pa_cons (pe_tup (pa_cons (pv 6) (pa_cons (pv 7) (pa_cons (pe_un un_neg (pv 8)) pa_nil)))) (pa_cons (pe_tup (pa_cons (pe_op op_add (pv 6) pe_int) (pa_cons (pv 7) (pa_cons (pv 8) pa_nil)))) (pa_cons (pe_tup (pa_cons pe_bl (pa_cons pe_int (pa_cons pe_int pa_nil)))) pa_nil)))))))))
      (pss_cons (ps_for PassesOwn.never rfl (pi_range1 (by rfl) T.range (pa_cons pe_int pa_nil)) (pg_name (i := 11) sc_law.nd rfl (.inl rfl)) (pss_one (ps_if (pt_not (pt_val (pe_cal C__law_all (hr.mono (by decide)) (by rfl) pass0 (pa_cons (pe_glob (v := .ref (fA 0)) (by rfl) (hM 0) rfl) (pa_cons (pv 11) (pa_cons (pv 10) (pa_cons (pe_ix (k_ixL (K := K) rfl) (pv 2) pe_int (fun _ _ => rfl)) pa_nil))))))) (pss_one (ps_ret pe_bl)) pss_nil)))
      (pss_cons (ps_set (i := 12) sc_law.nd rfl (.inl rfl) (pe_lst (pa_cons pe_non (pa_cons pe_str (pa_cons pe_int (pa_cons (pe_tup pa_nil) (pa_cons (pe_tup (pa_cons pe_int pa_nil)) (pa_cons (pe_tup (pa_cons pe_int (pa_cons pe_int (pa_cons pe_int pa_nil)))) (pa_cons (pe_lst (pa_cons pe_int (pa_cons pe_int pa_nil))) (pa_cons (pe_tup (pa_cons pe_int (pa_cons pe_int pa_nil))) (pa_cons (pe_tup (pa_cons pe_int (pa_cons pe_int pa_nil))) (pa_cons (pe_tup (pa_cons pe_int (pa_cons pe_int pa_nil))) (pa_cons (pe_tup (pa_cons pe_int (pa_cons pe_int pa_nil))) (pa_cons (pe_tup (pa_cons pe_int (pa_cons pe_int pa_nil))) (pa_cons (pe_tup (pa_cons pe_int (pa_cons pe_int pa_nil))) pa_nil)))))))))))))))
      (pss_cons (ps_set (i := 12) sc_law.nd rfl (.inl rfl) (pe_op op_cat (pv 12) (pe_lst (pa_cons (pe_tup (pa_cons pe_int (pa_cons (pe_un un_neg pe_int) pa_nil))) (pa_cons (pe_tup (pa_cons (pe_un un_neg pe_int) (pa_cons (pe_un un_neg pe_int) pa_nil))) (pa_cons (pe_tup (pa_cons pe_int (pa_cons pe_bl pa_nil))) (pa_cons (pe_tup (pa_cons pe_str (pa_cons pe_int pa_nil))) (pa_cons (pe_tup (pa_cons pe_int (pa_cons pe_non pa_nil))) (pa_cons (pe_tup (pa_cons (pe_op op_add pe_int (pe_op op_mulX pe_int (pv 1))) (pa_cons pe_int pa_nil))) (pa_cons (pe_tup (pa_cons (pe_op op_add pe_int (pe_op op_mulX pe_int (pv 1))) (pa_cons pe_int pa_nil))) pa_nil))))))))))
      (pss_cons (ps_if (pt_not (pt_val (pe_cal C__law_all (hr.mono (by decide)) (by rfl) pass0 (pa_cons (pe_glob (v := .ref (fA 1)) (by rfl) (hM 1) rfl) (pa_cons pe_int (pa_cons (pv 12) (pa_cons (pe_ix (k_ixL (K := K) rfl) (pv 2) pe_int (fun _ _ => rfl)) pa_nil))))))) (pss_one (ps_ret pe_bl)) pss_nil)
      (pss_cons (ps_if (pt_not (pt_val (pe_cal C__law_all (hr.mono (by decide)) (by rfl) pass0 (pa_cons (pe_glob (v := .ref (fA 2)) (by rfl) (hM 2) rfl) (pa_cons (pe_tup (pa_cons (pv 6) (pa_cons (pv 7) (pa_cons (pv 8) pa_nil)))) (pa_cons (pe_lst (pa_cons pe_non (pa_cons pe_str (pa_cons pe_bl (pa_cons pe_bl (pa_cons (pe_lst (pa_cons pe_int pa_nil)) (pa_cons (pe_un un_neg pe_int) (pa_cons (pe_op op_sub (pe_un un_neg pe_int) (pv 1)) (pa_cons pe_int (pa_cons (pe_op op_add pe_int (pv 1)) pa_nil)))))))))) (pa_cons (pe_ix (k_ixL (K := K) rfl) (pv 2) pe_int (fun _ _ => rfl)) pa_nil))))))) (pss_one (ps_ret pe_bl)) pss_nil)
      (pss_cons (ps_if (pt_not (pt_val (pe_cal C__law_all (hr.mono (by decide)) (by rfl) pass0 (pa_cons (pe_glob (v := .ref (fA 3)) (by rfl) (hM 3) rfl) (pa_cons pe_int (pa_cons (pe_cal C__law_bad_rows (hr.mono (by decide)) (by rfl) pass0 (pa_cons (pv 4) (pa_cons (pv 1) pa_nil))) (pa_cons (pe_ix (k_ixL (K := K) rfl) (pv 2) pe_int (fun _ _ => rfl)) pa_nil))))))) (pss_one (ps_ret pe_bl)) pss_nil)
      (pss_cons (ps_set (i := 13) sc_law.nd rfl (.inl rfl) (pe_lst (pa_cons pe_non (pa_cons pe_str (pa_cons pe_bl (pa_cons (pe_lst (pa_cons pe_int pa_nil)) (pa_cons (pe_tup (pa_cons pe_int pa_nil)) (pa_cons pe_dnewK (pa_cons pe_int (pa_cons pe_int (pa_cons (pe_un un_neg pe_int) (pa_cons (pe_op op_sub (pe_un un_neg pe_int) (pv 1)) (pa_cons pe_int (pa_cons (pe_op op_add pe_int (pv 1)) pa_nil))))))))))))))
      (pss_cons (ps_if (PW.pt (pw_or (pt_not (pt_val (pe_cal C__law_all (hr.mono (by decide)) (by rfl) pass0 (pa_cons (pe_glob (v := .ref (fA 4)) (by rfl) (hM 4) rfl) (pa_cons pe_int (pa_cons (pv 13) (pa_cons (pe_ix (k_ixL (K := K) rfl) (pv 2) pe_int (fun _ _ => rfl)) pa_nil))))))) (pw_or1 (pt_not (pt_val (pe_cal C__law_all (hr.mono (by decide)) (by rfl) pass0 (pa_cons (pe_glob (v := .ref (fA 4)) (by rfl) (hM 4) rfl) (pa_cons pe_int (pa_cons (pv 13) (pa_cons (pe_ix (k_ixL (K := K) rfl) (pv 2) pe_int (fun _ _ => rfl)) pa_nil)))))))))) (pss_one (ps_ret pe_bl)) pss_nil)
      (pss_cons (ps_setLc (i := 14) (own := [("_law_at", 15)]) rfl sc_law.nd rfl rfl (sw_true rfl rfl rfl (by decide +kernel)) (pi_range1 (by rfl) T.range (pa_cons pe_int pa_nil)) (blkOk_by (own := [("_law_at", 15)]) (N := N_law) (sc := defScope s_law) (by decide +kernel)) (fun _ _ _ _ _ => (pg_name (i := 15) sc_law.nd rfl (.inl rfl))) (fun _ _ _ _ _ => pts_nil) (fun _ _ _ _ _ => (pe_tup (pa_cons (pe_op op_mulX (pe_op op_mod (pv 15) pe_int) pe_int) (pa_cons pe_int pa_nil)))))
      (pss_one (ps_ret (pe_and (pe_cmpR (k_eqD (K := K) rfl (hu64 hr)) (pv 4) (pv 5) (nomark _)) (pe_and (pe_cmpR (k_eqD (K := K) rfl (hu64 hr)) (pe_cal C_row_of (hr.mono (by decide)) (by rfl) passL (pa_cons (pe_cal C_by_row (hr.mono (by decide)) (by rfl) passL (pa_cons (pv 14) pa_nil)) pa_nil)) (pv 14) (nomark _)) (pe_one (pe_cmpR op_gt (pe_ix (k_ixT (K := K) rfl) (pe_cal C_by_row (hr.mono (by decide)) (by rfl) passL (pa_cons (pe_lst (pa_cons (pe_tup (pa_cons pe_int (pa_cons pe_int pa_nil))) pa_nil)) pa_nil)) pe_int (fun _ _ => rfl)) (pe_op op_shlW pe_int pe_int) (nomark _))))))))))))))))))))))))), ?_⟩
  refine q_asgLD (ds := ns.map .int) (eld_sl (lo := none) (hi := some 63) (ed_var rfl hx) eo_none (eo_some ev_c) (by
    unfold cutD
    exact (cut_to (ns.map PyData.int) 63).trans (List.take_of_length_le (by rw [List.length_map]; exact hl63)))) fun p vs H1 np e1 hp hvs => ?_
  have hsc : DV K H1 (.ref p) (.list (ns.map .int)) := .lst (sq_of hp) hvs
  have hc0 : Sm 1048577 (ns.getD 0 0) := by
    match ns, hns with
    | [], _ => exact Sm.up (show (0 : Int).natAbs < 2 ^ 2 by decide) (by decide)
    | c :: _, hns => exact hns c List.mem_cons_self
  have hf := lawValue_nn (ns.getD 0 0) 3 (show (0 : Int) < 900000 by decide)
  have hf2 := lawValue_lt (ns.getD 0 0) 3 (show (0 : Int) < 900000 by decide) (by decide)
  refine q_parDL (K := K) (d := .int (lawValue (ns.getD 0 0) 3 900000)) (ds := []) (ed_call (eda_cons (ed_call (eda_cons (ed_var rfl hsc) (eda_cons (ed_int ev_c) eda_nil)) ⟨ns, 0, rfl, rfl⟩) (eda_cons (ed_int ev_c) (eda_cons (ed_int ev_c) eda_nil))) ⟨_, 3, 900000, rfl, hc0, Sm.up sm3 (by decide), by decide, rfl⟩) (eld_lst eda_nil (by decide)) fun w0 l vs0 H2 nl e2 hl hv0 hw0 => ?_
  generalize lawValue (ns.getD 0 0) 3 900000 = f at hf hf2 hw0
  have hfm : Sm 5000 f := Sm.up (a := 140) (show f.natAbs < 2 ^ 140 by
    have e : (E40 : Int) ≤ 2 ^ 140 := by decide
    omega) (by decide)
  cases dvi hw0
  cases hv0
  have due0 : DueL H2 l 0 := ⟨[], rfl, hl, fun i q h => nomatch h⟩
  refine q_forR1 (n := 5) (ea_cons ev_c ea_nil) ⟨by decide, by decide⟩ (fun k σ' H' => ∃ x3, σ' = [some (.ref p), some (.int f), some (.ref l), x3, none, none, none, none, none, none, none, none, none, none, none, none] ∧ Ex H1 H' ∧ DueL H' l k) (fun H3 e3 => ⟨none, rfl, e2.trans e3, due0.ex e3⟩) (fun k σ' H' hk P => ?_) fun σ' H' P => ?_
  · obtain ⟨x3, rfl, eH, hD⟩ := P
    have hlH : ∃ xs, H' l = some (.lst xs) ∧ xs.length = k := by
      obtain ⟨ps, h1, h2, _⟩ := id hD
      exact ⟨_, h2, by rw [List.length_map, h1]⟩
    obtain ⟨xs, hlH, hxl⟩ := hlH
    have is : ∀ (j : Nat) (i : Int), i = (j : Int) → ∀ σ H, σ[3]? = some (some (.int (k : Int))) → Ev (tOp rEq (tVar 3) (tC (.int i))) σ H (.bl (decide (k = j))) := fun j i hi σ H h => ev_is (ev_op (ev_var h) ev_c rv_eqI) (congrArg V.bl (decide_eq_decide.mpr (by omega)))
    refine s_appLD (K := K) (ds := [decide (k = 0), decide (k = 1), decide (k = 2), decide (k = 3), decide (k = 4), true].map .bool) hlH (ev_var rfl) (eld_lst (eda_cons (ed_bl (is 0 0 rfl _ _ rfl)) (eda_cons (ed_bl (is 1 1 rfl _ _ rfl)) (eda_cons (ed_bl (is 2 2 rfl _ _ rfl)) (eda_cons (ed_bl (is 3 3 rfl _ _ rfl)) (eda_cons (ed_bl (is 4 4 rfl _ _ rfl)) (eda_cons (ed_bl ev_c) eda_nil)))))) (Nat.le_of_ble_eq_true rfl)) (by omega) fun q' ws H4 nq e4 hq hws => ?_
    have ew := dvs_bools hws
    subst ew
    exact ⟨some (.int (k : Int)), rfl, Ex.mut (eH.trans e4) nl, (hD.ex e4).add (e4 _ _ hlH) hq fun z => by rw [z, hlH] at nq; cases nq⟩
  · obtain ⟨x3, rfl, eH, hD⟩ := P
    have hD : DueL H' l 5 := hD
    have h16 : (lawRow ns 0).length ≤ 16 := by
      unfold lawRow
      rw [(lawRowFrom_good _ _ _ _ (.inr (.inr (.inr rfl)))).2.1, List.length_take]
      omega
    have hfit := lawRow_fit ns 0
    refine q_asgLD (K := K) (ds := (lawRow ns 0).map sd) (eld_call (eda_cons (ed_var rfl (hsc.ex eH)) (eda_cons (ed_int ev_c) eda_nil)) ⟨ns, 0, rfl, hns, by decide, hl63, rfl⟩) fun rp vr H3 nr e3 hrp hvr => ?_
    generalize lawRow ns 0 = r at h16 hfit hvr
    have hrow : DV K H3 (.ref rp) (rd r) := .lst (sq_of hrp) hvr
    have hP := good_pair root_pair r
    have hPm := hfit.sm
    have hPn : Sm 80000 (behind root r).2 := by
      obtain ⟨g1, g2⟩ := ok_of hP
      exact hPm.le (by omega) (by omega)
    have tr : EvD K (tCall (spF K R__law_triple) [] E0 (tCons (tCall (spF K R__law_behind) [] E0 (tCons (tVar 4) tNil)) tNil)) [some (.ref p), some (.int f), some (.ref l), x3, some (.ref rp), none, none, none, none, none, none, none, none, none, none, none] H3 (td (behind root r)) :=
      ed_call (eda_cons (ed_call (eda_cons (ed_var rfl hrow) eda_nil) ⟨r, rfl, hfit.parts, hPm, Nat.le_trans h16 (by decide), rfl⟩) eda_nil) ⟨_, rfl, hPm.up (by decide), hPn.up (by decide), rfl⟩
    generalize behind root r = P at hP hPm hPn tr
    have lTri := fun {x : PyData} (hx : x ∈ lTri1 ++ lTri2 ++ lTri3 ++ lTri4 (P.1 * P.1 - P.2 * P.2) (2 * P.1 * P.2) (P.1 * P.1 + P.2 * P.2) f) => lTri_bad hP hPm hf hfm hx
    have sA : Sm 170000 (P.1 * P.1 - P.2 * P.2) := Sm.up ((hPm.mul hPm).sub (hPn.mul hPn)) (by decide)
    have sB : Sm 170000 (2 * P.1 * P.2) := Sm.up ((sm2.mul hPm).mul hPn) (by decide)
    have sC : Sm 170000 (P.1 * P.1 + P.2 * P.2) := Sm.up ((hPm.mul hPm).add (hPn.mul hPn)) (by decide)
    have eP : td P = t3 (P.1 * P.1 - P.2 * P.2) (2 * P.1 * P.2) (P.1 * P.1 + P.2 * P.2) := rfl
    rw [eP] at tr
    have asP : ∀ y, y = t3 (P.1 * P.1 - P.2 * P.2) (2 * P.1 * P.2) (P.1 * P.1 + P.2 * P.2) → y = td P := fun y h => h
    generalize P.1 * P.1 - P.2 * P.2 = a at lTri sA tr asP
    generalize 2 * P.1 * P.2 = b at lTri sB tr asP
    generalize P.1 * P.1 + P.2 * P.2 = c at lTri sC tr asP
    refine q_un4 (K := K) (d1 := rd r) (a := a) (b := b) (c := c) (ed_tup (eda_cons (eld_list (ed_var rfl hrow)).ev (eda_cons tr eda_nil)) (Nat.le_of_ble_eq_true rfl)) fun kv H4 e4 hkv => ?_
    refine q_asgLD (K := K) (ds := lTri1) (eld_lst (by
    repeat' first
    | exact eda_nil
    | refine eda_cons ?_ ?_
    | exact ed_int ev_c
    | exact ed_bl ev_c
    | exact ed_str ev_c
    | exact ed_non ev_c
    | exact ed_dct
    | exact ed_int (ev_un ev_c ru_neg)
    | exact ed_int (ev_op (ev_un ev_c ru_neg) (ev_var rfl) rv_I0)
    | exact ed_int (ev_op ev_c (ev_var rfl) rv_I0)
    | refine ed_tup ?_ (Nat.le_of_ble_eq_true rfl)
    | refine EvLD.ev (eld_lst ?_ (Nat.le_of_ble_eq_true rfl))) (Nat.le_of_ble_eq_true rfl)) fun p9 v9 H5 n9 e5 hp9 hv9 => ?_
    refine q_asgLD (K := K) (ds := lTri1 ++ lTri2) (eld_catV rfl hp9 hv9 (eld_lst (by
    repeat' first
    | exact eda_nil
    | refine eda_cons ?_ ?_
    | exact ed_int ev_c
    | exact ed_bl ev_c
    | exact ed_str ev_c
    | exact ed_non ev_c
    | exact ed_dct
    | exact ed_int (ev_un ev_c ru_neg)
    | exact ed_int (ev_op (ev_un ev_c ru_neg) (ev_var rfl) rv_I0)
    | exact ed_int (ev_op ev_c (ev_var rfl) rv_I0)
    | refine ed_tup ?_ (Nat.le_of_ble_eq_true rfl)
    | refine EvLD.ev (eld_lst ?_ (Nat.le_of_ble_eq_true rfl))) (Nat.le_of_ble_eq_true rfl)) (Nat.le_of_ble_eq_true rfl)) fun q1 w1 H6 m1 e6 hq1 hw1 => ?_
    refine q_asgLD (K := K) (ds := lTri1 ++ lTri2 ++ lTri3) (eld_catV rfl hq1 hw1 (eld_lst (by
    repeat' first
    | exact eda_nil
    | refine eda_cons ?_ ?_
    | exact ed_int ev_c
    | exact ed_bl ev_c
    | exact ed_str ev_c
    | exact ed_non ev_c
    | exact ed_dct
    | exact ed_int (ev_un ev_c ru_neg)
    | exact ed_int (ev_op (ev_un ev_c ru_neg) (ev_var rfl) rv_I0)
    | exact ed_int (ev_op ev_c (ev_var rfl) rv_I0)
    | refine ed_tup ?_ (Nat.le_of_ble_eq_true rfl)
    | refine EvLD.ev (eld_lst ?_ (Nat.le_of_ble_eq_true rfl))) (Nat.le_of_ble_eq_true rfl)) (Nat.le_of_ble_eq_true rfl)) fun q2 w2 H7 m2 e7 hq2 hw2 => ?_
    have cm : ∀ {z : Int}, Sm 170000 z → CMulX 3 z := fun h => sm3.cm h (by decide)
    refine q_asgLD (K := K) (ds := lTri1 ++ lTri2 ++ lTri3 ++ lTri4 a b c f) (eld_catV rfl hq2 hw2 (eld_lst (eda_cons (ed_tup (eda_cons (ed_int (ev_var rfl)) (eda_cons (ed_int (ev_var rfl)) (eda_cons (ed_int (ev_var rfl)) eda_nil))) (Nat.le_of_ble_eq_true rfl))
      (eda_cons (ed_tup (eda_cons (ed_int (ev_op ev_c (ev_var rfl) (rv_I (cm sA)))) (eda_cons (ed_int (ev_op ev_c (ev_var rfl) (rv_I (cm sB)))) (eda_cons (ed_int (ev_op ev_c (ev_var rfl) (rv_I (cm sC)))) eda_nil))) (Nat.le_of_ble_eq_true rfl))
      (eda_cons (ed_tup (eda_cons (ed_int (ev_var rfl)) (eda_cons (ed_int (ev_var rfl)) (eda_cons (ed_int (ev_op (ev_op (ev_var rfl) ev_c rv_I0) (ev_var rfl) rv_I0)) eda_nil))) (Nat.le_of_ble_eq_true rfl))
      (eda_cons (ed_tup (eda_cons (ed_int (ev_var rfl)) (eda_cons (ed_int (ev_var rfl)) (eda_cons (ed_int (ev_un (ev_var rfl) ru_neg)) eda_nil))) (Nat.le_of_ble_eq_true rfl))
      (eda_cons (ed_tup (eda_cons (ed_int (ev_op (ev_var rfl) ev_c rv_I0)) (eda_cons (ed_int (ev_var rfl)) (eda_cons (ed_int (ev_var rfl)) eda_nil))) (Nat.le_of_ble_eq_true rfl))
      (eda_cons (ed_tup (eda_cons (ed_bl ev_c) (eda_cons (ed_int ev_c) (eda_cons (ed_int ev_c) eda_nil))) (Nat.le_of_ble_eq_true rfl)) eda_nil)))))) (Nat.le_of_ble_eq_true rfl)) (Nat.le_of_ble_eq_true rfl)) fun q3 w3 H8 m3 e8 hq3 hw3 => ?_
    have hbad : DV K H8 (.ref q3) (.list (lTri1 ++ lTri2 ++ lTri3 ++ lTri4 a b c f)) := .lst (sq_of hq3) hw3
    have e38 := (((e4.trans e5).trans e6).trans e7).trans e8
    have hD8 := (hD.ex e3).ex e38
    have hrow8 := hrow.ex e38
    have hkv8 := hkv.ex (((e5.trans e6).trans e7).trans e8)
    have eE := (e1.trans eH).trans (e3.trans e38)
    clear hrow hkv hD e4 e5 e6 e7 e8 hw3 hq3 hw2 hq2 hw1 hq1 hv9 hp9 tr hvr hrp
    refine q_forR1 (n := 4) (ea_cons ev_c ea_nil) ⟨by decide, by decide⟩ (fun g σ' H' => ∃ x11, σ' = [some (.ref p), some (.int f), some (.ref l), x3, some (.ref rp), some kv, some (.int a), some (.int b), some (.int c), some (.ref p9), some (.ref q3), x11, none, none, none, none] ∧ Ex H8 H') (fun H9 e9 => ⟨none, rfl, e9⟩) (fun g σ' H' hg P' => ?_) fun σ' H' P' => ?_
    · obtain ⟨x11, rfl, e9⟩ := P'
      have hDn := hD8.ex e9
      refine s_no (et_is (et_not (et_B (ev_all5 (K := K) (fA := fA) (i := 0) (by decide) ev_c (d1 := .int (g : Int)) (ed_int (ev_var rfl)) (ds := lTri1 ++ lTri2 ++ lTri3 ++ lTri4 a b c f) (ed_var rfl (hbad.ex e9)) (ed_ixL (j := 0) (ed_var rfl (due_data hDn)) ev_c rfl rfl) (Nat.le_of_ble_eq_true rfl) (fun x hx => ⟨_, x, rfl, rfl, g, rfl, by omega, lTri hx⟩)))) rfl) fun H9 e10 => ?_
      exact ⟨_, rfl, e9.trans e10⟩
    · obtain ⟨x11, rfl, e9⟩ := P'
      have hD9 := hD8.ex e9
      have hrow9 := hrow8.ex e9
      have hkv9 := hkv8.ex e9
      have eE9 := eE.trans e9
      clear hD8 hrow8 hkv8 eE hbad
      refine q_asgLD (K := K) (ds := lPair1) (eld_lst (by
    repeat' first
    | exact eda_nil
    | refine eda_cons ?_ ?_
    | exact ed_int ev_c
    | exact ed_bl ev_c
    | exact ed_str ev_c
    | exact ed_non ev_c
    | exact ed_dct
    | exact ed_int (ev_un ev_c ru_neg)
    | exact ed_int (ev_op (ev_un ev_c ru_neg) (ev_var rfl) rv_I0)
    | exact ed_int (ev_op ev_c (ev_var rfl) rv_I0)
    | refine ed_tup ?_ (Nat.le_of_ble_eq_true rfl)
    | refine EvLD.ev (eld_lst ?_ (Nat.le_of_ble_eq_true rfl))) (Nat.le_of_ble_eq_true rfl)) fun p12 v12 H10 n12 e10 hp12 hv12 => ?_
      have c2 : CMulX 2 f := sm2.cm hfm (by decide)
      have c6 : CMulX 6 f := Sm.cm (a := 3) (show (6 : Int).natAbs < 2 ^ 3 by decide) hfm (by decide)
      refine q_asgLD (K := K) (ds := lPair1 ++ lPair2 f) (eld_catV rfl hp12 hv12 (eld_lst (eda_cons (by
    repeat' first
    | exact eda_nil
    | refine eda_cons ?_ ?_
    | exact ed_int ev_c
    | exact ed_bl ev_c
    | exact ed_str ev_c
    | exact ed_non ev_c
    | exact ed_dct
    | exact ed_int (ev_un ev_c ru_neg)
    | exact ed_int (ev_op (ev_un ev_c ru_neg) (ev_var rfl) rv_I0)
    | exact ed_int (ev_op ev_c (ev_var rfl) rv_I0)
    | refine ed_tup ?_ (Nat.le_of_ble_eq_true rfl)
    | refine EvLD.ev (eld_lst ?_ (Nat.le_of_ble_eq_true rfl))) (eda_cons (by
    repeat' first
    | exact eda_nil
    | refine eda_cons ?_ ?_
    | exact ed_int ev_c
    | exact ed_bl ev_c
    | exact ed_str ev_c
    | exact ed_non ev_c
    | exact ed_dct
    | exact ed_int (ev_un ev_c ru_neg)
    | exact ed_int (ev_op (ev_un ev_c ru_neg) (ev_var rfl) rv_I0)
    | exact ed_int (ev_op ev_c (ev_var rfl) rv_I0)
    | refine ed_tup ?_ (Nat.le_of_ble_eq_true rfl)
    | refine EvLD.ev (eld_lst ?_ (Nat.le_of_ble_eq_true rfl))) (eda_cons (by
    repeat' first
    | exact eda_nil
    | refine eda_cons ?_ ?_
    | exact ed_int ev_c
    | exact ed_bl ev_c
    | exact ed_str ev_c
    | exact ed_non ev_c
    | exact ed_dct
    | exact ed_int (ev_un ev_c ru_neg)
    | exact ed_int (ev_op (ev_un ev_c ru_neg) (ev_var rfl) rv_I0)
    | exact ed_int (ev_op ev_c (ev_var rfl) rv_I0)
    | refine ed_tup ?_ (Nat.le_of_ble_eq_true rfl)
    | refine EvLD.ev (eld_lst ?_ (Nat.le_of_ble_eq_true rfl))) (eda_cons (by
    repeat' first
    | exact eda_nil
    | refine eda_cons ?_ ?_
    | exact ed_int ev_c
    | exact ed_bl ev_c
    | exact ed_str ev_c
    | exact ed_non ev_c
    | exact ed_dct
    | exact ed_int (ev_un ev_c ru_neg)
    | exact ed_int (ev_op (ev_un ev_c ru_neg) (ev_var rfl) rv_I0)
    | exact ed_int (ev_op ev_c (ev_var rfl) rv_I0)
    | refine ed_tup ?_ (Nat.le_of_ble_eq_true rfl)
    | refine EvLD.ev (eld_lst ?_ (Nat.le_of_ble_eq_true rfl))) (eda_cons (by
    repeat' first
    | exact eda_nil
    | refine eda_cons ?_ ?_
    | exact ed_int ev_c
    | exact ed_bl ev_c
    | exact ed_str ev_c
    | exact ed_non ev_c
    | exact ed_dct
    | exact ed_int (ev_un ev_c ru_neg)
    | exact ed_int (ev_op (ev_un ev_c ru_neg) (ev_var rfl) rv_I0)
    | exact ed_int (ev_op ev_c (ev_var rfl) rv_I0)
    | refine ed_tup ?_ (Nat.le_of_ble_eq_true rfl)
    | refine EvLD.ev (eld_lst ?_ (Nat.le_of_ble_eq_true rfl)))
        (eda_cons (ed_tup (eda_cons (ed_int (ev_op ev_c (ev_op ev_c (ev_var rfl) (rv_I c6)) rv_I0)) (eda_cons (ed_int ev_c) eda_nil)) (Nat.le_of_ble_eq_true rfl))
        (eda_cons (ed_tup (eda_cons (ed_int (ev_op ev_c (ev_op ev_c (ev_var rfl) (rv_I c2)) rv_I0)) (eda_cons (ed_int ev_c) eda_nil)) (Nat.le_of_ble_eq_true rfl)) eda_nil))))))) (Nat.le_of_ble_eq_true rfl)) (Nat.le_of_ble_eq_true rfl)) fun q12 w12 H11 m12 e11 hq12 hw12 => ?_
      have e11' := e10.trans e11
      have hDn := hD9.ex e11'
      refine q_pass (et_is (et_not (et_B (ev_all5 (K := K) (fA := fA) (i := 1) (by decide) ev_c (d1 := .int 0) (ed_int ev_c) (ds := lPair1 ++ lPair2 f) (ed_var rfl (.lst (sq_of hq12) hw12)) (ed_ixL (j := 1) (ed_var rfl (due_data hDn)) ev_c rfl rfl) (Nat.le_of_ble_eq_true rfl) (fun x hx => ⟨_, x, rfl, rfl, lPair_bad hx⟩)))) rfl) fun H12 e12 => ?_
      have e12' := e11'.trans e12
      have hDn := hD9.ex e12'
      refine q_pass (et_is (et_not (et_B (ev_all5 (K := K) (fA := fA) (i := 2) (by decide) ev_c (d1 := t3 a b c) (ed_tup (eda_cons (ed_int (ev_var rfl)) (eda_cons (ed_int (ev_var rfl)) (eda_cons (ed_int (ev_var rfl)) eda_nil))) (Nat.le_of_ble_eq_true rfl)) (ds := lStep f) (EvLD.ev (eld_lst (by
    repeat' first
    | exact eda_nil
    | refine eda_cons ?_ ?_
    | exact ed_int ev_c
    | exact ed_bl ev_c
    | exact ed_str ev_c
    | exact ed_non ev_c
    | exact ed_dct
    | exact ed_int (ev_un ev_c ru_neg)
    | exact ed_int (ev_op (ev_un ev_c ru_neg) (ev_var rfl) rv_I0)
    | exact ed_int (ev_op ev_c (ev_var rfl) rv_I0)
    | refine ed_tup ?_ (Nat.le_of_ble_eq_true rfl)
    | refine EvLD.ev (eld_lst ?_ (Nat.le_of_ble_eq_true rfl))) (Nat.le_of_ble_eq_true rfl))) (ed_ixL (j := 2) (ed_var rfl (due_data hDn)) ev_c rfl rfl) (Nat.le_of_ble_eq_true rfl) (fun x hx => ⟨_, x, rfl, rfl, P, asP _ rfl, hP, hPm.up (by decide), lStep_bad hf hx⟩)))) rfl) fun H13 e13 => ?_
      have e13' := e12'.trans e13
      have hDn := hD9.ex e13'
      refine q_pass (et_is (et_not (et_B (ev_all5 (K := K) (fA := fA) (i := 3) (by decide) ev_c (d1 := .int 0) (ed_int ev_c) (ds := lRows r (f % ((r.length : Int) + 1)).toNat f) (ed_callL (eda_cons (ed_var rfl (hrow9.ex e13')) (eda_cons (ed_int (ev_var rfl)) eda_nil)) ⟨r, f, rfl, h16, hf, rfl⟩) (ed_ixL (j := 3) (ed_var rfl (due_data hDn)) ev_c rfl rfl) (Nat.le_of_ble_eq_true rfl) (fun x hx => ⟨_, x, rfl, rfl, lRows_bad (Nat.le_trans h16 (by decide)) hf hx⟩)))) rfl) fun H14 e14 => ?_
      refine q_asgLD (K := K) (ds := lNum f) (eld_lst (by
    repeat' first
    | exact eda_nil
    | refine eda_cons ?_ ?_
    | exact ed_int ev_c
    | exact ed_bl ev_c
    | exact ed_str ev_c
    | exact ed_non ev_c
    | exact ed_dct
    | exact ed_int (ev_un ev_c ru_neg)
    | exact ed_int (ev_op (ev_un ev_c ru_neg) (ev_var rfl) rv_I0)
    | exact ed_int (ev_op ev_c (ev_var rfl) rv_I0)
    | refine ed_tup ?_ (Nat.le_of_ble_eq_true rfl)
    | refine EvLD.ev (eld_lst ?_ (Nat.le_of_ble_eq_true rfl))) (Nat.le_of_ble_eq_true rfl)) fun p13 v13 H15 n13 e15 hp13 hv13 => ?_
      have e15' := (e13'.trans e14).trans e15
      have hDn := hD9.ex e15'
      refine q_pass (et_is (et_or (et_is (et_not (et_B (ev_all5 (K := K) (fA := fA) (i := 4) (by decide) ev_c (d1 := .int 0) (ed_int ev_c) (ds := lNum f) (ed_var rfl (.lst (sq_of hp13) hv13)) (ed_ixL (j := 4) (ed_var rfl (due_data hDn)) ev_c rfl rfl) (Nat.le_of_ble_eq_true rfl) (fun x hx => ⟨_, x, rfl, rfl, 0, rfl, lNum_bad hf hx⟩)))) rfl) fun _ => (et_is (et_not (et_B (ev_all5 (K := K) (fA := fA) (i := 4) (by decide) ev_c (d1 := .int 1) (ed_int ev_c) (ds := lNum f) (ed_var rfl (.lst (sq_of hp13) hv13)) (ed_ixL (j := 4) (ed_var rfl (due_data hDn)) ev_c rfl rfl) (Nat.le_of_ble_eq_true rfl) (fun x hx => ⟨_, x, rfl, rfl, 1, rfl, lNum_bad hf hx⟩)))) rfl)) rfl) fun H16 e16 => ?_
      refine q_asgLD (K := K) (ds := altD 200) ?_ fun p14 v14 H17 n14 e17 hp14 hv14 => ?_
      · rw [← few_alt]
        refine eld_lcR1 (n := 200) (fun k => t2 ((0 + (k : Int)) % 2 * 2) 1) (fun k => .inr ⟨[_, _], rfl⟩) (ea_cons ev_c ea_nil) rfl (by decide) (fun _ => rfl) fun k H' _ hk => ?_
        exact ed_tup (eda_cons (ed_int (ev_op (ev_op (ev_var rfl) ev_c (rv_I (by decide))) ev_c (rv_I (Sm.cm (a := 3) (show ((0 + (k : Int)) % 2).natAbs < 2 ^ 3 by omega) sm2 (by decide))))) (eda_cons (ed_int ev_c) eda_nil)) (Nat.le_of_ble_eq_true rfl)
      have e17' := (e15'.trans e16).trans e17
      have hrow17 := hrow9.ex e17'
      have hkv17 := hkv9.ex e17'
      have hmany : DV K H17 (.ref p14) (rd (altRow 200)) := by
        unfold rd
        rw [altRow_d]
        exact .lst (sq_of hp14) hv14
      have far := far_row
      have hfit1 : Fit [(1, 1000)] := fit_one (.inr (.inl rfl)) (by decide) (fun _ => by decide) (by decide)
      refine s_retD (K := K) (d := .bool true) (ed_bl ?_) fun w H18 e18 hw => q w H18 ((eE9.trans e17').trans e18) hw
      refine ev_is (ev_andV (ev_eqD (d := rd r) (e := rd r) (ed_var rfl hrow17) (ed_var rfl hkv17) (shaped_rd _) (shaped_rd _)) fun _ => ev_andV (ev_eqD (d := rd (altRow 200)) (e := rd (altRow 200)) (ed_callXL (eda_cons (ed_callX (eda_cons (ed_var rfl hmany) eda_nil) ⟨altRow 200, rfl, altRow_fit, rfl⟩) eda_nil) ⟨altRow 200, rfl, altRow_fit, rfl⟩) (ed_var rfl hmany) (shaped_rd _) (shaped_rd _)) fun _ =>
        ev_op (ev_intD (ed_ixT (j := 0) (ed_callX (eda_cons (d := rd [(1, 1000)]) (EvLD.ev (eld_lst (eda_cons (ed_tup (eda_cons (ed_int ev_c) (eda_cons (ed_int ev_c) eda_nil)) (Nat.le_of_ble_eq_true rfl)) eda_nil) (Nat.le_of_ble_eq_true rfl))) eda_nil) ⟨[(1, 1000)], rfl, hfit1, rfl⟩) ev_c rfl rfl)) (ev_op ev_c ev_c (rv_I ⟨by decide, by decide⟩)) rv_I0) ?_
      rw [eqv_same (shaped_rd _), eqv_same (shaped_rd _)]
      exact congrArg V.bl (by rw [decide_eq_true far_row]; rfl)

theorem all_mk {P : Program} {w : World} {K : PySem.W.Frag} {h : Heap} {mg : Str → Option Value} {fa : Addr} (X : K.In h) (G : h.Ns mainGlobals mg) (hfa : mg "law" = some (.ref fa)) (ht : P.given.tree = none)
    {f0 : Addr} {od0 an0 : Option Addr} {sl0 : Array (Option Value)} {oc0 kV0 dc0 pm0 cd0 ct0 : Value}
    {f1 : Addr} {od1 an1 : Option Addr} {sl1 : Array (Option Value)} {oc1 kV1 dc1 pm1 cd1 ct1 : Value}
    {f2 : Addr} {od2 an2 : Option Addr} {sl2 : Array (Option Value)} {oc2 kV2 dc2 pm2 cd2 ct2 : Value}
    {f3 : Addr} {od3 an3 : Option Addr} {sl3 : Array (Option Value)} {oc3 kV3 dc3 pm3 cd3 ct3 : Value}
    {f4 : Addr} {od4 an4 : Option Addr} {sl4 : Array (Option Value)} {oc4 kV4 dc4 pm4 cd4 ct4 : Value}
    {f5 : Addr} {od5 an5 : Option Addr} {sl5 : Array (Option Value)} {oc5 kV5 dc5 pm5 cd5 ct5 : Value}
    {f6 : Addr} {od6 an6 : Option Addr} {sl6 : Array (Option Value)} {oc6 kV6 dc6 pm6 cd6 ct6 : Value}
    {f7 : Addr} {od7 an7 : Option Addr} {sl7 : Array (Option Value)} {oc7 kV7 dc7 pm7 cd7 ct7 : Value}
    {f8 : Addr} {od8 an8 : Option Addr} {sl8 : Array (Option Value)} {oc8 kV8 dc8 pm8 cd8 ct8 : Value}
    {f9 : Addr} {od9 an9 : Option Addr} {sl9 : Array (Option Value)} {oc9 kV9 dc9 pm9 cd9 ct9 : Value}
    {f10 : Addr} {od10 an10 : Option Addr} {sl10 : Array (Option Value)} {oc10 kV10 dc10 pm10 cd10 ct10 : Value}
    {f11 : Addr} {od11 an11 : Option Addr} {sl11 : Array (Option Value)} {oc11 kV11 dc11 pm11 cd11 ct11 : Value}
    {f12 : Addr} {od12 an12 : Option Addr} {sl12 : Array (Option Value)} {oc12 kV12 dc12 pm12 cd12 ct12 : Value}
    {f13 : Addr} {od13 an13 : Option Addr} {sl13 : Array (Option Value)} {oc13 kV13 dc13 pm13 cd13 ct13 : Value}
    {f14 : Addr} {od14 an14 : Option Addr} {sl14 : Array (Option Value)} {oc14 kV14 dc14 pm14 cd14 ct14 : Value}
    {f15 : Addr} {od15 an15 : Option Addr} {sl15 : Array (Option Value)} {oc15 kV15 dc15 pm15 cd15 ct15 : Value}
    {f16 : Addr} {od16 an16 : Option Addr} {sl16 : Array (Option Value)} {oc16 kV16 dc16 pm16 cd16 ct16 : Value}
    {f17 : Addr} {od17 an17 : Option Addr} {sl17 : Array (Option Value)} {oc17 kV17 dc17 pm17 cd17 ct17 : Value}
    {f18 : Addr} {od18 an18 : Option Addr} {sl18 : Array (Option Value)} {oc18 kV18 dc18 pm18 cd18 ct18 : Value}
    {f19 : Addr} {od19 an19 : Option Addr} {sl19 : Array (Option Value)} {oc19 kV19 dc19 pm19 cd19 ct19 : Value}
    {f20 : Addr} {od20 an20 : Option Addr} {sl20 : Array (Option Value)} {oc20 kV20 dc20 pm20 cd20 ct20 : Value}
    {f21 : Addr} {od21 an21 : Option Addr} {sl21 : Array (Option Value)} {oc21 kV21 dc21 pm21 cd21 ct21 : Value}
    {f22 : Addr} {od22 an22 : Option Addr} {sl22 : Array (Option Value)} {oc22 kV22 dc22 pm22 cd22 ct22 : Value}
    {f23 : Addr} {od23 an23 : Option Addr} {sl23 : Array (Option Value)} {oc23 kV23 dc23 pm23 cd23 ct23 : Value}
    {f24 : Addr} {od24 an24 : Option Addr} {sl24 : Array (Option Value)} {oc24 kV24 dc24 pm24 cd24 ct24 : Value}
    {f25 : Addr} {od25 an25 : Option Addr} {sl25 : Array (Option Value)} {oc25 kV25 dc25 pm25 cd25 ct25 : Value}
    {f26 : Addr} {od26 an26 : Option Addr} {sl26 : Array (Option Value)} {oc26 kV26 dc26 pm26 cd26 ct26 : Value}
    {f27 : Addr} {od27 an27 : Option Addr} {sl27 : Array (Option Value)} {oc27 kV27 dc27 pm27 cd27 ct27 : Value}
    {f28 : Addr} {od28 an28 : Option Addr} {sl28 : Array (Option Value)} {oc28 kV28 dc28 pm28 cd28 ct28 : Value}
    {f29 : Addr} {od29 an29 : Option Addr} {sl29 : Array (Option Value)} {oc29 kV29 dc29 pm29 cd29 ct29 : Value}
    {f30 : Addr} {od30 an30 : Option Addr} {sl30 : Array (Option Value)} {oc30 kV30 dc30 pm30 cd30 ct30 : Value}
    {f31 : Addr} {od31 an31 : Option Addr} {sl31 : Array (Option Value)} {oc31 kV31 dc31 pm31 cd31 ct31 : Value}
    {f32 : Addr} {od32 an32 : Option Addr} {sl32 : Array (Option Value)} {oc32 kV32 dc32 pm32 cd32 ct32 : Value}
    {f33 : Addr} {od33 an33 : Option Addr} {sl33 : Array (Option Value)} {oc33 kV33 dc33 pm33 cd33 ct33 : Value}
    {f34 : Addr} {od34 an34 : Option Addr} {sl34 : Array (Option Value)} {oc34 kV34 dc34 pm34 cd34 ct34 : Value}
    {f35 : Addr} {od35 an35 : Option Addr} {sl35 : Array (Option Value)} {oc35 kV35 dc35 pm35 cd35 ct35 : Value}
    {f36 : Addr} {od36 an36 : Option Addr} {sl36 : Array (Option Value)} {oc36 kV36 dc36 pm36 cd36 ct36 : Value}
    {f37 : Addr} {od37 an37 : Option Addr} {sl37 : Array (Option Value)} {oc37 kV37 dc37 pm37 cd37 ct37 : Value}
    {f38 : Addr} {od38 an38 : Option Addr} {sl38 : Array (Option Value)} {oc38 kV38 dc38 pm38 cd38 ct38 : Value}
    {f39 : Addr} {od39 an39 : Option Addr} {sl39 : Array (Option Value)} {oc39 kV39 dc39 pm39 cd39 ct39 : Value}
    {aR : Addr} {tL tM tA tZ t1 t2 : Tok} {dR : Option Addr} {nR : Nat} {slR : Array (Option Value)}
    {e0 e1 e2 e3 e4 eT : Addr}
    (a0 : PySem.W.nsIn K mainGlobals "is_whole" = some (some (.ref f0)))
    (l0 : K.lookup f0 = some ⟨oc0, od0, .func (PySem.W.fnOf "is_whole" "is_whole" (defArgs s_is_whole) (defBody s_is_whole) (defScope s_is_whole) .none kV0 dc0 pm0 an0 cd0 ct0), sl0⟩)
    (c0 : PySem.W.codeIn K cd0 "is_whole" = true)
    (k0 : PySem.W.keepIn K (.ref f0) = true)
    (a1 : PySem.W.nsIn K mainGlobals "are_whole" = some (some (.ref f1)))
    (l1 : K.lookup f1 = some ⟨oc1, od1, .func (PySem.W.fnOf "are_whole" "are_whole" (defArgs s_are_whole) (defBody s_are_whole) (defScope s_are_whole) .none kV1 dc1 pm1 an1 cd1 ct1), sl1⟩)
    (c1 : PySem.W.codeIn K cd1 "are_whole" = true)
    (k1 : PySem.W.keepIn K (.ref f1) = true)
    (a2 : PySem.W.nsIn K mainGlobals "is_side" = some (some (.ref f2)))
    (l2 : K.lookup f2 = some ⟨oc2, od2, .func (PySem.W.fnOf "is_side" "is_side" (defArgs s_is_side) (defBody s_is_side) (defScope s_is_side) .none kV2 dc2 pm2 an2 cd2 ct2), sl2⟩)
    (c2 : PySem.W.codeIn K cd2 "is_side" = true)
    (k2 : PySem.W.keepIn K (.ref f2) = true)
    (a3 : PySem.W.nsIn K mainGlobals "is_pair" = some (some (.ref f3)))
    (l3 : K.lookup f3 = some ⟨oc3, od3, .func (PySem.W.fnOf "is_pair" "is_pair" (defArgs s_is_pair) (defBody s_is_pair) (defScope s_is_pair) .none kV3 dc3 pm3 an3 cd3 ct3), sl3⟩)
    (c3 : PySem.W.codeIn K cd3 "is_pair" = true)
    (k3 : PySem.W.keepIn K (.ref f3) = true)
    (a4 : PySem.W.nsIn K mainGlobals "formed" = some (some (.ref f4)))
    (l4 : K.lookup f4 = some ⟨oc4, od4, .func (PySem.W.fnOf "formed" "formed" (defArgs s_formed) (defBody s_formed) (defScope s_formed) .none kV4 dc4 pm4 an4 cd4 ct4), sl4⟩)
    (c4 : PySem.W.codeIn K cd4 "formed" = true)
    (k4 : PySem.W.keepIn K (.ref f4) = true)
    (a5 : PySem.W.nsIn K mainGlobals "pair_of" = some (some (.ref f5)))
    (l5 : K.lookup f5 = some ⟨oc5, od5, .func (PySem.W.fnOf "pair_of" "pair_of" (defArgs s_pair_of) (defBody s_pair_of) (defScope s_pair_of) .none kV5 dc5 pm5 an5 cd5 ct5), sl5⟩)
    (c5 : PySem.W.codeIn K cd5 "pair_of" = true)
    (k5 : PySem.W.keepIn K (.ref f5) = true)
    (a6 : PySem.W.nsIn K mainGlobals "triple_of" = some (some (.ref f6)))
    (l6 : K.lookup f6 = some ⟨oc6, od6, .func (PySem.W.fnOf "triple_of" "triple_of" (defArgs s_triple_of) (defBody s_triple_of) (defScope s_triple_of) .none kV6 dc6 pm6 an6 cd6 ct6), sl6⟩)
    (c6 : PySem.W.codeIn K cd6 "triple_of" = true)
    (k6 : PySem.W.keepIn K (.ref f6) = true)
    (a7 : PySem.W.nsIn K mainGlobals "stepped" = some (some (.ref f7)))
    (l7 : K.lookup f7 = some ⟨oc7, od7, .func (PySem.W.fnOf "stepped" "stepped" (defArgs s_stepped) (defBody s_stepped) (defScope s_stepped) .none kV7 dc7 pm7 an7 cd7 ct7), sl7⟩)
    (c7 : PySem.W.codeIn K cd7 "stepped" = true)
    (k7 : PySem.W.keepIn K (.ref f7) = true)
    (a8 : PySem.W.nsIn K mainGlobals "back" = some (some (.ref f8)))
    (l8 : K.lookup f8 = some ⟨oc8, od8, .func (PySem.W.fnOf "back" "back" (defArgs s_back) (defBody s_back) (defScope s_back) .none kV8 dc8 pm8 an8 cd8 ct8), sl8⟩)
    (c8 : PySem.W.codeIn K cd8 "back" = true)
    (k8 : PySem.W.keepIn K (.ref f8) = true)
    (a9 : PySem.W.nsIn K mainGlobals "by_row" = some (some (.ref f9)))
    (l9 : K.lookup f9 = some ⟨oc9, od9, .func (PySem.W.fnOf "by_row" "by_row" (defArgs s_by_row) (defBody s_by_row) (defScope s_by_row) .none kV9 dc9 pm9 an9 cd9 ct9), sl9⟩)
    (c9 : PySem.W.codeIn K cd9 "by_row" = true)
    (k9 : PySem.W.keepIn K (.ref f9) = true)
    (a10 : PySem.W.nsIn K mainGlobals "row_of" = some (some (.ref f10)))
    (l10 : K.lookup f10 = some ⟨oc10, od10, .func (PySem.W.fnOf "row_of" "row_of" (defArgs s_row_of) (defBody s_row_of) (defScope s_row_of) .none kV10 dc10 pm10 an10 cd10 ct10), sl10⟩)
    (c10 : PySem.W.codeIn K cd10 "row_of" = true)
    (k10 : PySem.W.keepIn K (.ref f10) = true)
    (a11 : PySem.W.nsIn K mainGlobals "_is_step" = some (some (.ref f11)))
    (l11 : K.lookup f11 = some ⟨oc11, od11, .func (PySem.W.fnOf "_is_step" "_is_step" (defArgs s__is_step) (defBody s__is_step) (defScope s__is_step) .none kV11 dc11 pm11 an11 cd11 ct11), sl11⟩)
    (c11 : PySem.W.codeIn K cd11 "_is_step" = true)
    (k11 : PySem.W.keepIn K (.ref f11) = true)
    (a12 : PySem.W.nsIn K mainGlobals "_is_row" = some (some (.ref f12)))
    (l12 : K.lookup f12 = some ⟨oc12, od12, .func (PySem.W.fnOf "_is_row" "_is_row" (defArgs s__is_row) (defBody s__is_row) (defScope s__is_row) .none kV12 dc12 pm12 an12 cd12 ct12), sl12⟩)
    (c12 : PySem.W.codeIn K cd12 "_is_row" = true)
    (k12 : PySem.W.keepIn K (.ref f12) = true)
    (a13 : PySem.W.nsIn K mainGlobals "_is_part" = some (some (.ref f13)))
    (l13 : K.lookup f13 = some ⟨oc13, od13, .func (PySem.W.fnOf "_is_part" "_is_part" (defArgs s__is_part) (defBody s__is_part) (defScope s__is_part) .none kV13 dc13 pm13 an13 cd13 ct13), sl13⟩)
    (c13 : PySem.W.codeIn K cd13 "_is_part" = true)
    (k13 : PySem.W.keepIn K (.ref f13) = true)
    (a14 : PySem.W.nsIn K mainGlobals "_led" = some (some (.ref f14)))
    (l14 : K.lookup f14 = some ⟨oc14, od14, .func (PySem.W.fnOf "_led" "_led" (defArgs s__led) (defBody s__led) (defScope s__led) .none kV14 dc14 pm14 an14 cd14 ct14), sl14⟩)
    (c14 : PySem.W.codeIn K cd14 "_led" = true)
    (k14 : PySem.W.keepIn K (.ref f14) = true)
    (a15 : PySem.W.nsIn K mainGlobals "_led_back" = some (some (.ref f15)))
    (l15 : K.lookup f15 = some ⟨oc15, od15, .func (PySem.W.fnOf "_led_back" "_led_back" (defArgs s__led_back) (defBody s__led_back) (defScope s__led_back) .none kV15 dc15 pm15 an15 cd15 ct15), sl15⟩)
    (c15 : PySem.W.codeIn K cd15 "_led_back" = true)
    (k15 : PySem.W.keepIn K (.ref f15) = true)
    (a16 : PySem.W.nsIn K mainGlobals "_pell" = some (some (.ref f16)))
    (l16 : K.lookup f16 = some ⟨oc16, od16, .func (PySem.W.fnOf "_pell" "_pell" (defArgs s__pell) (defBody s__pell) (defScope s__pell) .none kV16 dc16 pm16 an16 cd16 ct16), sl16⟩)
    (c16 : PySem.W.codeIn K cd16 "_pell" = true)
    (k16 : PySem.W.keepIn K (.ref f16) = true)
    (a17 : PySem.W.nsIn K mainGlobals "_last_step" = some (some (.ref f17)))
    (l17 : K.lookup f17 = some ⟨oc17, od17, .func (PySem.W.fnOf "_last_step" "_last_step" (defArgs s__last_step) (defBody s__last_step) (defScope s__last_step) .none kV17 dc17 pm17 an17 cd17 ct17), sl17⟩)
    (c17 : PySem.W.codeIn K cd17 "_last_step" = true)
    (k17 : PySem.W.keepIn K (.ref f17) = true)
    (a18 : PySem.W.nsIn K mainGlobals "_last_times" = some (some (.ref f18)))
    (l18 : K.lookup f18 = some ⟨oc18, od18, .func (PySem.W.fnOf "_last_times" "_last_times" (defArgs s__last_times) (defBody s__last_times) (defScope s__last_times) .none kV18 dc18 pm18 an18 cd18 ct18), sl18⟩)
    (c18 : PySem.W.codeIn K cd18 "_last_times" = true)
    (k18 : PySem.W.keepIn K (.ref f18) = true)
    (a19 : PySem.W.nsIn K mainGlobals "_last_times_of_1" = some (some (.ref f19)))
    (l19 : K.lookup f19 = some ⟨oc19, od19, .func (PySem.W.fnOf "_last_times_of_1" "_last_times_of_1" (defArgs s__last_times_of_1) (defBody s__last_times_of_1) (defScope s__last_times_of_1) .none kV19 dc19 pm19 an19 cd19 ct19), sl19⟩)
    (c19 : PySem.W.codeIn K cd19 "_last_times_of_1" = true)
    (k19 : PySem.W.keepIn K (.ref f19) = true)
    (a20 : PySem.W.nsIn K mainGlobals "longest" = some (some (.ref f20)))
    (l20 : K.lookup f20 = some ⟨oc20, od20, .func (PySem.W.fnOf "longest" "longest" (defArgs s_longest) (defBody s_longest) (defScope s_longest) .none kV20 dc20 pm20 an20 cd20 ct20), sl20⟩)
    (c20 : PySem.W.codeIn K cd20 "longest" = true)
    (k20 : PySem.W.keepIn K (.ref f20) = true)
    (a21 : PySem.W.nsIn K mainGlobals "leg" = some (some (.ref f21)))
    (l21 : K.lookup f21 = some ⟨oc21, od21, .func (PySem.W.fnOf "leg" "leg" (defArgs s_leg) (defBody s_leg) (defScope s_leg) .none kV21 dc21 pm21 an21 cd21 ct21), sl21⟩)
    (c21 : PySem.W.codeIn K cd21 "leg" = true)
    (k21 : PySem.W.keepIn K (.ref f21) = true)
    (a22 : PySem.W.nsIn K mainGlobals "_check_side" = some (some (.ref f22)))
    (l22 : K.lookup f22 = some ⟨oc22, od22, .func (PySem.W.fnOf "_check_side" "_check_side" (defArgs s__check_side) (defBody s__check_side) (defScope s__check_side) .none kV22 dc22 pm22 an22 cd22 ct22), sl22⟩)
    (c22 : PySem.W.codeIn K cd22 "_check_side" = true)
    (k22 : PySem.W.keepIn K (.ref f22) = true)
    (a23 : PySem.W.nsIn K mainGlobals "_law_cell_at" = some (some (.ref f23)))
    (l23 : K.lookup f23 = some ⟨oc23, od23, .func (PySem.W.fnOf "_law_cell_at" "_law_cell_at" (defArgs s__law_cell_at) (defBody s__law_cell_at) (defScope s__law_cell_at) .none kV23 dc23 pm23 an23 cd23 ct23), sl23⟩)
    (c23 : PySem.W.codeIn K cd23 "_law_cell_at" = true)
    (k23 : PySem.W.keepIn K (.ref f23) = true)
    (a24 : PySem.W.nsIn K mainGlobals "_law_draw" = some (some (.ref f24)))
    (l24 : K.lookup f24 = some ⟨oc24, od24, .func (PySem.W.fnOf "_law_draw" "_law_draw" (defArgs s__law_draw) (defBody s__law_draw) (defScope s__law_draw) .none kV24 dc24 pm24 an24 cd24 ct24), sl24⟩)
    (c24 : PySem.W.codeIn K cd24 "_law_draw" = true)
    (k24 : PySem.W.keepIn K (.ref f24) = true)
    (a25 : PySem.W.nsIn K mainGlobals "_law_value" = some (some (.ref f25)))
    (l25 : K.lookup f25 = some ⟨oc25, od25, .func (PySem.W.fnOf "_law_value" "_law_value" (defArgs s__law_value) (defBody s__law_value) (defScope s__law_value) .none kV25 dc25 pm25 an25 cd25 ct25), sl25⟩)
    (c25 : PySem.W.codeIn K cd25 "_law_value" = true)
    (k25 : PySem.W.keepIn K (.ref f25) = true)
    (a26 : PySem.W.nsIn K mainGlobals "_law_row" = some (some (.ref f26)))
    (l26 : K.lookup f26 = some ⟨oc26, od26, .func (PySem.W.fnOf "_law_row" "_law_row" (defArgs s__law_row) (defBody s__law_row) (defScope s__law_row) .none kV26 dc26 pm26 an26 cd26 ct26), sl26⟩)
    (c26 : PySem.W.codeIn K cd26 "_law_row" = true)
    (k26 : PySem.W.keepIn K (.ref f26) = true)
    (a27 : PySem.W.nsIn K mainGlobals "_law_led" = some (some (.ref f27)))
    (l27 : K.lookup f27 = some ⟨oc27, od27, .func (PySem.W.fnOf "_law_led" "_law_led" (defArgs s__law_led) (defBody s__law_led) (defScope s__law_led) .none kV27 dc27 pm27 an27 cd27 ct27), sl27⟩)
    (c27 : PySem.W.codeIn K cd27 "_law_led" = true)
    (k27 : PySem.W.keepIn K (.ref f27) = true)
    (a28 : PySem.W.nsIn K mainGlobals "_law_behind" = some (some (.ref f28)))
    (l28 : K.lookup f28 = some ⟨oc28, od28, .func (PySem.W.fnOf "_law_behind" "_law_behind" (defArgs s__law_behind) (defBody s__law_behind) (defScope s__law_behind) .none kV28 dc28 pm28 an28 cd28 ct28), sl28⟩)
    (c28 : PySem.W.codeIn K cd28 "_law_behind" = true)
    (k28 : PySem.W.keepIn K (.ref f28) = true)
    (a29 : PySem.W.nsIn K mainGlobals "_law_triple" = some (some (.ref f29)))
    (l29 : K.lookup f29 = some ⟨oc29, od29, .func (PySem.W.fnOf "_law_triple" "_law_triple" (defArgs s__law_triple) (defBody s__law_triple) (defScope s__law_triple) .none kV29 dc29 pm29 an29 cd29 ct29), sl29⟩)
    (c29 : PySem.W.codeIn K cd29 "_law_triple" = true)
    (k29 : PySem.W.keepIn K (.ref f29) = true)
    (a30 : PySem.W.nsIn K mainGlobals "_law_kinds" = some (some (.ref f30)))
    (l30 : K.lookup f30 = some ⟨oc30, od30, .func (PySem.W.fnOf "_law_kinds" "_law_kinds" (defArgs s__law_kinds) (defBody s__law_kinds) (defScope s__law_kinds) .none kV30 dc30 pm30 an30 cd30 ct30), sl30⟩)
    (c30 : PySem.W.codeIn K cd30 "_law_kinds" = true)
    (k30 : PySem.W.keepIn K (.ref f30) = true)
    (a31 : PySem.W.nsIn K mainGlobals "_law_with_triple" = some (some (.ref f31)))
    (l31 : K.lookup f31 = some ⟨oc31, od31, .func (PySem.W.fnOf "_law_with_triple" "_law_with_triple" (defArgs s__law_with_triple) (defBody s__law_with_triple) (defScope s__law_with_triple) .none kV31 dc31 pm31 an31 cd31 ct31), sl31⟩)
    (c31 : PySem.W.codeIn K cd31 "_law_with_triple" = true)
    (k31 : PySem.W.keepIn K (.ref f31) = true)
    (a32 : PySem.W.nsIn K mainGlobals "_law_with_pair" = some (some (.ref f32)))
    (l32 : K.lookup f32 = some ⟨oc32, od32, .func (PySem.W.fnOf "_law_with_pair" "_law_with_pair" (defArgs s__law_with_pair) (defBody s__law_with_pair) (defScope s__law_with_pair) .none kV32 dc32 pm32 an32 cd32 ct32), sl32⟩)
    (c32 : PySem.W.codeIn K cd32 "_law_with_pair" = true)
    (k32 : PySem.W.keepIn K (.ref f32) = true)
    (a33 : PySem.W.nsIn K mainGlobals "_law_with_step" = some (some (.ref f33)))
    (l33 : K.lookup f33 = some ⟨oc33, od33, .func (PySem.W.fnOf "_law_with_step" "_law_with_step" (defArgs s__law_with_step) (defBody s__law_with_step) (defScope s__law_with_step) .none kV33 dc33 pm33 an33 cd33 ct33), sl33⟩)
    (c33 : PySem.W.codeIn K cd33 "_law_with_step" = true)
    (k33 : PySem.W.keepIn K (.ref f33) = true)
    (a34 : PySem.W.nsIn K mainGlobals "_law_with_row" = some (some (.ref f34)))
    (l34 : K.lookup f34 = some ⟨oc34, od34, .func (PySem.W.fnOf "_law_with_row" "_law_with_row" (defArgs s__law_with_row) (defBody s__law_with_row) (defScope s__law_with_row) .none kV34 dc34 pm34 an34 cd34 ct34), sl34⟩)
    (c34 : PySem.W.codeIn K cd34 "_law_with_row" = true)
    (k34 : PySem.W.keepIn K (.ref f34) = true)
    (a35 : PySem.W.nsIn K mainGlobals "_law_with_number" = some (some (.ref f35)))
    (l35 : K.lookup f35 = some ⟨oc35, od35, .func (PySem.W.fnOf "_law_with_number" "_law_with_number" (defArgs s__law_with_number) (defBody s__law_with_number) (defScope s__law_with_number) .none kV35 dc35 pm35 an35 cd35 ct35), sl35⟩)
    (c35 : PySem.W.codeIn K cd35 "_law_with_number" = true)
    (k35 : PySem.W.keepIn K (.ref f35) = true)
    (a36 : PySem.W.nsIn K mainGlobals "_law_told" = some (some (.ref f36)))
    (l36 : K.lookup f36 = some ⟨oc36, od36, .func (PySem.W.fnOf "_law_told" "_law_told" (defArgs s__law_told) (defBody s__law_told) (defScope s__law_told) .none kV36 dc36 pm36 an36 cd36 ct36), sl36⟩)
    (c36 : PySem.W.codeIn K cd36 "_law_told" = true)
    (k36 : PySem.W.keepIn K (.ref f36) = true)
    (a37 : PySem.W.nsIn K mainGlobals "_law_all" = some (some (.ref f37)))
    (l37 : K.lookup f37 = some ⟨oc37, od37, .func (PySem.W.fnOf "_law_all" "_law_all" (defArgs s__law_all) (defBody s__law_all) (defScope s__law_all) .none kV37 dc37 pm37 an37 cd37 ct37), sl37⟩)
    (c37 : PySem.W.codeIn K cd37 "_law_all" = true)
    (k37 : PySem.W.keepIn K (.ref f37) = true)
    (a38 : PySem.W.nsIn K mainGlobals "_law_bad_rows" = some (some (.ref f38)))
    (l38 : K.lookup f38 = some ⟨oc38, od38, .func (PySem.W.fnOf "_law_bad_rows" "_law_bad_rows" (defArgs s__law_bad_rows) (defBody s__law_bad_rows) (defScope s__law_bad_rows) .none kV38 dc38 pm38 an38 cd38 ct38), sl38⟩)
    (c38 : PySem.W.codeIn K cd38 "_law_bad_rows" = true)
    (k38 : PySem.W.keepIn K (.ref f38) = true)
    (a39 : PySem.W.nsIn K mainGlobals "law" = some (some (.ref f39)))
    (l39 : K.lookup f39 = some ⟨oc39, od39, .func (PySem.W.fnOf "law" "law" (defArgs s_law) (defBody s_law) (defScope s_law) .none kV39 dc39 pm39 an39 cd39 ct39), sl39⟩)
    (c39 : PySem.W.codeIn K cd39 "law" = true)
    (k39 : PySem.W.keepIn K (.ref f39) = true)
    (z_isinstance : PySem.W.nsIn K mainGlobals "isinstance" = some none)
    (z_int : PySem.W.nsIn K mainGlobals "int" = some none)
    (z_bool : PySem.W.nsIn K mainGlobals "bool" = some none)
    (z_tuple : PySem.W.nsIn K mainGlobals "tuple" = some none)
    (z_list : PySem.W.nsIn K mainGlobals "list" = some none)
    (z_len : PySem.W.nsIn K mainGlobals "len" = some none)
    (z_all : PySem.W.nsIn K mainGlobals "all" = some none)
    (z_range : PySem.W.nsIn K mainGlobals "range" = some none)
    (z_enumerate : PySem.W.nsIn K mainGlobals "enumerate" = some none)
    (z_sorted : PySem.W.nsIn K mainGlobals "sorted" = some none)
    (z_ValueError : PySem.W.nsIn K mainGlobals "ValueError" = some none)
    (z_isqrt : PySem.W.nsIn K mainGlobals "isqrt" = some (some (.builtin "math.isqrt")))
    (z_gcd : PySem.W.nsIn K mainGlobals "gcd" = some (some (.builtin "math.gcd")))
    (z_R : PySem.W.nsIn K mainGlobals "ROOT" = some (some (.ref aR)))
    (l_R : K.lookup aR = some ⟨.type "tuple", dR, .seq #[.int 2 t1, .int 1 t2] nR, slR⟩)
    (z_L : PySem.W.nsIn K mainGlobals "LONGEST_ROW" = some (some (.int 200 tL)))
    (z_M : PySem.W.nsIn K mainGlobals "MOST_OF_STEP_1" = some (some (.int 1000 tM)))
    (z_A : PySem.W.nsIn K mainGlobals "LEAST" = some (some (.int 2 tA)))
    (z_Z : PySem.W.nsIn K mainGlobals "GREATEST" = some (some (.int 1000000 tZ)))
    (aC_eT : PySem.W.nsIn K mainGlobals "TripleError" = some (some (.ref eT)))
    (b_eT : PySem.W.subIn K (.ref eT) (.type "BaseException") = some true)
    (t_eT : PySem.W.typeIn K (.ref eT) = some (.type "type"))
    (d_eT : PySem.W.hasDictIn K eT = true)
    (aC_e0 : PySem.W.nsIn K mainGlobals "BadTriple" = some (some (.ref e0)))
    (b_e0 : PySem.W.subIn K (.ref e0) (.type "BaseException") = some true)
    (t_e0 : PySem.W.typeIn K (.ref e0) = some (.type "type"))
    (d_e0 : PySem.W.hasDictIn K e0 = true)
    (x_e0 : PySem.W.excIn K e0 [.type "ValueError", .type "Exception", .type "BaseException", .type "object"] "ValueError.__new__" = true)
    (y_e0 : PySem.W.keepIn K (.ref e0) = true)
    (hg_e0 : PySem.W.findIn K (.ref e0) "__getattribute__" = some (some (.builtin "BaseException.__getattribute__")))
    (hk_e0 : PySem.W.findIn K (.ref e0) "__getattr__" = some none)
    (ha_e0 : PySem.W.findIn K (.ref e0) "__class__" = some (some (.builtin "object.__class__")))
    (hm_e0 : PySem.W.mroIn K e0 (.type "object") = some true)
    (v_e0 : PySem.W.subIn K (.ref e0) (.type "ValueError") = some true)
    (u_e0 : PySem.W.subIn K (.ref e0) (.ref eT) = some true)
    (sub_e0_e1 : PySem.W.subIn K (.ref e0) (.ref e1) = some false)
    (ne_e0_e1 : (e0 == e1) = false)
    (sub_e0_e2 : PySem.W.subIn K (.ref e0) (.ref e2) = some false)
    (ne_e0_e2 : (e0 == e2) = false)
    (sub_e0_e3 : PySem.W.subIn K (.ref e0) (.ref e3) = some false)
    (ne_e0_e3 : (e0 == e3) = false)
    (sub_e0_e4 : PySem.W.subIn K (.ref e0) (.ref e4) = some false)
    (ne_e0_e4 : (e0 == e4) = false)
    (aC_e1 : PySem.W.nsIn K mainGlobals "BadPair" = some (some (.ref e1)))
    (b_e1 : PySem.W.subIn K (.ref e1) (.type "BaseException") = some true)
    (t_e1 : PySem.W.typeIn K (.ref e1) = some (.type "type"))
    (d_e1 : PySem.W.hasDictIn K e1 = true)
    (x_e1 : PySem.W.excIn K e1 [.type "ValueError", .type "Exception", .type "BaseException", .type "object"] "ValueError.__new__" = true)
    (y_e1 : PySem.W.keepIn K (.ref e1) = true)
    (hg_e1 : PySem.W.findIn K (.ref e1) "__getattribute__" = some (some (.builtin "BaseException.__getattribute__")))
    (hk_e1 : PySem.W.findIn K (.ref e1) "__getattr__" = some none)
    (ha_e1 : PySem.W.findIn K (.ref e1) "__class__" = some (some (.builtin "object.__class__")))
    (hm_e1 : PySem.W.mroIn K e1 (.type "object") = some true)
    (v_e1 : PySem.W.subIn K (.ref e1) (.type "ValueError") = some true)
    (u_e1 : PySem.W.subIn K (.ref e1) (.ref eT) = some true)
    (sub_e1_e0 : PySem.W.subIn K (.ref e1) (.ref e0) = some false)
    (ne_e1_e0 : (e1 == e0) = false)
    (sub_e1_e2 : PySem.W.subIn K (.ref e1) (.ref e2) = some false)
    (ne_e1_e2 : (e1 == e2) = false)
    (sub_e1_e3 : PySem.W.subIn K (.ref e1) (.ref e3) = some false)
    (ne_e1_e3 : (e1 == e3) = false)
    (sub_e1_e4 : PySem.W.subIn K (.ref e1) (.ref e4) = some false)
    (ne_e1_e4 : (e1 == e4) = false)
    (aC_e2 : PySem.W.nsIn K mainGlobals "BadStep" = some (some (.ref e2)))
    (b_e2 : PySem.W.subIn K (.ref e2) (.type "BaseException") = some true)
    (t_e2 : PySem.W.typeIn K (.ref e2) = some (.type "type"))
    (d_e2 : PySem.W.hasDictIn K e2 = true)
    (x_e2 : PySem.W.excIn K e2 [.type "ValueError", .type "Exception", .type "BaseException", .type "object"] "ValueError.__new__" = true)
    (y_e2 : PySem.W.keepIn K (.ref e2) = true)
    (hg_e2 : PySem.W.findIn K (.ref e2) "__getattribute__" = some (some (.builtin "BaseException.__getattribute__")))
    (hk_e2 : PySem.W.findIn K (.ref e2) "__getattr__" = some none)
    (ha_e2 : PySem.W.findIn K (.ref e2) "__class__" = some (some (.builtin "object.__class__")))
    (hm_e2 : PySem.W.mroIn K e2 (.type "object") = some true)
    (v_e2 : PySem.W.subIn K (.ref e2) (.type "ValueError") = some true)
    (u_e2 : PySem.W.subIn K (.ref e2) (.ref eT) = some true)
    (sub_e2_e0 : PySem.W.subIn K (.ref e2) (.ref e0) = some false)
    (ne_e2_e0 : (e2 == e0) = false)
    (sub_e2_e1 : PySem.W.subIn K (.ref e2) (.ref e1) = some false)
    (ne_e2_e1 : (e2 == e1) = false)
    (sub_e2_e3 : PySem.W.subIn K (.ref e2) (.ref e3) = some false)
    (ne_e2_e3 : (e2 == e3) = false)
    (sub_e2_e4 : PySem.W.subIn K (.ref e2) (.ref e4) = some false)
    (ne_e2_e4 : (e2 == e4) = false)
    (aC_e3 : PySem.W.nsIn K mainGlobals "BadRow" = some (some (.ref e3)))
    (b_e3 : PySem.W.subIn K (.ref e3) (.type "BaseException") = some true)
    (t_e3 : PySem.W.typeIn K (.ref e3) = some (.type "type"))
    (d_e3 : PySem.W.hasDictIn K e3 = true)
    (x_e3 : PySem.W.excIn K e3 [.type "ValueError", .type "Exception", .type "BaseException", .type "object"] "ValueError.__new__" = true)
    (y_e3 : PySem.W.keepIn K (.ref e3) = true)
    (hg_e3 : PySem.W.findIn K (.ref e3) "__getattribute__" = some (some (.builtin "BaseException.__getattribute__")))
    (hk_e3 : PySem.W.findIn K (.ref e3) "__getattr__" = some none)
    (ha_e3 : PySem.W.findIn K (.ref e3) "__class__" = some (some (.builtin "object.__class__")))
    (hm_e3 : PySem.W.mroIn K e3 (.type "object") = some true)
    (v_e3 : PySem.W.subIn K (.ref e3) (.type "ValueError") = some true)
    (u_e3 : PySem.W.subIn K (.ref e3) (.ref eT) = some true)
    (sub_e3_e0 : PySem.W.subIn K (.ref e3) (.ref e0) = some false)
    (ne_e3_e0 : (e3 == e0) = false)
    (sub_e3_e1 : PySem.W.subIn K (.ref e3) (.ref e1) = some false)
    (ne_e3_e1 : (e3 == e1) = false)
    (sub_e3_e2 : PySem.W.subIn K (.ref e3) (.ref e2) = some false)
    (ne_e3_e2 : (e3 == e2) = false)
    (sub_e3_e4 : PySem.W.subIn K (.ref e3) (.ref e4) = some false)
    (ne_e3_e4 : (e3 == e4) = false)
    (aC_e4 : PySem.W.nsIn K mainGlobals "BadNumber" = some (some (.ref e4)))
    (b_e4 : PySem.W.subIn K (.ref e4) (.type "BaseException") = some true)
    (t_e4 : PySem.W.typeIn K (.ref e4) = some (.type "type"))
    (d_e4 : PySem.W.hasDictIn K e4 = true)
    (x_e4 : PySem.W.excIn K e4 [.type "ValueError", .type "Exception", .type "BaseException", .type "object"] "ValueError.__new__" = true)
    (y_e4 : PySem.W.keepIn K (.ref e4) = true)
    (hg_e4 : PySem.W.findIn K (.ref e4) "__getattribute__" = some (some (.builtin "BaseException.__getattribute__")))
    (hk_e4 : PySem.W.findIn K (.ref e4) "__getattr__" = some none)
    (ha_e4 : PySem.W.findIn K (.ref e4) "__class__" = some (some (.builtin "object.__class__")))
    (hm_e4 : PySem.W.mroIn K e4 (.type "object") = some true)
    (v_e4 : PySem.W.subIn K (.ref e4) (.type "ValueError") = some true)
    (u_e4 : PySem.W.subIn K (.ref e4) (.ref eT) = some true)
    (sub_e4_e0 : PySem.W.subIn K (.ref e4) (.ref e0) = some false)
    (ne_e4_e0 : (e4 == e0) = false)
    (sub_e4_e1 : PySem.W.subIn K (.ref e4) (.ref e1) = some false)
    (ne_e4_e1 : (e4 == e1) = false)
    (sub_e4_e2 : PySem.W.subIn K (.ref e4) (.ref e2) = some false)
    (ne_e4_e2 : (e4 == e2) = false)
    (sub_e4_e3 : PySem.W.subIn K (.ref e4) (.ref e3) = some false)
    (ne_e4_e3 : (e4 == e3) = false)
    (hn_c : PySem.W.specialIn K (.builtin "object.__class__") "__get__" = some (some (.builtin "getset_descriptor.__get__")))
    (ht_c : PySem.W.takesIn K (.builtin "object.__class__") = some true)
    : ∃ fd : FuncData, (∀ (s : Shared) (v : Value), BindsTo s fd ⟨[v], []⟩ [("_law_script", v)]) ∧ ∀ base : Heap, K.In base → base.Ns mainGlobals mg → base.NoSeer → FnOk P w K mg base CX0 62 fa fd ["_law_script"] (spF K R_law5) := by
  have e := hfa.symm.trans (PySem.W.mg_of X G a39)
  cases e
  have T : Txt K mg aR tL tM tA tZ e0 e1 e2 e3 e4 eT := { isinstance := PySem.W.mg_none_of X G z_isinstance, int := PySem.W.mg_none_of X G z_int, bool := PySem.W.mg_none_of X G z_bool, tuple := PySem.W.mg_none_of X G z_tuple, list := PySem.W.mg_none_of X G z_list, len := PySem.W.mg_none_of X G z_len, all := PySem.W.mg_none_of X G z_all, range := PySem.W.mg_none_of X G z_range, enumerate := PySem.W.mg_none_of X G z_enumerate, sorted := PySem.W.mg_none_of X G z_sorted, ValueError := PySem.W.mg_none_of X G z_ValueError, isqrt := PySem.W.mg_of X G z_isqrt, gcd := PySem.W.mg_of X G z_gcd, ROOT := PySem.W.mg_of X G z_R, rootT := fun H => .inr ⟨_, #[.int 2 t1, .int 1 t2], nR, l_R, rfl, rfl, by show 2 ≤ sizeLine; decide, .cons ⟨_, rfl⟩ (.cons ⟨_, rfl⟩ .nil)⟩, LONGEST_ROW := PySem.W.mg_of X G z_L, MOST_OF_STEP_1 := PySem.W.mg_of X G z_M, LEAST := PySem.W.mg_of X G z_A, GREATEST := PySem.W.mg_of X G z_Z, TripleError := PySem.W.mg_of X G aC_eT, BadTriple := PySem.W.mg_of X G aC_e0, x_BadTriple := x_e0, k_BadTriple := y_e0, b_BadTriple := b_e0, t_BadTriple := t_e0, BadPair := PySem.W.mg_of X G aC_e1, x_BadPair := x_e1, k_BadPair := y_e1, b_BadPair := b_e1, t_BadPair := t_e1, BadStep := PySem.W.mg_of X G aC_e2, x_BadStep := x_e2, k_BadStep := y_e2, b_BadStep := b_e2, t_BadStep := t_e2, BadRow := PySem.W.mg_of X G aC_e3, x_BadRow := x_e3, k_BadRow := y_e3, b_BadRow := b_e3, t_BadRow := t_e3, BadNumber := PySem.W.mg_of X G aC_e4, x_BadNumber := x_e4, k_BadNumber := y_e4, b_BadNumber := b_e4, t_BadNumber := t_e4, err := ⟨fun i hi => match i, hi with
      | 0, _ => ⟨hg_e0, hk_e0, b_e0, d_e0, ha_e0, hn_c, ht_c, hm_e0⟩
      | 1, _ => ⟨hg_e1, hk_e1, b_e1, d_e1, ha_e1, hn_c, ht_c, hm_e1⟩
      | 2, _ => ⟨hg_e2, hk_e2, b_e2, d_e2, ha_e2, hn_c, ht_c, hm_e2⟩
      | 3, _ => ⟨hg_e3, hk_e3, b_e3, d_e3, ha_e3, hn_c, ht_c, hm_e3⟩
      | 4, _ => ⟨hg_e4, hk_e4, b_e4, d_e4, ha_e4, hn_c, ht_c, hm_e4⟩
      , fun i j hi hj => match i, j, hi, hj with
      | 0, 0, _, _ => kit_same
      | 0, 1, _, _ => kit_sub ne_e0_e1 d_e1 t_e1 sub_e0_e1
      | 0, 2, _, _ => kit_sub ne_e0_e2 d_e2 t_e2 sub_e0_e2
      | 0, 3, _, _ => kit_sub ne_e0_e3 d_e3 t_e3 sub_e0_e3
      | 0, 4, _, _ => kit_sub ne_e0_e4 d_e4 t_e4 sub_e0_e4
      | 1, 0, _, _ => kit_sub ne_e1_e0 d_e0 t_e0 sub_e1_e0
      | 1, 1, _, _ => kit_same
      | 1, 2, _, _ => kit_sub ne_e1_e2 d_e2 t_e2 sub_e1_e2
      | 1, 3, _, _ => kit_sub ne_e1_e3 d_e3 t_e3 sub_e1_e3
      | 1, 4, _, _ => kit_sub ne_e1_e4 d_e4 t_e4 sub_e1_e4
      | 2, 0, _, _ => kit_sub ne_e2_e0 d_e0 t_e0 sub_e2_e0
      | 2, 1, _, _ => kit_sub ne_e2_e1 d_e1 t_e1 sub_e2_e1
      | 2, 2, _, _ => kit_same
      | 2, 3, _, _ => kit_sub ne_e2_e3 d_e3 t_e3 sub_e2_e3
      | 2, 4, _, _ => kit_sub ne_e2_e4 d_e4 t_e4 sub_e2_e4
      | 3, 0, _, _ => kit_sub ne_e3_e0 d_e0 t_e0 sub_e3_e0
      | 3, 1, _, _ => kit_sub ne_e3_e1 d_e1 t_e1 sub_e3_e1
      | 3, 2, _, _ => kit_sub ne_e3_e2 d_e2 t_e2 sub_e3_e2
      | 3, 3, _, _ => kit_same
      | 3, 4, _, _ => kit_sub ne_e3_e4 d_e4 t_e4 sub_e3_e4
      | 4, 0, _, _ => kit_sub ne_e4_e0 d_e0 t_e0 sub_e4_e0
      | 4, 1, _, _ => kit_sub ne_e4_e1 d_e1 t_e1 sub_e4_e1
      | 4, 2, _, _ => kit_sub ne_e4_e2 d_e2 t_e2 sub_e4_e2
      | 4, 3, _, _ => kit_sub ne_e4_e3 d_e3 t_e3 sub_e4_e3
      | 4, 4, _, _ => kit_same
      , fun i hi => match i, hi with
      | 0, _ => kit_val v_e0
      | 1, _ => kit_val v_e1
      | 2, _ => kit_val v_e2
      | 3, _ => kit_val v_e3
      | 4, _ => kit_val v_e4
      , fun i hi => match i, hi with
      | 0, _ => PySem.W.exm_ref b_eT d_eT t_eT u_e0
      | 1, _ => PySem.W.exm_ref b_eT d_eT t_eT u_e1
      | 2, _ => PySem.W.exm_ref b_eT d_eT t_eT u_e2
      | 3, _ => PySem.W.exm_ref b_eT d_eT t_eT u_e3
      | 4, _ => PySem.W.exm_ref b_eT d_eT t_eT u_e4
      ⟩ }
  have F0 := fun_mk (st := s_is_whole) l0 c0 k0
  have b0 := F0.binds (ps := P_is_whole) fun _ _ _ _ _ _ us hl => match us, hl with | [_], _ => rfl
  have F1 := fun_mk (st := s_are_whole) l1 c1 k1
  have b1 := F1.binds (ps := P_are_whole) fun _ _ _ _ _ _ us hl => match us, hl with | [_, _], _ => rfl
  have F2 := fun_mk (st := s_is_side) l2 c2 k2
  have b2 := F2.binds (ps := P_is_side) fun _ _ _ _ _ _ us hl => match us, hl with | [_], _ => rfl
  have F3 := fun_mk (st := s_is_pair) l3 c3 k3
  have b3 := F3.binds (ps := P_is_pair) fun _ _ _ _ _ _ us hl => match us, hl with | [_], _ => rfl
  have F4 := fun_mk (st := s_formed) l4 c4 k4
  have b4 := F4.binds (ps := P_formed) fun _ _ _ _ _ _ us hl => match us, hl with | [_, _], _ => rfl
  have F5 := fun_mk (st := s_pair_of) l5 c5 k5
  have b5 := F5.binds (ps := P_pair_of) fun _ _ _ _ _ _ us hl => match us, hl with | [_], _ => rfl
  have F6 := fun_mk (st := s_triple_of) l6 c6 k6
  have b6 := F6.binds (ps := P_triple_of) fun _ _ _ _ _ _ us hl => match us, hl with | [_], _ => rfl
  have F7 := fun_mk (st := s_stepped) l7 c7 k7
  have b7 := F7.binds (ps := P_stepped) fun _ _ _ _ _ _ us hl => match us, hl with | [_, _], _ => rfl
  have F8 := fun_mk (st := s_back) l8 c8 k8
  have b8 := F8.binds (ps := P_back) fun _ _ _ _ _ _ us hl => match us, hl with | [_], _ => rfl
  have F9 := fun_mk (st := s_by_row) l9 c9 k9
  have b9 := F9.binds (ps := P_by_row) fun _ _ _ _ _ _ us hl => match us, hl with | [_], _ => rfl
  have F10 := fun_mk (st := s_row_of) l10 c10 k10
  have b10 := F10.binds (ps := P_row_of) fun _ _ _ _ _ _ us hl => match us, hl with | [_], _ => rfl
  have F11 := fun_mk (st := s__is_step) l11 c11 k11
  have b11 := F11.binds (ps := P__is_step) fun _ _ _ _ _ _ us hl => match us, hl with | [_], _ => rfl
  have F12 := fun_mk (st := s__is_row) l12 c12 k12
  have b12 := F12.binds (ps := P__is_row) fun _ _ _ _ _ _ us hl => match us, hl with | [_], _ => rfl
  have F13 := fun_mk (st := s__is_part) l13 c13 k13
  have b13 := F13.binds (ps := P__is_part) fun _ _ _ _ _ _ us hl => match us, hl with | [_], _ => rfl
  have F14 := fun_mk (st := s__led) l14 c14 k14
  have b14 := F14.binds (ps := P__led) fun _ _ _ _ _ _ us hl => match us, hl with | [_, _, _, _], _ => rfl
  have F15 := fun_mk (st := s__led_back) l15 c15 k15
  have b15 := F15.binds (ps := P__led_back) fun _ _ _ _ _ _ us hl => match us, hl with | [_, _, _, _], _ => rfl
  have F16 := fun_mk (st := s__pell) l16 c16 k16
  have b16 := F16.binds (ps := P__pell) fun _ _ _ _ _ _ us hl => match us, hl with | [_], _ => rfl
  have F17 := fun_mk (st := s__last_step) l17 c17 k17
  have b17 := F17.binds (ps := P__last_step) fun _ _ _ _ _ _ us hl => match us, hl with | [_, _], _ => rfl
  have F18 := fun_mk (st := s__last_times) l18 c18 k18
  have b18 := F18.binds (ps := P__last_times) fun _ _ _ _ _ _ us hl => match us, hl with | [_, _, _], _ => rfl
  have F19 := fun_mk (st := s__last_times_of_1) l19 c19 k19
  have b19 := F19.binds (ps := P__last_times_of_1) fun _ _ _ _ _ _ us hl => match us, hl with | [_, _], _ => rfl
  have F20 := fun_mk (st := s_longest) l20 c20 k20
  have b20 := F20.binds (ps := P_longest) fun _ _ _ _ _ _ us hl => match us, hl with | [_], _ => rfl
  have F21 := fun_mk (st := s_leg) l21 c21 k21
  have b21 := F21.binds (ps := P_leg) fun _ _ _ _ _ _ us hl => match us, hl with | [_], _ => rfl
  have F22 := fun_mk (st := s__check_side) l22 c22 k22
  have b22 := F22.binds (ps := P__check_side) fun _ _ _ _ _ _ us hl => match us, hl with | [_], _ => rfl
  have F23 := fun_mk (st := s__law_cell_at) l23 c23 k23
  have b23 := F23.binds (ps := P__law_cell_at) fun _ _ _ _ _ _ us hl => match us, hl with | [_, _], _ => rfl
  have F24 := fun_mk (st := s__law_draw) l24 c24 k24
  have b24 := F24.binds (ps := P__law_draw) fun _ _ _ _ _ _ us hl => match us, hl with | [_, _, _], _ => rfl
  have F25 := fun_mk (st := s__law_value) l25 c25 k25
  have b25 := F25.binds (ps := P__law_value) fun _ _ _ _ _ _ us hl => match us, hl with | [_, _, _], _ => rfl
  have F26 := fun_mk (st := s__law_row) l26 c26 k26
  have b26 := F26.binds (ps := P__law_row) fun _ _ _ _ _ _ us hl => match us, hl with | [_, _], _ => rfl
  have F27 := fun_mk (st := s__law_led) l27 c27 k27
  have b27 := F27.binds (ps := P__law_led) fun _ _ _ _ _ _ us hl => match us, hl with | [_, _, _], _ => rfl
  have F28 := fun_mk (st := s__law_behind) l28 c28 k28
  have b28 := F28.binds (ps := P__law_behind) fun _ _ _ _ _ _ us hl => match us, hl with | [_], _ => rfl
  have F29 := fun_mk (st := s__law_triple) l29 c29 k29
  have b29 := F29.binds (ps := P__law_triple) fun _ _ _ _ _ _ us hl => match us, hl with | [_], _ => rfl
  have F30 := fun_mk (st := s__law_kinds) l30 c30 k30
  have b30 := F30.binds (ps := P__law_kinds) fun _ _ _ _ _ _ us hl => match us, hl with | [_], _ => rfl
  have F31 := fun_mk (st := s__law_with_triple) l31 c31 k31
  have b31 := F31.binds (ps := P__law_with_triple) fun _ _ _ _ _ _ us hl => match us, hl with | [_, _], _ => rfl
  have F32 := fun_mk (st := s__law_with_pair) l32 c32 k32
  have b32 := F32.binds (ps := P__law_with_pair) fun _ _ _ _ _ _ us hl => match us, hl with | [_, _], _ => rfl
  have F33 := fun_mk (st := s__law_with_step) l33 c33 k33
  have b33 := F33.binds (ps := P__law_with_step) fun _ _ _ _ _ _ us hl => match us, hl with | [_, _], _ => rfl
  have F34 := fun_mk (st := s__law_with_row) l34 c34 k34
  have b34 := F34.binds (ps := P__law_with_row) fun _ _ _ _ _ _ us hl => match us, hl with | [_, _], _ => rfl
  have F35 := fun_mk (st := s__law_with_number) l35 c35 k35
  have b35 := F35.binds (ps := P__law_with_number) fun _ _ _ _ _ _ us hl => match us, hl with | [_, _], _ => rfl
  have F36 := fun_mk (st := s__law_told) l36 c36 k36
  have b36 := F36.binds (ps := P__law_told) fun _ _ _ _ _ _ us hl => match us, hl with | [_, _, _], _ => rfl
  have F37 := fun_mk (st := s__law_all) l37 c37 k37
  have b37 := F37.binds (ps := P__law_all) fun _ _ _ _ _ _ us hl => match us, hl with | [_, _, _, _], _ => rfl
  have F38 := fun_mk (st := s__law_bad_rows) l38 c38 k38
  have b38 := F38.binds (ps := P__law_bad_rows) fun _ _ _ _ _ _ us hl => match us, hl with | [_, _], _ => rfl
  have F39 := fun_mk (st := s_law) l39 c39 k39
  refine ⟨PySem.W.fnOf "law" "law" (defArgs s_law) (defBody s_law) (defScope s_law) .none kV39 dc39 pm39 an39 cd39 ct39, fun s v => .of_eq rfl, fun base KB GB hS => ?_⟩
  have hM : ∀ i, mg (askN i) = some (.ref ((Cse f31 f32 f33 f34 f35) i)) := fun i => match i with
    | 0 => PySem.W.mg_of X G a31
    | 1 => PySem.W.mg_of X G a32
    | 2 => PySem.W.mg_of X G a33
    | 3 => PySem.W.mg_of X G a34
    | _ + 4 => PySem.W.mg_of X G a35
  have C_is_whole : Cal P w K mg base CX0 "is_whole" 1 P_is_whole (spF K R_is_whole) := cal_of (PySem.W.mg_of X G a0) k0 b0 (ok_is_whole (w := w) F0 T )
  have C_formed : Cal P w K mg base CX0 "formed" 1 P_formed (spF K R_formed) := cal_of (PySem.W.mg_of X G a4) k4 b4 (ok_formed (w := w) F4 T )
  have C__pell : Cal P w K mg base CX0 "_pell" 1 P__pell (spF K R__pell) := cal_of (PySem.W.mg_of X G a16) k16 b16 (ok__pell (w := w) F16 T )
  have C__last_step : Cal P w K mg base CX0 "_last_step" 1 P__last_step (spF K R__last_step) := cal_of (PySem.W.mg_of X G a17) k17 b17 (ok__last_step (w := w) F17 T )
  have C__law_cell_at : Cal P w K mg base CX0 "_law_cell_at" 1 P__law_cell_at (spF K R__law_cell_at) := cal_of (PySem.W.mg_of X G a23) k23 b23 (ok__law_cell_at (w := w) F23 T )
  have C__law_draw : Cal P w K mg base CX0 "_law_draw" 1 P__law_draw (spF K R__law_draw) := cal_of (PySem.W.mg_of X G a24) k24 b24 (ok__law_draw (w := w) F24 T )
  have C__law_led : Cal P w K mg base CX0 "_law_led" 1 P__law_led (spF K R__law_led) := cal_of (PySem.W.mg_of X G a27) k27 b27 (ok__law_led (w := w) F27 T )
  have C__law_triple : Cal P w K mg base CX0 "_law_triple" 1 P__law_triple (spF K R__law_triple) := cal_of (PySem.W.mg_of X G a29) k29 b29 (ok__law_triple (w := w) F29 T )
  have C__law_kinds : CalP P w K mg base "_law_kinds" 1 P__law_kinds (spKinds K (Cse e0 e1 e2 e3 e4)) := ⟨f30, _, PySem.W.mg_of X G a30, k30, b30, ok__law_kinds (w := w) F30 T ⟩
  have C__law_bad_rows : Cal P w K mg base CX0 "_law_bad_rows" 1 P__law_bad_rows (spL K R__law_bad_rows5) := cal_of (PySem.W.mg_of X G a38) k38 b38 (ok__law_bad_rows (w := w) F38 T )
  have C_are_whole : Cal P w K mg base CX0 "are_whole" 2 P_are_whole (spF K R_are_whole) := cal_of (PySem.W.mg_of X G a1) k1 b1 (ok_are_whole (w := w) F1 T C_is_whole)
  have C_is_side : Cal P w K mg base CX0 "is_side" 2 P_is_side (spF K R_is_side) := cal_of (PySem.W.mg_of X G a2) k2 b2 (ok_is_side (w := w) F2 T C_is_whole)
  have C__is_step : Cal P w K mg base CX0 "_is_step" 2 P__is_step (spF K R__is_step) := cal_of (PySem.W.mg_of X G a11) k11 b11 (ok__is_step (w := w) F11 T C_is_whole)
  have C__led : Cal P w K mg base CX0 "_led" 2 P__led (spF K R__led) := cal_of (PySem.W.mg_of X G a14) k14 b14 (ok__led (w := w) F14 T C__pell)
  have C__led_back : Cal P w K mg base CX0 "_led_back" 2 P__led_back (spF K R__led_back) := cal_of (PySem.W.mg_of X G a15) k15 b15 (ok__led_back (w := w) F15 T C__pell)
  have C__law_value : Cal P w K mg base CX0 "_law_value" 2 P__law_value (spF K R__law_value) := cal_of (PySem.W.mg_of X G a25) k25 b25 (ok__law_value (w := w) F25 T C__law_draw)
  have C__law_behind : Cal P w K mg base CX0 "_law_behind" 2 P__law_behind (spF K R__law_behind) := cal_of (PySem.W.mg_of X G a28) k28 b28 (ok__law_behind (w := w) F28 T C__law_led)
  have C_is_pair : Cal P w K mg base CX0 "is_pair" 3 P_is_pair (spF K R_is_pair) := cal_of (PySem.W.mg_of X G a3) k3 b3 (ok_is_pair (w := w) F3 T C_are_whole)
  have C__is_part : Cal P w K mg base CX0 "_is_part" 3 P__is_part (spF K R__is_part) := cal_of (PySem.W.mg_of X G a13) k13 b13 (ok__is_part (w := w) F13 T C_are_whole C__is_step)
  have C__last_times_of_1 : Cal P w K mg base CX0 "_last_times_of_1" 3 P__last_times_of_1 (spF K R__last_times_of_1) := cal_of (PySem.W.mg_of X G a19) k19 b19 (ok__last_times_of_1 (w := w) F19 T C__led_back)
  have C__check_side : Cal P w K mg base (L2.CX P w) "_check_side" 3 P__check_side (spB K (B_side e4)) := cal_of (PySem.W.mg_of X G a22) k22 b22 (ok__check_side (w := w) F22 T C_is_side)
  have C__law_row : Cal P w K mg base CX0 "_law_row" 3 P__law_row (spL K R__law_row) := cal_of (PySem.W.mg_of X G a26) k26 b26 (ok__law_row (w := w) F26 T C__law_value)
  have C_triple_of : Cal P w K mg base (L2.CX P w) "triple_of" 4 P_triple_of (spB K (B_triple_of e1)) := cal_of (PySem.W.mg_of X G a6) k6 b6 (ok_triple_of (w := w) F6 T C_is_pair)
  have C__is_row : Cal P w K mg base CX0 "_is_row" 4 P__is_row (spF K R__is_row) := cal_of (PySem.W.mg_of X G a12) k12 b12 (ok__is_row (w := w) F12 T C__is_part)
  have C_longest : Cal P w K mg base (L2.CX P w) "longest" 4 P_longest (spB K (B_side e4)) := cal_of (PySem.W.mg_of X G a20) k20 b20 (ok_longest (w := w) F20 T C__check_side)
  have C_leg : Cal P w K mg base (L2.CX P w) "leg" 4 P_leg (spB K (B_side e4)) := cal_of (PySem.W.mg_of X G a21) k21 b21 (ok_leg (w := w) F21 T C__check_side)
  have C_by_row : Cal P w K mg base (L2.CX P w) "by_row" 5 P_by_row (spX K R_by_row (B_by_row e3)) := cal_of (PySem.W.mg_of X G a9) k9 b9 (ok_by_row (w := w) F9 T C__is_row C__led C_formed)
  have C__law_with_pair : Cal P w K mg base (L2.CX P w) "_law_with_pair" 5 P__law_with_pair (spB K (BAsk (Cse e0 e1 e2 e3 e4) 1)) := cal_of (PySem.W.mg_of X G a32) k32 b32 (ok__law_with_pair (w := w) F32 T C_triple_of)
  have C__law_with_number : Cal P w K mg base (L2.CX P w) "_law_with_number" 5 P__law_with_number (spB K (BAsk (Cse e0 e1 e2 e3 e4) 4)) := cal_of (PySem.W.mg_of X G a35) k35 b35 (ok__law_with_number (w := w) F35 T C_longest C_leg)
  have C__law_with_row : Cal P w K mg base (L2.CX P w) "_law_with_row" 6 P__law_with_row (spB K (BAsk (Cse e0 e1 e2 e3 e4) 3)) := cal_of (PySem.W.mg_of X G a34) k34 b34 (ok__law_with_row (w := w) F34 T C_by_row)
  have C_pair_of : Cal P w K mg base (L2.CX P w) "pair_of" 33 P_pair_of (spX K R_pair_of (B_pair_of e0)) := cal_of (PySem.W.mg_of X G a5) k5 b5 (ok_pair_of (w := w) F5 T hS ht C_are_whole C_formed C_is_pair)
  have C__last_times : Cal P w K mg base CX0 "_last_times" 33 P__last_times (spF K R__last_times) := cal_of (PySem.W.mg_of X G a18) k18 b18 (ok__last_times (w := w) F18 T hS ht C__last_times_of_1)
  have C_stepped : Cal P w K mg base (L2.CX P w) "stepped" 34 P_stepped (spB K (B_stepped e0 e2)) := cal_of (PySem.W.mg_of X G a7) k7 b7 (ok_stepped (w := w) F7 T C_pair_of C__is_step)
  have C_back : Cal P w K mg base (L2.CX P w) "back" 34 P_back (spB K (B_pair_of e0)) := cal_of (PySem.W.mg_of X G a8) k8 b8 (ok_back (w := w) F8 T C_pair_of)
  have C_row_of : Cal P w K mg base (L2.CX P w) "row_of" 34 P_row_of (spXL K R_row_of (B_pair_of e0)) := cal_of (PySem.W.mg_of X G a10) k10 b10 (ok_row_of (w := w) F10 T C_pair_of C__last_step C__last_times C__led_back)
  have C__law_with_triple : Cal P w K mg base (L2.CX P w) "_law_with_triple" 35 P__law_with_triple (spB K (BAsk (Cse e0 e1 e2 e3 e4) 0)) := cal_of (PySem.W.mg_of X G a31) k31 b31 (ok__law_with_triple (w := w) F31 T C_pair_of C_stepped C_back C_row_of)
  have C__law_with_step : Cal P w K mg base (L2.CX P w) "_law_with_step" 35 P__law_with_step (spB K (BAsk (Cse e0 e1 e2 e3 e4) 2)) := cal_of (PySem.W.mg_of X G a33) k33 b33 (ok__law_with_step (w := w) F33 T C_stepped)
  have hA : ∀ f sp, AskS K (Cse e0 e1 e2 e3 e4) (Cse f31 f32 f33 f34 f35) f sp → HeldX P w K mg base 35 f sp := by
    rintro f sp ⟨i, hi, rfl, rfl⟩
    match i, hi with
    | 0, _ => exact ⟨_, P__law_with_triple, (ok__law_with_triple (w := w) F31 T C_pair_of C_stepped C_back C_row_of).mono (by decide), k31, b31⟩
    | 1, _ => exact ⟨_, P__law_with_pair, (ok__law_with_pair (w := w) F32 T C_triple_of).mono (by decide), k32, b32⟩
    | 2, _ => exact ⟨_, P__law_with_step, (ok__law_with_step (w := w) F33 T C_stepped).mono (by decide), k33, b33⟩
    | 3, _ => exact ⟨_, P__law_with_row, (ok__law_with_row (w := w) F34 T C_by_row).mono (by decide), k34, b34⟩
    | 4, _ => exact ⟨_, P__law_with_number, (ok__law_with_number (w := w) F35 T C_longest C_leg).mono (by decide), k35, b35⟩
  have C__law_told : Cal P w K mg base CX0 "_law_told" 60 P__law_told (spTold5 K (Cse e0 e1 e2 e3 e4) (Cse f31 f32 f33 f34 f35)) := cal_of (PySem.W.mg_of X G a36) k36 b36 (ok__law_told (w := w) F36 T hA C__law_kinds)
  have C__law_all : Cal P w K mg base CX0 "_law_all" 61 P__law_all (spAll5 K (Cse e0 e1 e2 e3 e4) (Cse f31 f32 f33 f34 f35)) := cal_of (PySem.W.mg_of X G a37) k37 b37 (ok__law_all (w := w) F37 T C__law_told)
  exact ok_law F39 T hM C__law_cell_at C__law_value C__law_row C__law_behind C__law_triple C__law_all C__law_bad_rows C_by_row C_row_of
end Sq

open PySem PySem.W PyProof.Rows in
set_option maxRecDepth 100000 in
set_option maxHeartbeats 0 in
theorem PySem.Challenge.cw_squaretree_k05_refused_holds : PySem.Challenge.rw_squaretree_k05_refused.Holds := by
  w_on; o_law; k_head; (case hw => w_witness2)
  k_fill
  refine Sq.walk_S (l := PySem.Challenge.rw_squaretree_k05_refused) (k := 62) (x := "_law_script") (R := Sq.R_law5) rfl rfl ⟨rfl, by decide, by decide⟩ (by decide +kernel) (fun w h Y => PySem.W.kIn_of Y) ?F ?S
  case S => exact fun ns h1 h2 => ⟨ns, rfl, h1, h2, rfl⟩
  case F =>
    intro w mg fa h KX G hmg
    refine' Sq.all_mk KX G hmg rfl ?a0 ?l0 ?c0 ?k0 ?a1 ?l1 ?c1 ?k1 ?a2 ?l2 ?c2 ?k2 ?a3 ?l3 ?c3 ?k3 ?a4 ?l4 ?c4 ?k4 ?a5 ?l5 ?c5 ?k5 ?a6 ?l6 ?c6 ?k6 ?a7 ?l7 ?c7 ?k7 ?a8 ?l8 ?c8 ?k8 ?a9 ?l9 ?c9 ?k9 ?a10 ?l10 ?c10 ?k10 ?a11 ?l11 ?c11 ?k11 ?a12 ?l12 ?c12 ?k12 ?a13 ?l13 ?c13 ?k13 ?a14 ?l14 ?c14 ?k14 ?a15 ?l15 ?c15 ?k15 ?a16 ?l16 ?c16 ?k16 ?a17 ?l17 ?c17 ?k17 ?a18 ?l18 ?c18 ?k18 ?a19 ?l19 ?c19 ?k19 ?a20 ?l20 ?c20 ?k20 ?a21 ?l21 ?c21 ?k21 ?a22 ?l22 ?c22 ?k22 ?a23 ?l23 ?c23 ?k23 ?a24 ?l24 ?c24 ?k24 ?a25 ?l25 ?c25 ?k25 ?a26 ?l26 ?c26 ?k26 ?a27 ?l27 ?c27 ?k27 ?a28 ?l28 ?c28 ?k28 ?a29 ?l29 ?c29 ?k29 ?a30 ?l30 ?c30 ?k30 ?a31 ?l31 ?c31 ?k31 ?a32 ?l32 ?c32 ?k32 ?a33 ?l33 ?c33 ?k33 ?a34 ?l34 ?c34 ?k34 ?a35 ?l35 ?c35 ?k35 ?a36 ?l36 ?c36 ?k36 ?a37 ?l37 ?c37 ?k37 ?a38 ?l38 ?c38 ?k38 ?a39 ?l39 ?c39 ?k39 ?z_isinstance ?z_int ?z_bool ?z_tuple ?z_list ?z_len ?z_all ?z_range ?z_enumerate ?z_sorted ?z_ValueError ?z_isqrt ?z_gcd ?z_R ?l_R ?z_L ?z_M ?z_A ?z_Z ?aC_eT ?b_eT ?t_eT ?d_eT ?aC_e0 ?b_e0 ?t_e0 ?d_e0 ?x_e0 ?y_e0 ?hg_e0 ?hk_e0 ?ha_e0 ?hm_e0 ?v_e0 ?u_e0 ?sub_e0_e1 ?ne_e0_e1 ?sub_e0_e2 ?ne_e0_e2 ?sub_e0_e3 ?ne_e0_e3 ?sub_e0_e4 ?ne_e0_e4 ?aC_e1 ?b_e1 ?t_e1 ?d_e1 ?x_e1 ?y_e1 ?hg_e1 ?hk_e1 ?ha_e1 ?hm_e1 ?v_e1 ?u_e1 ?sub_e1_e0 ?ne_e1_e0 ?sub_e1_e2 ?ne_e1_e2 ?sub_e1_e3 ?ne_e1_e3 ?sub_e1_e4 ?ne_e1_e4 ?aC_e2 ?b_e2 ?t_e2 ?d_e2 ?x_e2 ?y_e2 ?hg_e2 ?hk_e2 ?ha_e2 ?hm_e2 ?v_e2 ?u_e2 ?sub_e2_e0 ?ne_e2_e0 ?sub_e2_e1 ?ne_e2_e1 ?sub_e2_e3 ?ne_e2_e3 ?sub_e2_e4 ?ne_e2_e4 ?aC_e3 ?b_e3 ?t_e3 ?d_e3 ?x_e3 ?y_e3 ?hg_e3 ?hk_e3 ?ha_e3 ?hm_e3 ?v_e3 ?u_e3 ?sub_e3_e0 ?ne_e3_e0 ?sub_e3_e1 ?ne_e3_e1 ?sub_e3_e2 ?ne_e3_e2 ?sub_e3_e4 ?ne_e3_e4 ?aC_e4 ?b_e4 ?t_e4 ?d_e4 ?x_e4 ?y_e4 ?hg_e4 ?hk_e4 ?ha_e4 ?hm_e4 ?v_e4 ?u_e4 ?sub_e4_e0 ?ne_e4_e0 ?sub_e4_e1 ?ne_e4_e1 ?sub_e4_e2 ?ne_e4_e2 ?sub_e4_e3 ?ne_e4_e3 ?hn_c ?ht_c
    (case aC_eT => k_is)
    (case aC_e0 => k_is)
    (case aC_e1 => k_is)
    (case aC_e2 => k_is)
    (case aC_e3 => k_is)
    (case aC_e4 => k_is)
    (case a0 => k_is)
    (case l0 => k_is)
    (case c0 => k_is)
    (case k0 => k_is)
    (case a1 => k_is)
    (case l1 => k_is)
    (case c1 => k_is)
    (case k1 => k_is)
    (case a2 => k_is)
    (case l2 => k_is)
    (case c2 => k_is)
    (case k2 => k_is)
    (case a3 => k_is)
    (case l3 => k_is)
    (case c3 => k_is)
    (case k3 => k_is)
    (case a4 => k_is)
    (case l4 => k_is)
    (case c4 => k_is)
    (case k4 => k_is)
    (case a5 => k_is)
    (case l5 => k_is)
    (case c5 => k_is)
    (case k5 => k_is)
    (case a6 => k_is)
    (case l6 => k_is)
    (case c6 => k_is)
    (case k6 => k_is)
    (case a7 => k_is)
    (case l7 => k_is)
    (case c7 => k_is)
    (case k7 => k_is)
    (case a8 => k_is)
    (case l8 => k_is)
    (case c8 => k_is)
    (case k8 => k_is)
    (case a9 => k_is)
    (case l9 => k_is)
    (case c9 => k_is)
    (case k9 => k_is)
    (case a10 => k_is)
    (case l10 => k_is)
    (case c10 => k_is)
    (case k10 => k_is)
    (case a11 => k_is)
    (case l11 => k_is)
    (case c11 => k_is)
    (case k11 => k_is)
    (case a12 => k_is)
    (case l12 => k_is)
    (case c12 => k_is)
    (case k12 => k_is)
    (case a13 => k_is)
    (case l13 => k_is)
    (case c13 => k_is)
    (case k13 => k_is)
    (case a14 => k_is)
    (case l14 => k_is)
    (case c14 => k_is)
    (case k14 => k_is)
    (case a15 => k_is)
    (case l15 => k_is)
    (case c15 => k_is)
    (case k15 => k_is)
    (case a16 => k_is)
    (case l16 => k_is)
    (case c16 => k_is)
    (case k16 => k_is)
    (case a17 => k_is)
    (case l17 => k_is)
    (case c17 => k_is)
    (case k17 => k_is)
    (case a18 => k_is)
    (case l18 => k_is)
    (case c18 => k_is)
    (case k18 => k_is)
    (case a19 => k_is)
    (case l19 => k_is)
    (case c19 => k_is)
    (case k19 => k_is)
    (case a20 => k_is)
    (case l20 => k_is)
    (case c20 => k_is)
    (case k20 => k_is)
    (case a21 => k_is)
    (case l21 => k_is)
    (case c21 => k_is)
    (case k21 => k_is)
    (case a22 => k_is)
    (case l22 => k_is)
    (case c22 => k_is)
    (case k22 => k_is)
    (case a23 => k_is)
    (case l23 => k_is)
    (case c23 => k_is)
    (case k23 => k_is)
    (case a24 => k_is)
    (case l24 => k_is)
    (case c24 => k_is)
    (case k24 => k_is)
    (case a25 => k_is)
    (case l25 => k_is)
    (case c25 => k_is)
    (case k25 => k_is)
    (case a26 => k_is)
    (case l26 => k_is)
    (case c26 => k_is)
    (case k26 => k_is)
    (case a27 => k_is)
    (case l27 => k_is)
    (case c27 => k_is)
    (case k27 => k_is)
    (case a28 => k_is)
    (case l28 => k_is)
    (case c28 => k_is)
    (case k28 => k_is)
    (case a29 => k_is)
    (case l29 => k_is)
    (case c29 => k_is)
    (case k29 => k_is)
    (case a30 => k_is)
    (case l30 => k_is)
    (case c30 => k_is)
    (case k30 => k_is)
    (case a31 => k_is)
    (case l31 => k_is)
    (case c31 => k_is)
    (case k31 => k_is)
    (case a32 => k_is)
    (case l32 => k_is)
    (case c32 => k_is)
    (case k32 => k_is)
    (case a33 => k_is)
    (case l33 => k_is)
    (case c33 => k_is)
    (case k33 => k_is)
    (case a34 => k_is)
    (case l34 => k_is)
    (case c34 => k_is)
    (case k34 => k_is)
    (case a35 => k_is)
    (case l35 => k_is)
    (case c35 => k_is)
    (case k35 => k_is)
    (case a36 => k_is)
    (case l36 => k_is)
    (case c36 => k_is)
    (case k36 => k_is)
    (case a37 => k_is)
    (case l37 => k_is)
    (case c37 => k_is)
    (case k37 => k_is)
    (case a38 => k_is)
    (case l38 => k_is)
    (case c38 => k_is)
    (case k38 => k_is)
    (case a39 => k_is)
    (case l39 => k_is)
    (case c39 => k_is)
    (case k39 => k_is)
    (case z_isinstance => k_is)
    (case z_int => k_is)
    (case z_bool => k_is)
    (case z_tuple => k_is)
    (case z_list => k_is)
    (case z_len => k_is)
    (case z_all => k_is)
    (case z_range => k_is)
    (case z_enumerate => k_is)
    (case z_sorted => k_is)
    (case z_ValueError => k_is)
    (case z_isqrt => k_is)
    (case z_gcd => k_is)
    (case z_R => k_is)
    (case l_R => k_is)
    (case z_L => k_is)
    (case z_M => k_is)
    (case z_A => k_is)
    (case z_Z => k_is)
    (case b_eT => k_is)
    (case t_eT => k_is)
    (case d_eT => k_is)
    (case b_e0 => k_is)
    (case t_e0 => k_is)
    (case d_e0 => k_is)
    (case x_e0 => k_exc)
    (case y_e0 => k_is)
    (case hg_e0 => k_is)
    (case hk_e0 => k_is)
    (case ha_e0 => k_is)
    (case hm_e0 => k_is)
    (case v_e0 => k_is)
    (case u_e0 => k_is)
    (case sub_e0_e1 => k_is)
    (case sub_e0_e2 => k_is)
    (case sub_e0_e3 => k_is)
    (case sub_e0_e4 => k_is)
    (case b_e1 => k_is)
    (case t_e1 => k_is)
    (case d_e1 => k_is)
    (case x_e1 => k_exc)
    (case y_e1 => k_is)
    (case hg_e1 => k_is)
    (case hk_e1 => k_is)
    (case ha_e1 => k_is)
    (case hm_e1 => k_is)
    (case v_e1 => k_is)
    (case u_e1 => k_is)
    (case sub_e1_e0 => k_is)
    (case sub_e1_e2 => k_is)
    (case sub_e1_e3 => k_is)
    (case sub_e1_e4 => k_is)
    (case b_e2 => k_is)
    (case t_e2 => k_is)
    (case d_e2 => k_is)
    (case x_e2 => k_exc)
    (case y_e2 => k_is)
    (case hg_e2 => k_is)
    (case hk_e2 => k_is)
    (case ha_e2 => k_is)
    (case hm_e2 => k_is)
    (case v_e2 => k_is)
    (case u_e2 => k_is)
    (case sub_e2_e0 => k_is)
    (case sub_e2_e1 => k_is)
    (case sub_e2_e3 => k_is)
    (case sub_e2_e4 => k_is)
    (case b_e3 => k_is)
    (case t_e3 => k_is)
    (case d_e3 => k_is)
    (case x_e3 => k_exc)
    (case y_e3 => k_is)
    (case hg_e3 => k_is)
    (case hk_e3 => k_is)
    (case ha_e3 => k_is)
    (case hm_e3 => k_is)
    (case v_e3 => k_is)
    (case u_e3 => k_is)
    (case sub_e3_e0 => k_is)
    (case sub_e3_e1 => k_is)
    (case sub_e3_e2 => k_is)
    (case sub_e3_e4 => k_is)
    (case b_e4 => k_is)
    (case t_e4 => k_is)
    (case d_e4 => k_is)
    (case x_e4 => k_exc)
    (case y_e4 => k_is)
    (case hg_e4 => k_is)
    (case hk_e4 => k_is)
    (case ha_e4 => k_is)
    (case hm_e4 => k_is)
    (case v_e4 => k_is)
    (case u_e4 => k_is)
    (case sub_e4_e0 => k_is)
    (case sub_e4_e1 => k_is)
    (case sub_e4_e2 => k_is)
    (case sub_e4_e3 => k_is)
    (case hn_c => k_is)
    (case ht_c => k_is)
    (case ne_e0_e1 => rfl)
    (case ne_e0_e2 => rfl)
    (case ne_e0_e3 => rfl)
    (case ne_e0_e4 => rfl)
    (case ne_e1_e0 => rfl)
    (case ne_e1_e2 => rfl)
    (case ne_e1_e3 => rfl)
    (case ne_e1_e4 => rfl)
    (case ne_e2_e0 => rfl)
    (case ne_e2_e1 => rfl)
    (case ne_e2_e3 => rfl)
    (case ne_e2_e4 => rfl)
    (case ne_e3_e0 => rfl)
    (case ne_e3_e1 => rfl)
    (case ne_e3_e2 => rfl)
    (case ne_e3_e4 => rfl)
    (case ne_e4_e0 => rfl)
    (case ne_e4_e1 => rfl)
    (case ne_e4_e2 => rfl)
    (case ne_e4_e3 => rfl)

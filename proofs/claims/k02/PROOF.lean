import PyProof.Rows.All
import Wide.All
import OpenK.AllK
import Wide.FinOn
import PyProof.NoPylong
import Flt.RightSqrt
import HandS.ForMost
import HandS.ForExc
import HandS.Evl
import HandS.IsInst
import HandS.Gcd
import HandS.WideBits
import HandS.Style
import HandS.Steps
import HandS.EndBits
import KE.DataFind
import PyProof.Rows.ChunkEnd
import PyProof.Rows.ChunkLeaf
import PySem.Challenge.RW_squaretree_k02_tried
set_option Elab.async false
set_option linter.all false
set_option maxRecDepth 100000
set_option maxHeartbeats 8000000
namespace Sq
/-! ### pairs -/
abbrev P2 := Int × Int
def IsPair (p : P2) : Prop := 0 < p.2 ∧ p.2 < p.1 ∧ (p.1 - p.2) % 2 = 1 ∧ Int.gcd p.1 p.2 = 1
def one (p : P2) : P2 := (2 * p.1 + p.2, p.1)
def un (p : P2) : P2 := (p.2, p.1 - 2 * p.2)
instance (p : P2) : Decidable (IsPair p) := by unfold IsPair; infer_instance
theorem un_one (p : P2) : un (one p) = p := by
  obtain ⟨m, n⟩ := p
  show ((m, 2 * m + n - 2 * m) : P2) = (m, n)
  congr 1
  omega
theorem one_un (p : P2) : one (un p) = p := by
  obtain ⟨m, n⟩ := p
  show ((2 * n + (m - 2 * n), n) : P2) = (m, n)
  congr 1
  omega
def iter (f : P2 → P2) : Nat → P2 → P2
  | 0, p => p
  | k + 1, p => f (iter f k p)
theorem iter_add (f : P2 → P2) (a b : Nat) (p : P2) : iter f (a + b) p = iter f a (iter f b p) := by
  induction a with
  | zero => rw [Nat.zero_add]; rfl
  | succ a ih => rw [show a + 1 + b = (a + b) + 1 by omega]; show f _ = f _; rw [ih]
theorem iter_succ' (f : P2 → P2) (k : Nat) (p : P2) : iter f (k + 1) p = iter f k (f p) := iter_add f k 1 p
theorem un_iter_one (k : Nat) (p : P2) : iter un k (iter one k p) = p := by
  induction k with
  | zero => rfl
  | succ k ih => rw [iter_succ' un]; show iter un k (un (one (iter one k p))) = p; rw [un_one, ih]
theorem one_iter_un (k : Nat) (p : P2) : iter one k (iter un k p) = p := by
  induction k with
  | zero => rfl
  | succ k ih => rw [iter_succ' one]; show iter one k (one (un (iter un k p))) = p; rw [one_un, ih]

/-! ### Pell's numbers -/
/-- (at k, at k + 1) -/
def pell : Nat → P2
  | 0 => (0, 1)
  | k + 1 => ((pell k).2, 2 * (pell k).2 + (pell k).1)
theorem pell_s1 (k : Nat) : (pell (k + 1)).1 = (pell k).2 := rfl
theorem pell_s2 (k : Nat) : (pell (k + 1)).2 = 2 * (pell k).2 + (pell k).1 := rfl
/-- sums of places -/
theorem pell_add (a : Nat) : ∀ b : Nat, (pell (a + b)).1 = (pell a).1 * ((pell b).2 - 2 * (pell b).1) + (pell a).2 * (pell b).1 ∧ (pell (a + b)).2 = (pell a).1 * (pell b).1 + (pell a).2 * (pell b).2
  | 0 => by constructor <;> simp [pell]
  | b + 1 => by
    obtain ⟨h1, h2⟩ := pell_add a b
    constructor
    · show (pell (a + b)).2 = _
      rw [h2, pell_s1, pell_s2]
      grind
    · show 2 * (pell (a + b)).2 + (pell (a + b)).1 = _
      rw [h1, h2, pell_s1, pell_s2]
      grind
theorem pell_dbl (k : Nat) : pell (2 * k) = (2 * (pell k).1 * ((pell k).2 - (pell k).1), (pell k).1 * (pell k).1 + (pell k).2 * (pell k).2) := by
  obtain ⟨h1, h2⟩ := pell_add k k
  rw [show 2 * k = k + k by omega]
  refine Prod.ext ?_ h2
  rw [h1]
  grind
theorem pell_pos : ∀ k : Nat, 0 ≤ (pell k).1 ∧ (pell k).1 < (pell k).2 ∧ (pell k).2 ≤ 3 ^ k
  | 0 => by decide
  | k + 1 => by
    obtain ⟨h1, h2, h3⟩ := pell_pos k
    refine ⟨?_, ?_, ?_⟩
    · rw [pell_s1]; omega
    · rw [pell_s1, pell_s2]; omega
    · rw [pell_s2, Int.pow_succ]; omega
/-- step 1, k times -/
theorem one_pell (m n : Int) : ∀ k : Nat, iter one k (m, n) = ((pell k).2 * m + (pell k).1 * n, (pell k).1 * m + ((pell k).2 - 2 * (pell k).1) * n)
  | 0 => by simp [pell, iter]
  | k + 1 => by
    show one (iter one k (m, n)) = _
    rw [one_pell m n k, pell_s1, pell_s2]
    refine Prod.ext ?_ ?_
    · show 2 * ((pell k).2 * m + (pell k).1 * n) + ((pell k).1 * m + ((pell k).2 - 2 * (pell k).1) * n) = _
      grind
    · show (pell k).2 * m + (pell k).1 * n = _
      grind
def sgn (k : Nat) : Int := if k % 2 = 0 then 1 else -1
theorem sgn_s (k : Nat) : sgn (k + 1) = - sgn k := by
  unfold sgn
  by_cases h : k % 2 = 0
  · rw [if_pos h, if_neg (by omega)]
  · rw [if_neg h, if_pos (by omega)]; rfl
/-- .. and back -/
theorem un_pell (m n : Int) : ∀ k : Nat, iter un k (m, n) = (sgn k * (((pell k).2 - 2 * (pell k).1) * m - (pell k).1 * n), sgn k * ((pell k).2 * n - (pell k).1 * m))
  | 0 => by simp [pell, iter, sgn]
  | k + 1 => by
    show un (iter un k (m, n)) = _
    rw [un_pell m n k, pell_s1, pell_s2, sgn_s]
    refine Prod.ext ?_ ?_
    · show sgn k * ((pell k).2 * n - (pell k).1 * m) = _
      grind
    · show sgn k * (((pell k).2 - 2 * (pell k).1) * m - (pell k).1 * n) - 2 * (sgn k * ((pell k).2 * n - (pell k).1 * m)) = _
      grind

/-! ### steps -/
def led (p : P2) (s : Int) (t : Nat) : P2 :=
  if s = 0 then (p.1 + (p.1 - p.2) * t, p.2 + (p.1 - p.2) * t)
  else if s = 2 then (p.1 + 2 * p.2 * t, p.2)
  else iter one t p
def ledBack (p : P2) (s : Int) (t : Nat) : P2 :=
  if s = 0 then (p.1 - (p.1 - p.2) * t, p.2 - (p.1 - p.2) * t)
  else if s = 2 then (p.1 - 2 * p.2 * t, p.2)
  else iter un t p
def Ok2 (p : P2) : Prop := 0 < p.2 ∧ p.2 < p.1
theorem ok_one {p : P2} (h : Ok2 p) : Ok2 (one p) := by
  obtain ⟨m, n⟩ := p
  obtain ⟨h1, h2⟩ := h
  refine ⟨?_, ?_⟩
  · show 0 < m
    have : 0 < n := h1
    have : n < m := h2
    omega
  · show m < 2 * m + n
    have : 0 < n := h1
    have : n < m := h2
    omega
theorem ok_iter {p : P2} (h : Ok2 p) : ∀ k, Ok2 (iter one k p)
  | 0 => h
  | k + 1 => ok_one (ok_iter h k)
theorem led_zero (p : P2) (s : Int) : led p s 0 = p := by
  unfold led
  split
  · simp
  · split
    · simp
    · rfl
/-- one by one -/
theorem led_succ (p : P2) (s : Int) (t : Nat) : led p s (t + 1) = led (led p s t) s 1 := by
  unfold led
  by_cases h0 : s = 0
  · simp only [if_pos h0]
    refine Prod.ext ?_ ?_
    · show p.1 + (p.1 - p.2) * ((t + 1 : Nat) : Int) = (p.1 + (p.1 - p.2) * t) + ((p.1 + (p.1 - p.2) * t) - (p.2 + (p.1 - p.2) * t)) * ((1 : Nat) : Int)
      rw [Int.natCast_add]
      grind
    · show p.2 + (p.1 - p.2) * ((t + 1 : Nat) : Int) = (p.2 + (p.1 - p.2) * t) + ((p.1 + (p.1 - p.2) * t) - (p.2 + (p.1 - p.2) * t)) * ((1 : Nat) : Int)
      rw [Int.natCast_add]
      grind
  · simp only [if_neg h0]
    by_cases h2 : s = 2
    · simp only [if_pos h2]
      refine Prod.ext ?_ rfl
      show p.1 + 2 * p.2 * ((t + 1 : Nat) : Int) = (p.1 + 2 * p.2 * t) + 2 * p.2 * ((1 : Nat) : Int)
      rw [Int.natCast_add]
      grind
    · simp only [if_neg h2]
      rfl
theorem ledBack_led (p : P2) (s : Int) (t : Nat) : ledBack (led p s t) s t = p := by
  unfold led ledBack
  by_cases h0 : s = 0
  · simp only [if_pos h0]
    refine Prod.ext ?_ ?_
    · show (p.1 + (p.1 - p.2) * t) - ((p.1 + (p.1 - p.2) * t) - (p.2 + (p.1 - p.2) * t)) * (t : Int) = p.1
      grind
    · show (p.2 + (p.1 - p.2) * t) - ((p.1 + (p.1 - p.2) * t) - (p.2 + (p.1 - p.2) * t)) * (t : Int) = p.2
      grind
  · simp only [if_neg h0]
    by_cases h2 : s = 2
    · simp only [if_pos h2]
      refine Prod.ext ?_ rfl
      show (p.1 + 2 * p.2 * t) - 2 * p.2 * t = p.1
      omega
    · simp only [if_neg h2]
      exact un_iter_one t p
theorem led_ledBack (p : P2) (s : Int) (t : Nat) : led (ledBack p s t) s t = p := by
  unfold led ledBack
  by_cases h0 : s = 0
  · simp only [if_pos h0]
    refine Prod.ext ?_ ?_
    · show (p.1 - (p.1 - p.2) * t) + ((p.1 - (p.1 - p.2) * t) - (p.2 - (p.1 - p.2) * t)) * (t : Int) = p.1
      grind
    · show (p.2 - (p.1 - p.2) * t) + ((p.1 - (p.1 - p.2) * t) - (p.2 - (p.1 - p.2) * t)) * (t : Int) = p.2
      grind
  · simp only [if_neg h0]
    by_cases h2 : s = 2
    · simp only [if_pos h2]
      refine Prod.ext ?_ rfl
      show (p.1 - 2 * p.2 * t) + 2 * p.2 * t = p.1
      omega
    · simp only [if_neg h2]
      exact one_iter_un t p
theorem led_ok {p : P2} (h : Ok2 p) (s : Int) : ∀ t, Ok2 (led p s t)
  | 0 => by rw [led_zero]; exact h
  | t + 1 => by
    rw [led_succ]
    have ih := led_ok h s t
    generalize led p s t = q at ih
    obtain ⟨m, n⟩ := q
    obtain ⟨h1, h2⟩ := ih
    have h1 : 0 < n := h1
    have h2 : n < m := h2
    unfold led
    split
    · refine ⟨?_, ?_⟩
      · show 0 < n + (m - n) * ((1 : Nat) : Int); omega
      · show n + (m - n) * ((1 : Nat) : Int) < m + (m - n) * ((1 : Nat) : Int); omega
    · split
      · refine ⟨h1, ?_⟩
        show n < m + 2 * n * ((1 : Nat) : Int)
        omega
      · exact ok_one ⟨h1, h2⟩
theorem led_pair1 {p : P2} (h : IsPair p) (s : Int) : IsPair (led p s 1) := by
  obtain ⟨m, n⟩ := p
  obtain ⟨h1, h2, h3, h4⟩ := h
  have h1 : 0 < n := h1
  have h2 : n < m := h2
  have h3 : (m - n) % 2 = 1 := h3
  have h4 : Int.gcd m n = 1 := h4
  obtain ⟨o1, o2⟩ := led_ok (p := (m, n)) ⟨h1, h2⟩ s 1
  refine ⟨o1, o2, ?_, ?_⟩ <;> clear o1 o2 <;> unfold led
  · split
    · show ((m + (m - n) * ((1 : Nat) : Int)) - (n + (m - n) * ((1 : Nat) : Int))) % 2 = 1; omega
    · split
      · show ((m + 2 * n * ((1 : Nat) : Int)) - n) % 2 = 1; omega
      · show ((2 * m + n) - m) % 2 = 1; omega
  · have key : ∀ a b : Int, (∀ d : Int, d ∣ a → d ∣ b → d ∣ m ∧ d ∣ n) → Int.gcd a b = 1 := fun a b hd => by
      obtain ⟨q1, q2⟩ := hd (Int.gcd a b : Int) (Int.gcd_dvd_left ..) (Int.gcd_dvd_right ..)
      have := Int.dvd_gcd q1 q2
      rw [h4] at this
      have : (Int.gcd a b) ∣ 1 := by exact_mod_cast this
      exact Nat.dvd_one.mp this
    split
    · refine key _ _ fun d q1 q2 => ?_
      have q1 : d ∣ m + (m - n) * ((1 : Nat) : Int) := q1
      have q2 : d ∣ n + (m - n) * ((1 : Nat) : Int) := q2
      have e : n + (m - n) * ((1 : Nat) : Int) = m := by omega
      rw [e] at q2
      refine ⟨q2, ?_⟩
      have e2 : n = 2 * m - (m + (m - n) * ((1 : Nat) : Int)) := by omega
      rw [e2]
      exact Int.dvd_sub (Int.dvd_mul_of_dvd_right q2) q1
    · split
      · refine key _ _ fun d q1 q2 => ⟨?_, q2⟩
        have q1 : d ∣ m + 2 * n * ((1 : Nat) : Int) := q1
        have q2 : d ∣ n := q2
        have e2 : m = (m + 2 * n * ((1 : Nat) : Int)) - 2 * n := by omega
        rw [e2]
        exact Int.dvd_sub q1 (Int.dvd_mul_of_dvd_right q2)
      · refine key _ _ fun d q1 q2 => ⟨q2, ?_⟩
        have q1 : d ∣ 2 * m + n := q1
        have q2 : d ∣ m := q2
        have e2 : n = (2 * m + n) - 2 * m := by omega
        rw [e2]
        exact Int.dvd_sub q1 (Int.dvd_mul_of_dvd_right q2)
theorem led_pair {p : P2} (h : IsPair p) (s : Int) : ∀ t, IsPair (led p s t)
  | 0 => by rw [led_zero]; exact h
  | t + 1 => by rw [led_succ]; exact led_pair1 (led_pair h s t) s

/-! ### the last step -/
def lastStep (p : P2) : Int := if p.1 < 2 * p.2 then 0 else if p.1 < 3 * p.2 then 1 else 2
theorem lastStep_of {p : P2} (h : Ok2 p) {s : Int} (hs : s = 0 ∨ s = 1 ∨ s = 2) (t : Nat) : lastStep (led p s (t + 1)) = s := by
  rw [led_succ]
  have ih := led_ok h s t
  generalize led p s t = q at ih
  obtain ⟨m, n⟩ := q
  obtain ⟨h1, h2⟩ := ih
  have h1 : 0 < n := h1
  have h2 : n < m := h2
  rcases hs with rfl | rfl | rfl
  · show (if m + (m - n) * ((1 : Nat) : Int) < 2 * (n + (m - n) * ((1 : Nat) : Int)) then (0 : Int) else _) = 0
    rw [if_pos (by omega)]
  · show (if 2 * m + n < 2 * m then (0 : Int) else if 2 * m + n < 3 * m then 1 else 2) = 1
    rw [if_neg (by omega), if_pos (by omega)]
  · show (if m + 2 * n * ((1 : Nat) : Int) < 2 * n then (0 : Int) else if m + 2 * n * ((1 : Nat) : Int) < 3 * n then 1 else 2) = 2
    rw [if_neg (by omega), if_neg (by omega)]
/-- where no step s may have come last -/
abbrev root : P2 := (2, 1)
def NotLast (s : Int) (p : P2) : Prop := p = root ∨ lastStep p ≠ s
theorem root_pair : IsPair root := ⟨by decide, by decide, by decide, by decide⟩
/-- the two at the borders -/
theorem at_two {p : P2} (h : IsPair p) (e : p.1 = 2 * p.2) : p = (2, 1) := by
  obtain ⟨m, n⟩ := p
  obtain ⟨h1, h2, h3, h4⟩ := h
  have e : m = 2 * n := e
  have h4 : Int.gcd m n = 1 := h4
  have h1 : 0 < n := h1
  have q : n ∣ (Int.gcd m n : Int) := Int.dvd_coe_gcd (by rw [e]; exact Int.dvd_mul_left ..) (Int.dvd_refl _)
  rw [h4] at q
  have : n = 1 := by
    have := Int.le_of_dvd (by decide) q
    omega
  subst this
  subst e
  rfl
theorem not_three {p : P2} (h : IsPair p) : p.1 ≠ 3 * p.2 := by
  intro e
  obtain ⟨m, n⟩ := p
  obtain ⟨h1, h2, h3, h4⟩ := h
  have e : m = 3 * n := e
  have h3 : (m - n) % 2 = 1 := h3
  omega

/-- how often step 0, step 2 came last -/
theorem times0 {p : P2} (h : IsPair p) (hl : NotLast 0 p) (t : Nat) : ((led p 0 t).2 - 1) / ((led p 0 t).1 - (led p 0 t).2) = t := by
  obtain ⟨m, n⟩ := p
  obtain ⟨h1, h2, h3, h4⟩ := id h
  have h1 : 0 < n := h1
  have h2 : n < m := h2
  have hg : n ≤ m - n := by
    rcases hl with e | e
    · cases e; decide
    · unfold lastStep at e
      split at e
      · exact absurd rfl e
      · rename_i z
        have : ¬ m < 2 * n := z
        omega
  show ((n + (m - n) * t) - 1) / ((m + (m - n) * t) - (n + (m - n) * t)) = (t : Int)
  have e1 : (m + (m - n) * t) - (n + (m - n) * t) = m - n := by omega
  have e2 : (n + (m - n) * t) - 1 = (n - 1) + (m - n) * t := by omega
  rw [e1, e2, Int.add_mul_ediv_left _ _ (by omega), Int.ediv_eq_zero_of_lt (by omega) (by omega), Int.zero_add]
theorem times2 {p : P2} (h : IsPair p) (hl : NotLast 2 p) (t : Nat) : ((led p 2 t).1 - (led p 2 t).2) / (2 * (led p 2 t).2) = t := by
  obtain ⟨m, n⟩ := p
  obtain ⟨h1, h2, h3, h4⟩ := id h
  have h1 : 0 < n := h1
  have h2 : n < m := h2
  have hg : m < 3 * n := by
    rcases hl with e | e
    · cases e; decide
    · unfold lastStep at e
      split at e
      · have : m < 2 * n := by assumption
        omega
      · split at e
        · assumption
        · exact absurd rfl e
  show ((m + 2 * n * t) - n) / (2 * n) = (t : Int)
  have e2 : (m + 2 * n * t) - n = (m - n) + 2 * n * t := by omega
  rw [e2, Int.add_mul_ediv_left _ _ (by omega), Int.ediv_eq_zero_of_lt (by omega) (by omega), Int.zero_add]
/-- .. and step 1: one step back is none -/
theorem un_not {p : P2} (h : IsPair p) (hl : NotLast 1 p) : ¬ Ok2 (un p) := by
  obtain ⟨m, n⟩ := p
  obtain ⟨h1, h2, h3, h4⟩ := id h
  have h1 : 0 < n := h1
  have h2 : n < m := h2
  rintro ⟨q1, q2⟩
  have q1 : 0 < m - 2 * n := q1
  have q2 : m - 2 * n < n := q2
  rcases hl with e | e
  · cases e; omega
  · unfold lastStep at e
    rw [if_neg (show ¬ m < 2 * n by omega), if_pos (show m < 3 * n by omega)] at e
    exact e rfl
theorem leap_ok {p : P2} (h : IsPair p) (hl : NotLast 1 p) (t j : Nat) : Ok2 (iter un j (iter one t p)) ↔ j ≤ t := by
  obtain ⟨h1, h2, _, _⟩ := id h
  constructor
  · intro q
    refine Nat.le_of_not_lt fun hj => ?_
    obtain ⟨d, rfl⟩ : ∃ d, j = d + 1 + t := ⟨j - t - 1, by omega⟩
    rw [iter_add, un_iter_one, iter_succ'] at q
    have := ok_iter q d
    rw [one_iter_un] at this
    exact un_not h hl this
  · intro hj
    obtain ⟨d, rfl⟩ : ∃ d, t = j + d := ⟨t - j, by omega⟩
    rw [iter_add, un_iter_one]
    exact ok_iter ⟨h1, h2⟩ d
theorem back_iter {p : P2} {t j : Nat} (hj : j ≤ t) : iter un j (iter one t p) = iter one (t - j) p := by
  obtain ⟨d, rfl⟩ : ∃ d, t = j + d := ⟨t - j, by omega⟩
  rw [iter_add, un_iter_one, Nat.add_sub_cancel_left]

/-! ### rows -/
abbrev Row := List (Int × Nat)
def behind : P2 → Row → P2
  | p, [] => p
  | p, (s, t) :: r => behind (led p s t) r
theorem behind_append (p : P2) (a b : Row) : behind p (a ++ b) = behind (behind p a) b := by
  induction a generalizing p with
  | nil => rfl
  | cons x a ih => obtain ⟨s, t⟩ := x; exact ih _
/-- a row whose first step is not l -/
def Good : Int → Row → Prop
  | _, [] => True
  | l, (s, t) :: r => (s = 0 ∨ s = 1 ∨ s = 2) ∧ s ≠ l ∧ 0 < t ∧ (s = 1 → t ≤ 1000) ∧ Good s r
theorem good_pair {p : P2} (h : IsPair p) : ∀ r : Row, IsPair (behind p r)
  | [] => h
  | (s, t) :: r => good_pair (led_pair h s t) r

theorem one_up {p : P2} (h : Ok2 p) : p.1 < (one p).1 := by
  obtain ⟨m, n⟩ := p
  obtain ⟨h1, h2⟩ := h
  have h1 : 0 < n := h1
  have h2 : n < m := h2
  show m < 2 * m + n
  omega
theorem iter_up {p : P2} (h : Ok2 p) : ∀ a b : Nat, a ≤ b → (iter one a p).1 ≤ (iter one b p).1
  | a, 0, hab => by rw [Nat.le_zero.mp hab]; exact Int.le_refl _
  | a, b + 1, hab => by
    by_cases e : a = b + 1
    · rw [e]; exact Int.le_refl _
    · exact Int.le_trans (iter_up h a b (by omega)) (Int.le_of_lt (one_up (ok_iter h b)))
theorem led_up1 {p : P2} (h : Ok2 p) (s : Int) : p.1 < (led p s 1).1 := by
  obtain ⟨m, n⟩ := p
  obtain ⟨h1, h2⟩ := id h
  have h1 : 0 < n := h1
  have h2 : n < m := h2
  unfold led
  split
  · show m < m + (m - n) * ((1 : Nat) : Int); omega
  · split
    · show m < m + 2 * n * ((1 : Nat) : Int); omega
    · exact one_up h
theorem led_up {p : P2} (h : Ok2 p) (s : Int) : ∀ a b : Nat, a ≤ b → (led p s a).1 ≤ (led p s b).1
  | a, 0, hab => by rw [Nat.le_zero.mp hab]; exact Int.le_refl _
  | a, b + 1, hab => by
    by_cases e : a = b + 1
    · rw [e]; exact Int.le_refl _
    · refine Int.le_trans (led_up h s a b (by omega)) ?_
      rw [led_succ]
      exact Int.le_of_lt (led_up1 (led_ok h s b) s)
theorem led_more {p : P2} (h : Ok2 p) (s : Int) {t : Nat} (ht : 0 < t) : p.1 < (led p s t).1 := by
  have := led_up h s 1 t ht
  have := led_up1 h s
  omega
theorem behind_ok {p : P2} (h : Ok2 p) : ∀ r : Row, Ok2 (behind p r)
  | [] => h
  | (s, t) :: r => behind_ok (led_ok h s t) r
theorem behind_up {p : P2} (h : Ok2 p) : ∀ r : Row, p.1 ≤ (behind p r).1
  | [] => Int.le_refl _
  | (s, t) :: r => by
    have h1 := led_up h s 0 t (Nat.zero_le _)
    rw [led_zero] at h1
    exact Int.le_trans h1 (behind_up (led_ok h s t) r)
theorem ok_of {p : P2} (h : IsPair p) : Ok2 p := ⟨h.1, h.2.1⟩
theorem behind_take_up (r : Row) (j : Nat) : (behind root (r.take j)).1 ≤ (behind root r).1 := by
  have e : behind root r = behind (behind root (r.take j)) (r.drop j) := by rw [← behind_append, List.take_append_drop]
  rw [e]
  exact behind_up (behind_ok (ok_of root_pair) _) _
/-- a row's places -/
theorem Good.at {l : Int} : ∀ {r : Row} {j : Nat} {s : Int} {t : Nat}, Good l r → r[j]? = some (s, t) → (s = 0 ∨ s = 1 ∨ s = 2) ∧ 0 < t ∧ (s = 1 → t ≤ 1000)
  | [], j, s, t, _, e => by simp at e
  | (a, b) :: r, j, s, t, g, e => by
    obtain ⟨g1, g2, g3, g4, g5⟩ := g
    cases j with
    | zero =>
      have e' := Option.some.inj e
      cases e'
      exact ⟨g1, g3, g4⟩
    | succ j => exact Good.at (j := j) g5 (by simpa using e)
theorem Good.next {l : Int} : ∀ {r : Row} {j : Nat} {s s' : Int} {t t' : Nat}, Good l r → r[j]? = some (s, t) → r[j + 1]? = some (s', t') → s' ≠ s
  | [], j, _, _, _, _, _, e, _ => by simp at e
  | (a, b) :: r, j, s, s', t, t', g, e, e2 => by
    obtain ⟨g1, g2, g3, g4, g5⟩ := g
    cases j with
    | zero =>
      have e' := Option.some.inj e
      cases e'
      have e2 : r[0]? = some (s', t') := by simpa using e2
      cases r with
      | nil => simp at e2
      | cons x r =>
        have e2' := Option.some.inj e2
        subst e2'
        exact g5.2.1
    | succ j => exact Good.next (j := j) g5 (by simpa using e) (by simpa using e2)
theorem behind_snoc (p : P2) (r : Row) (s : Int) (t : Nat) : behind p (r ++ [(s, t)]) = led (behind p r) s t := by rw [behind_append]; rfl
theorem take_snoc {r : Row} {j : Nat} {x : Int × Nat} (h : r[j]? = some x) : r.take (j + 1) = r.take j ++ [x] := by
  rw [List.take_add_one, h]; rfl
/-- at place j of a good row the step may be told -/
theorem row_last {r : Row} {l : Int} {j : Nat} {s : Int} {t : Nat} (g : Good l r) (e : r[j]? = some (s, t)) : NotLast s (behind root (r.take j)) := by
  cases j with
  | zero => exact .inl rfl
  | succ j =>
    have hj : j < r.length := by
      have := (List.getElem?_eq_some_iff.mp e).1
      omega
    have e0 : r[j]? = some r[j] := List.getElem?_eq_getElem hj
    generalize r[j] = x at e0
    obtain ⟨s0, t0⟩ := x
    obtain ⟨a1, a2, a3⟩ := g.at e0
    refine .inr ?_
    rw [take_snoc e0, behind_snoc]
    obtain ⟨t1, rfl⟩ : ∃ t1, t0 = t1 + 1 := ⟨t0 - 1, by omega⟩
    rw [lastStep_of (behind_ok (ok_of root_pair) _) a1 t1]
    exact fun z => g.next e0 e z.symm
end Sq

namespace Sq
open PySem PySem.Spec PyProof.Rows L2 Evl

/-! ### room for isqrt and the like -/
theorem wpAny_roomInverse {M : Model} {A : Around} {E : Value → Shared → Prop} {s : Shared} {n : Nat} {Q : Unit → Shared → Prop} (hl : s.heap.NoLimit) (hd : A.depth + Builtin.pylongFrames < recursionLimit) (hs : SeerAt M A s.heap) (h : Q () s) :
    wpAny M A (Builtin.roomForPylongsInverse n) Q E s := by
  unfold Builtin.roomForPylongsInverse
  by_cases hb : n.log2 / 30 + 1 > 450
  · rw [if_pos hb]
    refine wpAny_bind (hs A.units s E _ rfl ?_)
    exact wpAny_pylongFrames hl hd h
  · rw [if_neg hb]
    exact wpAny_pure h
theorem isqrt_any {prog : Program} {w : World} {A : Around} {E : Value → Shared → Prop} {s : Shared} {Q : Value → Shared → Prop} {a : Int} {t : Tok} (h0 : 0 ≤ a) (h1 : a.toNat.log2 ≤ 200000)
    (hl : s.heap.NoLimit) (hd : A.depth + Builtin.pylongFrames < recursionLimit) (hs : SeerAt (model prog w) A s.heap) (h : Q (.int ((Float64.isqrt a.toNat : Nat) : Int) s.toks) { s with toks := s.toks + 1 }) :
    wpAny (model prog w) A (call (.builtin "math.isqrt") [.int a t]) Q E s := by
  refine Calls.call_function_entry PySem.W.MGF.kind_isqrt PySem.W.MGF.plain_isqrt PySem.W.MGF.entry_isqrt (PySem.W.MGF.args_isqrt _) ?_
  obtain ⟨hp, g, d, tk, os⟩ := s
  have hc0 : ¬ a < 0 := by omega
  have hc1 : ¬ a.toNat.log2 > 200000 := by omega
  wp_walk using (wpAny_roomInverse (A := A.in1) hl hd hs)
  exact ⟨_, rfl, h⟩

/-! ### math.isqrt -/
def rIsqrt : List V → Hp → VK → Prop := fun vs H Q => ∃ a : Int, vs = [.int a] ∧ 0 ≤ a ∧ a.toNat.log2 ≤ 200000 ∧ Q (.int ((Float64.isqrt a.toNat : Nat) : Int)) H
section
variable {X : Cx}
theorem seer_of {pins : List (Addr × Obj)} {σ : L2.St} {H : Hp} {s : Shared} (I : Inv X pins σ H s) (hS : X.base.NoSeer) (ht : X.prog.given.tree = none) (hk : X.stack = X.env :: X.outer)
    (hg : X.env.scope.isGenerator = false) (hc : X.env.scope.isCoroutine = false) : SeerAt (model X.prog X.w) X.A s.heap :=
  SeerAt.of (hS.keeps I.bk) ht (I.ok.frames.trans (by rw [hk])) hg hc I.ok.blt I.ok.glob
/-- of great numbers, in a def's own body -/
theorem cr_isqrt {k : Nat} (hS : X.base.NoSeer) (ht : X.prog.given.tree = none) (hk : X.stack = X.env :: X.outer) (hg : X.env.scope.isGenerator = false) (hc : X.env.scope.isCoroutine = false) (hr : Room k X.A) (h32 : 32 ≤ k) :
    CallR X (.builtin "math.isqrt") rIsqrt := by
  intro pins s σ H vs us Q I r h
  obtain ⟨a, rfl, h0, h1, q⟩ := h
  obtain ⟨u, rfl, t, rfl⟩ : ∃ u, us = [u] ∧ RelV (.int a) u := by
    cases r with
    | cons p q => cases q; exact ⟨_, rfl, p⟩
  refine isqrt_any h0 h1 I.nolimit ?_ (seer_of I hS ht hk hg hc) ⟨.int _, H, I.tok _, ⟨_, rfl⟩, q⟩
  have := hr.dp
  show X.A.depth + 100 < recursionLimit
  omega
/-- of small ones, anywhere -/
def rIsqrtS : List V → Hp → VK → Prop := fun vs H Q => ∃ a : Int, vs = [.int a] ∧ 0 ≤ a ∧ a < 2 ^ 64 ∧ Q (.int ((Float64.isqrt a.toNat : Nat) : Int)) H
theorem cr_isqrtS : CallR X (.builtin "math.isqrt") rIsqrtS := by
  intro pins s σ H vs us Q I r h
  obtain ⟨a, rfl, h0, h1, q⟩ := h
  obtain ⟨u, rfl, t, rfl⟩ : ∃ u, us = [u] ∧ RelV (.int a) u := by
    cases r with
    | cons p q => cases q; exact ⟨_, rfl, p⟩
  exact PySem.W.mg_isqrt h0 h1 ⟨.int _, H, I.tok _, ⟨_, rfl⟩, q⟩

/-! ### // of any size where C does it, in place too -/
theorem op_fdivP : OpR X (binaryOp .FloorDiv) (rI CDivP fun i j => .int (i / j)) := opI fun i j _ _ _ _ _ hc q => by
  have h1 : (0 : Int) < j := hc.1
  exact floordiv_int (by omega) (by rw [Int.fdiv_eq_ediv_of_nonneg i (by omega)]; exact q) (.inl hc.2)
/-- of any size at all, in a def's own body -/
theorem op_fdivB {k : Nat} (hS : X.base.NoSeer) (ht : X.prog.given.tree = none) (hk : X.stack = X.env :: X.outer) (hg : X.env.scope.isGenerator = false) (hc : X.env.scope.isCoroutine = false) (hr : Room k X.A) (h32 : 32 ≤ k) :
    OpR X (binaryOp .FloorDiv) (rI (fun _ j => 0 < j) fun i j => .int (i / j)) := by
  intro pins s σ H x y v u Q I rx ry h
  obtain ⟨i, j, rfl, rfl, h1, q⟩ := h
  obtain ⟨t, rfl⟩ := rx
  obtain ⟨t', rfl⟩ := ry
  have h1 : (0 : Int) < j := h1
  have hd : X.A.depth + Builtin.pylongFrames < recursionLimit := by
    have := hr.dp
    show X.A.depth + 100 < recursionLimit
    omega
  refine floordiv_int (by omega) ?_ (.inr (PylongRoom.of I.nolimit hd (seer_of I hS ht hk hg hc)))
  rw [Int.fdiv_eq_ediv_of_nonneg i (by omega)]
  exact ⟨.int _, H, I.tok _, ⟨_, rfl⟩, q⟩
theorem iop_fdivP : OpR X (inplaceOp .FloorDiv) (rI CDivP fun i j => .int (i / j)) := opI fun i j _ _ _ _ _ hc q => by
  have h1 : (0 : Int) < j := hc.1
  exact ifloordiv_int (by omega) (by rw [Int.fdiv_eq_ediv_of_nonneg i (by omega)]; exact q) (.inl hc.2)
theorem ip_fdivP : PIp X .FloorDiv (rI CDivP fun i j => .int (i / j)) := fun pins s σ H x y v u Q I rx ry h => iop_fdivP pins s σ H x y v u Q I rx ry h
theorem iop_mulX : OpR X (inplaceOp .Mult) (rI CMulX fun i j => .int (i * j)) := opI fun _ _ _ _ _ _ _ hc q => imul_int q hc.ok
theorem ip_mulX : PIp X .Mult (rI CMulX fun i j => .int (i * j)) := fun pins s σ H x y v u Q I rx ry h => iop_mulX pins s σ H x y v u Q I rx ry h
end
theorem divs {i j : Int} (h : 0 < j) (h2 : j < 1073741824) : CDivP i j := ⟨h, PyProof.noPylong_small (by omega)⟩
theorem hu64 {A : Around} {k : Nat} (hr : Room k A) : A.units + 64 < cLine := hr.units

/-! ### rules with the written part named (within a comprehension) -/
section
variable {X : Cx} {K : PySem.W.Frag}
theorem k_ixL (h : X.K = K) : IxR X (rIxL K) := by subst h; exact ix_list
theorem k_ixT (h : X.K = K) : IxR X (rIxT K) := by subst h; exact ix_tup
theorem k_isi (h : X.K = K) : CallR X (.builtin "isinstance") (rIsi K) := by subst h; exact call_isi
theorem k_len (h : X.K = K) : CallR X (.builtin "len") (rLenS K) := by subst h; exact call_len_seq
theorem k_list (h : X.K = K) : CallR X (.type "list") (rListS K) := by subst h; exact call_list_of
theorem k_all (h : X.K = K) (hc : X.calm = true) : CallR X (.builtin "all") (rAll K) := by subst h; exact cr_all hc
theorem k_eqD (h : X.K = K) (hu : X.A.units + 64 < cLine) : OpR X (compareOp .Eq) (rEqD K) := by subst h; exact op_eqD hu
theorem k_neD (h : X.K = K) (hu : X.A.units + 64 < cLine) : OpR X (compareOp .NotEq) (rNeD K) := by subst h; exact op_neD hu
end

/-! ### xs.count(x), data of any depth -/
def rCntD (K : PySem.W.Frag) : V → List V → Hp → VK → Prop := fun x xs H Q => ∃ (p : Addr) (y : V) (d : PyData) (ds : List PyData), x = .ref p ∧ xs = [y] ∧ Dp K H (.ref p) (.list ds) ∧ Dp K H y d ∧ SeqAt.shaped (.list ds) = true ∧ SeqAt.shaped d = true ∧
  Q (.int ((ds.countP fun z => PyData.eqv z d : Nat) : Int)) H
theorem mt_countD {X : Cx} {K : PySem.W.Frag} (hK : X.K = K) (hu : X.A.units + 65 < cLine) : MtR X "list.count" (rCntD K) := by
  subst hK
  intro pins s σ H x xs v us Q I rx rxs h
  obtain ⟨a, y, d, ds, rfl, rfl, hl, hy, sl, sd, q⟩ := h
  cases rx
  cases rxs with
  | cons ry rt =>
    rename_i uy ut
    cases rt
    obtain ⟨bs, r1⟩ := Dp.reads I d y uy hy ry
    cases hl with
    | lst hs ha =>
      obtain ⟨its, rv, pl, hlen⟩ := I.list hs
      obtain ⟨as, h4⟩ := Dp.readsAll I ds _ its ha rv
      have hroom : X.A.units + 1 + min (PyData.depthAll ds) d.depth < cLine := by
        have h1 := SeqAt.depth_of_shaped sd
        have h2 : min (PyData.depthAll ds) d.depth ≤ d.depth := Nat.min_le_right _ _
        omega
      exact SeqAt.count_list_data pl.isList h4 r1 (PyData.plainAll_of_canLay0 ds (SeqAt.canLay_of_shaped sl)) (PyData.plain_of_canLay0 d (SeqAt.canLay_of_shaped sd)) hroom ⟨.int _, H, I.tok _, ⟨_, rfl⟩, q⟩
theorem hu65 {A : Around} {k : Nat} (hr : Room k A) : A.units + 65 < cLine := by have := hr.un; omega

/-! ### a def that stands in the module, with its promise -/
structure Cal (P : Program) (w : World) (K : PySem.W.Frag) (mg : Str → Option Value) (base : Heap) (CX : CXT) (x : Str) (k : Nat) (ps : List Str) (sp : Sp) : Prop where
  ex : ∃ f fd, mg x = some (.ref f) ∧ PySem.W.keepIn K (.ref f) = true ∧ Binds K fd ps [] ∧ FnOk P w K mg base CX k f fd ps sp
theorem pe_cal {X : Cx} {CX : CXT} {x : Str} {k : Nat} {ps : List Str} {sp : Sp} {E : XK} {e : Expr} {es : List Expr} {t : TA} {p pos : Pos} (C : Cal X.prog X.w X.K X.mg X.base CX x k ps sp) (hr : Room k X.A) (hg : Gl X x) (hx : Passes CX X E) (ha : PA X (e :: es) t)
    (hdb : (x == ("__debug__" : Str)) = false := by decide) (he : starEach (e :: es) X.env = (false, eval e X.env) :: starEach es X.env := by rfl) (hpl : (backTo pos (starEach es X.env)).any (·.1) = false := by rfl) :
    PE X (.Call (.Name x p) (e :: es) [] pos) (tCall sp [] E t) := by
  obtain ⟨f, fd, hm, hk, hb, F⟩ := C.ex
  exact pe_call F hr hg hm hk hb .nil hx ha hdb he hpl

/-! ### what evaluates to what data -/
theorem dp_ex {K : PySem.W.Frag} {H H' : Hp} (e : Ex H H') : ∀ {d : PyData} {v : V}, Dp K H v d → Dp K H' v d := by
  have key : (∀ (d : PyData) (v : V), Dp K H v d → Dp K H' v d) ∧ (∀ (ds : List PyData) (vs : List V), DpAll K H vs ds → DpAll K H' vs ds) ∧ (∀ kvs : List (PyData × PyData), True) ∧ (∀ kv : PyData × PyData, True) := by
    refine ⟨?_, ?_, fun _ => trivial, fun _ => trivial⟩
    · intro d v h
      exact h.rec (motive_1 := fun v d _ => Dp K H' v d) (motive_2 := fun vs ds _ => DpAll K H' vs ds) .non .bl .int .str (fun h _ ih => .lst (ex_l e h) ih) (fun h _ ih => .tup (ex_t e h) ih) .nil (fun _ _ a b => .cons a b)
    · intro ds vs h
      exact h.rec (motive_1 := fun v d _ => Dp K H' v d) (motive_2 := fun vs ds _ => DpAll K H' vs ds) .non .bl .int .str (fun h _ ih => .lst (ex_l e h) ih) (fun h _ ih => .tup (ex_t e h) ih) .nil (fun _ _ a b => .cons a b)
  exact fun {d v} h => key.1 d v h
theorem dpa_ex {K : PySem.W.Frag} {H H' : Hp} (e : Ex H H') {ds : List PyData} {vs : List V} (h : DpAll K H vs ds) : DpAll K H' vs ds :=
  h.rec (motive_1 := fun v d _ => Dp K H' v d) (motive_2 := fun vs ds _ => DpAll K H' vs ds) .non .bl .int .str (fun h _ ih => .lst (ex_l e h) ih) (fun h _ ih => .tup (ex_t e h) ih) .nil (fun _ _ a b => .cons a b)
theorem DpAll.len {K : PySem.W.Frag} {H : Hp} : ∀ {ds : List PyData} {vs : List V}, DpAll K H vs ds → vs.length = ds.length
  | [], _, h => by cases h; rfl
  | _ :: _, _, h => by
    cases h with
    | cons a b => rw [List.length_cons, List.length_cons, DpAll.len b]
end Sq

namespace Sq
open PySem PySem.Spec PyProof.Rows L2 Evl
/-! ### data behind a value; an empty dict too -/
mutual
inductive DV (K : PySem.W.Frag) (H : Hp) : V → PyData → Prop
  | non : DV K H .non .none
  | bl (b : Bool) : DV K H (.bl b) (.bool b)
  | int (i : Int) : DV K H (.int i) (.int i)
  | str (x : Str) : DV K H (.str x) (.str x)
  | lst {a : Addr} {xs : List V} {ds : List PyData} : SqL K H a xs → DVs K H xs ds → DV K H (.ref a) (.list ds)
  | tup {a : Addr} {xs : List V} {ds : List PyData} : SqT K H a xs → DVs K H xs ds → DV K H (.ref a) (.tuple ds)
  | dct {a : Addr} : H a = some (.dK []) → DV K H (.ref a) (.dict [])
inductive DVs (K : PySem.W.Frag) (H : Hp) : List V → List PyData → Prop
  | nil : DVs K H [] []
  | cons {v : V} {vs : List V} {d : PyData} {ds : List PyData} : DV K H v d → DVs K H vs ds → DVs K H (v :: vs) (d :: ds)
end
section
variable {K : PySem.W.Frag} {H H' : Hp}
mutual
theorem dv_ex (e : Ex H H') : ∀ (d : PyData) (v : V), DV K H v d → DV K H' v d
  | .none, _, h => by cases h; exact .non
  | .bool _, _, h => by cases h; exact .bl _
  | .int _, _, h => by cases h; exact .int _
  | .str _, _, h => by cases h; exact .str _
  | .list ds, _, h => by
    cases h with
    | lst a b => exact .lst (ex_l e a) (dvs_ex e ds _ b)
  | .tuple ds, _, h => by
    cases h with
    | tup a b => exact .tup (ex_t e a) (dvs_ex e ds _ b)
  | .dict _, _, h => by
    cases h with
    | dct a => exact .dct (e _ _ a)
theorem dvs_ex (e : Ex H H') : ∀ (ds : List PyData) (vs : List V), DVs K H vs ds → DVs K H' vs ds
  | [], _, h => by cases h; exact .nil
  | d :: ds, _, h => by
    cases h with
    | cons a b => exact .cons (dv_ex e d _ a) (dvs_ex e ds _ b)
end
theorem DV.ex {d : PyData} {v : V} (h : DV K H v d) (e : Ex H H') : DV K H' v d := dv_ex e d v h
theorem DVs.ex {ds : List PyData} {vs : List V} (h : DVs K H vs ds) (e : Ex H H') : DVs K H' vs ds := dvs_ex e ds vs h
mutual
theorem dv_dp : ∀ (d : PyData) (v : V), d.canLay0 = true → DV K H v d → Dp K H v d
  | .none, _, _, h => by cases h; exact .non
  | .bool _, _, _, h => by cases h; exact .bl _
  | .int _, _, _, h => by cases h; exact .int _
  | .str _, _, _, h => by cases h; exact .str _
  | .list ds, _, c, h => by
    cases h with
    | lst a b => exact .lst a (dvs_dp ds _ (by simpa [PyData.canLay0] using c) b)
  | .tuple ds, _, c, h => by
    cases h with
    | tup a b => exact .tup a (dvs_dp ds _ (by simpa [PyData.canLay0] using c) b)
  | .dict _, _, c, h => by simp [PyData.canLay0] at c
theorem dvs_dp : ∀ (ds : List PyData) (vs : List V), PyData.canLayAll0 ds = true → DVs K H vs ds → DpAll K H vs ds
  | [], _, _, h => by cases h; exact .nil
  | d :: ds, _, c, h => by
    have c' : d.canLay0 = true ∧ PyData.canLayAll0 ds = true := by simpa [PyData.canLayAll0] using c
    cases h with
    | cons a b => exact .cons (dv_dp d _ c'.1 a) (dvs_dp ds _ c'.2 b)
end
theorem DV.dp {d : PyData} {v : V} (h : DV K H v d) (c : SeqAt.shaped d = true) : Dp K H v d := dv_dp d v (SeqAt.canLay_of_shaped c) h
theorem DVs.len : ∀ {ds : List PyData} {vs : List V}, DVs K H vs ds → vs.length = ds.length
  | [], _, h => by cases h; rfl
  | _ :: _, _, h => by
    cases h with
    | cons a b => rw [List.length_cons, List.length_cons, DVs.len b]
theorem DVs.get : ∀ {ds : List PyData} {vs : List V} {i : Nat} {v : V}, DVs K H vs ds → vs[i]? = some v → ∃ d, ds[i]? = some d ∧ DV K H v d
  | [], _, i, v, h, e => by cases h; simp at e
  | d :: ds, _, i, v, h, e => by
    cases h with
    | cons a b =>
      cases i with
      | zero =>
        have e' := Option.some.inj e
        subst e'
        exact ⟨d, rfl, a⟩
      | succ i =>
        obtain ⟨d', h1, h2⟩ := DVs.get (i := i) b (by simpa using e)
        exact ⟨d', by simpa using h1, h2⟩
theorem DVs.get' : ∀ {ds : List PyData} {vs : List V} {i : Nat} {d : PyData}, DVs K H vs ds → ds[i]? = some d → ∃ v, vs[i]? = some v ∧ DV K H v d
  | [], _, i, v, h, e => by cases h; simp at e
  | d :: ds, _, i, v, h, e => by
    cases h with
    | cons a b =>
      cases i with
      | zero =>
        have e' := Option.some.inj e
        subst e'
        exact ⟨_, rfl, a⟩
      | succ i =>
        obtain ⟨v', h1, h2⟩ := DVs.get' (i := i) b (by simpa using e)
        exact ⟨v', by simpa using h1, h2⟩
theorem DVs.append : ∀ {ds es : List PyData} {vs ws : List V}, DVs K H vs ds → DVs K H ws es → DVs K H (vs ++ ws) (ds ++ es)
  | [], _, _, _, h, g => by cases h; exact g
  | d :: ds, _, _, _, h, g => by
    cases h with
    | cons a b => exact .cons a (DVs.append b g)
theorem DVs.take : ∀ {ds : List PyData} {vs : List V} (n : Nat), DVs K H vs ds → DVs K H (vs.take n) (ds.take n)
  | _, _, 0, _ => by rw [List.take_zero, List.take_zero]; exact .nil
  | [], _, n + 1, h => by cases h; exact .nil
  | d :: ds, _, n + 1, h => by
    cases h with
    | cons a b => exact .cons a (DVs.take n b)
theorem DVs.drop : ∀ {ds : List PyData} {vs : List V} (n : Nat), DVs K H vs ds → DVs K H (vs.drop n) (ds.drop n)
  | _, _, 0, h => h
  | [], _, n + 1, h => by cases h; exact .nil
  | d :: ds, _, n + 1, h => by
    cases h with
    | cons a b => exact DVs.drop n b
theorem DVs.reverse : ∀ {ds : List PyData} {vs : List V}, DVs K H vs ds → DVs K H vs.reverse ds.reverse
  | [], _, h => by cases h; exact .nil
  | d :: ds, _, h => by
    cases h with
    | cons a b => rw [List.reverse_cons, List.reverse_cons]; exact (DVs.reverse b).append (.cons a .nil)
theorem DVs.of_map {α : Type} {f : α → V} {g : α → PyData} : ∀ {xs : List α}, (∀ x ∈ xs, DV K H (f x) (g x)) → DVs K H (xs.map f) (xs.map g)
  | [], _ => .nil
  | x :: xs, h => .cons (h x List.mem_cons_self) (DVs.of_map fun y hy => h y (List.mem_cons_of_mem _ hy))
/-- what holds tuples of numbers alone stays, whatever becomes of the lists -/
def TEx (H H' : Hp) : Prop := ∀ a xs, H a = some (.tup xs) → H' a = some (.tup xs)
def flatT : PyData → Bool
  | .tuple xs => xs.all fun | .int _ => true | .bool _ => true | .str _ => true | .none => true | _ => false
  | .int _ => true
  | .bool _ => true
  | .str _ => true
  | .none => true
  | _ => false
end

/-! ### what evaluates to what data -/
def EvD (K : PySem.W.Frag) (te : TE) (σ : L2.St) (H : Hp) (d : PyData) : Prop := ∀ H1, Ex H H1 → ∀ Q : VK, (∀ v H2, Ex H1 H2 → DV K H2 v d → Q v H2) → te σ H1 Q
def EvDA (K : PySem.W.Frag) (ta : TA) (σ : L2.St) (H : Hp) (ds : List PyData) : Prop := ∀ H1, Ex H H1 → ∀ Q : List V → Hp → Prop, (∀ vs H2, Ex H1 H2 → DVs K H2 vs ds → Q vs H2) → ta σ H1 Q
/-- a promise of data: R args result -/
def RetD (K : PySem.W.Frag) (d : PyData) (H : Hp) (Q : VK) : Prop := ∀ v H2, Ex H H2 → DV K H2 v d → Q v H2
def spF (K : PySem.W.Frag) (R : List PyData → PyData → Prop) : Sp := fun vs H Q _ => ∃ ds d, DVs K H vs ds ∧ R ds d ∧ RetD K d H Q
/-- .. of a new list -/
def RetDL (K : PySem.W.Frag) (ds : List PyData) (H : Hp) (Q : VK) : Prop := ∀ p vs H2, H p = none → Ex H H2 → H2 p = some (.lst vs) → DVs K H2 vs ds → Q (.ref p) H2
def spL (K : PySem.W.Frag) (R : List PyData → List PyData → Prop) : Sp := fun vs H Q _ => ∃ ds es, DVs K H vs ds ∧ R ds es ∧ RetDL K es H Q
section
variable {K : PySem.W.Frag} {σ : L2.St} {H H' : Hp} {ta tb te tx : TE} {t u : TT} {x y z v : V} {r : R2} {d e : PyData} {ds es : List PyData} {tA tB' : TA}
theorem EvD.mono (x : Ex H H') (h : EvD K te σ H d) : EvD K te σ H' d := fun H1 a Q q => h H1 (x.trans a) Q q
theorem EvDA.mono (x : Ex H H') (h : EvDA K tA σ H ds) : EvDA K tA σ H' ds := fun H1 a Q q => h H1 (x.trans a) Q q
theorem ed_of (h : Ev te σ H v) (hd : DV K H v d) : EvD K te σ H d := fun H1 a Q q => h H1 a Q fun H2 b => q v H2 b (hd.ex (a.trans b))
theorem ed_var {i : Nat} (h : σ[i]? = some (some v)) (hd : DV K H v d) : EvD K (tVar i) σ H d := ed_of (ev_var h) hd
theorem ed_int {i : Int} (h : Ev te σ H (.int i)) : EvD K te σ H (.int i) := ed_of h (.int i)
theorem ed_bl {b : Bool} (h : Ev te σ H (.bl b)) : EvD K te σ H (.bool b) := ed_of h (.bl b)
theorem ed_non (h : Ev te σ H .non) : EvD K te σ H .none := ed_of h .non
theorem ed_str {s : Str} (h : Ev te σ H (.str s)) : EvD K te σ H (.str s) := ed_of h (.str s)
theorem ev_intD {i : Int} (h : EvD K te σ H (.int i)) : Ev te σ H (.int i) := fun H1 a Q q => h H1 a Q fun v H2 b hv => by cases hv; exact q H2 b
theorem ev_blD {b : Bool} (h : EvD K te σ H (.bool b)) : Ev te σ H (.bl b) := fun H1 a Q q => h H1 a Q fun v H2 b hv => by cases hv; exact q H2 b
theorem ev_nonD (h : EvD K te σ H .none) : Ev te σ H .non := fun H1 a Q q => h H1 a Q fun v H2 b hv => by cases hv; exact q H2 b
theorem eda_nil : EvDA K tNil σ H [] := fun H1 _ _ q => q [] H1 (Ex.refl H1) .nil
theorem eda_cons (h : EvD K te σ H d) (hr : EvDA K tA σ H ds) : EvDA K (tCons te tA) σ H (d :: ds) := fun H1 a _ q =>
  h H1 a _ fun v H2 b hv => hr H2 (a.trans b) _ fun vs H3 c hvs => q (v :: vs) H3 (b.trans c) (.cons (hv.ex c) hvs)
theorem ed_tup (h : EvDA K tA σ H ds) (hl : ds.length ≤ 100000) : EvD K (tTup tA) σ H (.tuple ds) := fun H1 a _ q =>
  h H1 a _ fun vs H2 b hvs => ⟨sz_of (by rw [hvs.len]; exact hl), fun p hp => q _ _ (b.trans (Ex.new hp)) (.tup (st_of upd_same) (hvs.ex (Ex.new hp)))⟩
theorem ed_lst (h : EvDA K tA σ H ds) (hl : ds.length ≤ 100000) : EvD K (tLst tA) σ H (.list ds) := fun H1 a _ q =>
  h H1 a _ fun vs H2 b hvs => ⟨sz_of (by rw [hvs.len]; exact hl), fun p hp => q _ _ (b.trans (Ex.new hp)) (.lst (sq_of upd_same) (hvs.ex (Ex.new hp)))⟩
theorem ed_call {R : List PyData → PyData → Prop} {E : XK} (h : EvDA K tA σ H ds) (hR : R ds d) : EvD K (tCall (spF K R) [] E tA) σ H d := fun H1 a _ q =>
  h H1 a _ fun vs H2 b hvs => ⟨ds, d, by rw [List.append_nil]; exact hvs, hR, fun v H3 c hv => q v H3 (b.trans c) hv⟩
theorem ed_callL {R : List PyData → List PyData → Prop} {E : XK} (h : EvDA K tA σ H ds) (hR : R ds es) : EvD K (tCall (spL K R) [] E tA) σ H (.list es) := fun H1 a _ q =>
  h H1 a _ fun vs H2 b hvs => ⟨ds, es, by rw [List.append_nil]; exact hvs, hR, fun p vs H3 _ c hp hv => q _ H3 (b.trans c) (.lst (sq_of hp) hv)⟩
theorem ev_eqD (ha : EvD K ta σ H d) (hb : EvD K tb σ H e) (sd : SeqAt.shaped d = true) (se : SeqAt.shaped e = true) : Ev (tOp (rEqD K) ta tb) σ H (.bl (PyData.eqv d e)) := fun H1 a _ q =>
  ha H1 a _ fun v H2 b hv => hb H2 (a.trans b) _ fun w H3 c hw => ⟨d, e, (hv.ex c).dp sd, hw.dp se, sd, se, q H3 (b.trans c)⟩
theorem ev_neD (ha : EvD K ta σ H d) (hb : EvD K tb σ H e) (sd : SeqAt.shaped d = true) (se : SeqAt.shaped e = true) : Ev (tOp (rNeD K) ta tb) σ H (.bl (!PyData.eqv d e)) := fun H1 a _ q =>
  ha H1 a _ fun v H2 b hv => hb H2 (a.trans b) _ fun w H3 c hw => ⟨d, e, (hv.ex c).dp sd, hw.dp se, sd, se, q H3 (b.trans c)⟩
theorem atI_dv {xs : List V} {i : Int} {j : Nat} {w : V} (hj : i = (j : Int)) (h : xs[j]? = some w) : atI xs i = some w := at_of hj h
theorem ed_ixT {i : Int} {j : Nat} (ha : EvD K ta σ H (.tuple ds)) (hb : Ev tb σ H (.int i)) (hj : i = (j : Int)) (h : ds[j]? = some d) : EvD K (tOp (rIxT K) ta tb) σ H d := fun H1 a _ q =>
  ha H1 a _ fun v H2 b hv => hb H2 (a.trans b) _ fun H3 c => by
    cases hv with
    | @tup p xs _ hp hx =>
      obtain ⟨w, h1, h2⟩ := hx.get' h
      exact ⟨p, xs, i, w, rfl, rfl, ex_t c hp, atI_dv hj h1, q w H3 (b.trans c) (h2.ex c)⟩
theorem ed_ixL {i : Int} {j : Nat} (ha : EvD K ta σ H (.list ds)) (hb : Ev tb σ H (.int i)) (hj : i = (j : Int)) (h : ds[j]? = some d) : EvD K (tOp (rIxL K) ta tb) σ H d := fun H1 a _ q =>
  ha H1 a _ fun v H2 b hv => hb H2 (a.trans b) _ fun H3 c => by
    cases hv with
    | @lst p xs _ hp hx =>
      obtain ⟨w, h1, h2⟩ := hx.get' h
      exact ⟨p, xs, i, w, rfl, rfl, ex_l c hp, atI_dv hj h1, q w H3 (b.trans c) (h2.ex c)⟩
theorem at_end {α : Type} {xs : List α} {v : α} (h : xs[xs.length - 1]? = some v) : atI xs (-1) = some v := by
  have h2 : xs.getLast? = some v := by rw [List.getLast?_eq_getElem?]; exact h
  have hne : xs ≠ [] := by
    intro z
    subst z
    simp at h2
  have h3 : xs.dropLast ++ [v] = xs := by
    have := List.dropLast_concat_getLast hne
    rw [List.getLast?_eq_some_getLast hne] at h2
    rw [← Option.some.inj h2]
    exact this
  rw [← h3]
  exact atI_last _ _
/-- xs[-1] -/
theorem ed_ixLast (ha : EvD K ta σ H (.list ds)) (hb : Ev tb σ H (.int (-1))) (h : ds[ds.length - 1]? = some d) : EvD K (tOp (rIxL K) ta tb) σ H d := fun H1 a _ q =>
  ha H1 a _ fun v H2 b hv => hb H2 (a.trans b) _ fun H3 c => by
    cases hv with
    | @lst p xs _ hp hx =>
      obtain ⟨w, h1, h2⟩ := hx.get' h
      have h0 : ds.length - 1 < ds.length := (List.getElem?_eq_some_iff.mp h).1
      rw [← hx.len] at h1
      exact ⟨p, xs, -1, w, rfl, rfl, ex_l c hp, at_end h1, q w H3 (b.trans c) (h2.ex c)⟩
theorem ev_lenT (ha : EvD K ta σ H (.tuple ds)) : Ev (tCB (rLenS K) (tCons ta tNil)) σ H (.int (ds.length : Int)) := fun H1 a _ q =>
  ha H1 a _ fun v H2 b hv => by
    cases hv with
    | @tup p xs _ hp hx => exact ⟨p, xs, rfl, .inr hp, by rw [hx.len]; exact q H2 b⟩
theorem ev_lenL (ha : EvD K ta σ H (.list ds)) : Ev (tCB (rLenS K) (tCons ta tNil)) σ H (.int (ds.length : Int)) := fun H1 a _ q =>
  ha H1 a _ fun v H2 b hv => by
    cases hv with
    | @lst p xs _ hp hx => exact ⟨p, xs, rfl, .inl hp, by rw [hx.len]; exact q H2 b⟩
/-- the class's name of data -/
def tyN : PyData → String
  | .none => "NoneType" | .bool _ => "bool" | .int _ => "int" | .str _ => "str" | .list _ => "list" | .tuple _ => "tuple" | .dict _ => "dict"
theorem tyx_of (h : DV K H v d) : TyX K H v (.type (tyN d)) := by
  cases h with
  | non => exact .base .non
  | bl b => exact .base (.bl b)
  | int i => exact .base (.int i)
  | str s => exact .base (.str s)
  | lst hp _ =>
    rcases hp with (hp | ⟨o, hp⟩) | ⟨o, its, n, hk, hc, _⟩
    · exact .base (.lst hp)
    · exact .base (.frz hp)
    · exact .kList hk hc
  | tup hp _ =>
    rcases hp with (hp | ⟨o, hp⟩) | ⟨o, its, n, hk, hc, _⟩
    · exact .base (.tup hp)
    · exact .fTuple hp
    · exact .kTuple hk hc
  | dct hp => exact .base (.dK hp)
theorem ev_isi {n : String} {b : Bool} (ha : EvD K ta σ H d) (hb : kitB (tyN d) n = some b) : Ev (tCB (rIsi K) (tCons ta (tCons (tC (.ty n)) tNil))) σ H (.bl b) := fun H1 a _ q =>
  ha H1 a _ fun v H2 c hv => ⟨v, .ty n, _, _, b, rfl, .ty n, tyx_of hv, kit_ty hb, q H2 c⟩
theorem ev_chain {r' : R2} {tc : TE} {b1 b2 : Bool} (ha : Ev ta σ H x) (hb : Ev tb σ H y) (h1 : RV r x y H (.bl b1)) (hc : b1 = true → Ev tc σ H z) (h2 : b1 = true → RV r' y z H (.bl b2)) : Ev (tChain r r' ta tb tc) σ H (.bl (b1 && b2)) := fun H1 a Q q =>
  ha H1 a _ fun H2 b => hb H2 (a.trans b) _ fun H3 c => h1 H3 ((a.trans b).trans c) _ fun H4 f => ⟨b1, rfl, by
    cases b1 with
    | true =>
      rw [if_pos rfl]
      exact hc rfl H4 (((a.trans b).trans c).trans f) _ fun H5 g => h2 rfl H5 ((((a.trans b).trans c).trans f).trans g) Q fun H6 k => q H6 ((((b.trans c).trans f).trans g).trans k)
    | false =>
      rw [if_neg Bool.false_ne_true]
      exact q H4 ((b.trans c).trans f)⟩
theorem ev_all {bs : List Bool} (h : EvL te σ H (bs.map V.bl)) : Ev (tCB (rAll K) (tCons te tNil)) σ H (.bl (bs.all id)) := fun H1 a Q q =>
  h H1 a _ fun p H2 _ b hp => ⟨p, bs, rfl, sq_of hp, q H2 b⟩
theorem ev_isq {a : Int} (h : Ev te σ H (.int a)) (h0 : 0 ≤ a) (h1 : a.toNat.log2 ≤ 200000) : Ev (tCB rIsqrt (tCons te tNil)) σ H (.int ((Float64.isqrt a.toNat : Nat) : Int)) := fun H1 x Q q =>
  h H1 x _ fun H2 b => ⟨a, rfl, h0, h1, q H2 b⟩
theorem ev_isqS {a : Int} (h : Ev te σ H (.int a)) (h0 : 0 ≤ a) (h1 : a < 2 ^ 64) : Ev (tCB rIsqrtS (tCons te tNil)) σ H (.int ((Float64.isqrt a.toNat : Nat) : Int)) := fun H1 x Q q =>
  h H1 x _ fun H2 b => ⟨a, rfl, h0, h1, q H2 b⟩
theorem ev_gcd {a b : Int} (h : Ev ta σ H (.int a)) (h' : Ev tb σ H (.int b)) : Ev (tCB rGcd (tCons ta (tCons tb tNil))) σ H (.int ((Int.gcd a b : Nat) : Int)) := fun H1 x Q q =>
  h H1 x _ fun H2 e2 => h' H2 (x.trans e2) _ fun H3 e3 => ⟨a, b, rfl, q H3 (e2.trans e3)⟩
theorem ev_bits {a : Int} (h : Ev te σ H (.int a)) : Ev (tBits te) σ H (.int ((Builtin.Int.intBits a : Nat) : Int)) := fun H1 x Q q =>
  h H1 x _ fun H2 e2 => ⟨a, rfl, q H2 e2⟩

/-! ### comprehensions over data, a truth a turn -/
theorem given_all (n : Nat) (v : Nat → V) : given n (fun _ => true) v = (List.range n).map v := by
  unfold given
  congr 1
  exact List.filter_eq_self.mpr fun _ _ => rfl
theorem el_lcT {a : Addr} {xs : List V} {tl : TE} {j : Nat} {vs : List Nat} (f : Nat → Bool) (v : Nat → V) (h : Ev tl σ H (.ref a)) (hx : SqT K H a xs) (hz : xs.length ≤ 40000) (hw : ∀ x, wipe ((wipe σ vs).set j (some x)) vs = wipe σ vs)
    (ht : ∀ (i : Nat) (x : V) H1, Ex H H1 → xs[i]? = some x → EvT t ((wipe σ vs).set j (some x)) H1 (f i)) (he : ∀ (i : Nat) (x : V) H1, Ex H H1 → xs[i]? = some x → f i = true → Ev te ((wipe σ vs).set j (some x)) H1 (v i)) :
    EvL (tLc (iTup K tl) (gName j) t te vs) σ H (given xs.length f v) := fun H0 e Q q => h H0 e _ fun H1 e1 => ⟨a, rfl, ⟨xs, ex_t (e.trans e1) hx⟩, fun Dl hD =>
  lc_tup (xs := xs) (Cw H1 f v Dl) ⟨hD, Ex.new hD, upd_same⟩ (fun i H' _ p => ex_t ((e.trans e1).trans p.2.1) hx) (fun i x H' hi p => ⟨hw x, cw_turn p (by have := (List.getElem?_eq_some_iff.mp hi).1; omega) (ht i x H1 (e.trans e1) hi) (fun hf => he i x H1 (e.trans e1) hi hf)⟩)
    (fun H' p => q Dl H' (fresh_back e1 p.1) (e1.trans p.2.1) p.2.2)⟩
theorem map_range_get {α : Type} {n : Nat} {ds : List PyData} {f : PyData → α} {dflt : PyData} (hn : n = ds.length) : (List.range n).map (fun i => f (ds.getD i dflt)) = ds.map f := by
  subst hn
  apply List.ext_getElem?
  intro i
  rw [List.getElem?_map, List.getElem?_map]
  by_cases hi : i < ds.length
  · rw [List.getElem?_range hi]
    simp [hi, List.getD]
  · rw [List.getElem?_eq_none (by rw [List.length_range]; omega), List.getElem?_eq_none (by omega)]
    rfl
theorem tYes_t : EvT tYes σ H true := fun H1 _ _ q => q H1 (Ex.refl H1)
theorem all_lcT {tl : TE} {j : Nat} {vs : List Nat} (f : PyData → Bool) (h : EvD K tl σ H (.tuple ds)) (hz : ds.length ≤ 40000) (hw : ∀ x, wipe ((wipe σ vs).set j (some x)) vs = wipe σ vs)
    (he : ∀ (d : PyData) (x : V) H1, Ex H H1 → d ∈ ds → DV K H1 x d → Ev te ((wipe σ vs).set j (some x)) H1 (.bl (f d))) :
    Ev (tCB (rAll K) (tCons (tLc (iTup K tl) (gName j) tYes te vs) tNil)) σ H (.bl (ds.all f)) := by
  intro H0 e Q q
  refine h H0 e _ fun w H1 e1 hw1 => ?_
  cases hw1 with
  | @tup a xs _ hp hx =>
    have hlen := hx.len
    refine ⟨a, rfl, ⟨xs, hp⟩, fun Dl hD => lc_tup (xs := xs) (Cw H1 (fun _ => true) (fun i => V.bl (f (ds.getD i .none))) Dl) ⟨hD, Ex.new hD, upd_same⟩ (fun i H' _ p => ex_t p.2.1 hp) (fun i x H' hi p => ⟨hw x, cw_turn p (by have := (List.getElem?_eq_some_iff.mp hi).1; omega) tYes_t fun _ => ?_⟩) fun H' p => ?_⟩
    · obtain ⟨d, h1, h2⟩ := hx.get hi
      have e2 : ds.getD i .none = d := by rw [List.getD, h1]; rfl
      rw [e2]
      exact he d x H1 (e.trans e1) (List.mem_of_getElem? h1) h2
    · have e3 := p.2.2
      rw [given_all, hlen] at e3
      have e4 : (List.range ds.length).map (fun i => V.bl (f (ds.getD i .none))) = (ds.map f).map V.bl := by
        rw [map_range_get (f := fun d => V.bl (f d)) rfl, List.map_map]
        rfl
      rw [e4] at e3
      refine ⟨Dl, ds.map f, rfl, sq_of e3, ?_⟩
      have e5 : (ds.map f).all id = ds.all f := by rw [List.all_map]; rfl
      rw [e5]
      exact q H' (e1.trans p.2.1)
theorem all_lcL {tl : TE} {j : Nat} {vs : List Nat} (f : PyData → Bool) (h : EvD K tl σ H (.list ds)) (hz : ds.length ≤ 40000) (hw : ∀ x, wipe ((wipe σ vs).set j (some x)) vs = wipe σ vs)
    (he : ∀ (d : PyData) (x : V) H1, Ex H H1 → d ∈ ds → DV K H1 x d → Ev te ((wipe σ vs).set j (some x)) H1 (.bl (f d))) :
    Ev (tCB (rAll K) (tCons (tLc (iList K tl) (gName j) tYes te vs) tNil)) σ H (.bl (ds.all f)) := by
  intro H0 e Q q
  refine h H0 e _ fun w H1 e1 hw1 => ?_
  cases hw1 with
  | @lst a xs _ hp hx =>
    have hlen := hx.len
    refine ⟨a, rfl, ⟨xs, hp⟩, fun Dl hD => lc_list (xs := xs) (Cw H1 (fun _ => true) (fun i => V.bl (f (ds.getD i .none))) Dl) ⟨hD, Ex.new hD, upd_same⟩ (fun i H' _ p => ex_l p.2.1 hp) (fun i x H' hi p => ⟨hw x, cw_turn p (by have := (List.getElem?_eq_some_iff.mp hi).1; omega) tYes_t fun _ => ?_⟩) fun H' p => ?_⟩
    · obtain ⟨d, h1, h2⟩ := hx.get hi
      have e2 : ds.getD i .none = d := by rw [List.getD, h1]; rfl
      rw [e2]
      exact he d x H1 (e.trans e1) (List.mem_of_getElem? h1) h2
    · have e3 := p.2.2
      rw [given_all, hlen] at e3
      have e4 : (List.range ds.length).map (fun i => V.bl (f (ds.getD i .none))) = (ds.map f).map V.bl := by
        rw [map_range_get (f := fun d => V.bl (f d)) rfl, List.map_map]
        rfl
      rw [e4] at e3
      refine ⟨Dl, ds.map f, rfl, sq_of e3, ?_⟩
      have e5 : (ds.map f).all id = ds.all f := by rw [List.all_map]; rfl
      rw [e5]
      exact q H' (e1.trans p.2.1)

theorem all_lcR2 {tA : TA} {j : Nat} {vs : List Nat} {lo hi : Int} {n : Nat} (f : Nat → Bool) (h : EvA tA σ H [.int lo, .int hi]) (hn : n = (hi - lo).toNat) (hb : -100000 ≤ lo ∧ lo ≤ 100000 ∧ -100000 ≤ hi ∧ hi ≤ 40000 ∧ n ≤ 40000) (hw : ∀ x, wipe ((wipe σ vs).set j (some x)) vs = wipe σ vs)
    (he : ∀ (i : Nat) H1, Ex H H1 → i < n → Ev te ((wipe σ vs).set j (some (.int (lo + (i : Int))))) H1 (.bl (f i))) :
    Ev (tCB (rAll K) (tCons (tLc (iRng2 tA) (gName j) tYes te vs) tNil)) σ H (.bl ((List.range n).all f)) := by
  intro H0 e Q q
  refine h H0 e _ fun H1 e1 => ⟨lo, hi, rfl, ⟨by omega, by omega, by omega, by omega⟩, fun Dl hD => ?_⟩
  rw [← hn]
  refine lc_range (lo := lo) (n := n) (Cw H1 (fun _ => true) (fun i => V.bl (f i)) Dl) ⟨hD, Ex.new hD, upd_same⟩ (fun i H' hi p => ⟨hw _, cw_turn p (by omega) tYes_t fun _ => he i H1 (e.trans e1) hi⟩) fun H' p => ?_
  have e3 := p.2.2
  rw [given_all] at e3
  have e4 : (List.range n).map (fun i => V.bl (f i)) = ((List.range n).map f).map V.bl := by rw [List.map_map]; rfl
  rw [e4] at e3
  refine ⟨Dl, (List.range n).map f, rfl, sq_of e3, ?_⟩
  have e5 : ((List.range n).map f).all id = (List.range n).all f := by rw [List.all_map]; rfl
  rw [e5]
  exact q H' (e1.trans p.2.1)

/-! ### statements -/
variable {D : Ends} {tu tw tz : TS} {g : TG}
theorem s_asgD {i : Nat} (h : EvD K te σ H d) (k : ∀ v H1, Ex H H1 → DV K H1 v d → D.nx (σ.set i (some v)) H1) : tAsg te (gName i) D σ H := h H (Ex.refl H) _ fun v H1 e hv => k v H1 e hv
theorem q_asgD {i : Nat} (h : EvD K te σ H d) (k : ∀ v H1, Ex H H1 → DV K H1 v d → tz D (σ.set i (some v)) H1) : tSeq (tAsg te (gName i)) tz D σ H := s_asgD (D := { D with nx := tz D }) h k
theorem s_retD (h : EvD K te σ H d) (k : RetD K d H D.rt) : tRet te D σ H := h H (Ex.refl H) _ fun v H1 e hv => k v H1 e hv
theorem s_dropD (h : EvD K te σ H d) (k : ∀ H1, Ex H H1 → D.nx σ H1) : tDrop te D σ H := h H (Ex.refl H) _ fun _ H1 e _ => k H1 e
/-- a, b = e -/
theorem s_un2 {i j : Nat} {d1 d2 : PyData} (h : EvD K te σ H (.tuple [d1, d2])) (k : ∀ v1 v2 H1, Ex H H1 → DV K H1 v1 d1 → DV K H1 v2 d2 → D.nx ((σ.set i (some v1)).set j (some v2)) H1) : tAsg te (gTup K 2 (gCons (gName i) (gCons (gName j) gNil))) D σ H :=
  h H (Ex.refl H) _ fun v H1 e hv => by
    cases hv with
    | @tup p xs _ hp hx =>
      cases hx with
      | cons a hx =>
        cases hx with
        | cons b hx =>
          cases hx
          exact ⟨p, _, rfl, hp, rfl, _, _, rfl, _, _, rfl, rfl, k _ _ H1 e a b⟩
theorem s_un2i {i j : Nat} {a b : Int} (h : EvD K te σ H (.tuple [.int a, .int b])) (k : ∀ H1, Ex H H1 → D.nx ((σ.set i (some (.int a))).set j (some (.int b))) H1) : tAsg te (gTup K 2 (gCons (gName i) (gCons (gName j) gNil))) D σ H :=
  s_un2 h fun v1 v2 H1 e h1 h2 => by cases h1; cases h2; exact k H1 e
theorem q_un2 {i j : Nat} {d1 d2 : PyData} (h : EvD K te σ H (.tuple [d1, d2])) (k : ∀ v1 v2 H1, Ex H H1 → DV K H1 v1 d1 → DV K H1 v2 d2 → tz D ((σ.set i (some v1)).set j (some v2)) H1) : tSeq (tAsg te (gTup K 2 (gCons (gName i) (gCons (gName j) gNil)))) tz D σ H :=
  s_un2 (D := { D with nx := tz D }) h k
theorem q_un2i {i j : Nat} {a b : Int} (h : EvD K te σ H (.tuple [.int a, .int b])) (k : ∀ H1, Ex H H1 → tz D ((σ.set i (some (.int a))).set j (some (.int b))) H1) : tSeq (tAsg te (gTup K 2 (gCons (gName i) (gCons (gName j) gNil)))) tz D σ H :=
  s_un2i (D := { D with nx := tz D }) h k
theorem s_un3i {i j l : Nat} {a b c : Int} (h : EvD K te σ H (.tuple [.int a, .int b, .int c])) (k : ∀ H1, Ex H H1 → D.nx (((σ.set i (some (.int a))).set j (some (.int b))).set l (some (.int c))) H1) :
    tAsg te (gTup K 3 (gCons (gName i) (gCons (gName j) (gCons (gName l) gNil)))) D σ H :=
  h H (Ex.refl H) _ fun v H1 e hv => by
    cases hv with
    | @tup p xs _ hp hx =>
      cases hx with
      | cons a hx =>
        cases hx with
        | cons b hx =>
          cases hx with
          | cons c hx =>
            cases hx; cases a; cases b; cases c
            exact ⟨p, _, rfl, hp, rfl, _, _, rfl, _, _, rfl, _, _, rfl, rfl, k H1 e⟩
theorem q_un3i {i j l : Nat} {a b c : Int} (h : EvD K te σ H (.tuple [.int a, .int b, .int c])) (k : ∀ H1, Ex H H1 → tz D (((σ.set i (some (.int a))).set j (some (.int b))).set l (some (.int c))) H1) :
    tSeq (tAsg te (gTup K 3 (gCons (gName i) (gCons (gName j) (gCons (gName l) gNil))))) tz D σ H := s_un3i (D := { D with nx := tz D }) h k
/-- a, b = x, y -/
theorem s_par {i j : Nat} (h : EvA tA σ H [v, z]) (k : ∀ H1, Ex H H1 → D.nx ((σ.set i (some v)).set j (some z)) H1) : tPar i j tA D σ H := h H (Ex.refl H) _ fun H1 e => ⟨v, z, rfl, k H1 e⟩
theorem q_par {i j : Nat} (h : EvA tA σ H [v, z]) (k : ∀ H1, Ex H H1 → tz D ((σ.set i (some v)).set j (some z)) H1) : tSeq (tPar i j tA) tz D σ H := s_par (D := { D with nx := tz D }) h k
theorem s_parD {i j : Nat} {d1 d2 : PyData} (h : EvDA K tA σ H [d1, d2]) (k : ∀ v1 v2 H1, Ex H H1 → DV K H1 v1 d1 → DV K H1 v2 d2 → D.nx ((σ.set i (some v1)).set j (some v2)) H1) : tPar i j tA D σ H := h H (Ex.refl H) _ fun vs H1 e hv => by
  cases hv with
  | cons a hv =>
    cases hv with
    | cons b hv =>
      cases hv
      exact ⟨_, _, rfl, k _ _ H1 e a b⟩
theorem q_parD {i j : Nat} {d1 d2 : PyData} (h : EvDA K tA σ H [d1, d2]) (k : ∀ v1 v2 H1, Ex H H1 → DV K H1 v1 d1 → DV K H1 v2 d2 → tz D ((σ.set i (some v1)).set j (some v2)) H1) : tSeq (tPar i j tA) tz D σ H := s_parD (D := { D with nx := tz D }) h k
/-- x op= e, ints under a condition -/
theorem s_augI {i : Nat} {C : Int → Int → Prop} {f : Int → Int → V} {a b : Int} (hx : σ[i]? = some (some (.int a))) (h : Ev te σ H (.int b)) (hc : C a b) (k : ∀ H1, Ex H H1 → D.nx (σ.set i (some (f a b))) H1) : tAug i te (rI C f) D σ H :=
  ⟨.int a, hx, h H (Ex.refl H) _ fun H1 e => ⟨a, b, rfl, rfl, hc, k H1 e⟩⟩
theorem q_augI {i : Nat} {C : Int → Int → Prop} {f : Int → Int → V} {a b : Int} (hx : σ[i]? = some (some (.int a))) (h : Ev te σ H (.int b)) (hc : C a b) (k : ∀ H1, Ex H H1 → tz D (σ.set i (some (f a b))) H1) : tSeq (tAug i te (rI C f)) tz D σ H :=
  s_augI (D := { D with nx := tz D }) hx h hc k
/-- a test known to be false: an if is passed by; known true -/
theorem q_pass (h : EvT t σ H false) (k : ∀ H1, Ex H H1 → tz D σ H1) : tSeq (tIfS t tu tNext) tz D σ H := q_when h (fun z => Bool.noConfusion z) fun _ H1 e => k H1 e
theorem s_yes (h : EvT t σ H true) (k : ∀ H1, Ex H H1 → tu D σ H1) : tIfS t tu tw D σ H := s_if h (fun _ H1 e => k H1 e) fun z => Bool.noConfusion z
theorem s_no (h : EvT t σ H false) (k : ∀ H1, Ex H H1 → tw D σ H1) : tIfS t tu tw D σ H := s_if h (fun z => Bool.noConfusion z) fun _ H1 e => k H1 e
theorem q_taken (h : EvT t σ H true) (k : ∀ H1, Ex H H1 → tu { D with nx := tz D } σ H1) : tSeq (tIfS t tu tw) tz D σ H := q_if h (fun _ H1 e => k H1 e) fun z => Bool.noConfusion z
end

/-! ### arguments -/
section
variable {K : PySem.W.Frag} {H : Hp} {vs : List V} {d d1 d2 : PyData} {i j k l : Int}
theorem dvs1 (h : DVs K H vs [d]) : ∃ v, vs = [v] ∧ DV K H v d := by
  cases h with
  | cons a h => cases h; exact ⟨_, rfl, a⟩
theorem dvs2 (h : DVs K H vs [d1, d2]) : ∃ v w, vs = [v, w] ∧ DV K H v d1 ∧ DV K H w d2 := by
  cases h with
  | cons a h =>
    obtain ⟨w, rfl, b⟩ := dvs1 h
    exact ⟨_, w, rfl, a, b⟩
theorem dvi {v : V} (h : DV K H v (.int i)) : v = .int i := by cases h; rfl
theorem dvs1i (h : DVs K H vs [.int i]) : vs = [.int i] := by
  obtain ⟨v, rfl, a⟩ := dvs1 h
  rw [dvi a]
theorem dvs2i (h : DVs K H vs [.int i, .int j]) : vs = [.int i, .int j] := by
  cases h with
  | cons a h => rw [dvi a, dvs1i h]
theorem dvs3i (h : DVs K H vs [.int i, .int j, .int k]) : vs = [.int i, .int j, .int k] := by
  cases h with
  | cons a h => rw [dvi a, dvs2i h]
theorem dvs4i (h : DVs K H vs [.int i, .int j, .int k, .int l]) : vs = [.int i, .int j, .int k, .int l] := by
  cases h with
  | cons a h => rw [dvi a, dvs3i h]
end

/-! ### loops -/
section
variable {K : PySem.W.Frag} {σ : L2.St} {H H' : Hp} {te : TE} {tA : TA} {D : Ends} {tu tz : TS}
theorem s_forR3 {j : Nat} {lo hi c : Int} {n : Nat} (h : EvA tA σ H [.int lo, .int hi, .int c]) (hc : RgC lo hi c n) (Pv : Nat → L2.St → Hp → Prop) (h0 : ∀ H1, Ex H H1 → Pv 0 σ H1)
    (hs : ∀ (i : Nat) σ' H', i < n → Pv i σ' H' → tu { D with nx := Pv (i + 1), ct := Pv (i + 1), bk := D.nx } (σ'.set j (some (.int (lo + (i : Int) * c)))) H') (hd : ∀ σ' H', Pv n σ' H' → D.nx σ' H') : tFor (iRng3 tA) (gName j) tu D σ H :=
  h H (Ex.refl H) _ fun H1 e => ⟨lo, hi, c, n, rfl, hc, for_rangeC (lo := lo) (c := c) (n := n) Pv (h0 H1 e) (fun i σ' H' hi p => hs i σ' H' hi p) hd⟩
theorem q_forR3 {j : Nat} {lo hi c : Int} {n : Nat} (h : EvA tA σ H [.int lo, .int hi, .int c]) (hc : RgC lo hi c n) (Pv : Nat → L2.St → Hp → Prop) (h0 : ∀ H1, Ex H H1 → Pv 0 σ H1)
    (hs : ∀ (i : Nat) σ' H', i < n → Pv i σ' H' → tu { D with nx := Pv (i + 1), ct := Pv (i + 1), bk := tz D } (σ'.set j (some (.int (lo + (i : Int) * c)))) H') (hd : ∀ σ' H', Pv n σ' H' → tz D σ' H') : tSeq (tFor (iRng3 tA) (gName j) tu) tz D σ H :=
  s_forR3 (D := { D with nx := tz D }) h hc Pv h0 hs hd
/-- over a list of pairs of ints that stands still: for a, b in xs -/
theorem s_forP {i j k0 : Nat} {v : V} {xs : List (Int × Int)} (hv : σ[k0]? = some (some v)) (hx : DV K H v (.list (xs.map fun x => .tuple [.int x.1, .int x.2]))) (Pv : Nat → L2.St → Hp → Prop) (h0 : Pv 0 σ H) (hE : ∀ k σ' H', Pv k σ' H' → Ex H H')
    (hs : ∀ k a b σ' H', xs[k]? = some (a, b) → Pv k σ' H' → tu { D with nx := Pv (k + 1), ct := Pv (k + 1), bk := D.nx } ((σ'.set i (some (.int a))).set j (some (.int b))) H') (hd : ∀ σ' H', Pv xs.length σ' H' → D.nx σ' H') :
    tFor (iList K (tVar k0)) (gTup K 2 (gCons (gName i) (gCons (gName j) gNil))) tu D σ H := by
  cases hx with
  | @lst a vs _ hp hx =>
    have hlen : vs.length = xs.length := by rw [hx.len, List.length_map]
    refine ⟨_, hv, a, rfl, ⟨vs, hp⟩, for_list (xs := vs) Pv h0 (fun k σ' H' _ p => ex_l (hE k σ' H' p) hp) (fun k x σ' H' hk p => ?_) (by rw [hlen]; exact hd)⟩
    obtain ⟨d, h1, h2⟩ := hx.get hk
    rw [List.getElem?_map] at h1
    cases hxs : xs[k]? with
    | none => rw [hxs] at h1; cases h1
    | some ab =>
      rw [hxs] at h1
      obtain ⟨a', b'⟩ := ab
      cases Option.some.inj h1
      have h3 := h2.ex (hE k σ' H' p)
      cases h3 with
      | @tup q ys _ hq hy =>
        cases dvs2i hy
        exact ⟨q, _, rfl, hq, rfl, _, _, rfl, _, _, rfl, rfl, hs k a' b' σ' H' hxs p⟩
theorem q_forP {i j k0 : Nat} {v : V} {xs : List (Int × Int)} (hv : σ[k0]? = some (some v)) (hx : DV K H v (.list (xs.map fun x => .tuple [.int x.1, .int x.2]))) (Pv : Nat → L2.St → Hp → Prop) (h0 : Pv 0 σ H) (hE : ∀ k σ' H', Pv k σ' H' → Ex H H')
    (hs : ∀ k a b σ' H', xs[k]? = some (a, b) → Pv k σ' H' → tu { D with nx := Pv (k + 1), ct := Pv (k + 1), bk := tz D } ((σ'.set i (some (.int a))).set j (some (.int b))) H') (hd : ∀ σ' H', Pv xs.length σ' H' → tz D σ' H') :
    tSeq (tFor (iList K (tVar k0)) (gTup K 2 (gCons (gName i) (gCons (gName j) gNil))) tu) tz D σ H := s_forP (D := { D with nx := tz D }) hv hx Pv h0 hE hs hd
theorem el_rev {a : Addr} {xs : List V} (h : Ev te σ H (.ref a)) (hs : SqL K H a xs) : EvL (tRevL K te) σ H xs.reverse := fun H1 e _ q =>
  h H1 e _ fun H2 e2 => ⟨a, xs, rfl, ex_l (e.trans e2) hs, fun p hp => q p _ (fresh_back e2 hp) (e2.trans (Ex.new hp)) upd_same⟩
/-- a new tuple's data, a new list's -/
theorem sqT_upd {a l : Addr} {xs ys zs : List V} (hl : H l = some (.lst ys)) (h : SqT K H a xs) : SqT K (upd H l (.lst zs)) a xs := by
  rcases h with (h | ⟨o, h⟩) | h
  · exact .inl (.inl (by rw [upd_ne (ne_of h hl (by intro z; cases z))]; exact h))
  · exact .inl (.inr ⟨o, by rw [upd_ne (ne_of h hl (by intro z; cases z))]; exact h⟩)
  · exact .inr h
theorem dv_ints (h : ∀ a xs, SqT K H a xs → SqT K H' a xs) {is : List Int} {v : V} (hv : DV K H v (.tuple (is.map .int))) : DV K H' v (.tuple (is.map .int)) := by
  cases hv with
  | tup hp hx =>
    refine .tup (h _ _ hp) ?_
    have key : ∀ (is : List Int) (vs : List V), DVs K H vs (is.map .int) → DVs K H' vs (is.map .int) := by
      intro is
      induction is with
      | nil => intro vs h; cases h; exact .nil
      | cons i is ih =>
        intro vs h
        cases h with
        | cons a b => cases a; exact .cons (.int i) (ih _ b)
    exact key _ _ hx
/-- items that are tuples of ints outlive a list's change -/
theorem dvs_ints {α : Type} {f : α → List Int} (h : ∀ a xs, SqT K H a xs → SqT K H' a xs) : ∀ {xs : List α} {vs : List V}, DVs K H vs (xs.map fun x => .tuple ((f x).map .int)) → DVs K H' vs (xs.map fun x => .tuple ((f x).map .int))
  | [], _, hv => by cases hv; exact .nil
  | x :: xs, _, hv => by
    cases hv with
    | cons a b => exact .cons (dv_ints h a) (dvs_ints h b)
end

/-! ### isinstance of data -/
def isInt : PyData → Bool
  | .bool _ => true
  | .int _ => true
  | _ => false
theorem kit_int : ∀ d : PyData, kitB (tyN d) "int" = some (isInt d)
  | .none => (by decide +kernel : kitB "NoneType" "int" = some false)
  | .bool _ => (by decide +kernel : kitB "bool" "int" = some true)
  | .int _ => (by decide +kernel : kitB "int" "int" = some true)
  | .str _ => (by decide +kernel : kitB "str" "int" = some false)
  | .list _ => (by decide +kernel : kitB "list" "int" = some false)
  | .tuple _ => (by decide +kernel : kitB "tuple" "int" = some false)
  | .dict _ => (by decide +kernel : kitB "dict" "int" = some false)
def isBool : PyData → Bool
  | .bool _ => true
  | _ => false
theorem kit_bool : ∀ d : PyData, kitB (tyN d) "bool" = some (isBool d)
  | .none => (by decide +kernel : kitB "NoneType" "bool" = some false)
  | .bool _ => (by decide +kernel : kitB "bool" "bool" = some true)
  | .int _ => (by decide +kernel : kitB "int" "bool" = some false)
  | .str _ => (by decide +kernel : kitB "str" "bool" = some false)
  | .list _ => (by decide +kernel : kitB "list" "bool" = some false)
  | .tuple _ => (by decide +kernel : kitB "tuple" "bool" = some false)
  | .dict _ => (by decide +kernel : kitB "dict" "bool" = some false)
def isTuple : PyData → Bool
  | .tuple _ => true
  | _ => false
theorem kit_tuple : ∀ d : PyData, kitB (tyN d) "tuple" = some (isTuple d)
  | .none => (by decide +kernel : kitB "NoneType" "tuple" = some false)
  | .bool _ => (by decide +kernel : kitB "bool" "tuple" = some false)
  | .int _ => (by decide +kernel : kitB "int" "tuple" = some false)
  | .str _ => (by decide +kernel : kitB "str" "tuple" = some false)
  | .list _ => (by decide +kernel : kitB "list" "tuple" = some false)
  | .tuple _ => (by decide +kernel : kitB "tuple" "tuple" = some true)
  | .dict _ => (by decide +kernel : kitB "dict" "tuple" = some false)
def isList : PyData → Bool
  | .list _ => true
  | _ => false
theorem kit_list : ∀ d : PyData, kitB (tyN d) "list" = some (isList d)
  | .none => (by decide +kernel : kitB "NoneType" "list" = some false)
  | .bool _ => (by decide +kernel : kitB "bool" "list" = some false)
  | .int _ => (by decide +kernel : kitB "int" "list" = some false)
  | .str _ => (by decide +kernel : kitB "str" "list" = some false)
  | .list _ => (by decide +kernel : kitB "list" "list" = some true)
  | .tuple _ => (by decide +kernel : kitB "tuple" "list" = some false)
  | .dict _ => (by decide +kernel : kitB "dict" "list" = some false)
theorem isTuple_yes : ∀ {d : PyData}, isTuple d = true → ∃ xs, d = .tuple xs
  | .tuple xs, _ => ⟨xs, rfl⟩
theorem isList_yes : ∀ {d : PyData}, isList d = true → ∃ xs, d = .list xs
  | .list xs, _ => ⟨xs, rfl⟩
theorem rv_eqI {H : Hp} {i j : Int} : RV rEq (.int i) (.int j) H (.bl (decide (i = j))) := fun H1 _ Q q => ⟨rfl, by
  have e : decide (V.int i = V.int j) = decide (i = j) := by
    by_cases h : i = j
    · subst h; simp
    · rw [decide_eq_false h]; exact decide_eq_false fun z => h (V.int.inj z)
  show Q (.bl (decide (V.int i = V.int j))) H1
  rw [e]
  exact q H1 (Ex.refl H1)⟩
theorem rv_neI {H : Hp} {i j : Int} : RV rNe (.int i) (.int j) H (.bl (!decide (i = j))) := fun H1 _ Q q => ⟨rfl, by
  have e : decide (V.int i = V.int j) = decide (i = j) := by
    by_cases h : i = j
    · subst h; simp
    · rw [decide_eq_false h]; exact decide_eq_false fun z => h (V.int.inj z)
  show Q (.bl (!decide (V.int i = V.int j))) H1
  rw [e]
  exact q H1 (Ex.refl H1)⟩
def whole : PyData → Bool
  | .int _ => true
  | _ => false
theorem whole_eq : ∀ d : PyData, whole d = (isInt d && !isBool d)
  | .none => rfl | .bool _ => rfl | .int _ => rfl | .str _ => rfl | .list _ => rfl | .tuple _ => rfl | .dict _ => rfl
theorem spF_len {K : PySem.W.Frag} {R : List PyData → PyData → Prop} {n : Nat} (h : ∀ ds d, R ds d → ds.length = n) : ∀ vs H Q E, spF K R vs H Q E → vs.length = n := fun vs H Q E q => by
  obtain ⟨ds, d, a, b, _⟩ := q
  rw [a.len]
  exact h _ _ b
theorem spL_len {K : PySem.W.Frag} {R : List PyData → List PyData → Prop} {n : Nat} (h : ∀ ds es, R ds es → ds.length = n) : ∀ vs H Q E, spL K R vs H Q E → vs.length = n := fun vs H Q E q => by
  obtain ⟨ds, d, a, b, _⟩ := q
  rw [a.len]
  exact h _ _ b

/-! ### numbers, pairs, rows as data -/
section
theorem shaped_ints (is : List Int) : SeqAt.shaped (.tuple (is.map .int)) = true := by
  have h : ∀ is : List Int, PyData.canLayAll0 (is.map .int) = true ∧ PyData.depthAll (is.map .int) = 0 := by
    intro is
    induction is with
    | nil => exact ⟨rfl, rfl⟩
    | cons i is ih => rw [List.map_cons]; simp [PyData.canLayAll0, PyData.canLay0, PyData.depthAll, PyData.depth, ih.1, ih.2]
  unfold SeqAt.shaped
  simp [PyData.canLay0, PyData.depth, (h is).1, (h is).2]
theorem eqv_ints : ∀ is js : List Int, PyData.eqvAll (is.map .int) (js.map .int) = decide (is = js)
  | [], [] => by simp [PyData.eqvAll]
  | [], _ :: _ => by simp [PyData.eqvAll]
  | _ :: _, [] => by simp [PyData.eqvAll]
  | i :: is, j :: js => by
    rw [List.map_cons, List.map_cons]
    simp only [PyData.eqvAll, PyData.eqv, eqv_ints is js]
    by_cases h1 : i = j
    · by_cases h2 : is = js
      · simp [h1, h2]
      · simp [h1, h2]
    · simp [h1]
end
end Sq

namespace Sq
open PySem PySem.Spec PyProof.Rows L2 Evl
/-! ### data -/
def pd (p : P2) : PyData := .tuple [.int p.1, .int p.2]
def td (p : P2) : PyData := .tuple [.int (p.1 * p.1 - p.2 * p.2), .int (2 * p.1 * p.2), .int (p.1 * p.1 + p.2 * p.2)]
def sd (x : Int × Nat) : PyData := .tuple [.int x.1, .int x.2]
def rd (r : Row) : PyData := .list (r.map sd)
/-! ### sizes -/
def Sm (b : Nat) (x : Int) : Prop := x.natAbs < 2 ^ b
theorem Sm.up {a b : Nat} {x : Int} (h : Sm a x) (hab : a ≤ b) : Sm b x := Nat.lt_of_lt_of_le h (Nat.pow_le_pow_right (by decide) hab)
theorem Sm.mul {a b : Nat} {x y : Int} (h : Sm a x) (h' : Sm b y) : Sm (a + b) (x * y) := by
  show (x * y).natAbs < 2 ^ (a + b)
  rw [Int.natAbs_mul, Nat.pow_add]
  exact Nat.mul_lt_mul'' h h'
theorem Sm.add {a : Nat} {x y : Int} (h : Sm a x) (h' : Sm a y) : Sm (a + 1) (x + y) := by
  have h : x.natAbs < 2 ^ a := h
  have h' : y.natAbs < 2 ^ a := h'
  show (x + y).natAbs < 2 ^ (a + 1)
  rw [Nat.pow_succ]
  omega
theorem Sm.sub {a : Nat} {x y : Int} (h : Sm a x) (h' : Sm a y) : Sm (a + 1) (x - y) := by
  have h : x.natAbs < 2 ^ a := h
  have h' : y.natAbs < 2 ^ a := h'
  show (x - y).natAbs < 2 ^ (a + 1)
  rw [Nat.pow_succ]
  omega
theorem Sm.le {a : Nat} {x y : Int} (h : Sm a y) (h0 : 0 ≤ x) (h1 : x ≤ y) : Sm a x := by
  have h : y.natAbs < 2 ^ a := h
  show x.natAbs < 2 ^ a
  omega
theorem Sm.cm {a b : Nat} {x y : Int} (h : Sm a x) (h' : Sm b y) (hab : a + b ≤ 134217728) : CMulX x y := mulx_ok h h' hab
theorem sm_nat {b n : Nat} (h : n < 2 ^ b) : Sm b (n : Int) := by
  show (n : Int).natAbs < 2 ^ b
  omega
theorem sm2 : Sm 2 2 := show (2 : Int).natAbs < 2 ^ 2 by decide
theorem sm3 : Sm 2 3 := show (3 : Int).natAbs < 2 ^ 2 by decide
theorem sm1 : Sm 5000 ((1 : Nat) : Int) := Sm.up (show ((1 : Nat) : Int).natAbs < 2 ^ 2 by decide) (by decide)
theorem sm_log {b : Nat} {x : Int} (h : Sm b x) (hb : 0 < b) : x.toNat.log2 < b := by
  by_cases h0 : x.toNat = 0
  · rw [h0, Nat.log2_zero]; exact hb
  · refine (Nat.log2_lt h0).mpr ?_
    have h : x.natAbs < 2 ^ b := h
    omega
theorem pell_sm {t : Nat} (h : t ≤ 3000) : Sm 6001 (pell t).1 ∧ Sm 6001 (pell t).2 := by
  obtain ⟨h1, h2, h3⟩ := pell_pos t
  have h4 : (3 : Int) ^ t ≤ 2 ^ 6000 := by
    have e1 : (3 : Nat) ^ t ≤ 4 ^ t := Nat.pow_le_pow_left (by decide) t
    have e2 : (4 : Nat) ^ t = 2 ^ (2 * t) := by rw [Nat.pow_mul]
    have e3 : (2 : Nat) ^ (2 * t) ≤ 2 ^ 6000 := Nat.pow_le_pow_right (by decide) (by omega)
    have e4 : (3 : Nat) ^ t ≤ 2 ^ 6000 := by omega
    exact_mod_cast e4
  have h5 : (2 : Int) ^ 6001 = 2 * 2 ^ 6000 := by rw [Int.pow_succ]; omega
  have hp : (0 : Int) < 2 ^ 6000 := Int.pow_pos (by decide)
  have key : ∀ x : Int, 0 ≤ x → x ≤ 2 ^ 6000 → Sm 6001 x := fun x a b => by
    have c : ((x.natAbs : Nat) : Int) < ((2 ^ 6001 : Nat) : Int) := by
      rw [Int.natAbs_of_nonneg a]
      have : ((2 ^ 6001 : Nat) : Int) = (2 : Int) ^ 6001 := by exact_mod_cast rfl
      rw [this, h5]
      omega
    exact Int.ofNat_lt.mp c
  exact ⟨key _ h1 (by omega), key _ (by omega) (by omega)⟩
theorem bits_lt (t : Nat) : t < 2 ^ Builtin.Int.intBits (t : Int) := by
  unfold Builtin.Int.intBits
  by_cases h : t = 0
  · subst h; decide
  · rw [if_neg (by simpa using h), Int.natAbs_natCast]
    exact Nat.lt_log2_self
/-! ### roots -/
theorem isqrt_sq' (m : Nat) : Float64.isqrt (m * m) = m := by
  obtain ⟨h1, h2⟩ := PySem.Float64.isqrt_spec (m * m)
  refine Nat.le_antisymm ?_ ?_
  · exact Nat.le_of_not_lt fun h => by
      have : (m + 1) * (m + 1) ≤ Float64.isqrt (m * m) * Float64.isqrt (m * m) := Nat.mul_le_mul h h
      have e : (m + 1) * (m + 1) = m * m + 2 * m + 1 := by grind
      omega
  · exact Nat.le_of_not_lt fun h => by
      have : (Float64.isqrt (m * m) + 1) * (Float64.isqrt (m * m) + 1) ≤ m * m := Nat.mul_le_mul h h
      omega
theorem isqrt_int {m : Int} (h : 0 ≤ m) : ((Float64.isqrt (m * m).toNat : Nat) : Int) = m := by
  obtain ⟨k, rfl⟩ := Int.eq_ofNat_of_zero_le h
  rw [show ((k : Int) * (k : Int)).toNat = k * k by rw [← Int.natCast_mul, Int.toNat_natCast], isqrt_sq']
/-! ### what compares -/
theorem eqv_pd (p q : P2) : PyData.eqv (pd p) (pd q) = decide (p = q) := by
  show PyData.eqvAll ([p.1, p.2].map .int) ([q.1, q.2].map .int) = _
  rw [eqv_ints]
  obtain ⟨a, b⟩ := p
  obtain ⟨c, d⟩ := q
  simp
theorem shaped_pd (p : P2) : SeqAt.shaped (pd p) = true := shaped_ints [p.1, p.2]
theorem shaped_td (p : P2) : SeqAt.shaped (td p) = true := shaped_ints [_, _, _]
theorem td_inj {p q : P2} (hp : Ok2 p) (hq : Ok2 q) (h1 : p.1 * p.1 - p.2 * p.2 = q.1 * q.1 - q.2 * q.2) (h3 : p.1 * p.1 + p.2 * p.2 = q.1 * q.1 + q.2 * q.2) : p = q := by
  obtain ⟨m, n⟩ := p
  obtain ⟨a, b⟩ := q
  obtain ⟨x1, x2⟩ := hp
  obtain ⟨y1, y2⟩ := hq
  have x1 : 0 < n := x1
  have x2 : n < m := x2
  have y1 : 0 < b := y1
  have y2 : b < a := y2
  have h1 : m * m - n * n = a * a - b * b := h1
  have h3 : m * m + n * n = a * a + b * b := h3
  have e1 : m * m = a * a := by omega
  have e2 : n * n = b * b := by omega
  have key : ∀ x y : Int, 0 < x → 0 < y → x * x = y * y → x = y := fun x y hx hy h => by
    have q : (x - y) * (x + y) = 0 := by
      have : (x - y) * (x + y) = x * x - y * y := by grind
      omega
    rcases Int.mul_eq_zero.mp q with z | z <;> omega
  rw [key m a (by omega) (by omega) e1, key n b x1 y1 e2]
theorem eqv_td {p q : P2} (hp : Ok2 p) (hq : Ok2 q) : PyData.eqv (td p) (td q) = decide (p = q) := by
  show PyData.eqvAll ([p.1 * p.1 - p.2 * p.2, 2 * p.1 * p.2, p.1 * p.1 + p.2 * p.2].map .int) ([q.1 * q.1 - q.2 * q.2, 2 * q.1 * q.2, q.1 * q.1 + q.2 * q.2].map .int) = _
  rw [eqv_ints]
  by_cases h : p = q
  · subst h; simp
  · rw [decide_eq_false h]
    refine decide_eq_false fun z => h ?_
    injection z with z1 z
    injection z with z2 z
    injection z with z3 _
    exact td_inj hp hq z1 z3
theorem eqv_sds : ∀ a b : Row, PyData.eqvAll (a.map sd) (b.map sd) = decide (a = b)
  | [], [] => by simp [PyData.eqvAll]
  | [], _ :: _ => by simp [PyData.eqvAll]
  | _ :: _, [] => by simp [PyData.eqvAll]
  | (s, t) :: a, (s', t') :: b => by
    rw [List.map_cons, List.map_cons]
    have e : PyData.eqv (sd (s, t)) (sd (s', t')) = decide ((s, t) = (s', t')) := by
      show PyData.eqvAll ([s, (t : Int)].map .int) ([s', (t' : Int)].map .int) = _
      rw [eqv_ints]
      by_cases h : s = s' ∧ t = t'
      · obtain ⟨rfl, rfl⟩ := h; simp
      · rw [decide_eq_false, decide_eq_false]
        · intro z; cases z; exact h ⟨rfl, rfl⟩
        · intro z
          injection z with z1 z
          injection z with z2 _
          exact h ⟨z1, by omega⟩
    simp only [PyData.eqvAll, e, eqv_sds a b]
    by_cases h1 : (s, t) = (s', t')
    · by_cases h2 : a = b
      · simp [h1, h2]
      · simp [h1, h2]
    · rw [decide_eq_false h1, Bool.false_and]
      refine (decide_eq_false fun z => ?_).symm
      injection z with z1 _
      exact h1 z1
theorem eqv_rd (a b : Row) : PyData.eqv (rd a) (rd b) = decide (a = b) := eqv_sds a b
theorem shaped_rd (a : Row) : SeqAt.shaped (rd a) = true := by
  have h : ∀ a : Row, PyData.canLayAll0 (a.map sd) = true ∧ PyData.depthAll (a.map sd) ≤ 1 := by
    intro a
    induction a with
    | nil => exact ⟨rfl, Nat.zero_le _⟩
    | cons x a ih =>
      rw [List.map_cons]
      simp only [PyData.canLayAll0, PyData.depthAll, sd, PyData.canLay0, PyData.depth]
      refine ⟨by simpa using ih.1, ?_⟩
      have := ih.2
      omega
  have h1 := (h a).1
  have h2 := (h a).2
  unfold SeqAt.shaped rd
  simp only [PyData.canLay0, PyData.depth, h1, Bool.true_and, decide_eq_true_eq]
  exact decide_eq_true (by omega)

/-! ### the program's answers on data -/
def areWhole (x : PyData) (n : Int) : Bool := match x with
  | .tuple xs => decide ((xs.length : Int) = n) && xs.all whole
  | _ => false
def szT (x : PyData) : Prop := ∀ xs, x = .tuple xs → xs.length ≤ 40000
def isPairD : PyData → Bool
  | .tuple [.int m, .int n] => decide (0 < n) && decide (n < m) && (decide ((m - n) % 2 = 1) && decide (Int.gcd m n = 1))
  | _ => false
theorem areWhole2 {x : PyData} (h : areWhole x 2 = true) : ∃ m n, x = .tuple [.int m, .int n] := by
  unfold areWhole at h
  split at h
  · rename_i xs
    rw [Bool.and_eq_true] at h
    obtain ⟨h1, h2⟩ := h
    have h1 := of_decide_eq_true h1
    match xs, h1, h2 with
    | [a, b], _, h2 =>
      simp only [List.all_cons, List.all_nil, Bool.and_true, Bool.and_eq_true] at h2
      obtain ⟨ha, hb⟩ := h2
      cases a <;> simp [whole] at ha
      cases b <;> simp [whole] at hb
      exact ⟨_, _, rfl⟩
    | [], h1, _ => simp at h1
    | [_], h1, _ => simp at h1
    | _ :: _ :: _ :: _, h1, _ => simp at h1; omega
  · cases h
theorem areWhole3 {x : PyData} (h : areWhole x 3 = true) : ∃ a b c, x = .tuple [.int a, .int b, .int c] := by
  unfold areWhole at h
  split at h
  · rename_i xs
    rw [Bool.and_eq_true] at h
    obtain ⟨h1, h2⟩ := h
    have h1 := of_decide_eq_true h1
    match xs, h1, h2 with
    | [a, b, c], _, h2 =>
      simp only [List.all_cons, List.all_nil, Bool.and_true, Bool.and_eq_true] at h2
      obtain ⟨ha, hb, hc⟩ := h2
      cases a <;> simp [whole] at ha
      cases b <;> simp [whole] at hb
      cases c <;> simp [whole] at hc
      exact ⟨_, _, _, rfl⟩
    | [], h1, _ => simp at h1
    | [_], h1, _ => simp at h1
    | [_, _], h1, _ => simp at h1
    | _ :: _ :: _ :: _ :: _, h1, _ => simp at h1; omega
  · cases h
theorem isPairD_no {x : PyData} (h : areWhole x 2 = false) : isPairD x = false := by
  unfold isPairD
  split
  · simp [areWhole, whole] at h
  · rfl
theorem isPairD_pd (p : P2) : isPairD (pd p) = decide (IsPair p) := by
  obtain ⟨m, n⟩ := p
  unfold pd isPairD IsPair
  by_cases h1 : 0 < n <;> by_cases h2 : n < m <;> by_cases h3 : (m - n) % 2 = 1 <;> by_cases h4 : m.gcd n = 1 <;> simp [h1, h2, h3, h4]
def isStepD : PyData → Bool
  | .int s => decide (0 ≤ s) && decide (s ≤ 2)
  | _ => false
def isPartD : PyData → Bool
  | .tuple [.int s, .int t] => decide (0 ≤ s) && decide (s ≤ 2) && (decide (0 < t) && (!decide (s = 1) || decide (t ≤ 1000)))
  | _ => false
theorem isPartD_no {x : PyData} (h : areWhole x 2 = false) : isPartD x = false := by
  unfold isPartD
  split
  · simp [areWhole, whole] at h
  · rfl
theorem isPartD_yes {x : PyData} (h : isPartD x = true) : ∃ s t : Int, x = .tuple [.int s, .int t] ∧ 0 ≤ s ∧ s ≤ 2 := by
  unfold isPartD at h
  split at h
  · rename_i s t
    simp only [Bool.and_eq_true, decide_eq_true_eq] at h
    exact ⟨s, t, rfl, h.1.1, h.1.2⟩
  · cases h
def firstD : PyData → Int
  | .tuple (.int s :: _) => s
  | _ => 0
def isRowD : PyData → Bool
  | .list xs => decide ((xs.length : Int) ≤ 200) && (xs.all isPartD && (List.range (xs.length - 1)).all fun i => !decide (firstD (xs.getD i .none) = firstD (xs.getD (i + 1) .none)))
  | _ => false
def szL (x : PyData) : Prop := (∀ xs, x = .list xs → xs.length ≤ 40000 ∧ ∀ y ∈ xs, szT y)
theorem dv_root {K : PySem.W.Frag} {H : Hp} {a : Addr} (h : SqT K H a [.int 2, .int 1]) : DV K H (.ref a) (pd root) := .tup h (.cons (.int 2) (.cons (.int 1) .nil))
/-! ### relations -/
abbrev Rel := List PyData → PyData → Prop
abbrev RelL := List PyData → List PyData → Prop
def R_is_whole : Rel := fun ds d => ∃ x, ds = [x] ∧ d = .bool (whole x)
def R_are_whole : Rel := fun ds d => ∃ x n, ds = [x, .int n] ∧ szT x ∧ d = .bool (areWhole x n)
def R_is_pair : Rel := fun ds d => ∃ x, ds = [x] ∧ szT x ∧ d = .bool (isPairD x)
def R_formed : Rel := fun ds d => ∃ m n : Int, ds = [.int m, .int n] ∧ Sm 95000 m ∧ Sm 95000 n ∧ d = td (m, n)
def R_pair_of : Rel := fun ds d => ∃ p, ds = [td p] ∧ IsPair p ∧ Sm 90000 p.1 ∧ d = pd p
def R_triple_of : Rel := fun ds d => ∃ p, ds = [pd p] ∧ IsPair p ∧ Sm 90000 p.1 ∧ d = td p
def Step (s : Int) : Prop := s = 0 ∨ s = 1 ∨ s = 2
def R_stepped : Rel := fun ds d => ∃ p s, ds = [td p, .int s] ∧ IsPair p ∧ Sm 89000 p.1 ∧ Step s ∧ d = td (led p s 1)
def R_back : Rel := fun ds d => (ds = [td root] ∧ d = .none) ∨ ∃ p s, ds = [td (led p s 1)] ∧ IsPair p ∧ Step s ∧ Sm 90000 (led p s 1).1 ∧ d = .tuple [td p, .int s]
/-- a row that may be asked for -/
structure Fit (r : Row) : Prop where
  good : Good (-1) r
  len : r.length ≤ 200
  few : ∀ x ∈ r, x.2 < 2 ^ 3000
  sm : Sm 80000 (behind root r).1
def R_by_row : Rel := fun ds d => ∃ r, ds = [rd r] ∧ Fit r ∧ d = td (behind root r)
def R_row_of : RelL := fun ds es => ∃ r, ds = [td (behind root r)] ∧ Fit r ∧ es = r.map sd
def R__is_step : Rel := fun ds d => ∃ x, ds = [x] ∧ d = .bool (isStepD x)
def R__is_part : Rel := fun ds d => ∃ x, ds = [x] ∧ szT x ∧ d = .bool (isPartD x)
def R__is_row : Rel := fun ds d => ∃ x, ds = [x] ∧ szL x ∧ d = .bool (isRowD x)
def R__led : Rel := fun ds d => ∃ (m n s : Int) (t : Nat), ds = [.int m, .int n, .int s, .int t] ∧ Step s ∧ (s = 1 → t ≤ 3000) ∧ Sm 95000 m ∧ Sm 95000 n ∧ Sm 5000 (t : Int) ∧ d = pd (led (m, n) s t)
def R__led_back : Rel := fun ds d => ∃ (m n s : Int) (t : Nat), ds = [.int m, .int n, .int s, .int t] ∧ Step s ∧ (s = 1 → t ≤ 3000) ∧ Sm 95000 m ∧ Sm 95000 n ∧ Sm 5000 (t : Int) ∧ d = pd (ledBack (m, n) s t)
def R__pell : Rel := fun ds d => ∃ t : Nat, ds = [.int t] ∧ t ≤ 3000 ∧ d = .tuple [.int ((pell t).2 - 2 * (pell t).1), .int (pell t).1, .int (pell t).2]
def R__last_step : Rel := fun ds d => ∃ m n : Int, ds = [.int m, .int n] ∧ Sm 95000 m ∧ Sm 95000 n ∧ d = .int (lastStep (m, n))
def R__last_times : Rel := fun ds d => ∃ (q : P2) (s : Int) (t : Nat), ds = [.int (led q s t).1, .int (led q s t).2, .int s] ∧ IsPair q ∧ Step s ∧ NotLast s q ∧ (s = 1 → t ≤ 1000) ∧ Sm 95000 (led q s t).1 ∧ d = .int t
def R__last_times_of_1 : Rel := fun ds d => ∃ (q : P2) (t : Nat), ds = [.int (iter one t q).1, .int (iter one t q).2] ∧ IsPair q ∧ NotLast 1 q ∧ t ≤ 1000 ∧ Sm 95000 (iter one t q).1 ∧ d = .int t

theorem led_sm {p : P2} (hp : IsPair p) {s : Int} (hs : Step s) {b : Nat} (h : Sm b p.1) : 0 < (led p s 1).2 ∧ (led p s 1).2 < (led p s 1).1 ∧ Sm (b + 2) (led p s 1).1 ∧ Sm (b + 2) (led p s 1).2 := by
  obtain ⟨g1, g2⟩ := led_ok (ok_of hp) s 1
  have h : p.1.natAbs < 2 ^ b := h
  obtain ⟨m, n⟩ := p
  obtain ⟨a1, a2⟩ := ok_of hp
  have a1 : 0 < n := a1
  have a2 : n < m := a2
  have h : m.natAbs < 2 ^ b := h
  have e : (led (m, n) s 1).1 ≤ 3 * m := by
    rcases hs with rfl | rfl | rfl
    · show m + (m - n) * ((1 : Nat) : Int) ≤ 3 * m; omega
    · show 2 * m + n ≤ 3 * m; omega
    · show m + 2 * n * ((1 : Nat) : Int) ≤ 3 * m; omega
  have e4 : 2 ^ (b + 2) = 4 * 2 ^ b := by rw [Nat.pow_add]; omega
  refine ⟨g1, g2, ?_, ?_⟩
  · show (led (m, n) s 1).1.natAbs < 2 ^ (b + 2)
    omega
  · show (led (m, n) s 1).2.natAbs < 2 ^ (b + 2)
    omega
theorem isPartD_sd {s : Int} {t : Nat} (hs : Step s) (ht : 0 < t) (h1 : s = 1 → t ≤ 1000) : isPartD (sd (s, t)) = true := by
  show (decide (0 ≤ s) && decide (s ≤ 2) && (decide (0 < (t : Int)) && (!decide (s = 1) || decide ((t : Int) ≤ 1000)))) = true
  rcases hs with rfl | rfl | rfl
  · rw [decide_eq_true (show 0 < (t : Int) by omega)]; rfl
  · rw [decide_eq_true (show 0 < (t : Int) by omega), decide_eq_true (show (t : Int) ≤ 1000 by have := h1 rfl; omega)]; rfl
  · rw [decide_eq_true (show 0 < (t : Int) by omega)]; rfl
theorem szT_sd (x : Int × Nat) : szT (sd x) := fun xs h => by cases h; exact (by decide : 2 ≤ 40000)
theorem szL_rd {r : Row} (h : r.length ≤ 40000) : szL (rd r) := fun xs e => by
  cases e
  refine ⟨by rw [List.length_map]; exact h, fun y hy => ?_⟩
  obtain ⟨x, _, rfl⟩ := List.mem_map.mp hy
  exact szT_sd x
theorem rd_getD (r : Row) {i : Nat} {s : Int} {t : Nat} (h : r[i]? = some (s, t)) : (r.map sd).getD i .none = sd (s, t) := by
  rw [List.getD, List.getElem?_map, h]; rfl
theorem isRowD_rd {l : Int} {r : Row} (g : Good l r) (h : r.length ≤ 200) : isRowD (rd r) = true := by
  show (decide (((r.map sd).length : Int) ≤ 200) && ((r.map sd).all isPartD && _)) = true
  rw [Bool.and_eq_true, Bool.and_eq_true]
  refine ⟨decide_eq_true (by rw [List.length_map]; omega), List.all_eq_true.mpr fun y hy => ?_, List.all_eq_true.mpr fun i hi => ?_⟩
  · obtain ⟨⟨s, t⟩, hx, rfl⟩ := List.mem_map.mp hy
    obtain ⟨j, hj⟩ := List.mem_iff_getElem?.mp hx
    obtain ⟨a1, a2, a3⟩ := g.at hj
    exact isPartD_sd a1 a2 a3
  · have hi := List.mem_range.mp hi
    rw [List.length_map] at hi
    have h1 : r[i]? = some r[i] := List.getElem?_eq_getElem (by omega)
    have h2 : r[i + 1]? = some r[i + 1] := List.getElem?_eq_getElem (by omega)
    generalize r[i] = a at h1
    generalize r[i + 1] = b at h2
    obtain ⟨s, t⟩ := a
    obtain ⟨s', t'⟩ := b
    rw [rd_getD r h1, rd_getD r h2]
    have := g.next h1 h2
    show (!decide (s = s')) = true
    rw [decide_eq_false fun z => this z.symm]
    rfl
end Sq

namespace Sq
open PySem PySem.Spec PyProof.Rows L2 Evl
/-! ### slices -/
theorem cut_to {α : Type} (xs : List α) (k : Nat) : (xs.drop (HT.sIx xs.length 0 none)).take (HT.sIx xs.length xs.length (some (k : Int)) - HT.sIx xs.length 0 none) = xs.take k := by
  rw [HT.sIx_none, HT.sIx_nat, Nat.sub_zero]
  show (xs.drop 0).take (min k xs.length) = _
  rw [List.drop_zero]
  by_cases h : k ≤ xs.length
  · rw [Nat.min_eq_left h]
  · rw [Nat.min_eq_right (by omega), List.take_length, List.take_of_length_le (by omega)]
theorem cut_from {α : Type} (xs : List α) (k : Nat) : (xs.drop (HT.sIx xs.length 0 (some (k : Int)))).take (HT.sIx xs.length xs.length none - HT.sIx xs.length 0 (some (k : Int))) = xs.drop k := by
  rw [HT.sIx_none, HT.sIx_nat]
  by_cases h : k ≤ xs.length
  · rw [Nat.min_eq_left h, List.take_of_length_le (by rw [List.length_drop]; exact Nat.le_refl _)]
  · rw [Nat.min_eq_right (by omega), List.drop_eq_nil_of_le (Nat.le_refl _), List.drop_eq_nil_of_le (by omega), List.take_nil]
theorem cut_part {α : Type} (xs : List α) (a k : Nat) : (xs.drop (HT.sIx xs.length 0 (some (a : Int)))).take (HT.sIx xs.length xs.length (some ((a + k : Nat) : Int)) - HT.sIx xs.length 0 (some (a : Int))) = (xs.drop a).take k := by
  rw [HT.sIx_nat, HT.sIx_nat]
  by_cases h : a ≤ xs.length
  · rw [Nat.min_eq_left h]
    by_cases h2 : a + k ≤ xs.length
    · rw [Nat.min_eq_left h2, Nat.add_sub_cancel_left]
    · rw [Nat.min_eq_right (by omega), List.take_of_length_le (by rw [List.length_drop]; exact Nat.le_refl _), List.take_of_length_le (by rw [List.length_drop]; omega)]
  · rw [Nat.min_eq_right (show xs.length ≤ a by omega), List.drop_eq_nil_of_le (Nat.le_refl _), List.drop_eq_nil_of_le (show xs.length ≤ a by omega), List.take_nil, List.take_nil]
theorem cut_but {α : Type} (xs : List α) : (xs.drop (HT.sIx xs.length 0 none)).take (HT.sIx xs.length xs.length (some (-1)) - HT.sIx xs.length 0 none) = xs.dropLast := by
  have e : HT.sIx xs.length xs.length (some (-1)) = xs.length - 1 := by
    show (if (-1 : Int) < 0 then ((-1 : Int) + (xs.length : Int)).toNat else min (-1 : Int).toNat xs.length) = _
    rw [if_pos (by decide)]
    omega
  rw [HT.sIx_none, e, Nat.sub_zero]
  show (xs.drop 0).take _ = _
  rw [List.drop_zero, List.dropLast_eq_take]

/-! ### a heap without one address -/
def ers (l : Addr) (H : Hp) : Hp := fun b => if b = l then none else H b
theorem ers_self (l : Addr) (H : Hp) : ers l H l = none := if_pos rfl
theorem ers_ne {l b : Addr} {H : Hp} (h : b ≠ l) : ers l H b = H b := if_neg h
theorem ers_in (l : Addr) (H : Hp) : Ex (ers l H) H := fun a o e => by
  by_cases h : a = l
  · rw [h, ers_self] at e; cases e
  · rw [ers_ne h] at e; exact e
theorem ers_ex {l : Addr} {H H' : Hp} (h : Ex H H') : Ex (ers l H) (ers l H') := fun a o e => by
  by_cases z : a = l
  · rw [z, ers_self] at e; cases e
  · rw [ers_ne z] at e ⊢; exact h a o e
theorem ers_upd (l : Addr) (H : Hp) (o : HO) : ers l (upd H l o) = ers l H := by
  funext b
  by_cases z : b = l
  · rw [z, ers_self, ers_self]
  · rw [ers_ne z, ers_ne z, upd_ne z]
theorem sqT_ers {K : PySem.W.Frag} {H : Hp} {a l : Addr} {xs ys : List V} (hl : H l = some (.lst ys)) (h : SqT K H a xs) : SqT K (ers l H) a xs := by
  rcases h with (h | ⟨o, h⟩) | h
  · exact .inl (.inl (by rw [ers_ne (ne_of h hl (by intro z; cases z))]; exact h))
  · exact .inl (.inr ⟨o, by rw [ers_ne (ne_of h hl (by intro z; cases z))]; exact h⟩)
  · exact .inr h
/-! ### a new list and its data -/
def cutD (ds : List PyData) (lo hi : Option Int) : List PyData := (ds.drop (HT.sIx ds.length 0 lo)).take (HT.sIx ds.length ds.length hi - HT.sIx ds.length 0 lo)
theorem dvs_cut {K : PySem.W.Frag} {H : Hp} {vs : List V} {ds : List PyData} (h : DVs K H vs ds) (lo hi : Option Int) : DVs K H (cutV vs lo hi) (cutD ds lo hi) := by
  unfold cutV cutD
  rw [h.len]
  exact (h.drop _).take _
def EvLD (K : PySem.W.Frag) (te : TE) (σ : L2.St) (H : Hp) (ds : List PyData) : Prop := ∀ H1, Ex H H1 → ∀ Q : VK, (∀ p vs H2, H1 p = none → Ex H1 H2 → H2 p = some (.lst vs) → DVs K H2 vs ds → Q (.ref p) H2) → te σ H1 Q
section
variable {K : PySem.W.Frag} {σ : L2.St} {H H' : Hp} {ta tb te tx : TE} {t u : TT} {x y z v : V} {d e : PyData} {ds es : List PyData} {tA tB' : TA} {D : Ends} {tu tw tz : TS} {g : TG}
theorem EvLD.mono (a : Ex H H') (h : EvLD K te σ H ds) : EvLD K te σ H' ds := fun H1 b Q q => h H1 (a.trans b) Q q
theorem EvLD.ev (h : EvLD K te σ H ds) : EvD K te σ H (.list ds) := fun H1 a Q q => h H1 a Q fun p vs H2 _ b hp hv => q _ H2 b (.lst (sq_of hp) hv)
theorem eld_lst (h : EvDA K tA σ H ds) (hl : ds.length ≤ 100000) : EvLD K (tLst tA) σ H ds := fun H1 a _ q =>
  h H1 a _ fun vs H2 b hvs => ⟨sz_of (by rw [hvs.len]; exact hl), fun p hp => q p vs _ (fresh_back b hp) (b.trans (Ex.new hp)) upd_same (hvs.ex (Ex.new hp))⟩
theorem eld_call {R : RelL} {E : XK} (h : EvDA K tA σ H ds) (hR : R ds es) : EvLD K (tCall (spL K R) [] E tA) σ H es := fun H1 a _ q =>
  h H1 a _ fun vs H2 b hvs => ⟨ds, es, by rw [List.append_nil]; exact hvs, hR, fun p vs H3 hn c hp hv => q p vs H3 (fresh_back b hn) (b.trans c) hp hv⟩
theorem eld_sl {tl th : TO} {lo hi : Option Int} (h : EvD K te σ H (.list ds)) (h1 : EvO tl σ H lo) (h2 : EvO th σ H hi) (he : cutD ds lo hi = es) : EvLD K (tSl (rSlL K) te tl th) σ H es := fun H1 a _ q =>
  h H1 a _ fun v H2 e2 hv => h1 H2 (a.trans e2) _ fun H3 e3 => h2 H3 ((a.trans e2).trans e3) _ fun H4 e4 => by
    cases hv with
    | @lst p xs _ hp hx =>
      exact ⟨p, xs, rfl, ex_l (e3.trans e4) hp, fun l hl => q l _ _ (fresh_back ((e2.trans e3).trans e4) hl) (((e2.trans e3).trans e4).trans (Ex.new hl)) upd_same (by rw [← he]; exact (dvs_cut hx lo hi).ex ((e3.trans e4).trans (Ex.new hl)))⟩
theorem eld_list (h : EvD K te σ H (.list ds)) : EvLD K (tCB (rListS K) (tCons te tNil)) σ H ds := fun H1 a _ q =>
  h H1 a _ fun v H2 e2 hv => by
    cases hv with
    | @lst p xs _ hp hx => exact ⟨p, xs, rfl, .inl hp, fun l hl => q l _ _ (fresh_back e2 hl) (e2.trans (Ex.new hl)) upd_same (hx.ex (Ex.new hl))⟩
theorem eld_cat (h : EvLD K ta σ H ds) (h2 : EvLD K tb σ H es) (hl : ds.length + es.length ≤ 100000) : EvLD K (tOp rCat ta tb) σ H (ds ++ es) := fun H1 a _ q =>
  h H1 a _ fun p vs H2 hn e2 hp hv => h2 H2 (a.trans e2) _ fun p' vs' H3 hn' e3 hp' hv' =>
    ⟨p, p', vs, vs', rfl, rfl, e3 _ _ hp, hp', sz_of (by rw [hv.len, hv'.len]; exact hl), fun l hl => q l _ _ (fresh_back (e2.trans e3) hl) ((e2.trans e3).trans (Ex.new hl)) upd_same (((hv.ex e3).append hv').ex (Ex.new hl))⟩
theorem eld_rev (h : EvD K te σ H (.list ds)) : EvLD K (tRevL K te) σ H ds.reverse := fun H1 a _ q =>
  h H1 a _ fun v H2 e2 hv => by
    cases hv with
    | @lst p xs _ hp hx => exact ⟨p, xs, rfl, hp, fun l hl => q l _ _ (fresh_back e2 hl) (e2.trans (Ex.new hl)) upd_same (hx.reverse.ex (Ex.new hl))⟩
theorem eld_if {b : Bool} (h : EvT t σ H b) (h1 : b = true → EvLD K ta σ H ds) (h2 : b = false → EvLD K tb σ H ds) : EvLD K (tIf t ta tb) σ H ds := fun H1 a Q q => h H1 a _ fun H2 e2 => by
  cases b with
  | true =>
    show ta σ H2 Q
    exact h1 rfl H2 (a.trans e2) Q fun p vs H3 hn e3 hp hv => q p vs H3 (fresh_back e2 hn) (e2.trans e3) hp hv
  | false =>
    show tb σ H2 Q
    exact h2 rfl H2 (a.trans e2) Q fun p vs H3 hn e3 hp hv => q p vs H3 (fresh_back e2 hn) (e2.trans e3) hp hv
theorem s_asgLD {i : Nat} (h : EvLD K te σ H ds) (k : ∀ p vs H1, H p = none → Ex H H1 → H1 p = some (.lst vs) → DVs K H1 vs ds → D.nx (σ.set i (some (.ref p))) H1) : tAsg te (gName i) D σ H := h H (Ex.refl H) _ fun p vs H1 hn e hp hv => k p vs H1 hn e hp hv
theorem q_asgLD {i : Nat} (h : EvLD K te σ H ds) (k : ∀ p vs H1, H p = none → Ex H H1 → H1 p = some (.lst vs) → DVs K H1 vs ds → tz D (σ.set i (some (.ref p))) H1) : tSeq (tAsg te (gName i)) tz D σ H := s_asgLD (D := { D with nx := tz D }) h k
theorem s_retLD (h : EvLD K te σ H ds) (k : RetDL K ds H D.rt) : tRet te D σ H := h H (Ex.refl H) _ fun p vs H1 hn e hp hv => k p vs H1 hn e hp hv
/-- a new list and another value: a, b = [..], e -/
theorem s_parLD {i j : Nat} (h : EvLD K te σ H ds) (h2 : EvD K tx σ H d) (k : ∀ p vs w H1, H p = none → Ex H H1 → H1 p = some (.lst vs) → DVs K H1 vs ds → DV K H1 w d → D.nx ((σ.set i (some (.ref p))).set j (some w)) H1) : tPar i j (tCons te (tCons tx tNil)) D σ H :=
  h H (Ex.refl H) _ fun p vs H1 hn e hp hv => h2 H1 e _ fun w H2 e2 hw => ⟨_, _, rfl, k p vs w H2 hn (e.trans e2) (e2 _ _ hp) (hv.ex e2) hw⟩
theorem q_parLD {i j : Nat} (h : EvLD K te σ H ds) (h2 : EvD K tx σ H d) (k : ∀ p vs w H1, H p = none → Ex H H1 → H1 p = some (.lst vs) → DVs K H1 vs ds → DV K H1 w d → tz D ((σ.set i (some (.ref p))).set j (some w)) H1) : tSeq (tPar i j (tCons te (tCons tx tNil))) tz D σ H :=
  s_parLD (D := { D with nx := tz D }) h h2 k
/-- xs.pop() -/
theorem s_pop {l : Addr} {vs : List V} {w : V} (hl : H l = some (.lst vs)) (ha : Ev ta σ H (.ref l)) (hw : vs[vs.length - 1]? = some w) (k : ∀ H1, Ex H H1 → D.nx σ (upd H1 l (.lst vs.dropLast))) : tDrop (tBM0 K "list" rPop ta) D σ H :=
  ha H (Ex.refl H) _ fun H1 e => ⟨Or.inl ⟨rfl, vs, sq_of (e _ _ hl)⟩, l, vs, w, rfl, rfl, e _ _ hl, hw, k H1 e⟩
theorem q_pop {l : Addr} {vs : List V} {w : V} (hl : H l = some (.lst vs)) (ha : Ev ta σ H (.ref l)) (hw : vs[vs.length - 1]? = some w) (k : ∀ H1, Ex H H1 → tz D σ (upd H1 l (.lst vs.dropLast))) : tSeq (tDrop (tBM0 K "list" rPop ta)) tz D σ H :=
  s_pop (D := { D with nx := tz D }) hl ha hw k
/-- for i, x in enumerate(a new list) -/
theorem q_forEnum {xs : List V} {i j : Nat} (h : EvL te σ H xs) (Pv : Addr → Nat → L2.St → Hp → Prop) (h0 : ∀ p H1, H p = none → Ex H H1 → H1 p = some (.lst xs) → Pv p 0 σ H1) (hl : ∀ p k σ' H', Pv p k σ' H' → SqL K H' p xs)
    (hs : ∀ p k w σ' H', xs[k]? = some w → Pv p k σ' H' → ∀ H1, Ex H' H1 → tu { D with nx := Pv p (k + 1), ct := Pv p (k + 1), bk := tz D } ((σ'.set i (some (.int (k : Int)))).set j (some w)) H1) (hd : ∀ p σ' H', Pv p xs.length σ' H' → tz D σ' H') :
    tSeq (tFor (iEnum K (tCons te tNil)) (gTup K 2 (gCons (gName i) (gCons (gName j) gNil))) tu) tz D σ H :=
  h H (Ex.refl H) _ fun p H1 hn e hp => ⟨p, xs, rfl, sq_of hp, fun k m σ' H' => m = xs.length - k ∧ k ≤ xs.length ∧ Pv p k σ' H', ⟨xs.length, by simp, Nat.zero_le _, h0 p H1 hn e hp⟩, by
    rintro k m σ' H' ⟨rfl, hk, P⟩
    have hS := hl p k σ' H' P
    by_cases hlt : k < xs.length
    · refine .inr ⟨⟨xs, xs[k], hS, List.getElem?_eq_getElem hlt⟩, Pv p (k + 1), fun σ2 H2 P2 => ⟨xs.length - (k + 1), by omega, rfl, hlt, P2⟩, fun w H2 hy => ?_⟩
      obtain ⟨T, y, rfl, nT, rfl, hy⟩ := hy
      exact ⟨T, _, rfl, st_of upd_same, rfl, _, _, rfl, _, _, rfl, rfl, hs p k y σ' H' (hy xs hS) P _ (Ex.new nT)⟩
    · have e : k = xs.length := by omega
      subst e
      exact .inl ⟨⟨xs, hS, Nat.le_refl _⟩, hd p σ' H' P⟩⟩
/-- for x in (a, b, ..), a tuple made here: its items' data -/
theorem s_forTD {i : Nat} (h : EvD K te σ H (.tuple ds)) (Pv : Nat → L2.St → Hp → Prop) (h0 : ∀ H1, Ex H H1 → Pv 0 σ H1) (hE : ∀ k σ' H', Pv k σ' H' → Ex H H')
    (hs : ∀ k d' w σ' H', ds[k]? = some d' → DV K H' w d' → Pv k σ' H' → tu { D with nx := fun σ2 H2 => Pv (k + 1) σ2 H2 ∧ Ex H' H2, ct := fun σ2 H2 => Pv (k + 1) σ2 H2 ∧ Ex H' H2, bk := D.nx } (σ'.set i (some w)) H') (hd : ∀ σ' H', Pv ds.length σ' H' → D.nx σ' H') : tFor (iTup K te) (gName i) tu D σ H :=
  h H (Ex.refl H) _ fun v H1 e hv => by
    cases hv with
    | @tup p xs _ hp hx =>
      have hlen := hx.len
      refine ⟨p, rfl, ⟨xs, hp⟩, fun k m σ' H' => m = xs.length - k ∧ k ≤ xs.length ∧ Pv k σ' H' ∧ Ex H1 H', ⟨xs.length, by simp, Nat.zero_le _, h0 H1 e, Ex.refl _⟩, ?_⟩
      rintro k m σ' H' ⟨rfl, hk, P, e1⟩
      have hS := ex_t e1 hp
      by_cases hlt : k < xs.length
      · refine .inr ⟨⟨xs, xs[k], hS, List.getElem?_eq_getElem hlt⟩, fun σ2 H2 => Pv (k + 1) σ2 H2 ∧ Ex H' H2, fun σ2 H2 P2 => ⟨xs.length - (k + 1), by omega, rfl, hlt, P2.1, e1.trans P2.2⟩, fun w H2 hy => ?_⟩
        obtain ⟨hy1, hy2⟩ := hy
        subst hy1
        have hw := hy2 xs hS
        obtain ⟨d', g1, g2⟩ := hx.get hw
        exact hs k d' w σ' _ g1 (g2.ex e1) P
      · have ek : k = xs.length := by omega
        subst ek
        exact .inl ⟨⟨xs, hS, Nat.le_refl _⟩, hd σ' H' (by rw [← hlen]; exact P)⟩
theorem q_forTD {i : Nat} (h : EvD K te σ H (.tuple ds)) (Pv : Nat → L2.St → Hp → Prop) (h0 : ∀ H1, Ex H H1 → Pv 0 σ H1) (hE : ∀ k σ' H', Pv k σ' H' → Ex H H')
    (hs : ∀ k d' w σ' H', ds[k]? = some d' → DV K H' w d' → Pv k σ' H' → tu { D with nx := fun σ2 H2 => Pv (k + 1) σ2 H2 ∧ Ex H' H2, ct := fun σ2 H2 => Pv (k + 1) σ2 H2 ∧ Ex H' H2, bk := tz D } (σ'.set i (some w)) H') (hd : ∀ σ' H', Pv ds.length σ' H' → tz D σ' H') : tSeq (tFor (iTup K te) (gName i) tu) tz D σ H :=
  s_forTD (D := { D with nx := tz D }) h Pv h0 hE hs hd
theorem eld_rep {k : Int} (h : EvLD K ta σ H ds) (h2 : Ev tb σ H (.int k)) (h0 : 0 ≤ k) (h1 : k < 2 ^ 62) (hl : ds.length * k.toNat ≤ 100000) : EvLD K (tOp rRep ta tb) σ H (List.replicate k.toNat ds).flatten := fun H1 a _ q =>
  h H1 a _ fun p vs H2 hn e2 hp hv => h2 H2 (a.trans e2) _ fun H3 e3 =>
    ⟨p, k, vs, rfl, rfl, e3 _ _ hp, by omega, by omega, sz_of (by rw [hv.len]; exact hl), fun l hl => q l _ _ (fresh_back (e2.trans e3) hl) ((e2.trans e3).trans (Ex.new hl)) upd_same (by
      have key : ∀ n : Nat, DVs K H3 (List.replicate n vs).flatten (List.replicate n ds).flatten := by
        intro n
        induction n with
        | zero => exact .nil
        | succ n ih => rw [List.replicate_succ, List.replicate_succ, List.flatten_cons, List.flatten_cons]; exact (hv.ex e3).append ih
      exact (key _).ex (Ex.new hl))⟩
/-- a list that stands in a slot, plus a new one -/
theorem eld_catV {i : Nat} {p : Addr} {vs : List V} (hv : σ[i]? = some (some (.ref p))) (hp : H p = some (.lst vs)) (hvs : DVs K H vs ds) (h2 : EvLD K tb σ H es) (hl : ds.length + es.length ≤ 100000) : EvLD K (tOp rCat (tVar i) tb) σ H (ds ++ es) := fun H1 a _ q =>
  ⟨.ref p, hv, h2 H1 a _ fun p' vs' H3 hn' e3 hp' hv' =>
    ⟨p, p', vs, vs', rfl, rfl, e3 _ _ (a _ _ hp), hp', sz_of (by rw [hvs.len, hv'.len]; exact hl), fun l hl => q l _ _ (fresh_back e3 hl) (e3.trans (Ex.new hl)) upd_same (((hvs.ex (a.trans e3)).append hv').ex (Ex.new hl))⟩⟩
theorem s_appLD {l : Addr} {xs : List V} (hl : H l = some (.lst xs)) (ha : Ev ta σ H (.ref l)) (h : EvLD K te σ H ds) (hz : xs.length < 100000) (k : ∀ p vs H1, H p = none → Ex H H1 → H1 p = some (.lst vs) → DVs K H1 vs ds → D.nx σ (upd H1 l (.lst (xs ++ [.ref p])))) :
    tDrop (tBM K "list" rAppend ta (tCons te tNil)) D σ H := ha H (Ex.refl H) _ fun H1 e1 =>
  ⟨Or.inl ⟨rfl, xs, sq_of (e1 l _ hl)⟩, h H1 e1 _ fun p vs H2 hp e2 h2 hv => ⟨l, xs, .ref p, rfl, rfl, e2 l _ (e1 l _ hl), sz_lt hz, k p vs H2 (fresh_back e1 hp) (e1.trans e2) h2 hv⟩⟩
theorem ev_count (ha : EvD K ta σ H (.list ds)) (hb : EvD K tb σ H d) (sl : SeqAt.shaped (.list ds) = true) (sd : SeqAt.shaped d = true) : Ev (tBM K "list" (rCntD K) ta (tCons tb tNil)) σ H (.int ((ds.countP fun z => PyData.eqv z d : Nat) : Int)) := fun H1 a _ q =>
  ha H1 a _ fun v H2 e2 hv => by
    cases hv with
    | @lst p xs _ hp hx =>
      exact ⟨Or.inl ⟨rfl, xs, hp⟩, hb H2 (a.trans e2) _ fun w H3 e3 hw => ⟨p, w, d, ds, rfl, rfl, ((DV.lst hp hx).ex e3).dp sl, hw.dp sd, sl, sd, q H3 (e2.trans e3)⟩⟩
theorem ev_isNT (ha : EvD K ta σ H (.tuple ds)) : Ev (tOp rIsN ta (tC .non)) σ H (.bl false) := fun H1 a _ q =>
  ha H1 a _ fun v H2 e2 hv => by
    cases hv with
    | @tup p xs _ hp hx => exact ⟨rfl, q H2 e2⟩
/-- for x in a list of data that stands in a slot -/
theorem s_forLD {i k0 : Nat} {v : V} (hv : σ[k0]? = some (some v)) (hx : DV K H v (.list ds)) (Pv : Nat → L2.St → Hp → Prop) (h0 : Pv 0 σ H) (hE : ∀ k σ' H', Pv k σ' H' → Ex H H')
    (hs : ∀ k d' w σ' H', ds[k]? = some d' → DV K H' w d' → Pv k σ' H' → tu { D with nx := Pv (k + 1), ct := Pv (k + 1), bk := D.nx } (σ'.set i (some w)) H') (hd : ∀ σ' H', Pv ds.length σ' H' → D.nx σ' H') : tFor (iList K (tVar k0)) (gName i) tu D σ H := by
  cases hx with
  | @lst a vs _ hp hx =>
    have hlen := hx.len
    refine ⟨_, hv, a, rfl, ⟨vs, hp⟩, for_list (xs := vs) Pv h0 (fun k σ' H' _ p => ex_l (hE k σ' H' p) hp) (fun k x σ' H' hk p => ?_) (by rw [hlen]; exact hd)⟩
    obtain ⟨d, h1, h2⟩ := hx.get hk
    exact hs k d x σ' H' h1 (h2.ex (hE k σ' H' p)) p
theorem q_forLD {i k0 : Nat} {v : V} (hv : σ[k0]? = some (some v)) (hx : DV K H v (.list ds)) (Pv : Nat → L2.St → Hp → Prop) (h0 : Pv 0 σ H) (hE : ∀ k σ' H', Pv k σ' H' → Ex H H')
    (hs : ∀ k d' w σ' H', ds[k]? = some d' → DV K H' w d' → Pv k σ' H' → tu { D with nx := Pv (k + 1), ct := Pv (k + 1), bk := tz D } (σ'.set i (some w)) H') (hd : ∀ σ' H', Pv ds.length σ' H' → tz D σ' H') : tSeq (tFor (iList K (tVar k0)) (gName i) tu) tz D σ H :=
  s_forLD (D := { D with nx := tz D }) hv hx Pv h0 hE hs hd
/-! what stands beside a list -/
/-- range(0, len, c), c above 0 -/
theorem rgc_up {len : Nat} {c : Int} (hc : 1 ≤ c) (hc2 : c ≤ 1000) (hl : len ≤ 1000) : ∃ n : Nat, RgC 0 (len : Int) c n ∧ (∀ i : Nat, i < n → (i : Int) * c < len) := by
  have h1 := rangeSize_pos (len := (len : Int)) (c := c) hc (by omega)
  have h2 : (len : Int) + c - 1 < 2001 := by omega
  have h3 : 0 ≤ ((len : Int) + c - 1) / c := Int.ediv_nonneg (by omega) (by omega)
  have h4 : ((len : Int) + c - 1) / c ≤ (len : Int) + c - 1 := Int.ediv_le_self _ (by omega)
  refine ⟨(Builtin.Range.rangeSize 0 (len : Int) c).toNat, ⟨by omega, by omega, ?_, rangeSize_toNat _ _ _⟩, fun i hi => ?_⟩
  · unfold Builtin.Range.small
    rw [h1]
    generalize ((len : Int) + c - 1) / c = z at h3 h4
    simp only [Builtin.Range.rangeFitsLong, Bool.and_eq_true, Bool.or_eq_true, decide_eq_true_eq, beq_iff_eq, show c > 0 by omega, if_true]
    omega
  · exact (start_inside hc (by omega) (by omega) (by omega)).2
end
theorem rv_notN {H : Hp} {x : V} : RV rNotN x .non H (.bl (!decide (x = .non))) := fun H1 _ _ q => ⟨rfl, q H1 (Ex.refl H1)⟩
theorem rv_isN {H : Hp} {x : V} : RV rIsN x .non H (.bl (decide (x = .non))) := fun H1 _ _ q => ⟨rfl, q H1 (Ex.refl H1)⟩
theorem shaped_tdi (p : P2) (s : Int) : SeqAt.shaped (.tuple [td p, .int s]) = true := by
  simp [SeqAt.shaped, td, PyData.canLay0, PyData.canLayAll0, PyData.depth, PyData.depthAll]
theorem shaped_intsL (is : List Int) : SeqAt.shaped (.list (is.map .int)) = true := by
  have h := shaped_ints is
  unfold SeqAt.shaped at h ⊢
  exact h
theorem eqv_same {d : PyData} (h : SeqAt.shaped d = true) : PyData.eqv d d = true := SeqAt.eqv_refl d (SeqAt.canLay_of_shaped h)
theorem ints_vals {K : PySem.W.Frag} {H : Hp} : ∀ {cs : List Int} {vs : List V}, DVs K H vs (cs.map .int) → vs = cs.map V.int
  | [], _, h => by cases h; rfl
  | c :: cs, _, h => by
    cases h with
    | cons a b => rw [dvi a, ints_vals b]; rfl
theorem vals_ints' {K : PySem.W.Frag} {H : Hp} : ∀ cs : List Int, DVs K H (cs.map V.int) (cs.map .int)
  | [] => .nil
  | c :: cs => .cons (.int c) (vals_ints' cs)
end Sq

namespace Sq
open PySem PySem.Spec PyProof.Rows L2 Evl
/-! ### the law's own drawing -/
def lawPrimes : List Int := [1000003, 1000033, 1000037, 1000039, 1000081, 1000099, 1000117, 1000121, 1000133, 1000151, 1000159, 1000171, 1000183, 1000187, 1000193, 1000199]
def primeAt (k : Int) : Int := lawPrimes.getD (k % 16).toNat 0
theorem primeAt_get (k : Int) : lawPrimes[(k % 16).toNat]? = some (primeAt k) ∧ 0 < primeAt k := by
  have h : (k % 16).toNat < 16 := by omega
  unfold primeAt
  generalize (k % 16).toNat = j at h
  have key : ∀ j : Fin 16, lawPrimes[j.val]? = some (lawPrimes.getD j.val 0) ∧ 0 < lawPrimes.getD j.val 0 := by decide
  exact key ⟨j, h⟩
def lawDraw (c k m : Int) : Int := (c * 48271 + k * 69621) % primeAt k % m
theorem lawDraw_lt (c k : Int) {m : Int} (h : 0 < m) : 0 ≤ lawDraw c k m ∧ lawDraw c k m < m := ⟨Int.emod_nonneg _ (by omega), Int.emod_lt_of_pos _ h⟩
def fourAt (k : Int) : Int := ([1, 7, 49, 343] : List Int).getD (k % 4).toNat 0
theorem fourAt_get (k : Int) : ([1, 7, 49, 343] : List Int)[(k % 4).toNat]? = some (fourAt k) ∧ 0 < fourAt k ∧ fourAt k ≤ 343 := by
  have h : (k % 4).toNat < 4 := by omega
  unfold fourAt
  generalize (k % 4).toNat = j at h
  have key : ∀ j : Fin 4, ([1, 7, 49, 343] : List Int)[j.val]? = some (([1, 7, 49, 343] : List Int).getD j.val 0) ∧ 0 < ([1, 7, 49, 343] : List Int).getD j.val 0 ∧ ([1, 7, 49, 343] : List Int).getD j.val 0 ≤ 343 := by decide
  exact key ⟨j, h⟩
def E18 : Int := 1000000000000000000
def E40 : Int := 10000000000000000000000000000000000000000
theorem pow18 : (10 : Int) ^ (18 : Int).toNat = E18 := by decide
theorem pow40 : (10 : Int) ^ (40 : Int).toNat = E40 := by decide
def lawValue (c k lim : Int) : Int := if E18 ≤ c then (c - E18) / fourAt k % E40 else lawDraw ((c + 977 * k) * (c + 31 * k + 5)) (k % 9 + 1) lim
theorem lawValue_nn (c k : Int) {lim : Int} (h : 0 < lim) : 0 ≤ lawValue c k lim := by
  unfold lawValue
  split
  · exact Int.emod_nonneg _ (by decide)
  · exact (lawDraw_lt _ _ h).1
theorem lawValue_lt (c k : Int) {lim : Int} (h : 0 < lim) (h2 : lim ≤ E40) : lawValue c k lim < E40 := by
  unfold lawValue
  split
  · exact Int.emod_lt_of_pos _ (by decide)
  · have := (lawDraw_lt ((c + 977 * k) * (c + 31 * k + 5)) (k % 9 + 1) h).2
    omega
def R__law_draw : Rel := fun ds d => ∃ c k m : Int, ds = [.int c, .int k, .int m] ∧ Sm 3000000 c ∧ Sm 3000000 k ∧ 0 < m ∧ d = .int (lawDraw c k m)
def R__law_value : Rel := fun ds d => ∃ c k lim : Int, ds = [.int c, .int k, .int lim] ∧ Sm 1048577 c ∧ Sm 64 k ∧ 0 < lim ∧ d = .int (lawValue c k lim)
/-! ### its rows -/
def wayAt (v : Int) : Int := ([2, 7, 900000, E40] : List Int).getD (v / 7 % 4).toNat 0
theorem wayAt_get (v : Int) : ([2, 7, 900000, E40] : List Int)[(v / 7 % 4).toNat]? = some (wayAt v) ∧ 0 < wayAt v ∧ wayAt v ≤ E40 := by
  have h : (v / 7 % 4).toNat < 4 := by omega
  unfold wayAt
  generalize (v / 7 % 4).toNat = j at h
  have key : ∀ j : Fin 4, ([2, 7, 900000, E40] : List Int)[j.val]? = some (([2, 7, 900000, E40] : List Int).getD j.val 0) ∧ 0 < ([2, 7, 900000, E40] : List Int).getD j.val 0 ∧ ([2, 7, 900000, E40] : List Int).getD j.val 0 ≤ E40 := by decide
  exact key ⟨j, h⟩
def lawStep (last v : Int) : Int := if last = 3 then v % 3 else (last + 1 + v % 2) % 3
def lawOften (st v : Int) : Int := if st = 1 then 1 + v / 5 % (if 0 < v / 11 % 40 then 4 else 1000) else 1 + v / 3 % wayAt v
def lawRowFrom (b : Int) : Nat → Int → List Int → Row
  | _, _, [] => []
  | i, last, c :: cs =>
    (lawStep last (lawValue c ((i : Int) + b) 900000), (lawOften (lawStep last (lawValue c ((i : Int) + b) 900000)) (lawValue c ((i : Int) + b) 900000)).toNat) :: lawRowFrom b (i + 1) (lawStep last (lawValue c ((i : Int) + b) 900000)) cs
theorem lawRowFrom_nil (b : Int) (i : Nat) (last : Int) : lawRowFrom b i last [] = [] := rfl
theorem lawRowFrom_cons (b : Int) (i : Nat) (last c : Int) (cs : List Int) : lawRowFrom b i last (c :: cs) = (lawStep last (lawValue c ((i : Int) + b) 900000), (lawOften (lawStep last (lawValue c ((i : Int) + b) 900000)) (lawValue c ((i : Int) + b) 900000)).toNat) :: lawRowFrom b (i + 1) (lawStep last (lawValue c ((i : Int) + b) 900000)) cs := rfl
def lawRow (cells : List Int) (b : Nat) : Row := lawRowFrom b 0 3 ((cells.drop b).take 16)
theorem lawStep_ok (last v : Int) (hl : last = 0 ∨ last = 1 ∨ last = 2 ∨ last = 3) : Step (lawStep last v) ∧ lawStep last v ≠ last := by
  unfold lawStep Step
  split
  · rename_i h
    subst h
    omega
  · rename_i h
    omega
theorem lawOften_ok (st v : Int) (hv : 0 ≤ v) : 0 < lawOften st v ∧ (st = 1 → lawOften st v ≤ 1000) ∧ lawOften st v ≤ E40 := by
  unfold lawOften
  split
  · have h1 : 0 < (if 0 < v / 11 % 40 then (4 : Int) else 1000) ∧ (if 0 < v / 11 % 40 then (4 : Int) else 1000) ≤ 1000 := by split <;> decide
    generalize (if 0 < v / 11 % 40 then (4 : Int) else 1000) = w at h1
    have h2 := Int.emod_nonneg (v / 5) (show w ≠ 0 by omega)
    have h3 := Int.emod_lt_of_pos (v / 5) h1.1
    have h4 : (1000 : Int) ≤ E40 := by decide
    refine ⟨by omega, fun _ => by omega, by omega⟩
  · rename_i hs
    obtain ⟨_, w1, w2⟩ := wayAt_get v
    have h2 := Int.emod_nonneg (v / 3) (show wayAt v ≠ 0 by omega)
    have h3 := Int.emod_lt_of_pos (v / 3) w1
    exact ⟨by omega, fun z => absurd z hs, by omega⟩
theorem lawRowFrom_good (b : Int) : ∀ (cs : List Int) (i : Nat) (last : Int), (last = 0 ∨ last = 1 ∨ last = 2 ∨ last = 3) → Good last (lawRowFrom b i last cs) ∧ (lawRowFrom b i last cs).length = cs.length ∧ ∀ x ∈ lawRowFrom b i last cs, (x.2 : Int) ≤ E40
  | [], _, _, _ => ⟨trivial, rfl, fun x hx => nomatch hx⟩
  | c :: cs, i, last, hl => by
    have hv := lawValue_nn c ((i : Int) + b) (show (0 : Int) < 900000 by decide)
    unfold lawRowFrom
    generalize lawValue c ((i : Int) + b) 900000 = v at hv
    obtain ⟨s1, s2⟩ := lawStep_ok last v hl
    generalize lawStep last v = st at s1 s2
    obtain ⟨o1, o2, o3⟩ := lawOften_ok st v hv
    generalize lawOften st v = o at o1 o2 o3
    obtain ⟨i1, i2, i3⟩ := lawRowFrom_good b cs (i + 1) st (by unfold Step at s1; omega)
    refine ⟨⟨s1, s2, by omega, fun z => by have := o2 z; omega, i1⟩, by rw [List.length_cons, List.length_cons, i2], fun x hx => ?_⟩
    rcases List.mem_cons.mp hx with e | hx
    · subst e
      show ((o.toNat : Nat) : Int) ≤ E40
      omega
    · exact i3 x hx
theorem Good.weak {l : Int} : ∀ {r : Row}, Good l r → Good (-1) r
  | [], _ => trivial
  | (s, t) :: r, g => ⟨g.1, by have := g.1; omega, g.2.2.1, g.2.2.2.1, g.2.2.2.2⟩
theorem Good.take {l : Int} : ∀ {r : Row} (n : Nat), Good l r → Good l (r.take n)
  | _, 0, _ => by rw [List.take_zero]; trivial
  | [], _ + 1, _ => trivial
  | (s, t) :: r, n + 1, g => ⟨g.1, g.2.1, g.2.2.1, g.2.2.2.1, Good.take n g.2.2.2.2⟩
/-- how fast a row grows -/
theorem led_grow {p : P2} (h : Ok2 p) {s : Int} (hs : Step s) {t : Nat} (ht : (t : Int) ≤ E40) (h1 : s = 1 → t ≤ 1000) : (led p s t).1 ≤ p.1 * 2 ^ 2000 := by
  obtain ⟨m, n⟩ := p
  obtain ⟨g1, g2⟩ := h
  have g1 : 0 < n := g1
  have g2 : n < m := g2
  have big : (2 : Int) ^ 200 ≤ 2 ^ 2000 := by
    have : (2 : Nat) ^ 200 ≤ 2 ^ 2000 := Nat.pow_le_pow_right (by decide) (by decide)
    exact_mod_cast this
  have e200 : 1 + 2 * E40 ≤ (2 : Int) ^ 200 := by decide
  show _ ≤ m * 2 ^ 2000
  rcases hs with rfl | rfl | rfl
  · show m + (m - n) * (t : Int) ≤ _
    have a : (m - n) * (t : Int) ≤ m * E40 := Int.mul_le_mul (by omega) ht (by omega) (by omega)
    have b : m * (1 + 2 * E40) ≤ m * 2 ^ 2000 := Int.mul_le_mul_of_nonneg_left (by omega) (by omega)
    have c : m * (1 + 2 * E40) = m + 2 * (m * E40) := by grind
    have d : 0 ≤ m * E40 := Int.mul_nonneg (by omega) (by decide)
    omega
  · have key : ∀ k : Nat, k ≤ 1000 → (iter one k (m, n)).1 ≤ m * 4 ^ k := by
      intro k
      induction k with
      | zero => intro _; show m ≤ m * 1; omega
      | succ k ih =>
        intro hk
        have ih := ih (by omega)
        obtain ⟨q1, q2⟩ := ok_iter (p := (m, n)) ⟨g1, g2⟩ k
        show 2 * (iter one k (m, n)).1 + (iter one k (m, n)).2 ≤ _
        rw [Int.pow_succ]
        have c : m * (4 ^ k * 4) = 4 * (m * 4 ^ k) := by grind
        rw [c]
        omega
    have h3 := key t (h1 rfl)
    have e : (4 : Int) ^ t ≤ 2 ^ 2000 := by
      have h1 := h1 rfl
      have e1 : (4 : Nat) ^ t = 2 ^ (2 * t) := by rw [Nat.pow_mul]
      have e2 : (2 : Nat) ^ (2 * t) ≤ 2 ^ 2000 := Nat.pow_le_pow_right (by decide) (by omega)
      rw [← e1] at e2
      exact_mod_cast e2
    have h4 : m * 4 ^ t ≤ m * 2 ^ 2000 := Int.mul_le_mul_of_nonneg_left e (by omega)
    show (iter one t (m, n)).1 ≤ _
    exact Int.le_trans h3 h4
  · show m + 2 * n * (t : Int) ≤ _
    have a : n * (t : Int) ≤ m * E40 := Int.mul_le_mul (by omega) ht (by omega) (by omega)
    have b : m * (1 + 2 * E40) ≤ m * 2 ^ 2000 := Int.mul_le_mul_of_nonneg_left (by omega) (by omega)
    have c : m * (1 + 2 * E40) = m + 2 * (m * E40) := by grind
    have d : 2 * n * (t : Int) = 2 * (n * (t : Int)) := by grind
    omega
theorem behind_grow {l : Int} : ∀ (r : Row) (p : P2), Ok2 p → Good l r → (∀ x ∈ r, (x.2 : Int) ≤ E40) → (behind p r).1 ≤ p.1 * (2 ^ 2000) ^ r.length
  | [], p, _, _, _ => by show p.1 ≤ p.1 * 1; omega
  | (s, t) :: r, p, h, g, f => by
    have h1 := led_grow h g.1 (f (s, t) List.mem_cons_self) g.2.2.2.1
    have h2 := behind_grow r (led p s t) (led_ok h s t) g.2.2.2.2 fun x hx => f x (List.mem_cons_of_mem _ hx)
    show (behind (led p s t) r).1 ≤ _
    have hp : (0 : Int) ≤ (2 ^ 2000) ^ r.length := Int.pow_nonneg (Int.pow_nonneg (by decide))
    have h3 := Int.mul_le_mul_of_nonneg_right h1 hp
    rw [List.length_cons, Int.pow_succ]
    have e : p.1 * ((2 ^ 2000) ^ r.length * 2 ^ 2000) = p.1 * 2 ^ 2000 * (2 ^ 2000) ^ r.length := by
      rw [Int.mul_assoc, Int.mul_comm (2 ^ 2000)]
    rw [e]
    exact Int.le_trans h2 h3
theorem fit_of {r : Row} (g : Good (-1) r) (hl : r.length ≤ 30) (f : ∀ x ∈ r, (x.2 : Int) ≤ E40) : Fit r := by
  refine ⟨g, by omega, fun x hx => ?_, ?_⟩
  · have h1 := f x hx
    have h2 : (E40 : Int) < ((2 ^ 200 : Nat) : Int) := by decide
    have h3 : (x.2 : Int) < ((2 ^ 200 : Nat) : Int) := Int.lt_of_le_of_lt h1 h2
    exact Nat.lt_of_lt_of_le (Int.ofNat_lt.mp h3) (Nat.pow_le_pow_right (by decide) (by decide))
  · have h1 := behind_grow r root (ok_of root_pair) g f
    have h2 : (2 : Int) * (2 ^ 2000) ^ r.length ≤ ((2 ^ 60001 : Nat) : Int) := by
      have e1 : ((2 : Nat) ^ 2000) ^ r.length = 2 ^ (2000 * r.length) := by rw [Nat.pow_mul]
      have e2 : 2 * (2 : Nat) ^ (2000 * r.length) = 2 ^ (2000 * r.length + 1) := by rw [Nat.pow_succ]; omega
      have e3 : (2 : Nat) ^ (2000 * r.length + 1) ≤ 2 ^ 60001 := Nat.pow_le_pow_right (by decide) (by omega)
      rw [← e2, ← e1] at e3
      exact_mod_cast e3
    have h3 : 0 ≤ (behind root r).1 := by
      obtain ⟨a, b⟩ := behind_ok (ok_of root_pair) r
      omega
    have h4 : (behind root r).1 ≤ ((2 ^ 60001 : Nat) : Int) := Int.le_trans h1 h2
    have h5 : (behind root r).1.natAbs ≤ 2 ^ 60001 := by
      have : (((behind root r).1.natAbs : Nat) : Int) ≤ ((2 ^ 60001 : Nat) : Int) := by
        rw [Int.natAbs_of_nonneg h3]
        exact h4
      exact Int.ofNat_le.mp this
    show (behind root r).1.natAbs < 2 ^ 80000
    exact Nat.lt_of_le_of_lt h5 (Nat.pow_lt_pow_right (by decide) (by decide))
theorem Fit.take {r : Row} (h : Fit r) (n : Nat) : Fit (r.take n) := by
  refine ⟨h.good.take n, ?_, fun x hx => h.few x (List.mem_of_mem_take hx), ?_⟩
  · rw [List.length_take]; have := h.len; omega
  · obtain ⟨a, b⟩ := behind_ok (ok_of root_pair) (r.take n)
    exact h.sm.le (by omega) (behind_take_up r n)
theorem lawRow_fit (cells : List Int) (b : Nat) : Fit (lawRow cells b) := by
  obtain ⟨h1, h2, h3⟩ := lawRowFrom_good b ((cells.drop b).take 16) 0 3 (by omega)
  refine fit_of h1.weak ?_ h3
  unfold lawRow
  rw [h2, List.length_take]
  omega
def R__law_row : RelL := fun ds es => ∃ (cells : List Int) (b : Nat), ds = [.list (cells.map .int), .int b] ∧ (∀ c ∈ cells, Sm 1048577 c) ∧ b ≤ 63 ∧ cells.length ≤ 63 ∧ es = (lawRow cells b).map sd
def Parts (r : Row) : Prop := ∀ x ∈ r, Step x.1 ∧ (x.1 = 1 → x.2 ≤ 1000) ∧ x.2 < 2 ^ 3000
theorem Fit.parts {r : Row} (h : Fit r) : Parts r := fun x hx => by
  obtain ⟨j, hj⟩ := List.mem_iff_getElem?.mp hx
  obtain ⟨s, t⟩ := x
  obtain ⟨a1, a2, a3⟩ := h.good.at hj
  exact ⟨a1, a3, h.few _ hx⟩
def R__law_led : Rel := fun ds d => ∃ (p : P2) (s : Int) (t : Nat), ds = [pd p, .int s, .int t] ∧ Step s ∧ Ok2 p ∧ (s = 1 → t ≤ 1000) ∧ Sm 5000 (t : Int) ∧ Sm 95000 (led p s t).1 ∧ d = pd (led p s t)
def R__law_behind : Rel := fun ds d => ∃ r : Row, ds = [rd r] ∧ Parts r ∧ Sm 80000 (behind root r).1 ∧ r.length ≤ 40000 ∧ d = pd (behind root r)
def R__law_triple : Rel := fun ds d => ∃ p : P2, ds = [pd p] ∧ Sm 92000 p.1 ∧ Sm 92000 p.2 ∧ d = td p
abbrev R__law_whole := R_is_whole
abbrev R__law_are := R_are_whole
def R__law_steps_right : Rel := fun ds d => ∃ p : P2, ds = [pd p, td p] ∧ IsPair p ∧ Sm 85000 p.1 ∧ d = .bool true
def R__law_right1 : Rel := fun ds d => ∃ r : Row, ds = [rd r] ∧ Fit r ∧ d = .bool true
def R_law1 : Rel := fun ds d => ∃ ns : List Int, ds = [.list (ns.map .int)] ∧ ns.length ≤ 63 ∧ (∀ c ∈ ns, Sm 1048577 c) ∧ d = .bool true
theorem fit_nil : Fit [] := fit_of trivial (by decide) fun x hx => nomatch hx
theorem fit_one {s : Int} {t : Nat} (hs : Step s) (ht : 0 < t) (h1 : s = 1 → t ≤ 1000) (h2 : (t : Int) ≤ E40) : Fit [(s, t)] :=
  fit_of ⟨hs, by unfold Step at hs; omega, ht, h1, trivial⟩ (by show 1 ≤ 30; decide) fun x hx => by
    cases hx with
    | head => exact h2
    | tail _ h => cases h
theorem fit_two {s s' : Int} {t t' : Nat} (hs : Step s) (ht : 0 < t) (h1 : s = 1 → t ≤ 1000) (h2 : (t : Int) ≤ E40) (hs' : Step s') (hne : s' ≠ s) (ht' : 0 < t') (h1' : s' = 1 → t' ≤ 1000) (h2' : (t' : Int) ≤ E40) : Fit [(s, t), (s', t')] :=
  fit_of ⟨hs, by unfold Step at hs; omega, ht, h1, hs', hne, ht', h1', trivial⟩ (by show 2 ≤ 30; decide) fun x hx => by
    cases hx with
    | head => exact h2
    | tail _ h =>
      cases h with
      | head => exact h2'
      | tail _ h => cases h
end Sq

namespace Sq
open PySem PySem.Spec PyProof.Rows L2 Evl
/-! ### each pair has a row -/
theorem gcd_of {a b m n : Int} (h : Int.gcd m n = 1) (hd : ∀ d : Int, d ∣ a → d ∣ b → d ∣ m ∧ d ∣ n) : Int.gcd a b = 1 := by
  obtain ⟨q1, q2⟩ := hd (Int.gcd a b : Int) (Int.gcd_dvd_left ..) (Int.gcd_dvd_right ..)
  have := Int.dvd_gcd q1 q2
  rw [h] at this
  have : (Int.gcd a b) ∣ 1 := by exact_mod_cast this
  exact Nat.dvd_one.mp this
/-- one step back -/
theorem back_pair {p : P2} (h : IsPair p) (hr : p ≠ root) : Step (lastStep p) ∧ IsPair (ledBack p (lastStep p) 1) ∧ (ledBack p (lastStep p) 1).1 < p.1 := by
  obtain ⟨m, n⟩ := p
  obtain ⟨h1, h2, h3, h4⟩ := id h
  have h1 : 0 < n := h1
  have h2 : n < m := h2
  have h3 : (m - n) % 2 = 1 := h3
  have h4 : Int.gcd m n = 1 := h4
  have n2 : m ≠ 2 * n := fun e => hr (at_two h e)
  have n3 : m ≠ 3 * n := not_three h
  by_cases c0 : m < 2 * n
  · have e : lastStep (m, n) = 0 := if_pos c0
    rw [e]
    have eb : ledBack (m, n) 0 1 = (n, 2 * n - m) := by
      show ((m - (m - n) * ((1 : Nat) : Int), n - (m - n) * ((1 : Nat) : Int)) : P2) = _
      congr 1 <;> omega
    rw [eb]
    refine ⟨.inl rfl, ⟨by show 0 < 2 * n - m; omega, by show 2 * n - m < n; omega, by show (n - (2 * n - m)) % 2 = 1; omega, gcd_of h4 fun d q1 q2 => ⟨?_, q1⟩⟩, h2⟩
    have q1 : d ∣ n := q1
    have q2 : d ∣ 2 * n - m := q2
    have e2 : m = 2 * n - (2 * n - m) := by omega
    rw [e2]
    exact Int.dvd_sub (Int.dvd_mul_of_dvd_right q1) q2
  · by_cases c1 : m < 3 * n
    · have e : lastStep (m, n) = 1 := by
        show (if m < 2 * n then (0 : Int) else if m < 3 * n then 1 else 2) = 1
        rw [if_neg c0, if_pos c1]
      rw [e]
      have eb : ledBack (m, n) 1 1 = (n, m - 2 * n) := rfl
      rw [eb]
      refine ⟨.inr (.inl rfl), ⟨by show 0 < m - 2 * n; omega, by show m - 2 * n < n; omega, by show (n - (m - 2 * n)) % 2 = 1; omega, gcd_of h4 fun d q1 q2 => ⟨?_, q1⟩⟩, h2⟩
      have q1 : d ∣ n := q1
      have q2 : d ∣ m - 2 * n := q2
      have e2 : m = m - 2 * n + 2 * n := by omega
      rw [e2]
      exact Int.dvd_add q2 (Int.dvd_mul_of_dvd_right q1)
    · have e : lastStep (m, n) = 2 := by
        show (if m < 2 * n then (0 : Int) else if m < 3 * n then 1 else 2) = 2
        rw [if_neg c0, if_neg c1]
      rw [e]
      have eb : ledBack (m, n) 2 1 = (m - 2 * n, n) := by
        show ((m - 2 * n * ((1 : Nat) : Int), n) : P2) = _
        congr 1
        omega
      rw [eb]
      refine ⟨.inr (.inr rfl), ⟨h1, by show n < m - 2 * n; omega, by show (m - 2 * n - n) % 2 = 1; omega, gcd_of h4 fun d q1 q2 => ⟨?_, q2⟩⟩, by show m - 2 * n < m; omega⟩
      have q1 : d ∣ m - 2 * n := q1
      have q2 : d ∣ n := q2
      have e2 : m = m - 2 * n + 2 * n := by omega
      rw [e2]
      exact Int.dvd_add q1 (Int.dvd_mul_of_dvd_right q2)
/-- a step more at the end -/
def addStep (s : Int) : Row → Row
  | [] => [(s, 1)]
  | [(s', t)] => if s' = s then [(s', t + 1)] else [(s', t), (s, 1)]
  | x :: y :: r => x :: addStep s (y :: r)
def count : Row → Nat
  | [] => 0
  | (_, t) :: r => t + count r
theorem addStep_behind (s : Int) : ∀ (r : Row) (p : P2), behind p (addStep s r) = led (behind p r) s 1
  | [], p => rfl
  | [(s', t)], p => by
    unfold addStep
    split
    · rename_i h
      subst h
      exact led_succ p s' t
    · rfl
  | (s', t) :: y :: r, p => addStep_behind s (y :: r) (led p s' t)
theorem addStep_count (s : Int) : ∀ r : Row, count (addStep s r) = count r + 1
  | [] => rfl
  | [(s', t)] => by
    unfold addStep
    split
    · show t + 1 + 0 = t + 0 + 1; omega
    · show t + (1 + 0) = t + 0 + 1; omega
  | (s', t) :: y :: r => by
    show t + count (addStep s (y :: r)) = t + count (y :: r) + 1
    rw [addStep_count s (y :: r)]
    omega
theorem addStep_good {s : Int} (hs : Step s) : ∀ (r : Row) (l : Int), Good l r → (r = [] → s ≠ l) → count r ≤ 900 → Good l (addStep s r)
  | [], l, _, h, _ => ⟨hs, h rfl, by decide, fun _ => by decide, trivial⟩
  | [(s', t)], l, g, _, hc => by
    have hc : t + 0 ≤ 900 := hc
    unfold addStep
    split
    · exact ⟨g.1, g.2.1, by omega, fun _ => by omega, trivial⟩
    · rename_i h
      exact ⟨g.1, g.2.1, g.2.2.1, g.2.2.2.1, hs, fun z => h z.symm, by decide, fun _ => by decide, trivial⟩
  | (s', t) :: y :: r, l, g, _, hc => by
    have hc : t + count (y :: r) ≤ 900 := hc
    exact ⟨g.1, g.2.1, g.2.2.1, g.2.2.2.1, addStep_good hs (y :: r) s' g.2.2.2.2 (fun z => by cases z) (by omega)⟩
theorem count_len {l : Int} : ∀ {r : Row}, Good l r → r.length ≤ count r ∧ ∀ x ∈ r, x.2 ≤ count r
  | [], _ => ⟨Nat.le_refl _, fun x h => nomatch h⟩
  | (s, t) :: r, g => by
    obtain ⟨h1, h2⟩ := count_len g.2.2.2.2
    have h0 := g.2.2.1
    refine ⟨by show r.length + 1 ≤ t + count r; omega, fun x hx => ?_⟩
    rcases List.mem_cons.mp hx with e | hx
    · subst e; show t ≤ t + count r; omega
    · have := h2 x hx
      show x.2 ≤ t + count r
      omega
def rowF : Nat → P2 → Row
  | 0, _ => []
  | k + 1, p => if p = root then [] else addStep (lastStep p) (rowF k (ledBack p (lastStep p) 1))
theorem rowF_ok : ∀ (k : Nat) (p : P2), IsPair p → p.1 ≤ (k : Int) + 2 → k ≤ 800 → Good (-1) (rowF k p) ∧ behind root (rowF k p) = p ∧ (count (rowF k p) : Int) + 2 ≤ p.1
  | 0, p, h, hk, _ => by
    obtain ⟨m, n⟩ := p
    obtain ⟨h1, h2, h3, h4⟩ := id h
    have h1 : 0 < n := h1
    have h2 : n < m := h2
    have hk : m ≤ ((0 : Nat) : Int) + 2 := hk
    have e1 : m = 2 := by omega
    have e2 : n = 1 := by omega
    subst e1
    subst e2
    exact ⟨trivial, rfl, by decide⟩
  | k + 1, p, h, hk, hk8 => by
    unfold rowF
    by_cases hr : p = root
    · rw [if_pos hr, hr]
      exact ⟨trivial, rfl, by decide⟩
    · rw [if_neg hr]
      obtain ⟨b1, b2, b3⟩ := back_pair h hr
      have hk' : (ledBack p (lastStep p) 1).1 ≤ (k : Int) + 2 := by
        have : p.1 ≤ ((k + 1 : Nat) : Int) + 2 := hk
        omega
      obtain ⟨i1, i2, i3⟩ := rowF_ok k _ b2 hk' (by omega)
      have hle := led_ledBack p (lastStep p) 1
      generalize rowF k (ledBack p (lastStep p) 1) = r at i1 i2 i3
      refine ⟨addStep_good b1 r (-1) i1 (fun _ => by unfold Step at b1; omega) (by omega), by rw [addStep_behind, i2, hle], ?_⟩
      rw [addStep_count]
      omega
def rowP (p : P2) : Row := rowF 60 p
theorem rowP_ok {p : P2} (h : IsPair p) (hp : p.1 ≤ 40) : Fit (rowP p) ∧ behind root (rowP p) = p ∧ (count (rowP p) : Int) + 2 ≤ p.1 := by
  obtain ⟨h1, h2, h3⟩ := rowF_ok 60 p h (by omega) (by decide)
  refine ⟨⟨h1, ?_, fun x hx => ?_, ?_⟩, h2, h3⟩
  · have := (count_len h1).1
    show (rowF 60 p).length ≤ 200
    omega
  · have := (count_len h1).2 x hx
    refine Nat.lt_of_lt_of_le (show x.2 < 2 ^ 6 from ?_) (Nat.pow_le_pow_right (by decide) (by decide))
    show x.2 < 64
    omega
  · show Sm 80000 (behind root (rowF 60 p)).1
    rw [h2]
    have h0 := ok_of h
    obtain ⟨a, b⟩ := h0
    exact Sm.up (a := 6) (show p.1.natAbs < 64 by omega) (by decide)
/-! ### step by step -/
def flat : Row → List Int
  | [] => []
  | (s, t) :: r => List.replicate t s ++ flat r
theorem flat_len : ∀ r : Row, (flat r).length = count r
  | [] => rfl
  | (s, t) :: r => by
    show (List.replicate t s ++ flat r).length = t + count r
    rw [List.length_append, List.length_replicate, flat_len r]
def walk : P2 → List Int → P2
  | p, [] => p
  | p, s :: l => walk (led p s 1) l
theorem walk_append (p : P2) (a b : List Int) : walk p (a ++ b) = walk (walk p a) b := by
  induction a generalizing p with
  | nil => rfl
  | cons x a ih => exact ih _
theorem walk_rep (p : P2) (s : Int) : ∀ t : Nat, walk p (List.replicate t s) = led p s t
  | 0 => (led_zero p s).symm
  | t + 1 => by
    rw [List.replicate_succ', walk_append, walk_rep p s t, led_succ]
    rfl
theorem walk_flat : ∀ (r : Row) (p : P2), walk p (flat r) = behind p r
  | [], _ => rfl
  | (s, t) :: r, p => by
    show walk p (List.replicate t s ++ flat r) = behind (led p s t) r
    rw [walk_append, walk_rep, walk_flat r]
theorem walk_pair {p : P2} (h : IsPair p) : ∀ l : List Int, IsPair (walk p l)
  | [] => h
  | s :: l => walk_pair (led_pair1 h s) l
theorem walk_up {p : P2} (h : Ok2 p) : ∀ l : List Int, p.1 + l.length ≤ (walk p l).1
  | [] => by show p.1 + 0 ≤ p.1; omega
  | s :: l => by
    have h1 := led_up1 h s
    have h2 := walk_up (led_ok h s 1) l
    show p.1 + ((l.length + 1 : Nat) : Int) ≤ (walk (led p s 1) l).1
    omega
theorem flat_steps {l : Int} : ∀ {r : Row}, Good l r → ∀ s ∈ flat r, Step s
  | [], _, s, h => nomatch h
  | (s', t) :: r, g, s, h => by
    rcases List.mem_append.mp h with h | h
    · rw [List.eq_of_mem_replicate h]; exact g.1
    · exact flat_steps g.2.2.2.2 s h
/-! ### all pairs up to a number -/
def isP (m n : Nat) : Bool := decide ((m + n) % 2 = 1) && decide (Nat.gcd m n = 1)
def innerL (m : Nat) : Nat → List P2
  | 0 => []
  | k + 1 => innerL m k ++ (if isP m (k + 1) then [((m : Int), ((k + 1 : Nat) : Int))] else [])
def outerL : Nat → List P2
  | 0 => []
  | k + 1 => outerL k ++ innerL (k + 2) (k + 1)
theorem isP_pair {m n : Nat} (h : isP m n = true) (h0 : 0 < n) (h1 : n < m) : IsPair ((m : Int), (n : Int)) := by
  unfold isP at h
  rw [Bool.and_eq_true] at h
  have a := of_decide_eq_true h.1
  have b := of_decide_eq_true h.2
  refine ⟨by show 0 < (n : Int); omega, by show (n : Int) < m; omega, by show ((m : Int) - n) % 2 = 1; omega, ?_⟩
  show Int.gcd (m : Int) (n : Int) = 1
  rw [Int.gcd_natCast_natCast]
  exact b
theorem innerL_mem (m : Nat) : ∀ (k : Nat) (p : P2), k < m → p ∈ innerL m k → IsPair p ∧ p.1 = (m : Int) ∧ p.2 ≤ (k : Int)
  | 0, p, _, h => nomatch h
  | k + 1, p, hk, h => by
    rcases List.mem_append.mp h with h | h
    · obtain ⟨a, b, c⟩ := innerL_mem m k p (by omega) h
      exact ⟨a, b, by omega⟩
    · split at h
      · rename_i hp
        cases h with
        | head => exact ⟨isP_pair hp (by omega) hk, rfl, Int.le_refl _⟩
        | tail _ h => cases h
      · cases h
theorem innerL_nodup (m : Nat) : ∀ k : Nat, k < m → (innerL m k).Nodup
  | 0, _ => List.nodup_nil
  | k + 1, hk => by
    refine List.nodup_append.mpr ⟨innerL_nodup m k (by omega), ?_, fun a ha b hb => ?_⟩
    · split
      · simp
      · exact List.nodup_nil
    · obtain ⟨_, _, c⟩ := innerL_mem m k a (by omega) ha
      split at hb
      · cases hb with
        | head =>
          intro e
          rw [e] at c
          have c : ((k + 1 : Nat) : Int) ≤ (k : Int) := c
          omega
        | tail _ h => cases h
      · cases hb
theorem outerL_mem : ∀ (k : Nat) (p : P2), p ∈ outerL k → IsPair p ∧ p.1 ≤ (k : Int) + 1
  | 0, p, h => nomatch h
  | k + 1, p, h => by
    rcases List.mem_append.mp h with h | h
    · obtain ⟨a, b⟩ := outerL_mem k p h
      exact ⟨a, by omega⟩
    · obtain ⟨a, b, _⟩ := innerL_mem (k + 2) (k + 1) p (by omega) h
      exact ⟨a, by omega⟩
theorem outerL_nodup : ∀ k : Nat, (outerL k).Nodup
  | 0 => List.nodup_nil
  | k + 1 => by
    refine List.nodup_append.mpr ⟨outerL_nodup k, innerL_nodup _ _ (by omega), fun a ha b hb e => ?_⟩
    obtain ⟨_, x⟩ := outerL_mem k a ha
    obtain ⟨_, y, _⟩ := innerL_mem (k + 2) (k + 1) b (by omega) hb
    rw [e, y] at x
    omega
theorem innerL_len (m : Nat) : ∀ k, (innerL m k).length ≤ k
  | 0 => Nat.le_refl _
  | k + 1 => by
    have h1 := innerL_len m k
    show (innerL m k ++ (if isP m (k + 1) then [((m : Int), ((k + 1 : Nat) : Int))] else [])).length ≤ k + 1
    rw [List.length_append]
    split
    · show _ + 1 ≤ _; omega
    · show _ + 0 ≤ _; omega
theorem outerL_len : ∀ k, (outerL k).length ≤ k * k
  | 0 => Nat.le_refl _
  | k + 1 => by
    have h1 := outerL_len k
    have h2 := innerL_len (k + 2) (k + 1)
    show (outerL k ++ innerL (k + 2) (k + 1)).length ≤ _
    rw [List.length_append, Nat.add_mul, Nat.mul_add]
    omega
theorem outerL_pre (j : Nat) : ∃ r, outerL (3 + j) = outerL 3 ++ r := by
  induction j with
  | zero => exact ⟨[], by rw [List.append_nil]⟩
  | succ j ih =>
    obtain ⟨r, h⟩ := ih
    refine ⟨r ++ innerL (3 + j + 2) (3 + j + 1), ?_⟩
    show outerL (3 + j) ++ innerL (3 + j + 2) (3 + j + 1) = _
    rw [h, List.append_assoc]
theorem outerL_three {k : Nat} (h : 3 ≤ k) : (outerL k).take 3 = [(2, 1), (3, 2), (4, 1)] := by
  obtain ⟨r, e⟩ := outerL_pre (k - 3)
  rw [show 3 + (k - 3) = k by omega] at e
  rw [e, List.take_append_of_le_length (by decide)]
  decide
theorem rows3 : rowP (2, 1) = [] ∧ rowP (3, 2) = [(0, 1)] ∧ rowP (4, 1) = [(2, 1)] := by decide
theorem once_of {p : P2} : ∀ {ps : List P2}, ps.Nodup → p ∈ ps → ps.countP (fun q => q == p) = 1
  | [], _, h => nomatch h
  | x :: ps, hn, h => by
    obtain ⟨h1, h2⟩ := List.nodup_cons.mp hn
    rw [List.countP_cons]
    by_cases e : x = p
    · have h0 : ps.countP (fun q => q == p) = 0 := List.countP_eq_zero.mpr fun q hq z => by
        rw [beq_iff_eq] at z
        exact h1 (by rw [e, ← z]; exact hq)
      rw [h0, if_pos (by rw [beq_iff_eq]; exact e)]
    · rw [if_neg (by rw [beq_iff_eq]; exact e)]
      rcases List.mem_cons.mp h with z | z
      · exact absurd z.symm e
      · rw [once_of h2 z]
/-- each row once -/
theorem count_once {ps : List P2} (hn : ps.Nodup) (hp : ∀ p ∈ ps, IsPair p ∧ p.1 ≤ 40) {p : P2} (h : p ∈ ps) : (ps.map fun q => rd (rowP q)).countP (fun z => PyData.eqv z (rd (rowP p))) = 1 := by
  rw [List.countP_map]
  have e : ps.countP ((fun z => PyData.eqv z (rd (rowP p))) ∘ fun q => rd (rowP q)) = ps.countP (fun q => q == p) := by
    refine List.countP_congr fun q hq => ?_
    show PyData.eqv (rd (rowP q)) (rd (rowP p)) = true ↔ (q == p) = true
    rw [eqv_rd, decide_eq_true_eq, beq_iff_eq]
    constructor
    · intro z
      obtain ⟨a1, a2⟩ := hp q hq
      obtain ⟨b1, b2⟩ := hp p h
      rw [← (rowP_ok a1 a2).2.1, ← (rowP_ok b1 b2).2.1, z]
    · intro z; rw [z]
  rw [e]
  exact once_of hn h
theorem shaped_rds (ps : List P2) : SeqAt.shaped (.list (ps.map fun q => rd (rowP q))) = true := by
  have h : ∀ ps : List P2, PyData.canLayAll0 (ps.map fun q => rd (rowP q)) = true ∧ PyData.depthAll (ps.map fun q => rd (rowP q)) ≤ 60 := by
    intro ps
    induction ps with
    | nil => exact ⟨rfl, Nat.zero_le _⟩
    | cons x a ih =>
      rw [List.map_cons]
      have h0 := shaped_rd (rowP x)
      have h1 := SeqAt.canLay_of_shaped h0
      have h2 : (rd (rowP x)).depth ≤ 2 := by
        have : ∀ a : Row, PyData.depthAll (a.map sd) ≤ 1 := by
          intro a
          induction a with
          | nil => exact Nat.zero_le _
          | cons y a ih => rw [List.map_cons]; simp only [PyData.depthAll, sd, PyData.depth]; omega
        have := this (rowP x)
        show PyData.depthAll ((rowP x).map sd) + 1 ≤ 2
        omega
      simp only [PyData.canLayAll0, PyData.depthAll, h1, ih.1, Bool.and_self]
      exact ⟨trivial, by have := ih.2; omega⟩
  have h1 := (h ps).1
  have h2 := (h ps).2
  unfold SeqAt.shaped
  simp only [PyData.canLay0, PyData.depth, h1, Bool.true_and, decide_eq_true_eq]
  exact decide_eq_true (by omega)
theorem flat_one {α : Type} (x : α) : ∀ t : Nat, (List.replicate t [x]).flatten = List.replicate t x
  | 0 => rfl
  | t + 1 => by rw [List.replicate_succ, List.flatten_cons, flat_one x t, List.replicate_succ]; rfl
def R__law_cell_at : Rel := fun ds d => ∃ (ns : List Int) (k : Nat), ds = [.list (ns.map .int), .int k] ∧ d = .int (ns.getD k 0)
def R__law_common : Rel := fun ds d => ∃ a b : Nat, ds = [.int a, .int b] ∧ d = .int (Nat.gcd a b)
def R__law_right2 : Rel := fun ds d => ∃ m n : Nat, ds = [.int m, .int n] ∧ IsPair ((m : Int), (n : Int)) ∧ m ≤ 40 ∧ d = .bool true
def R_law2 : Rel := fun ds d => ∃ ns : List Int, ds = [.list (ns.map .int)] ∧ ns.length ≤ 63 ∧ (∀ c ∈ ns, Sm 1048577 c) ∧ d = .bool true
theorem sm40 {p : P2} (h : IsPair p) (h2 : p.1 ≤ 40) : Sm 6 p.1 ∧ Sm 6 p.2 := by
  obtain ⟨a, b⟩ := ok_of h
  exact ⟨show p.1.natAbs < 64 by omega, show p.2.natAbs < 64 by omega⟩
end Sq

namespace Sq
open PySem PySem.Spec PyProof.Rows L2 Evl
/-! ### the law's call, where the base has no seer: what isqrt and great divisions ask -/
/-- the heap in which at most the script is known, and that as it stands -/
structure Begin (K : PySem.W.Frag) (h : Heap) (a : Addr) (vs : List Value) (ns : List Int) (H : Hp) : Prop where
  only : ∀ b u, H b = some u → b = a ∧ u = .frz { cls := .type "list", data := .seq vs.toArray } (.lst (ns.map V.int)) ∧ K.lookup b = none
  there : h.get? a = some { cls := .type "list", data := .seq vs.toArray }
  sq : SqL K H a (ns.map V.int)
section
variable {K : PySem.W.Frag} {h : Heap} {a : Addr} {vs : List Value} {ns : List Int} {H : Hp}
theorem begin_of (KX : K.In h) (ha : h.get? a = some { cls := .type "list", data := .seq vs.toArray }) (hi : IntsAre vs ns) (hl : ns.length ≤ sizeLine) : ∃ H, Begin K h a vs ns H := by
  by_cases hk : K.lookup a = none
  · refine ⟨fun b => if b = a then some (.frz { cls := .type "list", data := .seq vs.toArray } (.lst (ns.map V.int))) else none, ⟨fun b u e => ?_, ha, .inl (.inr ⟨_, if_pos rfl⟩)⟩⟩
    by_cases hb : b = a
    · subst hb
      exact ⟨rfl, (Option.some.inj ((if_pos rfl).symm.trans e)).symm, hk⟩
    · exact nomatch (if_neg hb).symm.trans e
  · refine ⟨fun _ => none, ⟨fun _ _ e => (nomatch e), ha, ?_⟩⟩
    cases e : K.lookup a with
    | none => exact absurd e hk
    | some o =>
      have same : o = _ := Option.some.inj ((KX a o e).symm.trans ha)
      subst same
      exact .inr ⟨_, vs.toArray, _, e, rfl, rfl, rfl, by rw [List.size_toArray, hi.length]; exact hl, vals_ints hi⟩
/-- what is no list is seen in the base -/
theorem Begin.see (B : Begin K h a vs ns H) {b : Addr} {o : Obj} (e : h.get? b = some o) (n : o.cls ≠ .type "list" ∨ ∃ es ep, o.data = .dict es ep) : (hidT h H).get? b = some o := by
  refine hidT_get e ?_
  cases z : H b with
  | none => rfl
  | some u =>
    have hb := (B.only b u z).1
    rw [hb] at e
    have eo := Option.some.inj (B.there.symm.trans e)
    subst eo
    rcases n with n | ⟨es, ep, n⟩
    · exact absurd rfl n
    · exact nomatch n
theorem Begin.space (B : Begin K h a vs ns H) {b : Addr} {m : Str → Option Value} (x : h.Ns b m) : (hidT h H).Ns b m := by
  obtain ⟨o, es, ep, e, d, r⟩ := x
  exact ⟨o, es, ep, B.see e (.inr ⟨es, ep, d⟩), d, r⟩
theorem Begin.seer (B : Begin K h a vs ns H) (S : h.NoSeer) : (hidT h H).NoSeer where
  statics := S.statics.imp fun _ x => ⟨B.space x.1, x.2⟩
  mods := S.mods.imp fun _ x => ⟨B.space x.1, x.2⟩
  imp := S.imp.imp fun _ x => ⟨B.space x.1, x.2⟩
  main := S.main.imp fun _ x => x.imp fun _ y => y.imp fun ob z => ⟨B.space z.1, z.2.1, B.see z.2.2.1 (.inl (by rw [z.2.2.2.1]; intro w; injection w with w; exact absurd w (by decide))), z.2.2.2⟩
theorem Begin.known (B : Begin K h a vs ns H) (X : K.In h) : K.In (hidT h H) := fun b o e => hidT_get (X b o e) (by
  cases z : H b with
  | none => rfl
  | some u => exact nomatch (B.only b u z).2.2.symm.trans e)
theorem Begin.holds (B : Begin K h a vs ns H) {P : Program} {w : World} (hi : IntsAre vs ns) (hl : ns.length ≤ sizeLine) : HOk P w H h := fun b u z => by
  obtain ⟨hb, hu, _⟩ := B.only b u z
  subst hb hu
  exact ⟨B.there, by rw [List.length_map]; exact hl, vs, _, vals_ints hi, B.there⟩
end
/-- a promise of data, kept over every base without a seer: the law's call gives True and leaves all as it was -/
theorem law_true {P : Program} {w : World} {K : PySem.W.Frag} {mg mb : Str → Option Value} {k : Nat} {fa a : Addr} {fd : FuncData} {x : Str} {R : Rel} {s : Shared} {vs : List Value} {ns : List Int}
    (KX : K.In s.heap) (hm : s.heap.Ns mainGlobals mg) (hb : s.heap.Ns builtinsNs mb) (hbb : ∀ x : Str, x ≠ "__name__" → mb x = bootBuiltins x) (hlim : s.heap.NoLimit) (hg : s.gens = #[]) (hS : s.heap.NoSeer)
    (ha : s.heap.get? a = some { cls := .type "list", data := .seq vs.toArray }) (hi : IntsAre vs ns) (hl : ns.length ≤ sizeLine) (hr : Room k callerA)
    (F : ∀ base : Heap, K.In base → base.Ns mainGlobals mg → base.NoSeer → FnOk P w K mg base CX0 k fa fd [x] (spF K R)) (bind : ∀ (s : Shared) (u : Value), BindsTo s fd ⟨[u], []⟩ [(x, u)])
    (hR : R [.list (ns.map .int)] (.bool true)) :
    codeAny (model P w) callerA (.call (.ref fa) ⟨[.ref a], []⟩) (fun r s' => r = .ok (.ret (.bool true)) ∧ OldK s.heap s'.heap ∧ s'.os = s.os ∧ AllBare s'.gens) s := by
  obtain ⟨H, B⟩ := begin_of KX ha hi hl
  have frame : Env0 P w K mg (hidT s.heap H) callerA [] s H := {
    frames := rfl
    mod := ⟨B.known KX, B.space hm, ⟨mb, B.space hb, hbb⟩, hlim.imp fun _ y => ⟨B.space y.1, y.2⟩⟩
    bs := fun _ _ y => of_hidT y
    bsz := Nat.le_of_eq (hidT_size _ _)
    funs := trivial
    frf := fun b y => nomatch y
    hok := B.holds hi hl
    bare := .of_eq hg }
  have run := (F _ (B.known KX) (B.space hm) (B.seer hS)).run callerA [] s H ⟨[.ref a], []⟩ [.ref a] [.ref a] (fun v _ => v = .bl true) (fun _ _ _ => False) hr frame (bind s (.ref a)) (.cons rfl .nil)
    ⟨[.list (ns.map .int)], .bool true, .cons (.lst B.sq (vals_ints' ns)) .nil, hR, fun v _ _ hv => by cases hv; rfl⟩
  refine codeAny_mono run fun r s' out => ?_
  match r, out with
  | .ok (.ret u), out =>
    obtain ⟨v, H', os, bare, un, ok', ru, rfl⟩ := out
    cases (show u = Value.bool true from ru)
    refine ⟨rfl, OldK.of_keep fun b o e => ?_, os, bare⟩
    cases z : H b with
    | none => exact un.keep b o e z (fun y => nomatch y) (fun y => nomatch y)
    | some u =>
      obtain ⟨hba, hu, _⟩ := B.only b u z
      subst hu
      have after := (ok' b _ (un.frzs b _ _ z)).1
      rw [hba] at e ⊢
      rw [hba] at after
      rw [after, ← e, B.there]
theorem sm_bits {z : Int} (h : Builtin.Int.intBits z ≤ 1048576) : Sm 1048577 z := by
  unfold Builtin.Int.intBits at h
  by_cases h0 : z = 0
  · subst h0
    exact Sm.up (show (0 : Int).natAbs < 2 ^ 2 by decide) (by decide)
  · rw [if_neg (by simpa using h0)] at h
    have h1 : z.natAbs ≠ 0 := by omega
    refine Sm.up (a := z.natAbs.log2 + 1) (Nat.lt_log2_self) (by omega)
/-- the goal that k_head leaves, from a promise of data: the law's def gives True -/
theorem walk_S {l : PySem.W.OpenLaw} {k : Nat} {q : Program} {loose : List Str} {XP : (Str → Option Value) → Heap → Prop} {YP : World → Heap → Prop} {d : DefRec} {K : Params → PySem.W.Frag} {R : Rel} {x : Str}
    (hn : l.most = some 63) (hdf : d.params.defaults = []) (hr : Room k callerA) (hq : importsNone q = true)
    (hY : ∀ (w : World) (h : Heap), YP w h → (K w.params).In h)
    (F : ∀ (w : World) (mg : Str → Option Value) (fa : Addr) (h : Heap), (K w.params).In h → h.Ns mainGlobals mg → mg d.name = some (.ref fa) →
      ∃ fd : FuncData, (∀ (s : Shared) (u : Value), BindsTo s fd ⟨[u], []⟩ [(x, u)]) ∧
        ∀ base : Heap, (K w.params).In base → base.Ns mainGlobals mg → base.NoSeer → FnOk l.prog w (K w.params) mg base CX0 k fa fd [x] (spF (K w.params) R))
    (hR : ∀ ns : List Int, ns.length ≤ 63 → (∀ c ∈ ns, Sm 1048577 c) → R [.list (ns.map .int)] (.bool true)) :
    PySem.W.WalkO q loose XP YP l.row.toRowW d [] (fun f vs => PySem.call f vs) := by
  refine Att.attach_callB hn hdf fun w s₀ s₁ mg mb fa o pm cd doc a vs ns G Y ho hd hcd hmg hobj hints hlen hbits hg => ?_
  have KX := hY w _ Y
  obtain ⟨fd, hb, hF⟩ := F w mg fa _ KX G.T.g hmg
  exact law_true KX G.T.g G.T.b G.T.builtins G.T.nolimit hg (G.T.seer hq) hobj hints (Nat.le_trans hlen (by decide)) hr hF hb (hR ns hlen fun c hc => sm_bits (hbits c hc))
theorem cal_of {P : Program} {w : World} {K : PySem.W.Frag} {mg : Str → Option Value} {base : Heap} {CX : CXT} {x : Str} {k : Nat} {ps : List Str} {sp : Sp} {f : Addr} {fd : FuncData} (hm : mg x = some (.ref f)) (hk : PySem.W.keepIn K (.ref f) = true) (hb : Binds K fd ps [])
    (F : FnOk P w K mg base CX k f fd ps sp) : Cal P w K mg base CX x k ps sp := ⟨f, fd, hm, hk, hb, F⟩
end Sq

namespace Sq
open PySem PySem.Spec PyProof.Rows L2 Evl

def topS (i : Nat) : Stmt := PySem.Challenge.pw_squaretree_k02_tried.main.body.getD i (.Pass ⟨0, 0, 0, 0⟩)

abbrev s_is_whole : Stmt := topS 7
abbrev N_is_whole : List Str := ["value"]
abbrev P_is_whole : List Str := ["value"]
theorem sc_is_whole : FnScope N_is_whole P_is_whole (defScope s_is_whole) := ⟨rfl, rfl, rfl, by decide +kernel, rfl, by decide +kernel, by decide +kernel⟩

abbrev s_are_whole : Stmt := topS 8
abbrev N_are_whole : List Str := ["value", "many", "part"]
abbrev P_are_whole : List Str := ["value", "many"]
theorem sc_are_whole : FnScope N_are_whole P_are_whole (defScope s_are_whole) := ⟨rfl, rfl, rfl, by decide +kernel, rfl, by decide +kernel, by decide +kernel⟩

abbrev s_is_pair : Stmt := topS 9
abbrev N_is_pair : List Str := ["value", "m", "n"]
abbrev P_is_pair : List Str := ["value"]
theorem sc_is_pair : FnScope N_is_pair P_is_pair (defScope s_is_pair) := ⟨rfl, rfl, rfl, by decide +kernel, rfl, by decide +kernel, by decide +kernel⟩

abbrev s_formed : Stmt := topS 10
abbrev N_formed : List Str := ["m", "n", "greater", "lesser"]
abbrev P_formed : List Str := ["m", "n"]
theorem sc_formed : FnScope N_formed P_formed (defScope s_formed) := ⟨rfl, rfl, rfl, by decide +kernel, rfl, by decide +kernel, by decide +kernel⟩

abbrev s_pair_of : Stmt := topS 12
abbrev N_pair_of : List Str := ["triple", "odd", "even", "longest", "m", "n"]
abbrev P_pair_of : List Str := ["triple"]
theorem sc_pair_of : FnScope N_pair_of P_pair_of (defScope s_pair_of) := ⟨rfl, rfl, rfl, by decide +kernel, rfl, by decide +kernel, by decide +kernel⟩

abbrev s_triple_of : Stmt := topS 13
abbrev N_triple_of : List Str := ["pair", "m", "n"]
abbrev P_triple_of : List Str := ["pair"]
theorem sc_triple_of : FnScope N_triple_of P_triple_of (defScope s_triple_of) := ⟨rfl, rfl, rfl, by decide +kernel, rfl, by decide +kernel, by decide +kernel⟩

abbrev s_back : Stmt := topS 18
abbrev N_back : List Str := ["triple", "m", "n", "step"]
abbrev P_back : List Str := ["triple"]
theorem sc_back : FnScope N_back P_back (defScope s_back) := ⟨rfl, rfl, rfl, by decide +kernel, rfl, by decide +kernel, by decide +kernel⟩

abbrev s_by_row : Stmt := topS 19
abbrev N_by_row : List Str := ["row", "m", "n", "step", "times"]
abbrev P_by_row : List Str := ["row"]
theorem sc_by_row : FnScope N_by_row P_by_row (defScope s_by_row) := ⟨rfl, rfl, rfl, by decide +kernel, rfl, by decide +kernel, by decide +kernel⟩

abbrev s_row_of : Stmt := topS 20
abbrev N_row_of : List Str := ["triple", "m", "n", "backwards", "step", "times"]
abbrev P_row_of : List Str := ["triple"]
theorem sc_row_of : FnScope N_row_of P_row_of (defScope s_row_of) := ⟨rfl, rfl, rfl, by decide +kernel, rfl, by decide +kernel, by decide +kernel⟩

abbrev s__is_step : Stmt := topS 21
abbrev N__is_step : List Str := ["value"]
abbrev P__is_step : List Str := ["value"]
theorem sc__is_step : FnScope N__is_step P__is_step (defScope s__is_step) := ⟨rfl, rfl, rfl, by decide +kernel, rfl, by decide +kernel, by decide +kernel⟩

abbrev s__is_row : Stmt := topS 22
abbrev N__is_row : List Str := ["value", "part", "at"]
abbrev P__is_row : List Str := ["value"]
theorem sc__is_row : FnScope N__is_row P__is_row (defScope s__is_row) := ⟨rfl, rfl, rfl, by decide +kernel, rfl, by decide +kernel, by decide +kernel⟩

abbrev s__is_part : Stmt := topS 23
abbrev N__is_part : List Str := ["value", "step", "times"]
abbrev P__is_part : List Str := ["value"]
theorem sc__is_part : FnScope N__is_part P__is_part (defScope s__is_part) := ⟨rfl, rfl, rfl, by decide +kernel, rfl, by decide +kernel, by decide +kernel⟩

abbrev s__led : Stmt := topS 24
abbrev N__led : List Str := ["m", "n", "step", "times", "low", "middle", "high", "gap"]
abbrev P__led : List Str := ["m", "n", "step", "times"]
theorem sc__led : FnScope N__led P__led (defScope s__led) := ⟨rfl, rfl, rfl, by decide +kernel, rfl, by decide +kernel, by decide +kernel⟩

abbrev s__led_back : Stmt := topS 25
abbrev N__led_back : List Str := ["m", "n", "step", "times", "low", "middle", "high", "sign", "gap"]
abbrev P__led_back : List Str := ["m", "n", "step", "times"]
theorem sc__led_back : FnScope N__led_back P__led_back (defScope s__led_back) := ⟨rfl, rfl, rfl, by decide +kernel, rfl, by decide +kernel, by decide +kernel⟩

abbrev s__pell : Stmt := topS 26
abbrev N__pell : List Str := ["times", "middle", "high", "at"]
abbrev P__pell : List Str := ["times"]
theorem sc__pell : FnScope N__pell P__pell (defScope s__pell) := ⟨rfl, rfl, rfl, by decide +kernel, rfl, by decide +kernel, by decide +kernel⟩

abbrev s__last_step : Stmt := topS 27
abbrev N__last_step : List Str := ["m", "n"]
abbrev P__last_step : List Str := ["m", "n"]
theorem sc__last_step : FnScope N__last_step P__last_step (defScope s__last_step) := ⟨rfl, rfl, rfl, by decide +kernel, rfl, by decide +kernel, by decide +kernel⟩

abbrev s__last_times : Stmt := topS 28
abbrev N__last_times : List Str := ["m", "n", "step"]
abbrev P__last_times : List Str := ["m", "n", "step"]
theorem sc__last_times : FnScope N__last_times P__last_times (defScope s__last_times) := ⟨rfl, rfl, rfl, by decide +kernel, rfl, by decide +kernel, by decide +kernel⟩

abbrev s__last_times_of_1 : Stmt := topS 29
abbrev N__last_times_of_1 : List Str := ["m", "n", "times", "leap", "before_m", "before_n"]
abbrev P__last_times_of_1 : List Str := ["m", "n"]
theorem sc__last_times_of_1 : FnScope N__last_times_of_1 P__last_times_of_1 (defScope s__last_times_of_1) := ⟨rfl, rfl, rfl, by decide +kernel, rfl, by decide +kernel, by decide +kernel⟩

abbrev s__law_cell_at : Stmt := topS 31
abbrev N__law_cell_at : List Str := ["_law_script", "_law_k"]
abbrev P__law_cell_at : List Str := ["_law_script", "_law_k"]
theorem sc__law_cell_at : FnScope N__law_cell_at P__law_cell_at (defScope s__law_cell_at) := ⟨rfl, rfl, rfl, by decide +kernel, rfl, by decide +kernel, by decide +kernel⟩

abbrev s__law_draw : Stmt := topS 32
abbrev N__law_draw : List Str := ["_law_cell", "_law_k", "_law_many", "_law_primes"]
abbrev P__law_draw : List Str := ["_law_cell", "_law_k", "_law_many"]
theorem sc__law_draw : FnScope N__law_draw P__law_draw (defScope s__law_draw) := ⟨rfl, rfl, rfl, by decide +kernel, rfl, by decide +kernel, by decide +kernel⟩

abbrev s__law_triple : Stmt := topS 33
abbrev N__law_triple : List Str := ["_law_pair", "_law_m", "_law_n"]
abbrev P__law_triple : List Str := ["_law_pair"]
theorem sc__law_triple : FnScope N__law_triple P__law_triple (defScope s__law_triple) := ⟨rfl, rfl, rfl, by decide +kernel, rfl, by decide +kernel, by decide +kernel⟩

abbrev s__law_common : Stmt := topS 34
abbrev N__law_common : List Str := ["_law_one", "_law_other"]
abbrev P__law_common : List Str := ["_law_one", "_law_other"]
theorem sc__law_common : FnScope N__law_common P__law_common (defScope s__law_common) := ⟨rfl, rfl, rfl, by decide +kernel, rfl, by decide +kernel, by decide +kernel⟩

abbrev s__law_right : Stmt := topS 35
abbrev N__law_right : List Str := ["_law_m", "_law_n", "_law_triple_here", "_law_row", "_law_steps", "_law_now", "_law_told", "_law_step", "_law_often", "_law_come"]
abbrev P__law_right : List Str := ["_law_m", "_law_n"]
theorem sc__law_right : FnScope N__law_right P__law_right (defScope s__law_right) := ⟨rfl, rfl, rfl, by decide +kernel, rfl, by decide +kernel, by decide +kernel⟩

abbrev s_law : Stmt := topS 36
abbrev N_law : List Str := ["_law_script", "_law_most", "_law_rows", "_law_m", "_law_row", "_law_n"]
abbrev P_law : List Str := ["_law_script"]
theorem sc_law : FnScope N_law P_law (defScope s_law) := ⟨rfl, rfl, rfl, by decide +kernel, rfl, by decide +kernel, by decide +kernel⟩

structure Txt (K : PySem.W.Frag) (mg : Str → Option Value) (aR : Addr) (tL tM : Tok) : Prop where
  isinstance : mg "isinstance" = none
  int : mg "int" = none
  bool : mg "bool" = none
  tuple : mg "tuple" = none
  list : mg "list" = none
  len : mg "len" = none
  all : mg "all" = none
  range : mg "range" = none
  isqrt : mg "isqrt" = some (.builtin "math.isqrt")
  gcd : mg "gcd" = some (.builtin "math.gcd")
  ROOT : mg "ROOT" = some (.ref aR)
  rootT : ∀ H : Hp, SqT K H aR [.int 2, .int 1]
  LONGEST_ROW : mg "LONGEST_ROW" = some (.int 200 tL)
  MOST_OF_STEP_1 : mg "MOST_OF_STEP_1" = some (.int 1000 tM)
end Sq

namespace Sq
open PySem PySem.Spec PyProof.Rows L2 Evl

theorem ok_is_whole {P : Program} {w : World} {K : PySem.W.Frag} {mg : Str → Option Value} {base : Heap} {aR : Addr} {tL tM : Tok} {f : Addr} {fd : FuncData} (F : Fun K "is_whole" "is_whole" s_is_whole f fd) (T : Txt K mg aR tL tM)  :
    FnOk P w K mg base CX0 1 f fd P_is_whole (spF K R_is_whole) := by
  refine F.ok sc_is_whole (spF_len fun ds d h => by
    first | (obtain ⟨_, rfl, _⟩ := h; rfl) | (obtain ⟨_, _, rfl, _⟩ := h; rfl) | (obtain ⟨_, _, _, rfl, _⟩ := h; rfl) | (obtain ⟨_, _, _, _, rfl, _⟩ := h; rfl) | (rcases h with ⟨rfl, _⟩ | ⟨_, _, rfl, _⟩ <;> rfl)) (fun cdv A outer s H vs Q E hr h => ?_)
  obtain ⟨ds, d, hv, hR, q⟩ := h
  obtain ⟨x, rfl, rfl⟩ := hR
  obtain ⟨v, rfl, hx⟩ := dvs1 hv
  refine ⟨_, (pss_one (ps_ret (pe_and (pe_callB (k_isi (K := K) rfl) (by rfl) T.isinstance (by decide +kernel) (pa_cons (pv 0) (pa_cons (pe_bltn (v := .ty "int") (u := .type "int") (by rfl) T.int (by decide +kernel) rfl) pa_nil))) (pe_one (pe_not (pe_callB (k_isi (K := K) rfl) (by rfl) T.isinstance (by decide +kernel) (pa_cons (pv 0) (pa_cons (pe_bltn (v := .ty "bool") (u := .type "bool") (by rfl) T.bool (by decide +kernel) rfl) pa_nil)))))))), ?_⟩
  refine s_retD (K := K) (d := .bool (whole x)) (ed_bl ?_) q
  rw [whole_eq]
  exact ev_andV (ev_isi (ed_var rfl hx) (kit_int x)) fun _ => ev_notV (ev_isi (ed_var rfl hx) (kit_bool x))

theorem ok_formed {P : Program} {w : World} {K : PySem.W.Frag} {mg : Str → Option Value} {base : Heap} {aR : Addr} {tL tM : Tok} {f : Addr} {fd : FuncData} (F : Fun K "formed" "formed" s_formed f fd) (T : Txt K mg aR tL tM)  :
    FnOk P w K mg base CX0 1 f fd P_formed (spF K R_formed) := by
  refine F.ok sc_formed (spF_len fun ds d h => by
    first | (obtain ⟨_, rfl, _⟩ := h; rfl) | (obtain ⟨_, _, rfl, _⟩ := h; rfl) | (obtain ⟨_, _, _, rfl, _⟩ := h; rfl) | (obtain ⟨_, _, _, _, rfl, _⟩ := h; rfl) | (rcases h with ⟨rfl, _⟩ | ⟨_, _, rfl, _⟩ <;> rfl)) (fun cdv A outer s H vs Q E hr h => ?_)
  obtain ⟨ds, d, hv, hR, q⟩ := h
  obtain ⟨m, n, rfl, hm, hn, rfl⟩ := hR
  cases dvs2i hv
  refine ⟨_, (pss_cons (ps_set (i := 2) sc_formed.nd rfl (.inl rfl) (pe_op op_mulX (pv 0) (pv 0)))
      (pss_cons (ps_set (i := 3) sc_formed.nd rfl (.inl rfl) (pe_op op_mulX (pv 1) (pv 1)))
      (pss_one (ps_ret (pe_tup (pa_cons (pe_op op_sub (pv 2) (pv 3)) (pa_cons (pe_op op_mulX (pe_op op_mulX pe_int (pv 0)) (pv 1)) (pa_cons (pe_op op_add (pv 2) (pv 3)) pa_nil)))))))), ?_⟩
  refine q_asg (ev_op (ev_var rfl) (ev_var rfl) (rv_I (hm.cm hm (by decide)))) fun H1 e1 => ?_
  refine q_asg (ev_op (ev_var rfl) (ev_var rfl) (rv_I (hn.cm hn (by decide)))) fun H2 e2 => ?_
  refine s_retD (K := K) (d := td (m, n)) (ed_tup (eda_cons (ed_int ?_) (eda_cons (ed_int ?_) (eda_cons (ed_int ?_) eda_nil))) (by show 3 ≤ 100000; decide)) fun w H3 e3 hw => q w H3 ((e1.trans e2).trans e3) hw
  · exact ev_op (ev_var rfl) (ev_var rfl) rv_I0
  · exact ev_op (ev_op ev_c (ev_var rfl) (rv_I (sm2.cm hm (by decide)))) (ev_var rfl) (rv_I ((sm2.mul hm).cm hn (by decide)))
  · exact ev_op (ev_var rfl) (ev_var rfl) rv_I0

theorem ok__pell {P : Program} {w : World} {K : PySem.W.Frag} {mg : Str → Option Value} {base : Heap} {aR : Addr} {tL tM : Tok} {f : Addr} {fd : FuncData} (F : Fun K "_pell" "_pell" s__pell f fd) (T : Txt K mg aR tL tM)  :
    FnOk P w K mg base CX0 1 f fd P__pell (spF K R__pell) := by
  refine F.ok sc__pell (spF_len fun ds d h => by
    first | (obtain ⟨_, rfl, _⟩ := h; rfl) | (obtain ⟨_, _, rfl, _⟩ := h; rfl) | (obtain ⟨_, _, _, rfl, _⟩ := h; rfl) | (obtain ⟨_, _, _, _, rfl, _⟩ := h; rfl) | (rcases h with ⟨rfl, _⟩ | ⟨_, _, rfl, _⟩ <;> rfl)) (fun cdv A outer s H vs Q E hr h => ?_)
  obtain ⟨ds, d, hv, hR, q⟩ := h
  obtain ⟨t, rfl, ht, rfl⟩ := hR
  cases dvs1i hv
  refine ⟨_, (pss_cons (ps_asg (pe_tup (pa_cons pe_int (pa_cons pe_int pa_nil))) (pg_tup rfl (pgs_cons (pg_name (i := 1) sc__pell.nd rfl (.inl rfl)) (pgs_cons (pg_name (i := 2) sc__pell.nd rfl (.inl rfl)) pgs_nil))))
      (pss_cons (ps_for PassesOwn.never rfl (pi_range3 (by rfl) T.range (pa_cons (pe_op op_sub (pe_bits (pv 0)) pe_int) (pa_cons (pe_un un_neg pe_int) (pa_cons (pe_un un_neg pe_int) pa_nil)))) (pg_name (i := 3) sc__pell.nd rfl (.inl rfl)) (pss_cons (ps_par (i := 1) (j := 2) rfl sc__pell.nd rfl rfl (by decide) rfl rfl (pa_cons (pe_op op_mulX (pe_op op_mulX pe_int (pv 1)) (pe_op op_sub (pv 2) (pv 1))) (pa_cons (pe_op op_add (pe_op op_mulX (pv 1) (pv 1)) (pe_op op_mulX (pv 2) (pv 2))) pa_nil)) (by rfl))
      (pss_one (ps_if (pt_cmpR op_eq (pe_op op_mod (pe_op op_shr (pv 0) (pv 3)) pe_int) pe_int (nomark _)) (pss_one (ps_par (i := 1) (j := 2) rfl sc__pell.nd rfl rfl (by decide) rfl rfl (pa_cons (pv 2) (pa_cons (pe_op op_add (pe_op op_mulX pe_int (pv 2)) (pv 1)) pa_nil)) (by rfl))) pss_nil))))
      (pss_one (ps_ret (pe_tup (pa_cons (pe_op op_sub (pv 2) (pe_op op_mulX pe_int (pv 1))) (pa_cons (pv 1) (pa_cons (pv 2) pa_nil)))))))), ?_⟩
  have hN := bits_lt t
  have hN12 : Builtin.Int.intBits (t : Int) ≤ 12 := intBits_le (k := 12) (show (t : Int).natAbs < 2 ^ 12 by rw [Int.natAbs_natCast]; exact Nat.lt_of_le_of_lt ht (by decide))
  generalize hN' : Builtin.Int.intBits (t : Int) = N at hN hN12
  have sm : ∀ k, k ≤ t → Sm 6001 (pell k).1 ∧ Sm 6001 (pell k).2 := fun k hk => pell_sm (Nat.le_trans hk ht)
  refine q_un2i (ed_tup (eda_cons (ed_int ev_c) (eda_cons (ed_int ev_c) eda_nil)) (by show 2 ≤ 100000; decide)) fun H1 e1 => ?_
  refine q_forR3 (lo := (N : Int) - 1) (hi := -1) (c := -1) (n := N) (ea_cons (ev_op (ev_is (ev_bits (ev_var rfl)) (by rw [hN'])) ev_c rv_I0) (ea_cons (ev_un ev_c ru_neg) (ea_cons (ev_un ev_c ru_neg) ea_nil))) ?_
    (fun i σ' H' => ∃ x, σ' = [some (.int t), some (.int (pell (t / 2 ^ (N - i))).1), some (.int (pell (t / 2 ^ (N - i))).2), x] ∧ Ex H H') (fun H2 e2 => ⟨none, ?_, e1.trans e2⟩) (fun i σ' H' hi p => ?_) fun σ' H' p => ?_
  · have := RgC.neg (i := (N : Int) - 1) (j := -1) (by omega) (by omega) (by decide) (by decide)
    have e : ((N : Int) - 1 - -1).toNat = N := by omega
    rw [e] at this
    exact this
  · rw [Nat.sub_zero, Nat.div_eq_of_lt hN]; rfl
  · obtain ⟨x, rfl, e2⟩ := p
    have ea : (N : Int) - 1 + (i : Int) * -1 = ((N - (i + 1) : Nat) : Int) := by omega
    rw [ea]
    generalize hk : t / 2 ^ (N - i) = k
    generalize ha : N - (i + 1) = a
    have ek : k = t / 2 ^ a / 2 := by
      rw [← hk, show N - i = a + 1 by omega, Nat.pow_succ, Nat.div_div_eq_div_mul]
    have hkt : 2 * k ≤ t := by
      have h1 : t / 2 ^ a ≤ t := Nat.div_le_self _ _
      omega
    obtain ⟨p1, p2⟩ := sm k (by omega)
    obtain ⟨p3, p4⟩ := sm (2 * k) hkt
    have e2k := pell_dbl k
    have c1 : 2 * (pell k).1 * ((pell k).2 - (pell k).1) = (pell (2 * k)).1 := by rw [e2k]
    have c2 : (pell k).1 * (pell k).1 + (pell k).2 * (pell k).2 = (pell (2 * k)).2 := by rw [e2k]
    refine q_par (v := .int (pell (2 * k)).1) (z := .int (pell (2 * k)).2) (ea_cons (ev_is (ev_op (ev_op ev_c (ev_var rfl) (rv_I (sm2.cm p1 (by decide)))) (ev_op (ev_var rfl) (ev_var rfl) rv_I0) (rv_I ((sm2.mul p1).cm (Sm.sub p2 p1) (by decide)))) (congrArg V.int c1))
      (ea_cons (ev_is (ev_op (ev_op (ev_var rfl) (ev_var rfl) (rv_I (p1.cm p1 (by decide)))) (ev_op (ev_var rfl) (ev_var rfl) (rv_I (p2.cm p2 (by decide)))) rv_I0) (congrArg V.int c2)) ea_nil)) fun H3 e3 => ?_
    have eb : (t : Int) / 2 ^ ((a : Nat) : Int).toNat % 2 = ((t / 2 ^ a % 2 : Nat) : Int) := by
      rw [Int.toNat_natCast]
      have : ((2 : Int) ^ a) = ((2 ^ a : Nat) : Int) := by exact_mod_cast rfl
      rw [this, ← Int.natCast_ediv]
      omega
    refine s_when (b := decide (((t / 2 ^ a % 2 : Nat) : Int) = 1)) (et_test (ev_op (ev_is (ev_op (ev_op (ev_var rfl) (ev_var rfl) (rv_I (Int.natCast_nonneg _))) ev_c (rv_I (by decide))) (congrArg V.int eb)) ev_c rv_eqI)) (fun hb H4 e4 => ?_) fun hb H4 e4 => ?_
    · have hb := of_decide_eq_true hb
      refine s_par (ea_cons (ev_var rfl) (ea_cons (ev_op (ev_op ev_c (ev_var rfl) (rv_I (sm2.cm p4 (by decide)))) (ev_var rfl) rv_I0) ea_nil)) fun H5 e5 => ?_
      have e9 : t / 2 ^ a = 2 * k + 1 := by omega
      refine ⟨some (.int a), ?_, ((e2.trans e3).trans e4).trans e5⟩
      rw [e9]
      rfl
    · have hb := of_decide_eq_false hb
      have e9 : t / 2 ^ a = 2 * k := by omega
      refine ⟨some (.int a), ?_, (e2.trans e3).trans e4⟩
      rw [e9]
      rfl
  · obtain ⟨x, rfl, e2⟩ := p
    rw [Nat.sub_self, Nat.pow_zero, Nat.div_one]
    obtain ⟨p1, p2⟩ := sm t (Nat.le_refl _)
    exact s_retD (K := K) (ed_tup (eda_cons (ed_int (ev_op (ev_var rfl) (ev_op ev_c (ev_var rfl) (rv_I (sm2.cm p1 (by decide)))) rv_I0)) (eda_cons (ed_int (ev_var rfl)) (eda_cons (ed_int (ev_var rfl)) eda_nil))) (by show 3 ≤ 100000; decide)) fun w H3 e3 hw => q w H3 (e2.trans e3) hw

theorem ok__last_step {P : Program} {w : World} {K : PySem.W.Frag} {mg : Str → Option Value} {base : Heap} {aR : Addr} {tL tM : Tok} {f : Addr} {fd : FuncData} (F : Fun K "_last_step" "_last_step" s__last_step f fd) (T : Txt K mg aR tL tM)  :
    FnOk P w K mg base CX0 1 f fd P__last_step (spF K R__last_step) := by
  refine F.ok sc__last_step (spF_len fun ds d h => by
    first | (obtain ⟨_, rfl, _⟩ := h; rfl) | (obtain ⟨_, _, rfl, _⟩ := h; rfl) | (obtain ⟨_, _, _, rfl, _⟩ := h; rfl) | (obtain ⟨_, _, _, _, rfl, _⟩ := h; rfl) | (rcases h with ⟨rfl, _⟩ | ⟨_, _, rfl, _⟩ <;> rfl)) (fun cdv A outer s H vs Q E hr h => ?_)
  obtain ⟨ds, d, hv, hR, q⟩ := h
  obtain ⟨m, n, rfl, hm, hn, rfl⟩ := hR
  cases dvs2i hv
  refine ⟨_, (pss_cons (ps_if (pt_cmpR op_lt (pv 0) (pe_op op_mulX pe_int (pv 1)) (nomark _)) (pss_one (ps_ret pe_int)) pss_nil)
      (pss_cons (ps_if (pt_cmpR op_lt (pv 0) (pe_op op_mulX pe_int (pv 1)) (nomark _)) (pss_one (ps_ret pe_int)) pss_nil)
      (pss_one (ps_ret pe_int)))), ?_⟩
  refine q_when (et_test (ev_op (ev_var rfl) (ev_op ev_c (ev_var rfl) (rv_I (sm2.cm hn (by decide)))) rv_I0)) (fun hb H1 e1 => ?_) fun hb H1 e1 => ?_
  · have hb : m < 2 * n := of_decide_eq_true hb
    refine s_ret ev_c fun H2 e2 => q _ H2 (e1.trans e2) ?_
    show DV K H2 (.int 0) (.int (if m < 2 * n then 0 else if m < 3 * n then 1 else 2))
    rw [if_pos hb]
    exact .int 0
  · have hb : ¬ m < 2 * n := of_decide_eq_false hb
    refine q_when (et_test (ev_op (ev_var rfl) (ev_op ev_c (ev_var rfl) (rv_I (sm3.cm hn (by decide)))) rv_I0)) (fun hb2 H2 e2 => ?_) fun hb2 H2 e2 => ?_
    · have hb2 : m < 3 * n := of_decide_eq_true hb2
      refine s_ret ev_c fun H3 e3 => q _ H3 ((e1.trans e2).trans e3) ?_
      show DV K H3 (.int 1) (.int (if m < 2 * n then 0 else if m < 3 * n then 1 else 2))
      rw [if_neg hb, if_pos hb2]
      exact .int 1
    · have hb2 : ¬ m < 3 * n := of_decide_eq_false hb2
      refine s_ret ev_c fun H3 e3 => q _ H3 ((e1.trans e2).trans e3) ?_
      show DV K H3 (.int 2) (.int (if m < 2 * n then 0 else if m < 3 * n then 1 else 2))
      rw [if_neg hb, if_neg hb2]
      exact .int 2

theorem ok__law_cell_at {P : Program} {w : World} {K : PySem.W.Frag} {mg : Str → Option Value} {base : Heap} {aR : Addr} {tL tM : Tok} {f : Addr} {fd : FuncData} (F : Fun K "_law_cell_at" "_law_cell_at" s__law_cell_at f fd) (T : Txt K mg aR tL tM)  :
    FnOk P w K mg base CX0 1 f fd P__law_cell_at (spF K R__law_cell_at) := by
  refine F.ok sc__law_cell_at (spF_len fun ds d h => by
    first | (obtain ⟨_, rfl, _⟩ := h; rfl) | (obtain ⟨_, _, rfl, _⟩ := h; rfl) | (obtain ⟨_, _, _, rfl, _⟩ := h; rfl) | (obtain ⟨_, _, _, _, rfl, _⟩ := h; rfl) | (rcases h with ⟨rfl, _⟩ | ⟨_, _, rfl, _⟩ <;> rfl)) (fun cdv A outer s H vs Q E hr h => ?_)
  obtain ⟨ds, d, hv, hR, q⟩ := h
  obtain ⟨ns, k, rfl, rfl⟩ := hR
  obtain ⟨v, w, rfl, hx, hw⟩ := dvs2 hv
  cases dvi hw
  refine ⟨_, (pss_cons (ps_if (pt_cmpR op_lt (pv 1) (pe_callB (k_len (K := K) rfl) (by rfl) T.len (by decide +kernel) (pa_cons (pv 0) pa_nil)) (nomark _)) (pss_one (ps_ret (pe_ix (k_ixL (K := K) rfl) (pv 0) (pv 1) (fun _ _ => rfl)))) pss_nil)
      (pss_one (ps_ret pe_int))), ?_⟩
  refine q_when (b := decide ((k : Int) < (ns.length : Int))) (et_test (ev_op (ev_var rfl) (ev_is (ev_lenL (ed_var rfl hx)) (by rw [List.length_map])) rv_I0)) (fun hb H1 e1 => ?_) fun hb H1 e1 => ?_
  · have hb := of_decide_eq_true hb
    have hk : k < ns.length := by omega
    have e : ns.getD k 0 = ns[k] := by rw [List.getD, List.getElem?_eq_getElem hk]; rfl
    rw [e] at q
    exact s_retD (K := K) (ed_ixL (j := k) (ed_var rfl (hx.ex e1)) (ev_var rfl) rfl (by rw [List.getElem?_map, List.getElem?_eq_getElem hk]; rfl)) fun w H2 e2 hw => q w H2 (e1.trans e2) hw
  · have hb := of_decide_eq_false hb
    have e : ns.getD k 0 = 0 := by rw [List.getD, List.getElem?_eq_none (by omega)]; rfl
    rw [e] at q
    exact s_retD (K := K) (ed_int ev_c) fun w H2 e2 hw => q w H2 (e1.trans e2) hw

theorem ok__law_draw {P : Program} {w : World} {K : PySem.W.Frag} {mg : Str → Option Value} {base : Heap} {aR : Addr} {tL tM : Tok} {f : Addr} {fd : FuncData} (F : Fun K "_law_draw" "_law_draw" s__law_draw f fd) (T : Txt K mg aR tL tM)  :
    FnOk P w K mg base CX0 1 f fd P__law_draw (spF K R__law_draw) := by
  refine F.ok sc__law_draw (spF_len fun ds d h => by
    first | (obtain ⟨_, rfl, _⟩ := h; rfl) | (obtain ⟨_, _, rfl, _⟩ := h; rfl) | (obtain ⟨_, _, _, rfl, _⟩ := h; rfl) | (obtain ⟨_, _, _, _, rfl, _⟩ := h; rfl) | (rcases h with ⟨rfl, _⟩ | ⟨_, _, rfl, _⟩ <;> rfl)) (fun cdv A outer s H vs Q E hr h => ?_)
  obtain ⟨ds, d, hv, hR, q⟩ := h
  obtain ⟨c, k, m, rfl, hc, hk, hm, rfl⟩ := hR
  cases dvs3i hv
  refine ⟨_, (pss_cons (ps_set (i := 3) sc__law_draw.nd rfl (.inl rfl) (pe_tup (pa_cons pe_int (pa_cons pe_int (pa_cons pe_int (pa_cons pe_int (pa_cons pe_int (pa_cons pe_int (pa_cons pe_int (pa_cons pe_int (pa_cons pe_int (pa_cons pe_int (pa_cons pe_int (pa_cons pe_int (pa_cons pe_int (pa_cons pe_int (pa_cons pe_int (pa_cons pe_int pa_nil))))))))))))))))))
      (pss_one (ps_ret (pe_op op_mod (pe_op op_mod (pe_op op_add (pe_op op_mulX (pv 0) pe_int) (pe_op op_mulX (pv 1) pe_int)) (pe_ix (k_ixT (K := K) rfl) (pv 3) (pe_op op_mod (pv 1) pe_int) (fun _ _ => rfl))) (pv 2))))), ?_⟩
  obtain ⟨g1, g2⟩ := primeAt_get k
  refine q_asgD (K := K) (d := .tuple (lawPrimes.map .int)) (ed_tup (by repeat' first | exact eda_nil | refine eda_cons (ed_int ev_c) ?_) (by show 16 ≤ 100000; decide)) fun pv H1 e1 hp => ?_
  refine s_retD (K := K) (d := .int (lawDraw c k m)) (ed_int ?_) fun w H2 e2 hw => q w H2 (e1.trans e2) hw
  refine ev_op (ev_op (ev_op (ev_op (ev_var rfl) ev_c (rv_I (hc.cm (b := 20) (show (48271 : Int).natAbs < 2 ^ 20 by decide) (by decide)))) (ev_op (ev_var rfl) ev_c (rv_I (hk.cm (b := 20) (show (69621 : Int).natAbs < 2 ^ 20 by decide) (by decide)))) rv_I0)
    (ev_intD (ed_ixT (j := (k % 16).toNat) (i := k % 16) (d := .int (primeAt k)) (ed_var rfl hp) (ev_op (ev_var rfl) ev_c (rv_I (by decide))) (by omega) (by rw [List.getElem?_map, g1]; rfl))) (rv_I g2)) (ev_var rfl) (rv_I hm)

theorem ok__law_triple {P : Program} {w : World} {K : PySem.W.Frag} {mg : Str → Option Value} {base : Heap} {aR : Addr} {tL tM : Tok} {f : Addr} {fd : FuncData} (F : Fun K "_law_triple" "_law_triple" s__law_triple f fd) (T : Txt K mg aR tL tM)  :
    FnOk P w K mg base CX0 1 f fd P__law_triple (spF K R__law_triple) := by
  refine F.ok sc__law_triple (spF_len fun ds d h => by
    first | (obtain ⟨_, rfl, _⟩ := h; rfl) | (obtain ⟨_, _, rfl, _⟩ := h; rfl) | (obtain ⟨_, _, _, rfl, _⟩ := h; rfl) | (obtain ⟨_, _, _, _, rfl, _⟩ := h; rfl) | (rcases h with ⟨rfl, _⟩ | ⟨_, _, rfl, _⟩ <;> rfl)) (fun cdv A outer s H vs Q E hr h => ?_)
  obtain ⟨ds, d, hv, hR, q⟩ := h
  obtain ⟨p, rfl, hm, hn, rfl⟩ := hR
  obtain ⟨v, rfl, hx⟩ := dvs1 hv
  refine ⟨_, (pss_cons (ps_asg (pv 0) (pg_tup rfl (pgs_cons (pg_name (i := 1) sc__law_triple.nd rfl (.inl rfl)) (pgs_cons (pg_name (i := 2) sc__law_triple.nd rfl (.inl rfl)) pgs_nil))))
      (pss_one (ps_ret (pe_tup (pa_cons (pe_op op_sub (pe_op op_mulX (pv 1) (pv 1)) (pe_op op_mulX (pv 2) (pv 2))) (pa_cons (pe_op op_mulX (pe_op op_mulX pe_int (pv 1)) (pv 2)) (pa_cons (pe_op op_add (pe_op op_mulX (pv 1) (pv 1)) (pe_op op_mulX (pv 2) (pv 2))) pa_nil))))))), ?_⟩
  refine q_un2i (ed_var rfl hx) fun H1 e1 => ?_
  refine s_retD (K := K) (d := td p) (ed_tup (eda_cons (ed_int ?_) (eda_cons (ed_int ?_) (eda_cons (ed_int ?_) eda_nil))) (by show 3 ≤ 100000; decide)) fun w H3 e3 hw => q w H3 (e1.trans e3) hw
  · exact ev_op (ev_op (ev_var rfl) (ev_var rfl) (rv_I (hm.cm hm (by decide)))) (ev_op (ev_var rfl) (ev_var rfl) (rv_I (hn.cm hn (by decide)))) rv_I0
  · exact ev_op (ev_op ev_c (ev_var rfl) (rv_I (sm2.cm hm (by decide)))) (ev_var rfl) (rv_I ((sm2.mul hm).cm hn (by decide)))
  · exact ev_op (ev_op (ev_var rfl) (ev_var rfl) (rv_I (hm.cm hm (by decide)))) (ev_op (ev_var rfl) (ev_var rfl) (rv_I (hn.cm hn (by decide)))) rv_I0

theorem ok__law_common {P : Program} {w : World} {K : PySem.W.Frag} {mg : Str → Option Value} {base : Heap} {aR : Addr} {tL tM : Tok} {f : Addr} {fd : FuncData} (F : Fun K "_law_common" "_law_common" s__law_common f fd) (T : Txt K mg aR tL tM)  :
    FnOk P w K mg base CX0 1 f fd P__law_common (spF K R__law_common) := by
  refine F.ok sc__law_common (spF_len fun ds d h => by
    first | (obtain ⟨_, rfl, _⟩ := h; rfl) | (obtain ⟨_, _, rfl, _⟩ := h; rfl) | (obtain ⟨_, _, _, rfl, _⟩ := h; rfl) | (obtain ⟨_, _, _, _, rfl, _⟩ := h; rfl) | (rcases h with ⟨rfl, _⟩ | ⟨_, _, rfl, _⟩ <;> rfl)) (fun cdv A outer s H vs Q E hr h => ?_)
  obtain ⟨ds, d, hv, hR, q⟩ := h
  obtain ⟨a, b, rfl, rfl⟩ := hR
  cases dvs2i hv
  refine ⟨_, (pss_cons (ps_while PassesOwn.never (pt_cmpR op_gt (pv 1) pe_int (nomark _)) (pss_one (ps_par (i := 0) (j := 1) rfl sc__law_common.nd rfl rfl (by decide) rfl rfl (pa_cons (pv 1) (pa_cons (pe_op op_mod (pv 0) (pv 1)) pa_nil)) (by rfl))))
      (pss_one (ps_ret (pv 0)))), ?_⟩
  refine q_while (fun μ σ' H' => ∃ x y : Nat, σ' = [some (.int x), some (.int y)] ∧ Nat.gcd x y = Nat.gcd a b ∧ Ex H H' ∧ μ = y) b ⟨a, b, rfl, rfl, Ex.refl _, rfl⟩ ?_
  rintro μ σ' H' ⟨x, y, rfl, hg, eH, rfl⟩
  refine ⟨decide ((0 : Int) < (μ : Int)), et_test (ev_op (ev_var rfl) ev_c rv_I0), fun hb H1 e1 => ?_, fun hb H1 e1 => ?_⟩
  · have hb := of_decide_eq_true hb
    have hy : 0 < μ := by omega
    refine ⟨fun σ2 H2 => ∃ x' y' : Nat, σ2 = [some (.int x'), some (.int y')] ∧ Nat.gcd x' y' = Nat.gcd a b ∧ Ex H H2 ∧ y' < μ, fun σ2 H2 ⟨x', y', h1, h2, h3, h4⟩ => ⟨y', h4, x', y', h1, h2, h3, rfl⟩, ?_⟩
    refine s_par (ea_cons (ev_var rfl) (ea_cons (ev_op (ev_var rfl) (ev_var rfl) (rv_I (by omega))) ea_nil)) fun H2 e2 => ⟨μ, x % μ, ?_, ?_, (eH.trans e1).trans e2, Nat.mod_lt _ hy⟩
    · rw [Int.natCast_emod]; rfl
    · rw [← hg, Nat.gcd_comm x μ, Nat.gcd_rec μ x, Nat.gcd_comm]
  · have hb := of_decide_eq_false hb
    have hy : μ = 0 := by omega
    subst hy
    rw [Nat.gcd_zero_right] at hg
    rw [← hg] at q
    exact s_retD (K := K) (ed_int (ev_var rfl)) fun w H2 e2 hw => q w H2 ((eH.trans e1).trans e2) hw

theorem ok_are_whole {P : Program} {w : World} {K : PySem.W.Frag} {mg : Str → Option Value} {base : Heap} {aR : Addr} {tL tM : Tok} {f : Addr} {fd : FuncData} (F : Fun K "are_whole" "are_whole" s_are_whole f fd) (T : Txt K mg aR tL tM) (C_is_whole : Cal P w K mg base CX0 "is_whole" 1 P_is_whole (spF K R_is_whole)) :
    FnOk P w K mg base CX0 2 f fd P_are_whole (spF K R_are_whole) := by
  refine F.ok sc_are_whole (spF_len fun ds d h => by
    first | (obtain ⟨_, rfl, _⟩ := h; rfl) | (obtain ⟨_, _, rfl, _⟩ := h; rfl) | (obtain ⟨_, _, _, rfl, _⟩ := h; rfl) | (obtain ⟨_, _, _, _, rfl, _⟩ := h; rfl) | (rcases h with ⟨rfl, _⟩ | ⟨_, _, rfl, _⟩ <;> rfl)) (fun cdv A outer s H vs Q E hr h => ?_)
  obtain ⟨ds, d, hv, hR, q⟩ := h
  obtain ⟨x, n, rfl, hz, rfl⟩ := hR
  obtain ⟨v, w, rfl, hx, hn⟩ := dvs2 hv
  cases dvi hn
  refine ⟨_, (pss_one (ps_ret (pe_and (pe_callB (k_isi (K := K) rfl) (by rfl) T.isinstance (by decide +kernel) (pa_cons (pv 0) (pa_cons (pe_bltn (v := .ty "tuple") (u := .type "tuple") (by rfl) T.tuple (by decide +kernel) rfl) pa_nil))) (pe_and (pe_cmpR op_eq (pe_callB (k_len (K := K) rfl) (by rfl) T.len (by decide +kernel) (pa_cons (pv 0) pa_nil)) (pv 1) (nomark _)) (pe_one (pe_callB (k_all (K := K) rfl rfl) (by rfl) T.all (by decide +kernel) (pa_cons (pe_lc (own := [("part", 2)]) rfl sc_are_whole.nd (pi_tup (pv 0)) (blkOk_by (own := [("part", 2)]) (N := N_are_whole) (sc := defScope s_are_whole) (by decide +kernel)) (fun _ _ _ _ _ => (pg_name (i := 2) sc_are_whole.nd rfl (.inl rfl))) (fun _ _ _ _ _ => pts_nil) (fun _ _ _ _ _ => (pe_cal C_is_whole (hr.mono (by decide)) (by rfl) pass0 (pa_cons (pv 2) pa_nil)))) pa_nil))))))), ?_⟩
  refine s_retD (K := K) (d := .bool (areWhole x n)) (ed_bl ?_) q
  have e : areWhole x n = (isTuple x && areWhole x n) := by cases x <;> rfl
  rw [e]
  refine ev_andV (ev_isi (ed_var rfl hx) (kit_tuple x)) fun hT => ?_
  obtain ⟨xs, rfl⟩ := isTuple_yes hT
  refine ev_andV (ev_op (ev_lenT (ed_var rfl hx)) (ev_var rfl) rv_eqI) fun _ => ?_
  exact all_lcT whole (ed_var rfl hx) (hz xs rfl) (fun _ => rfl) fun d x H1 e hd hv => ev_blD (ed_call (eda_cons (ed_var rfl hv) eda_nil) ⟨d, rfl, rfl⟩)

theorem ok__is_step {P : Program} {w : World} {K : PySem.W.Frag} {mg : Str → Option Value} {base : Heap} {aR : Addr} {tL tM : Tok} {f : Addr} {fd : FuncData} (F : Fun K "_is_step" "_is_step" s__is_step f fd) (T : Txt K mg aR tL tM) (C_is_whole : Cal P w K mg base CX0 "is_whole" 1 P_is_whole (spF K R_is_whole)) :
    FnOk P w K mg base CX0 2 f fd P__is_step (spF K R__is_step) := by
  refine F.ok sc__is_step (spF_len fun ds d h => by
    first | (obtain ⟨_, rfl, _⟩ := h; rfl) | (obtain ⟨_, _, rfl, _⟩ := h; rfl) | (obtain ⟨_, _, _, rfl, _⟩ := h; rfl) | (obtain ⟨_, _, _, _, rfl, _⟩ := h; rfl) | (rcases h with ⟨rfl, _⟩ | ⟨_, _, rfl, _⟩ <;> rfl)) (fun cdv A outer s H vs Q E hr h => ?_)
  obtain ⟨ds, d, hv, hR, q⟩ := h
  obtain ⟨x, rfl, rfl⟩ := hR
  obtain ⟨v, rfl, hx⟩ := dvs1 hv
  refine ⟨_, (pss_one (ps_ret (pe_and (pe_cal C_is_whole (hr.mono (by decide)) (by rfl) pass0 (pa_cons (pv 0) pa_nil)) (pe_one (pe_chain op_le op_le pe_int (pv 0) pe_int))))), ?_⟩
  refine s_retD (K := K) (d := .bool (isStepD x)) (ed_bl ?_) q
  have e : isStepD x = (whole x && isStepD x) := by cases x <;> rfl
  rw [e]
  refine ev_andV (ev_blD (ed_call (eda_cons (ed_var rfl hx) eda_nil) ⟨x, rfl, rfl⟩)) fun hw => ?_
  cases x <;> try (cases hw; done)
  cases dvi hx
  exact ev_chain ev_c (ev_var rfl) rv_I0 (fun _ => ev_c) fun _ => rv_I0

theorem ok__led {P : Program} {w : World} {K : PySem.W.Frag} {mg : Str → Option Value} {base : Heap} {aR : Addr} {tL tM : Tok} {f : Addr} {fd : FuncData} (F : Fun K "_led" "_led" s__led f fd) (T : Txt K mg aR tL tM) (C__pell : Cal P w K mg base CX0 "_pell" 1 P__pell (spF K R__pell)) :
    FnOk P w K mg base CX0 2 f fd P__led (spF K R__led) := by
  refine F.ok sc__led (spF_len fun ds d h => by
    first | (obtain ⟨_, rfl, _⟩ := h; rfl) | (obtain ⟨_, _, rfl, _⟩ := h; rfl) | (obtain ⟨_, _, _, rfl, _⟩ := h; rfl) | (obtain ⟨_, _, _, _, rfl, _⟩ := h; rfl) | (rcases h with ⟨rfl, _⟩ | ⟨_, _, rfl, _⟩ <;> rfl)) (fun cdv A outer s H vs Q E hr h => ?_)
  obtain ⟨ds, d, hv, hR, q⟩ := h
  obtain ⟨m, n, s', t, rfl, hs, ht, hm, hn, hst, rfl⟩ := hR
  cases dvs4i hv
  refine ⟨_, (pss_cons (ps_if (pt_cmpR op_eq (pv 2) pe_int (nomark _)) (pss_cons (ps_set (i := 7) sc__led.nd rfl (.inl rfl) (pe_op op_mulX (pe_op op_sub (pv 0) (pv 1)) (pv 3)))
      (pss_one (ps_ret (pe_tup (pa_cons (pe_op op_add (pv 0) (pv 7)) (pa_cons (pe_op op_add (pv 1) (pv 7)) pa_nil)))))) pss_nil)
      (pss_cons (ps_if (pt_cmpR op_eq (pv 2) pe_int (nomark _)) (pss_one (ps_ret (pe_tup (pa_cons (pe_op op_add (pv 0) (pe_op op_mulX (pe_op op_mulX pe_int (pv 1)) (pv 3))) (pa_cons (pv 1) pa_nil))))) pss_nil)
      (pss_cons (ps_asg (pe_cal C__pell (hr.mono (by decide)) (by rfl) pass0 (pa_cons (pv 3) pa_nil)) (pg_tup rfl (pgs_cons (pg_name (i := 4) sc__led.nd rfl (.inl rfl)) (pgs_cons (pg_name (i := 5) sc__led.nd rfl (.inl rfl)) (pgs_cons (pg_name (i := 6) sc__led.nd rfl (.inl rfl)) pgs_nil)))))
      (pss_one (ps_ret (pe_tup (pa_cons (pe_op op_add (pe_op op_mulX (pv 6) (pv 0)) (pe_op op_mulX (pv 5) (pv 1))) (pa_cons (pe_op op_add (pe_op op_mulX (pv 5) (pv 0)) (pe_op op_mulX (pv 4) (pv 1))) pa_nil)))))))), ?_⟩
  rcases hs with rfl | rfl | rfl
  · refine q_taken (et_is (et_test (ev_op (ev_var rfl) ev_c rv_eqI)) (decide_eq_true rfl)) fun H1 e1 => ?_
    refine q_asg (ev_op (ev_op (ev_var rfl) (ev_var rfl) rv_I0) (ev_var rfl) (rv_I ((hm.sub hn).cm hst (by decide)))) fun H2 e2 => ?_
    exact s_retD (K := K) (d := pd (led (m, n) 0 t)) (ed_tup (eda_cons (ed_int (ev_op (ev_var rfl) (ev_var rfl) rv_I0)) (eda_cons (ed_int (ev_op (ev_var rfl) (ev_var rfl) rv_I0)) eda_nil)) (by show 2 ≤ 100000; decide)) fun w H3 e3 hw => q w H3 ((e1.trans e2).trans e3) hw
  · have ht := ht rfl
    obtain ⟨p1, p2⟩ := pell_sm ht
    refine q_pass (et_is (et_test (ev_op (ev_var rfl) ev_c rv_eqI)) (decide_eq_false (by decide))) fun H1 e1 => ?_
    refine q_pass (et_is (et_test (ev_op (ev_var rfl) ev_c rv_eqI)) (decide_eq_false (by decide))) fun H2 e2 => ?_
    refine q_un3i (ed_call (eda_cons (ed_int (ev_var rfl)) eda_nil) ⟨t, rfl, ht, rfl⟩) fun H3 e3 => ?_
    have p3 : Sm 6004 ((pell t).2 - 2 * (pell t).1) := Sm.sub (p2.up (by decide)) (sm2.mul p1)
    have e : pd (led (m, n) 1 t) = .tuple [.int ((pell t).2 * m + (pell t).1 * n), .int ((pell t).1 * m + ((pell t).2 - 2 * (pell t).1) * n)] := by
      show pd (iter one t (m, n)) = _
      rw [one_pell]; rfl
    rw [e] at q
    exact s_retD (K := K) (ed_tup (eda_cons (ed_int (ev_op (ev_op (ev_var rfl) (ev_var rfl) (rv_I (p2.cm hm (by decide)))) (ev_op (ev_var rfl) (ev_var rfl) (rv_I (p1.cm hn (by decide)))) rv_I0))
      (eda_cons (ed_int (ev_op (ev_op (ev_var rfl) (ev_var rfl) (rv_I (p1.cm hm (by decide)))) (ev_op (ev_var rfl) (ev_var rfl) (rv_I (p3.cm hn (by decide)))) rv_I0)) eda_nil)) (by show 2 ≤ 100000; decide)) fun w H4 e4 hw => q w H4 (((e1.trans e2).trans e3).trans e4) hw
  · refine q_pass (et_is (et_test (ev_op (ev_var rfl) ev_c rv_eqI)) (decide_eq_false (by decide))) fun H1 e1 => ?_
    refine q_taken (et_is (et_test (ev_op (ev_var rfl) ev_c rv_eqI)) (decide_eq_true rfl)) fun H2 e2 => ?_
    exact s_retD (K := K) (d := pd (led (m, n) 2 t)) (ed_tup (eda_cons (ed_int (ev_op (ev_var rfl) (ev_op (ev_op ev_c (ev_var rfl) (rv_I (sm2.cm hn (by decide)))) (ev_var rfl) (rv_I ((sm2.mul hn).cm hst (by decide)))) rv_I0)) (eda_cons (ed_int (ev_var rfl)) eda_nil)) (by show 2 ≤ 100000; decide)) fun w H3 e3 hw => q w H3 ((e1.trans e2).trans e3) hw

theorem ok__led_back {P : Program} {w : World} {K : PySem.W.Frag} {mg : Str → Option Value} {base : Heap} {aR : Addr} {tL tM : Tok} {f : Addr} {fd : FuncData} (F : Fun K "_led_back" "_led_back" s__led_back f fd) (T : Txt K mg aR tL tM) (C__pell : Cal P w K mg base CX0 "_pell" 1 P__pell (spF K R__pell)) :
    FnOk P w K mg base CX0 2 f fd P__led_back (spF K R__led_back) := by
  refine F.ok sc__led_back (spF_len fun ds d h => by
    first | (obtain ⟨_, rfl, _⟩ := h; rfl) | (obtain ⟨_, _, rfl, _⟩ := h; rfl) | (obtain ⟨_, _, _, rfl, _⟩ := h; rfl) | (obtain ⟨_, _, _, _, rfl, _⟩ := h; rfl) | (rcases h with ⟨rfl, _⟩ | ⟨_, _, rfl, _⟩ <;> rfl)) (fun cdv A outer s H vs Q E hr h => ?_)
  obtain ⟨ds, d, hv, hR, q⟩ := h
  obtain ⟨m, n, s', t, rfl, hs, ht, hm, hn, hst, rfl⟩ := hR
  cases dvs4i hv
  refine ⟨_, (pss_cons (ps_if (pt_cmpR op_eq (pv 2) pe_int (nomark _)) (pss_cons (ps_set (i := 8) sc__led_back.nd rfl (.inl rfl) (pe_op op_mulX (pe_op op_sub (pv 0) (pv 1)) (pv 3)))
      (pss_one (ps_ret (pe_tup (pa_cons (pe_op op_sub (pv 0) (pv 8)) (pa_cons (pe_op op_sub (pv 1) (pv 8)) pa_nil)))))) pss_nil)
      (pss_cons (ps_if (pt_cmpR op_eq (pv 2) pe_int (nomark _)) (pss_one (ps_ret (pe_tup (pa_cons (pe_op op_sub (pv 0) (pe_op op_mulX (pe_op op_mulX pe_int (pv 1)) (pv 3))) (pa_cons (pv 1) pa_nil))))) pss_nil)
      (pss_cons (ps_asg (pe_cal C__pell (hr.mono (by decide)) (by rfl) pass0 (pa_cons (pv 3) pa_nil)) (pg_tup rfl (pgs_cons (pg_name (i := 4) sc__led_back.nd rfl (.inl rfl)) (pgs_cons (pg_name (i := 5) sc__led_back.nd rfl (.inl rfl)) (pgs_cons (pg_name (i := 6) sc__led_back.nd rfl (.inl rfl)) pgs_nil)))))
      (pss_cons (ps_set (i := 7) sc__led_back.nd rfl (.inl rfl) (pe_ifExp (pt_cmpR op_eq (pe_op op_mod (pv 3) pe_int) pe_int (nomark _)) pe_int (pe_un un_neg pe_int)))
      (pss_one (ps_ret (pe_tup (pa_cons (pe_op op_mulX (pv 7) (pe_op op_sub (pe_op op_mulX (pv 4) (pv 0)) (pe_op op_mulX (pv 5) (pv 1)))) (pa_cons (pe_op op_mulX (pv 7) (pe_op op_sub (pe_op op_mulX (pv 6) (pv 1)) (pe_op op_mulX (pv 5) (pv 0)))) pa_nil))))))))), ?_⟩
  rcases hs with rfl | rfl | rfl
  · refine q_taken (et_is (et_test (ev_op (ev_var rfl) ev_c rv_eqI)) (decide_eq_true rfl)) fun H1 e1 => ?_
    refine q_asg (ev_op (ev_op (ev_var rfl) (ev_var rfl) rv_I0) (ev_var rfl) (rv_I ((hm.sub hn).cm hst (by decide)))) fun H2 e2 => ?_
    exact s_retD (K := K) (d := pd (ledBack (m, n) 0 t)) (ed_tup (eda_cons (ed_int (ev_op (ev_var rfl) (ev_var rfl) rv_I0)) (eda_cons (ed_int (ev_op (ev_var rfl) (ev_var rfl) rv_I0)) eda_nil)) (by show 2 ≤ 100000; decide)) fun w H3 e3 hw => q w H3 ((e1.trans e2).trans e3) hw
  · have ht := ht rfl
    obtain ⟨p1, p2⟩ := pell_sm ht
    refine q_pass (et_is (et_test (ev_op (ev_var rfl) ev_c rv_eqI)) (decide_eq_false (by decide))) fun H1 e1 => ?_
    refine q_pass (et_is (et_test (ev_op (ev_var rfl) ev_c rv_eqI)) (decide_eq_false (by decide))) fun H2 e2 => ?_
    refine q_un3i (ed_call (eda_cons (ed_int (ev_var rfl)) eda_nil) ⟨t, rfl, ht, rfl⟩) fun H3 e3 => ?_
    have p3 : Sm 6004 ((pell t).2 - 2 * (pell t).1) := Sm.sub (p2.up (by decide)) (sm2.mul p1)
    have e : pd (ledBack (m, n) 1 t) = .tuple [.int (sgn t * (((pell t).2 - 2 * (pell t).1) * m - (pell t).1 * n)), .int (sgn t * ((pell t).2 * n - (pell t).1 * m))] := by
      show pd (iter un t (m, n)) = _
      rw [un_pell]; rfl
    rw [e] at q
    have g : Sm 2 (sgn t) := by
      unfold sgn
      split
      · exact (show (1 : Int).natAbs < 2 ^ 2 by decide)
      · exact (show (-1 : Int).natAbs < 2 ^ 2 by decide)
    refine q_asg (v := .int (sgn t)) ?_ fun H4 e4 => ?_
    · have eb : decide ((t : Int) % 2 = 0) = decide (t % 2 = 0) := by
        by_cases z : t % 2 = 0
        · rw [decide_eq_true z]; exact decide_eq_true (by omega)
        · rw [decide_eq_false z]; exact decide_eq_false (by omega)
      refine ev_if (et_is (et_test (ev_op (ev_op (ev_var rfl) ev_c (rv_I (by decide))) ev_c rv_eqI)) eb) (fun z => ?_) fun z => ?_
      · have z := of_decide_eq_true z
        have : sgn t = 1 := if_pos z
        rw [this]; exact ev_c
      · have z := of_decide_eq_false z
        have : sgn t = -1 := if_neg z
        rw [this]; exact ev_un ev_c ru_neg
    exact s_retD (K := K) (ed_tup (eda_cons (ed_int (ev_op (ev_var rfl) (ev_op (ev_op (ev_var rfl) (ev_var rfl) (rv_I (p3.cm hm (by decide)))) (ev_op (ev_var rfl) (ev_var rfl) (rv_I (p1.cm hn (by decide)))) rv_I0) (rv_I (g.cm (Sm.sub ((p3.mul hm).up (by decide : _ ≤ 102000)) ((p1.mul hn).up (by decide))) (by decide)))))
      (eda_cons (ed_int (ev_op (ev_var rfl) (ev_op (ev_op (ev_var rfl) (ev_var rfl) (rv_I (p2.cm hn (by decide)))) (ev_op (ev_var rfl) (ev_var rfl) (rv_I (p1.cm hm (by decide)))) rv_I0) (rv_I (g.cm (Sm.sub ((p2.mul hn).up (by decide : _ ≤ 102000)) ((p1.mul hm).up (by decide))) (by decide))))) eda_nil)) (by show 2 ≤ 100000; decide)) fun w H5 e5 hw => q w H5 ((((e1.trans e2).trans e3).trans e4).trans e5) hw
  · refine q_pass (et_is (et_test (ev_op (ev_var rfl) ev_c rv_eqI)) (decide_eq_false (by decide))) fun H1 e1 => ?_
    refine q_taken (et_is (et_test (ev_op (ev_var rfl) ev_c rv_eqI)) (decide_eq_true rfl)) fun H2 e2 => ?_
    exact s_retD (K := K) (d := pd (ledBack (m, n) 2 t)) (ed_tup (eda_cons (ed_int (ev_op (ev_var rfl) (ev_op (ev_op ev_c (ev_var rfl) (rv_I (sm2.cm hn (by decide)))) (ev_var rfl) (rv_I ((sm2.mul hn).cm hst (by decide)))) rv_I0)) (eda_cons (ed_int (ev_var rfl)) eda_nil)) (by show 2 ≤ 100000; decide)) fun w H3 e3 hw => q w H3 ((e1.trans e2).trans e3) hw

theorem ok_is_pair {P : Program} {w : World} {K : PySem.W.Frag} {mg : Str → Option Value} {base : Heap} {aR : Addr} {tL tM : Tok} {f : Addr} {fd : FuncData} (F : Fun K "is_pair" "is_pair" s_is_pair f fd) (T : Txt K mg aR tL tM) (C_are_whole : Cal P w K mg base CX0 "are_whole" 2 P_are_whole (spF K R_are_whole)) :
    FnOk P w K mg base CX0 3 f fd P_is_pair (spF K R_is_pair) := by
  refine F.ok sc_is_pair (spF_len fun ds d h => by
    first | (obtain ⟨_, rfl, _⟩ := h; rfl) | (obtain ⟨_, _, rfl, _⟩ := h; rfl) | (obtain ⟨_, _, _, rfl, _⟩ := h; rfl) | (obtain ⟨_, _, _, _, rfl, _⟩ := h; rfl) | (rcases h with ⟨rfl, _⟩ | ⟨_, _, rfl, _⟩ <;> rfl)) (fun cdv A outer s H vs Q E hr h => ?_)
  obtain ⟨ds, d, hv, hR, q⟩ := h
  obtain ⟨x, rfl, hz, rfl⟩ := hR
  obtain ⟨v, rfl, hx⟩ := dvs1 hv
  refine ⟨_, (pss_cons (ps_if (pt_not (pt_val (pe_cal C_are_whole (hr.mono (by decide)) (by rfl) pass0 (pa_cons (pv 0) (pa_cons pe_int pa_nil))))) (pss_one (ps_ret pe_bl)) pss_nil)
      (pss_cons (ps_asg (pv 0) (pg_tup rfl (pgs_cons (pg_name (i := 1) sc_is_pair.nd rfl (.inl rfl)) (pgs_cons (pg_name (i := 2) sc_is_pair.nd rfl (.inl rfl)) pgs_nil))))
      (pss_one (ps_ret (pe_and (pe_chain op_lt op_lt pe_int (pv 2) (pv 1)) (pe_and (pe_cmpR op_eq (pe_op op_mod (pe_op op_sub (pv 1) (pv 2)) pe_int) pe_int (nomark _)) (pe_one (pe_cmpR op_eq (pe_callBfun cr_gcd (by rfl) T.gcd (pa_cons (pv 1) (pa_cons (pv 2) pa_nil))) pe_int (nomark _))))))))), ?_⟩
  have h1 : EvT (tNot (tB (tCall (spF K R_are_whole) [] E0 (tCons (tVar 0) (tCons (tC (.int 2)) tNil))))) (start N_is_pair [v]) H (!areWhole x 2) :=
    et_not (et_B (ev_blD (ed_call (eda_cons (ed_var rfl hx) (eda_cons (ed_int ev_c) eda_nil)) ⟨x, 2, rfl, hz, rfl⟩)))
  cases hw : areWhole x 2 with
  | false =>
    rw [hw] at h1
    rw [isPairD_no hw] at q
    exact q_taken h1 fun H1 e => s_retD (ed_bl ev_c) fun w H2 e2 hw => q w H2 (e.trans e2) hw
  | true =>
    rw [hw] at h1
    obtain ⟨m, n, rfl⟩ := areWhole2 hw
    refine q_pass h1 fun H1 e => ?_
    refine q_un2i (ed_var rfl (hx.ex e)) fun H2 e2 => ?_
    refine s_retD (K := K) (d := .bool (isPairD (.tuple [.int m, .int n]))) (ed_bl ?_) fun w H3 e3 hw => q w H3 ((e.trans e2).trans e3) hw
    show Ev _ _ _ (.bl (decide (0 < n) && decide (n < m) && (decide ((m - n) % 2 = 1) && decide (Int.gcd m n = 1))))
    refine ev_andV (ev_chain ev_c (ev_var rfl) rv_I0 (fun _ => ev_var rfl) fun _ => rv_I0) fun _ => ?_
    refine ev_andV (ev_op (ev_op (ev_op (ev_var rfl) (ev_var rfl) rv_I0) ev_c (rv_I (by decide))) ev_c rv_eqI) fun _ => ?_
    refine ev_is (ev_op (ev_gcd (ev_var rfl) (ev_var rfl)) ev_c rv_eqI) ?_
    congr 1
    by_cases z : m.gcd n = 1
    · rw [z]; rfl
    · rw [decide_eq_false z]; exact decide_eq_false fun z2 => z (by omega)

theorem ok__is_part {P : Program} {w : World} {K : PySem.W.Frag} {mg : Str → Option Value} {base : Heap} {aR : Addr} {tL tM : Tok} {f : Addr} {fd : FuncData} (F : Fun K "_is_part" "_is_part" s__is_part f fd) (T : Txt K mg aR tL tM) (C_are_whole : Cal P w K mg base CX0 "are_whole" 2 P_are_whole (spF K R_are_whole)) (C__is_step : Cal P w K mg base CX0 "_is_step" 2 P__is_step (spF K R__is_step)) :
    FnOk P w K mg base CX0 3 f fd P__is_part (spF K R__is_part) := by
  refine F.ok sc__is_part (spF_len fun ds d h => by
    first | (obtain ⟨_, rfl, _⟩ := h; rfl) | (obtain ⟨_, _, rfl, _⟩ := h; rfl) | (obtain ⟨_, _, _, rfl, _⟩ := h; rfl) | (obtain ⟨_, _, _, _, rfl, _⟩ := h; rfl) | (rcases h with ⟨rfl, _⟩ | ⟨_, _, rfl, _⟩ <;> rfl)) (fun cdv A outer s H vs Q E hr h => ?_)
  obtain ⟨ds, d, hv, hR, q⟩ := h
  obtain ⟨x, rfl, hz, rfl⟩ := hR
  obtain ⟨v, rfl, hx⟩ := dvs1 hv
  refine ⟨_, (pss_cons (ps_if (pt_not (pt_val (pe_cal C_are_whole (hr.mono (by decide)) (by rfl) pass0 (pa_cons (pv 0) (pa_cons pe_int pa_nil))))) (pss_one (ps_ret pe_bl)) pss_nil)
      (pss_cons (ps_asg (pv 0) (pg_tup rfl (pgs_cons (pg_name (i := 1) sc__is_part.nd rfl (.inl rfl)) (pgs_cons (pg_name (i := 2) sc__is_part.nd rfl (.inl rfl)) pgs_nil))))
      (pss_one (ps_ret (pe_and (pe_cal C__is_step (hr.mono (by decide)) (by rfl) pass0 (pa_cons (pv 1) pa_nil)) (pe_and (pe_cmpR op_gt (pv 2) pe_int (nomark _)) (pe_one (pe_or (pe_cmpR op_ne (pv 1) pe_int (nomark _)) (pe_one (pe_cmpR op_le (pv 2) (pe_glob (v := .int 1000) (by rfl) T.MOST_OF_STEP_1 ⟨_, rfl⟩) (nomark _))))))))))), ?_⟩
  have h1 : EvT (tNot (tB (tCall (spF K R_are_whole) [] E0 (tCons (tVar 0) (tCons (tC (.int 2)) tNil))))) (start N__is_part [v]) H (!areWhole x 2) :=
    et_not (et_B (ev_blD (ed_call (eda_cons (ed_var rfl hx) (eda_cons (ed_int ev_c) eda_nil)) ⟨x, 2, rfl, hz, rfl⟩)))
  cases hw : areWhole x 2 with
  | false =>
    rw [hw] at h1
    rw [isPartD_no hw] at q
    exact q_taken h1 fun H1 e => s_retD (ed_bl ev_c) fun w H2 e2 hw => q w H2 (e.trans e2) hw
  | true =>
    rw [hw] at h1
    obtain ⟨s', t, rfl⟩ := areWhole2 hw
    refine q_pass h1 fun H1 e => ?_
    refine q_un2i (ed_var rfl (hx.ex e)) fun H2 e2 => ?_
    refine s_retD (K := K) (d := .bool (isPartD (.tuple [.int s', .int t]))) (ed_bl ?_) fun w H3 e3 hw => q w H3 ((e.trans e2).trans e3) hw
    show Ev _ _ _ (.bl (isStepD (.int s') && (decide (0 < t) && (!decide (s' = 1) || decide (t ≤ 1000)))))
    refine ev_andV (ev_blD (ed_call (eda_cons (ed_int (ev_var rfl)) eda_nil) ⟨.int s', rfl, rfl⟩)) fun _ => ?_
    refine ev_andV (ev_op (ev_var rfl) ev_c rv_I0) fun _ => ?_
    exact ev_orV (ev_op (ev_var rfl) ev_c rv_neI) fun _ => ev_op (ev_var rfl) ev_c rv_I0

theorem ok__last_times_of_1 {P : Program} {w : World} {K : PySem.W.Frag} {mg : Str → Option Value} {base : Heap} {aR : Addr} {tL tM : Tok} {f : Addr} {fd : FuncData} (F : Fun K "_last_times_of_1" "_last_times_of_1" s__last_times_of_1 f fd) (T : Txt K mg aR tL tM) (C__led_back : Cal P w K mg base CX0 "_led_back" 2 P__led_back (spF K R__led_back)) :
    FnOk P w K mg base CX0 3 f fd P__last_times_of_1 (spF K R__last_times_of_1) := by
  refine F.ok sc__last_times_of_1 (spF_len fun ds d h => by
    first | (obtain ⟨_, rfl, _⟩ := h; rfl) | (obtain ⟨_, _, rfl, _⟩ := h; rfl) | (obtain ⟨_, _, _, rfl, _⟩ := h; rfl) | (obtain ⟨_, _, _, _, rfl, _⟩ := h; rfl) | (rcases h with ⟨rfl, _⟩ | ⟨_, _, rfl, _⟩ <;> rfl)) (fun cdv A outer s H vs Q E hr h => ?_)
  obtain ⟨ds, d, hv, hR, q⟩ := h
  obtain ⟨p, t, rfl, hp, hl, ht, hsm, rfl⟩ := hR
  cases dvs2i hv
  refine ⟨_, (pss_cons (ps_set (i := 2) sc__last_times_of_1.nd rfl (.inl rfl) pe_int)
      (pss_cons (ps_set (i := 3) sc__last_times_of_1.nd rfl (.inl rfl) pe_int)
      (pss_cons (ps_while PassesOwn.never (pt_cmpR op_gt (pv 3) pe_int (nomark _)) (pss_cons (ps_asg (pe_cal C__led_back (hr.mono (by decide)) (by rfl) pass0 (pa_cons (pv 0) (pa_cons (pv 1) (pa_cons pe_int (pa_cons (pv 3) pa_nil))))) (pg_tup rfl (pgs_cons (pg_name (i := 4) sc__last_times_of_1.nd rfl (.inl rfl)) (pgs_cons (pg_name (i := 5) sc__last_times_of_1.nd rfl (.inl rfl)) pgs_nil))))
      (pss_one (ps_if (pt_chain op_lt op_lt pe_int (pv 5) (pv 4)) (pss_cons (ps_par (i := 0) (j := 1) rfl sc__last_times_of_1.nd rfl rfl (by decide) rfl rfl (pa_cons (pv 4) (pa_cons (pv 5) pa_nil)) (by rfl))
      (pss_cons (ps_aug (i := 2) sc__last_times_of_1.nd rfl (.inl rfl) (pv 3) ip_add)
      (pss_one (ps_aug (i := 3) sc__last_times_of_1.nd rfl (.inl rfl) pe_int ip_mulX)))) (pss_one (ps_aug (i := 3) sc__last_times_of_1.nd rfl (.inl rfl) pe_int ip_fdivP))))))
      (pss_one (ps_ret (pv 2)))))), ?_⟩
  refine q_asg ev_c fun H1 e1 => ?_
  refine q_asg ev_c fun H2 e2 => ?_
  refine q_while (fun μ σ' H' => ∃ (R leap : Nat) (x y : Option V), σ' = [some (.int (iter one R p).1), some (.int (iter one R p).2), some (.int ((t - R : Nat) : Int)), some (.int (leap : Int)), x, y] ∧ R ≤ t ∧ (leap = 0 → R = 0) ∧ leap ≤ 2000 ∧ Ex H H' ∧ μ = 2 * R + leap) (2 * t + 1)
    ⟨t, 1, none, none, by rw [Nat.sub_self]; rfl, Nat.le_refl _, fun z => by omega, by decide, e1.trans e2, rfl⟩ ?_
  rintro μ σ' H' ⟨R, leap, x, y, rfl, hR, h0, hleap, eH, rfl⟩
  refine ⟨decide (0 < (leap : Int)), et_test (ev_op (ev_var rfl) ev_c rv_I0), fun hb H3 e3 => ?_, fun hb H3 e3 => ?_⟩
  · have hb := of_decide_eq_true hb
    obtain ⟨g1, g2⟩ := ok_iter (ok_of hp) R
    have g1 : 0 < (iter one R p).2 := g1
    have g2 : (iter one R p).2 < (iter one R p).1 := g2
    have hup := iter_up (ok_of hp) R t hR
    have sm1 : Sm 95000 (iter one R p).1 := hsm.le (by omega) hup
    have sn1 : Sm 95000 (iter one R p).2 := hsm.le (by omega) (by omega)
    refine ⟨fun σ2 H2' => ∃ (R' leap' : Nat) (x y : Option V), σ2 = [some (.int (iter one R' p).1), some (.int (iter one R' p).2), some (.int ((t - R' : Nat) : Int)), some (.int (leap' : Int)), x, y] ∧ R' ≤ t ∧ (leap' = 0 → R' = 0) ∧ leap' ≤ 2000 ∧ Ex H H2' ∧ 2 * R' + leap' < 2 * R + leap, ?_, ?_⟩
    · rintro σ2 H2' ⟨R', leap', x, y, h1, h2, h3, h4, h5, h6⟩
      exact ⟨2 * R' + leap', h6, R', leap', x, y, h1, h2, h3, h4, h5, rfl⟩
    refine q_un2i (a := (iter un leap (iter one R p)).1) (b := (iter un leap (iter one R p)).2) (ed_call (eda_cons (ed_int (ev_var rfl)) (eda_cons (ed_int (ev_var rfl)) (eda_cons (ed_int ev_c) (eda_cons (ed_int (ev_var rfl)) eda_nil))))
      ⟨(iter one R p).1, (iter one R p).2, 1, leap, rfl, .inr (.inl rfl), fun _ => by omega, sm1, sn1, sm_nat (Nat.lt_of_le_of_lt hleap (Nat.lt_of_lt_of_le (by decide : 2000 < 2 ^ 11) (Nat.pow_le_pow_right (by decide) (by decide)))), rfl⟩) fun H4 e4 => ?_
    have key := leap_ok hp hl R leap
    have bk := back_iter (p := p) (t := R) (j := leap)
    generalize hq : iter un leap (iter one R p) = z at key bk
    refine s_if (et_test (ev_chain ev_c (ev_var rfl) rv_I0 (fun _ => ev_var rfl) fun _ => rv_I0)) (fun hb2 H5 e5 => ?_) fun hb2 H5 e5 => ?_
    · have hok : Ok2 z := by
        rw [Bool.and_eq_true] at hb2
        exact ⟨of_decide_eq_true hb2.1, of_decide_eq_true hb2.2⟩
      have hle := key.mp hok
      have ez := bk hle
      refine q_par (ea_cons (ev_var rfl) (ea_cons (ev_var rfl) ea_nil)) fun H6 e6 => ?_
      refine q_aug (f := fun i j => i + j) rfl (ev_var rfl) fun H7 e7 => ?_
      refine s_augI (C := CMulX) (f := fun i j => .int (i * j)) (b := 2) rfl ev_c (Sm.cm (a := 11) (sm_nat (Nat.lt_of_le_of_lt hleap (by decide))) sm2 (by decide)) fun H8 e8 => ?_
      refine ⟨R - leap, leap * 2, some (.int z.1), some (.int z.2), ?_, by omega, by omega, by omega, (((((eH.trans e3).trans e4).trans e5).trans e6).trans e7).trans e8, by omega⟩
      rw [← ez]
      have ea : ((t - R : Nat) : Int) + (leap : Int) = ((t - (R - leap) : Nat) : Int) := by omega
      have eb : (leap : Int) * 2 = ((leap * 2 : Nat) : Int) := by omega
      rw [← ea, ← eb]
      rfl
    · have hno : ¬ leap ≤ R := fun hle => by
        have h9 := key.mpr hle
        have : (decide (0 < z.2) && decide (z.2 < z.1)) = true := by rw [decide_eq_true h9.1, decide_eq_true h9.2]; rfl
        have hb2 : (decide (0 < z.2) && decide (z.2 < z.1)) = false := hb2
        rw [this] at hb2
        cases hb2
      refine s_augI (C := CDivP) (f := fun i j => .int (i / j)) (b := 2) rfl ev_c (divs (by decide) (by decide)) fun H6 e6 => ?_
      refine ⟨R, leap / 2, some (.int z.1), some (.int z.2), ?_, hR, by omega, by omega, (((eH.trans e3).trans e4).trans e5).trans e6, by omega⟩
      have eb : (leap : Int) / 2 = ((leap / 2 : Nat) : Int) := by omega
      rw [← eb]
      rfl
  · have hb := of_decide_eq_false hb
    have hl0 : leap = 0 := by omega
    have hR0 := h0 hl0
    subst hR0
    refine s_retD (K := K) (d := .int t) (ed_int (ev_is (ev_var rfl) ?_)) fun w H4 e4 hw => q w H4 ((eH.trans e3).trans e4) hw
    rw [Nat.sub_zero]

theorem ok_triple_of {P : Program} {w : World} {K : PySem.W.Frag} {mg : Str → Option Value} {base : Heap} {aR : Addr} {tL tM : Tok} {f : Addr} {fd : FuncData} (F : Fun K "triple_of" "triple_of" s_triple_of f fd) (T : Txt K mg aR tL tM) (C_is_pair : Cal P w K mg base CX0 "is_pair" 3 P_is_pair (spF K R_is_pair)) (C_formed : Cal P w K mg base CX0 "formed" 1 P_formed (spF K R_formed)) :
    FnOk P w K mg base CX0 4 f fd P_triple_of (spF K R_triple_of) := by
  refine F.ok sc_triple_of (spF_len fun ds d h => by
    first | (obtain ⟨_, rfl, _⟩ := h; rfl) | (obtain ⟨_, _, rfl, _⟩ := h; rfl) | (obtain ⟨_, _, _, rfl, _⟩ := h; rfl) | (obtain ⟨_, _, _, _, rfl, _⟩ := h; rfl) | (rcases h with ⟨rfl, _⟩ | ⟨_, _, rfl, _⟩ <;> rfl)) (fun cdv A outer s H vs Q E hr h => ?_)
  obtain ⟨ds, d, hv, hR, q⟩ := h
  obtain ⟨p, rfl, hp, hsm, rfl⟩ := hR
  obtain ⟨v, rfl, hx⟩ := dvs1 hv
  refine ⟨_, (pss_cons (ps_if (pt_not (pt_val (pe_cal C_is_pair (hr.mono (by decide)) (by rfl) pass0 (pa_cons (pv 0) pa_nil)))) (pss_one ps_never) pss_nil)
      (pss_cons (ps_asg (pv 0) (pg_tup rfl (pgs_cons (pg_name (i := 1) sc_triple_of.nd rfl (.inl rfl)) (pgs_cons (pg_name (i := 2) sc_triple_of.nd rfl (.inl rfl)) pgs_nil))))
      (pss_one (ps_ret (pe_cal C_formed (hr.mono (by decide)) (by rfl) pass0 (pa_cons (pv 1) (pa_cons (pv 2) pa_nil))))))), ?_⟩
  obtain ⟨m, n⟩ := p
  obtain ⟨g1, g2, g3, g4⟩ := id hp
  have g1 : 0 < n := g1
  have g2 : n < m := g2
  have hsm : Sm 90000 m := hsm
  have hsn : Sm 90000 n := hsm.le (by omega) (by omega)
  refine q_pass (et_is (et_not (et_B (ev_blD (ed_call (eda_cons (ed_var rfl hx) eda_nil) ⟨pd (m, n), rfl, fun xs h => by cases h; exact (by decide : 2 ≤ 40000), rfl⟩)))) ?_) fun H1 e1 => ?_
  · rw [isPairD_pd, decide_eq_true hp]; rfl
  refine q_un2i (ed_var rfl (hx.ex e1)) fun H2 e2 => ?_
  exact s_retD (ed_call (eda_cons (ed_int (ev_var rfl)) (eda_cons (ed_int (ev_var rfl)) eda_nil)) ⟨m, n, rfl, hsm.up (by decide), hsn.up (by decide), rfl⟩) fun w H3 e3 hw => q w H3 ((e1.trans e2).trans e3) hw

theorem ok__is_row {P : Program} {w : World} {K : PySem.W.Frag} {mg : Str → Option Value} {base : Heap} {aR : Addr} {tL tM : Tok} {f : Addr} {fd : FuncData} (F : Fun K "_is_row" "_is_row" s__is_row f fd) (T : Txt K mg aR tL tM) (C__is_part : Cal P w K mg base CX0 "_is_part" 3 P__is_part (spF K R__is_part)) :
    FnOk P w K mg base CX0 4 f fd P__is_row (spF K R__is_row) := by
  refine F.ok sc__is_row (spF_len fun ds d h => by
    first | (obtain ⟨_, rfl, _⟩ := h; rfl) | (obtain ⟨_, _, rfl, _⟩ := h; rfl) | (obtain ⟨_, _, _, rfl, _⟩ := h; rfl) | (obtain ⟨_, _, _, _, rfl, _⟩ := h; rfl) | (rcases h with ⟨rfl, _⟩ | ⟨_, _, rfl, _⟩ <;> rfl)) (fun cdv A outer s H vs Q E hr h => ?_)
  obtain ⟨ds, d, hv, hR, q⟩ := h
  obtain ⟨x, rfl, hz, rfl⟩ := hR
  obtain ⟨v, rfl, hx⟩ := dvs1 hv
  refine ⟨_, (pss_cons (ps_if (PW.pt (pw_or (pt_not (pt_val (pe_callB (k_isi (K := K) rfl) (by rfl) T.isinstance (by decide +kernel) (pa_cons (pv 0) (pa_cons (pe_bltn (v := .ty "list") (u := .type "list") (by rfl) T.list (by decide +kernel) rfl) pa_nil))))) (pw_or1 (pt_cmpR op_gt (pe_callB (k_len (K := K) rfl) (by rfl) T.len (by decide +kernel) (pa_cons (pv 0) pa_nil)) (pe_glob (v := .int 200) (by rfl) T.LONGEST_ROW ⟨_, rfl⟩) (nomark _))))) (pss_one (ps_ret pe_bl)) pss_nil)
      (pss_cons (ps_if (pt_not (pt_val (pe_callB (k_all (K := K) rfl rfl) (by rfl) T.all (by decide +kernel) (pa_cons (pe_lc (own := [("part", 1)]) rfl sc__is_row.nd (pi_list (pv 0)) (blkOk_by (own := [("part", 1)]) (N := N__is_row) (sc := defScope s__is_row) (by decide +kernel)) (fun _ _ _ _ _ => (pg_name (i := 1) sc__is_row.nd rfl (.inl rfl))) (fun _ _ _ _ _ => pts_nil) (fun _ _ _ _ _ => (pe_cal C__is_part (hr.mono (by decide)) (by rfl) pass0 (pa_cons (pv 1) pa_nil)))) pa_nil)))) (pss_one (ps_ret pe_bl)) pss_nil)
      (pss_one (ps_ret (pe_callB (k_all (K := K) rfl rfl) (by rfl) T.all (by decide +kernel) (pa_cons (pe_lc (own := [("at", 2)]) rfl sc__is_row.nd (pi_range2 (by rfl) T.range (pa_cons pe_int (pa_cons (pe_callB (k_len (K := K) rfl) (by rfl) T.len (by decide +kernel) (pa_cons (pv 0) pa_nil)) pa_nil))) (blkOk_by (own := [("at", 2)]) (N := N__is_row) (sc := defScope s__is_row) (by decide +kernel)) (fun _ _ _ _ _ => (pg_name (i := 2) sc__is_row.nd rfl (.inl rfl))) (fun _ _ _ _ _ => pts_nil) (fun _ _ _ _ _ => (pe_cmpR op_ne (pe_ix (k_ixT (K := K) rfl) (pe_ix (k_ixL (K := K) rfl) (pv 0) (pe_op op_sub (pv 2) pe_int) (fun _ _ => rfl)) pe_int (fun _ _ => rfl)) (pe_ix (k_ixT (K := K) rfl) (pe_ix (k_ixL (K := K) rfl) (pv 0) (pv 2) (fun _ _ => rfl)) pe_int (fun _ _ => rfl)) (nomark _)))) pa_nil)))))), ?_⟩
  cases hl : isList x with
  | false =>
    have e : isRowD x = false := by cases x <;> first | rfl | cases hl
    rw [e] at q
    refine q_taken (et_is (et_or (et_not (et_B (ev_isi (ed_var rfl hx) (kit_list x)))) (b := false) fun z => by rw [hl] at z; cases z) (by rw [hl]; rfl)) fun H1 e => ?_
    exact s_retD (ed_bl ev_c) fun w H2 e2 hw => q w H2 (e.trans e2) hw
  | true =>
    obtain ⟨xs, rfl⟩ := isList_yes hl
    obtain ⟨z1, z2⟩ := hz xs rfl
    have h1 := et_or (et_not (et_B (ev_isi (K := K) (ed_var (σ := start N__is_row [v]) (i := 0) rfl hx) (kit_list (.list xs))))) fun _ => et_test (ev_op (ev_lenL (ed_var (σ := start N__is_row [v]) (i := 0) rfl hx)) (ev_c (v := .int 200)) (rv_I0 (g := fun i j => .bl (decide (j < i)))))
    by_cases hlen : (xs.length : Int) ≤ 200
    · refine q_pass (et_is h1 ?_) fun H1 e1 => ?_
      · show (!true || decide ((200 : Int) < xs.length)) = false
        rw [decide_eq_false (by omega)]; rfl
      have h2 : ∀ H', Ex H1 H' → EvT _ (start N__is_row [v]) H' (!xs.all isPartD) := fun H' e' => et_not (et_B (all_lcL (te := tCall (spF K R__is_part) [] E0 (tCons (tVar 1) tNil)) (tl := tVar 0) (j := 1) (vs := [1]) isPartD (ed_var rfl (hx.ex (e1.trans e'))) z1 (fun _ => rfl) fun d x H1 e hd hv => ev_blD (ed_call (eda_cons (ed_var rfl hv) eda_nil) ⟨d, rfl, z2 d hd, rfl⟩)))
      cases hp : xs.all isPartD with
      | false =>
        have e : isRowD (.list xs) = false := by
          show (decide ((xs.length : Int) ≤ 200) && (xs.all isPartD && _)) = false
          rw [hp, Bool.false_and, Bool.and_false]
        rw [e] at q
        have h3 := h2 H1 (Ex.refl _)
        rw [hp] at h3
        exact q_taken h3 fun H2 e2 => s_retD (ed_bl ev_c) fun w H3 e3 hw => q w H3 ((e1.trans e2).trans e3) hw
      | true =>
        have h3 := h2 H1 (Ex.refl _)
        rw [hp] at h3
        refine q_pass h3 fun H2 e2 => ?_
        have e : isRowD (.list xs) = (List.range (xs.length - 1)).all fun i => !decide (firstD (xs.getD i .none) = firstD (xs.getD (i + 1) .none)) := by
          show (decide ((xs.length : Int) ≤ 200) && (xs.all isPartD && _)) = _
          rw [hp, decide_eq_true hlen]; rfl
        rw [e] at q
        refine s_retD (K := K) (ed_bl ?_) fun w H3 e3 hw => q w H3 ((e1.trans e2).trans e3) hw
        have hget : ∀ i, i < xs.length → ∃ s' t, xs[i]? = some (.tuple [.int s', .int t]) ∧ firstD (xs.getD i .none) = s' := fun i hi => by
          have h4 : xs[i]? = some xs[i] := List.getElem?_eq_getElem hi
          obtain ⟨s', t, h5, _⟩ := isPartD_yes (List.all_eq_true.mp hp xs[i] (List.getElem_mem hi))
          refine ⟨s', t, by rw [h4, h5], ?_⟩
          rw [List.getD, h4, h5]; rfl
        refine all_lcR2 (lo := 1) (hi := (xs.length : Int)) (n := xs.length - 1) (fun i => !decide (firstD (xs.getD i .none) = firstD (xs.getD (i + 1) .none))) (ea_cons ev_c (ea_cons (ev_lenL (ed_var rfl (hx.ex (e1.trans e2)))) ea_nil)) (by omega) (by omega) (fun _ => rfl) fun i H3 e3 hi => ?_
        obtain ⟨a, t1, ga, fa⟩ := hget i (by omega)
        obtain ⟨b, t2, gb, fb⟩ := hget (i + 1) (by omega)
        rw [fa, fb]
        have hx3 := hx.ex ((e1.trans e2).trans e3)
        refine ev_op (x := .int a) (y := .int b) (ev_intD (ed_ixT (j := 0) (ed_ixL (j := i) (ed_var rfl hx3) (ev_is (ev_op (ev_var rfl) ev_c rv_I0) rfl) (by omega) ga) ev_c rfl rfl)) (ev_intD (ed_ixT (j := 0) (ed_ixL (j := i + 1) (ed_var rfl hx3) (ev_var rfl) (by omega) gb) ev_c rfl rfl)) rv_neI
    · have e : isRowD (.list xs) = false := by
        show (decide ((xs.length : Int) ≤ 200) && _) = false
        rw [decide_eq_false hlen]; rfl
      rw [e] at q
      refine q_taken (et_is h1 ?_) fun H1 e1 => ?_
      · show (!true || decide ((200 : Int) < xs.length)) = true
        rw [decide_eq_true (by omega)]; rfl
      exact s_retD (ed_bl ev_c) fun w H2 e2 hw => q w H2 (e1.trans e2) hw

theorem ok_by_row {P : Program} {w : World} {K : PySem.W.Frag} {mg : Str → Option Value} {base : Heap} {aR : Addr} {tL tM : Tok} {f : Addr} {fd : FuncData} (F : Fun K "by_row" "by_row" s_by_row f fd) (T : Txt K mg aR tL tM) (C__is_row : Cal P w K mg base CX0 "_is_row" 4 P__is_row (spF K R__is_row)) (C__led : Cal P w K mg base CX0 "_led" 2 P__led (spF K R__led)) (C_formed : Cal P w K mg base CX0 "formed" 1 P_formed (spF K R_formed)) :
    FnOk P w K mg base CX0 5 f fd P_by_row (spF K R_by_row) := by
  refine F.ok sc_by_row (spF_len fun ds d h => by
    first | (obtain ⟨_, rfl, _⟩ := h; rfl) | (obtain ⟨_, _, rfl, _⟩ := h; rfl) | (obtain ⟨_, _, _, rfl, _⟩ := h; rfl) | (obtain ⟨_, _, _, _, rfl, _⟩ := h; rfl) | (rcases h with ⟨rfl, _⟩ | ⟨_, _, rfl, _⟩ <;> rfl)) (fun cdv A outer s H vs Q E hr h => ?_)
  obtain ⟨ds, d, hv, hR, q⟩ := h
  obtain ⟨r, rfl, hr', rfl⟩ := hR
  obtain ⟨v, rfl, hx⟩ := dvs1 hv
  refine ⟨_, (pss_cons (ps_if (pt_not (pt_val (pe_cal C__is_row (hr.mono (by decide)) (by rfl) pass0 (pa_cons (pv 0) pa_nil)))) (pss_one ps_never) pss_nil)
      (pss_cons (ps_asg (pe_glob (v := .ref aR) (by rfl) T.ROOT rfl) (pg_tup rfl (pgs_cons (pg_name (i := 1) sc_by_row.nd rfl (.inl rfl)) (pgs_cons (pg_name (i := 2) sc_by_row.nd rfl (.inl rfl)) pgs_nil))))
      (pss_cons (ps_for PassesOwn.never rfl (pi_list (pv 0)) (pg_tup rfl (pgs_cons (pg_name (i := 3) sc_by_row.nd rfl (.inl rfl)) (pgs_cons (pg_name (i := 4) sc_by_row.nd rfl (.inl rfl)) pgs_nil))) (pss_one (ps_asg (pe_cal C__led (hr.mono (by decide)) (by rfl) pass0 (pa_cons (pv 1) (pa_cons (pv 2) (pa_cons (pv 3) (pa_cons (pv 4) pa_nil))))) (pg_tup rfl (pgs_cons (pg_name (i := 1) sc_by_row.nd rfl (.inl rfl)) (pgs_cons (pg_name (i := 2) sc_by_row.nd rfl (.inl rfl)) pgs_nil))))))
      (pss_one (ps_ret (pe_cal C_formed (hr.mono (by decide)) (by rfl) pass0 (pa_cons (pv 1) (pa_cons (pv 2) pa_nil)))))))), ?_⟩
  obtain ⟨hgood, hlen, hfew, hsm⟩ := hr'
  refine q_pass (et_is (et_not (et_B (ev_blD (ed_call (eda_cons (ed_var rfl hx) eda_nil) ⟨rd r, rfl, szL_rd (Nat.le_trans hlen (by decide)), rfl⟩)))) ?_) fun H1 e1 => ?_
  · rw [isRowD_rd hgood hlen]; rfl
  refine q_un2i (a := 2) (b := 1) (ed_of ev_c (dv_root (T.rootT _))) fun H2 e2 => ?_
  refine q_forP (v := v) (xs := r.map fun x => (x.1, (x.2 : Int))) rfl (by rw [List.map_map]; exact hx.ex (e1.trans e2)) (fun k σ' H' => ∃ x y, σ' = [some v, some (.int (behind root (r.take k)).1), some (.int (behind root (r.take k)).2), x, y] ∧ Ex H2 H') ⟨none, none, rfl, Ex.refl _⟩ (fun k σ' H' p => by obtain ⟨_, _, _, e⟩ := p; exact e) (fun k a b σ' H' hk p => ?_) fun σ' H' p => ?_
  · obtain ⟨x, y, rfl, e3⟩ := p
    rw [List.getElem?_map] at hk
    cases hrk : r[k]? with
    | none => rw [hrk] at hk; cases hk
    | some st =>
      rw [hrk] at hk
      obtain ⟨s', t⟩ := st
      have hk' := Option.some.inj hk
      cases hk'
      obtain ⟨a1, a2, a3⟩ := hgood.at hrk
      have up := behind_take_up r k
      have ok := behind_ok (ok_of root_pair) (r.take k)
      obtain ⟨g1, g2⟩ := ok
      have s1 : Sm 80000 (behind root (r.take k)).1 := hsm.le (by omega) up
      have s2 : Sm 80000 (behind root (r.take k)).2 := s1.le (by omega) (by omega)
      refine s_un2i (a := (led (behind root (r.take k)) s' t).1) (b := (led (behind root (r.take k)) s' t).2) (ed_call (eda_cons (ed_int (ev_var rfl)) (eda_cons (ed_int (ev_var rfl)) (eda_cons (ed_int (ev_var rfl)) (eda_cons (ed_int (ev_var rfl)) eda_nil)))) ⟨_, _, s', t, rfl, a1, fun z => Nat.le_trans (a3 z) (by decide), s1.up (by decide), s2.up (by decide), sm_nat (Nat.lt_of_lt_of_le (hfew _ (List.mem_of_getElem? hrk)) (Nat.pow_le_pow_right (by decide) (by decide))), rfl⟩) fun H4 e4 => ?_
      refine ⟨some (.int s'), some (.int t), ?_, e3.trans e4⟩
      rw [take_snoc hrk, behind_snoc]
      rfl
  · obtain ⟨x, y, rfl, e3⟩ := p
    rw [List.length_map, List.take_length]
    obtain ⟨g1, g2⟩ := behind_ok (ok_of root_pair) r
    have s2 : Sm 80000 (behind root r).2 := hsm.le (by omega) (by omega)
    exact s_retD (ed_call (eda_cons (ed_int (ev_var rfl)) (eda_cons (ed_int (ev_var rfl)) eda_nil)) ⟨_, _, rfl, hsm.up (by decide), s2.up (by decide), rfl⟩) fun w H4 e4 hw => q w H4 (((e1.trans e2).trans e3).trans e4) hw

theorem ok_pair_of {P : Program} {w : World} {K : PySem.W.Frag} {mg : Str → Option Value} {base : Heap} {aR : Addr} {tL tM : Tok} {f : Addr} {fd : FuncData} (F : Fun K "pair_of" "pair_of" s_pair_of f fd) (T : Txt K mg aR tL tM) (hS : base.NoSeer) (ht : P.given.tree = none) (C_are_whole : Cal P w K mg base CX0 "are_whole" 2 P_are_whole (spF K R_are_whole)) (C_formed : Cal P w K mg base CX0 "formed" 1 P_formed (spF K R_formed)) (C_is_pair : Cal P w K mg base CX0 "is_pair" 3 P_is_pair (spF K R_is_pair)) :
    FnOk P w K mg base CX0 33 f fd P_pair_of (spF K R_pair_of) := by
  refine F.ok sc_pair_of (spF_len fun ds d h => by
    first | (obtain ⟨_, rfl, _⟩ := h; rfl) | (obtain ⟨_, _, rfl, _⟩ := h; rfl) | (obtain ⟨_, _, _, rfl, _⟩ := h; rfl) | (obtain ⟨_, _, _, _, rfl, _⟩ := h; rfl) | (rcases h with ⟨rfl, _⟩ | ⟨_, _, rfl, _⟩ <;> rfl)) (fun cdv A outer s H vs Q E hr h => ?_)
  obtain ⟨ds, d, hv, hR, q⟩ := h
  obtain ⟨p, rfl, hp, hsm, rfl⟩ := hR
  obtain ⟨v, rfl, hx⟩ := dvs1 hv
  refine ⟨_, (pss_cons (ps_if (pt_not (pt_val (pe_cal C_are_whole (hr.mono (by decide)) (by rfl) pass0 (pa_cons (pv 0) (pa_cons pe_int pa_nil))))) (pss_one ps_never) pss_nil)
      (pss_cons (ps_asg (pv 0) (pg_tup rfl (pgs_cons (pg_name (i := 1) sc_pair_of.nd rfl (.inl rfl)) (pgs_cons (pg_name (i := 2) sc_pair_of.nd rfl (.inl rfl)) (pgs_cons (pg_name (i := 3) sc_pair_of.nd rfl (.inl rfl)) pgs_nil)))))
      (pss_cons (ps_if (pt_not (pt_chain op_lt op_lt pe_int (pv 1) (pv 3))) (pss_one ps_never) pss_nil)
      (pss_cons (ps_set (i := 4) sc_pair_of.nd rfl (.inl rfl) (pe_callBfun (cr_isqrt hS ht rfl rfl rfl hr (by decide)) (by rfl) T.isqrt (pa_cons (pe_op op_fdivP (pe_op op_add (pv 3) (pv 1)) pe_int) pa_nil)))
      (pss_cons (ps_set (i := 5) sc_pair_of.nd rfl (.inl rfl) (pe_callBfun (cr_isqrt hS ht rfl rfl rfl hr (by decide)) (by rfl) T.isqrt (pa_cons (pe_op op_fdivP (pe_op op_sub (pv 3) (pv 1)) pe_int) pa_nil)))
      (pss_cons (ps_if (PW.pt (pw_or (pt_cmpR (k_neD (K := K) rfl (hu64 hr)) (pe_cal C_formed (hr.mono (by decide)) (by rfl) pass0 (pa_cons (pv 4) (pa_cons (pv 5) pa_nil))) (pe_tup (pa_cons (pv 1) (pa_cons (pv 2) (pa_cons (pv 3) pa_nil)))) (nomark _)) (pw_or1 (pt_not (pt_val (pe_cal C_is_pair (hr.mono (by decide)) (by rfl) pass0 (pa_cons (pe_tup (pa_cons (pv 4) (pa_cons (pv 5) pa_nil))) pa_nil))))))) (pss_one ps_never) pss_nil)
      (pss_one (ps_ret (pe_tup (pa_cons (pv 4) (pa_cons (pv 5) pa_nil))))))))))), ?_⟩
  obtain ⟨m, n⟩ := p
  obtain ⟨g1, g2, g3, g4⟩ := id hp
  have g1 : 0 < n := g1
  have g2 : n < m := g2
  have hsm : Sm 90000 m := hsm
  have hsn : Sm 90000 n := hsm.le (by omega) (by omega)
  have k1 : 0 < m * m - n * n := by
    have : (m - n) * (m + n) = m * m - n * n := by grind
    have : 0 < (m - n) * (m + n) := Int.mul_pos (by omega) (by omega)
    omega
  have k2 : 0 < n * n := Int.mul_pos g1 g1
  have em : (m * m + n * n + (m * m - n * n)) / 2 = m * m := by omega
  have en : (m * m + n * n - (m * m - n * n)) / 2 = n * n := by omega
  refine q_pass (et_is (et_not (et_B (ev_blD (ed_call (eda_cons (ed_var rfl hx) (eda_cons (ed_int ev_c) eda_nil)) ⟨_, 3, rfl, fun xs h => by cases h; exact (by decide : 3 ≤ 40000), rfl⟩)))) rfl) fun H1 e1 => ?_
  refine q_un3i (ed_var rfl (hx.ex e1)) fun H2 e2 => ?_
  refine q_pass (et_is (et_not (et_test (ev_chain ev_c (ev_var rfl) rv_I0 (fun _ => ev_var rfl) fun _ => rv_I0))) ?_) fun H3 e3 => ?_
  · show (!(decide (0 < m * m - n * n) && decide (m * m - n * n < m * m + n * n))) = false
    rw [decide_eq_true k1, decide_eq_true (show m * m - n * n < m * m + n * n by omega)]
    rfl
  refine q_asg (v := .int m) (ev_is (ev_isq (ev_is (ev_op (ev_op (ev_var rfl) (ev_var rfl) rv_I0) ev_c (rv_I (divs (by decide) (by decide)))) (congrArg V.int em)) (Int.mul_nonneg (by omega) (by omega)) ?_) ?_) fun H4 e4 => ?_
  · have := sm_log (hsm.mul hsm) (by decide)
    omega
  · rw [isqrt_int (by omega)]
  refine q_asg (v := .int n) (ev_is (ev_isq (ev_is (ev_op (ev_op (ev_var rfl) (ev_var rfl) rv_I0) ev_c (rv_I (divs (by decide) (by decide)))) (congrArg V.int en)) (Int.mul_nonneg (by omega) (by omega)) ?_) ?_) fun H5 e5 => ?_
  · have := sm_log (hsn.mul hsn) (by decide)
    omega
  · rw [isqrt_int (by omega)]
  have t1 : EvD K (tCall (spF K R_formed) [] E0 (tCons (tVar 4) (tCons (tVar 5) tNil))) (((((start N_pair_of [v]).set 1 (some (.int (m * m - n * n)))).set 2 (some (.int (2 * m * n)))).set 3 (some (.int (m * m + n * n)))).set 4 (some (.int m)) |>.set 5 (some (.int n))) H5 (td (m, n)) :=
    ed_call (eda_cons (ed_int (ev_var rfl)) (eda_cons (ed_int (ev_var rfl)) eda_nil)) ⟨m, n, rfl, hsm.up (by decide), hsn.up (by decide), rfl⟩
  refine q_pass (et_is (et_or (et_test (ev_neD t1 (ed_tup (eda_cons (ed_int (ev_var rfl)) (eda_cons (ed_int (ev_var rfl)) (eda_cons (ed_int (ev_var rfl)) eda_nil))) (by show 3 ≤ 100000; decide)) (shaped_td _) (shaped_td (m, n))))
    fun _ => et_not (et_B (ev_blD (ed_call (eda_cons (ed_tup (eda_cons (ed_int (ev_var rfl)) (eda_cons (ed_int (ev_var rfl)) eda_nil)) (by show 2 ≤ 100000; decide)) eda_nil) ⟨pd (m, n), rfl, fun xs h => by cases h; exact (by decide : 2 ≤ 40000), rfl⟩)))) ?_) fun H6 e6 => ?_
  · show (!PyData.eqv (td (m, n)) (td (m, n)) || !isPairD (pd (m, n))) = false
    rw [eqv_td (p := (m, n)) (q := (m, n)) ⟨g1, g2⟩ ⟨g1, g2⟩, isPairD_pd, decide_eq_true hp, decide_eq_true rfl]
    rfl
  exact s_retD (K := K) (d := pd (m, n)) (ed_tup (eda_cons (ed_int (ev_var rfl)) (eda_cons (ed_int (ev_var rfl)) eda_nil)) (by show 2 ≤ 100000; decide)) fun w H7 e7 hw => q w H7 ((((((e1.trans e2).trans e3).trans e4).trans e5).trans e6).trans e7) hw

theorem ok__last_times {P : Program} {w : World} {K : PySem.W.Frag} {mg : Str → Option Value} {base : Heap} {aR : Addr} {tL tM : Tok} {f : Addr} {fd : FuncData} (F : Fun K "_last_times" "_last_times" s__last_times f fd) (T : Txt K mg aR tL tM) (hS : base.NoSeer) (ht : P.given.tree = none) (C__last_times_of_1 : Cal P w K mg base CX0 "_last_times_of_1" 3 P__last_times_of_1 (spF K R__last_times_of_1)) :
    FnOk P w K mg base CX0 33 f fd P__last_times (spF K R__last_times) := by
  refine F.ok sc__last_times (spF_len fun ds d h => by
    first | (obtain ⟨_, rfl, _⟩ := h; rfl) | (obtain ⟨_, _, rfl, _⟩ := h; rfl) | (obtain ⟨_, _, _, rfl, _⟩ := h; rfl) | (obtain ⟨_, _, _, _, rfl, _⟩ := h; rfl) | (rcases h with ⟨rfl, _⟩ | ⟨_, _, rfl, _⟩ <;> rfl)) (fun cdv A outer s H vs Q E hr h => ?_)
  obtain ⟨ds, d, hv, hR, q⟩ := h
  obtain ⟨p, s', t, rfl, hp, hs, hl, hct, hsm, rfl⟩ := hR
  cases dvs3i hv
  refine ⟨_, (pss_cons (ps_if (pt_cmpR op_eq (pv 2) pe_int (nomark _)) (pss_one (ps_ret (pe_op (op_fdivB hS ht rfl rfl rfl hr (by decide)) (pe_op op_sub (pv 1) pe_int) (pe_op op_sub (pv 0) (pv 1))))) pss_nil)
      (pss_cons (ps_if (pt_cmpR op_eq (pv 2) pe_int (nomark _)) (pss_one (ps_ret (pe_op (op_fdivB hS ht rfl rfl rfl hr (by decide)) (pe_op op_sub (pv 0) (pv 1)) (pe_op op_mulX pe_int (pv 1))))) pss_nil)
      (pss_one (ps_ret (pe_cal C__last_times_of_1 (hr.mono (by decide)) (by rfl) pass0 (pa_cons (pv 0) (pa_cons (pv 1) pa_nil))))))), ?_⟩
  obtain ⟨g1, g2⟩ := led_ok (ok_of hp) s' t
  have g1 : 0 < (led p s' t).2 := g1
  have g2 : (led p s' t).2 < (led p s' t).1 := g2
  have hsn : Sm 95000 (led p s' t).2 := hsm.le (by omega) (by omega)
  rcases hs with rfl | rfl | rfl
  · refine q_taken (et_is (et_test (ev_op (ev_var rfl) ev_c rv_eqI)) (decide_eq_true rfl)) fun H1 e1 => ?_
    refine s_retD (K := K) (d := .int t) (ed_int (ev_is (ev_op (ev_op (ev_var rfl) ev_c rv_I0) (ev_op (ev_var rfl) (ev_var rfl) rv_I0) (rv_I (by omega))) ?_)) fun w H2 e2 hw => q w H2 (e1.trans e2) hw
    rw [times0 hp hl t]
  · refine q_pass (et_is (et_test (ev_op (ev_var rfl) ev_c rv_eqI)) (decide_eq_false (by decide))) fun H1 e1 => ?_
    refine q_pass (et_is (et_test (ev_op (ev_var rfl) ev_c rv_eqI)) (decide_eq_false (by decide))) fun H2 e2 => ?_
    exact s_retD (ed_call (eda_cons (ed_int (ev_var rfl)) (eda_cons (ed_int (ev_var rfl)) eda_nil)) ⟨p, t, rfl, hp, hl, hct rfl, hsm, rfl⟩) fun w H3 e3 hw => q w H3 ((e1.trans e2).trans e3) hw
  · refine q_pass (et_is (et_test (ev_op (ev_var rfl) ev_c rv_eqI)) (decide_eq_false (by decide))) fun H1 e1 => ?_
    refine q_taken (et_is (et_test (ev_op (ev_var rfl) ev_c rv_eqI)) (decide_eq_true rfl)) fun H2 e2 => ?_
    refine s_retD (K := K) (d := .int t) (ed_int (ev_is (ev_op (ev_op (ev_var rfl) (ev_var rfl) rv_I0) (ev_op ev_c (ev_var rfl) (rv_I (sm2.cm hsn (by decide)))) (rv_I (by omega))) ?_)) fun w H3 e3 hw => q w H3 ((e1.trans e2).trans e3) hw
    rw [times2 hp hl t]

theorem ok_back {P : Program} {w : World} {K : PySem.W.Frag} {mg : Str → Option Value} {base : Heap} {aR : Addr} {tL tM : Tok} {f : Addr} {fd : FuncData} (F : Fun K "back" "back" s_back f fd) (T : Txt K mg aR tL tM) (C_pair_of : Cal P w K mg base CX0 "pair_of" 33 P_pair_of (spF K R_pair_of)) (C__last_step : Cal P w K mg base CX0 "_last_step" 1 P__last_step (spF K R__last_step)) (C__led_back : Cal P w K mg base CX0 "_led_back" 2 P__led_back (spF K R__led_back)) (C_formed : Cal P w K mg base CX0 "formed" 1 P_formed (spF K R_formed)) :
    FnOk P w K mg base CX0 34 f fd P_back (spF K R_back) := by
  refine F.ok sc_back (spF_len fun ds d h => by
    first | (obtain ⟨_, rfl, _⟩ := h; rfl) | (obtain ⟨_, _, rfl, _⟩ := h; rfl) | (obtain ⟨_, _, _, rfl, _⟩ := h; rfl) | (obtain ⟨_, _, _, _, rfl, _⟩ := h; rfl) | (rcases h with ⟨rfl, _⟩ | ⟨_, _, rfl, _⟩ <;> rfl)) (fun cdv A outer s H vs Q E hr h => ?_)
  obtain ⟨ds, d, hv, hR, q⟩ := h
  rcases hR with ⟨rfl, rfl⟩ | ⟨p, s', rfl, hp, hs, hsm, rfl⟩
  · obtain ⟨v, rfl, hx⟩ := dvs1 hv
    refine ⟨_, (pss_cons (ps_asg (pe_cal C_pair_of (hr.mono (by decide)) (by rfl) pass0 (pa_cons (pv 0) pa_nil)) (pg_tup rfl (pgs_cons (pg_name (i := 1) sc_back.nd rfl (.inl rfl)) (pgs_cons (pg_name (i := 2) sc_back.nd rfl (.inl rfl)) pgs_nil))))
      (pss_cons (ps_if (pt_cmpR (k_eqD (K := K) rfl (hu64 hr)) (pe_tup (pa_cons (pv 1) (pa_cons (pv 2) pa_nil))) (pe_glob (v := .ref aR) (by rfl) T.ROOT rfl) (nomark _)) (pss_one (ps_ret pe_non)) pss_nil)
      (pss_cons (ps_set (i := 3) sc_back.nd rfl (.inl rfl) (pe_cal C__last_step (hr.mono (by decide)) (by rfl) pass0 (pa_cons (pv 1) (pa_cons (pv 2) pa_nil))))
      (pss_cons (ps_asg (pe_cal C__led_back (hr.mono (by decide)) (by rfl) pass0 (pa_cons (pv 1) (pa_cons (pv 2) (pa_cons (pv 3) (pa_cons pe_int pa_nil))))) (pg_tup rfl (pgs_cons (pg_name (i := 1) sc_back.nd rfl (.inl rfl)) (pgs_cons (pg_name (i := 2) sc_back.nd rfl (.inl rfl)) pgs_nil))))
      (pss_one (ps_ret (pe_tup (pa_cons (pe_cal C_formed (hr.mono (by decide)) (by rfl) pass0 (pa_cons (pv 1) (pa_cons (pv 2) pa_nil))) (pa_cons (pv 3) pa_nil))))))))), ?_⟩
    refine q_un2i (a := 2) (b := 1) (ed_call (eda_cons (ed_var rfl hx) eda_nil) ⟨root, rfl, root_pair, sm2.up (by decide), rfl⟩) fun H1 e1 => ?_
    refine q_taken (et_is (et_test (ev_eqD (d := pd root) (e := pd root) (ed_tup (eda_cons (ed_int (ev_var rfl)) (eda_cons (ed_int (ev_var rfl)) eda_nil)) (by show 2 ≤ 100000; decide)) (ed_of ev_c (dv_root (T.rootT _))) (shaped_pd _) (shaped_pd _))) (eqv_pd _ _)) fun H2 e2 => ?_
    exact s_retD (ed_non ev_c) fun w H3 e3 hw => q w H3 ((e1.trans e2).trans e3) hw
  · obtain ⟨v, rfl, hx⟩ := dvs1 hv
    refine ⟨_, (pss_cons (ps_asg (pe_cal C_pair_of (hr.mono (by decide)) (by rfl) pass0 (pa_cons (pv 0) pa_nil)) (pg_tup rfl (pgs_cons (pg_name (i := 1) sc_back.nd rfl (.inl rfl)) (pgs_cons (pg_name (i := 2) sc_back.nd rfl (.inl rfl)) pgs_nil))))
      (pss_cons (ps_if (pt_cmpR (k_eqD (K := K) rfl (hu64 hr)) (pe_tup (pa_cons (pv 1) (pa_cons (pv 2) pa_nil))) (pe_glob (v := .ref aR) (by rfl) T.ROOT rfl) (nomark _)) (pss_one (ps_ret pe_non)) pss_nil)
      (pss_cons (ps_set (i := 3) sc_back.nd rfl (.inl rfl) (pe_cal C__last_step (hr.mono (by decide)) (by rfl) pass0 (pa_cons (pv 1) (pa_cons (pv 2) pa_nil))))
      (pss_cons (ps_asg (pe_cal C__led_back (hr.mono (by decide)) (by rfl) pass0 (pa_cons (pv 1) (pa_cons (pv 2) (pa_cons (pv 3) (pa_cons pe_int pa_nil))))) (pg_tup rfl (pgs_cons (pg_name (i := 1) sc_back.nd rfl (.inl rfl)) (pgs_cons (pg_name (i := 2) sc_back.nd rfl (.inl rfl)) pgs_nil))))
      (pss_one (ps_ret (pe_tup (pa_cons (pe_cal C_formed (hr.mono (by decide)) (by rfl) pass0 (pa_cons (pv 1) (pa_cons (pv 2) pa_nil))) (pa_cons (pv 3) pa_nil))))))))), ?_⟩
    have hpl := led_pair1 hp s'
    have hup := led_up1 (ok_of hp) s'
    have hback := ledBack_led p s' 1
    have hlast := lastStep_of (ok_of hp) hs 0
    obtain ⟨b1, b2⟩ := ok_of hp
    have hne : led p s' 1 ≠ root := fun z => by
      rw [z] at hup
      have h1 : p.1 < 2 := hup
      omega
    rw [Nat.zero_add] at hlast
    generalize led p s' 1 = z at *
    obtain ⟨g1, g2⟩ := ok_of hpl
    have hsn : Sm 90000 z.2 := hsm.le (by omega) (by omega)
    refine q_un2i (a := z.1) (b := z.2) (ed_call (eda_cons (ed_var rfl hx) eda_nil) ⟨z, rfl, hpl, hsm, rfl⟩) fun H1 e1 => ?_
    refine q_pass (et_is (et_test (ev_eqD (d := pd z) (e := pd root) (ed_tup (eda_cons (ed_int (ev_var rfl)) (eda_cons (ed_int (ev_var rfl)) eda_nil)) (by show 2 ≤ 100000; decide)) (ed_of ev_c (dv_root (T.rootT _))) (shaped_pd _) (shaped_pd _))) (by rw [eqv_pd, decide_eq_false hne])) fun H2 e2 => ?_
    refine q_asg (v := .int s') (ev_is (ev_intD (ed_call (eda_cons (ed_int (ev_var rfl)) (eda_cons (ed_int (ev_var rfl)) eda_nil)) ⟨z.1, z.2, rfl, hsm.up (by decide), hsn.up (by decide), rfl⟩)) (congrArg V.int hlast)) fun H3 e3 => ?_
    refine q_un2i (a := p.1) (b := p.2) (ed_call (eda_cons (ed_int (ev_var rfl)) (eda_cons (ed_int (ev_var rfl)) (eda_cons (ed_int (ev_var rfl)) (eda_cons (ed_int ev_c) eda_nil)))) ⟨z.1, z.2, s', 1, rfl, hs, fun _ => by decide, hsm.up (by decide), hsn.up (by decide), sm1, by rw [show ledBack (z.1, z.2) s' 1 = p from hback]; rfl⟩) fun H4 e4 => ?_
    have smp : Sm 90000 p.1 := hsm.le (by omega) (Int.le_of_lt hup)
    have smq : Sm 90000 p.2 := smp.le (by omega) (by omega)
    exact s_retD (K := K) (d := .tuple [td p, .int s']) (ed_tup (eda_cons (ed_call (eda_cons (ed_int (ev_var rfl)) (eda_cons (ed_int (ev_var rfl)) eda_nil)) ⟨_, _, rfl, smp.up (by decide), smq.up (by decide), rfl⟩) (eda_cons (ed_int (ev_var rfl)) eda_nil)) (by show 2 ≤ 100000; decide)) fun w H5 e5 hw => q w H5 ((((e1.trans e2).trans e3).trans e4).trans e5) hw

theorem ok_row_of {P : Program} {w : World} {K : PySem.W.Frag} {mg : Str → Option Value} {base : Heap} {aR : Addr} {tL tM : Tok} {f : Addr} {fd : FuncData} (F : Fun K "row_of" "row_of" s_row_of f fd) (T : Txt K mg aR tL tM) (C_pair_of : Cal P w K mg base CX0 "pair_of" 33 P_pair_of (spF K R_pair_of)) (C__last_step : Cal P w K mg base CX0 "_last_step" 1 P__last_step (spF K R__last_step)) (C__last_times : Cal P w K mg base CX0 "_last_times" 33 P__last_times (spF K R__last_times)) (C__led_back : Cal P w K mg base CX0 "_led_back" 2 P__led_back (spF K R__led_back)) :
    FnOk P w K mg base CX0 34 f fd P_row_of (spL K R_row_of) := by
  refine F.ok sc_row_of (spL_len fun ds es h => by
    first | (obtain ⟨_, rfl, _⟩ := h; rfl) | (obtain ⟨_, _, rfl, _⟩ := h; rfl) | (obtain ⟨_, _, _, rfl, _⟩ := h; rfl) | (obtain ⟨_, _, _, _, rfl, _⟩ := h; rfl) | (rcases h with ⟨rfl, _⟩ | ⟨_, _, rfl, _⟩ <;> rfl)) (fun cdv A outer s H vs Q E hr h => ?_)
  obtain ⟨ds, es, hv, hR, q⟩ := h
  obtain ⟨r, rfl, hr', rfl⟩ := hR
  obtain ⟨v, rfl, hx⟩ := dvs1 hv
  refine ⟨_, (pss_cons (ps_asg (pe_cal C_pair_of (hr.mono (by decide)) (by rfl) pass0 (pa_cons (pv 0) pa_nil)) (pg_tup rfl (pgs_cons (pg_name (i := 1) sc_row_of.nd rfl (.inl rfl)) (pgs_cons (pg_name (i := 2) sc_row_of.nd rfl (.inl rfl)) pgs_nil))))
      (pss_cons (ps_set (i := 3) sc_row_of.nd rfl (.inl rfl) (pe_lst pa_nil))
      (pss_cons (ps_while PassesOwn.never (pt_cmpR (k_neD (K := K) rfl (hu64 hr)) (pe_tup (pa_cons (pv 1) (pa_cons (pv 2) pa_nil))) (pe_glob (v := .ref aR) (by rfl) T.ROOT rfl) (nomark _)) (pss_cons (ps_set (i := 4) sc_row_of.nd rfl (.inl rfl) (pe_cal C__last_step (hr.mono (by decide)) (by rfl) pass0 (pa_cons (pv 1) (pa_cons (pv 2) pa_nil))))
      (pss_cons (ps_set (i := 5) sc_row_of.nd rfl (.inl rfl) (pe_cal C__last_times (hr.mono (by decide)) (by rfl) pass0 (pa_cons (pv 1) (pa_cons (pv 2) (pa_cons (pv 4) pa_nil)))))
      (pss_cons (ps_asg (pe_cal C__led_back (hr.mono (by decide)) (by rfl) pass0 (pa_cons (pv 1) (pa_cons (pv 2) (pa_cons (pv 4) (pa_cons (pv 5) pa_nil))))) (pg_tup rfl (pgs_cons (pg_name (i := 1) sc_row_of.nd rfl (.inl rfl)) (pgs_cons (pg_name (i := 2) sc_row_of.nd rfl (.inl rfl)) pgs_nil))))
      (pss_one (ps_expr (pe_bm PySem.F.plainAttrs_list PySem.F.slot_list_append PySem.F.type_list_append mt_append (pv 3) (pa_cons (pe_tup (pa_cons (pv 4) (pa_cons (pv 5) pa_nil))) pa_nil))))))))
      (pss_one (ps_ret (pe_revL (pv 3))))))), ?_⟩
  obtain ⟨hgood, hlen, hfew, hsm⟩ := hr'
  refine q_un2i (a := (behind root r).1) (b := (behind root r).2) (ed_call (eda_cons (ed_var rfl hx) eda_nil) ⟨behind root r, rfl, good_pair root_pair r, hsm.up (by decide), rfl⟩) fun H1 e1 => ?_
  refine q_asgL (el_lst ea_nil (by show 0 ≤ 100000; decide)) fun l H2 nl e2 hl => ?_
  have nl0 : H l = none := fresh_back e1 nl
  refine q_while (fun μ σ' H' => ∃ (vs : List V) (x y : Option V), μ ≤ r.length ∧ σ' = [some v, some (.int (behind root (r.take μ)).1), some (.int (behind root (r.take μ)).2), some (.ref l), x, y] ∧ Ex H H' ∧ H' l = some (.lst vs) ∧ DVs K H' vs ((r.drop μ).reverse.map sd)) r.length
    ⟨[], none, none, Nat.le_refl _, by rw [List.take_length]; rfl, e1.trans e2, hl, by rw [List.drop_length]; exact .nil⟩ ?_
  rintro j σ' H' ⟨vs, x, y, hj, rfl, eH, hl', hvs⟩
  obtain ⟨g1, g2⟩ := behind_ok (ok_of root_pair) (r.take j)
  have up := behind_take_up r j
  have s1 : Sm 80000 (behind root (r.take j)).1 := hsm.le (by omega) up
  have s2 : Sm 80000 (behind root (r.take j)).2 := s1.le (by omega) (by omega)
  refine ⟨!decide (behind root (r.take j) = root), et_test (ev_is (ev_neD (d := pd (behind root (r.take j))) (e := pd root) (ed_tup (eda_cons (ed_int (ev_var rfl)) (eda_cons (ed_int (ev_var rfl)) eda_nil)) (by show 2 ≤ 100000; decide)) (ed_of ev_c (dv_root (T.rootT _))) (shaped_pd _) (shaped_pd _)) (by rw [eqv_pd])), fun hb H3 e3 => ?_, fun hb H3 e3 => ?_⟩
  · have hne : behind root (r.take j) ≠ root := fun z => by rw [decide_eq_true z] at hb; cases hb
    obtain ⟨i, rfl⟩ : ∃ i, j = i + 1 := by
      cases j with
      | zero => exact absurd rfl hne
      | succ i => exact ⟨i, rfl⟩
    have hi : i < r.length := by omega
    have hri : r[i]? = some r[i] := List.getElem?_eq_getElem hi
    generalize r[i] = st at hri
    obtain ⟨s', t⟩ := st
    obtain ⟨a1, a2, a3⟩ := hgood.at hri
    have hlastN := row_last hgood hri
    have hpq : IsPair (behind root (r.take i)) := good_pair root_pair _
    have eb : behind root (r.take (i + 1)) = led (behind root (r.take i)) s' t := by rw [take_snoc hri, behind_snoc]
    have hls : lastStep (led (behind root (r.take i)) s' t) = s' := by
      obtain ⟨t1, rfl⟩ : ∃ t1, t = t1 + 1 := ⟨t - 1, by omega⟩
      exact lastStep_of (ok_of hpq) a1 t1
    have hbk := ledBack_led (behind root (r.take i)) s' t
    have hft : Sm 5000 (t : Int) := sm_nat (Nat.lt_of_lt_of_le (hfew _ (List.mem_of_getElem? hri)) (Nat.pow_le_pow_right (by decide) (by decide)))
    rw [eb] at s1 s2 ⊢
    refine ⟨_, fun σ2 H2' h => ⟨i, Nat.lt_succ_self i, h⟩, ?_⟩
    refine q_asg (v := .int s') (ev_is (ev_intD (ed_call (eda_cons (ed_int (ev_var rfl)) (eda_cons (ed_int (ev_var rfl)) eda_nil)) ⟨_, _, rfl, s1.up (by decide), s2.up (by decide), rfl⟩)) (congrArg V.int hls)) fun H4 e4 => ?_
    refine q_asg (v := .int t) (ev_intD (ed_call (eda_cons (ed_int (ev_var rfl)) (eda_cons (ed_int (ev_var rfl)) (eda_cons (ed_int (ev_var rfl)) eda_nil))) ⟨behind root (r.take i), s', t, rfl, hpq, a1, hlastN, a3, s1.up (by decide), rfl⟩)) fun H5 e5 => ?_
    refine q_un2i (a := (behind root (r.take i)).1) (b := (behind root (r.take i)).2) (ed_call (eda_cons (ed_int (ev_var rfl)) (eda_cons (ed_int (ev_var rfl)) (eda_cons (ed_int (ev_var rfl)) (eda_cons (ed_int (ev_var rfl)) eda_nil)))) ⟨_, _, s', t, rfl, a1, fun z => Nat.le_trans (a3 z) (by decide), s1.up (by decide), s2.up (by decide), hft, by rw [show ledBack ((led (behind root (r.take i)) s' t).1, (led (behind root (r.take i)) s' t).2) s' t = behind root (r.take i) from hbk]; rfl⟩) fun H6 e6 => ?_
    have e36 := ((e3.trans e4).trans e5).trans e6
    have hvl : vs.length ≤ 200 := by
      rw [hvs.len, List.length_map, List.length_reverse, List.length_drop]
      omega
    refine s_appU (xs := vs) (ys := [.int s', .int t]) (e36 _ _ hl') (ev_var rfl) (eu_tup (ea_cons (ev_var rfl) (ea_cons (ev_var rfl) ea_nil)) (by show 2 ≤ 100000; decide)) (by omega) fun p H7 np e7 hp => ?_
    have hl7 : H7 l = some (.lst vs) := e7 _ _ (e36 _ _ hl')
    refine ⟨vs ++ [.ref p], some (.int s'), some (.int t), by omega, rfl, Ex.mut ((eH.trans e36).trans e7) nl0, upd_same, ?_⟩
    have ed : r.drop i = (s', t) :: r.drop (i + 1) := by
      rw [List.drop_eq_getElem_cons hi]
      have := List.getElem?_eq_getElem hi
      rw [hri] at this
      rw [← Option.some.inj this]
    rw [ed, List.reverse_cons, List.map_append]
    refine DVs.append ?_ (.cons ?_ .nil)
    · exact dvs_ints (f := fun x : Int × Nat => [x.1, (x.2 : Int)]) (fun a xs h => sqT_upd hl7 h) (hvs.ex (e36.trans e7))
    · exact dv_ints (is := [s', (t : Int)]) (fun a xs h => sqT_upd hl7 h) (.tup (st_of hp) (.cons (.int s') (.cons (.int t) .nil)))
  · have hb : behind root (r.take j) = root := by
      rw [Bool.not_eq_false'] at hb
      exact of_decide_eq_true hb
    have hj0 : j = 0 := by
      cases j with
      | zero => rfl
      | succ i =>
        have hi : i < r.length := by omega
        have hri : r[i]? = some r[i] := List.getElem?_eq_getElem hi
        generalize r[i] = st at hri
        obtain ⟨s', t⟩ := st
        obtain ⟨a1, a2, a3⟩ := hgood.at hri
        have h1 := led_more (behind_ok (ok_of root_pair) (r.take i)) s' a2
        have h2 := behind_up (ok_of root_pair) (r.take i)
        rw [take_snoc hri, behind_snoc] at hb
        rw [hb] at h1
        have h1 : (behind root (r.take i)).1 < 2 := h1
        have h2 : 2 ≤ (behind root (r.take i)).1 := h2
        omega
    subst hj0
    rw [List.drop_zero] at hvs
    refine s_retL (el_rev (ev_var rfl) (sq_of (e3 _ _ hl'))) fun p H4 np e4 hp => ?_
    refine q p _ H4 (fresh_back (eH.trans e3) np) ((eH.trans e3).trans e4) hp ?_
    have := (hvs.ex (e3.trans e4)).reverse
    rw [← List.map_reverse, List.reverse_reverse] at this
    exact this

theorem ok__law_right {P : Program} {w : World} {K : PySem.W.Frag} {mg : Str → Option Value} {base : Heap} {aR : Addr} {tL tM : Tok} {f : Addr} {fd : FuncData} (F : Fun K "_law_right" "_law_right" s__law_right f fd) (T : Txt K mg aR tL tM) (C_triple_of : Cal P w K mg base CX0 "triple_of" 4 P_triple_of (spF K R_triple_of)) (C__law_triple : Cal P w K mg base CX0 "_law_triple" 1 P__law_triple (spF K R__law_triple)) (C_pair_of : Cal P w K mg base CX0 "pair_of" 33 P_pair_of (spF K R_pair_of)) (C_row_of : Cal P w K mg base CX0 "row_of" 34 P_row_of (spL K R_row_of)) (C_by_row : Cal P w K mg base CX0 "by_row" 5 P_by_row (spF K R_by_row)) (C_back : Cal P w K mg base CX0 "back" 34 P_back (spF K R_back)) :
    FnOk P w K mg base CX0 35 f fd P__law_right (spF K R__law_right2) := by
  refine F.ok sc__law_right (spF_len fun ds d h => by
    first | (obtain ⟨_, rfl, _⟩ := h; rfl) | (obtain ⟨_, _, rfl, _⟩ := h; rfl) | (obtain ⟨_, _, _, rfl, _⟩ := h; rfl) | (obtain ⟨_, _, _, _, rfl, _⟩ := h; rfl) | (rcases h with ⟨rfl, _⟩ | ⟨_, _, rfl, _⟩ <;> rfl)) (fun cdv A outer s H vs Q E hr h => ?_)
  obtain ⟨ds, d, hv, hR, q⟩ := h
  obtain ⟨m, n, rfl, hp, hm40, rfl⟩ := hR
  cases dvs2i hv
  refine ⟨_, (pss_cons (ps_set (i := 2) sc__law_right.nd rfl (.inl rfl) (pe_cal C_triple_of (hr.mono (by decide)) (by rfl) pass0 (pa_cons (pe_tup (pa_cons (pv 0) (pa_cons (pv 1) pa_nil))) pa_nil)))
      (pss_cons (ps_if (PW.pt (pw_or (pt_cmpR (k_neD (K := K) rfl (hu64 hr)) (pv 2) (pe_cal C__law_triple (hr.mono (by decide)) (by rfl) pass0 (pa_cons (pe_tup (pa_cons (pv 0) (pa_cons (pv 1) pa_nil))) pa_nil)) (nomark _)) (pw_or1 (pt_cmpR (k_neD (K := K) rfl (hu64 hr)) (pe_cal C_pair_of (hr.mono (by decide)) (by rfl) pass0 (pa_cons (pv 2) pa_nil)) (pe_tup (pa_cons (pv 0) (pa_cons (pv 1) pa_nil))) (nomark _))))) (pss_one (ps_ret pe_bl)) pss_nil)
      (pss_cons (ps_set (i := 3) sc__law_right.nd rfl (.inl rfl) (pe_cal C_row_of (hr.mono (by decide)) (by rfl) pass0 (pa_cons (pv 2) pa_nil)))
      (pss_cons (ps_if (pt_cmpR (k_neD (K := K) rfl (hu64 hr)) (pe_cal C_by_row (hr.mono (by decide)) (by rfl) pass0 (pa_cons (pv 3) pa_nil)) (pv 2) (nomark _)) (pss_one (ps_ret pe_bl)) pss_nil)
      (pss_cons (ps_par (i := 4) (j := 5) rfl sc__law_right.nd rfl rfl (by decide) rfl rfl (pa_cons (pe_lst pa_nil) (pa_cons (pv 2) pa_nil)) (by rfl))
      (pss_cons (ps_while PassesOwn.never (pt_cmpR (k_neD (K := K) rfl (hu64 hr)) (pv 5) (pe_tup (pa_cons pe_int (pa_cons pe_int (pa_cons pe_int pa_nil)))) (nomark _)) (pss_cons (ps_set (i := 9) sc__law_right.nd rfl (.inl rfl) (pe_cal C_back (hr.mono (by decide)) (by rfl) pass0 (pa_cons (pv 5) pa_nil)))
      (pss_cons (ps_if (PW.pt (pw_or (pt_cmpR op_isN1 (pv 9) pe_non (nomark _)) (pw_or1 (pt_cmpR op_gt (pe_callB (k_len (K := K) rfl) (by rfl) T.len (by decide +kernel) (pa_cons (pv 4) pa_nil)) (pv 0) (nomark _))))) (pss_one (ps_ret pe_bl)) pss_nil)
      (pss_cons (ps_asg (pv 9) (pg_tup rfl (pgs_cons (pg_name (i := 5) sc__law_right.nd rfl (.inl rfl)) (pgs_cons (pg_name (i := 7) sc__law_right.nd rfl (.inl rfl)) pgs_nil))))
      (pss_one (ps_expr (pe_bm PySem.F.plainAttrs_list PySem.F.slot_list_append PySem.F.type_list_append mt_append (pv 4) (pa_cons (pv 7) pa_nil))))))))
      (pss_cons (ps_set (i := 6) sc__law_right.nd rfl (.inl rfl) (pe_lst pa_nil))
      (pss_cons (ps_for PassesOwn.never rfl (pi_list (pv 3)) (pg_tup rfl (pgs_cons (pg_name (i := 7) sc__law_right.nd rfl (.inl rfl)) (pgs_cons (pg_name (i := 8) sc__law_right.nd rfl (.inl rfl)) pgs_nil))) (pss_one (ps_set (i := 6) sc__law_right.nd rfl (.inl rfl) (pe_op op_cat (pv 6) (pe_op op_rep (pe_lst (pa_cons (pv 7) pa_nil)) (pv 8))))))
      (pss_one (ps_ret (pe_cmpR (k_eqD (K := K) rfl (hu64 hr)) (pe_revL (pv 4)) (pv 6) (nomark _)))))))))))), ?_⟩
  obtain ⟨sm1', sn1'⟩ := sm40 hp (show ((m : Int)) ≤ 40 by omega)
  obtain ⟨hfit, hbeh, hcnt⟩ := rowP_ok hp (show ((m : Int)) ≤ 40 by omega)
  generalize rowP ((m : Int), (n : Int)) = r at hfit hbeh hcnt
  have hcnt : (count r : Int) + 2 ≤ (m : Int) := hcnt
  obtain ⟨clen, cmem⟩ := count_len hfit.good
  have pr : ∀ σ' H', σ'[0]? = some (some (.int m)) → σ'[1]? = some (some (.int n)) → EvD K (tTup (tCons (tVar 0) (tCons (tVar 1) tNil))) σ' H' (pd ((m : Int), (n : Int))) := fun σ' H' h0 h1 => ed_tup (eda_cons (ed_int (ev_var h0)) (eda_cons (ed_int (ev_var h1)) eda_nil)) (by show 2 ≤ 100000; decide)
  refine q_asgD (d := td ((m : Int), (n : Int))) (ed_call (eda_cons (pr _ _ rfl rfl) eda_nil) ⟨_, rfl, hp, sm1'.up (by decide), rfl⟩) fun wt H1 e1 hwt => ?_
  refine q_pass (et_is (et_or (et_test (ev_neD (ed_var rfl hwt) (ed_call (eda_cons (pr _ _ rfl rfl) eda_nil) ⟨_, rfl, sm1'.up (by decide), sn1'.up (by decide), rfl⟩) (shaped_td _) (shaped_td _))) fun _ => et_test (ev_neD (ed_call (eda_cons (ed_var rfl hwt) eda_nil) ⟨_, rfl, hp, sm1'.up (by decide), rfl⟩) (pr _ _ rfl rfl) (shaped_pd _) (shaped_pd _))) (by rw [eqv_same (shaped_td _), eqv_same (shaped_pd _)] <;> rfl)) fun H2 e2 => ?_
  have hbt : td ((m : Int), (n : Int)) = td (behind root r) := by rw [hbeh]
  refine q_asgLD (eld_call (eda_cons (ed_var rfl (hwt.ex e2)) eda_nil) ⟨r, by rw [hbt], hfit, rfl⟩) fun lr vr H3 nr e3 hlr hvr => ?_
  refine q_pass (et_is (et_test (ev_neD (d := td ((m : Int), (n : Int))) (ed_call (eda_cons (ed_var (d := rd r) rfl (.lst (sq_of hlr) hvr)) eda_nil) ⟨r, rfl, hfit, hbt⟩) (ed_var rfl (hwt.ex (e2.trans e3))) (shaped_td _) (shaped_td _))) (by rw [eqv_same (shaped_td _)] <;> rfl)) fun H4 e4 => ?_
  refine q_parLD (eld_lst (K := K) eda_nil (by show 0 ≤ 100000; decide)) (ed_var rfl (hwt.ex ((e2.trans e3).trans e4))) fun ls vs0 wn H5 ns' e5 hls hvs0 hwn => ?_
  cases hvs0
  have e35 := (e3.trans e4).trans e5
  have nls : H ls = none := fresh_back (((e1.trans e2).trans e3).trans e4) ns'
  have hfl := flat_len r
  have hwalk : walk root (flat r) = ((m : Int), (n : Int)) := by rw [walk_flat, hbeh]
  have hst := flat_steps hfit.good
  have lrls : lr ≠ ls := fun z => by
    have := e4 _ _ hlr
    rw [z, ns'] at this
    cases this
  refine q_while (fun μ σ' H' => ∃ (wn : V) (x7 x9 : Option V), μ ≤ (flat r).length ∧ σ' = [some (.int m), some (.int n), some wt, some (.ref lr), some (.ref ls), some wn, none, x7, none, x9] ∧ Ex H H' ∧ H' lr = some (.lst vr) ∧ DVs K H' vr (r.map sd) ∧ H' ls = some (.lst (((flat r).drop μ).reverse.map V.int)) ∧ DV K H' wn (td (walk root ((flat r).take μ)))) (flat r).length
    ⟨wn, none, none, Nat.le_refl _, rfl, ((e1.trans e2).trans e3).trans (e4.trans e5), e5 _ _ (e4 _ _ hlr), hvr.ex (e4.trans e5), by rw [List.drop_length]; exact hls, by rw [List.take_length, hwalk]; exact hwn⟩ ?_
  rintro j σ' H' ⟨wn', x7, x9, hj, rfl, eH, hlr', hvr', hls', hwn'⟩
  have e345 : ∀ σ H, EvD K (tTup (tCons (tC (.int 3)) (tCons (tC (.int 4)) (tCons (tC (.int 5)) tNil)))) σ H (td root) := fun σ H => by
    have e : td root = .tuple [.int 3, .int 4, .int 5] := rfl
    rw [e]
    exact ed_tup (eda_cons (ed_int ev_c) (eda_cons (ed_int ev_c) (eda_cons (ed_int ev_c) eda_nil))) (by show 3 ≤ 100000; decide)
  have hpw : IsPair (walk root ((flat r).take j)) := walk_pair root_pair _
  refine ⟨!decide (walk root ((flat r).take j) = root), et_test (ev_is (ev_neD (d := td (walk root ((flat r).take j))) (e := td root) (ed_var rfl hwn') (e345 _ _) (shaped_td _) (shaped_td _)) (by rw [eqv_td (ok_of hpw) (ok_of root_pair)])), fun hb H6 e6 => ?_, fun hb H6 e6 => ?_⟩
  · have hne : walk root ((flat r).take j) ≠ root := fun z => by rw [decide_eq_true z] at hb; cases hb
    obtain ⟨i, rfl⟩ : ∃ i, j = i + 1 := by
      cases j with
      | zero => exact absurd rfl hne
      | succ i => exact ⟨i, rfl⟩
    have hi : i < (flat r).length := by omega
    have hri : (flat r)[i]? = some (flat r)[i] := List.getElem?_eq_getElem hi
    have hs' : Step (flat r)[i] := hst _ (List.getElem_mem hi)
    generalize (flat r)[i] = s' at hri hs'
    have ew : walk root ((flat r).take (i + 1)) = led (walk root ((flat r).take i)) s' 1 := by
      rw [List.take_add_one, hri, walk_append]; rfl
    have okq : IsPair (walk root ((flat r).take i)) := walk_pair root_pair _
    have hup : (led (walk root ((flat r).take i)) s' 1).1 ≤ 40 := by
      rw [← ew]
      have h1 := walk_up (ok_of hpw) ((flat r).drop (i + 1))
      rw [← walk_append, List.take_append_drop, hwalk] at h1
      have h1 : (walk root ((flat r).take (i + 1))).1 + ((flat r).drop (i + 1)).length ≤ (m : Int) := h1
      omega
    have hpl : IsPair (led (walk root ((flat r).take i)) s' 1) := led_pair1 okq s'
    obtain ⟨sl1, _⟩ := sm40 hpl hup
    rw [ew] at hwn'
    refine ⟨_, fun σ2 H2' h => ⟨i, Nat.lt_succ_self i, h⟩, ?_⟩
    refine q_asgD (d := .tuple [td (walk root ((flat r).take i)), .int s']) (ed_call (eda_cons (ed_var rfl (hwn'.ex e6)) eda_nil) (.inr ⟨_, s', rfl, okq, hs', sl1.up (by decide), rfl⟩)) fun wc H7 e7 hwc => ?_
    refine q_pass (et_is (et_or (et_test (ev_isNT (ed_var rfl hwc))) fun _ => et_test (ev_op (ev_lenL (ed_var (d := .list (((flat r).drop (i + 1)).reverse.map .int)) rfl (.lst (sq_of (e7 _ _ (e6 _ _ hls'))) (vals_ints' _)))) (ev_var rfl) rv_I0)) ?_) fun H8 e8 => ?_
    · show (false || decide ((m : Int) < (((flat r).drop (i + 1)).reverse.map PyData.int).length)) = false
      rw [List.length_map, List.length_reverse, List.length_drop, decide_eq_false (by omega)]
      rfl
    refine q_un2 (ed_var rfl (hwc.ex e8)) fun wn2 ws H9 e9 hwn2 hws => ?_
    cases dvi hws
    have e69 := ((e6.trans e7).trans e8).trans e9
    refine s_app (xs := ((flat r).drop (i + 1)).reverse.map V.int) (e69 _ _ hls') (ev_var rfl) (ev_var rfl) (by rw [List.length_map, List.length_reverse, List.length_drop]; omega) fun H10 e10 => ?_
    have e610 := e69.trans e10
    have hls10 := e610 _ _ hls'
    refine ⟨wn2, some (.int s'), some wc, by omega, rfl, Ex.mut (eH.trans e610) nls, by rw [upd_ne lrls]; exact e610 _ _ hlr', ?_, ?_, ?_⟩
    · exact dvs_ints (f := fun x : Int × Nat => [x.1, (x.2 : Int)]) (fun a xs h => sqT_upd hls10 h) (hvr'.ex e610)
    · rw [upd_same]
      have ed : (flat r).drop i = s' :: (flat r).drop (i + 1) := by
        rw [List.drop_eq_getElem_cons hi]
        have := List.getElem?_eq_getElem hi
        rw [hri] at this
        rw [← Option.some.inj this]
      rw [ed, List.reverse_cons, List.map_append]
      rfl
    · exact dv_ints (is := [_, _, _]) (fun a xs h => sqT_upd hls10 h) (hwn2.ex e10)
  · have hb : walk root ((flat r).take j) = root := by
      rw [Bool.not_eq_false'] at hb
      exact of_decide_eq_true hb
    have hj0 : j = 0 := by
      have h1 := walk_up (ok_of root_pair) ((flat r).take j)
      rw [hb, List.length_take, Nat.min_eq_left hj] at h1
      have h1 : (2 : Int) + (j : Int) ≤ 2 := h1
      omega
    subst hj0
    rw [List.drop_zero] at hls'
    refine q_asgLD (eld_lst (K := K) eda_nil (by show 0 ≤ 100000; decide)) fun lt vt H7 nt e7 hlt hvt => ?_
    cases hvt
    have e67 := e6.trans e7
    refine q_forP (v := .ref lr) (xs := r.map fun x => (x.1, (x.2 : Int))) rfl (by rw [List.map_map]; exact .lst (sq_of (e67 _ _ hlr')) (hvr'.ex e67)) (fun k σ' H' => ∃ (l : Addr) (vt : List V) (x7 x8 : Option V), σ' = [some (.int m), some (.int n), some wt, some (.ref lr), some (.ref ls), some wn', some (.ref l), x7, x8, x9] ∧ H' l = some (.lst vt) ∧ DVs K H' vt ((flat (r.take k)).map .int) ∧ Ex H7 H') ⟨lt, [], x7, none, rfl, hlt, .nil, Ex.refl _⟩ (fun k σ' H' p => by obtain ⟨_, _, _, _, _, _, _, e⟩ := p; exact e) (fun k a b σ' H8 hk p => ?_) fun σ' H8 p => ?_
    · obtain ⟨l, vt, x7, x8, rfl, hl, hvt, e8⟩ := p
      rw [List.getElem?_map] at hk
      cases hrk : r[k]? with
      | none => rw [hrk] at hk; cases hk
      | some st =>
        rw [hrk] at hk
        obtain ⟨s', t⟩ := st
        have hk' := Option.some.inj hk
        cases hk'
        have ht : t ≤ count r := cmem _ (List.mem_of_getElem? hrk)
        have efl : flat (r.take (k + 1)) = flat (r.take k) ++ List.replicate t s' := by
          have key : ∀ (a b : Row), flat (a ++ b) = flat a ++ flat b := by
            intro a b
            induction a with
            | nil => rfl
            | cons x a ih => obtain ⟨s, t⟩ := x; show List.replicate t s ++ flat (a ++ b) = (List.replicate t s ++ flat a) ++ flat b; rw [ih, List.append_assoc]
          rw [take_snoc hrk, key]
          show _ ++ (List.replicate t s' ++ []) = _
          rw [List.append_nil]
        have hlen1 : (flat (r.take k)).length ≤ 100 := by
          have h1 : (flat (r.take (k))).length ≤ (flat r).length := by
            have key : ∀ (a b : Row), flat (a ++ b) = flat a ++ flat b := by
              intro a b
              induction a with
              | nil => rfl
              | cons x a ih => obtain ⟨s, t⟩ := x; show List.replicate t s ++ flat (a ++ b) = (List.replicate t s ++ flat a) ++ flat b; rw [ih, List.append_assoc]
            have e : flat r = flat (r.take k) ++ flat (r.drop k) := by rw [← key, List.take_append_drop]
            rw [e, List.length_append]
            omega
          omega
        refine s_asgLD (ds := (flat (r.take (k + 1))).map .int) ?_ fun l2 vt2 H9 n2 e9 hl2 hvt2 => ⟨l2, vt2, some (.int s'), some (.int t), rfl, hl2, hvt2, e8.trans e9⟩
        have h := eld_catV (K := K) (σ := [some (V.int m), some (.int n), some wt, some (.ref lr), some (.ref ls), some wn', some (.ref l), some (.int s'), some (.int t), x9]) (i := 6) rfl hl hvt (eld_rep (k := (t : Int)) (eld_lst (ds := [.int s']) (eda_cons (ed_int (ev_var (i := 7) rfl)) eda_nil) (by show 1 ≤ 100000; decide)) (ev_var (i := 8) rfl) (by omega) (by omega) (by show 1 * ((t : Int)).toNat ≤ 100000; omega)) (by
          rw [List.length_map, Int.toNat_natCast, flat_one, List.length_replicate]
          omega)
        rw [efl, List.map_append, List.map_replicate]
        have e2 : (List.replicate ((t : Int)).toNat [PyData.int s']).flatten = List.replicate t (PyData.int s') := by rw [Int.toNat_natCast, flat_one]
        rw [e2] at h
        exact h
    · obtain ⟨l, vt, x7, x8, rfl, hl, hvt, e8⟩ := p
      rw [List.length_map, List.take_length] at hvt
      refine s_retD (K := K) (d := .bool true) (ed_bl (ev_is (ev_eqD (d := .list ((flat r).map .int)) (e := .list ((flat r).map .int)) ?_ (ed_var rfl (.lst (sq_of hl) hvt)) (shaped_intsL _) (shaped_intsL _)) (by rw [eqv_same (shaped_intsL _)]))) fun w H9 e9 hw => q w H9 (((eH.trans e67).trans e8).trans e9) hw
      have h := eld_rev (K := K) (σ := [some (V.int m), some (.int n), some wt, some (.ref lr), some (.ref ls), some wn', some (.ref l), x7, x8, x9]) (te := tVar 4) (ds := ((flat r).reverse.map .int)) (H := H8) (ed_var rfl (.lst (sq_of (e8 _ _ (e67 _ _ hls'))) (vals_ints' _)))
      rw [← List.map_reverse, List.reverse_reverse] at h
      exact h.ev

theorem ok_law {P : Program} {w : World} {K : PySem.W.Frag} {mg : Str → Option Value} {base : Heap} {aR : Addr} {tL tM : Tok} {f : Addr} {fd : FuncData} (F : Fun K "law" "law" s_law f fd) (T : Txt K mg aR tL tM) (C__law_draw : Cal P w K mg base CX0 "_law_draw" 1 P__law_draw (spF K R__law_draw)) (C__law_cell_at : Cal P w K mg base CX0 "_law_cell_at" 1 P__law_cell_at (spF K R__law_cell_at)) (C__law_common : Cal P w K mg base CX0 "_law_common" 1 P__law_common (spF K R__law_common)) (C__law_right : Cal P w K mg base CX0 "_law_right" 35 P__law_right (spF K R__law_right2)) (C_row_of : Cal P w K mg base CX0 "row_of" 34 P_row_of (spL K R_row_of)) (C_triple_of : Cal P w K mg base CX0 "triple_of" 4 P_triple_of (spF K R_triple_of)) :
    FnOk P w K mg base CX0 36 f fd P_law (spF K R_law2) := by
  refine F.ok sc_law (spF_len fun ds d h => by
    first | (obtain ⟨_, rfl, _⟩ := h; rfl) | (obtain ⟨_, _, rfl, _⟩ := h; rfl) | (obtain ⟨_, _, _, rfl, _⟩ := h; rfl) | (obtain ⟨_, _, _, _, rfl, _⟩ := h; rfl) | (rcases h with ⟨rfl, _⟩ | ⟨_, _, rfl, _⟩ <;> rfl)) (fun cdv A outer s H vs Q E hr h => ?_)
  obtain ⟨ds, d, hv, hR, q⟩ := h
  obtain ⟨ns, rfl, hl63, hns, rfl⟩ := hR
  obtain ⟨v, rfl, hx⟩ := dvs1 hv
  refine ⟨_, (pss_cons (ps_set (i := 1) sc_law.nd rfl (.inl rfl) (pe_op op_add pe_int (pe_cal C__law_draw (hr.mono (by decide)) (by rfl) pass0 (pa_cons (pe_op op_mod (pe_cal C__law_cell_at (hr.mono (by decide)) (by rfl) pass0 (pa_cons (pv 0) (pa_cons pe_int pa_nil))) (pe_op op_pow pe_int pe_int)) (pa_cons pe_int (pa_cons pe_int pa_nil))))))
      (pss_cons (ps_set (i := 2) sc_law.nd rfl (.inl rfl) (pe_lst pa_nil))
      (pss_cons (ps_for PassesOwn.never rfl (pi_range2 (by rfl) T.range (pa_cons pe_int (pa_cons (pe_op op_add (pv 1) pe_int) pa_nil))) (pg_name (i := 3) sc_law.nd rfl (.inl rfl)) (pss_one (ps_for PassesOwn.never rfl (pi_range2 (by rfl) T.range (pa_cons pe_int (pa_cons (pv 3) pa_nil))) (pg_name (i := 5) sc_law.nd rfl (.inl rfl)) (pss_one (ps_if (PW.pt (pw_and (pt_cmpR op_eq (pe_op op_mod (pe_op op_add (pv 3) (pv 5)) pe_int) pe_int (nomark _)) (pw_and1 (pt_cmpR op_eq (pe_cal C__law_common (hr.mono (by decide)) (by rfl) pass0 (pa_cons (pv 3) (pa_cons (pv 5) pa_nil))) pe_int (nomark _))))) (pss_cons (ps_if (pt_not (pt_val (pe_cal C__law_right (hr.mono (by decide)) (by rfl) pass0 (pa_cons (pv 3) (pa_cons (pv 5) pa_nil))))) (pss_one (ps_ret pe_bl)) pss_nil)
      (pss_one (ps_expr (pe_bm PySem.F.plainAttrs_list PySem.F.slot_list_append PySem.F.type_list_append mt_append (pv 2) (pa_cons (pe_cal C_row_of (hr.mono (by decide)) (by rfl) pass0 (pa_cons (pe_cal C_triple_of (hr.mono (by decide)) (by rfl) pass0 (pa_cons (pe_tup (pa_cons (pv 3) (pa_cons (pv 5) pa_nil))) pa_nil)) pa_nil)) pa_nil))))) pss_nil)))))
      (pss_cons (ps_for PassesOwn.never rfl (pi_list (pv 2)) (pg_name (i := 4) sc_law.nd rfl (.inl rfl)) (pss_one (ps_if (pt_cmpR op_ne (pe_bm PySem.F.plainAttrs_list PySem.F.slot_list_count PySem.F.type_list_count (mt_countD (K := K) rfl (hu65 hr)) (pv 2) (pa_cons (pv 4) pa_nil)) pe_int (nomark _)) (pss_one (ps_ret pe_bl)) pss_nil)))
      (pss_one (ps_ret (pe_cmpR (k_eqD (K := K) rfl (hu64 hr)) (pe_slice sl_list (pv 2) po_none (po_some pe_int)) (pe_lst (pa_cons (pe_lst pa_nil) (pa_cons (pe_lst (pa_cons (pe_tup (pa_cons pe_int (pa_cons pe_int pa_nil))) pa_nil)) (pa_cons (pe_lst (pa_cons (pe_tup (pa_cons pe_int (pa_cons pe_int pa_nil))) pa_nil)) pa_nil)))) (nomark _)))))))), ?_⟩
  have p18 : ∀ σ H, Ev (tOp (rI CPow fun i j => .int (i ^ j.toNat)) (tC (.int 10)) (tC (.int 18))) σ H (.int E18) := fun σ H => ev_is (ev_op ev_c ev_c (rv_I ⟨by decide, by decide, by decide⟩)) (congrArg V.int pow18)
  have hmod := Int.emod_nonneg (ns.getD 0 0) (show E18 ≠ 0 by decide)
  have hmod2 := Int.emod_lt_of_pos (ns.getD 0 0) (show 0 < E18 by decide)
  have hsc : Sm 3000000 (ns.getD 0 0 % E18) := by
    refine Sm.up (a := 64) ?_ (by decide)
    have e : E18 < ((2 ^ 64 : Nat) : Int) := by decide
    show (ns.getD 0 0 % E18).natAbs < 2 ^ 64
    omega
  obtain ⟨d1, d2⟩ := lawDraw_lt (ns.getD 0 0 % E18) 5 (show (0 : Int) < 29 by decide)
  refine q_asg (v := .int (12 + lawDraw (ns.getD 0 0 % E18) 5 29)) (ev_op ev_c (ev_intD (ed_call (eda_cons (ed_int (ev_op (ev_intD (ed_call (eda_cons (ed_var rfl hx) (eda_cons (ed_int (ev_c (v := .int ((0 : Nat) : Int)))) eda_nil)) ⟨ns, 0, rfl, rfl⟩)) (p18 _ _) (rv_I (by decide)))) (eda_cons (ed_int ev_c) (eda_cons (ed_int ev_c) eda_nil))) ⟨_, 5, 29, rfl, hsc, Sm.up (show (5 : Int).natAbs < 2 ^ 3 by decide) (by decide), by decide, rfl⟩)) rv_I0) fun H1 e1 => ?_
  generalize lawDraw (ns.getD 0 0 % E18) 5 29 = dr at d1 d2
  obtain ⟨M, hM⟩ : ∃ M : Nat, 12 + dr = ((M + 1 : Nat) : Int) := ⟨(11 + dr).toNat, by omega⟩
  rw [hM]
  have hM1 : 11 ≤ M ∧ M ≤ 39 := by omega
  refine q_asgLD (eld_lst (K := K) eda_nil (by show 0 ≤ 100000; decide)) fun l vs0 H2 nl e2 hl hvs0 => ?_
  cases hvs0
  have nl0 : H l = none := fresh_back e1 nl
  refine q_forR2 (lo := 2) (n := ((M + 1 : Nat) : Int) + 1) (ea_cons ev_c (ea_cons (ev_op (ev_var rfl) ev_c rv_I0) ea_nil)) (by omega) (fun k σ' H' => ∃ (vs : List V) (x3 x5 : Option V), σ' = [some v, some (.int ((M + 1 : Nat) : Int)), some (.ref l), x3, none, x5] ∧ Ex H H' ∧ H' l = some (.lst vs) ∧ DVs K (ers l H') vs ((outerL k).map fun p => rd (rowP p)))
    (fun H3 e3 => ⟨[], none, none, rfl, (e1.trans e2).trans e3, e3 _ _ hl, .nil⟩) (fun k σ' H' hk P => ?_) fun σ' H' P => ?_
  · obtain ⟨vs, x3, x5, rfl, eH, hl', hvs⟩ := P
    have em : (2 : Int) + (k : Int) = ((k + 2 : Nat) : Int) := by omega
    rw [em]
    refine s_forR2 (lo := 1) (n := ((k + 2 : Nat) : Int)) (ea_cons ev_c (ea_cons (ev_var rfl) ea_nil)) (by omega) (fun j σ' H' => ∃ (vs : List V) (x5 : Option V), σ' = [some v, some (.int ((M + 1 : Nat) : Int)), some (.ref l), some (.int ((k + 2 : Nat) : Int)), none, x5] ∧ Ex H H' ∧ H' l = some (.lst vs) ∧ DVs K (ers l H') vs ((outerL k ++ innerL (k + 2) j).map fun p => rd (rowP p)))
      (fun H3 e3 => ⟨vs, x5, rfl, eH.trans e3, e3 _ _ hl', by show DVs _ _ _ ((outerL k ++ []).map _); rw [List.append_nil]; exact hvs.ex (ers_ex e3)⟩) (fun j σ' H3 hj P => ?_) fun σ' H3 P => ?_
    · obtain ⟨vs, x5, rfl, eH, hl', hvs⟩ := P
      have en : (1 : Int) + (j : Int) = ((j + 1 : Nat) : Int) := by omega
      rw [en]
      have hjk : j + 1 < k + 2 := by omega
      have ebp : (decide ((((k + 2 : Nat) : Int) + ((j + 1 : Nat) : Int)) % 2 = 1) && decide (((Nat.gcd (k + 2) (j + 1) : Nat) : Int) = 1)) = isP (k + 2) (j + 1) := by
        unfold isP
        have e1 : decide ((((k + 2 : Nat) : Int) + ((j + 1 : Nat) : Int)) % 2 = 1) = decide ((k + 2 + (j + 1)) % 2 = 1) := by
          by_cases z : (k + 2 + (j + 1)) % 2 = 1
          · rw [decide_eq_true z]; exact decide_eq_true (by omega)
          · rw [decide_eq_false z]; exact decide_eq_false (by omega)
        have e2 : decide (((Nat.gcd (k + 2) (j + 1) : Nat) : Int) = 1) = decide (Nat.gcd (k + 2) (j + 1) = 1) := by
          by_cases z : Nat.gcd (k + 2) (j + 1) = 1
          · rw [decide_eq_true z]; exact decide_eq_true (by omega)
          · rw [decide_eq_false z]; exact decide_eq_false (by omega)
        rw [e1, e2]
      refine s_when (b := isP (k + 2) (j + 1)) (et_is (et_and (et_test (ev_op (ev_op (ev_op (ev_var rfl) (ev_var rfl) rv_I0) ev_c (rv_I (by decide))) ev_c rv_eqI)) fun _ => et_test (ev_op (ev_intD (ed_call (eda_cons (ed_int (ev_var rfl)) (eda_cons (ed_int (ev_var rfl)) eda_nil)) ⟨k + 2, j + 1, rfl, rfl⟩)) ev_c rv_eqI)) ebp) (fun hb H4 e4 => ?_) fun hb H4 e4 => ?_
      · have hp : IsPair (((k + 2 : Nat) : Int), ((j + 1 : Nat) : Int)) := isP_pair hb (by omega) hjk
        have hk40 : k + 2 ≤ 40 := by omega
        obtain ⟨sm1', sn1'⟩ := sm40 hp (show (((k + 2 : Nat) : Int)) ≤ 40 by omega)
        obtain ⟨hfit, hbeh, _⟩ := rowP_ok hp (show (((k + 2 : Nat) : Int)) ≤ 40 by omega)
        refine q_pass (et_is (et_not (et_B (ev_blD (ed_call (eda_cons (ed_int (ev_var rfl)) (eda_cons (ed_int (ev_var rfl)) eda_nil)) ⟨k + 2, j + 1, rfl, hp, hk40, rfl⟩)))) rfl) fun H5 e5 => ?_
        have e45 := e4.trans e5
        have hvl : vs.length ≤ 2000 := by
          rw [hvs.len, List.length_map, List.length_append]
          have h1 := outerL_len k
          have h2 := innerL_len (k + 2) j
          have h3 : k * k ≤ 38 * 38 := Nat.mul_le_mul (by omega) (by omega)
          omega
        refine s_appLD (ds := (rowP (((k + 2 : Nat) : Int), ((j + 1 : Nat) : Int))).map sd) (e45 _ _ hl') (ev_var rfl) (eld_call (eda_cons (d := td (((k + 2 : Nat) : Int), ((j + 1 : Nat) : Int))) (ed_call (eda_cons (ed_tup (eda_cons (ed_int (ev_var rfl)) (eda_cons (ed_int (ev_var rfl)) eda_nil)) (by show 2 ≤ 100000; decide)) eda_nil) ⟨_, rfl, hp, sm1'.up (by decide), rfl⟩) eda_nil) ⟨_, by rw [hbeh], hfit, rfl⟩) (by omega) fun p vr H6 np e6 hpr hvr => ?_
        have e46 := e45.trans e6
        have hl6 := e46 _ _ hl'
        have hpl : p ≠ l := fun z => by
          have := e45 _ _ hl'
          rw [← z, np] at this
          cases this
        refine ⟨vs ++ [.ref p], some (.int ((j + 1 : Nat) : Int)), rfl, Ex.mut (eH.trans e46) nl0, upd_same, ?_⟩
        rw [ers_upd]
        have ei : innerL (k + 2) (j + 1) = innerL (k + 2) j ++ [(((k + 2 : Nat) : Int), ((j + 1 : Nat) : Int))] := by
          show innerL (k + 2) j ++ (if isP (k + 2) (j + 1) then _ else _) = _
          rw [hb]; rfl
        rw [ei, ← List.append_assoc, List.map_append]
        refine (hvs.ex (ers_ex e46)).append (.cons (.lst (.inl (.inl (by rw [ers_ne hpl]; exact hpr))) ?_) .nil)
        exact dvs_ints (f := fun x : Int × Nat => [x.1, (x.2 : Int)]) (fun a xs h => sqT_ers hl6 h) hvr
      · refine ⟨vs, some (.int ((j + 1 : Nat) : Int)), rfl, eH.trans e4, e4 _ _ hl', ?_⟩
        have ei : innerL (k + 2) (j + 1) = innerL (k + 2) j := by
          show innerL (k + 2) j ++ (if isP (k + 2) (j + 1) then _ else _) = _
          rw [hb, if_neg (by decide), List.append_nil]
        rw [ei]
        exact hvs.ex (ers_ex e4)
    · obtain ⟨vs, x5, rfl, eH, hl', hvs⟩ := P
      have e : (((k + 2 : Nat) : Int) - 1).toNat = k + 1 := by omega
      rw [e] at hvs
      exact ⟨vs, _, _, rfl, eH, hl', hvs⟩
  · obtain ⟨vs, x3, x5, rfl, eH, hl', hvs⟩ := P
    have e : (((M + 1 : Nat) : Int) + 1 - 2).toNat = M := by omega
    rw [e] at hvs
    have hmem := outerL_mem M
    have hnd := outerL_nodup M
    have hdv : DVs K H' vs ((outerL M).map fun p => rd (rowP p)) := hvs.ex (ers_in l H')
    have hpm : ∀ p ∈ outerL M, IsPair p ∧ p.1 ≤ 40 := fun p hp => by
      obtain ⟨a, b⟩ := hmem p hp
      exact ⟨a, by omega⟩
    refine q_forLD (v := .ref l) (ds := (outerL M).map fun p => rd (rowP p)) rfl (.lst (sq_of hl') hdv) (fun k σ' H3 => ∃ x4 : Option V, σ' = [some v, some (.int ((M + 1 : Nat) : Int)), some (.ref l), x3, x4, x5] ∧ Ex H' H3) ⟨none, rfl, Ex.refl _⟩ (fun k σ' H3 P => by obtain ⟨_, _, e⟩ := P; exact e) (fun k d' w σ' H3 hk hw P => ?_) fun σ' H3 P => ?_
    · obtain ⟨x4, rfl, e3⟩ := P
      rw [List.getElem?_map] at hk
      cases hpk : (outerL M)[k]? with
      | none => rw [hpk] at hk; cases hk
      | some p =>
        rw [hpk] at hk
        have hk' : rd (rowP p) = d' := Option.some.inj hk
        subst hk'
        have hp := List.mem_of_getElem? hpk
        refine s_no (et_is (et_test (ev_op (ev_count (ed_var rfl (.lst (sq_of (e3 _ _ hl')) (hdv.ex e3))) (ed_var rfl hw) (shaped_rds _) (shaped_rd _)) ev_c rv_neI)) ?_) fun H4 e4 => ⟨some w, rfl, e3.trans e4⟩
        rw [count_once hnd hpm hp]
        rfl
    · obtain ⟨x4, rfl, e3⟩ := P
      obtain ⟨r1, r2, r3⟩ := rows3
      have e3r : ((outerL M).map fun p => rd (rowP p)).take 3 = [rd [], rd [(0, 1)], rd [(2, 1)]] := by
        rw [← List.map_take, outerL_three (by omega)]
        show [rd (rowP (2, 1)), rd (rowP (3, 2)), rd (rowP (4, 1))] = _
        rw [r1, r2, r3]
      have sh3 : SeqAt.shaped (.list [rd [], rd [(0, 1)], rd [(2, 1)]]) = true := by
        have h := shaped_rds [(2, 1), (3, 2), (4, 1)]
        rw [show ([(2, 1), (3, 2), (4, 1)] : List P2).map (fun q => rd (rowP q)) = [rd [], rd [(0, 1)], rd [(2, 1)]] by show [rd (rowP (2, 1)), rd (rowP (3, 2)), rd (rowP (4, 1))] = _; rw [r1, r2, r3]] at h
        exact h
      have row1 : ∀ (s' : Int) σ H, EvD K (tLst (tCons (tTup (tCons (tC (.int s')) (tCons (tC (.int 1)) tNil))) tNil)) σ H (rd [(s', 1)]) := fun s' σ H => EvLD.ev (eld_lst (eda_cons (ed_tup (eda_cons (ed_int ev_c) (eda_cons (ed_int ev_c) eda_nil)) (by show 2 ≤ 100000; decide)) eda_nil) (by show 1 ≤ 100000; decide))
      refine s_retD (K := K) (d := .bool true) (ed_bl (ev_is (ev_eqD (d := .list [rd [], rd [(0, 1)], rd [(2, 1)]]) (e := .list [rd [], rd [(0, 1)], rd [(2, 1)]]) (EvLD.ev (eld_sl (lo := none) (hi := some 3) (ed_var rfl (.lst (sq_of (e3 _ _ hl')) (hdv.ex e3))) eo_none (eo_some ev_c) ((cut_to _ 3).trans e3r)))
        (EvLD.ev (eld_lst (eda_cons (d := rd []) (eld_lst eda_nil (by show 0 ≤ 100000; decide)).ev (eda_cons (row1 0 _ _) (eda_cons (row1 2 _ _) eda_nil))) (by show 3 ≤ 100000; decide))) sh3 sh3) (by rw [eqv_same sh3]))) fun w H4 e4 hw => q w H4 ((eH.trans e3).trans e4) hw

theorem all_mk {P : Program} {w : World} {K : PySem.W.Frag} {h : Heap} {mg : Str → Option Value} {fa : Addr} (X : K.In h) (G : h.Ns mainGlobals mg) (hfa : mg "law" = some (.ref fa)) (ht : P.given.tree = none)
    {f0 : Addr} {od0 an0 : Option Addr} {sl0 : Array (Option Value)} {oc0 kV0 dc0 pm0 cd0 ct0 : Value}
    {f1 : Addr} {od1 an1 : Option Addr} {sl1 : Array (Option Value)} {oc1 kV1 dc1 pm1 cd1 ct1 : Value}
    {f2 : Addr} {od2 an2 : Option Addr} {sl2 : Array (Option Value)} {oc2 kV2 dc2 pm2 cd2 ct2 : Value}
    {f3 : Addr} {od3 an3 : Option Addr} {sl3 : Array (Option Value)} {oc3 kV3 dc3 pm3 cd3 ct3 : Value}
    {f4 : Addr} {od4 an4 : Option Addr} {sl4 : Array (Option Value)} {oc4 kV4 dc4 pm4 cd4 ct4 : Value}
    {f5 : Addr} {od5 an5 : Option Addr} {sl5 : Array (Option Value)} {oc5 kV5 dc5 pm5 cd5 ct5 : Value}
    {f6 : Addr} {od6 an6 : Option Addr} {sl6 : Array (Option Value)} {oc6 kV6 dc6 pm6 cd6 ct6 : Value}
    {f7 : Addr} {od7 an7 : Option Addr} {sl7 : Array (Option Value)} {oc7 kV7 dc7 pm7 cd7 ct7 : Value}
    {f8 : Addr} {od8 an8 : Option Addr} {sl8 : Array (Option Value)} {oc8 kV8 dc8 pm8 cd8 ct8 : Value}
    {f9 : Addr} {od9 an9 : Option Addr} {sl9 : Array (Option Value)} {oc9 kV9 dc9 pm9 cd9 ct9 : Value}
    {f10 : Addr} {od10 an10 : Option Addr} {sl10 : Array (Option Value)} {oc10 kV10 dc10 pm10 cd10 ct10 : Value}
    {f11 : Addr} {od11 an11 : Option Addr} {sl11 : Array (Option Value)} {oc11 kV11 dc11 pm11 cd11 ct11 : Value}
    {f12 : Addr} {od12 an12 : Option Addr} {sl12 : Array (Option Value)} {oc12 kV12 dc12 pm12 cd12 ct12 : Value}
    {f13 : Addr} {od13 an13 : Option Addr} {sl13 : Array (Option Value)} {oc13 kV13 dc13 pm13 cd13 ct13 : Value}
    {f14 : Addr} {od14 an14 : Option Addr} {sl14 : Array (Option Value)} {oc14 kV14 dc14 pm14 cd14 ct14 : Value}
    {f15 : Addr} {od15 an15 : Option Addr} {sl15 : Array (Option Value)} {oc15 kV15 dc15 pm15 cd15 ct15 : Value}
    {f16 : Addr} {od16 an16 : Option Addr} {sl16 : Array (Option Value)} {oc16 kV16 dc16 pm16 cd16 ct16 : Value}
    {f17 : Addr} {od17 an17 : Option Addr} {sl17 : Array (Option Value)} {oc17 kV17 dc17 pm17 cd17 ct17 : Value}
    {f18 : Addr} {od18 an18 : Option Addr} {sl18 : Array (Option Value)} {oc18 kV18 dc18 pm18 cd18 ct18 : Value}
    {f19 : Addr} {od19 an19 : Option Addr} {sl19 : Array (Option Value)} {oc19 kV19 dc19 pm19 cd19 ct19 : Value}
    {f20 : Addr} {od20 an20 : Option Addr} {sl20 : Array (Option Value)} {oc20 kV20 dc20 pm20 cd20 ct20 : Value}
    {f21 : Addr} {od21 an21 : Option Addr} {sl21 : Array (Option Value)} {oc21 kV21 dc21 pm21 cd21 ct21 : Value}
    {f22 : Addr} {od22 an22 : Option Addr} {sl22 : Array (Option Value)} {oc22 kV22 dc22 pm22 cd22 ct22 : Value}
    {f23 : Addr} {od23 an23 : Option Addr} {sl23 : Array (Option Value)} {oc23 kV23 dc23 pm23 cd23 ct23 : Value}
    {aR : Addr} {tL tM t1 t2 : Tok} {dR : Option Addr} {nR : Nat} {slR : Array (Option Value)}
    (a0 : PySem.W.nsIn K mainGlobals "is_whole" = some (some (.ref f0))) (l0 : K.lookup f0 = some ⟨oc0, od0, .func (PySem.W.fnOf "is_whole" "is_whole" (defArgs s_is_whole) (defBody s_is_whole) (defScope s_is_whole) .none kV0 dc0 pm0 an0 cd0 ct0), sl0⟩) (c0 : PySem.W.codeIn K cd0 "is_whole" = true) (k0 : PySem.W.keepIn K (.ref f0) = true)
    (a1 : PySem.W.nsIn K mainGlobals "are_whole" = some (some (.ref f1))) (l1 : K.lookup f1 = some ⟨oc1, od1, .func (PySem.W.fnOf "are_whole" "are_whole" (defArgs s_are_whole) (defBody s_are_whole) (defScope s_are_whole) .none kV1 dc1 pm1 an1 cd1 ct1), sl1⟩) (c1 : PySem.W.codeIn K cd1 "are_whole" = true) (k1 : PySem.W.keepIn K (.ref f1) = true)
    (a2 : PySem.W.nsIn K mainGlobals "is_pair" = some (some (.ref f2))) (l2 : K.lookup f2 = some ⟨oc2, od2, .func (PySem.W.fnOf "is_pair" "is_pair" (defArgs s_is_pair) (defBody s_is_pair) (defScope s_is_pair) .none kV2 dc2 pm2 an2 cd2 ct2), sl2⟩) (c2 : PySem.W.codeIn K cd2 "is_pair" = true) (k2 : PySem.W.keepIn K (.ref f2) = true)
    (a3 : PySem.W.nsIn K mainGlobals "formed" = some (some (.ref f3))) (l3 : K.lookup f3 = some ⟨oc3, od3, .func (PySem.W.fnOf "formed" "formed" (defArgs s_formed) (defBody s_formed) (defScope s_formed) .none kV3 dc3 pm3 an3 cd3 ct3), sl3⟩) (c3 : PySem.W.codeIn K cd3 "formed" = true) (k3 : PySem.W.keepIn K (.ref f3) = true)
    (a4 : PySem.W.nsIn K mainGlobals "pair_of" = some (some (.ref f4))) (l4 : K.lookup f4 = some ⟨oc4, od4, .func (PySem.W.fnOf "pair_of" "pair_of" (defArgs s_pair_of) (defBody s_pair_of) (defScope s_pair_of) .none kV4 dc4 pm4 an4 cd4 ct4), sl4⟩) (c4 : PySem.W.codeIn K cd4 "pair_of" = true) (k4 : PySem.W.keepIn K (.ref f4) = true)
    (a5 : PySem.W.nsIn K mainGlobals "triple_of" = some (some (.ref f5))) (l5 : K.lookup f5 = some ⟨oc5, od5, .func (PySem.W.fnOf "triple_of" "triple_of" (defArgs s_triple_of) (defBody s_triple_of) (defScope s_triple_of) .none kV5 dc5 pm5 an5 cd5 ct5), sl5⟩) (c5 : PySem.W.codeIn K cd5 "triple_of" = true) (k5 : PySem.W.keepIn K (.ref f5) = true)
    (a6 : PySem.W.nsIn K mainGlobals "back" = some (some (.ref f6))) (l6 : K.lookup f6 = some ⟨oc6, od6, .func (PySem.W.fnOf "back" "back" (defArgs s_back) (defBody s_back) (defScope s_back) .none kV6 dc6 pm6 an6 cd6 ct6), sl6⟩) (c6 : PySem.W.codeIn K cd6 "back" = true) (k6 : PySem.W.keepIn K (.ref f6) = true)
    (a7 : PySem.W.nsIn K mainGlobals "by_row" = some (some (.ref f7))) (l7 : K.lookup f7 = some ⟨oc7, od7, .func (PySem.W.fnOf "by_row" "by_row" (defArgs s_by_row) (defBody s_by_row) (defScope s_by_row) .none kV7 dc7 pm7 an7 cd7 ct7), sl7⟩) (c7 : PySem.W.codeIn K cd7 "by_row" = true) (k7 : PySem.W.keepIn K (.ref f7) = true)
    (a8 : PySem.W.nsIn K mainGlobals "row_of" = some (some (.ref f8))) (l8 : K.lookup f8 = some ⟨oc8, od8, .func (PySem.W.fnOf "row_of" "row_of" (defArgs s_row_of) (defBody s_row_of) (defScope s_row_of) .none kV8 dc8 pm8 an8 cd8 ct8), sl8⟩) (c8 : PySem.W.codeIn K cd8 "row_of" = true) (k8 : PySem.W.keepIn K (.ref f8) = true)
    (a9 : PySem.W.nsIn K mainGlobals "_is_step" = some (some (.ref f9))) (l9 : K.lookup f9 = some ⟨oc9, od9, .func (PySem.W.fnOf "_is_step" "_is_step" (defArgs s__is_step) (defBody s__is_step) (defScope s__is_step) .none kV9 dc9 pm9 an9 cd9 ct9), sl9⟩) (c9 : PySem.W.codeIn K cd9 "_is_step" = true) (k9 : PySem.W.keepIn K (.ref f9) = true)
    (a10 : PySem.W.nsIn K mainGlobals "_is_row" = some (some (.ref f10))) (l10 : K.lookup f10 = some ⟨oc10, od10, .func (PySem.W.fnOf "_is_row" "_is_row" (defArgs s__is_row) (defBody s__is_row) (defScope s__is_row) .none kV10 dc10 pm10 an10 cd10 ct10), sl10⟩) (c10 : PySem.W.codeIn K cd10 "_is_row" = true) (k10 : PySem.W.keepIn K (.ref f10) = true)
    (a11 : PySem.W.nsIn K mainGlobals "_is_part" = some (some (.ref f11))) (l11 : K.lookup f11 = some ⟨oc11, od11, .func (PySem.W.fnOf "_is_part" "_is_part" (defArgs s__is_part) (defBody s__is_part) (defScope s__is_part) .none kV11 dc11 pm11 an11 cd11 ct11), sl11⟩) (c11 : PySem.W.codeIn K cd11 "_is_part" = true) (k11 : PySem.W.keepIn K (.ref f11) = true)
    (a12 : PySem.W.nsIn K mainGlobals "_led" = some (some (.ref f12))) (l12 : K.lookup f12 = some ⟨oc12, od12, .func (PySem.W.fnOf "_led" "_led" (defArgs s__led) (defBody s__led) (defScope s__led) .none kV12 dc12 pm12 an12 cd12 ct12), sl12⟩) (c12 : PySem.W.codeIn K cd12 "_led" = true) (k12 : PySem.W.keepIn K (.ref f12) = true)
    (a13 : PySem.W.nsIn K mainGlobals "_led_back" = some (some (.ref f13))) (l13 : K.lookup f13 = some ⟨oc13, od13, .func (PySem.W.fnOf "_led_back" "_led_back" (defArgs s__led_back) (defBody s__led_back) (defScope s__led_back) .none kV13 dc13 pm13 an13 cd13 ct13), sl13⟩) (c13 : PySem.W.codeIn K cd13 "_led_back" = true) (k13 : PySem.W.keepIn K (.ref f13) = true)
    (a14 : PySem.W.nsIn K mainGlobals "_pell" = some (some (.ref f14))) (l14 : K.lookup f14 = some ⟨oc14, od14, .func (PySem.W.fnOf "_pell" "_pell" (defArgs s__pell) (defBody s__pell) (defScope s__pell) .none kV14 dc14 pm14 an14 cd14 ct14), sl14⟩) (c14 : PySem.W.codeIn K cd14 "_pell" = true) (k14 : PySem.W.keepIn K (.ref f14) = true)
    (a15 : PySem.W.nsIn K mainGlobals "_last_step" = some (some (.ref f15))) (l15 : K.lookup f15 = some ⟨oc15, od15, .func (PySem.W.fnOf "_last_step" "_last_step" (defArgs s__last_step) (defBody s__last_step) (defScope s__last_step) .none kV15 dc15 pm15 an15 cd15 ct15), sl15⟩) (c15 : PySem.W.codeIn K cd15 "_last_step" = true) (k15 : PySem.W.keepIn K (.ref f15) = true)
    (a16 : PySem.W.nsIn K mainGlobals "_last_times" = some (some (.ref f16))) (l16 : K.lookup f16 = some ⟨oc16, od16, .func (PySem.W.fnOf "_last_times" "_last_times" (defArgs s__last_times) (defBody s__last_times) (defScope s__last_times) .none kV16 dc16 pm16 an16 cd16 ct16), sl16⟩) (c16 : PySem.W.codeIn K cd16 "_last_times" = true) (k16 : PySem.W.keepIn K (.ref f16) = true)
    (a17 : PySem.W.nsIn K mainGlobals "_last_times_of_1" = some (some (.ref f17))) (l17 : K.lookup f17 = some ⟨oc17, od17, .func (PySem.W.fnOf "_last_times_of_1" "_last_times_of_1" (defArgs s__last_times_of_1) (defBody s__last_times_of_1) (defScope s__last_times_of_1) .none kV17 dc17 pm17 an17 cd17 ct17), sl17⟩) (c17 : PySem.W.codeIn K cd17 "_last_times_of_1" = true) (k17 : PySem.W.keepIn K (.ref f17) = true)
    (a18 : PySem.W.nsIn K mainGlobals "_law_cell_at" = some (some (.ref f18))) (l18 : K.lookup f18 = some ⟨oc18, od18, .func (PySem.W.fnOf "_law_cell_at" "_law_cell_at" (defArgs s__law_cell_at) (defBody s__law_cell_at) (defScope s__law_cell_at) .none kV18 dc18 pm18 an18 cd18 ct18), sl18⟩) (c18 : PySem.W.codeIn K cd18 "_law_cell_at" = true) (k18 : PySem.W.keepIn K (.ref f18) = true)
    (a19 : PySem.W.nsIn K mainGlobals "_law_draw" = some (some (.ref f19))) (l19 : K.lookup f19 = some ⟨oc19, od19, .func (PySem.W.fnOf "_law_draw" "_law_draw" (defArgs s__law_draw) (defBody s__law_draw) (defScope s__law_draw) .none kV19 dc19 pm19 an19 cd19 ct19), sl19⟩) (c19 : PySem.W.codeIn K cd19 "_law_draw" = true) (k19 : PySem.W.keepIn K (.ref f19) = true)
    (a20 : PySem.W.nsIn K mainGlobals "_law_triple" = some (some (.ref f20))) (l20 : K.lookup f20 = some ⟨oc20, od20, .func (PySem.W.fnOf "_law_triple" "_law_triple" (defArgs s__law_triple) (defBody s__law_triple) (defScope s__law_triple) .none kV20 dc20 pm20 an20 cd20 ct20), sl20⟩) (c20 : PySem.W.codeIn K cd20 "_law_triple" = true) (k20 : PySem.W.keepIn K (.ref f20) = true)
    (a21 : PySem.W.nsIn K mainGlobals "_law_common" = some (some (.ref f21))) (l21 : K.lookup f21 = some ⟨oc21, od21, .func (PySem.W.fnOf "_law_common" "_law_common" (defArgs s__law_common) (defBody s__law_common) (defScope s__law_common) .none kV21 dc21 pm21 an21 cd21 ct21), sl21⟩) (c21 : PySem.W.codeIn K cd21 "_law_common" = true) (k21 : PySem.W.keepIn K (.ref f21) = true)
    (a22 : PySem.W.nsIn K mainGlobals "_law_right" = some (some (.ref f22))) (l22 : K.lookup f22 = some ⟨oc22, od22, .func (PySem.W.fnOf "_law_right" "_law_right" (defArgs s__law_right) (defBody s__law_right) (defScope s__law_right) .none kV22 dc22 pm22 an22 cd22 ct22), sl22⟩) (c22 : PySem.W.codeIn K cd22 "_law_right" = true) (k22 : PySem.W.keepIn K (.ref f22) = true)
    (a23 : PySem.W.nsIn K mainGlobals "law" = some (some (.ref f23))) (l23 : K.lookup f23 = some ⟨oc23, od23, .func (PySem.W.fnOf "law" "law" (defArgs s_law) (defBody s_law) (defScope s_law) .none kV23 dc23 pm23 an23 cd23 ct23), sl23⟩) (c23 : PySem.W.codeIn K cd23 "law" = true) (k23 : PySem.W.keepIn K (.ref f23) = true)
    (z_isinstance : PySem.W.nsIn K mainGlobals "isinstance" = some none)
    (z_int : PySem.W.nsIn K mainGlobals "int" = some none)
    (z_bool : PySem.W.nsIn K mainGlobals "bool" = some none)
    (z_tuple : PySem.W.nsIn K mainGlobals "tuple" = some none)
    (z_list : PySem.W.nsIn K mainGlobals "list" = some none)
    (z_len : PySem.W.nsIn K mainGlobals "len" = some none)
    (z_all : PySem.W.nsIn K mainGlobals "all" = some none)
    (z_range : PySem.W.nsIn K mainGlobals "range" = some none)
    (z_isqrt : PySem.W.nsIn K mainGlobals "isqrt" = some (some (.builtin "math.isqrt")))
    (z_gcd : PySem.W.nsIn K mainGlobals "gcd" = some (some (.builtin "math.gcd")))
    (z_R : PySem.W.nsIn K mainGlobals "ROOT" = some (some (.ref aR))) (l_R : K.lookup aR = some ⟨.type "tuple", dR, .seq #[.int 2 t1, .int 1 t2] nR, slR⟩) (z_L : PySem.W.nsIn K mainGlobals "LONGEST_ROW" = some (some (.int 200 tL))) (z_M : PySem.W.nsIn K mainGlobals "MOST_OF_STEP_1" = some (some (.int 1000 tM)))
    : ∃ fd : FuncData, (∀ (s : Shared) (v : Value), BindsTo s fd ⟨[v], []⟩ [("_law_script", v)]) ∧ ∀ base : Heap, K.In base → base.Ns mainGlobals mg → base.NoSeer → FnOk P w K mg base CX0 36 fa fd ["_law_script"] (spF K R_law2) := by
  have e := hfa.symm.trans (PySem.W.mg_of X G a23)
  cases e
  have T : Txt K mg aR tL tM := { isinstance := PySem.W.mg_none_of X G z_isinstance, int := PySem.W.mg_none_of X G z_int, bool := PySem.W.mg_none_of X G z_bool, tuple := PySem.W.mg_none_of X G z_tuple, list := PySem.W.mg_none_of X G z_list, len := PySem.W.mg_none_of X G z_len, all := PySem.W.mg_none_of X G z_all, range := PySem.W.mg_none_of X G z_range, isqrt := PySem.W.mg_of X G z_isqrt, gcd := PySem.W.mg_of X G z_gcd, ROOT := PySem.W.mg_of X G z_R, rootT := fun H => .inr ⟨_, #[.int 2 t1, .int 1 t2], nR, l_R, rfl, rfl, by show 2 ≤ sizeLine; decide, .cons ⟨_, rfl⟩ (.cons ⟨_, rfl⟩ .nil)⟩, LONGEST_ROW := PySem.W.mg_of X G z_L, MOST_OF_STEP_1 := PySem.W.mg_of X G z_M }
  have F0 := fun_mk (st := s_is_whole) l0 c0 k0
  have b0 := F0.binds (ps := P_is_whole) fun _ _ _ _ _ _ us hl => match us, hl with | [_], _ => rfl
  have F1 := fun_mk (st := s_are_whole) l1 c1 k1
  have b1 := F1.binds (ps := P_are_whole) fun _ _ _ _ _ _ us hl => match us, hl with | [_, _], _ => rfl
  have F2 := fun_mk (st := s_is_pair) l2 c2 k2
  have b2 := F2.binds (ps := P_is_pair) fun _ _ _ _ _ _ us hl => match us, hl with | [_], _ => rfl
  have F3 := fun_mk (st := s_formed) l3 c3 k3
  have b3 := F3.binds (ps := P_formed) fun _ _ _ _ _ _ us hl => match us, hl with | [_, _], _ => rfl
  have F4 := fun_mk (st := s_pair_of) l4 c4 k4
  have b4 := F4.binds (ps := P_pair_of) fun _ _ _ _ _ _ us hl => match us, hl with | [_], _ => rfl
  have F5 := fun_mk (st := s_triple_of) l5 c5 k5
  have b5 := F5.binds (ps := P_triple_of) fun _ _ _ _ _ _ us hl => match us, hl with | [_], _ => rfl
  have F6 := fun_mk (st := s_back) l6 c6 k6
  have b6 := F6.binds (ps := P_back) fun _ _ _ _ _ _ us hl => match us, hl with | [_], _ => rfl
  have F7 := fun_mk (st := s_by_row) l7 c7 k7
  have b7 := F7.binds (ps := P_by_row) fun _ _ _ _ _ _ us hl => match us, hl with | [_], _ => rfl
  have F8 := fun_mk (st := s_row_of) l8 c8 k8
  have b8 := F8.binds (ps := P_row_of) fun _ _ _ _ _ _ us hl => match us, hl with | [_], _ => rfl
  have F9 := fun_mk (st := s__is_step) l9 c9 k9
  have b9 := F9.binds (ps := P__is_step) fun _ _ _ _ _ _ us hl => match us, hl with | [_], _ => rfl
  have F10 := fun_mk (st := s__is_row) l10 c10 k10
  have b10 := F10.binds (ps := P__is_row) fun _ _ _ _ _ _ us hl => match us, hl with | [_], _ => rfl
  have F11 := fun_mk (st := s__is_part) l11 c11 k11
  have b11 := F11.binds (ps := P__is_part) fun _ _ _ _ _ _ us hl => match us, hl with | [_], _ => rfl
  have F12 := fun_mk (st := s__led) l12 c12 k12
  have b12 := F12.binds (ps := P__led) fun _ _ _ _ _ _ us hl => match us, hl with | [_, _, _, _], _ => rfl
  have F13 := fun_mk (st := s__led_back) l13 c13 k13
  have b13 := F13.binds (ps := P__led_back) fun _ _ _ _ _ _ us hl => match us, hl with | [_, _, _, _], _ => rfl
  have F14 := fun_mk (st := s__pell) l14 c14 k14
  have b14 := F14.binds (ps := P__pell) fun _ _ _ _ _ _ us hl => match us, hl with | [_], _ => rfl
  have F15 := fun_mk (st := s__last_step) l15 c15 k15
  have b15 := F15.binds (ps := P__last_step) fun _ _ _ _ _ _ us hl => match us, hl with | [_, _], _ => rfl
  have F16 := fun_mk (st := s__last_times) l16 c16 k16
  have b16 := F16.binds (ps := P__last_times) fun _ _ _ _ _ _ us hl => match us, hl with | [_, _, _], _ => rfl
  have F17 := fun_mk (st := s__last_times_of_1) l17 c17 k17
  have b17 := F17.binds (ps := P__last_times_of_1) fun _ _ _ _ _ _ us hl => match us, hl with | [_, _], _ => rfl
  have F18 := fun_mk (st := s__law_cell_at) l18 c18 k18
  have b18 := F18.binds (ps := P__law_cell_at) fun _ _ _ _ _ _ us hl => match us, hl with | [_, _], _ => rfl
  have F19 := fun_mk (st := s__law_draw) l19 c19 k19
  have b19 := F19.binds (ps := P__law_draw) fun _ _ _ _ _ _ us hl => match us, hl with | [_, _, _], _ => rfl
  have F20 := fun_mk (st := s__law_triple) l20 c20 k20
  have b20 := F20.binds (ps := P__law_triple) fun _ _ _ _ _ _ us hl => match us, hl with | [_], _ => rfl
  have F21 := fun_mk (st := s__law_common) l21 c21 k21
  have b21 := F21.binds (ps := P__law_common) fun _ _ _ _ _ _ us hl => match us, hl with | [_, _], _ => rfl
  have F22 := fun_mk (st := s__law_right) l22 c22 k22
  have b22 := F22.binds (ps := P__law_right) fun _ _ _ _ _ _ us hl => match us, hl with | [_, _], _ => rfl
  have F23 := fun_mk (st := s_law) l23 c23 k23
  refine ⟨PySem.W.fnOf "law" "law" (defArgs s_law) (defBody s_law) (defScope s_law) .none kV23 dc23 pm23 an23 cd23 ct23, fun s v => .of_eq rfl, fun base KB GB hS => ?_⟩
  have C_is_whole : Cal P w K mg base CX0 "is_whole" 1 P_is_whole (spF K R_is_whole) := cal_of (PySem.W.mg_of X G a0) k0 b0 (ok_is_whole (w := w) F0 T )
  have C_formed : Cal P w K mg base CX0 "formed" 1 P_formed (spF K R_formed) := cal_of (PySem.W.mg_of X G a3) k3 b3 (ok_formed (w := w) F3 T )
  have C__pell : Cal P w K mg base CX0 "_pell" 1 P__pell (spF K R__pell) := cal_of (PySem.W.mg_of X G a14) k14 b14 (ok__pell (w := w) F14 T )
  have C__last_step : Cal P w K mg base CX0 "_last_step" 1 P__last_step (spF K R__last_step) := cal_of (PySem.W.mg_of X G a15) k15 b15 (ok__last_step (w := w) F15 T )
  have C__law_cell_at : Cal P w K mg base CX0 "_law_cell_at" 1 P__law_cell_at (spF K R__law_cell_at) := cal_of (PySem.W.mg_of X G a18) k18 b18 (ok__law_cell_at (w := w) F18 T )
  have C__law_draw : Cal P w K mg base CX0 "_law_draw" 1 P__law_draw (spF K R__law_draw) := cal_of (PySem.W.mg_of X G a19) k19 b19 (ok__law_draw (w := w) F19 T )
  have C__law_triple : Cal P w K mg base CX0 "_law_triple" 1 P__law_triple (spF K R__law_triple) := cal_of (PySem.W.mg_of X G a20) k20 b20 (ok__law_triple (w := w) F20 T )
  have C__law_common : Cal P w K mg base CX0 "_law_common" 1 P__law_common (spF K R__law_common) := cal_of (PySem.W.mg_of X G a21) k21 b21 (ok__law_common (w := w) F21 T )
  have C_are_whole : Cal P w K mg base CX0 "are_whole" 2 P_are_whole (spF K R_are_whole) := cal_of (PySem.W.mg_of X G a1) k1 b1 (ok_are_whole (w := w) F1 T C_is_whole)
  have C__is_step : Cal P w K mg base CX0 "_is_step" 2 P__is_step (spF K R__is_step) := cal_of (PySem.W.mg_of X G a9) k9 b9 (ok__is_step (w := w) F9 T C_is_whole)
  have C__led : Cal P w K mg base CX0 "_led" 2 P__led (spF K R__led) := cal_of (PySem.W.mg_of X G a12) k12 b12 (ok__led (w := w) F12 T C__pell)
  have C__led_back : Cal P w K mg base CX0 "_led_back" 2 P__led_back (spF K R__led_back) := cal_of (PySem.W.mg_of X G a13) k13 b13 (ok__led_back (w := w) F13 T C__pell)
  have C_is_pair : Cal P w K mg base CX0 "is_pair" 3 P_is_pair (spF K R_is_pair) := cal_of (PySem.W.mg_of X G a2) k2 b2 (ok_is_pair (w := w) F2 T C_are_whole)
  have C__is_part : Cal P w K mg base CX0 "_is_part" 3 P__is_part (spF K R__is_part) := cal_of (PySem.W.mg_of X G a11) k11 b11 (ok__is_part (w := w) F11 T C_are_whole C__is_step)
  have C__last_times_of_1 : Cal P w K mg base CX0 "_last_times_of_1" 3 P__last_times_of_1 (spF K R__last_times_of_1) := cal_of (PySem.W.mg_of X G a17) k17 b17 (ok__last_times_of_1 (w := w) F17 T C__led_back)
  have C_triple_of : Cal P w K mg base CX0 "triple_of" 4 P_triple_of (spF K R_triple_of) := cal_of (PySem.W.mg_of X G a5) k5 b5 (ok_triple_of (w := w) F5 T C_is_pair C_formed)
  have C__is_row : Cal P w K mg base CX0 "_is_row" 4 P__is_row (spF K R__is_row) := cal_of (PySem.W.mg_of X G a10) k10 b10 (ok__is_row (w := w) F10 T C__is_part)
  have C_by_row : Cal P w K mg base CX0 "by_row" 5 P_by_row (spF K R_by_row) := cal_of (PySem.W.mg_of X G a7) k7 b7 (ok_by_row (w := w) F7 T C__is_row C__led C_formed)
  have C_pair_of : Cal P w K mg base CX0 "pair_of" 33 P_pair_of (spF K R_pair_of) := cal_of (PySem.W.mg_of X G a4) k4 b4 (ok_pair_of (w := w) F4 T hS ht C_are_whole C_formed C_is_pair)
  have C__last_times : Cal P w K mg base CX0 "_last_times" 33 P__last_times (spF K R__last_times) := cal_of (PySem.W.mg_of X G a16) k16 b16 (ok__last_times (w := w) F16 T hS ht C__last_times_of_1)
  have C_back : Cal P w K mg base CX0 "back" 34 P_back (spF K R_back) := cal_of (PySem.W.mg_of X G a6) k6 b6 (ok_back (w := w) F6 T C_pair_of C__last_step C__led_back C_formed)
  have C_row_of : Cal P w K mg base CX0 "row_of" 34 P_row_of (spL K R_row_of) := cal_of (PySem.W.mg_of X G a8) k8 b8 (ok_row_of (w := w) F8 T C_pair_of C__last_step C__last_times C__led_back)
  have C__law_right : Cal P w K mg base CX0 "_law_right" 35 P__law_right (spF K R__law_right2) := cal_of (PySem.W.mg_of X G a22) k22 b22 (ok__law_right (w := w) F22 T C_triple_of C__law_triple C_pair_of C_row_of C_by_row C_back)
  exact ok_law F23 T C__law_draw C__law_cell_at C__law_common C__law_right C_row_of C_triple_of
end Sq

open PySem PySem.W PyProof.Rows in
set_option maxRecDepth 100000 in
set_option maxHeartbeats 0 in
theorem PySem.Challenge.cw_squaretree_k02_tried_holds : PySem.Challenge.rw_squaretree_k02_tried.Holds := by
  w_on; o_law; k_head; (case hw => w_witness2)
  k_fill
  refine Sq.walk_S (l := PySem.Challenge.rw_squaretree_k02_tried) (k := 36) (x := "_law_script") (R := Sq.R_law2) rfl rfl ⟨rfl, by decide, by decide⟩ (by decide +kernel) (fun w h Y => PySem.W.kIn_of Y) ?F ?S
  case S => exact fun ns h1 h2 => ⟨ns, rfl, h1, h2, rfl⟩
  case F =>
    intro w mg fa h KX G hmg
    refine' Sq.all_mk KX G hmg rfl ?a0 ?l0 ?c0 ?k0 ?a1 ?l1 ?c1 ?k1 ?a2 ?l2 ?c2 ?k2 ?a3 ?l3 ?c3 ?k3 ?a4 ?l4 ?c4 ?k4 ?a5 ?l5 ?c5 ?k5 ?a6 ?l6 ?c6 ?k6 ?a7 ?l7 ?c7 ?k7 ?a8 ?l8 ?c8 ?k8 ?a9 ?l9 ?c9 ?k9 ?a10 ?l10 ?c10 ?k10 ?a11 ?l11 ?c11 ?k11 ?a12 ?l12 ?c12 ?k12 ?a13 ?l13 ?c13 ?k13 ?a14 ?l14 ?c14 ?k14 ?a15 ?l15 ?c15 ?k15 ?a16 ?l16 ?c16 ?k16 ?a17 ?l17 ?c17 ?k17 ?a18 ?l18 ?c18 ?k18 ?a19 ?l19 ?c19 ?k19 ?a20 ?l20 ?c20 ?k20 ?a21 ?l21 ?c21 ?k21 ?a22 ?l22 ?c22 ?k22 ?a23 ?l23 ?c23 ?k23 ?z_isinstance ?z_int ?z_bool ?z_tuple ?z_list ?z_len ?z_all ?z_range ?z_isqrt ?z_gcd ?z_R ?l_R ?z_L ?z_M
    (case a0 => k_is)
    (case l0 => k_is)
    (case c0 => k_is)
    (case k0 => k_is)
    (case a1 => k_is)
    (case l1 => k_is)
    (case c1 => k_is)
    (case k1 => k_is)
    (case a2 => k_is)
    (case l2 => k_is)
    (case c2 => k_is)
    (case k2 => k_is)
    (case a3 => k_is)
    (case l3 => k_is)
    (case c3 => k_is)
    (case k3 => k_is)
    (case a4 => k_is)
    (case l4 => k_is)
    (case c4 => k_is)
    (case k4 => k_is)
    (case a5 => k_is)
    (case l5 => k_is)
    (case c5 => k_is)
    (case k5 => k_is)
    (case a6 => k_is)
    (case l6 => k_is)
    (case c6 => k_is)
    (case k6 => k_is)
    (case a7 => k_is)
    (case l7 => k_is)
    (case c7 => k_is)
    (case k7 => k_is)
    (case a8 => k_is)
    (case l8 => k_is)
    (case c8 => k_is)
    (case k8 => k_is)
    (case a9 => k_is)
    (case l9 => k_is)
    (case c9 => k_is)
    (case k9 => k_is)
    (case a10 => k_is)
    (case l10 => k_is)
    (case c10 => k_is)
    (case k10 => k_is)
    (case a11 => k_is)
    (case l11 => k_is)
    (case c11 => k_is)
    (case k11 => k_is)
    (case a12 => k_is)
    (case l12 => k_is)
    (case c12 => k_is)
    (case k12 => k_is)
    (case a13 => k_is)
    (case l13 => k_is)
    (case c13 => k_is)
    (case k13 => k_is)
    (case a14 => k_is)
    (case l14 => k_is)
    (case c14 => k_is)
    (case k14 => k_is)
    (case a15 => k_is)
    (case l15 => k_is)
    (case c15 => k_is)
    (case k15 => k_is)
    (case a16 => k_is)
    (case l16 => k_is)
    (case c16 => k_is)
    (case k16 => k_is)
    (case a17 => k_is)
    (case l17 => k_is)
    (case c17 => k_is)
    (case k17 => k_is)
    (case a18 => k_is)
    (case l18 => k_is)
    (case c18 => k_is)
    (case k18 => k_is)
    (case a19 => k_is)
    (case l19 => k_is)
    (case c19 => k_is)
    (case k19 => k_is)
    (case a20 => k_is)
    (case l20 => k_is)
    (case c20 => k_is)
    (case k20 => k_is)
    (case a21 => k_is)
    (case l21 => k_is)
    (case c21 => k_is)
    (case k21 => k_is)
    (case a22 => k_is)
    (case l22 => k_is)
    (case c22 => k_is)
    (case k22 => k_is)
    (case a23 => k_is)
    (case l23 => k_is)
    (case c23 => k_is)
    (case k23 => k_is)
    (case z_isinstance => k_is)
    (case z_int => k_is)
    (case z_bool => k_is)
    (case z_tuple => k_is)
    (case z_list => k_is)
    (case z_len => k_is)
    (case z_all => k_is)
    (case z_range => k_is)
    (case z_isqrt => k_is)
    (case z_gcd => k_is)
    (case z_R => k_is)
    (case l_R => k_is)
    (case z_L => k_is)
    (case z_M => k_is)

/- Plain facts on powers of two, logarithms and rounded division, as the document's layer 1 tells them. No condition; no program is named here. -/
import Derived.Lib.BitFns
namespace Go.Proofs.YtdcnpaodcjfdbaaGreatDoor
open Go.Lib

/-- How often 1 may be doubled till it would be above n; -1. -/
def logI (n : Int) : Int := if n < 1 then -1 else (Nat.log2 n.toNat : Int)
/-- The least power of two that isn't below n; 0. -/
def upI (n : Int) : Int := if n < 2 then 1 else if 62 < Nat.log2 (n - 1).toNat + 1 then 0 else ((2 ^ (Nat.log2 (n - 1).toNat + 1) : Nat) : Int)
/-- Is it a power of two? -/
def isB (n : Int) : Bool := decide (1 ≤ n ∧ n.toNat = 2 ^ Nat.log2 n.toNat)
/-- Divided, rounded up; 0. -/
def divI (n b : Int) : Int := if n < 1 ∨ b < 1 then 0 else (n - 1) / b + 1
/-- Which small size; -1. -/
def ordI (n : Int) : Int := if n = 16 then 0 else if n = 32 then 1 else if n = 64 then 2 else if n = 128 then 3 else -1

theorem log2_two (n : Nat) (h : 2 ≤ n) : Nat.log2 n = Nat.log2 (n / 2) + 1 := by
  rw [Nat.log2_def, if_pos h]
theorem log2_small (n : Nat) (h : n < 2) : Nat.log2 n = 0 := by
  rw [Nat.log2_def, if_neg (by omega)]

theorem bitLen_log2 : ∀ (k x : Nat), x < 2 ^ k → k ≤ 64 → bitLen x = if x = 0 then 0 else Nat.log2 x + 1
  | 0, x, h, _ => by
    obtain rfl : x = 0 := by simpa using h
    decide
  | k + 1, x, h, hk => by
    by_cases h0 : x = 0
    · subst h0; decide
    · have hx : x < 2 ^ 64 := Nat.lt_of_lt_of_le h (Nat.pow_le_pow_right (by omega) hk)
      rw [bitLen_half x h0 hx, bitLen_log2 k (x / 2) (by rw [Nat.pow_succ] at h; omega) (by omega), if_neg h0]
      by_cases h2 : x < 2
      · rw [log2_small x h2, if_pos (by omega)]
      · rw [log2_two x (by omega), if_neg (by omega)]; omega

theorem bitLen_of (x : Nat) (h : x < 2 ^ 64) (h0 : x ≠ 0) : bitLen x = Nat.log2 x + 1 := by
  rw [bitLen_log2 64 x h (by omega), if_neg h0]

theorem log2_lt63 (x : Nat) (h : x < 2 ^ 63) : Nat.log2 x ≤ 62 := by
  by_cases h0 : x = 0
  · subst h0; decide
  · have := (Nat.log2_lt h0).2 h; omega

theorem and_pred_even (m : Nat) (h : 1 ≤ m) : (2 * m) &&& (2 * m - 1) = 2 * (m &&& (m - 1)) := by
  apply Nat.eq_of_testBit_eq
  intro i
  cases i with
  | zero => simp [Nat.testBit_zero]
  | succ i =>
    rw [Nat.testBit_and]
    simp only [Nat.testBit_succ]
    rw [show 2 * m / 2 = m by omega, show (2 * m - 1) / 2 = m - 1 by omega, show 2 * (m &&& (m - 1)) / 2 = (m &&& (m - 1)) by omega, Nat.testBit_and]

theorem and_pred_odd (m : Nat) : (2 * m + 1) &&& (2 * m) = 2 * m := by
  apply Nat.eq_of_testBit_eq
  intro i
  cases i with
  | zero => simp [Nat.testBit_zero]
  | succ i =>
    rw [Nat.testBit_and]
    simp only [Nat.testBit_succ]
    rw [show (2 * m + 1) / 2 = m by omega, show 2 * m / 2 = m by omega]
    simp

theorem and_pred_zero : ∀ (f n : Nat), n ≤ f → 1 ≤ n → (n &&& (n - 1) = 0 ↔ n = 2 ^ Nat.log2 n)
  | 0, n, h, h1 => by omega
  | f + 1, n, h, h1 => by
    by_cases he : n % 2 = 0
    · obtain ⟨m, rfl⟩ : ∃ m, n = 2 * m := ⟨n / 2, by omega⟩
      have ih := and_pred_zero f m (by omega) (by omega)
      rw [and_pred_even m (by omega), log2_two (2 * m) (by omega), show 2 * m / 2 = m by omega, Nat.pow_succ]
      constructor
      · intro h2; have := ih.1 (by omega); omega
      · intro h2; have := ih.2 (by omega); omega
    · obtain ⟨m, rfl⟩ : ∃ m, n = 2 * m + 1 := ⟨n / 2, by omega⟩
      rw [show 2 * m + 1 - 1 = 2 * m by omega, and_pred_odd]
      by_cases h0 : m = 0
      · subst h0; decide
      · rw [log2_two (2 * m + 1) (by omega), Nat.pow_succ]
        constructor
        · intro h2; omega
        · intro h2; omega

theorem isB_and (n : Nat) (h : 1 ≤ n) : isB (n : Int) = decide (n &&& (n - 1) = 0) := by
  unfold isB
  rw [Bool.eq_iff_iff, decide_eq_true_iff, decide_eq_true_iff, and_pred_zero n n (Nat.le_refl _) h]
  simp; omega

theorem isB_half (n : Int) (h : 1 < n) (h2 : n % 2 = 0) : isB (n / 2) = isB n := by
  unfold isB
  have e : (n / 2).toNat = n.toNat / 2 := by omega
  rw [Bool.eq_iff_iff, decide_eq_true_iff, decide_eq_true_iff, e, log2_two n.toNat (by omega), Nat.pow_succ]
  constructor
  · rintro ⟨a, b⟩; exact ⟨by omega, by omega⟩
  · rintro ⟨a, b⟩; exact ⟨by omega, by omega⟩

theorem isB_end (n : Int) (h : ¬ (1 < n ∧ n % 2 = 0)) : isB n = decide (n = 1) := by
  unfold isB
  rw [Bool.eq_iff_iff, decide_eq_true_iff, decide_eq_true_iff]
  by_cases h1 : n = 1
  · subst h1; decide
  · constructor
    · rintro ⟨a, b⟩
      exfalso
      rw [log2_two n.toNat (by omega), Nat.pow_succ] at b
      omega
    · intro h2; exact absurd h2 h1

theorem div_ceil (n b : Int) (hb : 1 ≤ b) : (if n % b > 0 then n / b + 1 else n / b) = (n - 1) / b + 1 := by
  have e := Int.mul_ediv_add_emod n b
  have m0 := Int.emod_nonneg n (show b ≠ 0 by omega)
  have m1 := Int.emod_lt_of_pos n (show 0 < b by omega)
  by_cases h : n % b > 0
  · rw [if_pos h]
    have : (n - 1) / b = n / b := by
      rw [Int.ediv_eq_iff_of_pos (by omega)]
      constructor
      · rw [Int.mul_comm]; omega
      · rw [Int.mul_comm]; omega
    omega
  · rw [if_neg h]
    have : (n - 1) / b = n / b - 1 := by
      rw [Int.ediv_eq_iff_of_pos (by omega)]
      constructor
      · rw [Int.sub_mul, Int.mul_comm]; omega
      · rw [Int.sub_mul, Int.mul_comm]; omega
    omega

theorem div_ups (n b : Int) (hb : 1 ≤ b) : n ≤ ((n - 1) / b + 1) * b ∧ ((n - 1) / b + 1) * b < n + b := by
  have e := Int.mul_ediv_add_emod (n - 1) b
  have m0 := Int.emod_nonneg (n - 1) (show b ≠ 0 by omega)
  have m1 := Int.emod_lt_of_pos (n - 1) (show 0 < b by omega)
  rw [Int.add_mul, Int.mul_comm]
  omega

/-- x is 2^k, and 2^(k-1) is below n: so at the first k at which x isn't below n, it is what is asked. -/
theorem upI_at (n : Int) (k : Nat) (hk : k ≤ 62) (h1 : n ≤ ((2 ^ k : Nat) : Int)) (h2 : ∀ j, k = j + 1 → ((2 ^ j : Nat) : Int) < n) : upI n = ((2 ^ k : Nat) : Int) := by
  unfold upI
  cases k with
  | zero => rw [if_pos (by simp at h1; omega)]; rfl
  | succ j =>
    have h2' := h2 j rfl
    have hp := Nat.one_le_two_pow (n := j)
    rw [if_neg (by omega)]
    have e : Nat.log2 (n - 1).toNat = j := by
      have : (n - 1).toNat ≠ 0 := by omega
      rw [Nat.log2_eq_iff this]
      constructor
      · omega
      · rw [Nat.pow_succ] at h1 ⊢; omega
    rw [e, if_neg (by omega)]

theorem upI_none (n : Int) (h : ((2 ^ 62 : Nat) : Int) < n) : upI n = 0 := by
  unfold upI
  rw [if_neg (by omega), if_pos]
  have : (n - 1).toNat ≠ 0 := by omega
  have := (Nat.le_log2 this (k := 62)).2 (by omega)
  omega

/-- What is asked of a number that is rounded up. -/
theorem upI_facts (n : Int) (h1 : 1 ≤ n) (h2 : n ≤ 2305843009213693952) :
    isB (upI n) = true ∧ n ≤ upI n ∧ upI n < 2 * n ∧ upI (upI n) = upI n ∧ logI n ≤ logI (upI n) ∧ upI n ≤ 2305843009213693952 := by
  obtain ⟨k, hk, e, a, b⟩ : ∃ k : Nat, k ≤ 61 ∧ upI n = ((2 ^ k : Nat) : Int) ∧ n ≤ ((2 ^ k : Nat) : Int) ∧ ((2 ^ k : Nat) : Int) < 2 * n := by
    by_cases h : n < 2
    · exact ⟨0, by omega, by unfold upI; rw [if_pos h]; rfl, by simp; omega, by simp; omega⟩
    · have h0 : (n - 1).toNat ≠ 0 := by omega
      have hl := Nat.log2_self_le h0
      have hu := Nat.lt_log2_self (n := (n - 1).toNat)
      have hlt : Nat.log2 (n - 1).toNat < 61 := (Nat.log2_lt h0).2 (by omega)
      refine ⟨Nat.log2 (n - 1).toNat + 1, by omega, by unfold upI; rw [if_neg h, if_neg (by omega)], by omega, by rw [Nat.pow_succ]; omega⟩
  have hp := Nat.one_le_two_pow (n := k)
  have hk2 : (2 ^ k : Nat) ≤ 2 ^ 61 := Nat.pow_le_pow_right (by omega) hk
  rw [e]
  refine ⟨?_, a, b, ?_, ?_, by omega⟩
  · unfold isB; exact decide_eq_true ⟨by omega, by rw [Int.toNat_natCast, Nat.log2_two_pow]⟩
  · apply upI_at _ k (by omega) (Int.le_refl _)
    intro j hj; subst hj; rw [Nat.pow_succ]; have := Nat.one_le_two_pow (n := j); omega
  · unfold logI
    rw [if_neg (by omega), if_neg (by omega)]
    simp only [Int.toNat_natCast, Nat.log2_two_pow]
    have h0 : n.toNat ≠ 0 := by omega
    have : Nat.log2 n.toNat < k + 1 := (Nat.log2_lt h0).2 (by rw [Nat.pow_succ]; omega)
    omega

end Go.Proofs.YtdcnpaodcjfdbaaGreatDoor

/- How great a stack is to be (layer 18): plain functions. No program is named here. -/
import Derived.Test.YtbglldgpijglpaaPlyBase
namespace Go.Proofs.Ytbglldgpijglpaa
open Go.RowKit
set_option linter.unusedVariables false

/-- May it be a limit? -/
def plLim (n : Int) : Bool := stkSz n && decide (n ≤ 65536)
/-- Doubled till it isn't below. -/
def plDbl : Nat → Int → Int → Int
  | 0, s, _ => s
  | k + 1, s, t => if s < t then plDbl k (2 * s) t else s
/-- The size of a stack of so many words; the error's number. -/
def plFirst (words limit : Int) : Int × Int := if plLim limit = false ∨ words < 1 then (0, 1) else if limit < words then (0, 4) else (plDbl 20 16 words, 0)
/-- The size that one grows to; the error's number. -/
def plGrow (size used more limit : Int) : Int × Int :=
  if plLim limit = false ∨ stkSz size = false ∨ limit < size ∨ used < 0 ∨ size < used ∨ more < 0 then (0, 1) else if limit < used + more then (0, 4) else (plDbl 20 size (used + more), 0)
/-- The size that one shrinks to; does it? -/
def plShrink (size used : Int) : Int × Bool := if stkSz size = true ∧ size ≠ 16 ∧ 0 ≤ used ∧ 4 * used ≤ size then (size / 2, true) else (size, false)

theorem stkSz_pow {n : Int} (h : stkSz n = true) : ∃ k : Nat, 4 ≤ k ∧ n = ((2 ^ k : Nat) : Int) := by
  unfold stkSz isB at h
  rw [Bool.and_eq_true, decide_eq_true_iff, decide_eq_true_iff] at h
  refine ⟨Nat.log2 n.toNat, ?_, by omega⟩
  refine Decidable.byContradiction fun c => ?_
  have : 2 ^ Nat.log2 n.toNat ≤ 2 ^ 3 := Nat.pow_le_pow_right (by omega) (by omega)
  omega
theorem pow_stkSz (k : Nat) (hk : 4 ≤ k) : stkSz ((2 ^ k : Nat) : Int) = true := by
  have h4 : 2 ^ 4 ≤ 2 ^ k := Nat.pow_le_pow_right (by omega) hk
  unfold stkSz isB
  rw [Bool.and_eq_true, decide_eq_true_iff, decide_eq_true_iff]
  exact ⟨by omega, by omega, by rw [Int.toNat_natCast, Nat.log2_two_pow]⟩
theorem stkSz_two {n : Int} (h : stkSz n = true) : stkSz (2 * n) = true := by
  obtain ⟨k, hk, rfl⟩ := stkSz_pow h
  have e : (2 * ((2 ^ k : Nat) : Int)) = ((2 ^ (k + 1) : Nat) : Int) := by rw [Nat.pow_succ]; omega
  rw [e]; exact pow_stkSz _ (by omega)
theorem stkSz_half {n : Int} (h : stkSz n = true) (h16 : n ≠ 16) : stkSz (n / 2) = true ∧ 2 * (n / 2) = n ∧ n % 4 = 0 := by
  obtain ⟨k, hk, rfl⟩ := stkSz_pow h
  have hk5 : 5 ≤ k := by
    refine Decidable.byContradiction fun c => ?_
    obtain rfl : k = 4 := by omega
    exact h16 rfl
  obtain ⟨j, rfl⟩ : ∃ j, k = j + 2 := ⟨k - 2, by omega⟩
  have e : 2 ^ (j + 2) = 4 * 2 ^ j := by rw [Nat.pow_add]; omega
  have e2 : 2 ^ (j + 1) = 2 * 2 ^ j := by rw [Nat.pow_succ]; omega
  have e3 : (((2 ^ (j + 2) : Nat) : Int) / 2) = ((2 ^ (j + 1) : Nat) : Int) := by rw [e, e2]; omega
  rw [e3]
  exact ⟨pow_stkSz _ (by omega), by rw [e, e2]; omega, by rw [e]; omega⟩
theorem stkSz_16 {n : Int} (h : stkSz n = true) : 16 ≤ n := by unfold stkSz at h; simp at h; exact h.1
theorem stkSz_lt {a b : Int} (ha : stkSz a = true) (hb : stkSz b = true) (h : a < b) : 2 * a ≤ b := by
  obtain ⟨i, hi, rfl⟩ := stkSz_pow ha
  obtain ⟨j, hj, rfl⟩ := stkSz_pow hb
  have hij : i < j := by
    refine Decidable.byContradiction fun c => ?_
    have : 2 ^ j ≤ 2 ^ i := Nat.pow_le_pow_right (by omega) (by omega)
    omega
  have : 2 ^ (i + 1) ≤ 2 ^ j := Nat.pow_le_pow_right (by omega) hij
  rw [Nat.pow_succ] at this
  omega
theorem plDbl_stop (k : Nat) {s t : Int} (h : ¬ s < t) : plDbl k s t = s := by
  cases k with
  | zero => rfl
  | succ k => unfold plDbl; rw [if_neg h]
theorem plDbl_go (k : Nat) {s t : Int} (h : s < t) : plDbl (k + 1) s t = plDbl k (2 * s) t := by rw [plDbl, if_pos h]
/-- What is doubled till it isn't below. -/
theorem plDbl_facts {L t : Int} (hL : stkSz L = true) (ht : t ≤ L) : ∀ (k : Nat) (s : Int), stkSz s = true → s ≤ L → t ≤ s * (2 ^ k : Nat) →
    stkSz (plDbl k s t) = true ∧ t ≤ plDbl k s t ∧ plDbl k s t ≤ L ∧ s ≤ plDbl k s t ∧ (plDbl k s t = s ∨ plDbl k s t < 2 * t)
  | 0, s, hs, hsL, h => by
    have h' : t ≤ s := by simpa using h
    exact ⟨hs, h', hsL, Int.le_refl _, Or.inl rfl⟩
  | k + 1, s, hs, hsL, h => by
    by_cases hlt : s < t
    · rw [plDbl_go k hlt]
      have h16 := stkSz_16 hs
      have h2L := stkSz_lt hs hL (by omega)
      have hn : t ≤ 2 * s * (2 ^ k : Nat) := by
        have e : s * ((2 ^ (k + 1) : Nat) : Int) = 2 * s * ((2 ^ k : Nat) : Int) := by
          rw [Nat.pow_succ, Int.natCast_mul, ← Int.mul_assoc, Int.mul_comm (s * _), ← Int.mul_assoc]; rfl
        rw [← e]; exact h
      obtain ⟨r1, r2, r3, r4, r5⟩ := plDbl_facts hL ht k (2 * s) (stkSz_two hs) h2L hn
      refine ⟨r1, r2, r3, by omega, Or.inr ?_⟩
      rcases r5 with r5 | r5 <;> omega
    · rw [plDbl_stop (k + 1) hlt]
      exact ⟨hs, by omega, hsL, Int.le_refl _, Or.inl rfl⟩
theorem plLim_facts {n : Int} (h : plLim n = true) : stkSz n = true ∧ n ≤ 65536 := by
  unfold plLim at h; rw [Bool.and_eq_true, decide_eq_true_iff] at h; exact h
theorem fuel20 {s t : Int} (hs : 16 ≤ s) (ht : t ≤ 65536) : t ≤ s * (2 ^ 20 : Nat) := by
  have e : ((2 ^ 20 : Nat) : Int) = 1048576 := rfl
  rw [e]; omega
theorem plFirst_ok {words limit n : Int} (h : plFirst words limit = (n, 0)) : stkSz n = true ∧ n ≤ limit ∧ words ≤ n ∧ (n = 16 ∨ n < 2 * words) := by
  unfold plFirst at h
  split at h
  · injection h with _ h; exact absurd h (by decide)
  · rename_i h1
    split at h
    · injection h with _ h; exact absurd h (by decide)
    · rename_i h2
      injection h with h _
      subst h
      obtain ⟨l1, l2⟩ := plLim_facts (n := limit) (by cases hh : plLim limit with | true => rfl | false => exact absurd (Or.inl hh) h1)
      have l3 := stkSz_16 l1
      obtain ⟨r1, r2, r3, r4, r5⟩ := plDbl_facts l1 (t := words) (by omega) 20 16 (by decide +kernel) l3 (fuel20 (by omega) (by omega))
      exact ⟨r1, r3, r2, r5⟩
theorem plGrow_ok {size used more limit n : Int} (h : plGrow size used more limit = (n, 0)) : plLim limit = true ∧ stkSz size = true ∧ size ≤ limit ∧ 0 ≤ used ∧ used ≤ size ∧ 0 ≤ more ∧ used + more ≤ limit ∧ stkSz n = true ∧ n ≤ limit ∧ used + more ≤ n ∧ size ≤ n ∧ (n = size ∨ n < 2 * (used + more)) := by
  unfold plGrow at h
  split at h
  · injection h with _ h; exact absurd h (by decide)
  · rename_i h1
    split at h
    · injection h with _ h; exact absurd h (by decide)
    · rename_i h2
      injection h with h _
      subst h
      have hl : plLim limit = true := by cases hh : plLim limit with | true => rfl | false => exact absurd (Or.inl hh) h1
      have hs : stkSz size = true := by cases hh : stkSz size with | true => rfl | false => exact absurd (Or.inr (Or.inl hh)) h1
      obtain ⟨l1, l2⟩ := plLim_facts hl
      have l3 := stkSz_16 hs
      obtain ⟨r1, r2, r3, r4, r5⟩ := plDbl_facts l1 (t := used + more) (by omega) 20 size hs (by omega) (fuel20 l3 (by omega))
      exact ⟨hl, hs, by omega, by omega, by omega, by omega, by omega, r1, r3, r2, r4, r5⟩
theorem plShrink_ok {size used n : Int} (h : plShrink size used = (n, true)) : stkSz n = true ∧ 2 * n = size ∧ used ≤ n / 2 ∧ 0 ≤ used ∧ stkSz size = true := by
  unfold plShrink at h
  split at h
  · rename_i h1
    injection h with h _
    subst h
    obtain ⟨r1, r2, r3⟩ := stkSz_half h1.1 h1.2.1
    exact ⟨r1, r2, by omega, h1.2.2.1, h1.1⟩
  · injection h with _ h; cases h
theorem plShrink_no {size used n : Int} (h : plShrink size used = (n, false)) : n = size := by
  unfold plShrink at h
  split at h
  · injection h with _ h; cases h
  · injection h with h _; exact h.symm
/-- What has just grown doesn't shrink. -/
theorem plGrow_calm {size used more limit n : Int} (h : plGrow size used more limit = (n, 0)) (hn : size < n) : (plShrink n (used + more)).2 = false := by
  obtain ⟨_, _, _, _, _, _, _, _, _, _, _, r⟩ := plGrow_ok h
  unfold plShrink
  split
  · rename_i h1; omega
  · rfl
/-- What has shrunk takes as much again. -/
theorem plShrink_calm {size used more limit n half : Int} (h : plGrow size used more limit = (n, 0)) (hs : plShrink size used = (half, true)) : plGrow half used used limit = (half, 0) := by
  obtain ⟨g1, g2, g3, g4, g5, _⟩ := plGrow_ok h
  obtain ⟨s1, s2, s3, s4, _⟩ := plShrink_ok hs
  have h16 := stkSz_16 s1
  unfold plGrow
  rw [if_neg (by rw [g1, s1]; simp; omega), if_neg (by omega), plDbl_stop 20 (by omega)]
end Go.Proofs.Ytbglldgpijglpaa

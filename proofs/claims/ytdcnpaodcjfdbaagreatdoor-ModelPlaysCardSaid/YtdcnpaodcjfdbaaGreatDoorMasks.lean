/- The bitwise operations of natural numbers with some constants, as sums and remainders. No program is named here. -/
import Derived.Test.YtdcnpaodcjfdbaaGreatDoorBits
namespace Go.Proofs.YtdcnpaodcjfdbaaGreatDoor

/-- A run of j ones from the bit k on. -/
theorem and_mask (x k j : Nat) : x &&& ((2 ^ j - 1) <<< k) = (x / 2 ^ k % 2 ^ j) * 2 ^ k := by
  rw [← Nat.shiftLeft_eq]
  apply Nat.eq_of_testBit_eq
  intro i
  rw [Nat.testBit_and, Nat.testBit_shiftLeft, Nat.testBit_shiftLeft, Nat.testBit_mod_two_pow, Nat.testBit_two_pow_sub_one, Nat.testBit_div_two_pow]
  by_cases h : i ≥ k
  · have e : i - k + k = i := by omega
    rw [e]
    simp [h, Bool.and_comm]
  · simp [h]

theorem or_high (x : Nat) (h : x < 18446744073709551616) : x ||| 9223372036854775808 = x % 9223372036854775808 + 9223372036854775808 := by
  have e1 : x ||| 2 ^ 63 = (x % 2 ^ 63) ||| 2 ^ 63 := by
    apply Nat.eq_of_testBit_eq
    intro i
    rw [Nat.testBit_or, Nat.testBit_or, Nat.testBit_mod_two_pow, Nat.testBit_two_pow]
    by_cases hi : i < 63
    · simp [hi]
    · by_cases h63 : i = 63
      · simp [h63]
      · have : x.testBit i = false := Nat.testBit_lt_two_pow (Nat.lt_of_lt_of_le h (show (18446744073709551616 : Nat) ≤ 2 ^ i from Nat.pow_le_pow_right (n := 2) (by omega) (show 64 ≤ i by omega)))
        simp [this]
  have e2 := Nat.two_pow_add_eq_or_of_lt (i := 63) (b := x % 2 ^ 63) (Nat.mod_lt _ (by omega)) 1
  rw [Nat.mul_one] at e2
  rw [show (9223372036854775808 : Nat) = 2 ^ 63 by rfl, e1, Nat.or_comm, ← e2]; omega

theorem xor_high (x : Nat) (h : x < 18446744073709551616) : x ^^^ 9223372036854775808 = if x < 9223372036854775808 then x + 9223372036854775808 else x - 9223372036854775808 := by
  have t : ∀ r, r < 9223372036854775808 → r ^^^ 2 ^ 63 = 2 ^ 63 + r := by
    intro r hr
    have e2 := Nat.two_pow_add_eq_or_of_lt (i := 63) (b := r) hr 1
    rw [Nat.mul_one] at e2
    rw [e2]
    apply Nat.eq_of_testBit_eq
    intro i
    rw [Nat.testBit_or, Nat.testBit_xor, Nat.testBit_two_pow]
    by_cases h63 : 63 = i
    · subst h63
      have : r.testBit 63 = false := Nat.testBit_lt_two_pow hr
      simp [this]
    · simp [h63]
  have h64 : (9223372036854775808 : Nat) = 2 ^ 63 := by rfl
  by_cases c : x < 9223372036854775808
  · rw [if_pos c, h64, t x c]; omega
  · rw [if_neg c]
    have e := t (x - 9223372036854775808) (by omega)
    have e3 : x = (x - 9223372036854775808) ^^^ 2 ^ 63 := by rw [e]; omega
    rw [h64]
    rw [h64] at e3
    have e4 : x ^^^ 2 ^ 63 = ((x - 2 ^ 63) ^^^ 2 ^ 63) ^^^ 2 ^ 63 := congrArg (· ^^^ 2 ^ 63) e3
    rw [e4, Nat.xor_assoc, Nat.xor_self, Nat.xor_zero]

theorem and_high (x : Nat) (h : x < 18446744073709551616) : x &&& 9223372036854775808 = if x < 9223372036854775808 then 0 else 9223372036854775808 := by
  have e := and_mask x 63 1
  rw [show (9223372036854775808 : Nat) = (2 ^ 1 - 1) <<< 63 by rfl, e]
  split <;> omega

theorem xor_all (b : Nat) (h : b < 18446744073709551616) : 18446744073709551615 ^^^ b = 18446744073709551615 - b := by
  have e : 18446744073709551615 - b = 2 ^ 64 - (b + 1) := by omega
  rw [e]
  apply Nat.eq_of_testBit_eq
  intro i
  rw [Nat.testBit_two_pow_sub_succ (by omega), Nat.testBit_xor, show (18446744073709551615 : Nat) = 2 ^ 64 - 1 by rfl, Nat.testBit_two_pow_sub_one]
  by_cases hi : i < 64
  · simp [hi]
  · have : b.testBit i = false := Nat.testBit_lt_two_pow (Nat.lt_of_lt_of_le h (show (18446744073709551616 : Nat) ≤ 2 ^ i from Nat.pow_le_pow_right (n := 2) (by omega) (show 64 ≤ i by omega)))
    simp [hi, this]
theorem bits_not_u64 (b : Nat) (h : b < 18446744073709551616) : bits .xor .u64 IntKind.u64.max (b : Int) = ((18446744073709551615 - b : Nat) : Int) := by
  rw [show IntKind.u64.max = ((18446744073709551615 : Nat) : Int) by rfl, bits_xor_u64 _ _ (by omega) h, xor_all b h]

end Go.Proofs.YtdcnpaodcjfdbaaGreatDoor

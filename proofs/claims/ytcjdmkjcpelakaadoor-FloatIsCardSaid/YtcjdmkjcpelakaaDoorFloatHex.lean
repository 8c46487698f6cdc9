/- Plain facts on the text of floats' bits. No program is named here. -/
import Derived.Test.YtcjdmkjcpelakaaDoorFloatRef0
namespace Go.Proofs.YtcjdmkjcpelakaaDoor
open Go.RowKit
set_option linter.unusedVariables false

/-- The letter of a digit. -/
def hexB (d : Nat) : UInt8 := if d < 10 then UInt8.ofNat (48 + d) else UInt8.ofNat (87 + d)
/-- The last j digits of bits, highest first. -/
def hexT (b : Nat) : Nat → List UInt8
  | 0 => []
  | j + 1 => hexB (b / 16 ^ j % 16) :: hexT b j
/-- The digit of a letter; 99. -/
def hexD (c : Nat) : Nat := if 48 ≤ c ∧ c ≤ 57 then c - 48 else if 97 ≤ c ∧ c ≤ 102 then c - 87 else 99
/-- The number of digits. -/
def hexV (l : List UInt8) : Nat := l.foldl (fun v c => 16 * v + hexD c.toNat) 0
def hexAll (l : List UInt8) : Bool := l.all fun c => decide (hexD c.toNat ≤ 15)
/-- The bits of a text. -/
def fRead (l : List UInt8) : Option Nat := if l.length = 16 ∧ hexAll l = true then some (hexV l) else none

theorem hexD_B (d : Nat) (h : d < 16) : hexD (hexB d).toNat = d := by
  have : ∀ d : Fin 16, hexD (hexB d.val).toNat = d.val := by decide
  exact this ⟨d, h⟩
theorem hexB_D (c : UInt8) (h : hexD c.toNat ≤ 15) : hexB (hexD c.toNat) = c := by
  have : ∀ n : Fin 256, hexD n.val ≤ 15 → hexB (hexD n.val) = UInt8.ofNat n.val := by decide +kernel
  have e := this ⟨c.toNat, c.toNat_lt⟩ h
  simpa using e
theorem hexT_length (b : Nat) : ∀ j, (hexT b j).length = j
  | 0 => rfl
  | j + 1 => by simp [hexT, hexT_length b j]
theorem hexT_all (b : Nat) : ∀ j, hexAll (hexT b j) = true
  | 0 => rfl
  | j + 1 => by
    have ih := hexT_all b j
    unfold hexAll at ih ⊢
    simp only [hexT, List.all_cons, Bool.and_eq_true, decide_eq_true_eq]
    exact ⟨by rw [hexD_B _ (Nat.mod_lt _ (by omega))]; have := Nat.mod_lt (b / 16 ^ j) (show 16 > 0 by omega); omega, ih⟩
theorem hexT_fold (b : Nat) : ∀ j v, (hexT b j).foldl (fun v c => 16 * v + hexD c.toNat) v = v * 16 ^ j + b % 16 ^ j
  | 0, v => by simp [hexT, Nat.mod_one]
  | j + 1, v => by
    simp only [hexT, List.foldl_cons]
    rw [hexT_fold b j, hexD_B _ (Nat.mod_lt _ (by omega))]
    have e : b % 16 ^ (j + 1) = b % 16 ^ j + 16 ^ j * (b / 16 ^ j % 16) := by rw [Nat.pow_succ, Nat.mod_mul]
    rw [e, Nat.pow_succ]
    generalize 16 ^ j = P
    generalize b / P % 16 = D
    generalize b % P = R
    rw [Nat.add_mul, Nat.mul_comm D P, Nat.mul_comm 16 v, Nat.mul_assoc v 16 P, Nat.mul_comm 16 P]
    omega
theorem fRead_text (b : Nat) (h : b < 18446744073709551616) : fRead (hexT b 16) = some b := by
  unfold fRead hexV
  rw [if_pos ⟨hexT_length b 16, hexT_all b 16⟩, hexT_fold]
  congr 1
  have : (16 ^ 16 : Nat) = 18446744073709551616 := by decide
  rw [this]; omega

theorem hexV_snoc (l : List UInt8) (c : UInt8) : hexV (l ++ [c]) = 16 * hexV l + hexD c.toNat := by
  unfold hexV; rw [List.foldl_append]; rfl
theorem hexAll_snoc (l : List UInt8) (c : UInt8) : hexAll (l ++ [c]) = (hexAll l && decide (hexD c.toNat ≤ 15)) := by
  unfold hexAll; rw [List.all_append]; simp
theorem hexV_lt (l : List UInt8) (h : hexAll l = true) : hexV l < 16 ^ l.length := by
  have : ∀ (l : List UInt8) (v : Nat), hexAll l = true → l.foldl (fun v c => 16 * v + hexD c.toNat) v < (v + 1) * 16 ^ l.length := by
    intro l
    induction l with
    | nil => intro v _; simp
    | cons c l ih =>
      intro v h
      unfold hexAll at h ih
      simp only [List.all_cons, Bool.and_eq_true, decide_eq_true_eq] at h
      have := ih (16 * v + hexD c.toNat) h.2
      simp only [List.foldl_cons, List.length_cons]
      refine Nat.lt_of_lt_of_le this ?_
      rw [Nat.pow_succ, Nat.mul_comm (16 ^ l.length) 16, ← Nat.mul_assoc]
      exact Nat.mul_le_mul_right _ (by omega)
  have := this l 0 h
  simpa [hexV] using this

/-- What is read is the text of it. -/
theorem text_of_read : ∀ (l : List UInt8) (v : Nat), hexAll l = true → hexT (l.foldl (fun v c => 16 * v + hexD c.toNat) v) l.length = l := by
  have key : ∀ (n j : Nat) (m : Nat), hexT (n * 16 ^ j + m) j = hexT m j := by
    intro n j
    have : ∀ (i : Nat), i ≤ j → ∀ m, hexT (n * 16 ^ j + m) i = hexT m i := by
      intro i
      induction i with
      | zero => intro _ m; rfl
      | succ i ih =>
        intro hi m
        simp only [hexT]
        rw [ih (by omega) m]
        congr 2
        obtain ⟨d, rfl⟩ : ∃ d, j = i + 1 + d := ⟨j - (i + 1), by omega⟩
        have e : n * 16 ^ (i + 1 + d) + m = 16 ^ i * (16 * (n * 16 ^ d)) + m := by
          rw [Nat.pow_add, Nat.pow_succ]; congr 1
          rw [Nat.mul_assoc (16 ^ i) 16, Nat.mul_left_comm n (16 ^ i), Nat.mul_left_comm n 16]
        rw [e, Nat.add_comm, Nat.add_mul_div_left _ _ (Nat.pow_pos (by omega)), Nat.add_mul_mod_self_left]
    intro m
    exact this j (Nat.le_refl _) m
  intro l
  induction l with
  | nil => intro v _; rfl
  | cons c l ih =>
    intro v h
    unfold hexAll at h
    simp only [List.all_cons, Bool.and_eq_true, decide_eq_true_eq] at h
    simp only [List.foldl_cons, List.length_cons, hexT]
    rw [ih _ h.2]
    congr 1
    have hv : ∀ (l : List UInt8) (v : Nat), hexAll l = true → l.foldl (fun v c => 16 * v + hexD c.toNat) v / 16 ^ l.length = v := by
      intro l
      induction l with
      | nil => intro v _; simp
      | cons c l ih2 =>
        intro v h
        unfold hexAll at h ih2
        simp only [List.all_cons, Bool.and_eq_true, decide_eq_true_eq] at h
        simp only [List.foldl_cons, List.length_cons]
        rw [Nat.pow_succ, ← Nat.div_div_eq_div_mul, ih2 _ h.2]
        omega
    rw [hv l _ h.2, show (16 * v + hexD c.toNat) % 16 = hexD c.toNat by omega]
    exact hexB_D c h.1
theorem fText_read (l : List UInt8) (n : Nat) (h : fRead l = some n) : hexT n 16 = l ∧ n < 18446744073709551616 := by
  unfold fRead at h
  by_cases hc : l.length = 16 ∧ hexAll l = true
  · rw [if_pos hc] at h
    cases h
    have := text_of_read l 0 hc.2
    have hl := hexV_lt l hc.2
    rw [hc.1] at this hl
    exact ⟨this, by simpa using hl⟩
  · rw [if_neg hc] at h; cases h

end Go.Proofs.YtcjdmkjcpelakaaDoor

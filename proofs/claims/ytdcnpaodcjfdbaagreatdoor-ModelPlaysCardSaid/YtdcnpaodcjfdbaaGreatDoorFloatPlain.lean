/- Plain facts on what floats' bits come to by an operation. No program is named here. -/
import Derived.Test.YtdcnpaodcjfdbaaGreatDoorFloatRef0
namespace Go.Proofs.YtdcnpaodcjfdbaaGreatDoor
open Go.RowKit
set_option linter.unusedVariables false

/-- Is it less, neither being a NaN? -/
def fLess (a b : Nat) : Bool := decide (fKey a < fKey b)

/-- What bits come to by an operation. -/
def fMin (a b : Nat) : Nat := match Ieee.double.order a b with
  | none => fNaN
  | some .lt => a
  | some .gt => b
  | some .eq => if fNeg a then a else b
def fMax (a b : Nat) : Nat := match Ieee.double.order a b with
  | none => fNaN
  | some .gt => a
  | some .lt => b
  | some .eq => if fNeg a then b else a
def fTruth (p : Bool) : Nat := if p then 4607182418800017408 else 0
def fCalc (op a b : Nat) : Nat :=
  if op = 1 then fCanon (Ieee.double.add a b) else if op = 2 then fCanon (Ieee.double.sub a b) else if op = 3 then fCanon (Ieee.double.mul a b) else if op = 4 then fCanon (Ieee.double.div a b)
  else if op = 5 then fTruth (Ieee.double.order a b == some .lt) else if op = 6 then fTruth (Ieee.double.order a b == some .eq) else if op = 7 then fMin a b else if op = 8 then fMax a b
  else if op = 9 then fOne (fFlip a) else fCanon (Ieee.double.sqrt a)

/-- What 'edge' returns: where it answers, it is what the operation comes to. -/
def EdgeOf (op a b : Nat) (e : Ending) : Prop := ∃ (x : Nat) (ok : Bool), e = .returned (.tuple #[.int .u64 (x : Int), .bool ok]) ∧ x < 18446744073709551616 ∧ (ok = true → x = fCalc op a b) ∧ (ok = false → op ≤ 4 ∨ op = 10)

theorem edge_is (op a b x : Nat) (v : Int) (hv : v = (x : Int)) (hx : x < 18446744073709551616) (h : x = fCalc op a b) : EdgeOf op a b (.returned (.tuple #[.int .u64 v, .bool true])) :=
  ⟨x, true, by rw [hv], hx, (fun _ => h), (fun h => by cases h)⟩
theorem edge_no (op a b : Nat) (h : op ≤ 4 ∨ op = 10) : EdgeOf op a b (.returned (.tuple #[.int .u64 0, .bool false])) :=
  ⟨0, false, rfl, by omega, (fun h => by cases h), fun _ => h⟩

theorem calc1 (a b : Nat) : fCalc 1 a b = fCanon (Ieee.double.add a b) := rfl
theorem calc2 (a b : Nat) : fCalc 2 a b = fCanon (Ieee.double.sub a b) := rfl
theorem calc3 (a b : Nat) : fCalc 3 a b = fCanon (Ieee.double.mul a b) := rfl
theorem calc4 (a b : Nat) : fCalc 4 a b = fCanon (Ieee.double.div a b) := rfl
theorem calc9 (a b : Nat) : fCalc 9 a b = fOne (fFlip a) := rfl
theorem calc10 (a b : Nat) : fCalc 10 a b = fCanon (Ieee.double.sqrt a) := rfl
theorem canon_of {b : Nat} (h : fCls b ≠ 1) : fCanon (some b) = b := by
  show fOne b = b; unfold fOne; rw [if_neg h]
theorem signed_lt (b : Nat) (s : Bool) : fSigned b s < 18446744073709551616 := by
  unfold fSigned fRung; split <;> omega
theorem signed_flip (b : Nat) : fSigned b (!fNeg b) = fFlip b := by
  unfold fSigned fFlip; cases fNeg b <;> rfl
theorem truth_lt (p : Bool) : fTruth p < 18446744073709551616 := by cases p <;> decide
theorem truth_cast (p : Bool) : (if p then (4607182418800017408 : Int) else 0) = ((fTruth p : Nat) : Int) := by cases p <;> rfl

theorem calc_nan (op a b : Nat) (ha : a < 18446744073709551616) (hb : b < 18446744073709551616) (hop : op = 1 ∨ op = 2 ∨ op = 3 ∨ op = 4 ∨ op = 7 ∨ op = 8) (h : fCls a = 1 ∨ fCls b = 1) : fNaN = fCalc op a b := by
  rcases hop with rfl | rfl | rfl | rfl | rfl | rfl
  · rw [calc1, add_nan a b ha hb h]; rfl
  · rw [calc2, sub_nan a b ha hb h]; rfl
  · rw [calc3, mul_nan a b ha hb h]; rfl
  · rw [calc4, div_nan a b ha hb h]; rfl
  · show _ = fMin a b; unfold fMin; rw [order_nan a b ha hb h]
  · show _ = fMax a b; unfold fMax; rw [order_nan a b ha hb h]
theorem calc_nan5 (a b : Nat) (ha : a < 18446744073709551616) (hb : b < 18446744073709551616) (h : fCls a = 1 ∨ fCls b = 1) : 0 = fCalc 5 a b := by
  show _ = fTruth (Ieee.double.order a b == some .lt); rw [order_nan a b ha hb h]; rfl
theorem calc_nan6 (a b : Nat) (ha : a < 18446744073709551616) (hb : b < 18446744073709551616) (h : fCls a = 1 ∨ fCls b = 1) : 0 = fCalc 6 a b := by
  show _ = fTruth (Ieee.double.order a b == some .eq); rw [order_nan a b ha hb h]; rfl
theorem calc5 (a b : Nat) (ha : a < 18446744073709551616) (hb : b < 18446744073709551616) (na : fCls a ≠ 1) (nb : fCls b ≠ 1) : fTruth (fLess a b) = fCalc 5 a b := by
  show _ = fTruth (Ieee.double.order a b == some .lt); rw [order_key a b ha hb na nb]
  congr 1
  unfold fLess
  rcases Int.lt_trichotomy (fKey a) (fKey b) with h | h | h
  · rw [compare_lt h, decide_eq_true h]; rfl
  · rw [compare_eq h, decide_eq_false (by omega)]; rfl
  · rw [compare_gt h, decide_eq_false (by omega)]; rfl
theorem key_eq (a b : Nat) (ha : a < 18446744073709551616) (hb : b < 18446744073709551616) : fKey a = fKey b ↔ a = b ∨ (fCls a = 3 ∧ fCls b = 3) := by
  have sa := of_sign a ha
  have sb := of_sign b hb
  rw [fCls_zero, fCls_zero]
  unfold fKey
  have qa : fRung a < 9223372036854775808 := Nat.mod_lt _ (by omega)
  have qb : fRung b < 9223372036854775808 := Nat.mod_lt _ (by omega)
  generalize fRung a = r at *
  generalize fRung b = q at *
  cases h1 : fNeg a <;> cases h2 : fNeg b <;> rw [h1] at sa <;> rw [h2] at sb <;> simp only [Bool.false_eq_true, if_false, if_true] at sa sb ⊢ <;> omega
theorem calc6 (a b : Nat) (p : Bool) (ha : a < 18446744073709551616) (hb : b < 18446744073709551616) (na : fCls a ≠ 1) (nb : fCls b ≠ 1) (h : p = true ↔ (a = b ∨ (fCls a = 3 ∧ fCls b = 3))) : fTruth p = fCalc 6 a b := by
  show _ = fTruth (Ieee.double.order a b == some .eq); rw [order_key a b ha hb na nb]
  congr 1
  rw [← key_eq a b ha hb] at h
  rcases Int.lt_trichotomy (fKey a) (fKey b) with g | g | g
  · rw [compare_lt g]; cases p
    · rfl
    · have := h.1 rfl; omega
  · rw [compare_eq g, h.2 g]; rfl
  · rw [compare_gt g]; cases p
    · rfl
    · have := h.1 rfl; omega
theorem eq_zeros (a b : Nat) (ha : a < 18446744073709551616) (hb : b < 18446744073709551616) (h : fKey a = fKey b) (hs : fNeg a = fNeg b) : a = b := by
  have sa := of_sign a ha
  have sb := of_sign b hb
  unfold fKey at h
  cases h2 : fNeg b <;> rw [h2] at hs h sb <;> rw [hs] at h sa <;> simp only [Bool.false_eq_true, if_false, if_true] at sa sb h <;> omega
theorem calc7a (a b : Nat) (ha : a < 18446744073709551616) (hb : b < 18446744073709551616) (na : fCls a ≠ 1) (nb : fCls b ≠ 1) (h : (fLess b a = false ∧ (fNeg b = false ∨ fCls a ≠ 3 ∨ fCls b ≠ 3)) ∨ False) : a = fCalc 7 a b := by
  show _ = fMin a b
  unfold fMin; rw [order_key a b ha hb na nb]
  rcases h with ⟨h1, h2⟩ | h
  · have h1 := of_decide_eq_false h1
    rcases Int.lt_trichotomy (fKey a) (fKey b) with g | g | g
    · rw [compare_lt g]
    · rw [compare_eq g]
      have e := (key_eq a b ha hb).1 g
      cases s : fNeg a
      · simp only [Bool.false_eq_true, if_false]
        rcases e with e | ⟨e1, e2⟩
        · exact e
        · exact eq_zeros a b ha hb g (by rw [s]; rcases h2 with h2 | h2 | h2
                                         · exact h2.symm
                                         · exact absurd e1 h2
                                         · exact absurd e2 h2)
      · simp only [if_true]
    · exact absurd g h1
  · exact h.elim
theorem calc7b (a b : Nat) (ha : a < 18446744073709551616) (hb : b < 18446744073709551616) (na : fCls a ≠ 1) (nb : fCls b ≠ 1) (h : fLess b a = true ∨ (fCls a = 3 ∧ fCls b = 3 ∧ fNeg b = true)) : b = fCalc 7 a b := by
  show _ = fMin a b
  unfold fMin; rw [order_key a b ha hb na nb]
  rcases h with h | ⟨h1, h2, h3⟩
  · have h := of_decide_eq_true h
    rw [compare_gt h]
  · have g := (key_eq a b ha hb).2 (Or.inr ⟨h1, h2⟩)
    rw [compare_eq g]
    cases s : fNeg a
    · simp only [Bool.false_eq_true, if_false]
    · simp only [if_true]; exact (eq_zeros a b ha hb g (by rw [s, h3])).symm
theorem calc8a (a b : Nat) (ha : a < 18446744073709551616) (hb : b < 18446744073709551616) (na : fCls a ≠ 1) (nb : fCls b ≠ 1) (h : (fLess a b = false ∧ (fNeg a = false ∨ fCls a ≠ 3 ∨ fCls b ≠ 3)) ∨ False) : a = fCalc 8 a b := by
  show _ = fMax a b
  unfold fMax; rw [order_key a b ha hb na nb]
  rcases h with ⟨h1, h2⟩ | h
  · have h1 := of_decide_eq_false h1
    rcases Int.lt_trichotomy (fKey a) (fKey b) with g | g | g
    · exact absurd g h1
    · rw [compare_eq g]
      have e := (key_eq a b ha hb).1 g
      cases s : fNeg a
      · simp only [Bool.false_eq_true, if_false]
      · simp only [if_true]
        rcases e with e | ⟨e1, e2⟩
        · exact e
        · rcases h2 with h2 | h2 | h2
          · rw [s] at h2; cases h2
          · exact absurd e1 h2
          · exact absurd e2 h2
    · rw [compare_gt g]
  · exact h.elim
theorem calc8b (a b : Nat) (ha : a < 18446744073709551616) (hb : b < 18446744073709551616) (na : fCls a ≠ 1) (nb : fCls b ≠ 1) (h : fLess a b = true ∨ (fCls a = 3 ∧ fCls b = 3 ∧ fNeg a = true)) : b = fCalc 8 a b := by
  show _ = fMax a b
  unfold fMax; rw [order_key a b ha hb na nb]
  rcases h with h | ⟨h1, h2, h3⟩
  · have h := of_decide_eq_true h
    rw [compare_lt h]
  · have g := (key_eq a b ha hb).2 (Or.inr ⟨h1, h2⟩)
    rw [compare_eq g, h3]; simp only [if_true]

end Go.Proofs.YtdcnpaodcjfdbaaGreatDoor

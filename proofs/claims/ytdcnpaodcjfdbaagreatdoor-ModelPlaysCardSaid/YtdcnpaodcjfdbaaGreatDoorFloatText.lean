/- Plain facts on the order, the text and the sum of floats' bits. No program is named here. -/
import Derived.Test.YtdcnpaodcjfdbaaGreatDoorFloatPlain
namespace Go.Proofs.YtdcnpaodcjfdbaaGreatDoor
open Go.RowKit
set_option linter.unusedVariables false

/-- Where bits stand in the order of bits. -/
def fPos (b : Nat) : Int := if fNeg b then -(fRung b : Int) - 1 else (fRung b : Int)
/-- Which of two is ahead. -/
def fOrd (a b : Nat) : Int := if fPos a < fPos b then -1 else if fPos b < fPos a then 1 else 0

theorem fPos_inj (a b : Nat) (ha : a < 18446744073709551616) (hb : b < 18446744073709551616) (h : fPos a = fPos b) : a = b := by
  have sa := of_sign a ha
  have sb := of_sign b hb
  unfold fPos at h
  cases h1 : fNeg a <;> cases h2 : fNeg b <;> rw [h1] at sa h <;> rw [h2] at sb h <;> simp only [Bool.false_eq_true, if_false, if_true] at sa sb h <;> omega

/-- All added, one to the other. -/
def fSum (l : List Nat) : Nat := l.foldl (fun n b => fCalc 1 n b) 0
theorem fSum_snoc (l : List Nat) (b : Nat) : fSum (l ++ [b]) = fCalc 1 (fSum l) b := by
  unfold fSum; rw [List.foldl_append]; rfl
theorem fOne_lt (b : Nat) (h : b < 18446744073709551616) : fOne b < 18446744073709551616 := by
  unfold fOne fNaN; split <;> omega
theorem fCanon_lt (o : Option Nat) (h : ∀ r, o = some r → r < 18446744073709551616) : fCanon o < 18446744073709551616 := by
  cases o with
  | none => show fNaN < _; unfold fNaN; omega
  | some r => exact fOne_lt r (h r rfl)
theorem calc1_lt (a b : Nat) : fCalc 1 a b < 18446744073709551616 := by
  rw [calc1]; exact fCanon_lt _ (fun r h => Ieee.double.add_lt h)
theorem fSum_lt (l : List Nat) : fSum l < 18446744073709551616 := by
  rcases List.eq_nil_or_concat l with rfl | ⟨l', b, rfl⟩
  · unfold fSum; simp
  · rw [List.concat_eq_append, fSum_snoc]; exact calc1_lt _ _

end Go.Proofs.YtdcnpaodcjfdbaaGreatDoor

/- What each function of the document's own answers to layer 2 (float) returns: for every argument of its type; memory is as it was, but for draws. -/
import Derived.Test.YtdcnpaodcjfdbaaGreatDoorFloatMath
import Derived.Test.YtdcnpaodcjfdbaaGreatDoorProg
import Derived.WalkKit
import Derived.ProofKit
import Derived.WalkLawsBesides
namespace Go.Proofs.YtdcnpaodcjfdbaaGreatDoor
open Go.RowKit
set_option linter.unusedVariables false

/-- A fact that the walk doesn't take for a rule. -/
theorem hidf {p : Prop} (h : p) : Hid p := h

theorem ref_fclass (b : Nat) (w : World) (h : b < 18446744073709551616) :
    Calls Tryz.prog 113 #[.int .u64 (b : Int)] w fun e w' => e = .returned (.int .u8 (fCls b : Int)) ∧ w = w' := by
  obtain ⟨x, hx⟩ : ∃ x : Int, (b : Int) = x := ⟨_, rfl⟩
  have h0 : 0 ≤ x := by omega
  have h1 : x ≤ 18446744073709551615 := by omega
  have hr : fRung b = x.toNat % 9223372036854775808 := by unfold fRung; omega
  by_cases c1 : 9218868437227405312 < fRung b
  · have e : fCls b = 1 := (fCls_nan b).2 c1
    have t1 : (x / 4503599627370496 % 2048 == 2047) = true := by simp; omega
    have t2 : 0 < x % 4503599627370496 := by omega
    rw [e, hx]
    clear e hx hr c1 h
    go_enter Tryz.func113, Tryz.ntmps113
    go_wp2
    go_ret
    exact ⟨rfl, rfl⟩
  · by_cases c2 : fRung b = 9218868437227405312
    · have e : fCls b = 2 := (fCls_inf b).2 c2
      have t1 : (x / 4503599627370496 % 2048 == 2047) = true := by simp; omega
      have t2 : ¬ (0 < x % 4503599627370496) := by omega
      rw [e, hx]
      clear e hx hr c1 c2 h
      go_enter Tryz.func113, Tryz.ntmps113
      go_wp2
      go_ret
      exact ⟨rfl, rfl⟩
    · have t0 : (x / 4503599627370496 % 2048 == 2047) = false := by simp; omega
      by_cases c3 : fRung b = 0
      · have e : fCls b = 3 := (fCls_zero b).2 c3
        have t1 : (x / 4503599627370496 % 2048 == 0) = true := by simp; omega
        have t2 : (x % 4503599627370496 == 0) = true := by simp; omega
        rw [e, hx]
        clear e hx hr c1 c2 c3 h
        go_enter Tryz.func113, Tryz.ntmps113
        go_wp2
        go_ret
        exact ⟨rfl, rfl⟩
      · by_cases c4 : fRung b < 4503599627370496
        · have e : fCls b = 4 := by unfold fCls; rw [if_neg c1, if_neg c2, if_neg c3, if_pos c4]
          have t1 : (x / 4503599627370496 % 2048 == 0) = true := by simp; omega
          have t2 : (x % 4503599627370496 == 0) = false := by simp; omega
          rw [e, hx]
          clear e hx hr c1 c2 c3 c4 h
          go_enter Tryz.func113, Tryz.ntmps113
          go_wp2
          go_ret
          exact ⟨rfl, rfl⟩
        · have e : fCls b = 5 := by unfold fCls; rw [if_neg c1, if_neg c2, if_neg c3, if_neg c4]
          have t1 : (x / 4503599627370496 % 2048 == 0) = false := by simp; omega
          rw [e, hx]
          clear e hx hr c1 c2 c3 c4 h
          go_enter Tryz.func113, Tryz.ntmps113
          go_wp2
          go_ret
          exact ⟨rfl, rfl⟩

theorem ref_fbelow (b : Nat) (w : World) (h : b < 18446744073709551616) :
    Calls Tryz.prog 117 #[.int .u64 (b : Int)] w fun e w' => e = .returned (.bool (fNeg b)) ∧ w = w' := by
  go_enter Tryz.func117, Tryz.ntmps117
  go_wp2
  go_ret
  refine ⟨congrArg Ending.returned (congrArg Value.bool ?_), rfl⟩
  unfold fNeg
  rw [Bool.eq_iff_iff, decide_eq_true_iff, decide_eq_true_iff]; omega

end Go.Proofs.YtdcnpaodcjfdbaaGreatDoor

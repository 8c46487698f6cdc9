/- The document's examples on layer 2, as its statements call them. -/
import Derived.Test.YtcjdmkjcpelakaaDoorFloatCode
import Derived.WalkSmall
namespace Go.Proofs.YtcjdmkjcpelakaaDoor
open Go.RowKit
set_option linter.unusedVariables false

theorem awake_any (w : World) : Calls Tryd.prog 11 #[] w fun e w' => e = .returned (.bool true) ∧ ∃ q, w' = w.drewN q := by
  have c1 : ∀ W, Calls Tryd.prog 18 #[.int .u8 4, .int .u64 4607182418800017408, .int .u64 9223372036854775808] W fun e w' => e = .returned (.tuple #[.int .u64 18442240474082181120, .int .i64 0]) ∧ ∃ q, w' = W.drewN q := fun W => by
    have h := float_calc4 4607182418800017408 9223372036854775808 W (by omega) (by omega)
    unfold CalcOf at h
    rw [show fCalc 4 4607182418800017408 9223372036854775808 = 18442240474082181120 by decide +kernel] at h
    exact h
  have c2 : ∀ W, Calls Tryd.prog 18 #[.int .u8 7, .int .u64 0, .int .u64 9223372036854775808] W fun e w' => e = .returned (.tuple #[.int .u64 9223372036854775808, .int .i64 0]) ∧ ∃ q, w' = W.drewN q := fun W => by
    have h := float_calc7 0 9223372036854775808 W (by omega) (by omega)
    unfold CalcOf at h
    rw [show fCalc 7 0 9223372036854775808 = 9223372036854775808 by decide +kernel] at h
    exact h
  go_enter Tryd.func11, Tryd.ntmps11
  go_wp2_with (go_at_call 18; first | ((with_reducible refine (c1 _).mono ?_); rintro e w' ⟨rfl, q1, rfl⟩) | ((with_reducible refine (c2 _).mono ?_); rintro e w' ⟨rfl, q2, rfl⟩))
  go_ret
  exact ⟨rfl, _, rfl⟩

end Go.Proofs.YtcjdmkjcpelakaaDoor

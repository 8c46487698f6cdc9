/- What each function of the document's own answers to layer 4 (arena) returns. -/
import Derived.Test.YtdcnpaodcjfdbaaGreatDoorRowWords
import Derived.Test.YtdcnpaodcjfdbaaGreatDoorArenaAll
namespace Go.Proofs.YtdcnpaodcjfdbaaGreatDoor
open Go.RowKit
set_option linter.unusedVariables false

theorem made_words (n : Nat) : (madeCells (Value.int .u64 0).cells (n * 1)).toList = (List.replicate n 0).map wv := by
  rw [Nat.mul_one]
  exact (toList_madeCells_one _ n).trans (by simp [wv])

end Go.Proofs.YtdcnpaodcjfdbaaGreatDoor

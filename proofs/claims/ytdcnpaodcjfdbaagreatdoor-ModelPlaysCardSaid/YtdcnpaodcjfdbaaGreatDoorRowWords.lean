/- Words for rows of words that a call made. -/
import Derived.Test.YtdcnpaodcjfdbaaGreatDoorRows7
namespace Go.Proofs.YtdcnpaodcjfdbaaGreatDoor
open Go.RowKit
set_option linter.unusedVariables false

theorem info_u64 : (Tryz.prog.info? 32).map (fun i => (i.zero, i.size, i.bytes)) = some (some (.int .u64 0), 1, 8) := by kernel_rfl

/-- A slice of words that a call made. -/
def OwnWords (w : World) (l : List Nat) (e : Ending) (w' : World) : Prop := ∃ A c, e = .returned (.slice A l.length c) ∧ w'.ownsRow w.heap.size 32 1 (.slice A l.length c) l.length (l.map wv) ∧ Below w.heap.size w w'
/-- A slice of words that a call made, and an error's number. -/
def OwnWNo (w : World) (l : List Nat) (no : Int) (e : Ending) (w' : World) : Prop := ∃ A c, e = .returned (.tuple #[.slice A l.length c, .int .i64 no]) ∧ w'.ownsRow w.heap.size 32 1 (.slice A l.length c) l.length (l.map wv) ∧ Below w.heap.size w w'


end Go.Proofs.YtdcnpaodcjfdbaaGreatDoor

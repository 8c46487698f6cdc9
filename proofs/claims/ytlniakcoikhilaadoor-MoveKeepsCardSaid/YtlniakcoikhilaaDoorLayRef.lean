/- What the document's own 'with', Push and Lay of layers 14 and 15 return. -/
import Derived.Test.YtlniakcoikhilaaDoorWlkAll
import Derived.Test.YtlniakcoikhilaaDoorSlsAll
import Derived.Test.YtlniakcoikhilaaDoorFrmAll
namespace Go.Proofs.YtlniakcoikhilaaDoor
open Go.RowKit
set_option linter.unusedVariables false

/-- Words of the call's own. -/
def OwnW (w : World) (l : List Nat) (e : Ending) (w' : World) : Prop := ∃ A c, e = .returned (.slice A l.length c) ∧ w'.ownsRow w.heap.size 50 1 (.slice A l.length c) l.length (l.map wv) ∧ Below w.heap.size w w'
/-- Words that a call answers, a base, and an error's number. -/
def ResP (w : World) (A : Option Addr) (n : Nat) (r : List Nat × Int × Int) (e : Ending) (w' : World) : Prop := ∃ B k, e = .returned (.tuple #[.slice B n k, .int .i64 r.2.1, .int .i64 r.2.2]) ∧ Sl w' w'.heap.size B n (r.1.map wv) ∧ (B = none → k = 0) ∧ Below w.heap.size w w' ∧ (B = A ∨ ∀ a, B = some a → w.heap.size ≤ a.block)
end Go.Proofs.YtlniakcoikhilaaDoor

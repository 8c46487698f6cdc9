/- What the document's own Put of layer 16 (slots) returns. -/
import Derived.Test.YthjodcojhlfnfaaDoorSltGet
namespace Go.Proofs.YthjodcojhlfnfaaDoor
open Go.RowKit
set_option linter.unusedVariables false

/-- The words behind it; the error's number. -/
def slPut (xs : List Nat) (l : Fns) (L : List FrV) (d i : Int) (v : VlV) : List Nat × Int :=
  if slAddr l L d i < 0 ∨ (xs.length : Int) ≤ slAddr l L d i then (xs, 2)
  else if vMay v = false then (xs, 1)
  else if fPtr l (L.getD d.toNat fr0).fn i = decide (v.kind = 1) then (xs, 5)
  else if v.kind = 2 then
    if slAddr l L v.depth v.slot < 0 then (xs, 2)
    else if d < v.depth then (xs, 7)
    else (xs.set (slAddr l L d i).toNat (slAddr l L v.depth v.slot).toNat, 0)
  else (xs.set (slAddr l L d i).toNat v.bits, 0)
theorem slPut_length (xs : List Nat) (l : Fns) (L : List FrV) (d i : Int) (v : VlV) : (slPut xs l L d i v).1.length = xs.length := by
  unfold slPut; split; · rfl
  split; · rfl
  split; · rfl
  split
  · split; · rfl
    split; · rfl
    simp
  · simp
/-- Words that a call answers, and an error's number. -/
def ResW (w : World) (n : Nat) (r : List Nat × Int) (e : Ending) (w' : World) : Prop := ∃ B k, e = .returned (.tuple #[.slice B n k, .int .i64 r.2]) ∧ Sl w' w'.heap.size B n (r.1.map wv) ∧ (B = none → k = 0) ∧ Below w.heap.size w w'
end Go.Proofs.YthjodcojhlfnfaaDoor

/- What the document's own Get of layer 16 (slots) returns. -/
import Derived.Test.YthjodcojhlfnfaaDoorSltFind
namespace Go.Proofs.YthjodcojhlfnfaaDoor
open Go.RowKit
set_option linter.unusedVariables false

/-- What a slot of frames in words has; the error's number. -/
def slGet (xs : List Nat) (l : Fns) (L : List FrV) (d i : Int) : VlV × Int :=
  if slAddr l L d i < 0 ∨ (xs.length : Int) ≤ slAddr l L d i then (vl0, 2)
  else if fPtr l (L.getD d.toNat fr0).fn i = false then (⟨1, xs.getD (slAddr l L d i).toNat 0, 0, 0⟩, 0)
  else if xs.getD (slAddr l L d i).toNat 0 = 0 then (vl0, 0)
  else if 4611686018427387904 < xs.getD (slAddr l L d i).toNat 0 then (vl0, 9)
  else match slFind l 0 L (xs.getD (slAddr l L d i).toNat 0 : Nat) with
    | none => (vl0, 9)
    | some (u, k) => if d < (u : Int) then (vl0, 9) else (⟨2, 0, u, k⟩, 0)
theorem four_cellsV (w : World) (b : Nat) (u0 u1 u2 u3 x0 x1 x2 x3 : Value) (h0 : w.cell? ⟨b, 0, none⟩ = some x0) (h1 : w.cell? ⟨b, 1, none⟩ = some x1) (h2 : w.cell? ⟨b, 2, none⟩ = some x2) (h3 : w.cell? ⟨b, 3, none⟩ = some x3) :
    ((((w.setCell ⟨b, 0, none⟩ u0).setCell ⟨b, 1, none⟩ u1).setCell ⟨b, 2, none⟩ u2).setCell ⟨b, 3, none⟩ u3).cell? ⟨b, 0, none⟩ = some u0 ∧ ((((w.setCell ⟨b, 0, none⟩ u0).setCell ⟨b, 1, none⟩ u1).setCell ⟨b, 2, none⟩ u2).setCell ⟨b, 3, none⟩ u3).cell? ⟨b, 1, none⟩ = some u1 ∧
    ((((w.setCell ⟨b, 0, none⟩ u0).setCell ⟨b, 1, none⟩ u1).setCell ⟨b, 2, none⟩ u2).setCell ⟨b, 3, none⟩ u3).cell? ⟨b, 2, none⟩ = some u2 ∧ ((((w.setCell ⟨b, 0, none⟩ u0).setCell ⟨b, 1, none⟩ u1).setCell ⟨b, 2, none⟩ u2).setCell ⟨b, 3, none⟩ u3).cell? ⟨b, 3, none⟩ = some u3 := by
  have o : ∀ (w : World) (i j : Nat) (v : Value), i ≠ j → (w.setCell ⟨b, i, none⟩ v).cell? ⟨b, j, none⟩ = w.cell? ⟨b, j, none⟩ := fun w i j v h => World.cell?_setCell_other w _ _ _ (fun e => h (by injection e))
  have s : ∀ (w : World) (i : Nat) (v x : Value), w.cell? ⟨b, i, none⟩ = some x → (w.setCell ⟨b, i, none⟩ v).cell? ⟨b, i, none⟩ = some v := fun w i v x h => World.cell?_setCell_same w _ _ h
  refine ⟨?_, ?_, ?_, ?_⟩
  · rw [o _ 3 0 _ (by decide), o _ 2 0 _ (by decide), o _ 1 0 _ (by decide), s _ 0 _ x0 h0]
  · rw [o _ 3 1 _ (by decide), o _ 2 1 _ (by decide), s _ 1 _ x1 (by rw [o _ 0 1 _ (by decide)]; exact h1)]
  · rw [o _ 3 2 _ (by decide), s _ 2 _ x2 (by rw [o _ 1 2 _ (by decide), o _ 0 2 _ (by decide)]; exact h2)]
  · rw [s _ 3 _ x3 (by rw [o _ 2 3 _ (by decide), o _ 1 3 _ (by decide), o _ 0 3 _ (by decide)]; exact h3)]
theorem bel_set4 {w W : World} {b : Nat} (h : Below w.heap.size w W) (hb : w.heap.size ≤ b) (u0 u1 u2 u3 : Value) : Below w.heap.size w ((((W.setCell ⟨b, 0, none⟩ u0).setCell ⟨b, 1, none⟩ u1).setCell ⟨b, 2, none⟩ u2).setCell ⟨b, 3, none⟩ u3) := (((h.setCell hb u0).setCell hb u1).setCell hb u2).setCell hb u3

end Go.Proofs.YthjodcojhlfnfaaDoor

/- What Best and Put of the document's own answers to layer 6 (runs) return. -/
import Derived.Test.YtdobmdhhgponpaaRunsRef
namespace Go.Proofs.Ytdobmdhhgponpaa
open Go.RowKit
set_option linter.unusedVariables false

/-- Two cells of one block, written. -/
theorem two_cells (w : World) (b : Nat) (u v x y : Value) (h0 : w.cell? ⟨b, 0, none⟩ = some x) (h1 : w.cell? ⟨b, 1, none⟩ = some y) :
    ((w.setCell ⟨b, 0, none⟩ u).setCell ⟨b, 1, none⟩ v).cell? ⟨b, 0, none⟩ = some u ∧ ((w.setCell ⟨b, 0, none⟩ u).setCell ⟨b, 1, none⟩ v).cell? ⟨b, 1, none⟩ = some v := by
  constructor
  · rw [World.cell?_setCell_other _ _ _ _ (by simp), World.cell?_setCell_same _ _ _ (by rw [h0])]
  · rw [World.cell?_setCell_same _ _ _ (by rw [World.cell?_setCell_other _ _ _ _ (by simp), h1])]

theorem belowR {B : Nat} {a w : World} (h : Below B a w) (q : Nat) : Below B a (w.drewN q) := ⟨h.os, h.tape, h.output, h.size, h.block⟩

end Go.Proofs.Ytdobmdhhgponpaa

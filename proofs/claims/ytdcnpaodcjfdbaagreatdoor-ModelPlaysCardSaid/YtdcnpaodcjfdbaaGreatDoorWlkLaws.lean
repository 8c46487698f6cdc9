/- The walks of layer 15's statements: an arena and a table in either order; the document's example. -/
import Derived.Test.YtdcnpaodcjfdbaaGreatDoorWlkAll
import Derived.Test.YtdcnpaodcjfdbaaGreatDoorFrmAll
namespace Go.Proofs.YtdcnpaodcjfdbaaGreatDoor
open Go.RowKit Go.ChangeShapes Go.WideShapes
set_option linter.unusedVariables false

/-- Beside a table an arena is made. -/
theorem AT.made2 {w W W' : World} {p g : Nat} {xs : List Nat} {tp : Option Addr} {l : Fns} (h : S13 w W tp l) (ha : Ar W' W.heap.size p g 256 xs) (hb : Below W.heap.size W W') : AT w W' p g 256 xs tp l := by
  obtain ⟨h1, lo, hi, h2, h3, h4⟩ := h
  exact ⟨h1.trans (hb.mono h1.size), ha.more h1.size, lo, hi, h2.below (hb.mono h3), Nat.le_trans h3 hb.size, h4, Or.inr (by have := ha.geg; omega)⟩
theorem AT.s13 {w W : World} {p g len : Nat} {xs : List Nat} {tp : Option Addr} {l : Fns} (h : AT w W p g len xs tp l) : S13 w W tp l := by
  obtain ⟨lo, hi, h2, h3, h4, _⟩ := h.tb
  exact ⟨h.bel, lo, hi, h2, h3, h4⟩
section
variable {w : World} {p g : Nat} {xs : List Nat} {tp : Option Addr} {l : Fns}
end

theorem aw15_tab : fTab [((0 : Int), ([] : List Nat))] = true := by decide
theorem aw15_own : fOwns [((0 : Int), ([] : List Nat))] = [(0, [])] := by decide
theorem aw15_frames : wkFrames frZ [(0, [])] ⟨0, 16, 16⟩ = ([], 0) := by decide +kernel

end Go.Proofs.YtdcnpaodcjfdbaaGreatDoor

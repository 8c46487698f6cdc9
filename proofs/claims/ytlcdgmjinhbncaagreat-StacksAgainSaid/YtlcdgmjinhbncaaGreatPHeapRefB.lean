/- Several texts in one: HeapMake, HeapMake2, HeapDrop. -/
import Derived.Test.YtlcdgmjinhbncaaGreatPHeapRefA
import Derived.Test.YtlcdgmjinhbncaaGreatPRowWords
import Derived.Test.YtlcdgmjinhbncaaGreatPPlain7
import Derived.Deep.Cut
import Derived.Deep.CutRange
import Derived.Deep.RegionHeld3
import Derived.RegionTactic
import Derived.ChangeAlike
import Derived.Deep.RegionLaw
/- What Make of the document's own answers to layer 7 (heap) returns. -/
namespace Go.Proofs.YtlcdgmjinhbncaaGreat
open Go.RowKit
set_option linter.unusedVariables false

theorem scells_one1 (y : Int × Int × Int × Int) : ∀ u ∈ scells y, u.oneCell' = true := fun u hy => by
  simp [scells, iv] at hy
  rcases hy with rfl | rfl | rfl | rfl <;> rfl
theorem scells_one {l : List (Int × Int × Int × Int)} : ∀ u ∈ cellsAll scells l, u.oneCell' = true := fun u hu => by
  obtain ⟨y, _, hy⟩ := List.mem_flatMap.1 hu
  simp [scells, iv] at hy
  rcases hy with rfl | rfl | rfl | rfl <;> rfl
/-- The cells of a row of spans, one behind the other. -/
theorem Sn.cellsAt {w : World} {B n : Nat} {A : Option Addr} {l : List (Int × Int × Int × Int)} (h : Sn w B A n l) : CellsAt w A (cellsAll scells l) := fun ad e j u hj => by
  have hlen := cellsAll_length scells_len l
  have hjl : j < l.length * 4 := by rw [← hlen]; exact (List.getElem?_eq_some_iff.1 hj).1
  have hq : j / 4 < n := by have := h.1; omega
  obtain ⟨b, off, y, cs, e2, _, hy, hcl, hcs, rfl⟩ := RowOf.at_ h hq
  rw [e] at e2
  injection e2 with e2
  subst e2
  have h1 := cellsAll_at scells_len l (j / 4) y hy (j % 4) (by omega)
  rw [show j / 4 * 4 + j % 4 = j by omega, hj] at h1
  rw [Go.WideShapes.add_plain, show off + j = off + j / 4 * 4 + j % 4 by omega, hcs (j % 4) (by omega), ← h1]

end Go.Proofs.YtlcdgmjinhbncaaGreat

/- What Make of the document's own answers to layer 7 (heap) returns, in all cases. -/
namespace Go.Proofs.YtlcdgmjinhbncaaGreat
open Go.RowKit
set_option linter.unusedVariables false

end Go.Proofs.YtlcdgmjinhbncaaGreat

/- What Drop of the document's own answers to layer 7 (heap) returns. -/
namespace Go.Proofs.YtlcdgmjinhbncaaGreat
open Go.RowKit
set_option linter.unusedVariables false

theorem grown_row {w w' : World} {g : Nat} (h : w.grownBy w' (some g)) (j : Nat) (u : Value) : w.grownBy (w'.setCell ⟨g, j, none⟩ u) (some g) :=
  ⟨h.os, h.tape, h.output, by simpa using h.size, fun k hk hr => (heap_setCell_other w' ⟨g, j, none⟩ k u (fun e => hr (by rw [e]))).trans (h.block k hk hr)⟩
end Go.Proofs.YtlcdgmjinhbncaaGreat

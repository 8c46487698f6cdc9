/- Layer 10's statements' arguments. -/
import Derived.Test.YtfemnkokoohdoaaGreatRows7
namespace Go.Proofs.YtfemnkokoohdoaaGreat
open Go.RowKit
set_option linter.unusedVariables false

/-- Numbers that came in. -/
theorem read_ids10 {H : Type} {enc : TypeId × Value → H} {W : World} {sp : Nat → Bool} {hd : Bool} {v : Value} {d : DataW H} {ps : List MemPlace} (h : DataW.Trod enc Tryz.prog W 0 sp hd 38 v d ps) :
    ∃ (A : Option Addr) (len cap : Nat) (l : List Int), v.cells.toList = [.slice A len cap] ∧ len ≤ maxLen ∧ Sl W W.heap.size A len (l.map iv) ∧ ∀ i ∈ l, in64 i := by
  obtain ⟨fuel, hf⟩ := h
  obtain ⟨A, len, cap, zs, e1, hlen, hsl, hwf⟩ := read_ints Tryz.underlying38 Tryz.underlying3 (by kernel_rfl) hf
  exact ⟨A, len, cap, zs, e1, hlen, hsl, fun x hx => wf_in64 (hwf x hx)⟩

end Go.Proofs.YtfemnkokoohdoaaGreat

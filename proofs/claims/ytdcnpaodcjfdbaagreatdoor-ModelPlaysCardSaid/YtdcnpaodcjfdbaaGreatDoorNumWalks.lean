/- What each function of layer 1 (num), and of the document's own answers to it, returns: for every argument of its type; memory is as it was, but for draws. -/
import Derived.Test.YtdcnpaodcjfdbaaGreatDoorNumMath
import Derived.Test.YtdcnpaodcjfdbaaGreatDoorBits
import Derived.Test.YtdcnpaodcjfdbaaGreatDoorProg
import Derived.WalkKit
import Derived.ProofKit
import Derived.Lib.Strings
import Derived.Lib.Slices
import Derived.Lib.Small
import Derived.Lib.Walk
namespace Go.Proofs.YtdcnpaodcjfdbaaGreatDoor
open Go.RowKit
set_option linter.unusedVariables false

/-- A fact that the walk doesn't take for a rule. -/
theorem hidd {p : Prop} (h : p) : Hid p := h

theorem len8_wrap (c i : Int) (hc : 0 ≤ c ∧ c ≤ 56) (h0 : 0 ≤ i) (h1 : i < 256) (h : i.toNat < Lib.len8tab.size) :
    wrap64 (c + wrap64 ((Lib.len8tab[i.toNat]'h).toNat : Int)) = c + (Lib.bitLen i.toNat : Int) := by
  have e := Lib.len8_of i h0 (by omega)
  have l := Lib.bitLen_le8' i h0 (by omega)
  have e2 : ((Lib.len8tab[i.toNat]'h).toNat : Int) = (Lib.bitLen i.toNat : Int) := by
    rw [← e]; unfold Lib.len8; rw [getElem?_pos Lib.len8tab i.toNat h]; rfl
  rw [e2, IntWalk.wrap64_in (Lib.bitLen i.toNat : Int) (by omega), IntWalk.wrap64_in _ (by omega)]

end Go.Proofs.YtdcnpaodcjfdbaaGreatDoor

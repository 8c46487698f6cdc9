/- What a row's list of the library's tables gives the walks: math/bits.deBruijn64tab, the first of the list. -/
import Derived.Test.YtdcnpaodcjfdbaaGreatDoorBitTab
import Derived.Test.YtdcnpaodcjfdbaaGreatDoorRows
import Derived.Lib.LaidTab
import Derived.LaidLaws
import Derived.Stop.LaidErr
namespace Go.Proofs.YtdcnpaodcjfdbaaGreatDoor
open Go.RowKit
set_option linter.unusedVariables false

theorem db64 : Tryz.prog.globalNamed "math/bits.deBruijn64tab" = some 0 := by kernel_rfl
theorem db64type : (Tryz.prog.globals[0]?).map (·.type) = some 138 := by kernel_rfl
theorem db64cells : Tryz.prog.cellsOf 138 = 64 := by kernel_rfl
theorem db8cells : Tryz.prog.cellsOf 5 = 1 := by kernel_rfl

def dbList : List Int := [0, 1, 56, 2, 57, 49, 28, 3, 61, 58, 42, 50, 38, 29, 17, 4, 62, 47, 59, 36, 45, 43, 51, 22, 53, 39, 33, 30, 24, 18, 12, 5, 63, 55, 48, 27, 60, 41, 37, 16, 46, 35, 44, 21, 52, 32, 23, 11, 54, 26, 40, 15, 34, 20, 31, 10, 25, 14, 19, 9, 13, 8, 7, 6]
theorem dbList_at : ∀ j, j < 64 → dbList[j]? = some ((Lib.deBruijn64tab.getD j 0 : Nat) : Int) := by decide +kernel
theorem dbList_getD (j : Nat) (h : j < 64) : dbList.getD j 0 = ((Lib.deBruijn64tab.getD j 0 : Nat) : Int) := by
  rw [List.getD_eq_getElem?_getD, dbList_at j h]; rfl

theorem tabDB_first {W : World} {rest : List (String × DataW Unit)} (h : laidMet Tryz.prog (("math/bits.deBruijn64tab", Rows.laid_math_bits_deBruijn64tab) :: rest) W) : TabDB W := by
  have ht : Lib.TabIs Tryz.prog W "math/bits.deBruijn64tab" .u8 dbList := Lib.tabIs_of_head (rest := rest) db64 db64type Tryz.underlying138 Tryz.underlying5 db8cells db64cells h
  intro j hj
  have hc := ht.cell db64 j (show j < 64 from hj)
  rw [hc]
  exact congrArg (fun z => some (Value.int .u8 z)) (dbList_getD j hj)

end Go.Proofs.YtdcnpaodcjfdbaaGreatDoor

/- What a row's list of the library's tables gives the walks: the one cell that they read. -/
import Derived.Test.YtcjdmkjcpelakaaDoorFmt16
import Derived.Test.YtcjdmkjcpelakaaDoorRows
import Derived.Lib.LaidTab
import Derived.LaidLaws
import Derived.Stop.LaidErr
namespace Go.Proofs.YtcjdmkjcpelakaaDoor
open Go.RowKit
set_option linter.unusedVariables false

theorem g64 : Tryd.prog.globalNamed "math/bits.deBruijn64tab" = some 8 := by kernel_rfl
theorem g64type : (Tryd.prog.globals[8]?).map (·.type) = some 122 := by kernel_rfl
theorem c64 : Tryd.prog.cellsOf 122 = 64 := by kernel_rfl
theorem c1 : Tryd.prog.cellsOf 5 = 1 := by kernel_rfl

def zs64 : List Int := [0, 1, 56, 2, 57, 49, 28, 3, 61, 58, 42, 50, 38, 29, 17, 4, 62, 47, 59, 36, 45, 43, 51, 22, 53, 39, 33, 30, 24, 18, 12, 5, 63, 55, 48, 27, 60, 41, 37, 16, 46, 35, 44, 21, 52, 32, 23, 11, 54, 26, 40, 15, 34, 20, 31, 10, 25, 14, 19, 9, 13, 8, 7, 6]

/-- The second of the listed tables. -/
theorem tab64_second {W : World} {x : String × DataW Unit} {rest : List (String × DataW Unit)} (h : laidMet Tryd.prog (x :: ("math/bits.deBruijn64tab", Rows.laid_math_bits_deBruijn64tab) :: rest) W) : Tab64 W := by
  have ht : Lib.TabIs Tryd.prog W "math/bits.deBruijn64tab" .u8 zs64 := Lib.tabIs_of_head (rest := rest) g64 g64type Tryd.underlying122 Tryd.underlying5 c1 c64 h.tail
  have hc : W.cell? ⟨8, 15, none⟩ = some (.int .u8 4) := ht.cell g64 15 (by decide)
  exact ⟨hc, World.block_lt_of_cell? _ _ hc⟩

end Go.Proofs.YtcjdmkjcpelakaaDoor

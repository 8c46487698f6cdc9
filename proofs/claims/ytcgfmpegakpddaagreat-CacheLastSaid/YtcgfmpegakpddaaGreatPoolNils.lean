/- What the calls of a nil pool return. -/
import Derived.Test.YtcgfmpegakpddaaGreatPoolTrim
import Derived.Test.YtcgfmpegakpddaaGreatHeapFreeNil
namespace Go.Proofs.YtcgfmpegakpddaaGreat
open Go.RowKit Go.Maps
set_option linter.unusedVariables false

def NilDone (w : World) (e : Ending) (w' : World) : Prop := e = .returned (.tuple #[]) ∧ Below w.heap.size w w'
/-- trim, of a nil pool: it is held by nobody, and has nothing. -/
theorem code_ptrim_nil (w : World) : Calls Tryz.prog 106 #[.pointer none] w (NilDone w) := by
  have cp := code_pparts_nil w
  have cr := fun W => code_rising_nil W 142 #[]
  unfold OwnCuts at cr
  simp only [List.length_nil] at cr
  go_enter Tryz.func106, Tryz.ntmps106
  go_wp2_with (first
    | (go_at_call 112; (with_reducible refine cp.mono ?_); rintro e w1 ⟨rfl, hb1⟩)
    | (go_at_call 57; (with_reducible refine (cr _).mono ?_); rintro e w2 ⟨A, c, rfl, hrow, hb2'⟩))
  have hbX := hb1.alloc hb1.size (.cells #[.pointer none, .pointer none, .map none, .bool false] 119)
  have hb2 := hbX.trans (hb2'.mono hbX.size)
  have y0 : w2.cell? ⟨w1.heap.size, 0, none⟩ = some (.pointer none) := (hb2'.cell (p := ⟨w1.heap.size, 0, none⟩) (by simp)).trans (by simp)
  have cf := code_hfree_nil0 none 0 w2
  refine wp_loop_rounds 1 ?_
  rw [rounds_succ]
  go_wp2_with (go_at_call 143; (with_reducible refine cf.mono ?_); rintro e w5 ⟨rfl, hb5⟩; have P : Hid (NilDone w (.returned (.tuple #[])) w5) := hidb ⟨rfl, hb2.trans (hb5.mono hb2.size)⟩)
  exact bodyPost_ret (v := .tuple #[]) (by simp [results, Tryz.results106, go_sem]) rfl P.out

end Go.Proofs.YtcgfmpegakpddaaGreat

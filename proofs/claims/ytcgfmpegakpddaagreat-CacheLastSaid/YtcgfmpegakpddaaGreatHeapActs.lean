/- Reading the acts that layer 7's statements take. -/
import Derived.Test.YtcgfmpegakpddaaGreatRows7
namespace Go.Proofs.YtcgfmpegakpddaaGreat
open Go.RowKit
set_option linter.unusedVariables false

structure Act7 where
  free : Bool
  A : Option Addr
  len : Nat
  cap : Nat
  ids : List Int
  pages : Int
  order : Int

theorem four7 {cs : List Value} (hl : cs.length = 4) {a b c d : Value} (h0 : cs[0]? = some a) (h1 : cs[1]? = some b) (h2 : cs[2]? = some c) (h3 : cs[3]? = some d) : cs = [a, b, c, d] := by
  match cs, hl with
  | [a0, a1, a2, a3], _ => simp_all

def Act7Is (W : World) (cs : List Value) (a : Act7) : Prop :=
  cs = [.bool a.free, .slice a.A a.len a.cap, iv a.pages, iv a.order] ∧ a.len ≤ maxLen ∧ Sl W W.heap.size a.A a.len (a.ids.map iv) ∧ (∀ x ∈ a.ids, in64 x) ∧ in64 a.pages ∧ in64 a.order

section
variable {H : Type} {enc : TypeId × Value → H} {W : World} {sp : Nat → Bool} {hd : Bool}
theorem a7_bool : Tryz.prog.cellsOf 4 = 1 := by kernel_rfl
theorem a7_int : Tryz.prog.cellsOf 3 = 1 := by kernel_rfl
theorem a7_ints : Tryz.prog.cellsOf 38 = 1 := by kernel_rfl

end

end Go.Proofs.YtcgfmpegakpddaaGreat

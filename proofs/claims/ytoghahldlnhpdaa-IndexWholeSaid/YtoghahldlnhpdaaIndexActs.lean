/- Reading the acts that layer 5's statements take. -/
import Derived.Test.YtoghahldlnhpdaaRunReads
namespace Go.Proofs.Ytoghahldlnhpdaa
open Go.RowKit
set_option linter.unusedVariables false

structure Act5 where
  drop : Bool
  id : Int
  A : Option Addr
  len : Nat
  cap : Nat
  rs : List (Int × Int)

theorem three {cs : List Value} (hl : cs.length = 3) {a b c : Value} (h0 : cs[0]? = some a) (h1 : cs[1]? = some b) (h2 : cs[2]? = some c) : cs = [a, b, c] := by
  match cs, hl with
  | [a0, a1, a2], _ => simp_all

def Act5Is (W : World) (cs : List Value) (a : Act5) : Prop :=
  cs = [.bool a.drop, iv a.id, .slice a.A a.len a.cap] ∧ in64 a.id ∧ a.len ≤ maxLen ∧ Rn W W.heap.size a.A a.len a.rs ∧ ∀ r ∈ a.rs, in64 r.1 ∧ in64 r.2

section
variable {H : Type} {enc : TypeId × Value → H} {W : World} {sp : Nat → Bool} {hd : Bool}
theorem a5_cells : Try.prog.cellsOf 30 = 3 := by kernel_rfl
theorem a5_bool : Try.prog.cellsOf 4 = 1 := by kernel_rfl
theorem a5_runs : Try.prog.cellsOf 28 = 1 := by kernel_rfl

theorem read_act5 (fuel : Nat) (cs : List Value) (x : DataW H × List MemPlace) (h : DataW.trod enc Try.prog W 0 sp hd fuel 30 cs = some x) : ∃ a, Act5Is W cs a := by
  obtain ⟨hl, hf⟩ := read_field Try.underlying30 h
  rw [a5_cells] at hl
  obtain ⟨c0, n0, y0, g0, t0⟩ := hf 0 _ rfl a5_bool (by rw [hl]; decide)
  obtain ⟨c1, n1, y1, g1, t1⟩ := hf 1 _ rfl rr_int (by rw [hl]; decide)
  obtain ⟨c2, n2, y2, g2, t2⟩ := hf 2 _ rfl a5_runs (by rw [hl]; decide)
  obtain ⟨z0, e0, _⟩ := DataW.trod_bool Try.underlying4 t0
  obtain ⟨z1, e1, _, w1⟩ := DataW.trod_int Try.underlying3 t1
  obtain ⟨A, len, cap, l, e2, hm, hR, hr⟩ := read_runs_cells t2
  simp only [List.cons.injEq, and_true] at e0 e1 e2
  subst e0 e1 e2
  exact ⟨⟨z0, z1, A, len, cap, l⟩, three hl g0 g1 g2, wf_in64 w1, hm, hR, hr⟩
theorem read_acts5 {v : Value} {d : DataW H} {ps : List MemPlace} (h : DataW.Trod enc Try.prog W 0 sp hd 22 v d ps) :
    ∃ (A : Option Addr) (len cap : Nat) (l : List Act5), v.cells.toList = [.slice A len cap] ∧ len ≤ maxLen ∧ RowOf (Act5Is W) 3 W W.heap.size A len l := by
  obtain ⟨fuel, hf⟩ := h
  exact read_row (Act5Is W) 3 Try.underlying22 a5_cells (by decide) (fun fuel cs x h => read_act5 fuel cs x h) hf
end

end Go.Proofs.Ytoghahldlnhpdaa

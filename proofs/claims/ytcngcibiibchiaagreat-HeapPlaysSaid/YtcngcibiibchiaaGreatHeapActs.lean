/- Reading the acts that layer 7's statements take. -/
import Derived.Test.YtcngcibiibchiaaGreatRows7
namespace Go.Proofs.YtcngcibiibchiaaGreat
open Go.RowKit
set_option linter.unusedVariables false

structure Act7 where
  free : Bool
  A : Option Addr
  len : Nat
  cap : Nat
  ids : List Int
  pages : Int
  order : Int

theorem four7 {cs : List Value} (hl : cs.length = 4) {a b c d : Value} (h0 : cs[0]? = some a) (h1 : cs[1]? = some b) (h2 : cs[2]? = some c) (h3 : cs[3]? = some d) : cs = [a, b, c, d] := by
  match cs, hl with
  | [a0, a1, a2, a3], _ => simp_all

def Act7Is (W : World) (cs : List Value) (a : Act7) : Prop :=
  cs = [.bool a.free, .slice a.A a.len a.cap, iv a.pages, iv a.order] ∧ a.len ≤ maxLen ∧ Sl W W.heap.size a.A a.len (a.ids.map iv) ∧ (∀ x ∈ a.ids, in64 x) ∧ in64 a.pages ∧ in64 a.order

section
variable {H : Type} {enc : TypeId × Value → H} {W : World} {sp : Nat → Bool} {hd : Bool}
theorem a7_cells : Tryz.prog.cellsOf 37 = 4 := by kernel_rfl
theorem a7_bool : Tryz.prog.cellsOf 4 = 1 := by kernel_rfl
theorem a7_int : Tryz.prog.cellsOf 3 = 1 := by kernel_rfl
theorem a7_ints : Tryz.prog.cellsOf 35 = 1 := by kernel_rfl

theorem read_act7 (fuel : Nat) (cs : List Value) (x : DataW H × List MemPlace) (h : DataW.trod enc Tryz.prog W 0 sp hd fuel 37 cs = some x) : ∃ a, Act7Is W cs a := by
  obtain ⟨hl, hf⟩ := read_field Tryz.underlying37 h
  rw [a7_cells] at hl
  obtain ⟨c0, n0, y0, g0, t0⟩ := hf 0 _ rfl a7_bool (by rw [hl]; decide)
  obtain ⟨c1, n1, y1, g1, t1⟩ := hf 1 _ rfl a7_ints (by rw [hl]; decide)
  obtain ⟨c2, n2, y2, g2, t2⟩ := hf 2 _ rfl a7_int (by rw [hl]; decide)
  obtain ⟨c3, n3, y3, g3, t3⟩ := hf 3 _ rfl a7_int (by rw [hl]; decide)
  obtain ⟨z0, e0, _⟩ := DataW.trod_bool Tryz.underlying4 t0
  obtain ⟨A, len, cap, zs, e1, hlen, hsl, hwf⟩ := read_ints Tryz.underlying35 Tryz.underlying3 a7_int t1
  obtain ⟨z2, e2, _, w2⟩ := DataW.trod_int Tryz.underlying3 t2
  obtain ⟨z3, e3, _, w3⟩ := DataW.trod_int Tryz.underlying3 t3
  simp only [List.cons.injEq, and_true] at e0 e1 e2 e3
  subst e0 e1 e2 e3
  exact ⟨⟨z0, A, len, cap, zs, z2, z3⟩, four7 hl g0 g1 g2 g3, hlen, hsl, fun x hx => wf_in64 (hwf x hx), wf_in64 w2, wf_in64 w3⟩
theorem read_acts7 {v : Value} {d : DataW H} {ps : List MemPlace} (h : DataW.Trod enc Tryz.prog W 0 sp hd 22 v d ps) :
    ∃ (A : Option Addr) (len cap : Nat) (l : List Act7), v.cells.toList = [.slice A len cap] ∧ len ≤ maxLen ∧ RowOf (Act7Is W) 4 W W.heap.size A len l := by
  obtain ⟨fuel, hf⟩ := h
  exact read_row (Act7Is W) 4 Tryz.underlying22 a7_cells (by decide) (fun fuel cs x h => read_act7 fuel cs x h) hf
end

end Go.Proofs.YtcngcibiibchiaaGreat

/- Layer 12's acts, as they came in. -/
import Derived.Test.YtlcdgmjinhbncaaGreatPRowWords
namespace Go.Proofs.YtlcdgmjinhbncaaGreat
open Go.RowKit
set_option linter.unusedVariables false

structure Act12 where
  kind : Int
  proc : Int
  words : Int
  at' : Int
  k : Int
theorem five12 {cs : List Value} (hl : cs.length = 5) {a b c d e : Value} (h0 : cs[0]? = some a) (h1 : cs[1]? = some b) (h2 : cs[2]? = some c) (h3 : cs[3]? = some d) (h4 : cs[4]? = some e) : cs = [a, b, c, d, e] := by
  match cs, hl with
  | [a0, a1, a2, a3, a4], _ => simp_all
def Act12Is (W : World) (cs : List Value) (a : Act12) : Prop :=
  cs = [iv a.kind, iv a.proc, iv a.words, iv a.at', iv a.k] ∧ in64 a.kind ∧ in64 a.proc ∧ in64 a.words ∧ in64 a.at' ∧ in64 a.k
section
variable {H : Type} {enc : TypeId × Value → H} {W : World} {sp : Nat → Bool} {hd : Bool}
theorem a12_cells : Tryz.prog.cellsOf 96 = 5 := by kernel_rfl
theorem a12_int : Tryz.prog.cellsOf 3 = 1 := by kernel_rfl
theorem read_act12 (fuel : Nat) (cs : List Value) (x : DataW H × List MemPlace) (h : DataW.trod enc Tryz.prog W 0 sp hd fuel 96 cs = some x) : ∃ a, Act12Is W cs a := by
  obtain ⟨hl, hf⟩ := read_field Tryz.underlying96 h
  rw [a12_cells] at hl
  obtain ⟨c0, n0, y0, g0, t0⟩ := hf 0 _ rfl a12_int (by rw [hl]; decide)
  obtain ⟨c1, n1, y1, g1, t1⟩ := hf 1 _ rfl a12_int (by rw [hl]; decide)
  obtain ⟨c2, n2, y2, g2, t2⟩ := hf 2 _ rfl a12_int (by rw [hl]; decide)
  obtain ⟨c3, n3, y3, g3, t3⟩ := hf 3 _ rfl a12_int (by rw [hl]; decide)
  obtain ⟨c4, n4, y4, g4, t4⟩ := hf 4 _ rfl a12_int (by rw [hl]; decide)
  obtain ⟨z0, e0, _, w0⟩ := DataW.trod_int Tryz.underlying3 t0
  obtain ⟨z1, e1, _, w1⟩ := DataW.trod_int Tryz.underlying3 t1
  obtain ⟨z2, e2, _, w2⟩ := DataW.trod_int Tryz.underlying3 t2
  obtain ⟨z3, e3, _, w3⟩ := DataW.trod_int Tryz.underlying3 t3
  obtain ⟨z4, e4, _, w4⟩ := DataW.trod_int Tryz.underlying3 t4
  simp only [List.cons.injEq, and_true] at e0 e1 e2 e3 e4
  subst e0 e1 e2 e3 e4
  exact ⟨⟨z0, z1, z2, z3, z4⟩, five12 hl g0 g1 g2 g3 g4, wf_in64 w0, wf_in64 w1, wf_in64 w2, wf_in64 w3, wf_in64 w4⟩
theorem read_acts12 {v : Value} {d : DataW H} {ps : List MemPlace} (h : DataW.Trod enc Tryz.prog W 0 sp hd 82 v d ps) :
    ∃ (A : Option Addr) (len cap : Nat) (l : List Act12), v.cells.toList = [.slice A len cap] ∧ len ≤ maxLen ∧ RowOf (Act12Is W) 5 W W.heap.size A len l := by
  obtain ⟨fuel, hf⟩ := h
  exact read_row (Act12Is W) 5 Tryz.underlying82 a12_cells (by decide) (fun fuel cs x h => read_act12 fuel cs x h) hf
end

end Go.Proofs.YtlcdgmjinhbncaaGreat

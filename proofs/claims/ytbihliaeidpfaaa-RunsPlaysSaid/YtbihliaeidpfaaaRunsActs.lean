/- Reading the acts that layer 6's statements take. -/
import Derived.Test.YtbihliaeidpfaaaRunReads
namespace Go.Proofs.Ytbihliaeidpfaaa
open Go.RowKit
set_option linter.unusedVariables false

structure Act6 where
  kind : Int
  n : Int
  x : Int × Int
  A : Option Addr
  len : Nat
  cap : Nat
  rs : List (Int × Int)

def Act6Is (W : World) (cs : List Value) (a : Act6) : Prop :=
  cs = [iv a.kind, iv a.n, iv a.x.1, iv a.x.2, .slice a.A a.len a.cap] ∧ in64 a.kind ∧ in64 a.n ∧ (in64 a.x.1 ∧ in64 a.x.2) ∧ a.len ≤ maxLen ∧ Rn W W.heap.size a.A a.len a.rs ∧ ∀ r ∈ a.rs, in64 r.1 ∧ in64 r.2

section
variable {H : Type} {enc : TypeId × Value → H} {W : World} {sp : Nat → Bool} {hd : Bool}
theorem a6_cells : Try.prog.cellsOf 36 = 5 := by kernel_rfl
theorem a6_runs : Try.prog.cellsOf 22 = 1 := by kernel_rfl

theorem read_act6 (fuel : Nat) (cs : List Value) (x : DataW H × List MemPlace) (h : DataW.trod enc Try.prog W 0 sp hd fuel 36 cs = some x) : ∃ a, Act6Is W cs a := by
  obtain ⟨hl, hf⟩ := read_field Try.underlying36 h
  rw [a6_cells] at hl
  obtain ⟨c0, n0, y0, g0, t0⟩ := hf 0 _ rfl rr_int (by rw [hl]; decide)
  obtain ⟨c1, n1, y1, g1, t1⟩ := hf 1 _ rfl rr_int (by rw [hl]; decide)
  obtain ⟨n2, y2, t2⟩ := read_fieldN 2 Try.underlying36 h 2 _ rfl rr_cells (by rw [hl]; decide)
  obtain ⟨c3, n3, y3, g3, t3⟩ := hf 3 _ rfl a6_runs (by rw [hl]; decide)
  obtain ⟨z0, e0, _, w0⟩ := DataW.trod_int Try.underlying3 t0
  obtain ⟨z1, e1, _, w1⟩ := DataW.trod_int Try.underlying3 t1
  obtain ⟨r, e2, hr1, hr2⟩ := read_run _ _ _ t2
  obtain ⟨A, len, cap, l, e3, hm, hR, hr⟩ := read_runs_cells t3
  simp only [List.cons.injEq, and_true] at e0 e1 e3
  subst e0 e1 e3
  refine ⟨⟨z0, z1, r, A, len, cap, l⟩, ?_, wf_in64 w0, wf_in64 w1, ⟨hr1, hr2⟩, hm, hR, hr⟩
  match cs, hl with
  | [a0, a1, a2, a3, a4], _ =>
    have e4 : [a2, a3] = [iv r.1, iv r.2] := e2
    clear e2
    simp_all [iv]
theorem read_acts6 {v : Value} {d : DataW H} {ps : List MemPlace} (h : DataW.Trod enc Try.prog W 0 sp hd 23 v d ps) :
    ∃ (A : Option Addr) (len cap : Nat) (l : List Act6), v.cells.toList = [.slice A len cap] ∧ len ≤ maxLen ∧ RowOf (Act6Is W) 5 W W.heap.size A len l := by
  obtain ⟨fuel, hf⟩ := h
  exact read_row (Act6Is W) 5 Try.underlying23 a6_cells (by decide) (fun fuel cs x h => read_act6 fuel cs x h) hf
end

end Go.Proofs.Ytbihliaeidpfaaa

/- Reading rows of runs, and the acts that the statements of layers 5 and 6 take. -/
import Derived.Test.YtbihliaeidpfaaaRunRows
namespace Go.Proofs.Ytbihliaeidpfaaa
open Go.RowKit
set_option linter.unusedVariables false

section
variable {H : Type} {enc : TypeId × Value → H} {P : Program} {W : World} {sp : Nat → Bool} {hd : Bool}
/-- A struct's field of some cells. -/
theorem read_fieldN (k : Nat) {fs : Array Field} {t : TypeId} {fuel : Nat} {cs : List Value} {x : DataW H × List MemPlace} (ht : P.underlying t = some (.struct fs)) (h : DataW.trod enc P W 0 sp hd fuel t cs = some x) :
    ∀ (i : Nat) (f : Field), fs[i]? = some f → P.cellsOf f.type = k → f.offset + k ≤ cs.length → ∃ n y, DataW.trod enc P W 0 sp hd n f.type ((cs.drop f.offset).take k) = some y := by
  obtain ⟨xs, n, _, _, hl, hxl, hf⟩ := DataW.trod_struct ht h
  intro i f hi hc ho
  have h1 := hf i f hi
  have hil : i < xs.length := by
    rw [hxl]
    exact (Array.getElem?_eq_some_iff.1 hi).1
  rw [hc, List.getElem?_eq_getElem hil] at h1
  exact ⟨_, _, h1⟩
end

section
variable {H : Type} {enc : TypeId × Value → H} {W : World} {sp : Nat → Bool} {hd : Bool}
theorem rr_cells : Try.prog.cellsOf 34 = 2 := by kernel_rfl
theorem rr_int : Try.prog.cellsOf 3 = 1 := by kernel_rfl

/-- A run. -/
def RunCells (cs : List Value) (r : Int × Int) : Prop := cs = [iv r.1, iv r.2] ∧ in64 r.1 ∧ in64 r.2
theorem read_run (fuel : Nat) (cs : List Value) (x : DataW H × List MemPlace) (h : DataW.trod enc Try.prog W 0 sp hd fuel 34 cs = some x) : ∃ r, RunCells cs r := by
  obtain ⟨hl, hf⟩ := read_field Try.underlying34 h
  rw [rr_cells] at hl
  obtain ⟨c0, n0, y0, g0, t0⟩ := hf 0 _ rfl rr_int (by rw [hl]; decide)
  obtain ⟨c1, n1, y1, g1, t1⟩ := hf 1 _ rfl rr_int (by rw [hl]; decide)
  obtain ⟨z0, e0, _, w0⟩ := DataW.trod_int Try.underlying3 t0
  obtain ⟨z1, e1, _, w1⟩ := DataW.trod_int Try.underlying3 t1
  simp only [List.cons.injEq, and_true] at e0 e1
  subst e0 e1
  refine ⟨(z0, z1), ?_, wf_in64 w0, wf_in64 w1⟩
  match cs, hl with
  | [a0, a1], _ => simp_all [iv]
theorem Rn.of_runs {w : World} {B n : Nat} {A : Option Addr} {l : List (Int × Int)} (h : RowOf RunCells 2 w B A n l) : Rn w B A n l ∧ ∀ r ∈ l, in64 r.1 ∧ in64 r.2 := by
  constructor
  · refine ⟨h.1, fun hn => ?_⟩
    obtain ⟨b, off, e, hb, hc⟩ := h.2 hn
    refine ⟨b, off, e, hb, fun j r hj => ?_⟩
    obtain ⟨cs, _, h2, rfl, _⟩ := hc j r hj
    exact ⟨h2 0 (by omega), h2 1 (by omega)⟩
  · intro r hr
    obtain ⟨j, hj, rfl⟩ := List.getElem_of_mem hr
    obtain ⟨b, off, y, cs, _, _, hy, _, _, hR⟩ := h.at_ (j := j) (by have := h.1; omega)
    rw [List.getElem?_eq_getElem hj] at hy
    injection hy with hy
    rw [hy]; exact hR.2
/-- A row of runs. -/
theorem read_runs_cells {fuel : Nat} {cs : List Value} {x : DataW H × List MemPlace} (h : DataW.trod enc Try.prog W 0 sp hd fuel 22 cs = some x) :
    ∃ (A : Option Addr) (len cap : Nat) (l : List (Int × Int)), cs = [.slice A len cap] ∧ len ≤ maxLen ∧ Rn W W.heap.size A len l ∧ ∀ r ∈ l, in64 r.1 ∧ in64 r.2 := by
  obtain ⟨A, len, cap, l, e, hm, hr⟩ := read_row RunCells 2 Try.underlying22 rr_cells (by decide) (fun fuel cs x h => read_run fuel cs x h) h
  exact ⟨A, len, cap, l, e, hm, Rn.of_runs hr⟩
theorem read_runs {v : Value} {d : DataW H} {ps : List MemPlace} (h : DataW.Trod enc Try.prog W 0 sp hd 22 v d ps) :
    ∃ (A : Option Addr) (len cap : Nat) (l : List (Int × Int)), v.cells.toList = [.slice A len cap] ∧ len ≤ maxLen ∧ Rn W W.heap.size A len l ∧ ∀ r ∈ l, in64 r.1 ∧ in64 r.2 := by
  obtain ⟨fuel, hf⟩ := h
  exact read_runs_cells hf
end

end Go.Proofs.Ytbihliaeidpfaaa

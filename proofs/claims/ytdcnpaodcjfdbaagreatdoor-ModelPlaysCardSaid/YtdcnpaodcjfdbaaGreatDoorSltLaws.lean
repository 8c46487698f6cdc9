/- The walks of layer 16's statements: what comes in, the document's example, an arena as told. -/
import Derived.Test.YtdcnpaodcjfdbaaGreatDoorSlsAll
import Derived.Test.YtdcnpaodcjfdbaaGreatDoorWlkTop0
namespace Go.Proofs.YtdcnpaodcjfdbaaGreatDoor
open Go.RowKit Go.ChangeShapes Go.WideShapes
set_option linter.unusedVariables false

section
variable {H : Type} {enc : TypeId × Value → H} {W : World} {sp : Nat → Bool} {hd : Bool}
theorem vl_cells : Tryz.prog.cellsOf 34 = 4 := by kernel_rfl
theorem vl_u8 : Tryz.prog.cellsOf 5 = 1 := by kernel_rfl
theorem vl_u64 : Tryz.prog.cellsOf 32 = 1 := by kernel_rfl
theorem vl_int : Tryz.prog.cellsOf 3 = 1 := by kernel_rfl
theorem wf_u8 {z : Int} (h : (Lit.int .u8 z).wf = true) : 0 ≤ z ∧ z < 256 := by
  have h1 : IntKind.u8.min = 0 := rfl
  have h2 : IntKind.u8.max = 255 := rfl
  simp only [Lit.wf, Bool.and_eq_true, decide_eq_true_eq] at h
  exact ⟨by omega, by omega⟩
def VlOk (v : VlV) : Prop := v.kind < 256 ∧ v.bits < 18446744073709551616 ∧ in64 v.depth ∧ in64 v.slot
def VlIs (cs : List Value) (v : VlV) : Prop := cs = vlcells v ∧ VlOk v
theorem read_valF (fuel : Nat) (cs : List Value) (x : DataW H × List MemPlace) (h : DataW.trod enc Tryz.prog W 0 sp hd fuel 34 cs = some x) : ∃ v, VlIs cs v := by
  obtain ⟨hl, hf⟩ := read_field Tryz.underlying34 h
  rw [vl_cells] at hl
  obtain ⟨c0, n0, y0, g0, t0⟩ := hf 0 _ rfl vl_u8 (by rw [hl]; decide)
  obtain ⟨c1, n1, y1, g1, t1⟩ := hf 1 _ rfl vl_u64 (by rw [hl]; decide)
  obtain ⟨c2, n2, y2, g2, t2⟩ := hf 2 _ rfl vl_int (by rw [hl]; decide)
  obtain ⟨c3, n3, y3, g3, t3⟩ := hf 3 _ rfl vl_int (by rw [hl]; decide)
  obtain ⟨z0, e0, _, w0⟩ := DataW.trod_int Tryz.underlying5 t0
  obtain ⟨z1, e1, _, w1⟩ := DataW.trod_int Tryz.underlying32 t1
  obtain ⟨z2, e2, _, w2⟩ := DataW.trod_int Tryz.underlying3 t2
  obtain ⟨z3, e3, _, w3⟩ := DataW.trod_int Tryz.underlying3 t3
  simp only [List.cons.injEq, and_true] at e0 e1 e2 e3
  subst e0 e1 e2 e3
  have k0 := wf_u8 w0
  have k1 := wf_word w1
  refine ⟨⟨z0.toNat, z1.toNat, z2, z3⟩, ?_, by show z0.toNat < 256; omega, by show z1.toNat < _; omega, wf_in64 w2, wf_in64 w3⟩
  unfold vlcells
  simp only
  rw [Int.toNat_of_nonneg k0.1, Int.toNat_of_nonneg k1.1]
  match cs, hl with
  | [a0, a1, a2, a3], _ => simp_all
/-- Values that came in. -/
theorem read_vals {v : Value} {d : DataW H} {ps : List MemPlace} (h : DataW.Trod enc Tryz.prog W 0 sp hd 57 v d ps) :
    ∃ (A : Option Addr) (len cap : Nat) (L : List VlV), v.cells.toList = [.slice A len cap] ∧ len ≤ maxLen ∧ (VlRow W W.heap.size A len L ∧ ∀ x ∈ L, VlOk x) := by
  obtain ⟨fuel, hf⟩ := h
  obtain ⟨A, len, cap, l, e, hm, hr⟩ := read_row VlIs 4 Tryz.underlying57 vl_cells (by decide) (fun fuel cs x h => read_valF fuel cs x h) hf
  refine ⟨A, len, cap, l, e, hm, ⟨hr.1, fun hn => ?_⟩, fun x hx => ?_⟩
  · obtain ⟨b, off, e, hb, hc⟩ := hr.2 hn
    refine ⟨b, off, e, hb, fun j y hj => ?_⟩
    obtain ⟨cs, c1, c2, c3⟩ := hc j y hj
    exact ⟨cs, c1, c2, c3.1⟩
  · obtain ⟨j, hj, rfl⟩ := List.getElem_of_mem hx
    obtain ⟨b, off, y, cs, _, _, h1, _, _, hR⟩ := hr.at_ (j := j) (by have := hr.1; omega)
    rw [List.getElem?_eq_getElem hj] at h1
    injection h1 with h1
    rw [h1]; exact hR.2
end

/-- What is more than is gone through. -/
def gr16 (n : Nat) (l : Fns) (m : Nat) : Bool := decide (256 < n) || fGreat l || decide (40 < m)
theorem aw16_tab : fTab [((3 : Int), ([] : List Nat))] = true := by decide
theorem aw16_own : fOwns [((3 : Int), ([] : List Nat))] = [(3, [])] := by decide
theorem aw16_adr : slAdr [((3 : Int), ([] : List Nat))] [⟨59, 0, -1⟩] 0 0 = (61, 0) := by decide +kernel
theorem aw16_yes : vMay ⟨1, 7, 0, 0⟩ = true := by decide
theorem aw16_no : vMay ⟨0, 7, 0, 0⟩ = false := by decide

section
variable {w X : World} {A2 : Option Addr} {n2 c2 : Nat} {ys : List FnV}
/-- A table of whatever functions come in. -/
theorem t_new_no (hr : FnRow X 0 X.heap.size A2 n2 ys) (hy : ∀ y ∈ ys, y.n ≤ 17592186044416) (hm2 : n2 ≤ 9223372036854775807) (hT : fTab (vals ys) = false) :
    Calls Tryz.prog 4 #[.slice A2 n2 c2] X fun e w' => e = .returned (.tuple #[.pointer none, .int .i64 1]) ∧ Hid (Below X.heap.size X w') := by
  by_cases h100 : 100 < n2
  · exact (code_fNew_big A2 n2 c2 X h100 (by omega)).mono fun e w' h => ⟨h.1, hidb h.2⟩
  · exact (code_fNew_no A2 n2 c2 ys 0 X hr (by omega) hy hT).mono fun e w' h => ⟨h.1, hidb h.2⟩
theorem t_new_yes (hr : FnRow X 0 X.heap.size A2 n2 ys) (hy : ∀ y ∈ ys, y.n ≤ 17592186044416) (ht : TabDB X) (hT : fTab (vals ys) = true) :
    Calls Tryz.prog 4 #[.slice A2 n2 c2] X fun e w' => ∃ q, e = .returned (.tuple #[.pointer (some ⟨q, 0, none⟩), .int .i64 0]) ∧ Hid (S13 X w' (some ⟨q, 0, none⟩) (fOwns (vals ys))) := by
  have h100 : n2 ≤ 100 := by unfold fTab at hT; rw [Bool.and_eq_true, decide_eq_true_iff, vals_length, hr.len] at hT; omega
  exact (code_fNew A2 n2 c2 ys 0 X hr (by omega) hy ht hT).mono fun e w' ⟨q, h1, h2, h3⟩ => ⟨q, h1, hidb ⟨h3, _, _, h2.o, Nat.le_refl _, Nat.le_refl _⟩⟩
end
end Go.Proofs.YtdcnpaodcjfdbaaGreatDoor

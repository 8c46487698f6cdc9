/- Layer 13's statement FnsIs. -/
import Derived.Test.YtkahpmnemabehaaDoorFnsLaws
namespace Go.Proofs.YtkahpmnemabehaaDoor
open Go.RowKit
set_option linter.unusedVariables false

theorem great_in {w : World} {A : Option Addr} {n : Nat} {ys : List FnV} (hs : FnRow w 0 w.heap.size A n ys) (h : fGreat (vals ys) = false) : In13 w A n ys := by
  unfold fGreat at h
  rw [Bool.or_eq_false_iff, decide_eq_false_iff_not, vals_length, hs.len, List.any_eq_false] at h
  refine ⟨hs, by omega, fun y hy => ?_⟩
  have := h.2 _ (List.mem_map.2 ⟨y, hy, rfl⟩)
  have hl := (hs.fns y hy).len
  have h3 : ¬ 40 < y.ws.length := fun c => this (decide_eq_true c)
  omega
theorem In13.wds {w : World} {A : Option Addr} {n : Nat} {ys : List FnV} (h : In13 w A n ys) : ∀ f ∈ vals ys, Wd f.2 := h.row.wds
theorem In13.cells {w : World} {A : Option Addr} {n : Nat} {ys : List FnV} (h : In13 w A n ys) {j : Nat} (hj : j < n) : ∃ b off y, A = some ⟨b, off, none⟩ ∧ ys[j]? = some y ∧ in64 y.sz ∧ Hid (∀ W, Below w.heap.size w W → W.cell? ⟨b, off + j * 2, none⟩ = some (.int .i64 y.sz) ∧ W.cell? ⟨b, off + j * 2 + 1, none⟩ = some (.slice y.A y.n y.c)) := by
  obtain ⟨b, off, y, e, hb, hy, hc0, hc1, hok⟩ := h.row.at_ hj
  refine ⟨b, off, y, e, hy, hok.inn, hidb (fun W hW => ⟨?_, ?_⟩)⟩
  · rw [hW.cell (p := ⟨b, off + j * 2, none⟩) hb]; exact hc0
  · rw [hW.cell (p := ⟨b, off + j * 2 + 1, none⟩) hb]; exact hc1
theorem RowF.fit {w w' : World} {A : Option Addr} {n c : Nat} {zs : List FnV} {l : Fns} (h : RowF w w' (.slice A n c) zs) (hn : zs.length = n) (hl : ∀ f ∈ l, f.2.length ≤ 64) (e : vals zs = l) : FnRow w' w.heap.size w'.heap.size A n zs ∧ ∀ y ∈ zs, y.n ≤ 1000 := by
  have hr := h.row hn
  refine ⟨hr, fun y hy => ?_⟩
  have := hl _ (by rw [← e]; exact List.mem_map.2 ⟨y, hy, rfl⟩)
  have hl := (hr.fns y hy).len
  simp only [FnV.v] at this
  omega
theorem fOwns_short (l : Fns) : ∀ f ∈ fOwns l, f.2.length ≤ 64 := fun f hf => by
  obtain ⟨x, _, rfl⟩ := List.mem_map.1 hf
  exact fOwn_length _ _
theorem fOwns_twice {l : Fns} (h : fAll l = true) : fOwns (fOwns l) = fOwns l := by
  unfold fOwns
  rw [List.map_map]
  refine List.map_congr_left fun f hf => ?_
  obtain ⟨i, hi, rfl⟩ := List.getElem_of_mem hf
  have := fAll_at h i _ (List.getElem?_eq_getElem hi)
  simp [fOwn_twice this]
end Go.Proofs.YtkahpmnemabehaaDoor

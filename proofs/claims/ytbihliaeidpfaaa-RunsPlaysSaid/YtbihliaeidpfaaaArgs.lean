/- What a call's arguments are: numbers in their range, and rows of numbers, of words and of bytes that came in. -/
import Derived.Test.YtbihliaeidpfaaaRowInts
namespace Go.Proofs.Ytbihliaeidpfaaa
open Go.RowKit
set_option linter.unusedVariables false

def in64 (z : Int) : Prop := -9223372036854775808 ≤ z ∧ z ≤ 9223372036854775807
theorem wf_in64 {z : Int} (h : (Lit.int .i64 z).wf = true) : in64 z := by
  have h1 : IntKind.i64.min = -9223372036854775808 := rfl
  have h2 : IntKind.i64.max = 9223372036854775807 := rfl
  simp only [Lit.wf, Bool.and_eq_true, decide_eq_true_eq] at h
  exact ⟨by omega, by omega⟩
theorem wf_word {z : Int} (h : (Lit.int .u64 z).wf = true) : 0 ≤ z ∧ z ≤ 18446744073709551615 := by
  have h1 : IntKind.u64.min = 0 := rfl
  have h2 : IntKind.u64.max = 18446744073709551615 := rfl
  simp only [Lit.wf, Bool.and_eq_true, decide_eq_true_eq] at h
  omega

/-- A row of words, as natural numbers. -/
theorem words_nat (zs : List Int) (h : ∀ z ∈ zs, (Lit.int .u64 z).wf = true) : (zs.map Int.toNat).map wv = zs.map (Value.int .u64) ∧ ∀ x ∈ zs.map Int.toNat, x < 18446744073709551616 := by
  constructor
  · rw [List.map_map]
    apply List.map_congr_left
    intro z hz
    have := wf_word (h z hz)
    show Value.int .u64 ((z.toNat : Nat) : Int) = _
    rw [Int.toNat_of_nonneg this.1]
  · intro x hx
    obtain ⟨z, hz, rfl⟩ := List.mem_map.1 hx
    have := wf_word (h z hz)
    omega

theorem lt_of_cell {w : World} {p : Addr} {v : Value} (h : w.cell? p = some v) : p.block < w.heap.size := by
  refine Nat.not_le.1 fun c => ?_
  unfold World.cell? at h
  rw [Array.getElem?_eq_none c] at h
  simp at h
theorem Sl.of_arg {w : World} {k : IntKind} {x : Addr} {len cap : Nat} {zs : List Int} (hl : len ≤ cap) (hz : zs.length = cap) (hc : ∀ i, i < zs.length → w.cell? (x.add i) = some (.int k (zs.getD i 0))) :
    Sl w w.heap.size (some x) len ((zs.take len).map (Value.int k)) := by
  by_cases h0 : cap = 0
  · obtain rfl : len = 0 := by omega
    rw [List.take_zero]; exact Sl.nil_
  · have h := lt_of_cell (hc 0 (by omega))
    have hb : x.block < w.heap.size := by simpa [Addr.add] using h
    exact Sl.of_row hl hz hb hc

/-- A row of numbers. -/
theorem arg_ints {w : World} {a : Option Addr} {len cap : Nat} {zs : List Int} (h : (a = none ∧ len = 0 ∧ cap = 0 ∧ zs = []) ∨
    ∃ x, a = some x ∧ len ≤ cap ∧ cap ≤ maxLen ∧ zs.length = cap ∧ (∀ i, i < zs.length → w.cell? (x.add i) = some (.int .i64 (zs.getD i 0))) ∧ ∀ n ∈ zs, (Lit.int .i64 n).wf = true) :
    Sl w w.heap.size a len ((zs.take len).map iv) ∧ len ≤ cap ∧ cap ≤ 9223372036854775807 ∧ (a = none → cap = 0) ∧ ∀ x ∈ zs.take len, in64 x := by
  rcases h with ⟨rfl, rfl, rfl, rfl⟩ | ⟨x, rfl, hl, hm, hz, hcell, hwz⟩
  · exact ⟨Sl.nil_, Nat.le_refl _, by omega, fun _ => rfl, fun x hx => by simp at hx⟩
  · unfold maxLen at hm
    exact ⟨Sl.of_arg hl hz hcell, hl, by omega, fun h => (by cases h), fun y hy => wf_in64 (hwz y (List.mem_of_mem_take hy))⟩
/-- A row of words. -/
theorem arg_words {w : World} {a : Option Addr} {len cap : Nat} {zs : List Int} (h : (a = none ∧ len = 0 ∧ cap = 0 ∧ zs = []) ∨
    ∃ x, a = some x ∧ len ≤ cap ∧ cap ≤ maxLen ∧ zs.length = cap ∧ (∀ i, i < zs.length → w.cell? (x.add i) = some (.int .u64 (zs.getD i 0))) ∧ ∀ n ∈ zs, (Lit.int .u64 n).wf = true) :
    ∃ ws : List Nat, Sl w w.heap.size a len (ws.map wv) ∧ len ≤ cap ∧ cap ≤ 9223372036854775807 ∧ (a = none → cap = 0) ∧ ∀ x ∈ ws, x < 18446744073709551616 := by
  rcases h with ⟨rfl, rfl, rfl, rfl⟩ | ⟨x, rfl, hl, hm, hz, hcell, hwz⟩
  · exact ⟨[], Sl.nil_, Nat.le_refl _, by omega, fun _ => rfl, fun x hx => by simp at hx⟩
  · unfold maxLen at hm
    obtain ⟨h1, h2⟩ := words_nat (zs.take len) (fun z hz => hwz z (List.mem_of_mem_take hz))
    exact ⟨(zs.take len).map Int.toNat, by rw [h1]; exact Sl.of_arg hl hz hcell, hl, by omega, fun h => (by cases h), h2⟩

end Go.Proofs.Ytbihliaeidpfaaa

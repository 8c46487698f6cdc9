/- What the document's own All of layer 16 (slots) returns: rows of values. -/
import Derived.Test.YthjodcojhlfnfaaDoorSltGet
import Derived.Test.YthjodcojhlfnfaaDoorWlkAll
namespace Go.Proofs.YthjodcojhlfnfaaDoor
open Go.RowKit
set_option linter.unusedVariables false

/-- What the first slots of a frame have; the first error's number. -/
def slRow (xs : List Nat) (l : Fns) (L : List FrV) (d k : Nat) : List VlV := (List.range k).map fun (i : Nat) => (slGet xs l L d i).1
def slErr (xs : List Nat) (l : Fns) (L : List FrV) (d k : Nat) : Int := (((List.range k).map fun (i : Nat) => (slGet xs l L d i).2).find? (fun e => e != 0)).getD 0
def slAllAux (xs : List Nat) (l : Fns) (L : List FrV) : Nat → List FrV → List (List VlV) → List (List VlV) × Int
  | _, [], acc => (acc, 0)
  | d, x :: r, acc => if slErr xs l L d (slSize l x).toNat = 0 then slAllAux xs l L (d + 1) r (acc ++ [slRow xs l L d (slSize l x).toNat]) else ([], slErr xs l L d (slSize l x).toNat)
/-- What all slots have; the error's number. -/
def slAll (xs : List Nat) (l : Fns) (L : List FrV) : List (List VlV) × Int := slAllAux xs l L 0 L []
theorem slRow_succ (xs : List Nat) (l : Fns) (L : List FrV) (d k : Nat) : slRow xs l L d (k + 1) = slRow xs l L d k ++ [(slGet xs l L d k).1] := by
  unfold slRow; rw [List.range_succ, List.map_append]; rfl
theorem slRow_length (xs : List Nat) (l : Fns) (L : List FrV) (d k : Nat) : (slRow xs l L d k).length = k := by unfold slRow; simp
theorem slErr_stop {xs : List Nat} {l : Fns} {L : List FrV} {d : Nat} {e : Int} (he : e ≠ 0) : ∀ (k i : Nat), i < k → slErr xs l L d i = 0 → (slGet xs l L d i).2 = e → slErr xs l L d k = e := by
  intro k i hi h0 hg
  unfold slErr at *
  obtain ⟨r, rfl⟩ : ∃ r, k = i + 1 + r := ⟨k - (i + 1), by omega⟩
  rw [List.range_add, List.map_append, List.find?_append, List.range_succ, List.map_append, List.find?_append]
  have h1 : ((List.range i).map fun (i : Nat) => (slGet xs l L d i).2).find? (fun e => e != 0) = none := by
    cases h : ((List.range i).map fun (i : Nat) => (slGet xs l L d i).2).find? (fun e => e != 0) with
    | none => rfl
    | some y =>
      rw [h] at h0
      have := List.find?_some h
      simp only [Option.getD_some] at h0
      rw [h0] at this
      simp at this
  rw [h1]
  simp [hg, he]
theorem slErr_succ {xs : List Nat} {l : Fns} {L : List FrV} {d i : Nat} (h0 : slErr xs l L d i = 0) (hg : (slGet xs l L d i).2 = 0) : slErr xs l L d (i + 1) = 0 := by
  unfold slErr at *
  rw [List.range_succ, List.map_append, List.find?_append]
  cases h : ((List.range i).map fun (i : Nat) => (slGet xs l L d i).2).find? (fun e => e != 0) with
  | none => simp [hg]
  | some y => rw [h] at h0; simpa using h0

/-- Rows of values. -/
def vlcells (v : VlV) : List Value := [.int .u8 v.kind, .int .u64 v.bits, .int .i64 v.depth, .int .i64 v.slot]
theorem vlcells_len (v : VlV) : (vlcells v).length = 4 := rfl
def VlRow (w : World) (B : Nat) (A : Option Addr) (n : Nat) (vs : List VlV) : Prop := RowOf (fun cs v => cs = vlcells v) 4 w B A n vs
/-- A row of values, and where it lies. -/
structure VlS where
  A : Option Addr
  n : Nat
  c : Nat
  vs : List VlV
def vsC (z : VlS) : Value := .slice z.A z.n z.c
/-- The slice value '.slice A n c' has these rows. -/
structure VvRow (w : World) (B : Nat) (A : Option Addr) (n : Nat) (zs : List VlS) : Prop where
  row : Sl w B A n (zs.map vsC)
  each : ∀ z ∈ zs, VlRow w B z.A z.n z.vs
def vvals (zs : List VlS) : List (List VlV) := zs.map VlS.vs
section
variable {w w' : World} {B B' n : Nat} {A : Option Addr} {vs : List VlV} {zs : List VlS}
theorem VlRow.len (h : VlRow w B A n vs) : vs.length = n := h.1
theorem VlRow.below (h : VlRow w B A n vs) (hb : Below B w w') : VlRow w' B A n vs := RowOf.below h hb
theorem VlRow.more (h : VlRow w B A n vs) (hB : B ≤ B') : VlRow w B' A n vs := RowOf.more h hB
theorem VlRow.step (h : VlRow w w.heap.size A n vs) (hb : Below w.heap.size w w') : VlRow w' w'.heap.size A n vs := (h.below hb).more hb.size
theorem VlRow.at_ (h : VlRow w B A n vs) {j : Nat} (hj : j < n) : ∃ b off v, A = some ⟨b, off, none⟩ ∧ b < B ∧ vs[j]? = some v ∧ w.cell? ⟨b, off + j * 4, none⟩ = some (.int .u8 v.kind) ∧ w.cell? ⟨b, off + j * 4 + 1, none⟩ = some (.int .u64 v.bits) ∧ w.cell? ⟨b, off + j * 4 + 2, none⟩ = some (.int .i64 v.depth) ∧ w.cell? ⟨b, off + j * 4 + 3, none⟩ = some (.int .i64 v.slot) := by
  obtain ⟨b, off, x, cs, e, hb, hx, _, hc, rfl⟩ := RowOf.at_ h hj
  exact ⟨b, off, x, e, hb, hx, hc 0 (by omega), hc 1 (by omega), hc 2 (by omega), hc 3 (by omega)⟩
theorem VvRow.len (h : VvRow w B A n zs) : zs.length = n := by have := h.row.1; simpa using this
theorem VvRow.below (h : VvRow w B A n zs) (hb : Below B w w') : VvRow w' B A n zs := ⟨h.row.below hb, fun z hz => (h.each z hz).below hb⟩
theorem VvRow.more (h : VvRow w B A n zs) (hB : B ≤ B') : VvRow w B' A n zs := ⟨h.row.more hB, fun z hz => (h.each z hz).more hB⟩
theorem VvRow.step (h : VvRow w w.heap.size A n zs) (hb : Below w.heap.size w w') : VvRow w' w'.heap.size A n zs := (h.below hb).more hb.size
theorem VvRow.at_ (h : VvRow w B A n zs) {j : Nat} (hj : j < n) : ∃ b off z, A = some ⟨b, off, none⟩ ∧ b < B ∧ zs[j]? = some z ∧ w.cell? ⟨b, off + j, none⟩ = some (.slice z.A z.n z.c) ∧ VlRow w B z.A z.n z.vs := by
  obtain ⟨b, off, u, e, hb, hu, hc⟩ := h.row.at_ hj
  rw [List.getElem?_map] at hu
  cases hz : zs[j]? with
  | none => rw [hz] at hu; cases hu
  | some z =>
    rw [hz] at hu
    obtain rfl : u = vsC z := by simpa using hu.symm
    exact ⟨b, off, z, e, hb, rfl, hc, h.each z (List.mem_of_getElem? hz)⟩
end
end Go.Proofs.YthjodcojhlfnfaaDoor

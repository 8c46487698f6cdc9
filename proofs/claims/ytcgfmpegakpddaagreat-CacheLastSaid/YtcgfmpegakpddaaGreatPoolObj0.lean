/- A pool in memory: its cell, its map of cut spans, each of which has a block of its own. -/
import Derived.Test.YtcgfmpegakpddaaGreatHeapMain
import Derived.Test.YtcgfmpegakpddaaGreatPoolMath
namespace Go.Proofs.YtcgfmpegakpddaaGreat
open Go.RowKit Go.Maps
set_option linter.unusedVariables false

/-- A cut span: its block, the span, its chain, and the blocks in its list. -/
structure CutV where
  b : Nat
  s : Int × Int × Int × Int
  c : Int × Int
  l : List Int
def CutV.plain (k : CutV) : (Int × Int × Int × Int) × List Int := (k.s, k.l)

/-- A pointer to a cut span, or nil. -/
def ptrv (o : Option Nat) : Value := .pointer (o.map fun b => ⟨b, 0, none⟩)
theorem ptrv_inj {a b : Option Nat} (h : ptrv a = ptrv b) : a = b := by
  cases a <;> cases b <;> simp [ptrv] at h ⊢
  exact h
def encP (o : Option Nat) : DataW Unit := .lit (.int .i64 (match o with | none => -1 | some b => (b : Int)))
theorem encP_inj {a b : Option Nat} (h : encP a = encP b) : a = b := by
  simp only [encP, DataW.lit.injEq, Lit.int.injEq, true_and] at h
  cases a <;> cases b <;> simp at h ⊢ <;> omega
open Classical in
noncomputable def ptrR (v : Value) : Option (DataW Unit × List MemPlace) := if h : ∃ o, v = ptrv o then some (encP h.choose, []) else none
theorem ptrR_mk (o : Option Nat) : ptrR (ptrv o) = some (encP o, []) := by
  unfold ptrR
  have h : ∃ t, ptrv o = ptrv t := ⟨o, rfl⟩
  rw [dif_pos h]
  rw [← ptrv_inj h.choose_spec]
theorem ptrR_inv {v : Value} {z : DataW Unit × List MemPlace} (h : ptrR v = some z) : ∃ o, v = ptrv o ∧ z = (encP o, []) := by
  unfold ptrR at h
  split at h
  · next hs => exact ⟨hs.choose, hs.choose_spec, by injection h with h; exact h.symm⟩
  · cases h
theorem zero_ptr (w : World) : (zeroValue 109).run Tryz.prog w = .ok (ptrv none) w := by kernel_rfl

/-- A map that has these cut spans, by their numbers. -/
structure PIs (D : DataW Unit) (ks : List CutV) : Prop where
  has : ∀ id, Maps.has D (.int .i64 id) = ks.any (fun k => k.s.1 == id)
  at_ : ∀ k ∈ ks, ∀ z, D.atKey (.int .i64 k.s.1) z = encP (some k.b)
theorem pis_nil : PIs (.map []) [] := ⟨fun _ => rfl, fun s hs => by cases hs⟩
theorem PIs.any_iff {ks : List CutV} (id : Int) : (ks.any (fun k => k.s.1 == id) = true) ↔ ∃ k ∈ ks, k.s.1 = id := by
  rw [List.any_eq_true]
  simp
theorem PIs.put {D : DataW Unit} {ks : List CutV} (h : PIs D ks) (hD : Maps.IsMap D) {k : CutV} (hs : ∀ t ∈ ks, t.s.1 ≠ k.s.1) (hi : in64 k.s.1) : PIs (D.put (.int .i64 k.s.1) (encP (some k.b))) (ks ++ [k]) := by
  have hk := keyed.key (key_of hi)
  refine ⟨fun id => ?_, fun t ht z => ?_⟩
  · rw [List.any_append]
    by_cases c : id = k.s.1
    · subst c
      rw [Maps.has_put_same hD hk]
      simp
    · rw [Maps.has_put_other (lit_ne c), h.has]
      simp [Ne.symm c]
  · rcases List.mem_append.1 ht with ht | ht
    · rw [Maps.atKey_put_other (lit_ne (hs t ht)), h.at_ t ht]
    · obtain rfl := List.mem_singleton.1 ht
      exact Maps.atKey_put_same hD hk _ _
/-- The cut span of a number. -/
def cutOf (ks : List CutV) (id : Int) : Option CutV := ks.find? (fun k => k.s.1 == id)
theorem cutOf_mem {ks : List CutV} {id : Int} {k : CutV} (h : cutOf ks id = some k) : k ∈ ks ∧ k.s.1 = id := ⟨List.mem_of_find?_eq_some h, by have := List.find?_some h; simpa using this⟩
theorem PIs.get {D : DataW Unit} {ks : List CutV} (h : PIs D ks) (id : Int) : D.atKey (.int .i64 id) (encP none) = encP ((cutOf ks id).map (·.b)) := by
  cases c : cutOf ks id with
  | none =>
    refine Maps.atKey_of_not_has ?_ _
    rw [h.has]
    cases e : ks.any (fun k => k.s.1 == id) with
    | false => rfl
    | true =>
      obtain ⟨k, hk, e2⟩ := (PIs.any_iff id).1 e
      have := List.find?_eq_none.1 c k hk
      simp [e2] at this
  | some k =>
    obtain ⟨h1, h2⟩ := cutOf_mem c
    rw [← h2]
    exact h.at_ k h1 _
/-- Only the numbers and the blocks play a part. -/
theorem PIs.same {D : DataW Unit} {ks ks' : List CutV} (h : PIs D ks) (e : ks'.map (fun k => (k.s.1, k.b)) = ks.map (fun k => (k.s.1, k.b))) : PIs D ks' := by
  have m : ∀ k ∈ ks', ∃ t ∈ ks, t.s.1 = k.s.1 ∧ t.b = k.b := fun k hk => by
    have h1 : (k.s.1, k.b) ∈ ks.map (fun k => (k.s.1, k.b)) := e ▸ List.mem_map.2 ⟨k, hk, rfl⟩
    obtain ⟨t, ht, e2⟩ := List.mem_map.1 h1
    injection e2 with e3 e4
    exact ⟨t, ht, e3, e4⟩
  refine ⟨fun id => ?_, fun k hk z => ?_⟩
  · rw [h.has]
    have : ∀ ls : List CutV, ls.any (fun k => k.s.1 == id) = (ls.map (fun k => (k.s.1, k.b))).any (fun p => p.1 == id) := fun ls => by rw [List.any_map]; rfl
    rw [this, this, e]
  · obtain ⟨t, ht, e1, e2⟩ := m k hk
    rw [← e1, ← e2]
    exact h.at_ t ht z

/-- A cut span's cells. -/
structure CutAt (w : World) (k : CutV) : Prop where
  c0 : w.cell? ⟨k.b, 0, none⟩ = some (.int .i64 k.s.1)
  c1 : w.cell? ⟨k.b, 1, none⟩ = some (.int .i64 k.s.2.1)
  c2 : w.cell? ⟨k.b, 2, none⟩ = some (.int .i64 k.s.2.2.1)
  c3 : w.cell? ⟨k.b, 3, none⟩ = some (.int .i64 k.s.2.2.2)
  c4 : w.cell? ⟨k.b, 4, none⟩ = some (.int .i64 k.c.1)
  c5 : w.cell? ⟨k.b, 5, none⟩ = some (.int .i64 k.c.2)
  fz : ∀ j, w.frozen? ⟨k.b, j, none⟩ = false
theorem CutAt.lt {w : World} {k : CutV} (h : CutAt w k) : k.b < w.heap.size := lt_of_cell h.c0
theorem CutAt.keep {w w' : World} {k : CutV} (h : CutAt w k) (hb : w'.heap[k.b]? = w.heap[k.b]?) : CutAt w' k := by
  have hc : ∀ j, w'.cell? ⟨k.b, j, none⟩ = w.cell? ⟨k.b, j, none⟩ := fun j => World.cell?_of_block (w := w) (a := ⟨k.b, j, none⟩) hb
  exact ⟨(hc 0).trans h.c0, (hc 1).trans h.c1, (hc 2).trans h.c2, (hc 3).trans h.c3, (hc 4).trans h.c4, (hc 5).trans h.c5, fun j => (World.frozen?_of_block (w := w) (a := ⟨k.b, j, none⟩) hb).trans (h.fz j)⟩
theorem CutAt.below {w w' : World} {k : CutV} (h : CutAt w k) (hb : Below w.heap.size w w') : CutAt w' k := h.keep (hb.block _ h.lt)

end Go.Proofs.YtcgfmpegakpddaaGreat

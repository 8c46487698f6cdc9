/- A heap in memory: its cell, its index, its free runs, and its map of spans; what parts, Size, Runs, Span and At of layer 7 (heap) return. -/
import Derived.Test.YtcngcibiibchiaaGreatRunsObj
import Derived.Test.YtcngcibiibchiaaGreatNamedMap
import Derived.Test.YtcngcibiibchiaaGreatIndexAll
import Derived.Test.YtcngcibiibchiaaGreatPlain7
import Derived.Test.YtcngcibiibchiaaGreatHeapRef
import Derived.Maps.OwnSet
import Derived.Maps.RangeWalk
import Derived.Maps.OwnOps
import Derived.Maps.Ext
namespace Go.Proofs.YtcngcibiibchiaaGreat
open Go.RowKit Go.Maps
set_option linter.unusedVariables false

/-- A span's value, and what it reads as. -/
def spv (s : Int × Int × Int × Int) : Value := .agg #[.int .i64 s.1, .int .i64 s.2.1, .int .i64 s.2.2.1, .int .i64 s.2.2.2]
theorem spv_inj {s t : Int × Int × Int × Int} (h : spv s = spv t) : s = t := by
  obtain ⟨a, b, c, d⟩ := s
  obtain ⟨a', b', c', d'⟩ := t
  simp only [spv, Value.agg.injEq] at h
  have h2 := congrArg Array.toList h
  simp only [List.cons.injEq, Value.int.injEq, true_and, and_true] at h2
  obtain ⟨rfl, rfl, rfl, rfl⟩ := h2
  rfl
def encS (s : Int × Int × Int × Int) : DataW Unit := .agg [.lit (.int .i64 s.1), .lit (.int .i64 s.2.1), .lit (.int .i64 s.2.2.1), .lit (.int .i64 s.2.2.2)]
theorem encS_inj {s t : Int × Int × Int × Int} (h : encS s = encS t) : s = t := by
  obtain ⟨a, b, c, d⟩ := s
  obtain ⟨a', b', c', d'⟩ := t
  simp only [encS, DataW.agg.injEq, List.cons.injEq, DataW.lit.injEq, Lit.int.injEq, true_and, and_true] at h
  obtain ⟨rfl, rfl, rfl, rfl⟩ := h
  rfl
open Classical in
noncomputable def spanR (v : Value) : Option (DataW Unit × List MemPlace) := if h : ∃ s, v = spv s then some (encS h.choose, []) else none
theorem spanR_mk (s : Int × Int × Int × Int) : spanR (spv s) = some (encS s, []) := by
  unfold spanR
  have h : ∃ t, spv s = spv t := ⟨s, rfl⟩
  rw [dif_pos h]
  rw [← spv_inj h.choose_spec]
theorem spanR_inv {v : Value} {z : DataW Unit × List MemPlace} (h : spanR v = some z) : ∃ s, v = spv s ∧ z = (encS s, []) := by
  unfold spanR at h
  split at h
  · next hs => exact ⟨hs.choose, hs.choose_spec, by injection h with h; exact h.symm⟩
  · cases h

theorem zero_span (w : World) : (zeroValue 43).run Tryz.prog w = .ok (spv spanNone) w := by kernel_rfl

/-- A map that has these spans, by their numbers. -/
structure MIs (D : DataW Unit) (l : List (Int × Int × Int × Int)) : Prop where
  has : ∀ id, Maps.has D (.int .i64 id) = l.any (fun s => s.1 == id)
  at_ : ∀ s ∈ l, ∀ z, D.atKey (.int .i64 s.1) z = encS s
theorem mis_nil : MIs (.map []) [] := ⟨fun _ => rfl, fun s hs => by cases hs⟩
theorem MIs.put {D : DataW Unit} {l : List (Int × Int × Int × Int)} (h : MIs D l) (hD : Maps.IsMap D) {s : Int × Int × Int × Int} (hs : ∀ t ∈ l, t.1 ≠ s.1) (hi : in64 s.1) : MIs (D.put (.int .i64 s.1) (encS s)) (l ++ [s]) := by
  have hk := keyed.key (key_of hi)
  refine ⟨fun id => ?_, fun t ht z => ?_⟩
  · rw [List.any_append]
    by_cases c : id = s.1
    · subst c
      rw [Maps.has_put_same hD hk]
      simp
    · rw [Maps.has_put_other (lit_ne c), h.has]
      simp [Ne.symm c]
  · rcases List.mem_append.1 ht with ht | ht
    · rw [Maps.atKey_put_other (lit_ne (hs t ht)), h.at_ t ht]
    · obtain rfl := List.mem_singleton.1 ht
      exact Maps.atKey_put_same hD hk _ _
theorem MIs.any_iff {l : List (Int × Int × Int × Int)} (id : Int) : (l.any (fun s => s.1 == id) = true) ↔ ∃ s ∈ l, s.1 = id := by
  rw [List.any_eq_true]
  simp
/-- What stands at a number. -/
theorem MIs.get {D : DataW Unit} {l : List (Int × Int × Int × Int)} (h : MIs D l) (id : Int) : D.atKey (.int .i64 id) (encS spanNone) = encS (spanOf l id) := by
  by_cases c : ∃ s ∈ l, s.1 = id
  · obtain ⟨h1, h2⟩ := spanOf_mem c
    have := h.at_ _ h1 (encS spanNone)
    rwa [h2] at this
  · rw [spanOf_none c]
    refine Maps.atKey_of_not_has ?_ _
    rw [h.has]
    cases e : l.any (fun s => s.1 == id) with
    | false => rfl
    | true => exact absurd ((MIs.any_iff id).1 e) c

theorem four_cellsH (w : World) (b : Nat) (u0 u1 u2 u3 x0 x1 x2 x3 : Value) (h0 : w.cell? ⟨b, 0, none⟩ = some x0) (h1 : w.cell? ⟨b, 1, none⟩ = some x1) (h2 : w.cell? ⟨b, 2, none⟩ = some x2) (h3 : w.cell? ⟨b, 3, none⟩ = some x3) :
    ((((w.setCell ⟨b, 0, none⟩ u0).setCell ⟨b, 1, none⟩ u1).setCell ⟨b, 2, none⟩ u2).setCell ⟨b, 3, none⟩ u3).cell? ⟨b, 0, none⟩ = some u0 ∧ ((((w.setCell ⟨b, 0, none⟩ u0).setCell ⟨b, 1, none⟩ u1).setCell ⟨b, 2, none⟩ u2).setCell ⟨b, 3, none⟩ u3).cell? ⟨b, 1, none⟩ = some u1 ∧
    ((((w.setCell ⟨b, 0, none⟩ u0).setCell ⟨b, 1, none⟩ u1).setCell ⟨b, 2, none⟩ u2).setCell ⟨b, 3, none⟩ u3).cell? ⟨b, 2, none⟩ = some u2 ∧ ((((w.setCell ⟨b, 0, none⟩ u0).setCell ⟨b, 1, none⟩ u1).setCell ⟨b, 2, none⟩ u2).setCell ⟨b, 3, none⟩ u3).cell? ⟨b, 3, none⟩ = some u3 := by
  have o : ∀ (w : World) (i j : Nat) (v : Value), i ≠ j → (w.setCell ⟨b, i, none⟩ v).cell? ⟨b, j, none⟩ = w.cell? ⟨b, j, none⟩ := fun w i j v h => World.cell?_setCell_other w _ _ _ (fun e => h (by injection e))
  have s : ∀ (w : World) (i : Nat) (v x : Value), w.cell? ⟨b, i, none⟩ = some x → (w.setCell ⟨b, i, none⟩ v).cell? ⟨b, i, none⟩ = some v := fun w i v x h => World.cell?_setCell_same w _ _ h
  refine ⟨?_, ?_, ?_, ?_⟩
  · rw [o _ 3 0 _ (by decide), o _ 2 0 _ (by decide), o _ 1 0 _ (by decide), s _ 0 _ x0 h0]
  · rw [o _ 3 1 _ (by decide), o _ 2 1 _ (by decide), s _ 1 _ x1 (by rw [o _ 0 1 _ (by decide)]; exact h1)]
  · rw [o _ 3 2 _ (by decide), s _ 2 _ x2 (by rw [o _ 1 2 _ (by decide), o _ 0 2 _ (by decide)]; exact h2)]
  · rw [s _ 3 _ x3 (by rw [o _ 2 3 _ (by decide), o _ 1 3 _ (by decide), o _ 0 3 _ (by decide)]; exact h3)]
theorem below_set4H {B : Nat} {w w' : World} (h : Below B w w') {b : Nat} (hb : B ≤ b) (u0 u1 u2 u3 : Value) : Below B w ((((w'.setCell ⟨b, 0, none⟩ u0).setCell ⟨b, 1, none⟩ u1).setCell ⟨b, 2, none⟩ u2).setCell ⟨b, 3, none⟩ u3) :=
  (((h.setCell (p := ⟨b, 0, none⟩) hb u0).setCell (p := ⟨b, 1, none⟩) hb u1).setCell (p := ⟨b, 2, none⟩) hb u2).setCell (p := ⟨b, 3, none⟩) hb u3

/-- A heap's cell, its index, and its map. -/
structure HpM (w : World) (p ip ig fp mb n m : Nat) (ids : List Int) (D : DataW Unit) (last : Int) : Prop where
  c0 : w.cell? ⟨p, 0, none⟩ = some (.pointer (some ⟨ip, 0, none⟩))
  c1 : w.cell? ⟨p, 1, none⟩ = some (.pointer (some ⟨fp, 0, none⟩))
  c2 : w.cell? ⟨p, 2, none⟩ = some (.map (some mb))
  c3 : w.cell? ⟨p, 3, none⟩ = some (.int .i64 last)
  fz : ∀ j, w.frozen? ⟨p, j, none⟩ = false
  ix : Ix w 0 ip ig n ids
  mp : w.ownsMap Tryz.prog 3 spanR mb m D
/-- What they tell. -/
structure HpK (m : Nat) (ids : List Int) (D : DataW Unit) (h : HeapV) : Prop where
  mis : MIs D h.l
  pt : Paint ids h
  ok : HOk h
  la : (m : Int) ≤ h.last
  lb : h.last ≤ 1000000000
structure HpAt (w : World) (p ip ig fp mb n m : Nat) (ids : List Int) (D : DataW Unit) (h : HeapV) : Prop extends HpM w p ip ig fp mb n m ids D h.last, HpK m ids D h
/-- A heap, whose blocks are of S. -/
def Hp (w : World) (S : Nat → Prop) (p : Nat) (h : HeapV) : Prop :=
  ∃ ip ig fp mb n m ids D Sf, HpAt w p ip ig fp mb n m ids D h ∧ Fr w Sf fp h.free ∧ (S p ∧ S ip ∧ S ig ∧ S mb) ∧ (∀ b, Sf b → S b) ∧ (∀ b, S b → b < w.heap.size) ∧
    (¬ Sf p ∧ ¬ Sf ip ∧ ¬ Sf ig ∧ ¬ Sf mb) ∧ (p ≠ ip ∧ p ≠ ig ∧ p ≠ mb ∧ mb ≠ ip ∧ mb ≠ ig)

section
variable {w w' : World} {S S' : Nat → Prop} {p ip ig fp mb n m : Nat} {ids : List Int} {D : DataW Unit} {h : HeapV}
theorem HpAt.ltp (k : HpAt w p ip ig fp mb n m ids D h) : p < w.heap.size := lt_of_cell k.c0
theorem HpAt.nlen (k : HpAt w p ip ig fp mb n m ids D h) : (n : Int) = h.pages := by
  have h1 := k.ix.hlen
  have h2 := k.pt.len
  omega
theorem HpM.keep {last : Int} (k : HpM w p ip ig fp mb n m ids D last) (hb : ∀ b, b = p ∨ b = ip ∨ b = ig ∨ b = mb → w'.heap[b]? = w.heap[b]?) : HpM w' p ip ig fp mb n m ids D last := by
  have hp := hb p (Or.inl rfl)
  have hc : ∀ j, w'.cell? ⟨p, j, none⟩ = w.cell? ⟨p, j, none⟩ := fun j => World.cell?_of_block (w := w) (a := ⟨p, j, none⟩) hp
  refine ⟨(hc 0).trans k.c0, (hc 1).trans k.c1, (hc 2).trans k.c2, (hc 3).trans k.c3, fun j => (World.frozen?_of_block (w := w) (a := ⟨p, j, none⟩) hp).trans (k.fz j), ?_, ownsMap_block k.mp (hb mb (Or.inr (Or.inr (Or.inr rfl))))⟩
  exact ⟨(World.cell?_of_block (w := w) (a := ⟨ip, 0, none⟩) (hb ip (Or.inr (Or.inl rfl)))).trans k.ix.cell, (hb ig (Or.inr (Or.inr (Or.inl rfl)))).trans k.ix.heap, k.ix.hlen, k.ix.ge, k.ix.geg, k.ix.ne, k.ix.small⟩
theorem HpM.lts {last : Int} (k : HpM w p ip ig fp mb n m ids D last) : p < w.heap.size ∧ ip < w.heap.size ∧ ig < w.heap.size ∧ mb < w.heap.size := ⟨lt_of_cell k.c0, k.ix.ltp, k.ix.lt, k.mp.lt⟩
theorem HpM.below {last : Int} (k : HpM w p ip ig fp mb n m ids D last) (hb : Below w.heap.size w w') : HpM w' p ip ig fp mb n m ids D last := by
  obtain ⟨l1, l2, l3, l4⟩ := k.lts
  exact k.keep fun b h => hb.block b (by rcases h with rfl | rfl | rfl | rfl <;> omega)
theorem HpAt.keep (k : HpAt w p ip ig fp mb n m ids D h) (hb : ∀ b, b = p ∨ b = ip ∨ b = ig ∨ b = mb → w'.heap[b]? = w.heap[b]?) : HpAt w' p ip ig fp mb n m ids D h := ⟨k.toHpM.keep hb, k.toHpK⟩
theorem Hp.lt (k : Hp w S p h) : ∀ b, S b → b < w.heap.size := by obtain ⟨_, _, _, _, _, _, _, _, _, _, _, _, _, k, _⟩ := k; exact k
theorem Hp.ltp (k : Hp w S p h) : p < w.heap.size := by obtain ⟨_, _, _, _, _, _, _, _, _, k, _⟩ := k; exact k.ltp
theorem Hp.ok (k : Hp w S p h) : HOk h := by obtain ⟨_, _, _, _, _, _, _, _, _, k, _⟩ := k; exact k.ok
theorem Hp.keep (k : Hp w S p h) (hk : Kept S' w w') (hn : ∀ b, S b → ¬ S' b) : Hp w' S p h := by
  obtain ⟨ip, ig, fp, mb, n, m, ids, D, Sf, k1, k2, k3, k4, k5, k6, k7⟩ := k
  refine ⟨ip, ig, fp, mb, n, m, ids, D, Sf, k1.keep fun b hb => hk.block b ?_ ?_, k2.keep hk (fun b hb => hn b (k4 b hb)), k3, k4, fun b hb => Nat.lt_of_lt_of_le (k5 b hb) hk.size, k6, k7⟩
  · rcases hb with rfl | rfl | rfl | rfl
    · exact k5 _ k3.1
    · exact k5 _ k3.2.1
    · exact k5 _ k3.2.2.1
    · exact k5 _ k3.2.2.2
  · rcases hb with rfl | rfl | rfl | rfl
    · exact hn _ k3.1
    · exact hn _ k3.2.1
    · exact hn _ k3.2.2.1
    · exact hn _ k3.2.2.2
theorem Hp.below (k : Hp w S p h) (hb : Below w.heap.size w w') : Hp w' S p h := k.keep (Kept.of_below hb (fun _ => False)) (fun _ _ => id)
end

/-- parts: a heap's four cells. -/
theorem code_hparts (p : Nat) (ix fr : Option Addr) (mb : Option Nat) (k : Int) (w : World) (h0 : w.cell? ⟨p, 0, none⟩ = some (.pointer ix)) (h1 : w.cell? ⟨p, 1, none⟩ = some (.pointer fr)) (h2 : w.cell? ⟨p, 2, none⟩ = some (.map mb)) (h3 : w.cell? ⟨p, 3, none⟩ = some (.int .i64 k)) :
    Calls Tryz.prog 26 #[.pointer (some ⟨p, 0, none⟩)] w fun e w' => e = .returned (.agg #[.pointer ix, .pointer fr, .map mb, .int .i64 k]) ∧ Below w.heap.size w w' := by
  replace h0 := alloc_old (.cells #[.pointer none, .pointer none, .map none, .int .i64 0] 65) h0
  replace h1 := alloc_old (.cells #[.pointer none, .pointer none, .map none, .int .i64 0] 65) h1
  replace h2 := alloc_old (.cells #[.pointer none, .pointer none, .map none, .int .i64 0] 65) h2
  replace h3 := alloc_old (.cells #[.pointer none, .pointer none, .map none, .int .i64 0] 65) h3
  go_enter Tryz.func26, Tryz.ntmps26
  go_wp2
  refine bodyPost_ret (v := .agg #[.pointer ix, .pointer fr, .map mb, .int .i64 k]) (by simp [results, Tryz.results26, go_sem]) rfl ?_
  exact ⟨rfl, (Below.refl _ _).alloc (Nat.le_refl _) _⟩
/-- parts of a nil heap: none. -/
theorem code_hparts_nil (w : World) :
    Calls Tryz.prog 26 #[.pointer none] w fun e w' => e = .returned (.agg #[.pointer none, .pointer none, .map none, .int .i64 0]) ∧ Below w.heap.size w w' := by
  go_enter Tryz.func26, Tryz.ntmps26
  go_wp2
  refine bodyPost_ret (v := .agg #[.pointer none, .pointer none, .map none, .int .i64 0]) (by simp [results, Tryz.results26, go_sem]) rfl ?_
  exact ⟨rfl, (Below.refl _ _).alloc (Nat.le_refl _) _⟩

end Go.Proofs.YtcngcibiibchiaaGreat

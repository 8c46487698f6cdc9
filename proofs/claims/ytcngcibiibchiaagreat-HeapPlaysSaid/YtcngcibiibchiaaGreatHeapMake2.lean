/- What Make of the document's own answers to layer 7 (heap) returns, in all cases. -/
import Derived.Test.YtcngcibiibchiaaGreatHeapMake
namespace Go.Proofs.YtcngcibiibchiaaGreat
open Go.RowKit
set_option linter.unusedVariables false

set_option maxHeartbeats 1000000 in
theorem ref_hmake_none (P : Nat → Prop) (h : HeapV) (v : Value) (k order : Int) (w : World) (hv : HIs w P h v) (h0 : in64 k) (h1 : in64 order) (hok : ¬ (k < 1 ∨ order < -1 ∨ 3 < order)) (hlen : h.free.length = 1024) (hb : fBest h.free k = none) :
    Calls Tryz.prog 10 #[v, .int .i64 k, .int .i64 order] w (MadeIs w P (h, spanNone, 3)) := by
  have HV := hidb hv
  obtain ⟨A, c, A2, c2, e0, g1, g2, g3, g4, _⟩ := hv
  subst e0
  obtain ⟨n, hn⟩ : ∃ n, h.free.length = n := ⟨_, rfl⟩
  obtain ⟨n2, hn2⟩ : ∃ n2, h.l.length = n2 := ⟨_, rfl⟩
  rw [hn, hn2] at HV ⊢
  obtain ⟨pg, hpg⟩ : ∃ pg, h.pages = pg := ⟨_, rfl⟩
  obtain ⟨la, hla⟩ : ∃ la, h.last = la := ⟨_, rfl⟩
  rw [hpg, hla] at HV ⊢
  rw [hn] at g4 hlen
  have HF : Hid (∀ w', Below w.heap.size w w' → MadeIs w P (h, spanNone, 3) (.returned (.tuple #[.agg #[.int .i64 pg, .slice A n c, .slice A2 n2 c2, .int .i64 la], .agg #[.int .i64 0, .int .i64 0, .int .i64 0, .int .i64 0], .int .i64 3])) w') := hidb (fun w' hb => ⟨⟨_, rfl, HV.out.below hb⟩, hb⟩)
  obtain ⟨w0, hw0⟩ : ∃ w0, w0 = ((w.alloc (.cells #[.int .i64 pg, .slice A n c, .slice A2 n2 c2, .int .i64 la] 31)).alloc (.cells #[.int .i64 0, .slice none 0 0, .slice none 0 0, .int .i64 0] 31)).alloc (.cells #[.int .i64 0, .int .i64 0, .int .i64 0, .int .i64 0] 43) := ⟨_, rfl⟩
  have hb0 : Below w.heap.size w w0 := by
    rw [hw0]
    repeat (first | exact Below.refl _ _ | refine Below.alloc ?_ (by simp; try omega) _)
  have cb := ref_fbest A n c h.free k w0 ((g4.below hb0).more hb0.size) (by omega) h0.1 h0.2
  rw [hb] at cb
  unfold RunIs at cb
  have cb2 : Calls Tryz.prog 32 #[.slice A n c, .int .i64 k] w0 fun e w' => e = .returned (.tuple #[.agg #[.int .i64 0, .int .i64 0], .bool false]) ∧ Below w0.heap.size w0 w' := cb
  have k1 : ¬ k < 1 := by omega
  have k2 : ¬ order < -1 := by omega
  have k3 : ¬ 3 < order := by omega
  have hk0 := h0.2
  have hz0 : w0.heap.size = w.heap.size + 1 + 1 + 1 := by rw [hw0]; simp
  -- all twelve cells of the call's own three blocks
  have HC : Hid (∀ W, Below w0.heap.size w0 W → ∀ b j, w.heap.size ≤ b → b < w.heap.size + 3 → W.cell? ⟨b, j, none⟩ = w0.cell? ⟨b, j, none⟩ ∧ W.frozen? ⟨b, j, none⟩ = w0.frozen? ⟨b, j, none⟩) := hidb (fun W hW b j h1 h2 => ⟨hW.cell (p := ⟨b, j, none⟩) (by show b < _; omega), hW.frozen (p := ⟨b, j, none⟩) (by show b < _; omega)⟩)
  have HQ : Hid (∀ W, Below w0.heap.size w0 W → (W.cell? ⟨w.heap.size, 0, none⟩ = some (.int .i64 pg) ∧ W.cell? ⟨w.heap.size, 1, none⟩ = some (.slice A n c) ∧ W.cell? ⟨w.heap.size, 2, none⟩ = some (.slice A2 n2 c2) ∧ W.cell? ⟨w.heap.size, 3, none⟩ = some (.int .i64 la)) ∧
      (W.cell? ⟨w.heap.size + 1, 0, none⟩ = some (.int .i64 0) ∧ W.cell? ⟨w.heap.size + 1, 1, none⟩ = some (.slice none 0 0) ∧ W.cell? ⟨w.heap.size + 1, 2, none⟩ = some (.slice none 0 0) ∧ W.cell? ⟨w.heap.size + 1, 3, none⟩ = some (.int .i64 0)) ∧
      (W.cell? ⟨w.heap.size + 1 + 1, 0, none⟩ = some (.int .i64 0) ∧ W.cell? ⟨w.heap.size + 1 + 1, 1, none⟩ = some (.int .i64 0) ∧ W.cell? ⟨w.heap.size + 1 + 1, 2, none⟩ = some (.int .i64 0) ∧ W.cell? ⟨w.heap.size + 1 + 1, 3, none⟩ = some (.int .i64 0)) ∧
      (∀ j, W.frozen? ⟨w.heap.size + 1, j, none⟩ = false ∧ W.frozen? ⟨w.heap.size + 1 + 1, j, none⟩ = false)) := hidb (fun W hW => by
    have hc := HC.out W hW
    refine ⟨⟨?_, ?_, ?_, ?_⟩, ⟨?_, ?_, ?_, ?_⟩, ⟨?_, ?_, ?_, ?_⟩, fun j => ⟨?_, ?_⟩⟩
    iterate 4 (rw [(hc _ _ (Nat.le_refl _) (by omega)).1, hw0, World.cell?_alloc_past _ _ _ (by simp; omega), World.cell?_alloc_past _ _ _ (by simp), World.cell?_alloc_at _ _ _ _ rfl]; rfl)
    iterate 4 (rw [(hc _ _ (by omega) (by omega)).1, hw0, World.cell?_alloc_past _ _ _ (by simp), World.cell?_alloc_at _ _ _ _ (by simp)]; rfl)
    iterate 4 (rw [(hc _ _ (by omega) (by omega)).1, hw0, World.cell?_alloc_at _ _ _ _ (by simp)]; rfl)
    · rw [(hc _ _ (by omega) (by omega)).2, hw0, World.frozen?_alloc_past _ _ _ (by simp), World.frozen?_alloc_at _ _ _ _ (by simp)]
    · rw [(hc _ _ (by omega) (by omega)).2, hw0, World.frozen?_alloc_at _ _ _ _ (by simp)])
  have HZ1 : Hid (∀ w1 : World, Below w0.heap.size w0 w1 → w.heap.size < w1.heap.size ∧ w.heap.size + 1 < w1.heap.size ∧ w.heap.size + 1 + 1 < w1.heap.size) := hidb (fun w1 hb => by have := hb.size; omega)
  have HW0 := hidb hw0
  have HN := hidb hn
  have HZ0 := hidb hz0
  have HB0 := hidb hb0
  clear hw0 cb hok h0 h1 hb hlen hn hn2 hpg hla g1 g2 g3 g4 hz0 hb0
  go_enter Tryz.func10, Tryz.ntmps10
  go_wp2_with (go_at_call 32; rw [← HW0.out]; (with_reducible refine cb2.mono ?_); rintro e w1 ⟨rfl, hb1⟩; obtain ⟨⟨q0, q1, q2, q3⟩, ⟨r0, r1, r2, r3⟩, ⟨s0, s1, s2, s3⟩, qz⟩ := HQ.out _ hb1; have z0 := (qz 0).1; have z1 := (qz 1).1; have z2 := (qz 2).1; have z3 := (qz 3).1; have z4 := (qz 0).2; have z5 := (qz 1).2; have z6 := (qz 2).2; have z7 := (qz 3).2; clear qz; obtain ⟨y0, y1, y2⟩ := HZ1.out _ hb1; have HB1 := hidb hb1; clear hb1)
  obtain ⟨p0, p1, p2, p3⟩ := four_cells w1 (w.heap.size + 1) (.int .i64 pg) (.slice A n c) (.slice A2 n2 c2) (.int .i64 la) _ _ _ _ r0 r1 r2 r3
  have a2 := fun i => aside4 w1 (w.heap.size + 1) (w.heap.size + 1 + 1) (by omega) (.int .i64 pg) (.slice A n c) (.slice A2 n2 c2) (.int .i64 la) i
  obtain ⟨t0, t1, t2, t3⟩ := four_cells _ (w.heap.size + 1 + 1) (.int .i64 0) (.int .i64 0) (.int .i64 0) (.int .i64 0) _ _ _ _ ((a2 0).trans s0) ((a2 1).trans s1) ((a2 2).trans s2) ((a2 3).trans s3)
  have a1 := fun i => aside4 ((((w1.setCell ⟨w.heap.size + 1, 0, none⟩ (.int .i64 pg)).setCell ⟨w.heap.size + 1, 1, none⟩ (.slice A n c)).setCell ⟨w.heap.size + 1, 2, none⟩ (.slice A2 n2 c2)).setCell ⟨w.heap.size + 1, 3, none⟩ (.int .i64 la)) (w.heap.size + 1 + 1) (w.heap.size + 1) (by omega) (.int .i64 0) (.int .i64 0) (.int .i64 0) (.int .i64 0) i
  have al := fun (X : World) (b i : Nat) (u : Value) (hX : X.heap.size = w1.heap.size) (hb : b < w1.heap.size) (h : X.cell? ⟨b, i, none⟩ = some u) => (World.cell?_alloc_past (w := X) (.cells #[.int .i64 0, .int .i64 0] 41) b i (by omega)).trans h
  have b0 := al _ _ _ _ (by simp) y1 ((a1 0).trans p0)
  have b1 := al _ _ _ _ (by simp) y1 ((a1 1).trans p1)
  have b2 := al _ _ _ _ (by simp) y1 ((a1 2).trans p2)
  have b3 := al _ _ _ _ (by simp) y1 ((a1 3).trans p3)
  have u0 := al _ _ _ _ (by simp) y2 t0
  have u1 := al _ _ _ _ (by simp) y2 t1
  have u2 := al _ _ _ _ (by simp) y2 t2
  have u3 := al _ _ _ _ (by simp) y2 t3
  have hbf := (below_set4 (below_set4 (HB0.out.trans (HB1.out.mono HB0.out.size)) (b := w.heap.size + 1) (by omega) (.int .i64 pg) (.slice A n c) (.slice A2 n2 c2) (.int .i64 la)) (b := w.heap.size + 1 + 1) (by omega) (.int .i64 0) (.int .i64 0) (.int .i64 0) (.int .i64 0)).alloc (by simp; omega) (.cells #[.int .i64 0, .int .i64 0] 41)
  clear a1 a2 p0 p1 p2 p3 al t0 t1 t2 t3
  refine bodyPost_ret (v := .tuple #[.agg #[.int .i64 pg, .slice A n c, .slice A2 n2 c2, .int .i64 la], .agg #[.int .i64 0, .int .i64 0, .int .i64 0, .int .i64 0], .int .i64 3]) (by simp [results, Tryz.results10, go_sem, b0, b1, b2, b3, u0, u1, u2, u3]) rfl ?_
  exact HF.out _ hbf

/-- What Make answers. -/
theorem ref_hmake (P : Nat → Prop) (h : HeapV) (v : Value) (k order : Int) (w : World) (hP : ∀ b, w.heap.size ≤ b → P b) (hv : HIs w P h v) (h0 : in64 k) (h1 : in64 order) (hlen : h.free.length = 1024) (hl : h.l.length ≤ 65536) (hla : 0 ≤ h.last ∧ h.last ≤ 1000000000) :
    Calls Tryz.prog 10 #[v, .int .i64 k, .int .i64 order] w (MadeIs w P (hMake h k order)) := by
  by_cases hok : k < 1 ∨ order < -1 ∨ 3 < order
  · rw [show hMake h k order = (h, spanNone, 1) by unfold hMake; rw [if_pos hok]]
    exact ref_hmake_no P h v k order w hv h0 h1 hok
  · cases hb : fBest h.free k with
    | none =>
      rw [show hMake h k order = (h, spanNone, 3) by unfold hMake; rw [if_neg hok, hb]]
      exact ref_hmake_none P h v k order w hv h0 h1 hok hlen hb
    | some r =>
      rw [show hMake h k order = (⟨h.pages, (fPut h.free [(r.1, k)] false).1, h.l ++ [(h.last + 1, r.1, k, order)], h.last + 1⟩, (h.last + 1, r.1, k, order), 0) by unfold hMake; rw [if_neg hok, hb]]
      exact ref_hmake_yes P h v k order r w hP hv h0 h1 hok hlen hl hla hb

end Go.Proofs.YtcngcibiibchiaaGreat

/- What is left of a run, when pages of it are cut out: the function itself. -/
import Derived.Test.YtcngcibiibchiaaGreatRunsLeft
import Derived.Laws.NewBlocks
namespace Go.Proofs.YtcngcibiibchiaaGreat
open Go.RowKit Go.Shelf
set_option linter.unusedVariables false

/-- All old cells and marks read as before, and all old blocks are there. -/
theorem bcell3 {W w1 : World} (hb : Below W.heap.size W w1) : (∀ b o, b < W.heap.size → w1.cell? ⟨b, o, none⟩ = W.cell? ⟨b, o, none⟩) ∧ (∀ b o, b < W.heap.size → w1.frozen? ⟨b, o, none⟩ = W.frozen? ⟨b, o, none⟩) ∧ ∀ b, b < W.heap.size → b < w1.heap.size :=
  ⟨fun b o h => hb.cell (p := ⟨b, o, none⟩) h, fun b o h => hb.frozen (p := ⟨b, o, none⟩) h, fun b h => Nat.lt_of_lt_of_le h hb.size⟩
set_option maxRecDepth 100000 in
set_option maxHeartbeats 2000000 in
theorem code_left (f1 f2 x1 x2 : Int) (w : World) (h1 : 0 ≤ f1) (h2 : 0 ≤ f2) (h3 : f1 + f2 ≤ 1024) (h4 : 0 ≤ x1) (h5 : 0 ≤ x2) (h6 : x1 + x2 ≤ 1024) :
    Calls Tryz.prog 75 #[.agg #[.int .i64 f1, .int .i64 f2], .agg #[.int .i64 x1, .int .i64 x2]] w (OwnRuns w (leftL (f1, f2) (x1, x2))) := by
  obtain ⟨W1, hW1⟩ : ∃ W1, W1 = ((w.alloc (.cells #[.int .i64 f1, .int .i64 f2] 41)).alloc (.cells #[.int .i64 x1, .int .i64 x2] 41)).alloc (.cells #[.int .i64 f1, .int .i64 (x1 - f1)] 41) := ⟨_, rfl⟩
  have hz : W1.heap.size = w.heap.size + 1 + 1 + 1 := by rw [hW1]; simp
  have q0 : W1.cell? ⟨w.heap.size, 0, none⟩ = some (.int .i64 f1) := by rw [hW1, World.cell?_alloc_lt _ _ ⟨w.heap.size, 0, none⟩ (by simp; omega), World.cell?_alloc_lt _ _ ⟨w.heap.size, 0, none⟩ (by simp)]; simp
  have q1 : W1.cell? ⟨w.heap.size, 1, none⟩ = some (.int .i64 f2) := by rw [hW1, World.cell?_alloc_lt _ _ ⟨w.heap.size, 1, none⟩ (by simp; omega), World.cell?_alloc_lt _ _ ⟨w.heap.size, 1, none⟩ (by simp)]; simp
  have q2 : W1.cell? ⟨w.heap.size + 1, 0, none⟩ = some (.int .i64 x1) := by rw [hW1, World.cell?_alloc_lt _ _ ⟨w.heap.size + 1, 0, none⟩ (by simp)]; simp
  have q3 : W1.cell? ⟨w.heap.size + 1, 1, none⟩ = some (.int .i64 x2) := by rw [hW1, World.cell?_alloc_lt _ _ ⟨w.heap.size + 1, 1, none⟩ (by simp)]; simp
  have a0 : W1.cell? ⟨w.heap.size + 1 + 1, 0, none⟩ = some (.int .i64 f1) := by rw [hW1]; exact World.cell?_alloc_at _ _ _ 0 (by simp)
  have a1 : W1.cell? ⟨w.heap.size + 1 + 1, 1, none⟩ = some (.int .i64 (x1 - f1)) := by rw [hW1]; exact World.cell?_alloc_at _ _ _ 1 (by simp)
  have HB1 : Hid (Below w.heap.size w W1) := hidb (by rw [hW1]; exact (((Below.refl _ _).alloc (Nat.le_refl _) _).alloc (by simp) _).alloc (by simp; omega) _)
  have HW1 := hidb hW1
  clear hW1
  have HQ : Hid (∀ W', Below W1.heap.size W1 W' → W'.cell? ⟨w.heap.size, 0, none⟩ = some (.int .i64 f1) ∧ W'.cell? ⟨w.heap.size, 1, none⟩ = some (.int .i64 f2) ∧ W'.cell? ⟨w.heap.size + 1, 0, none⟩ = some (.int .i64 x1) ∧ W'.cell? ⟨w.heap.size + 1, 1, none⟩ = some (.int .i64 x2)) := hidb (fun W' hb => by
    have k := fun (p : Addr) (hp : p.block < W1.heap.size) => hb.cell hp
    rw [k ⟨w.heap.size, 0, none⟩ (by show w.heap.size < _; omega), k ⟨w.heap.size, 1, none⟩ (by show w.heap.size < _; omega), k ⟨w.heap.size + 1, 0, none⟩ (by show w.heap.size + 1 < _; omega), k ⟨w.heap.size + 1, 1, none⟩ (by show w.heap.size + 1 < _; omega)]
    exact ⟨q0, q1, q2, q3⟩)
  have cx := fun W => code_end x1 x2 W (by omega) (by omega)
  have cf := fun W => code_end f1 f2 W (by omega) (by omega)
  have hb00 : Below W1.heap.size W1 W1 := Below.refl _ _
  have hb0 : Below W1.heap.size W1 W1.drew := (Below.refl _ _).drew
  have HZ := hidb hz
  have hze : w.heap.size + 1 + 1 < W1.heap.size := by omega
  have hzf : ¬ W1.heap.size = w.heap.size + 1 + 1 := by omega
  have hza : w.heap.size < W1.heap.size := by omega
  have hzb : w.heap.size + 1 < W1.heap.size := by omega
  have hzc : ¬ W1.heap.size = w.heap.size := by omega
  have hzd : ¬ W1.heap.size = w.heap.size + 1 := by omega
  have hwr : IntKind.i64.wrap (f1 + f2 - (x1 + x2)) = f1 + f2 - (x1 + x2) := IntWalk.i64_in _ (by omega)
  clear hz
  have cd : ∀ W b, Below W1.heap.size W1 W → W.heap.size = b → Calls Tryz.prog 94 #[.slice (some ⟨b, 0, none⟩) 2 2, .func (.func 95) #[] #[]] ((W.alloc (.cells #[.int .i64 f1, .int .i64 (x1 - f1), .int .i64 (x1 + x2), .int .i64 (f1 + f2 - (x1 + x2))] 41)).drew) (OwnRuns w (leftL (f1, f2) (x1, x2))) := fun W b hb he => by
    subst he
    have hRw : Rw ((W.alloc (.cells #[.int .i64 f1, .int .i64 (x1 - f1), .int .i64 (x1 + x2), .int .i64 (f1 + f2 - (x1 + x2))] 41)).drew) W.heap.size 41 [iv f1, iv (x1 - f1), iv (x1 + x2), iv (f1 + f2 - (x1 + x2))] := by
      show (W.heap.push _)[W.heap.size]? = _
      simp [iv]
    have hsz := hb.size
    refine (code_dfunc W.heap.size f1 (x1 - f1) (x1 + x2) (f1 + f2 - (x1 + x2)) _ w.heap.size hRw (by have := HZ.out; omega)).mono ?_
    rintro e w' ⟨rfl, h2, h3⟩
    refine ⟨_, _, rfl, h2, ?_⟩
    have hB : Below w.heap.size w W := HB1.out.trans (hb.mono (by have := HZ.out; omega))
    exact ((hB.alloc (by have := HZ.out; omega) _).drew).grown h3 (by have := HZ.out; show w.heap.size ≤ (W.heap.push _).size; simp; omega) (fun k hk => by cases hk; have := HZ.out; omega)
  go_enter Tryz.func75, Tryz.ntmps75
  go_wp2
  rw [← HW1.out]
  go_region_held3 (fun W' => W'.cell? ⟨w.heap.size, 0, none⟩ = some (.int .i64 f1) ∧ W'.cell? ⟨w.heap.size, 1, none⟩ = some (.int .i64 f2) ∧ W'.cell? ⟨w.heap.size + 1, 0, none⟩ = some (.int .i64 x1) ∧ W'.cell? ⟨w.heap.size + 1, 1, none⟩ = some (.int .i64 x2))
    (first | (go_keep; done) | (refine HQ.out _ ?_; repeat (first | apply Below.drew | exact Below.refl _ _ | refine Below.setCell ?_ (by first | (simp; done) | (simp; omega)) _ | refine Below.alloc ?_ (by first | (simp; done) | (simp; omega)) _)))
    (first | (go_at_call 72; first
      | ((with_reducible refine (cx _).mono ?_); rintro e w3 ⟨rfl, rfl⟩)
      | ((with_reducible refine (cf _).mono ?_); rintro e w3 ⟨rfl, rfl⟩)))
  all_goals
    go_wp2_with (first | (go_at_call 94; (with_reducible refine (cd _ _ (by repeat (first | apply Below.drew | exact Below.refl _ _ | refine Below.setCell ?_ (by first | (simp; done) | (simp; omega)) _ | refine Below.alloc ?_ (by first | (simp; done) | (simp; omega)) _)) (by simp)).mono ?_); rintro e w9 ⟨A9, c9, rfl, ho9, hb9⟩))
    go_ret
    exact ⟨A9, c9, rfl, ho9, hb9⟩

end Go.Proofs.YtcngcibiibchiaaGreat

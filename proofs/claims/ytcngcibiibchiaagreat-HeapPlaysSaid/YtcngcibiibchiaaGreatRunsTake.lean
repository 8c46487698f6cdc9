/- What Take does. -/
import Derived.Test.YtcngcibiibchiaaGreatRunsCut
namespace Go.Proofs.YtcngcibiibchiaaGreat
open Go.RowKit
set_option linter.unusedVariables false

/-- What is free behind Take. -/
def fTake (f : List Bool) (k : Int) : List Bool := match fBest f k with | none => f | some r => (fPut f [(r.1, k)] false).1
theorem take_ok {f : List Bool} (hf : f.length = 1024) {k : Int} {r : Int × Int} (h : fBest f k = some r) : ∃ g, fPut f [(r.1, k)] false = (g, 0) ∧ fMay (r.1, k) = true ∧ ∃ i, (fList f)[i]? = some r ∧ inRun (r.1, k) r = true ∧ fList g = (fList f).take i ++ leftL r (r.1, k) ++ (fList f).drop (i + 1) := by
  obtain ⟨h1, h2, h3⟩ := fBest_mem (by omega) h
  have hm := norm_mem (fList_norm f (by omega)) r h3
  have hmay : fMay (r.1, k) = true := (fMay_iff _).2 ⟨hm.1, h1, by show r.1 + k ≤ 1024; omega⟩
  have hin : inRun (r.1, k) r = true := (inRun_iff _ _).2 ⟨Int.le_refl _, by show r.1 + k ≤ r.1 + r.2; omega⟩
  obtain ⟨i, hi, e⟩ := List.getElem_of_mem h3
  have hir : (fList f)[i]? = some r := by rw [List.getElem?_eq_getElem hi, e]
  obtain ⟨g, e1, e2⟩ := cut_yes hf hmay hir hin
  exact ⟨g, e1, hmay, i, hir, hin, e2⟩
/-- A run, whether there is one, and what became of all. -/
def TookFr (w : World) (S : Nat → Prop) (p : Nat) (f : List Bool) (r : Option (Int × Int)) (e : Ending) (w' : World) : Prop :=
  e = .returned (.tuple #[.agg #[.int .i64 (r.getD (0, 0)).1, .int .i64 (r.getD (0, 0)).2], .bool r.isSome]) ∧ Fr w' (more S w w') p f ∧ Kept S w w'
set_option maxRecDepth 100000 in
set_option maxHeartbeats 2000000 in
theorem code_rtake {w : World} {S : Nat → Prop} {p : Nat} {f : List Bool} (h : Fr w S p f) (k : Int) (hk : in64 k) :
    Calls Tryz.prog 33 #[.pointer (some ⟨p, 0, none⟩), .int .i64 k] w (TookFr w S p (fTake f k) ((fBest f k).map fun r => (r.1, k))) := by
  obtain ⟨W1, hW1⟩ : ∃ W1, W1 = w.alloc (.cells #[.int .i64 0, .int .i64 0] 41) := ⟨_, rfl⟩
  have hz : W1.heap.size = w.heap.size + 1 := by rw [hW1]; simp
  have hb1 : Below w.heap.size w W1 := by rw [hW1]; exact (Below.refl _ _).alloc (Nat.le_refl _) _
  have p0 : W1.cell? ⟨w.heap.size, 0, none⟩ = some (.int .i64 0) := by rw [hW1]; simp
  have p1 : W1.cell? ⟨w.heap.size, 1, none⟩ = some (.int .i64 0) := by rw [hW1]; simp
  have f0 : ∀ j, W1.frozen? ⟨w.heap.size, j, none⟩ = false := fun j => by rw [hW1]; simp [go_sem]
  have cb := code_rbest (h.below hb1) k hk
  have HW1 := hidb hW1
  have HQ : Hid (∀ W, Below W1.heap.size W1 W → W.cell? ⟨w.heap.size, 0, none⟩ = some (.int .i64 0) ∧ W.cell? ⟨w.heap.size, 1, none⟩ = some (.int .i64 0) ∧ W.frozen? ⟨w.heap.size, 0, none⟩ = false ∧ W.frozen? ⟨w.heap.size, 1, none⟩ = false) := hidb (fun W hb => by
    rw [hb.cell (p := ⟨w.heap.size, 0, none⟩) (by show w.heap.size < _; omega), hb.cell (p := ⟨w.heap.size, 1, none⟩) (by show w.heap.size < _; omega), hb.frozen (p := ⟨w.heap.size, 0, none⟩) (by show w.heap.size < _; omega), hb.frozen (p := ⟨w.heap.size, 1, none⟩) (by show w.heap.size < _; omega)]
    exact ⟨p0, p1, f0 0, f0 1⟩)
  cases hB : fBest f k with
  | none =>
    rw [hB] at cb
    have e1 : fTake f k = f := by unfold fTake; rw [hB]
    rw [e1]
    have H := hidb h
    have HB1 := hidb hb1
    have hzz : w.heap.size ≤ W1.heap.size := by omega
    clear h hk hB e1 hW1 p0 p1 f0 hb1
    go_enter Tryz.func33, Tryz.ntmps33
    go_wp2_with (first | (go_at_call 53; rw [← HW1.out]; (with_reducible refine cb.mono ?_); rintro e w2 ⟨rfl, hb2⟩; obtain ⟨y0, y1, z0, z1⟩ := HQ.out _ hb2; have hlt2 : w.heap.size < w2.heap.size := lt_of_cell y0; have hne2 : ¬ w.heap.size = w2.heap.size := Nat.ne_of_lt hlt2))
    obtain ⟨r0, r1⟩ := two_cells w2 w.heap.size (.int .i64 0) (.int .i64 0) _ _ y0 y1
    have s0 := fun o => (World.cell?_alloc_lt ((w2.setCell ⟨w.heap.size, 0, none⟩ (.int .i64 0)).setCell ⟨w.heap.size, 1, none⟩ (.int .i64 0)) o ⟨w.heap.size, 0, none⟩ (by simpa using hlt2)).trans r0
    have s1 := fun o => (World.cell?_alloc_lt ((w2.setCell ⟨w.heap.size, 0, none⟩ (.int .i64 0)).setCell ⟨w.heap.size, 1, none⟩ (.int .i64 0)) o ⟨w.heap.size, 1, none⟩ (by simpa using hlt2)).trans r1
    have S0 := hidb s0
    have S1 := hidb s1
    have HBE : Hid (∀ o, Below w.heap.size w (((w2.setCell ⟨w.heap.size, 0, none⟩ (.int .i64 0)).setCell ⟨w.heap.size, 1, none⟩ (.int .i64 0)).alloc o)) := hidb (fun o => (((HB1.out.trans (hb2.mono hzz)).setCell (p := ⟨w.heap.size, 0, none⟩) (Nat.le_refl _) _).setCell (p := ⟨w.heap.size, 1, none⟩) (Nat.le_refl _) _).alloc (by simp; omega) o)
    clear s0 s1 r0 r1
    go_wp2
    have s0 := S0.out
    have s1 := S1.out
    refine bodyPost_ret (v := .tuple #[.agg #[.int .i64 0, .int .i64 0], .bool false]) (by simp [results, Tryz.results33, go_sem, s0, s1]) rfl ?_
    exact ⟨rfl, (H.out.below (HBE.out _)).more_ (HBE.out _).size, Kept.of_below (HBE.out _) S⟩
  | some r =>
    obtain ⟨g, e1, hmay, _⟩ := take_ok h.flen hB
    obtain ⟨s, l⟩ := r
    have e2 : fTake f k = g := by unfold fTake; rw [hB]; simp only; rw [e1]
    rw [e2]
    rw [hB] at cb
    obtain ⟨m1, m2, m3⟩ := (fMay_iff (s, k)).1 hmay
    simp only at m1 m2 m3
    have cc : ∀ W, Below w.heap.size w W → Calls Tryz.prog 54 #[.pointer (some ⟨p, 0, none⟩), .agg #[.int .i64 s, .int .i64 k]] W (DidFr W S p g 0) := fun W hb => by
      have := code_rcut (h.below hb) s k ⟨by omega, by omega⟩ hk
      rw [e1] at this
      exact this
    have hSl := h.lt
    have HB1 := hidb hb1
    have HSL := hidb hSl
    have hzz : w.heap.size ≤ W1.heap.size := by omega
    -- the world behind
    have HEND : Hid (∀ W w5, Below w.heap.size w W → w.heap.size < W.heap.size → Fr w5 (more S W w5) p g → Kept S W w5 → ∀ w6, w6 = (w5.setCell ⟨w.heap.size, 0, none⟩ (.int .i64 s)).setCell ⟨w.heap.size, 1, none⟩ (.int .i64 k) → Fr w6 (more S w w6) p g ∧ Kept S w w6) := hidb (fun W w5 hb hlt hF hK w6 e6 => by
      have hk6 : Kept (fun b => b = w.heap.size) w5 w6 := by rw [e6]; exact (Kept.set (a := ⟨w.heap.size, 1, none⟩) (Kept.set (a := ⟨w.heap.size, 0, none⟩) (Kept.refl (fun b => b = w.heap.size) w5) (Or.inl rfl) _) (Or.inl rfl) _)
      have hF6 := hF.keep hk6 (fun b hb' e => by
        rcases hb'.1 with c | c
        · have := hSl b c; omega
        · omega)
      refine ⟨?_, ((Kept.of_below hb S).trans hK (fun b _ h => h)).trans hk6 (fun b hb' e => by omega)⟩
      obtain ⟨A, n, c, k1, k2, k3, k4⟩ := hF6
      have hsz := hb.size
      have wid : ∀ b, more S W w5 b → more S w w6 b := fun b hb' => ⟨by
        rcases hb'.1 with c | c
        · exact Or.inl c
        · exact Or.inr (by omega), k4 b hb'⟩
      exact ⟨A, n, c, k1, wid _ k2, fun q hq => wid _ (k3 q hq), fun b hb' => hb'.2⟩)
    have HNS : Hid (¬ S w.heap.size) := hidb (fun c => by have := hSl _ c; omega)
    clear h hB hW1 p0 p1 f0 hb1 e1 e2 hmay hSl
    go_enter Tryz.func33, Tryz.ntmps33
    go_wp2_with (first | (go_at_call 53; rw [← HW1.out]; (with_reducible refine cb.mono ?_); rintro e w2 ⟨rfl, hb2⟩; obtain ⟨y0, y1, z0, z1⟩ := HQ.out _ hb2; have hlt2 : w.heap.size < w2.heap.size := lt_of_cell y0; have hne2 : ¬ w.heap.size = w2.heap.size := Nat.ne_of_lt hlt2))
    have HBW : Hid (Below w.heap.size w w2) := hidb (HB1.out.trans (hb2.mono hzz))
    have hzle : w.heap.size ≤ w2.heap.size := by omega
    refine (cc _ (by exact (HBW.out.alloc hzle _).alloc (by simp; omega) _)).mono ?_
    rintro e w5 ⟨rfl, hF5, hK5⟩
    have hns := HNS.out
    have hns2 : ¬ S (w2.heap.size + 1) := fun c => by have := HSL.out _ c; omega
    have t0 : w5.cell? ⟨w.heap.size, 0, none⟩ = some (.int .i64 0) := by
      rw [hK5.cell (a := ⟨w.heap.size, 0, none⟩) (by simp; omega) hns, World.cell?_alloc_lt _ _ ⟨w.heap.size, 0, none⟩ (by simp; omega), World.cell?_alloc_lt _ _ ⟨w.heap.size, 0, none⟩ hlt2]; exact y0
    have t1 : w5.cell? ⟨w.heap.size, 1, none⟩ = some (.int .i64 0) := by
      rw [hK5.cell (a := ⟨w.heap.size, 1, none⟩) (by simp; omega) hns, World.cell?_alloc_lt _ _ ⟨w.heap.size, 1, none⟩ (by simp; omega), World.cell?_alloc_lt _ _ ⟨w.heap.size, 1, none⟩ hlt2]; exact y1
    have kfr := fun j => World.frozen?_of_block (a := ⟨w.heap.size, j, none⟩) (hK5.block w.heap.size (by simp; omega) hns)
    have t2 : w5.frozen? ⟨w.heap.size, 0, none⟩ = false := by rw [kfr]; exact (Below.frozen (B := w2.heap.size) (w := w2) (((Below.refl _ _).alloc (Nat.le_refl _) _).alloc (by simp) _) (p := ⟨w.heap.size, 0, none⟩) hlt2).trans z0
    have t3 : w5.frozen? ⟨w.heap.size, 1, none⟩ = false := by rw [kfr]; exact (Below.frozen (B := w2.heap.size) (w := w2) (((Below.refl _ _).alloc (Nat.le_refl _) _).alloc (by simp) _) (p := ⟨w.heap.size, 1, none⟩) hlt2).trans z1
    have u0 : w5.cell? ⟨w2.heap.size + 1, 0, none⟩ = some (.int .i64 s) := by
      rw [hK5.cell (a := ⟨w2.heap.size + 1, 0, none⟩) (by simp) hns2]; exact World.cell?_alloc_at _ _ _ 0 (by simp)
    have u1 : w5.cell? ⟨w2.heap.size + 1, 1, none⟩ = some (.int .i64 k) := by
      rw [hK5.cell (a := ⟨w2.heap.size + 1, 1, none⟩) (by simp) hns2]; exact World.cell?_alloc_at _ _ _ 1 (by simp)
    have hz5 : w.heap.size < w5.heap.size := by have := hK5.size; simp at this; omega
    have HE := hidb (HEND.out _ w5 ((HBW.out.alloc hzle _).alloc (by simp; omega) _) (by simp; omega) hF5 hK5)
    clear hF5 hK5 kfr
    obtain ⟨s0, s1⟩ := two_cells w5 w.heap.size (.int .i64 s) (.int .i64 k) _ _ t0 t1
    have S0 := hidb s0
    have S1 := hidb s1
    clear s0 s1
    go_wp2
    have s0 := S0.out
    have s1 := S1.out
    refine bodyPost_ret (v := .tuple #[.agg #[.int .i64 s, .int .i64 k], .bool true]) (by simp [results, Tryz.results33, go_sem, s0, s1]) rfl ?_
    obtain ⟨k1, k2⟩ := HE.out _ rfl
    exact ⟨rfl, k1, k2⟩
/-- Take of nil free runs. -/
theorem code_rtake_nil (w : World) (k : Int) (hk : in64 k) :
    Calls Tryz.prog 33 #[.pointer none, .int .i64 k] w fun e w' => e = .returned (.tuple #[.agg #[.int .i64 0, .int .i64 0], .bool false]) ∧ Below w.heap.size w w' := by
  obtain ⟨W1, hW1⟩ : ∃ W1, W1 = w.alloc (.cells #[.int .i64 0, .int .i64 0] 41) := ⟨_, rfl⟩
  have hz : W1.heap.size = w.heap.size + 1 := by rw [hW1]; simp
  have hb1 : Below w.heap.size w W1 := by rw [hW1]; exact (Below.refl _ _).alloc (Nat.le_refl _) _
  have p0 : W1.cell? ⟨w.heap.size, 0, none⟩ = some (.int .i64 0) := by rw [hW1]; simp
  have p1 : W1.cell? ⟨w.heap.size, 1, none⟩ = some (.int .i64 0) := by rw [hW1]; simp
  have f0 : ∀ j, W1.frozen? ⟨w.heap.size, j, none⟩ = false := fun j => by rw [hW1]; simp [go_sem]
  have cb := code_rbest_nil W1 k hk
  have HW1 := hidb hW1
  have HQ : Hid (∀ W, Below W1.heap.size W1 W → W.cell? ⟨w.heap.size, 0, none⟩ = some (.int .i64 0) ∧ W.cell? ⟨w.heap.size, 1, none⟩ = some (.int .i64 0) ∧ W.frozen? ⟨w.heap.size, 0, none⟩ = false ∧ W.frozen? ⟨w.heap.size, 1, none⟩ = false) := hidb (fun W hb => by
    rw [hb.cell (p := ⟨w.heap.size, 0, none⟩) (by show w.heap.size < _; omega), hb.cell (p := ⟨w.heap.size, 1, none⟩) (by show w.heap.size < _; omega), hb.frozen (p := ⟨w.heap.size, 0, none⟩) (by show w.heap.size < _; omega), hb.frozen (p := ⟨w.heap.size, 1, none⟩) (by show w.heap.size < _; omega)]
    exact ⟨p0, p1, f0 0, f0 1⟩)
  have HB1 := hidb hb1
  have hzz : w.heap.size ≤ W1.heap.size := by omega
  clear hk hW1 p0 p1 f0 hb1
  go_enter Tryz.func33, Tryz.ntmps33
  go_wp2_with (first | (go_at_call 53; rw [← HW1.out]; (with_reducible refine cb.mono ?_); rintro e w2 ⟨rfl, hb2⟩; obtain ⟨y0, y1, z0, z1⟩ := HQ.out _ hb2; have hlt2 : w.heap.size < w2.heap.size := lt_of_cell y0; have hne2 : ¬ w.heap.size = w2.heap.size := Nat.ne_of_lt hlt2))
  obtain ⟨r0, r1⟩ := two_cells w2 w.heap.size (.int .i64 0) (.int .i64 0) _ _ y0 y1
  have s0 := fun o => (World.cell?_alloc_lt ((w2.setCell ⟨w.heap.size, 0, none⟩ (.int .i64 0)).setCell ⟨w.heap.size, 1, none⟩ (.int .i64 0)) o ⟨w.heap.size, 0, none⟩ (by simpa using hlt2)).trans r0
  have s1 := fun o => (World.cell?_alloc_lt ((w2.setCell ⟨w.heap.size, 0, none⟩ (.int .i64 0)).setCell ⟨w.heap.size, 1, none⟩ (.int .i64 0)) o ⟨w.heap.size, 1, none⟩ (by simpa using hlt2)).trans r1
  have S0 := hidb s0
  have S1 := hidb s1
  have HBE : Hid (∀ o, Below w.heap.size w (((w2.setCell ⟨w.heap.size, 0, none⟩ (.int .i64 0)).setCell ⟨w.heap.size, 1, none⟩ (.int .i64 0)).alloc o)) := hidb (fun o => (((HB1.out.trans (hb2.mono hzz)).setCell (p := ⟨w.heap.size, 0, none⟩) (Nat.le_refl _) _).setCell (p := ⟨w.heap.size, 1, none⟩) (Nat.le_refl _) _).alloc (by simp; omega) o)
  clear s0 s1 r0 r1
  go_wp2
  have s0 := S0.out
  have s1 := S1.out
  refine bodyPost_ret (v := .tuple #[.agg #[.int .i64 0, .int .i64 0], .bool false]) (by simp [results, Tryz.results33, go_sem, s0, s1]) rfl ?_
  exact ⟨rfl, HBE.out _⟩

end Go.Proofs.YtcngcibiibchiaaGreat

/- What is left of a run, when pages of it are cut out. -/
import Derived.Test.YtcngcibiibchiaaGreatRunsClone
import Derived.Test.YtcngcibiibchiaaGreatRunsRep
namespace Go.Proofs.YtcngcibiibchiaaGreat
open Go.RowKit Go.Shelf
set_option linter.unusedVariables false

theorem Rw.setCell {w : World} {g : Nat} {e : TypeId} {L : List Value} (h : Rw w g e L) (j : Nat) (u : Value) : Rw (w.setCell ⟨g, j, none⟩ u) g e (L.set j u) := by
  unfold Rw at h ⊢
  rw [heap_setCell_same w g j L.toArray e u h]
  simp
theorem grownCell {w w' : World} {g : Nat} (h : w.grownBy w' (some g)) (j : Nat) (u : Value) : w.grownBy (w'.setCell ⟨g, j, none⟩ u) (some g) :=
  ⟨h.os, h.tape, h.output, by simpa using h.size, fun k hk hr => (heap_setCell_other w' ⟨g, j, none⟩ k u (fun e => hr (by rw [e]))).trans (h.block k hk hr)⟩
theorem code_empty (s l : Int) (W : World) :
    Calls Tryz.prog 95 #[.agg #[.int .i64 s, .int .i64 l]] W fun e w' => e = .returned (.bool (l == 0)) ∧ Below W.heap.size W w' := by
  go_enter Tryz.func95, Tryz.ntmps95
  go_wp2
  go_ret
  exact ⟨rfl, (Below.refl _ _).alloc (Nat.le_refl _) _⟩

/-- What DeleteFunc leaves of two runs. -/
def Deleted (w : World) (base g : Nat) (rs : List (Int × Int)) (e : Ending) (w' : World) : Prop :=
  e = .returned (.slice (some ⟨g, 0, none⟩) rs.length 2) ∧ w'.ownsRow base 41 2 (.slice (some ⟨g, 0, none⟩) rs.length 2) rs.length (rcells rs) ∧ w.grownBy w' (some g)

set_option maxRecDepth 100000 in
set_option maxHeartbeats 2000000 in
theorem code_dfunc (g : Nat) (a1 a2 b1 b2 : Int) (w : World) (base : Nat) (hL : Rw w g 41 [iv a1, iv a2, iv b1, iv b2]) (hbg : base ≤ g) :
    Calls Tryz.prog 94 #[.slice (some ⟨g, 0, none⟩) 2 2, .func (.func 95) #[] #[]] w (Deleted w base g ([(a1, a2), (b1, b2)].filter fun y => !(y.2 == 0))) := by
  have eg : ∀ args w, (callFunc 95 args).run Tryz.prog w = .ok (.enter 95 args) w := enters_of Tryz.func95 (by kernel_rfl) rfl
  have hown : w.ownsRow base 41 2 (.slice (some ⟨g, 0, none⟩) 2 2) 2 (rcells [(a1, a2), (b1, b2)]) := own_of_whole (s := 2) (n := 2) (c := 2) hL hbg (Nat.le_refl _) (by unfold maxLen; omega) rfl
  have ci := code_ifunc (some ⟨g, 0, none⟩) 2 2 [(a1, a2), (b1, b2)] w (Rn.of_own hown rfl) (by omega) 95 #[] (fun y => y.2 == 0) eg (fun W x _ hb => (code_empty x.1 x.2 W).mono fun e w' ⟨h1, h2⟩ => ⟨h1, hb.trans (h2.mono hb.size)⟩)
  have hlt := hL.lt
  have HOWN := hidb hown
  have HL := hidb hL
  have whole : ∀ w' L, Rw w' g 41 L → L.length = 4 → ∀ (n : Nat) (rs : List (Int × Int)), n ≤ 2 → rs.length = n → L.take (n * 2) = rcells rs → w.grownBy w' (some g) → Deleted w base g rs (.returned (.slice (some ⟨g, 0, none⟩) n 2)) w' := fun w' L h1 h2 n rs h3 h4 h5 h6 => by
    subst h4
    refine ⟨rfl, ?_, h6⟩
    rw [← h5]
    exact own_of_whole (s := 2) (c := 2) h1 hbg h3 (by unfold maxLen; omega) (by omega)
  have WH := hidb whole
  clear hown hL whole
  have ce0 := fun W => code_empty b1 0 W
  have ce1 := fun (h : b2 ≠ 0) W => by
    have c := code_empty b1 b2 W
    rw [show (b2 == 0) = false by simpa using h] at c
    exact c
  have cells : ∀ w', Below w.heap.size w w' → w'.cell? ⟨g, 2, none⟩ = some (.int .i64 b1) ∧ w'.cell? ⟨g, 3, none⟩ = some (.int .i64 b2) ∧ w'.cell? ⟨g, 0, none⟩ = some (.int .i64 a1) ∧ w'.cell? ⟨g, 1, none⟩ = some (.int .i64 a2) ∧ w'.frozen? ⟨g, 0, none⟩ = false ∧ w'.frozen? ⟨g, 1, none⟩ = false := fun w' hb => by
    have h := HL.out.below hb hlt
    exact ⟨h.cell 2, h.cell 3, h.cell 0, h.cell 1, h.free 0, h.free 1⟩
  have CELLS := hidb cells
  clear cells
  by_cases ha : a2 = 0
  · subst ha
    by_cases hb : b2 = 0
    · subst hb
      have e1 : idxR (fun y : Int × Int => y.2 == 0) [(a1, 0), (b1, 0)] = 0 := idxR_some (i := 0) (r := (a1, 0)) rfl rfl (fun j h => absurd h (Nat.not_lt_zero _))
      have e2 : ([(a1, (0 : Int)), (b1, 0)].filter fun y => !(y.2 == 0)) = [] := by simp
      rw [e1] at ci
      rw [e2]
      clear e1 e2
      go_enter Tryz.func94, Tryz.ntmps94
      go_wp2_with (first | (go_at_call 78; (with_reducible refine ci.mono ?_); rintro e w1 ⟨rfl, hb1⟩; obtain ⟨c2, c3, c0, c1, f0, f1⟩ := CELLS.out _ hb1; have hz1 := hb1.size))
      refine wp_loop_rounds 2 ?_
      rw [rounds_succ]
      go_wp2_with (first | (go_at_call 95; (with_reducible refine (ce0 _).mono ?_); rintro e w2 ⟨rfl, hb2⟩))
      rw [rounds_succ]
      have hL2 : Hid (Rw w2 g 41 _) := hidb ((HL.out.below hb1 hlt).alloc (.cells #[.int .i64 b1, .int .i64 0] 41) |>.below hb2 (by simp; omega))
      go_wp2_with (first
        | (refine wpList_clearK rfl (.tmp 38) 54 rfl 41 _ Tryz.underlying54 run_zero _ g 0 _ _ rfl _ _ hL2.out (run_noughts _) (by intro _; exact ⟨rfl, by rw [noughts_size]; simp⟩) ?_; intro w3 L3 hw3 hb3))
      go_ret
      exact WH.out w3 L3 hw3.out.1 hw3.out.2.1 0 [] (by omega) rfl rfl (grownTrans (grownBelow (hb1.trans (((Below.refl _ _).alloc hz1 _).trans (hb2.mono (by simp; omega)))) _) hb3.out)
    · have e1 : idxR (fun y : Int × Int => y.2 == 0) [(a1, 0), (b1, b2)] = 0 := idxR_some (i := 0) (r := (a1, 0)) rfl rfl (fun j h => absurd h (Nat.not_lt_zero _))
      have e2 : ([(a1, (0 : Int)), (b1, b2)].filter fun y => !(y.2 == 0)) = [(b1, b2)] := by simp [hb]
      rw [e1] at ci
      rw [e2]
      have ce := ce1 hb
      clear e1 e2 hb ce0 ce1
      go_enter Tryz.func94, Tryz.ntmps94
      go_wp2_with (first | (go_at_call 78; (with_reducible refine ci.mono ?_); rintro e w1 ⟨rfl, hb1⟩; obtain ⟨c2, c3, c0, c1, f0, f1⟩ := CELLS.out _ hb1; have hz1 := hb1.size))
      refine wp_loop_rounds 2 ?_
      rw [rounds_succ]
      have hne : g ≠ w1.heap.size := by omega
      have HB1 := hidb hb1
      go_wp2_with (first | (go_at_call 95; (with_reducible refine (ce _).mono ?_); rintro e w2 ⟨rfl, hb2⟩; have hb3 := (hb1.trans (((Below.refl _ _).alloc hz1 (.cells #[.int .i64 b1, .int .i64 b2] 41)).trans (hb2.mono (by simp; omega)))); obtain ⟨d2, d3, d0, d1, g0, g1⟩ := CELLS.out _ hb3; have q0 : w2.cell? ⟨w1.heap.size, 0, none⟩ = some (.int .i64 b1) := (by rw [hb2.cell (by simp)]; simp); have q1 : w2.cell? ⟨w1.heap.size, 1, none⟩ = some (.int .i64 b2) := (by rw [hb2.cell (by simp)]; simp)))
      rw [rounds_succ]
      have hL2 : Hid (Rw ((w2.setCell ⟨g, 0, none⟩ (.int .i64 b1)).setCell ⟨g, 1, none⟩ (.int .i64 b2)) g 41 [iv b1, iv b2, iv b1, iv b2]) := hidb (((HL.out.below hb3 hlt).setCell 0 _).setCell 1 _)
      have hg2 : Hid (w.grownBy ((w2.setCell ⟨g, 0, none⟩ (.int .i64 b1)).setCell ⟨g, 1, none⟩ (.int .i64 b2)) (some g)) := hidb (grownCell (grownCell (grownBelow hb3 _) 0 _) 1 _)
      go_wp2_with (first
        | (refine wpList_clearK rfl (.tmp 38) 54 rfl 41 _ Tryz.underlying54 run_zero _ g 2 _ _ rfl _ _ hL2.out (run_noughts _) (by intro _; exact ⟨rfl, by rw [noughts_size]; simp⟩) ?_; intro w3 L3 hw3 hb3'))
      go_ret
      exact WH.out w3 L3 hw3.out.1 hw3.out.2.1 1 [(b1, b2)] (by omega) rfl hw3.out.2.2 (grownTrans hg2.out hb3'.out)
  · by_cases hb : b2 = 0
    · subst hb
      have e1 : idxR (fun y : Int × Int => y.2 == 0) [(a1, a2), (b1, 0)] = 1 := idxR_some (i := 1) (r := (b1, 0)) rfl rfl (fun j h y hy => by
        obtain rfl : j = 0 := by omega
        obtain rfl := Option.some.inj hy
        simpa using ha)
      have e2 : ([(a1, a2), (b1, (0 : Int))].filter fun y => !(y.2 == 0)) = [(a1, a2)] := by simp [ha]
      rw [e1] at ci
      rw [e2]
      clear e1 e2 ha
      go_enter Tryz.func94, Tryz.ntmps94
      go_wp2_with (first | (go_at_call 78; (with_reducible refine ci.mono ?_); rintro e w1 ⟨rfl, hb1⟩; have hz1 := hb1.size))
      refine wp_loop_rounds 1 ?_
      rw [rounds_succ]
      have hL2 : Hid (Rw w1 g 41 [iv a1, iv a2, iv b1, iv 0]) := hidb (HL.out.below hb1 hlt)
      go_wp2_with (first
        | (refine wpList_clearK rfl (.tmp 38) 54 rfl 41 _ Tryz.underlying54 run_zero _ g 2 _ _ rfl _ _ hL2.out (run_noughts _) (by intro _; exact ⟨rfl, by rw [noughts_size]; simp⟩) ?_; intro w3 L3 hw3 hb3))
      go_ret
      exact WH.out w3 L3 hw3.out.1 hw3.out.2.1 1 [(a1, a2)] (by omega) rfl hw3.out.2.2 (grownTrans (grownBelow hb1 _) hb3.out)
    · have e1 : idxR (fun y : Int × Int => y.2 == 0) [(a1, a2), (b1, b2)] = -1 := idxR_none (fun r hr => by
        rcases List.mem_cons.1 hr with rfl | hr
        · simpa using ha
        · obtain rfl := List.mem_singleton.1 hr
          simpa using hb)
      have e2 : ([(a1, a2), (b1, b2)].filter fun y => !(y.2 == 0)) = [(a1, a2), (b1, b2)] := by simp [ha, hb]
      rw [e1] at ci
      rw [e2]
      clear e1 e2 ha hb
      go_enter Tryz.func94, Tryz.ntmps94
      go_wp2_with (first | (go_at_call 78; (with_reducible refine ci.mono ?_); rintro e w1 ⟨rfl, hb1⟩))
      go_ret
      exact WH.out w1 _ (HL.out.below hb1 hlt) rfl 2 [(a1, a2), (b1, b2)] (by omega) rfl rfl (grownBelow hb1 _)

end Go.Proofs.YtcngcibiibchiaaGreat

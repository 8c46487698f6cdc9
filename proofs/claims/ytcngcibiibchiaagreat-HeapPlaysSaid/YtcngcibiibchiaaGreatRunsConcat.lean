/- slices.Grow of nil, and slices.Concat of two rows of runs. -/
import Derived.Test.YtcngcibiibchiaaGreatRunsClone
import Derived.Test.YtcngcibiibchiaaGreatAppendRow
import Derived.Lib.AppendZeros
namespace Go.Proofs.YtcngcibiibchiaaGreat
open Go.RowKit Go.Shelf
set_option linter.unusedVariables false

/-- Room for runs: a row of none. -/
def OwnRoom (w : World) (e : Ending) (w' : World) : Prop := ∃ A c, e = .returned (.slice A 0 c) ∧ w'.ownsRow w.heap.size 41 2 (.slice A 0 c) 0 [] ∧ Below w.heap.size w w'

set_option maxRecDepth 100000 in
theorem code_grow (k : Nat) (w : World) (hk : k ≤ 131072) :
    Calls Tryz.prog 69 #[.slice none 0 0, .int .i64 (k : Int)] w (OwnRoom w) := by
  obtain ⟨i0, hi, hz0, hz1, hz2⟩ := info_parts info_run
  by_cases h0 : k = 0
  · subst h0
    go_enter Tryz.func69, Tryz.ntmps69
    go_wp2
    go_ret
    exact ⟨none, 0, rfl, World.ownsRow_nil _ _ _ _, Below.refl _ _⟩
  · have hr := fun ty => Lib.run_append_nil_zeros (P := Tryz.prog) w 54 3 ty 41 i0 _ .i64 .i64 Tryz.underlying54 Tryz.underlying3 hi hz0 k (by omega) (by rw [hz1]; decide) (by omega) (by rw [hz2]; omega)
    have hge := grownCap_ge w k 0 41
    have hcm := grownCap_le_maxLen w k 0 41 (by unfold maxLen; omega)
    obtain ⟨G, hG⟩ : ∃ G, grownCap w k 0 41 = G := ⟨_, rfl⟩
    rw [hG] at hge hcm
    have hr2 : ∀ ty, ∃ W, (Builtin.append_ #[54, 3] ty #[.slice none 0 0, .int .i64 (k : Int)]).run Tryz.prog w = .ok (.slice (some ⟨w.heap.size, 0, none⟩) k G) W ∧ W.ownsRow w.heap.size 41 2 (.slice (some ⟨w.heap.size, 0, none⟩) 0 G) 0 [] ∧ Below w.heap.size w W := fun ty => by
      have h := hr ty
      rw [hG] at h
      refine ⟨_, h, ?_, (Below.refl _ _).drew.alloc (Nat.le_refl _) _⟩
      refine ⟨rfl, .inr ⟨w.heap.size, G, _, rfl, Nat.le_refl _, heap_alloc_new w.drew _, by omega, hcm, ?_, rfl⟩⟩
      simp only [Array.size_append, size_zeroCells]
      rw [← Nat.add_mul]
      show (k + (G - k)) * 2 = G * 2
      omega
    obtain ⟨W, hrun, hown, hbel⟩ := hr2 54
    have HO := hidb hown
    have HB := hidb hbel
    have hk1 : (0 : Int) < (k : Int) := by omega
    clear hr hr2 hG hown hbel
    go_enter Tryz.func69, Tryz.ntmps69
    go_wp2_with (first | (at_builtin; refine Lib.wpList_append_run _ rfl _ _ _ _ rfl _ _ rfl rfl _ _ hrun ?_))
    go_ret
    exact ⟨_, _, rfl, HO.out, HB.out⟩

set_option maxRecDepth 100000 in
set_option maxHeartbeats 2000000 in
theorem code_concat (N : Nat) (A1 A2 : Option Addr) (n1 c1 n2 c2 : Nat) (rs1 rs2 : List (Int × Int)) (w : World) (hN : N < w.heap.size) (h0 : w.cell? ⟨N, 0, none⟩ = some (.slice A1 n1 c1)) (h1 : w.cell? ⟨N, 1, none⟩ = some (.slice A2 n2 c2))
    (hs1 : Rn w w.heap.size A1 n1 rs1) (hs2 : Rn w w.heap.size A2 n2 rs2) (hn1 : n1 ≤ 65536) (hn2 : n2 ≤ 65536) :
    Calls Tryz.prog 48 #[.slice (some ⟨N, 0, none⟩) 2 2] w (OwnRuns w (rs1 ++ rs2)) := by
  obtain ⟨i0, hi, hz0, hz1, hz2⟩ := info_parts info_run
  have l1 : rs1.length = n1 := hs1.1
  have l2 : rs2.length = n2 := hs2.1
  have cg := code_grow (n1 + n2) w (by omega)
  rw [Int.natCast_add] at cg
  have nil0 : ∀ (A : Option Addr) (n : Nat) (rs : List (Int × Int)), Rn w w.heap.size A n rs → A = none → n = 0 := fun A n rs hs e => by
    refine Nat.eq_zero_of_not_pos fun h => ?_
    obtain ⟨b, off, e2, _⟩ := hs.2 h
    rw [e] at e2; cases e2
  have HA1 : Hid (A1 = none → n1 = 0) := hidb (fun e => nil0 A1 n1 rs1 hs1 e)
  have HA2 : Hid (A2 = none → n2 = 0) := hidb (fun e => nil0 A2 n2 rs2 hs2 e)
  have HC1 : Hid (∀ W, Below w.heap.size w W → CellsAt W A1 (rcells rs1)) := hidb (fun W hb => (hs1.below hb).cells_)
  have HC2 : Hid (∀ W, Below w.heap.size w W → CellsAt W A2 (rcells rs2)) := hidb (fun W hb => (hs2.below hb).cells_)
  have HQ : Hid (∀ W, Below w.heap.size w W → W.cell? ⟨N, 0, none⟩ = some (.slice A1 n1 c1) ∧ W.cell? ⟨N, 1, none⟩ = some (.slice A2 n2 c2)) := hidb (fun W hb => by
    rw [hb.cell (p := ⟨N, 0, none⟩) hN, hb.cell (p := ⟨N, 1, none⟩) hN]; exact ⟨h0, h1⟩)
  have HL1 := hidb l1
  have HL2 := hidb l2
  have o1 := hidb (rcells_one rs1)
  have o2 := hidb (rcells_one rs2)
  clear hs1 hs2 l1 l2 nil0
  go_enter Tryz.func48, Tryz.ntmps48
  go_wp2
  refine wp_loop_rounds 3 ?_
  rw [rounds_succ]
  go_wp2
  rw [rounds_succ]
  go_wp2
  rw [rounds_succ]
  go_wp2_with (first | (go_at_call 69; (with_reducible refine cg.mono ?_); rintro e w1 ⟨A3, c3, rfl, hown3, hb3⟩; obtain ⟨q0, q1⟩ := HQ.out _ hb3))
  have HO3 := hidb hown3
  have HB3 := hidb hb3
  clear hown3 hb3
  refine wp_loop_rounds 3 ?_
  rw [rounds_succ]
  go_wp2_with (first | (at_builtin; refine wpList_append_rowN _ rfl (.tmp 31) (.tmp 32) 54 rfl w.heap.size 41 i0 (.agg #[.int .i64 0, .int .i64 0]) 2 16 Tryz.underlying54 hi hz0 hz1 hz2 rfl (by decide) _ 0 [] rfl HO3.out HB3.out.size A1 n1 c1 (rcells rs1) rfl (by rw [rcells_length, HL1.out]) HA1.out (HC1.out _ HB3.out) o1.out (by unfold maxLen; omega) (by omega) ?_; intro A4 c4 w4 hown4 hg4))
  rw [Nat.zero_add, List.nil_append] at hown4
  have HO4 := hidb hown4
  have HB4 : Hid (Below w.heap.size w w4) := hidb (HB3.out.grown hg4 HB3.out.size (fun k hk => (HO3.out.lt k hk).1))
  obtain ⟨r0, r1⟩ := HQ.out _ HB4.out
  clear hown4 hg4
  rw [rounds_succ]
  go_wp2_with (first | (at_builtin; refine wpList_append_rowN _ rfl (.tmp 31) (.tmp 32) 54 rfl w.heap.size 41 i0 (.agg #[.int .i64 0, .int .i64 0]) 2 16 Tryz.underlying54 hi hz0 hz1 hz2 rfl (by decide) _ n1 (rcells rs1) rfl HO4.out HB4.out.size A2 n2 c2 (rcells rs2) rfl (by rw [rcells_length, HL2.out]) HA2.out (HC2.out _ HB4.out) o2.out (by unfold maxLen; omega) (by omega) ?_; intro A5 c5 w5 hown5 hg5))
  have HO5 := hidb hown5
  have HB5 : Hid (Below w.heap.size w w5) := hidb (HB4.out.grown hg5 HB4.out.size (fun k hk => (HO4.out.lt k hk).1))
  clear hown5 hg5
  rw [rounds_succ]
  go_wp2
  go_ret
  refine ⟨A5, c5, ?_, ?_, HB5.out⟩
  · rw [List.length_append, HL1.out, HL2.out]; rfl
  · rw [List.length_append, HL1.out, HL2.out, rcells_append]; exact HO5.out

end Go.Proofs.YtcngcibiibchiaaGreat

/- The document's own answer on which large stacks there are. -/
import Derived.Test.YtonmkanppapjjaaGreatLargeFns
namespace Go.Proofs.YtonmkanppapjjaaGreat
open Go.RowKit
set_option linter.unusedVariables false

theorem ref_power (n : Int) (w : World) (h0 : -9223372036854775808 ≤ n) (h1 : n ≤ 9223372036854775807) :
    Calls Tryz.prog 93 #[.int .i64 n] w fun e w' => e = .returned (.bool (isB n)) ∧ w = w' := by
  go_enter Tryz.func93, Tryz.ntmps93
  go_wp2
  go_loop [0] (fun x => ∃ m : Int, -9223372036854775808 ≤ m ∧ m ≤ 9223372036854775807 ∧ Hid (isB m = isB n) ∧ x = .int .i64 m) (fun x => (intOf x).toNat)
  case atStart => exact ⟨n, h0, h1, hidb rfl, rfl⟩
  case round =>
    obtain ⟨m, hm0, hm1, HM, rfl⟩ := hrel
    by_cases h1 : 1 < m
    · by_cases h2 : m % 2 = 0
      · go_wp2
        go_round
        case rel => exact ⟨m / 2, by omega, by omega, hidb ((isB_half m h1 h2).trans HM.out), rfl⟩
        case measure => simp [intOf]; omega
      · have E : Hid (decide (m = 1) = isB n) := hidb ((isB_end m (by omega)).symm.trans HM.out)
        have h3 : (m == 1) = false := by simp; omega
        go_wp2
        go_ret
        exact ⟨congrArg Ending.returned (congrArg Value.bool (by rw [← E.out]; simp; omega)), rfl⟩
    · have E : Hid (decide (m = 1) = isB n) := hidb ((isB_end m (by omega)).symm.trans HM.out)
      go_wp2
      go_ret
      exact ⟨congrArg Ending.returned (congrArg Value.bool (by rw [← E.out]; rfl)), rfl⟩

/-- The sizes up to 1024 pages. -/
theorem fits_small {n : Int} (h : lFits n = true) (hn : n ≤ 1024) : n = 4 ∨ n = 8 ∨ n = 16 ∨ n = 32 ∨ n = 64 ∨ n = 128 ∨ n = 256 ∨ n = 512 ∨ n = 1024 := by
  unfold lFits isB at h
  rw [Bool.and_eq_true, decide_eq_true_iff, decide_eq_true_iff] at h
  obtain ⟨h4, _, e⟩ := h
  have hl : Nat.log2 n.toNat < 11 := by
    refine Nat.not_le.1 fun c => ?_
    have : 2 ^ 11 ≤ 2 ^ Nat.log2 n.toNat := Nat.pow_le_pow_right (by omega) c
    omega
  generalize Nat.log2 n.toNat = k at e hl
  match k, hl with
  | 0, _ => omega
  | 1, _ => omega
  | 2, _ => omega
  | 3, _ => omega
  | 4, _ => omega
  | 5, _ => omega
  | 6, _ => omega
  | 7, _ => omega
  | 8, _ => omega
  | 9, _ => omega
  | 10, _ => omega
theorem fits_those : lFits 4 = true ∧ lFits 8 = true ∧ lFits 16 = true ∧ lFits 32 = true ∧ lFits 64 = true ∧ lFits 128 = true ∧ lFits 256 = true ∧ lFits 512 = true ∧ lFits 1024 = true := by decide +kernel
theorem fits_great {n : Int} (h : 1024 < n) : lFits n = isB n := by
  unfold lFits
  rw [decide_eq_true (by omega), Bool.true_and]

set_option maxRecDepth 100000 in
set_option maxHeartbeats 1000000 in
theorem ref_fits (n : Int) (w : World) (hn : in64 n) : Calls Tryz.prog 41 #[.int .i64 n] w fun e w' => e = .returned (.bool (lFits n)) ∧ w = w' := by
  obtain ⟨h0, h1⟩ := hn
  obtain ⟨f4, f8, f16, f32, f64, f128, f256, f512, f1024⟩ := fits_those
  by_cases c : n = 4 ∨ n = 8 ∨ n = 16 ∨ n = 32 ∨ n = 64 ∨ n = 128 ∨ n = 256 ∨ n = 512 ∨ n = 1024
  · rcases c with rfl | rfl | rfl | rfl | rfl | rfl | rfl | rfl | rfl
    all_goals
      first
        | rw [f4] | rw [f8] | rw [f16] | rw [f32] | rw [f64] | rw [f128] | rw [f256] | rw [f512] | rw [f1024]
      clear f4 f8 f16 f32 f64 f128 f256 f512 f1024
      go_enter Tryz.func41, Tryz.ntmps41
      go_wp2
      refine wp_loop_rounds 11 ?_
      first
        | (rw [rounds_succ]; go_wp2; go_ret; exact ⟨rfl, rfl⟩)
        | (rw [rounds_succ]; go_wp2; rw [rounds_succ]; go_wp2; go_ret; exact ⟨rfl, rfl⟩)
        | (rw [rounds_succ]; go_wp2; rw [rounds_succ]; go_wp2; rw [rounds_succ]; go_wp2; go_ret; exact ⟨rfl, rfl⟩)
        | (rw [rounds_succ]; go_wp2; rw [rounds_succ]; go_wp2; rw [rounds_succ]; go_wp2; rw [rounds_succ]; go_wp2; go_ret; exact ⟨rfl, rfl⟩)
        | (rw [rounds_succ]; go_wp2; rw [rounds_succ]; go_wp2; rw [rounds_succ]; go_wp2; rw [rounds_succ]; go_wp2; rw [rounds_succ]; go_wp2; go_ret; exact ⟨rfl, rfl⟩)
        | (rw [rounds_succ]; go_wp2; rw [rounds_succ]; go_wp2; rw [rounds_succ]; go_wp2; rw [rounds_succ]; go_wp2; rw [rounds_succ]; go_wp2; rw [rounds_succ]; go_wp2; go_ret; exact ⟨rfl, rfl⟩)
        | (rw [rounds_succ]; go_wp2; rw [rounds_succ]; go_wp2; rw [rounds_succ]; go_wp2; rw [rounds_succ]; go_wp2; rw [rounds_succ]; go_wp2; rw [rounds_succ]; go_wp2; rw [rounds_succ]; go_wp2; go_ret; exact ⟨rfl, rfl⟩)
        | (rw [rounds_succ]; go_wp2; rw [rounds_succ]; go_wp2; rw [rounds_succ]; go_wp2; rw [rounds_succ]; go_wp2; rw [rounds_succ]; go_wp2; rw [rounds_succ]; go_wp2; rw [rounds_succ]; go_wp2; rw [rounds_succ]; go_wp2; go_ret; exact ⟨rfl, rfl⟩)
        | (rw [rounds_succ]; go_wp2; rw [rounds_succ]; go_wp2; rw [rounds_succ]; go_wp2; rw [rounds_succ]; go_wp2; rw [rounds_succ]; go_wp2; rw [rounds_succ]; go_wp2; rw [rounds_succ]; go_wp2; rw [rounds_succ]; go_wp2; rw [rounds_succ]; go_wp2; go_ret; exact ⟨rfl, rfl⟩)
  · have d4 : ((4 : Int) == n) = false := by simp; omega
    have d8 : ((8 : Int) == n) = false := by simp; omega
    have d16 : ((16 : Int) == n) = false := by simp; omega
    have d32 : ((32 : Int) == n) = false := by simp; omega
    have d64 : ((64 : Int) == n) = false := by simp; omega
    have d128 : ((128 : Int) == n) = false := by simp; omega
    have d256 : ((256 : Int) == n) = false := by simp; omega
    have d512 : ((512 : Int) == n) = false := by simp; omega
    have d1024 : ((1024 : Int) == n) = false := by simp; omega
    by_cases hg : 1024 < n
    · rw [fits_great hg]
      have cp := fun W => ref_power n W h0 h1
      obtain ⟨r, hr⟩ : ∃ r, isB n = r := ⟨_, rfl⟩
      rw [hr] at cp ⊢
      clear c hr f4 f8 f16 f32 f64 f128 f256 f512 f1024
      go_enter Tryz.func41, Tryz.ntmps41
      go_wp2
      refine wp_loop_rounds 11 ?_
      iterate 9 (rw [rounds_succ]; go_wp2)
      rw [rounds_succ]
      go_wp2_with (go_at_call 93; (with_reducible refine (cp _).mono ?_); rintro e w1 ⟨rfl, rfl⟩)
      go_ret
      exact ⟨rfl, rfl⟩
    · have e : lFits n = false := by
        cases h : lFits n with
        | false => rfl
        | true => exact absurd (fits_small h (by omega)) c
      rw [e]
      clear c e f4 f8 f16 f32 f64 f128 f256 f512 f1024
      go_enter Tryz.func41, Tryz.ntmps41
      go_wp2
      refine wp_loop_rounds 11 ?_
      iterate 9 (rw [rounds_succ]; go_wp2)
      rw [rounds_succ]
      go_wp2
      go_ret
      exact ⟨rfl, rfl⟩

end Go.Proofs.YtonmkanppapjjaaGreat

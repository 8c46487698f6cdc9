/- What 'Below' of layer 2 (float) returns of any number of floats; memory is as it was. -/
import Derived.Test.YtcjdmkjcpelakaaDoorFloatCode
import Derived.Lib.Slices
import Derived.Lib.Walk
namespace Go.Proofs.YtcjdmkjcpelakaaDoor
open Go.RowKit
set_option linter.unusedVariables false

theorem below_fn (n : Nat) (w : World) (h : n < 18446744073709551616) :
    Calls Tryd.prog 15 #[.int .u64 (n : Int)] w fun e w' => e = .returned (.bool (!fNeg n)) ∧ w = w' := by
  have hs := and_sign n h
  go_enter Tryd.func15, Tryd.ntmps15
  go_wp2
  go_ret
  exact ⟨congrArg Ending.returned (congrArg Value.bool (by first | rfl | exact hs)), rfl⟩

/-- The place of the first number that is not below; -1. -/
theorem bindex_cells (b off n c : Nat) (zs : List Nat) (w : World) (hz : zs.length = n) (hbig : n ≤ 9223372036854775807) (hi : ∀ j, j < n → zs.getD j 0 < 18446744073709551616) (hc : ∀ j, j < n → w.cell? ⟨b, off + j, none⟩ = some (.int .u64 ((zs.getD j 0 : Nat) : Int))) :
    Calls Tryd.prog 21 #[.slice (some ⟨b, off, none⟩) n c, .func (.func 15) #[] #[]] w fun e w' => (∃ r : Int, e = .returned (.int .i64 r) ∧ -1 ≤ r ∧ r ≤ 9223372036854775807 ∧ decide (0 ≤ r) = !zs.all fNeg) ∧ w = w' := by
  have HC := hidf hc; clear hc
  have HI := hidf hi; clear hi
  have HZ := hidf hz; clear hz
  go_enter Tryd.func21, Tryd.ntmps21
  go_wp2
  go_loop [8] (fun k => ∃ j : Nat, j ≤ n ∧ Hid (∀ i, i < j → fNeg (zs.getD i 0) = true) ∧ k = .int .i64 j) (fun k => (n - intOf k).toNat)
  case atStart => exact ⟨0, by omega, hidf (fun i h => absurd h (Nat.not_lt_zero _)), rfl⟩
  case round =>
    obtain ⟨j, hj, HA, rfl⟩ := hrel
    by_cases hlt : j < n
    · have hcell := HC.out j hlt
      have hb := HI.out j hlt
      have HD : Hid (zs.getD j 0 ∈ zs) := hidf (by
        have := HZ.out
        rw [List.getD_eq_getElem?_getD, List.getElem?_eq_getElem (by omega)]; exact List.getElem_mem (by omega))
      obtain ⟨z, HE⟩ : ∃ z, Hid (zs.getD j 0 = z) := ⟨_, hidf rfl⟩
      rw [HE.out] at hcell hb HD
      have hcon := below_fn z w hb
      cases hB : fNeg z with
      | true =>
        have HB := hidf hB
        rw [hB] at hcon
        clear hB
        go_wp2_with (go_at_call 15; refine hcon.mono ?_; rintro e w' ⟨rfl, rfl⟩)
        go_round
        case rel =>
          refine ⟨j + 1, by omega, hidf (fun i hi => ?_), by go_num⟩
          by_cases h : i = j
          · subst h; rw [HE.out]; exact HB.out
          · exact HA.out i (by omega)
        case measure => simp [intOf]; omega
      | false =>
        have HB := hidf hB
        rw [hB] at hcon
        clear hB
        go_wp2_with (go_at_call 15; refine hcon.mono ?_; rintro e w' ⟨rfl, rfl⟩)
        go_ret
        refine ⟨⟨(j : Int), rfl, by omega, by omega, ?_⟩, rfl⟩
        have hall : zs.all fNeg = false := by
          rw [List.all_eq_false]; exact ⟨z, HD.out, by rw [HB.out]; simp⟩
        rw [hall]; exact decide_eq_true (by omega)
    · have : j = n := by omega
      subst this
      go_wp2
      go_ret
      refine ⟨⟨-1, rfl, by omega, by omega, ?_⟩, rfl⟩
      have hall : zs.all fNeg = true := by
        rw [List.all_eq_true]
        intro x hx
        obtain ⟨i, hi, rfl⟩ := List.getElem_of_mem hx
        have := HA.out i (by have := HZ.out; omega)
        rwa [List.getD_eq_getElem?_getD, List.getElem?_eq_getElem hi] at this
      rw [hall]; exact decide_eq_false (by omega)

theorem bindex_empty (a : Option Addr) (c : Nat) (w : World) :
    Calls Tryd.prog 21 #[.slice a 0 c, .func (.func 15) #[] #[]] w fun e w' => e = .returned (.int .i64 (-1)) ∧ w = w' := by
  go_enter Tryd.func21, Tryd.ntmps21
  go_wp2
  go_loop [8] (fun k => k = .int .i64 0) (fun _ => 0)
  case atStart => rfl
  case round =>
    subst hrel
    go_wp2
    go_ret
    exact ⟨rfl, rfl⟩

theorem bcontains_cells (b off n c : Nat) (zs : List Nat) (w : World) (hz : zs.length = n) (hbig : n ≤ 9223372036854775807) (hi : ∀ j, j < n → zs.getD j 0 < 18446744073709551616) (hc : ∀ j, j < n → w.cell? ⟨b, off + j, none⟩ = some (.int .u64 ((zs.getD j 0 : Nat) : Int))) :
    Calls Tryd.prog 14 #[.slice (some ⟨b, off, none⟩) n c, .func (.func 15) #[] #[]] w fun e w' => e = .returned (.bool (!zs.all fNeg)) ∧ w = w' := by
  have hcon := bindex_cells b off n c zs w hz hbig hi hc
  clear hc hi hz
  generalize (!zs.all fNeg) = r at hcon ⊢
  go_enter Tryd.func14, Tryd.ntmps14
  go_wp2_with (go_at_call 21; refine hcon.mono ?_; rintro e w' ⟨⟨k, rfl, hk0, hk1, hk2⟩, rfl⟩)
  go_ret
  exact ⟨congrArg Ending.returned (congrArg Value.bool (by first | rfl | assumption)), rfl⟩

theorem bcontains_empty (a : Option Addr) (c : Nat) (w : World) :
    Calls Tryd.prog 14 #[.slice a 0 c, .func (.func 15) #[] #[]] w fun e w' => e = .returned (.bool false) ∧ w = w' := by
  go_enter Tryd.func14, Tryd.ntmps14
  go_wp2_with (go_at_call 21; refine (bindex_empty _ _ _).mono ?_; rintro e w' ⟨rfl, rfl⟩)
  go_ret
  exact ⟨rfl, rfl⟩

theorem float_below_cells (b off n c : Nat) (zs : List Nat) (w : World) (hz : zs.length = n) (hbig : n ≤ 9223372036854775807) (hi : ∀ j, j < n → zs.getD j 0 < 18446744073709551616) (hc : ∀ j, j < n → w.cell? ⟨b, off + j, none⟩ = some (.int .u64 ((zs.getD j 0 : Nat) : Int))) :
    Calls Tryd.prog 7 #[.slice (some ⟨b, off, none⟩) n c] w fun e w' => e = .returned (.bool (zs.all fNeg)) ∧ w = w' := by
  have hcon := bcontains_cells b off n c zs w hz hbig hi hc
  clear hc hi hz
  generalize zs.all fNeg = r at hcon ⊢
  go_enter Tryd.func7, Tryd.ntmps7
  go_wp2_with (go_at_call 14; refine hcon.mono ?_; rintro e w' ⟨rfl, rfl⟩)
  go_ret
  exact ⟨by simp, rfl⟩

theorem float_below_empty (a : Option Addr) (c : Nat) (w : World) :
    Calls Tryd.prog 7 #[.slice a 0 c] w fun e w' => e = .returned (.bool true) ∧ w = w' := by
  go_enter Tryd.func7, Tryd.ntmps7
  go_wp2_with (go_at_call 14; refine (bcontains_empty _ _ _).mono ?_; rintro e w' ⟨rfl, rfl⟩)
  go_ret
  exact ⟨rfl, rfl⟩

theorem float_below_one (b n : Nat) (w : World) (h : n < 18446744073709551616) (hc : w.cell? ⟨b, 0, none⟩ = some (.int .u64 (n : Int))) :
    Calls Tryd.prog 7 #[.slice (some ⟨b, 0, none⟩) 1 1] w fun e w' => e = .returned (.bool (fNeg n)) ∧ w = w' := by
  have h := float_below_cells b 0 1 1 [n] w rfl (by omega) (fun j hj => by obtain rfl : j = 0 := by omega
                                                                           exact h) (fun j hj => by obtain rfl : j = 0 := by omega
                                                                                                    exact hc)
  simpa using h

end Go.Proofs.YtcjdmkjcpelakaaDoor

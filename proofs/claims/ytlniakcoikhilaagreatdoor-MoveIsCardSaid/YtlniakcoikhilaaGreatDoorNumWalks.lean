/- What each function of layer 1 (num), and of the document's own answers to it, returns: for every argument of its type; memory is as it was, but for draws. -/
import Derived.Test.YtlniakcoikhilaaGreatDoorNumMath
import Derived.Test.YtlniakcoikhilaaGreatDoorBits
import Derived.Test.YtlniakcoikhilaaGreatDoorProg
import Derived.WalkKit
import Derived.ProofKit
import Derived.Lib.Strings
import Derived.Lib.Slices
import Derived.Lib.Small
import Derived.Lib.Walk
namespace Go.Proofs.YtlniakcoikhilaaGreatDoor
open Go.RowKit
set_option linter.unusedVariables false

/-- A fact that the walk doesn't take for a rule. -/
theorem hidd {p : Prop} (h : p) : Hid p := h

theorem len8_wrap (c i : Int) (hc : 0 ≤ c ∧ c ≤ 56) (h0 : 0 ≤ i) (h1 : i < 256) (h : i.toNat < Lib.len8tab.size) :
    wrap64 (c + wrap64 ((Lib.len8tab[i.toNat]'h).toNat : Int)) = c + (Lib.bitLen i.toNat : Int) := by
  have e := Lib.len8_of i h0 (by omega)
  have l := Lib.bitLen_le8' i h0 (by omega)
  have e2 : ((Lib.len8tab[i.toNat]'h).toNat : Int) = (Lib.bitLen i.toNat : Int) := by
    rw [← e]; unfold Lib.len8; rw [getElem?_pos Lib.len8tab i.toNat h]; rfl
  rw [e2, IntWalk.wrap64_in (Lib.bitLen i.toNat : Int) (by omega), IntWalk.wrap64_in _ (by omega)]

theorem is_fn (n : Int) (w : World) (h0 : -9223372036854775808 ≤ n) (h1 : n ≤ 9223372036854775807) :
    Calls Tryz.prog 110 #[.int .i64 n] w fun e w' => e = .returned (.bool (!isB n)) ∧ w = w' := by
  by_cases hn : n < 1
  · have e : isB n = false := by unfold isB; exact decide_eq_false (by omega)
    rw [e]; clear e
    go_enter Tryz.func110, Tryz.ntmps110
    go_wp2
    go_ret
    exact ⟨rfl, rfl⟩
  · have E : Hid ((bits BinOp.and IntKind.i64 n (n - 1) != 0) = !isB n) := hidd (by
      obtain ⟨m, rfl⟩ : ∃ m : Nat, n = (m : Int) := ⟨n.toNat, by omega⟩
      rw [isB_and m (by omega), show ((m : Int) - 1) = ((m - 1 : Nat) : Int) by omega, bits_and_i64 _ _ (by omega) (by omega)]
      by_cases h : m &&& (m - 1) = 0
      · rw [h]; rfl
      · rw [decide_eq_false h]; simp; omega)
    go_enter Tryz.func110, Tryz.ntmps110
    go_wp2
    go_ret
    exact ⟨congrArg Ending.returned (congrArg Value.bool E.out), rfl⟩

/-- The place of the first number that is no power of two; -1. -/
theorem index_cells (b off n c : Nat) (zs : List Int) (w : World) (hz : zs.length = n) (hbig : n ≤ 9223372036854775807) (hi : ∀ j, j < n → -9223372036854775808 ≤ zs.getD j 0 ∧ zs.getD j 0 ≤ 9223372036854775807) (hc : ∀ j, j < n → w.cell? ⟨b, off + j, none⟩ = some (.int .i64 (zs.getD j 0))) :
    Calls Tryz.prog 92 #[.slice (some ⟨b, off, none⟩) n c, .func (.func 110) #[] #[]] w fun e w' => (∃ r : Int, e = .returned (.int .i64 r) ∧ -1 ≤ r ∧ r ≤ 9223372036854775807 ∧ decide (0 ≤ r) = !zs.all isB) ∧ w = w' := by
  have HC := hidd hc; clear hc
  have HI := hidd hi; clear hi
  have HZ := hidd hz; clear hz
  go_enter Tryz.func92, Tryz.ntmps92
  go_wp2
  go_loop [8] (fun k => ∃ j : Nat, j ≤ n ∧ Hid (∀ i, i < j → isB (zs.getD i 0) = true) ∧ k = .int .i64 j) (fun k => (n - intOf k).toNat)
  case atStart => exact ⟨0, by omega, hidd (fun i h => absurd h (Nat.not_lt_zero _)), rfl⟩
  case round =>
    obtain ⟨j, hj, HA, rfl⟩ := hrel
    by_cases hlt : j < n
    · have hcell := HC.out j hlt
      have hb := HI.out j hlt
      have HD : Hid (zs.getD j 0 ∈ zs) := hidd (by
        have := HZ.out
        rw [List.getD_eq_getElem?_getD, List.getElem?_eq_getElem (by omega)]; exact List.getElem_mem (by omega))
      obtain ⟨z, HE⟩ : ∃ z, Hid (zs.getD j 0 = z) := ⟨_, hidd rfl⟩
      rw [HE.out] at hcell hb HD
      obtain ⟨hb0, hb1⟩ := hb
      have hcon := is_fn z w hb0 hb1
      cases hB : isB z with
      | true =>
        have HB := hidd hB
        rw [hB] at hcon
        clear hB
        go_wp2_with (go_at_call 110; refine hcon.mono ?_; rintro e w' ⟨rfl, rfl⟩)
        go_round
        case rel =>
          refine ⟨j + 1, by omega, hidd (fun i hi => ?_), by go_num⟩
          by_cases h : i = j
          · subst h; rw [HE.out]; exact HB.out
          · exact HA.out i (by omega)
        case measure => simp [intOf]; omega
      | false =>
        have HB := hidd hB
        rw [hB] at hcon
        clear hB
        go_wp2_with (go_at_call 110; refine hcon.mono ?_; rintro e w' ⟨rfl, rfl⟩)
        go_ret
        refine ⟨⟨(j : Int), rfl, by omega, by omega, ?_⟩, rfl⟩
        have hall : zs.all isB = false := by
          rw [List.all_eq_false]; exact ⟨z, HD.out, by rw [HB.out]; simp⟩
        rw [hall]; exact decide_eq_true (by omega)
    · have : j = n := by omega
      subst this
      go_wp2
      go_ret
      refine ⟨⟨-1, rfl, by omega, by omega, ?_⟩, rfl⟩
      have hall : zs.all isB = true := by
        rw [List.all_eq_true]
        intro x hx
        obtain ⟨i, hi, rfl⟩ := List.getElem_of_mem hx
        have := HA.out i (by have := HZ.out; omega)
        rwa [List.getD_eq_getElem?_getD, List.getElem?_eq_getElem hi] at this
      rw [hall]; exact decide_eq_false (by omega)

theorem index_empty (a : Option Addr) (c : Nat) (w : World) :
    Calls Tryz.prog 92 #[.slice a 0 c, .func (.func 110) #[] #[]] w fun e w' => e = .returned (.int .i64 (-1)) ∧ w = w' := by
  go_enter Tryz.func92, Tryz.ntmps92
  go_wp2
  go_loop [8] (fun k => k = .int .i64 0) (fun _ => 0)
  case atStart => rfl
  case round =>
    subst hrel
    go_wp2
    go_ret
    exact ⟨rfl, rfl⟩

theorem contains_cells (b off n c : Nat) (zs : List Int) (w : World) (hz : zs.length = n) (hbig : n ≤ 9223372036854775807) (hi : ∀ j, j < n → -9223372036854775808 ≤ zs.getD j 0 ∧ zs.getD j 0 ≤ 9223372036854775807) (hc : ∀ j, j < n → w.cell? ⟨b, off + j, none⟩ = some (.int .i64 (zs.getD j 0))) :
    Calls Tryz.prog 73 #[.slice (some ⟨b, off, none⟩) n c, .func (.func 110) #[] #[]] w fun e w' => e = .returned (.bool (!zs.all isB)) ∧ w = w' := by
  have hcon := index_cells b off n c zs w hz hbig hi hc
  clear hc hi hz
  generalize (!zs.all isB) = r at hcon ⊢
  go_enter Tryz.func73, Tryz.ntmps73
  go_wp2_with (go_at_call 92; refine hcon.mono ?_; rintro e w' ⟨⟨k, rfl, hk0, hk1, hk2⟩, rfl⟩)
  go_ret
  exact ⟨congrArg Ending.returned (congrArg Value.bool (by first | rfl | assumption)), rfl⟩

theorem contains_empty (a : Option Addr) (c : Nat) (w : World) :
    Calls Tryz.prog 73 #[.slice a 0 c, .func (.func 110) #[] #[]] w fun e w' => e = .returned (.bool false) ∧ w = w' := by
  go_enter Tryz.func73, Tryz.ntmps73
  go_wp2_with (go_at_call 92; refine (index_empty _ _ _).mono ?_; rintro e w' ⟨rfl, rfl⟩)
  go_ret
  exact ⟨rfl, rfl⟩

theorem num_is_cells (b off n c : Nat) (zs : List Int) (w : World) (hz : zs.length = n) (hbig : n ≤ 9223372036854775807) (hi : ∀ j, j < n → -9223372036854775808 ≤ zs.getD j 0 ∧ zs.getD j 0 ≤ 9223372036854775807) (hc : ∀ j, j < n → w.cell? ⟨b, off + j, none⟩ = some (.int .i64 (zs.getD j 0))) :
    Calls Tryz.prog 104 #[.slice (some ⟨b, off, none⟩) n c] w fun e w' => e = .returned (.bool (zs.all isB)) ∧ w = w' := by
  have hcon := contains_cells b off n c zs w hz hbig hi hc
  clear hc hi hz
  generalize zs.all isB = r at hcon ⊢
  go_enter Tryz.func104, Tryz.ntmps104
  go_wp2_with (go_at_call 73; refine hcon.mono ?_; rintro e w' ⟨rfl, rfl⟩)
  go_ret
  exact ⟨by simp, rfl⟩

theorem num_is_empty (a : Option Addr) (c : Nat) (w : World) :
    Calls Tryz.prog 104 #[.slice a 0 c] w fun e w' => e = .returned (.bool true) ∧ w = w' := by
  go_enter Tryz.func104, Tryz.ntmps104
  go_wp2_with (go_at_call 73; refine (contains_empty _ _ _).mono ?_; rintro e w' ⟨rfl, rfl⟩)
  go_ret
  exact ⟨rfl, rfl⟩

/-- Of one number, that the caller has laid into a block of its own. -/
theorem num_is_one (b : Nat) (z : Int) (w : World) (h0 : -9223372036854775808 ≤ z) (h1 : z ≤ 9223372036854775807) (hc : w.cell? ⟨b, 0, none⟩ = some (.int .i64 z)) :
    Calls Tryz.prog 104 #[.slice (some ⟨b, 0, none⟩) 1 1] w fun e w' => e = .returned (.bool (isB z)) ∧ w = w' := by
  have h := num_is_cells b 0 1 1 [z] w rfl (by omega) (fun j hj => by obtain rfl : j = 0 := by omega
                                                                      exact ⟨h0, h1⟩) (fun j hj => by obtain rfl : j = 0 := by omega
                                                                                                      exact hc)
  simpa using h

theorem ref_is (n : Int) (w : World) (h0 : -9223372036854775808 ≤ n) (h1 : n ≤ 9223372036854775807) :
    Calls Tryz.prog 48 #[.int .i64 n] w fun e w' => e = .returned (.bool (isB n)) ∧ w = w' := by
  go_enter Tryz.func48, Tryz.ntmps48
  go_wp2
  go_loop [0] (fun x => ∃ m : Int, -9223372036854775808 ≤ m ∧ m ≤ 9223372036854775807 ∧ Hid (isB m = isB n) ∧ x = .int .i64 m) (fun x => (intOf x).toNat)
  case atStart => exact ⟨n, h0, h1, hidd rfl, rfl⟩
  case round =>
    obtain ⟨m, hm0, hm1, HM, rfl⟩ := hrel
    by_cases h1 : 1 < m
    · by_cases h2 : m % 2 = 0
      · go_wp2
        go_round
        case rel => exact ⟨m / 2, by omega, by omega, hidd ((isB_half m h1 h2).trans HM.out), rfl⟩
        case measure => simp [intOf]; omega
      · have E : Hid (decide (m = 1) = isB n) := hidd ((isB_end m (by omega)).symm.trans HM.out)
        have h3 : (m == 1) = false := by simp; omega
        go_wp2
        go_ret
        exact ⟨congrArg Ending.returned (congrArg Value.bool (by rw [← E.out]; simp; omega)), rfl⟩
    · have E : Hid (decide (m = 1) = isB n) := hidd ((isB_end m (by omega)).symm.trans HM.out)
      go_wp2
      go_ret
      exact ⟨congrArg Ending.returned (congrArg Value.bool (by rw [← E.out]; rfl)), rfl⟩

end Go.Proofs.YtlniakcoikhilaaGreatDoor

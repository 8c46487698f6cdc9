/- What the functions of layer 2 (float) on any number of floats return, and the order; memory is as it was, but for draws and new blocks. -/
import Derived.Test.YtcjdmkjcpelakaaFloatCode
import Derived.Lib.Slices
import Derived.Lib.Walk
namespace Go.Proofs.Ytcjdmkjcpelakaa
open Go.RowKit
set_option linter.unusedVariables false

theorem below_fn (n : Nat) (w : World) (h : n < 18446744073709551616) :
    Calls Try.prog 26 #[.int .u64 (n : Int)] w fun e w' => e = .returned (.bool (!fNeg n)) ∧ w = w' := by
  have hs := and_sign n h
  go_enter Try.func26, Try.ntmps26
  go_wp2
  go_ret
  exact ⟨congrArg Ending.returned (congrArg Value.bool (by first | rfl | exact hs)), rfl⟩

/-- The place of the first number that is not below; -1. -/
theorem bindex_cells (b off n c : Nat) (zs : List Nat) (w : World) (hz : zs.length = n) (hbig : n ≤ 9223372036854775807) (hi : ∀ j, j < n → zs.getD j 0 < 18446744073709551616) (hc : ∀ j, j < n → w.cell? ⟨b, off + j, none⟩ = some (.int .u64 ((zs.getD j 0 : Nat) : Int))) :
    Calls Try.prog 48 #[.slice (some ⟨b, off, none⟩) n c, .func (.func 26) #[] #[]] w fun e w' => (∃ r : Int, e = .returned (.int .i64 r) ∧ -1 ≤ r ∧ r ≤ 9223372036854775807 ∧ decide (0 ≤ r) = !zs.all fNeg) ∧ w = w' := by
  have HC := hidf hc; clear hc
  have HI := hidf hi; clear hi
  have HZ := hidf hz; clear hz
  go_enter Try.func48, Try.ntmps48
  go_wp2
  go_loop [8] (fun k => ∃ j : Nat, j ≤ n ∧ Hid (∀ i, i < j → fNeg (zs.getD i 0) = true) ∧ k = .int .i64 j) (fun k => (n - intOf k).toNat)
  case atStart => exact ⟨0, by omega, hidf (fun i h => absurd h (Nat.not_lt_zero _)), rfl⟩
  case round =>
    obtain ⟨j, hj, HA, rfl⟩ := hrel
    by_cases hlt : j < n
    · have hcell := HC.out j hlt
      have hb := HI.out j hlt
      have HD : Hid (zs.getD j 0 ∈ zs) := hidf (by
        have := HZ.out
        rw [List.getD_eq_getElem?_getD, List.getElem?_eq_getElem (by omega)]; exact List.getElem_mem (by omega))
      obtain ⟨z, HE⟩ : ∃ z, Hid (zs.getD j 0 = z) := ⟨_, hidf rfl⟩
      rw [HE.out] at hcell hb HD
      have hcon := below_fn z w hb
      cases hB : fNeg z with
      | true =>
        have HB := hidf hB
        rw [hB] at hcon
        clear hB
        go_wp2_with (go_at_call 26; refine hcon.mono ?_; rintro e w' ⟨rfl, rfl⟩)
        go_round
        case rel =>
          refine ⟨j + 1, by omega, hidf (fun i hi => ?_), by go_num⟩
          by_cases h : i = j
          · subst h; rw [HE.out]; exact HB.out
          · exact HA.out i (by omega)
        case measure => simp [intOf]; omega
      | false =>
        have HB := hidf hB
        rw [hB] at hcon
        clear hB
        go_wp2_with (go_at_call 26; refine hcon.mono ?_; rintro e w' ⟨rfl, rfl⟩)
        go_ret
        refine ⟨⟨(j : Int), rfl, by omega, by omega, ?_⟩, rfl⟩
        have hall : zs.all fNeg = false := by
          rw [List.all_eq_false]; exact ⟨z, HD.out, by rw [HB.out]; simp⟩
        rw [hall]; exact decide_eq_true (by omega)
    · have : j = n := by omega
      subst this
      go_wp2
      go_ret
      refine ⟨⟨-1, rfl, by omega, by omega, ?_⟩, rfl⟩
      have hall : zs.all fNeg = true := by
        rw [List.all_eq_true]
        intro x hx
        obtain ⟨i, hi, rfl⟩ := List.getElem_of_mem hx
        have := HA.out i (by have := HZ.out; omega)
        rwa [List.getD_eq_getElem?_getD, List.getElem?_eq_getElem hi] at this
      rw [hall]; exact decide_eq_false (by omega)

theorem bindex_empty (a : Option Addr) (c : Nat) (w : World) :
    Calls Try.prog 48 #[.slice a 0 c, .func (.func 26) #[] #[]] w fun e w' => e = .returned (.int .i64 (-1)) ∧ w = w' := by
  go_enter Try.func48, Try.ntmps48
  go_wp2
  go_loop [8] (fun k => k = .int .i64 0) (fun _ => 0)
  case atStart => rfl
  case round =>
    subst hrel
    go_wp2
    go_ret
    exact ⟨rfl, rfl⟩

theorem bcontains_cells (b off n c : Nat) (zs : List Nat) (w : World) (hz : zs.length = n) (hbig : n ≤ 9223372036854775807) (hi : ∀ j, j < n → zs.getD j 0 < 18446744073709551616) (hc : ∀ j, j < n → w.cell? ⟨b, off + j, none⟩ = some (.int .u64 ((zs.getD j 0 : Nat) : Int))) :
    Calls Try.prog 25 #[.slice (some ⟨b, off, none⟩) n c, .func (.func 26) #[] #[]] w fun e w' => e = .returned (.bool (!zs.all fNeg)) ∧ w = w' := by
  have hcon := bindex_cells b off n c zs w hz hbig hi hc
  clear hc hi hz
  generalize (!zs.all fNeg) = r at hcon ⊢
  go_enter Try.func25, Try.ntmps25
  go_wp2_with (go_at_call 48; refine hcon.mono ?_; rintro e w' ⟨⟨k, rfl, hk0, hk1, hk2⟩, rfl⟩)
  go_ret
  exact ⟨congrArg Ending.returned (congrArg Value.bool (by first | rfl | assumption)), rfl⟩

theorem bcontains_empty (a : Option Addr) (c : Nat) (w : World) :
    Calls Try.prog 25 #[.slice a 0 c, .func (.func 26) #[] #[]] w fun e w' => e = .returned (.bool false) ∧ w = w' := by
  go_enter Try.func25, Try.ntmps25
  go_wp2_with (go_at_call 48; refine (bindex_empty _ _ _).mono ?_; rintro e w' ⟨rfl, rfl⟩)
  go_ret
  exact ⟨rfl, rfl⟩

theorem float_below_cells (b off n c : Nat) (zs : List Nat) (w : World) (hz : zs.length = n) (hbig : n ≤ 9223372036854775807) (hi : ∀ j, j < n → zs.getD j 0 < 18446744073709551616) (hc : ∀ j, j < n → w.cell? ⟨b, off + j, none⟩ = some (.int .u64 ((zs.getD j 0 : Nat) : Int))) :
    Calls Try.prog 16 #[.slice (some ⟨b, off, none⟩) n c] w fun e w' => e = .returned (.bool (zs.all fNeg)) ∧ w = w' := by
  have hcon := bcontains_cells b off n c zs w hz hbig hi hc
  clear hc hi hz
  generalize zs.all fNeg = r at hcon ⊢
  go_enter Try.func16, Try.ntmps16
  go_wp2_with (go_at_call 25; refine hcon.mono ?_; rintro e w' ⟨rfl, rfl⟩)
  go_ret
  exact ⟨by simp, rfl⟩

theorem float_below_empty (a : Option Addr) (c : Nat) (w : World) :
    Calls Try.prog 16 #[.slice a 0 c] w fun e w' => e = .returned (.bool true) ∧ w = w' := by
  go_enter Try.func16, Try.ntmps16
  go_wp2_with (go_at_call 25; refine (bcontains_empty _ _ _).mono ?_; rintro e w' ⟨rfl, rfl⟩)
  go_ret
  exact ⟨rfl, rfl⟩


/-- What ranks bits. -/
def rankI (b : Nat) : Nat := if fNeg b then 18446744073709551615 - b else fRung b + 9223372036854775808

theorem float_below_one (b n : Nat) (w : World) (h : n < 18446744073709551616) (hc : w.cell? ⟨b, 0, none⟩ = some (.int .u64 (n : Int))) :
    Calls Try.prog 16 #[.slice (some ⟨b, 0, none⟩) 1 1] w fun e w' => e = .returned (.bool (fNeg n)) ∧ w = w' := by
  have h := float_below_cells b 0 1 1 [n] w rfl (by omega) (fun j hj => by obtain rfl : j = 0 := by omega
                                                                           exact h) (fun j hj => by obtain rfl : j = 0 := by omega
                                                                                                    exact hc)
  simpa using h

theorem float_rank (b : Nat) (w : World) (h : b < 18446744073709551616) :
    Calls Try.prog 24 #[.int .u64 (b : Int)] w fun e w' => e = .returned (.int .u64 ((rankI b : Nat) : Int)) ∧ w' = w.alloc (.cells #[.int .u64 (b : Int)] 22) := by
  have hb := float_below_one w.heap.size b (w.alloc (.cells #[.int .u64 (b : Int)] 22)) h (by simp)
  have ho := or_sign b h
  have hn := bits_not_u64 b h
  have hu : IntKind.u64.signed = false := rfl
  have hr : rankI b = if fNeg b then 18446744073709551615 - b else fRung b + 9223372036854775808 := rfl
  cases g : fNeg b
  · rw [g] at hr hb
    simp only [Bool.false_eq_true, if_false] at hr
    rw [hr]
    clear g hr
    go_enter Try.func24, Try.ntmps24
    go_wp2_with (go_at_call 16; refine hb.mono ?_; rintro e w' ⟨rfl, rfl⟩)
    go_ret
    exact ⟨rfl, rfl⟩
  · rw [g] at hr hb
    simp only [if_true] at hr
    rw [hr]
    clear g hr
    go_enter Try.func24, Try.ntmps24
    go_wp2_with (go_at_call 16; refine hb.mono ?_; rintro e w' ⟨rfl, rfl⟩)
    go_ret
    exact ⟨rfl, rfl⟩

theorem compare_u64 (x y : Int) (w : World) :
    Calls Try.prog 23 #[.int .u64 x, .int .u64 y] w fun e w' => e = .returned (.int .i64 (if x < y then -1 else if y < x then 1 else 0)) ∧ w = w' := by
  by_cases h1 : x < y
  · rw [if_pos h1]
    go_enter Try.func23, Try.ntmps23
    go_wp2
    go_ret
    exact ⟨rfl, rfl⟩
  · rw [if_neg h1]
    have t1 : decide (x < y) = false := decide_eq_false h1
    by_cases h2 : y < x
    · rw [if_pos h2]
      clear h1
      go_enter Try.func23, Try.ntmps23
      go_wp2
      go_ret
      exact ⟨rfl, rfl⟩
    · rw [if_neg h2]
      have t2 : decide (y < x) = false := decide_eq_false h2
      clear h1 h2
      go_enter Try.func23, Try.ntmps23
      go_wp2
      go_ret
      exact ⟨rfl, rfl⟩

theorem rank_ord (a b : Nat) (ha : a < 18446744073709551616) (hb : b < 18446744073709551616) : (if (rankI a : Int) < (rankI b : Int) then (-1 : Int) else if (rankI b : Int) < (rankI a : Int) then 1 else 0) = fOrd a b := by
  have sa := of_sign a ha
  have sb := of_sign b hb
  have qa : fRung a < 9223372036854775808 := Nat.mod_lt _ (by omega)
  have qb : fRung b < 9223372036854775808 := Nat.mod_lt _ (by omega)
  unfold fOrd fPos rankI
  cases h1 : fNeg a <;> cases h2 : fNeg b <;> rw [h1] at sa <;> rw [h2] at sb <;> simp only [Bool.false_eq_true, if_false, if_true] at sa sb ⊢ <;> (repeat' split) <;> omega

theorem float_order (a b : Nat) (w : World) (ha : a < 18446744073709551616) (hb : b < 18446744073709551616) :
    Calls Try.prog 11 #[.int .u64 (a : Int), .int .u64 (b : Int)] w fun e w' => e = .returned (.int .i64 (fOrd a b)) ∧ w' = (w.alloc (.cells #[.int .u64 (a : Int)] 22)).alloc (.cells #[.int .u64 (b : Int)] 22) := by
  have ra := fun W => float_rank a W ha
  have rb := fun W => float_rank b W hb
  have cc := fun W => compare_u64 (rankI a) (rankI b) W
  simp only [rank_ord a b ha hb] at cc
  clear ha hb
  generalize fOrd a b = o at cc ⊢
  go_enter Try.func11, Try.ntmps11
  go_wp2_with (first
    | (go_at_call 24; first | ((with_reducible refine (ra _).mono ?_); rintro e w' ⟨rfl, rfl⟩) | ((with_reducible refine (rb _).mono ?_); rintro e w' ⟨rfl, rfl⟩))
    | (go_at_call 23; refine (cc _).mono ?_; rintro e w' ⟨rfl, rfl⟩))
  go_ret
  exact ⟨rfl, rfl⟩

theorem calc1_one (s z : Nat) (hs : s < 18446744073709551616) (hz : z < 18446744073709551616) : fCalc 1 (fOne s) z = fCalc 1 s z := by
  by_cases n : fCls s = 1
  · have e : fOne s = fNaN := by unfold fOne; rw [if_pos n]
    rw [e, ← calc_nan 1 s z hs hz (by simp) (Or.inl n), ← calc_nan 1 fNaN z (by decide) hz (by simp) (Or.inl (by decide))]
  · have e : fOne s = s := by unfold fOne; rw [if_neg n]
    rw [e]

/-- The sum of a row of cells. -/
theorem float_sum_cells (blk off n c : Nat) (zs : List Nat) (w : World) (hz : zs.length = n) (hbig : n ≤ 9223372036854775807) (hi : ∀ j, j < n → zs.getD j 0 < 18446744073709551616) (hc : ∀ j, j < n → w.cell? ⟨blk, off + j, none⟩ = some (.int .u64 ((zs.getD j 0 : Nat) : Int))) :
    Calls Try.prog 14 #[.slice (some ⟨blk, off, none⟩) n c] w fun e w' => e = .returned (.int .u64 ((fSum zs : Nat) : Int)) ∧ ∃ q, w' = w.drewN q := by
  have HC := hidf hc; clear hc
  have HI := hidf hi; clear hi
  have HZ := hidf hz; clear hz
  go_enter Try.func14, Try.ntmps14
  go_wp2
  go_loopw [3, 8] (fun v k wr => ∃ j q s : Nat, j ≤ n ∧ s < 18446744073709551616 ∧ Hid (fOne s = fSum (zs.take j)) ∧ v = .float .f64 s ∧ k = .int .i64 j ∧ wr = w.drewN q) (fun _ k _ => (n - intOf k).toNat)
  case atStart => exact ⟨0, 0, 0, by omega, by omega, hidf (by rw [List.take_zero]; decide), rfl, rfl, rfl⟩
  case round =>
    obtain ⟨j, q, s, hj, hs, HS, rfl, rfl, rfl⟩ := hrel
    by_cases hlt : j < n
    · have hcell := HC.out j hlt
      have hb := HI.out j hlt
      have HT : Hid (fSum (zs.take (j + 1)) = fCalc 1 (fSum (zs.take j)) (zs.getD j 0)) := hidf (by
        have hl : j < zs.length := by have := HZ.out; omega
        rw [List.take_succ_eq_append_getElem hl, fSum_snoc, List.getD_eq_getElem?_getD, List.getElem?_eq_getElem hl]; rfl)
      obtain ⟨z, HE⟩ : ∃ z, Hid (zs.getD j 0 = z) := ⟨_, hidf rfl⟩
      rw [HE.out] at hcell hb HT
      have HU : Hid (fSum (zs.take (j + 1)) = fCalc 1 s z) := hidf (by rw [HT.out, ← HS.out, calc1_one s z hs hb])
      have h2 := call_frombits z
      cases ho : Ieee.double.add s z with
      | some r =>
        have hr := arith_some .add 42 s z r ho
        have hl := Ieee.double.add_lt ho
        have HR : Hid (fOne r = fCalc 1 s z) := hidf (by rw [calc1, ho]; rfl)
        clear ho hs hb
        go_wp2
        go_roundw
        case rel => exact ⟨j + 1, _, r, by omega, by assumption, hidf (by rw [HU.out]; exact HR.out), rfl, by go_num, rfl⟩
        case measure => simp [intOf]; omega
      | none =>
        obtain ⟨m, hm, h1, hr⟩ := arith_none .add (by simp) 42 s z ho (w.drewN q)
        have HR : Hid (fOne m = fCalc 1 s z) := hidf (by rw [calc1, ho]; unfold fOne; rw [if_pos h1]; rfl)
        clear ho hs hb h1
        go_wp2
        go_roundw
        case rel => exact ⟨j + 1, _, m, by omega, by assumption, hidf (by rw [HU.out]; exact HR.out), rfl, by go_num, (World.drewN_drewN w q 1)⟩
        case measure => simp [intOf]; omega
    · have e : j = n := by omega
      have ht : zs.take j = zs := List.take_of_length_le (by have := HZ.out; omega)
      rw [ht] at HS
      subst e
      clear ht
      have hcon := fun W => float_bits s W hs
      go_wp2_with (go_at_call 18; refine (hcon _).mono ?_; rintro e w' ⟨rfl, rfl⟩)
      go_ret
      exact ⟨by rw [HS.out]; rfl, q, rfl⟩

theorem float_sum_empty (a : Option Addr) (c : Nat) (w : World) :
    Calls Try.prog 14 #[.slice a 0 c] w fun e w' => e = .returned (.int .u64 0) ∧ w = w' := by
  have hcon := fun W => float_bits 0 W (by omega)
  rw [show fOne 0 = 0 by decide] at hcon
  go_enter Try.func14, Try.ntmps14
  go_wp2
  go_loop [3, 8] (fun v k => v = .float .f64 0 ∧ k = .int .i64 0) (fun _ _ => 0)
  case atStart => exact ⟨rfl, rfl⟩
  case round =>
    obtain ⟨rfl, rfl⟩ := hrel
    go_wp2_with (go_at_call 18; refine (hcon _).mono ?_; rintro e w' ⟨rfl, rfl⟩)
    go_ret
    exact ⟨rfl, rfl⟩

end Go.Proofs.Ytcjdmkjcpelakaa

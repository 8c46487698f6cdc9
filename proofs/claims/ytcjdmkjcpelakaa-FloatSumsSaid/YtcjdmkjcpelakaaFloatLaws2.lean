/- The walks of layer 2's statements on the order, and on the sum of a row: each returns true, and leaves memory as it was, but for draws and new blocks. -/
import Derived.Test.YtcjdmkjcpelakaaFloatLaws
namespace Go.Proofs.Ytcjdmkjcpelakaa
open Go.RowKit
set_option linter.unusedVariables false

theorem ford_cases (a b : Nat) : fOrd a b = -1 ∨ fOrd a b = 0 ∨ fOrd a b = 1 := by unfold fOrd; split <;> (try split) <;> simp
theorem ford_swap (a b : Nat) : fOrd b a = -fOrd a b := by unfold fOrd; split <;> (try split) <;> (try split) <;> omega
theorem ford_same (a b : Nat) (ha : a < 18446744073709551616) (hb : b < 18446744073709551616) : fOrd a b = 0 ↔ a = b := by
  constructor
  · intro h
    refine fPos_inj a b ha hb ?_
    unfold fOrd at h; split at h <;> (try split at h) <;> omega
  · rintro rfl; unfold fOrd; rw [if_neg (by omega), if_neg (by omega)]
theorem ford_trans (a b c : Nat) (h1 : fOrd a b ≤ 0) (h2 : fOrd b c ≤ 0) : fOrd a c ≤ 0 := by
  unfold fOrd at h1 h2 ⊢
  split at h1 <;> (try split at h1) <;> split at h2 <;> (try split at h2) <;> split <;> (try split) <;> omega

/-- The order, with its answer as a number of Go's. -/
theorem order_of (a b : Nat) (o : Int) (ha : a < 18446744073709551616) (hb : b < 18446744073709551616) (h : fOrd a b = o) (w : World) :
    Calls Try.prog 11 #[.int .u64 (a : Int), .int .u64 (b : Int)] w fun e w' => e = .returned (.int .i64 o) ∧ w' = (w.alloc (.cells #[.int .u64 (a : Int)] 22)).alloc (.cells #[.int .u64 (b : Int)] 22) := by
  rw [← h]; exact float_order a b w ha hb
theorem rorder_of (a b : Nat) (o : Int) (ha : a < 18446744073709551616) (hb : b < 18446744073709551616) (h : fOrd a b = o) (w : World) :
    Calls Try.prog 12 #[.int .u64 (a : Int), .int .u64 (b : Int)] w fun e w' => e = .returned (.int .i64 o) ∧ w = w' := by
  rw [← h]; exact ref_ford a b w ha hb

set_option maxRecDepth 100000 in
theorem floatOrders_any (a b c : Nat) (w : World) (ha : a < 18446744073709551616) (hb : b < 18446744073709551616) (hc : c < 18446744073709551616) :
    Calls Try.prog 5 #[.int .u64 (a : Int), .int .u64 (b : Int), .int .u64 (c : Int)] w fun e w' => e = .returned (.bool true) ∧ Grown w w' := by
  obtain ⟨o2, h2⟩ : ∃ o, fOrd b c = o := ⟨_, rfl⟩
  obtain ⟨o3, h3⟩ : ∃ o, fOrd a c = o := ⟨_, rfl⟩
  have hs := ford_same a b ha hb
  have ht := ford_trans a b c
  have c2 := order_of b c o2 hb hc h2
  have c3 := order_of a c o3 ha hc h3
  rw [h2, h3] at ht
  rcases ford_cases a b with h | h | h
  · have c1 := order_of a b (-1) ha hb h
    have r1 := rorder_of a b (-1) ha hb h
    have c4 := order_of b a (1) hb ha (by (rw [ford_swap, h]) <;> rfl)
    rw [h] at ht hs
    have t0 : ((a : Int) == (b : Int)) = false := by simp; omega
    by_cases g2 : 0 < o2
    · clear ht hs h h2 h3 ha hb hc c3
      go_enter Try.func5, Try.ntmps5
      go_wp2_with (first
        | (go_at_call 11; first | ((with_reducible refine (c1 _).mono ?_); rintro e w' ⟨rfl, rfl⟩) | ((with_reducible refine (c2 _).mono ?_); rintro e w' ⟨rfl, rfl⟩) | ((with_reducible refine (c4 _).mono ?_); rintro e w' ⟨rfl, rfl⟩))
        | (go_at_call 12; (refine (r1 _).mono ?_); rintro e w' ⟨rfl, rfl⟩)
        | (go_at_call 9; refine (awake_any _).mono ?_; rintro e w' ⟨rfl, q3, rfl⟩))
      go_ret
      exact ⟨rfl, by (repeat (first | with_reducible exact Grown.refl _ | with_reducible apply grown_drewN | with_reducible apply Grown.alloc))⟩
    · have g3 : o3 ≤ 0 := ht (by omega) (by omega)
      have t2 : decide (0 < o2) = false := decide_eq_false g2
      clear ht hs h h2 h3 ha hb hc g2
      go_enter Try.func5, Try.ntmps5
      go_wp2_with (first
        | (go_at_call 11; first | ((with_reducible refine (c1 _).mono ?_); rintro e w' ⟨rfl, rfl⟩) | ((with_reducible refine (c2 _).mono ?_); rintro e w' ⟨rfl, rfl⟩) | ((with_reducible refine (c4 _).mono ?_); rintro e w' ⟨rfl, rfl⟩) | ((with_reducible refine (c3 _).mono ?_); rintro e w' ⟨rfl, rfl⟩))
        | (go_at_call 12; (refine (r1 _).mono ?_); rintro e w' ⟨rfl, rfl⟩)
        | (go_at_call 9; refine (awake_any _).mono ?_; rintro e w' ⟨rfl, q3, rfl⟩))
      go_ret
      exact ⟨rfl, by (repeat (first | with_reducible exact Grown.refl _ | with_reducible apply grown_drewN | with_reducible apply Grown.alloc))⟩
  · obtain rfl : a = b := hs.1 h
    have c1 := order_of a a 0 ha hb h
    have r1 := rorder_of a a 0 ha hb h
    rw [h] at ht
    obtain rfl : o2 = o3 := h2.symm.trans h3
    clear c3
    by_cases g2 : 0 < o2
    · clear ht hs h h2 h3 ha hb hc
      go_enter Try.func5, Try.ntmps5
      go_wp2_with (first
        | (go_at_call 11; first | ((with_reducible refine (c1 _).mono ?_); rintro e w' ⟨rfl, rfl⟩) | ((with_reducible refine (c2 _).mono ?_); rintro e w' ⟨rfl, rfl⟩))
        | (go_at_call 12; (refine (r1 _).mono ?_); rintro e w' ⟨rfl, rfl⟩)
        | (go_at_call 9; refine (awake_any _).mono ?_; rintro e w' ⟨rfl, q3, rfl⟩))
      go_ret
      exact ⟨rfl, by (repeat (first | with_reducible exact Grown.refl _ | with_reducible apply grown_drewN | with_reducible apply Grown.alloc))⟩
    · have g3 : o2 ≤ 0 := by omega
      have t2 : decide (0 < o2) = false := decide_eq_false g2
      clear ht hs h h2 h3 ha hb hc g2
      go_enter Try.func5, Try.ntmps5
      go_wp2_with (first
        | (go_at_call 11; first | ((with_reducible refine (c1 _).mono ?_); rintro e w' ⟨rfl, rfl⟩) | ((with_reducible refine (c2 _).mono ?_); rintro e w' ⟨rfl, rfl⟩))
        | (go_at_call 12; (refine (r1 _).mono ?_); rintro e w' ⟨rfl, rfl⟩)
        | (go_at_call 9; refine (awake_any _).mono ?_; rintro e w' ⟨rfl, q3, rfl⟩))
      go_ret
      exact ⟨rfl, by (repeat (first | with_reducible exact Grown.refl _ | with_reducible apply grown_drewN | with_reducible apply Grown.alloc))⟩
  · have c1 := order_of a b (1) ha hb h
    have r1 := rorder_of a b (1) ha hb h
    have c4 := order_of b a (-1) hb ha (by (rw [ford_swap, h]) <;> rfl)
    rw [h] at ht hs
    have t0 : ((a : Int) == (b : Int)) = false := by simp; omega
    clear ht hs h h2 h3 ha hb hc c3 c2
    go_enter Try.func5, Try.ntmps5
    go_wp2_with (first
      | (go_at_call 11; first | ((with_reducible refine (c1 _).mono ?_); rintro e w' ⟨rfl, rfl⟩) | ((with_reducible refine (c4 _).mono ?_); rintro e w' ⟨rfl, rfl⟩))
      | (go_at_call 12; (refine (r1 _).mono ?_); rintro e w' ⟨rfl, rfl⟩)
      | (go_at_call 9; refine (awake_any _).mono ?_; rintro e w' ⟨rfl, q3, rfl⟩))
    go_ret
    exact ⟨rfl, by (repeat (first | with_reducible exact Grown.refl _ | with_reducible apply grown_drewN | with_reducible apply Grown.alloc))⟩

theorem floatSums_long (a : Option Addr) (n c : Nat) (w : World) (hn : 100 < n) (hm : n ≤ 9223372036854775807) :
    Calls Try.prog 6 #[.slice a n c] w fun e w' => e = .returned (.bool true) ∧ Below w.heap.size w w' := by
  go_enter Try.func6, Try.ntmps6
  go_wp2_with (go_at_call 9; refine (awake_any _).mono ?_; rintro e w' ⟨rfl, q3, rfl⟩)
  go_ret
  exact ⟨rfl, below_drewN (Below.refl _ _) _⟩

theorem ref_fsum_empty (a : Option Addr) (c : Nat) (w : World) :
    Calls Try.prog 15 #[.slice a 0 c] w fun e w' => e = .returned (.int .u64 0) ∧ w = w' := by
  go_enter Try.func15, Try.ntmps15
  go_wp2
  go_loop [3, 7] (fun v k => v = .int .u64 0 ∧ k = .int .i64 0) (fun _ _ => 0)
  case atStart => exact ⟨rfl, rfl⟩
  case round =>
    obtain ⟨rfl, rfl⟩ := hrel
    go_wp2
    go_ret
    exact ⟨rfl, rfl⟩

theorem floatSums_empty (a : Option Addr) (c : Nat) (w : World) :
    Calls Try.prog 6 #[.slice a 0 c] w fun e w' => e = .returned (.bool true) ∧ Below w.heap.size w w' := by
  go_enter Try.func6, Try.ntmps6
  go_wp2
  go_loop [3, 4] (fun x k => x = .bool true ∧ k = .int .i64 0) (fun _ _ => 0)
  case atStart => exact ⟨rfl, rfl⟩
  case round =>
    obtain ⟨rfl, rfl⟩ := hrel
    go_wp2_with (first
      | (go_at_call 14; refine (float_sum_empty _ _ _).mono ?_; rintro e w' ⟨rfl, rfl⟩)
      | (go_at_call 15; refine (ref_fsum_empty _ _ _).mono ?_; rintro e w' ⟨rfl, rfl⟩)
      | (go_at_call 16; refine (float_below_empty _ _ _).mono ?_; rintro e w' ⟨rfl, rfl⟩)
      | (go_at_call 9; refine (awake_any _).mono ?_; rintro e w' ⟨rfl, q3, rfl⟩))
    go_ret
    exact ⟨rfl, below_drewN (Below.refl _ _) _⟩

theorem all_take_succN (zs : List Nat) (j : Nat) (h : j < zs.length) : (zs.take (j + 1)).all fNeg = ((zs.take j).all fNeg && fNeg (zs.getD j 0)) := by
  rw [List.take_succ_eq_append_getElem h, List.all_append, List.getD_eq_getElem?_getD, List.getElem?_eq_getElem h]
  simp

theorem floatSums_cells (b off n c : Nat) (zs : List Nat) (w : World) (hz : zs.length = n) (hn : n ≤ 100) (hi : ∀ j, j < n → zs.getD j 0 < 18446744073709551616) (hc : ∀ j, j < n → w.cell? ⟨b, off + j, none⟩ = some (.int .u64 ((zs.getD j 0 : Nat) : Int))) :
    Calls Try.prog 6 #[.slice (some ⟨b, off, none⟩) n c] w fun e w' => e = .returned (.bool true) ∧ Below w.heap.size w w' := by
  have cis := fun q => float_below_cells b off n c zs (w.drewN q) hz (by omega) hi hc
  have cs1 := fun q => float_sum_cells b off n c zs (w.drewN q) hz (by omega) hi hc
  have cs2 := fun q => ref_fsum b off n c zs (w.drewN q) hz (by omega) hi hc
  have HC := hidf hc; clear hc
  have HI := hidf hi; clear hi
  have HZ := hidf hz; clear hz
  go_enter Try.func6, Try.ntmps6
  go_wp2
  go_loop [3, 4] (fun x k => ∃ j : Nat, j ≤ n ∧ x = .bool ((zs.take j).all fNeg) ∧ k = .int .i64 j) (fun _ k => (n - intOf k).toNat)
  case atStart => exact ⟨0, by omega, rfl, rfl⟩
  case round =>
    obtain ⟨j, hj, rfl, rfl⟩ := hrel
    by_cases hlt : j < n
    · have hcell := HC.out j hlt
      have hb := HI.out j hlt
      have HS := hidf (all_take_succN zs j (by have := HZ.out; omega))
      obtain ⟨z, HE⟩ : ∃ z, Hid (zs.getD j 0 = z) := ⟨_, hidf rfl⟩
      rw [HE.out] at hcell hb HS
      have hcon := ref_fbelow z w hb
      clear cis cs1 cs2
      cases hB : (zs.take j).all fNeg with
      | true =>
        have HB := hidf hB
        clear hB
        go_wp2_with (go_at_call 13; refine hcon.mono ?_; rintro e w' ⟨rfl, rfl⟩)
        go_round
        case rel => exact ⟨j + 1, by omega, by rw [HS.out, HB.out]; rfl, by go_num⟩
        case measure => simp [intOf]; omega
      | false =>
        have HB := hidf hB
        clear hB
        go_wp2
        go_round
        case rel => exact ⟨j + 1, by omega, by rw [HS.out, HB.out]; rfl, by go_num⟩
        case measure => simp [intOf]; omega
    · have e : j = n := by omega
      have ht : zs.take j = zs := List.take_of_length_le (by have := HZ.out; omega)
      rw [ht]
      subst e
      clear ht
      generalize zs.all fNeg = r at cis ⊢
      go_wp2_with (first
        | (go_at_call 14; refine (cs1 0).mono ?_; rintro e w' ⟨rfl, q1, rfl⟩)
        | (go_at_call 15; refine (cs2 _).mono ?_; rintro e w' ⟨rfl, q2, rfl⟩)
        | (go_at_call 16; refine (cis _).mono ?_; rintro e w' ⟨rfl, rfl⟩)
        | (go_at_call 9; refine (awake_any _).mono ?_; rintro e w' ⟨rfl, q3, rfl⟩))
      go_ret
      exact ⟨rfl, below_drewN (Below.refl _ _) _⟩

theorem getD_takeI (zs : List Int) (n j : Nat) (h : j < n) : ((zs.take n).map Int.toNat).getD j 0 = (zs.getD j 0).toNat := by
  rw [List.getD_eq_getElem?_getD, List.getD_eq_getElem?_getD, List.getElem?_map, List.getElem?_take_of_lt h]
  cases zs[j]? <;> rfl

theorem getD_wfI (k : IntKind) (zs : List Int) (h : ∀ n ∈ zs, (Lit.int k n).wf = true) (j : Nat) (hj : j < zs.length) : (Lit.int k (zs.getD j 0)).wf = true := by
  rw [List.getD_eq_getElem?_getD, List.getElem?_eq_getElem hj]; exact h _ (List.getElem_mem hj)

theorem floatSums_row (x : Addr) (n c : Nat) (zs : List Int) (w : World) (hl : n ≤ c) (hm : c ≤ 9223372036854775807) (hz : zs.length = c) (hc : ∀ i, i < zs.length → w.cell? (x.add i) = some (.int .u64 (zs.getD i 0))) (hw : ∀ n ∈ zs, (Lit.int .u64 n).wf = true) :
    Calls Try.prog 6 #[.slice (some x) n c] w fun e w' => e = .returned (.bool true) ∧ Below w.heap.size w w' := by
  by_cases h0 : n = 0
  · subst h0; exact floatSums_empty _ _ w
  · by_cases h5 : 100 < n
    · exact floatSums_long _ _ _ w h5 (by omega)
    · obtain ⟨b, off, spot⟩ := x
      have hspot : spot = none := by simpa [Addr.add] using World.cell?_spot (hc 0 (by omega))
      subst hspot
      refine floatSums_cells b off n c ((zs.take n).map Int.toNat) w (by simp; omega) (by omega) (fun j hj => ?_) (fun j hj => ?_)
      · rw [getD_takeI zs n j hj]
        have := wf_u64 (getD_wfI _ zs hw j (by omega)); omega
      · rw [getD_takeI zs n j hj]
        have g := wf_u64 (getD_wfI _ zs hw j (by omega))
        rw [Int.toNat_of_nonneg g.1, ← Go.WideShapes.add_plain]; exact hc j (by omega)

end Go.Proofs.Ytcjdmkjcpelakaa

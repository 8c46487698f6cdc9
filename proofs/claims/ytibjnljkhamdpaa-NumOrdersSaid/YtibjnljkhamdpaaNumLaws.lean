/- The walks of layer 1's five statements: each returns true, and leaves memory as it was, but for new blocks. -/
import Derived.Test.YtibjnljkhamdpaaNumWalks
namespace Go.Proofs.Ytibjnljkhamdpaa
open Go.RowKit
set_option linter.unusedVariables false

theorem up17 : upI 17 = 32 := by decide +kernel
theorem log3 : logI 3 = 1 := by decide +kernel
theorem is3 : isB 3 = false := by decide +kernel
theorem ord64 : ordI 64 = 2 := by decide +kernel

theorem awake_any (w : World) : Calls Try.prog 18 #[] w fun e w' => e = .returned (.bool true) ∧ w' = w.alloc (.cells #[.int .i64 3] 3) := by
  have c1 := num_up 17 w (by omega) (by omega)
  have c2 := num_log 3 w (by omega) (by omega)
  have c3 := num_order 64 (w.alloc (.cells #[.int .i64 3] 3))
  have c4 := num_is_one w.heap.size 3 (w.alloc (.cells #[.int .i64 3] 3)) (by omega) (by omega) (by simp)
  rw [up17] at c1; rw [log3] at c2; rw [ord64] at c3; rw [is3] at c4
  go_enter Try.func18, Try.ntmps18
  go_wp2_with (first
    | (go_at_call 10; refine c1.mono ?_; rintro e w' ⟨rfl, rfl⟩)
    | (go_at_call 8; refine c2.mono ?_; rintro e w' ⟨rfl, rfl⟩)
    | (go_at_call 12; refine c4.mono ?_; rintro e w' ⟨rfl, rfl⟩)
    | (go_at_call 16; refine c3.mono ?_; rintro e w' ⟨rfl, rfl⟩))
  go_ret
  exact ⟨rfl, rfl⟩

theorem numIs_any (n by' : Int) (w : World) (h0 : -9223372036854775808 ≤ n) (h1 : n ≤ 9223372036854775807) (g0 : -9223372036854775808 ≤ by') (g1 : by' ≤ 9223372036854775807) :
    Calls Try.prog 3 #[.int .i64 n, .int .i64 by'] w fun e w' => e = .returned (.bool true) ∧ w' = (w.alloc (.cells #[.int .i64 n] 3)).alloc (.cells #[.int .i64 3] 3) := by
  have c4 := num_is_one w.heap.size n (w.alloc (.cells #[.int .i64 n] 3)) h0 h1 (by simp)
  go_enter Try.func3, Try.ntmps3
  go_wp2_with (first
    | (go_at_call 8; refine (num_log _ _ h0 h1).mono ?_; rintro e w' ⟨rfl, rfl⟩)
    | (go_at_call 9; refine (ref_log _ _ h0 h1).mono ?_; rintro e w' ⟨rfl, rfl⟩)
    | (go_at_call 10; refine (num_up _ _ h0 h1).mono ?_; rintro e w' ⟨rfl, rfl⟩)
    | (go_at_call 11; refine (ref_up _ _ h0 h1).mono ?_; rintro e w' ⟨rfl, rfl⟩)
    | (go_at_call 12; refine c4.mono ?_; rintro e w' ⟨rfl, rfl⟩)
    | (go_at_call 13; refine (ref_is _ _ h0 h1).mono ?_; rintro e w' ⟨rfl, rfl⟩)
    | (go_at_call 14; refine (num_div _ _ _ h0 h1 g0 g1).mono ?_; rintro e w' ⟨rfl, rfl⟩)
    | (go_at_call 15; refine (ref_div _ _ _ h0 h1 g0 g1).mono ?_; rintro e w' ⟨rfl, rfl⟩)
    | (go_at_call 16; refine (num_order _ _).mono ?_; rintro e w' ⟨rfl, rfl⟩)
    | (go_at_call 17; refine (ref_order _ _).mono ?_; rintro e w' ⟨rfl, rfl⟩)
    | (go_at_call 18; refine (awake_any _).mono ?_; rintro e w' ⟨rfl, rfl⟩))
  go_ret
  exact ⟨rfl, rfl⟩

theorem numUps_any (n : Int) (w : World) (h0 : -9223372036854775808 ≤ n) (h1 : n ≤ 9223372036854775807) :
    Calls Try.prog 4 #[.int .i64 n] w fun e w' => e = .returned (.bool true) ∧ Grown w w' := by
  by_cases hn : n < 1
  · go_enter Try.func4, Try.ntmps4
    go_wp2_with (go_at_call 18; refine (awake_any _).mono ?_; rintro e w' ⟨rfl, rfl⟩)
    go_ret
    exact ⟨rfl, (Grown.refl _).alloc _ _⟩
  · by_cases hg : 2305843009213693952 < n
    · go_enter Try.func4, Try.ntmps4
      go_wp2_with (go_at_call 18; refine (awake_any _).mono ?_; rintro e w' ⟨rfl, rfl⟩)
      go_ret
      exact ⟨rfl, (Grown.refl _).alloc _ _⟩
    · obtain ⟨f1, f2, f3, f4, f5, f6⟩ := upI_facts n (by omega) (by omega)
      have cu := num_up n w h0 h1
      obtain ⟨u, hu⟩ : ∃ u, upI n = u := ⟨_, rfl⟩
      rw [hu] at f1 f2 f3 f4 f5 f6 cu
      clear hu
      have cu2 := fun W => num_up u W (by omega) (by omega)
      have ci := num_is_one w.heap.size u (w.alloc (.cells #[.int .i64 u] 3)) (by omega) (by omega) (by simp)
      have cl := fun W => num_log u W (by omega) (by omega)
      have cn := fun W => num_log n W (by omega) (by omega)
      rw [f4] at cu2
      rw [f1] at ci
      clear f1 f4
      go_enter Try.func4, Try.ntmps4
      go_wp2_with (first
        | (go_at_call 10; (with_reducible refine cu.mono ?_); rintro e w' ⟨rfl, rfl⟩)
        | (go_at_call 10; (with_reducible refine (cu2 _).mono ?_); rintro e w' ⟨rfl, rfl⟩)
        | (go_at_call 12; (with_reducible refine ci.mono ?_); rintro e w' ⟨rfl, rfl⟩)
        | (go_at_call 8; (with_reducible refine (cl _).mono ?_); rintro e w' ⟨rfl, rfl⟩)
        | (go_at_call 8; (with_reducible refine (cn _).mono ?_); rintro e w' ⟨rfl, rfl⟩)
        | (go_at_call 18; refine (awake_any _).mono ?_; rintro e w' ⟨rfl, rfl⟩))
      go_ret
      exact ⟨rfl, ((Grown.refl _).alloc _ _).alloc _ _⟩

theorem numDivs_any (n b : Int) (w : World) (h0 : -9223372036854775808 ≤ n) (h1 : n ≤ 9223372036854775807) (g0 : -9223372036854775808 ≤ b) (g1 : b ≤ 9223372036854775807) :
    Calls Try.prog 6 #[.int .i64 n, .int .i64 b] w fun e w' => e = .returned (.bool true) ∧ Grown w w' := by
  by_cases hc : n < 1 ∨ b < 1 ∨ 1099511627776 < n ∨ 1048576 < b
  · have e1 : divI 0 b = 0 := by unfold divI; rw [if_pos (by omega)]
    have e2 : divI n 0 = 0 := by unfold divI; rw [if_pos (by omega)]
    have c1 := num_div 0 b w (by omega) (by omega) g0 g1
    have c2 := num_div n 0 w h0 h1 (by omega) (by omega)
    rw [e1] at c1; rw [e2] at c2
    clear e1 e2
    rcases hc with h | h | h | h
    · go_enter Try.func6, Try.ntmps6
      go_wp2_with (first
        | (go_at_call 14; (with_reducible refine c1.mono ?_); rintro e w' ⟨rfl, rfl⟩)
        | (go_at_call 14; (with_reducible refine c2.mono ?_); rintro e w' ⟨rfl, rfl⟩)
        | (go_at_call 18; refine (awake_any _).mono ?_; rintro e w' ⟨rfl, rfl⟩))
      go_ret
      exact ⟨rfl, (Grown.refl _).alloc _ _⟩
    · go_enter Try.func6, Try.ntmps6
      go_wp2_with (first
        | (go_at_call 14; (with_reducible refine c1.mono ?_); rintro e w' ⟨rfl, rfl⟩)
        | (go_at_call 14; (with_reducible refine c2.mono ?_); rintro e w' ⟨rfl, rfl⟩)
        | (go_at_call 18; refine (awake_any _).mono ?_; rintro e w' ⟨rfl, rfl⟩))
      all_goals go_ret
      all_goals exact ⟨rfl, (Grown.refl _).alloc _ _⟩
    · go_enter Try.func6, Try.ntmps6
      go_wp2_with (first
        | (go_at_call 14; (with_reducible refine c1.mono ?_); rintro e w' ⟨rfl, rfl⟩)
        | (go_at_call 14; (with_reducible refine c2.mono ?_); rintro e w' ⟨rfl, rfl⟩)
        | (go_at_call 18; refine (awake_any _).mono ?_; rintro e w' ⟨rfl, rfl⟩))
      all_goals go_ret
      all_goals exact ⟨rfl, (Grown.refl _).alloc _ _⟩
    · go_enter Try.func6, Try.ntmps6
      go_wp2_with (first
        | (go_at_call 14; (with_reducible refine c1.mono ?_); rintro e w' ⟨rfl, rfl⟩)
        | (go_at_call 14; (with_reducible refine c2.mono ?_); rintro e w' ⟨rfl, rfl⟩)
        | (go_at_call 18; refine (awake_any _).mono ?_; rintro e w' ⟨rfl, rfl⟩))
      all_goals go_ret
      all_goals exact ⟨rfl, (Grown.refl _).alloc _ _⟩
  · have hn : 1 ≤ n ∧ n ≤ 1099511627776 := by omega
    have hb : 1 ≤ b ∧ b ≤ 1048576 := by omega
    clear hc
    obtain ⟨hn0, hn1⟩ := hn
    obtain ⟨hb0, hb1⟩ := hb
    have hu := div_ups n b hb0
    have e : divI n b = (n - 1) / b + 1 := by unfold divI; rw [if_neg (by omega)]
    have c1 := num_div n b w h0 h1 g0 g1
    rw [e] at c1; clear e
    obtain ⟨d, hd⟩ : ∃ d, (n - 1) / b + 1 = d := ⟨_, rfl⟩
    rw [hd] at hu c1; clear hd
    obtain ⟨hu0, hu1⟩ := hu
    have hu2 : d * b - n < b := by omega
    go_enter Try.func6, Try.ntmps6
    go_wp2_with (first
      | (go_at_call 14; (with_reducible refine c1.mono ?_); rintro e w' ⟨rfl, rfl⟩)
      | (go_at_call 18; refine (awake_any _).mono ?_; rintro e w' ⟨rfl, rfl⟩))
    go_ret
    exact ⟨rfl, (Grown.refl _).alloc _ _⟩

theorem numOrders_any (n : Int) (w : World) (h0 : -9223372036854775808 ≤ n) (h1 : n ≤ 9223372036854775807) :
    Calls Try.prog 7 #[.int .i64 n] w fun e w' => e = .returned (.bool true) ∧ Grown w w' := by
  have c1 := num_order n w
  by_cases e1 : n = 16
  · subst e1
    rw [show ordI 16 = 0 from rfl] at c1
    go_enter Try.func7, Try.ntmps7
    go_wp2_with (first
      | (go_at_call 16; (with_reducible refine c1.mono ?_); rintro e w' ⟨rfl, rfl⟩)
      | (go_at_call 18; refine (awake_any _).mono ?_; rintro e w' ⟨rfl, rfl⟩))
    go_ret
    exact ⟨rfl, (Grown.refl _).alloc _ _⟩
  · by_cases e2 : n = 32
    · subst e2
      rw [show ordI 32 = 1 from rfl] at c1
      go_enter Try.func7, Try.ntmps7
      go_wp2_with (first
        | (go_at_call 16; (with_reducible refine c1.mono ?_); rintro e w' ⟨rfl, rfl⟩)
        | (go_at_call 18; refine (awake_any _).mono ?_; rintro e w' ⟨rfl, rfl⟩))
      go_ret
      exact ⟨rfl, (Grown.refl _).alloc _ _⟩
    · by_cases e3 : n = 64
      · subst e3
        rw [show ordI 64 = 2 from rfl] at c1
        go_enter Try.func7, Try.ntmps7
        go_wp2_with (first
          | (go_at_call 16; (with_reducible refine c1.mono ?_); rintro e w' ⟨rfl, rfl⟩)
          | (go_at_call 18; refine (awake_any _).mono ?_; rintro e w' ⟨rfl, rfl⟩))
        go_ret
        exact ⟨rfl, (Grown.refl _).alloc _ _⟩
      · by_cases e4 : n = 128
        · subst e4
          rw [show ordI 128 = 3 from rfl] at c1
          go_enter Try.func7, Try.ntmps7
          go_wp2_with (first
            | (go_at_call 16; (with_reducible refine c1.mono ?_); rintro e w' ⟨rfl, rfl⟩)
            | (go_at_call 18; refine (awake_any _).mono ?_; rintro e w' ⟨rfl, rfl⟩))
          go_ret
          exact ⟨rfl, (Grown.refl _).alloc _ _⟩
        · have e : ordI n = -1 := by unfold ordI; rw [if_neg e1, if_neg e2, if_neg e3, if_neg e4]
          rw [e] at c1; clear e
          have b1 : (n != 16) = true := by simpa using e1
          have b2 : (n != 32) = true := by simpa using e2
          have b3 : (n != 64) = true := by simpa using e3
          have b4 : (n != 128) = true := by simpa using e4
          clear e1 e2 e3 e4
          go_enter Try.func7, Try.ntmps7
          go_wp2_with (first
            | (go_at_call 16; (with_reducible refine c1.mono ?_); rintro e w' ⟨rfl, rfl⟩)
            | (go_at_call 18; refine (awake_any _).mono ?_; rintro e w' ⟨rfl, rfl⟩))
          go_ret
          exact ⟨rfl, (Grown.refl _).alloc _ _⟩

theorem numAll_long (a : Option Addr) (n c : Nat) (w : World) (hn : 50 < n) (hm : n ≤ 9223372036854775807) :
    Calls Try.prog 5 #[.slice a n c] w fun e w' => e = .returned (.bool true) ∧ Below w.heap.size w w' := by
  go_enter Try.func5, Try.ntmps5
  go_wp2_with (go_at_call 18; refine (awake_any _).mono ?_; rintro e w' ⟨rfl, rfl⟩)
  go_ret
  exact ⟨rfl, (Below.refl _ _).alloc (Nat.le_refl _) _⟩

theorem numAll_empty (a : Option Addr) (c : Nat) (w : World) :
    Calls Try.prog 5 #[.slice a 0 c] w fun e w' => e = .returned (.bool true) ∧ Below w.heap.size w w' := by
  go_enter Try.func5, Try.ntmps5
  go_wp2
  go_loop [3, 4] (fun x k => x = .bool true ∧ k = .int .i64 0) (fun _ _ => 0)
  case atStart => exact ⟨rfl, rfl⟩
  case round =>
    obtain ⟨rfl, rfl⟩ := hrel
    go_wp2_with (first
      | (go_at_call 12; refine (num_is_empty _ _ _).mono ?_; rintro e w' ⟨rfl, rfl⟩)
      | (go_at_call 18; refine (awake_any _).mono ?_; rintro e w' ⟨rfl, rfl⟩))
    go_ret
    exact ⟨rfl, (Below.refl _ _).alloc (Nat.le_refl _) _⟩

theorem all_take_succ (zs : List Int) (j : Nat) (h : j < zs.length) : (zs.take (j + 1)).all isB = ((zs.take j).all isB && isB (zs.getD j 0)) := by
  rw [List.take_succ_eq_append_getElem h, List.all_append, List.getD_eq_getElem?_getD, List.getElem?_eq_getElem h]
  simp

theorem numAll_cells (b off n c : Nat) (zs : List Int) (w : World) (hz : zs.length = n) (hn : n ≤ 50) (hi : ∀ j, j < n → -9223372036854775808 ≤ zs.getD j 0 ∧ zs.getD j 0 ≤ 9223372036854775807) (hc : ∀ j, j < n → w.cell? ⟨b, off + j, none⟩ = some (.int .i64 (zs.getD j 0))) :
    Calls Try.prog 5 #[.slice (some ⟨b, off, none⟩) n c] w fun e w' => e = .returned (.bool true) ∧ Below w.heap.size w w' := by
  have cis := num_is_cells b off n c zs w hz (by omega) hi hc
  have HC := hidd hc; clear hc
  have HI := hidd hi; clear hi
  have HZ := hidd hz; clear hz
  go_enter Try.func5, Try.ntmps5
  go_wp2
  go_loop [3, 4] (fun x k => ∃ j : Nat, j ≤ n ∧ x = .bool ((zs.take j).all isB) ∧ k = .int .i64 j) (fun _ k => (n - intOf k).toNat)
  case atStart => exact ⟨0, by omega, rfl, rfl⟩
  case round =>
    obtain ⟨j, hj, rfl, rfl⟩ := hrel
    by_cases hlt : j < n
    · have hcell := HC.out j hlt
      have hb := HI.out j hlt
      have HS := hidd (all_take_succ zs j (by have := HZ.out; omega))
      obtain ⟨z, HE⟩ : ∃ z, Hid (zs.getD j 0 = z) := ⟨_, hidd rfl⟩
      rw [HE.out] at hcell hb HS
      obtain ⟨hb0, hb1⟩ := hb
      have hcon := ref_is z w hb0 hb1
      clear cis
      cases hB : (zs.take j).all isB with
      | true =>
        have HB := hidd hB
        clear hB
        go_wp2_with (go_at_call 13; refine hcon.mono ?_; rintro e w' ⟨rfl, rfl⟩)
        go_round
        case rel => exact ⟨j + 1, by omega, by rw [HS.out, HB.out]; rfl, by go_num⟩
        case measure => simp [intOf]; omega
      | false =>
        have HB := hidd hB
        clear hB
        go_wp2
        go_round
        case rel => exact ⟨j + 1, by omega, by rw [HS.out, HB.out]; rfl, by go_num⟩
        case measure => simp [intOf]; omega
    · have e : j = n := by omega
      have ht : zs.take j = zs := List.take_of_length_le (by have := HZ.out; omega)
      rw [ht]
      subst e
      clear ht
      generalize zs.all isB = r at cis ⊢
      go_wp2_with (first
        | (go_at_call 12; refine cis.mono ?_; rintro e w' ⟨rfl, rfl⟩)
        | (go_at_call 18; refine (awake_any _).mono ?_; rintro e w' ⟨rfl, rfl⟩))
      go_ret
      exact ⟨rfl, (Below.refl _ _).alloc (Nat.le_refl _) _⟩

theorem wf_i64 {n : Int} (h : (Lit.int .i64 n).wf = true) : -9223372036854775808 ≤ n ∧ n ≤ 9223372036854775807 := by
  have h1 : IntKind.i64.min = -9223372036854775808 := rfl
  have h2 : IntKind.i64.max = 9223372036854775807 := rfl
  simp only [Lit.wf, Bool.and_eq_true, decide_eq_true_eq] at h
  omega

theorem getD_take (zs : List Int) (n j : Nat) (h : j < n) : (zs.take n).getD j 0 = zs.getD j 0 := by
  rw [List.getD_eq_getElem?_getD, List.getD_eq_getElem?_getD, List.getElem?_take_of_lt h]

theorem getD_wf (k : IntKind) (zs : List Int) (h : ∀ n ∈ zs, (Lit.int k n).wf = true) (j : Nat) (hj : j < zs.length) : (Lit.int k (zs.getD j 0)).wf = true := by
  rw [List.getD_eq_getElem?_getD, List.getElem?_eq_getElem hj]; exact h _ (List.getElem_mem hj)

theorem numAll_row (x : Addr) (n c : Nat) (zs : List Int) (w : World) (hl : n ≤ c) (hm : c ≤ 9223372036854775807) (hz : zs.length = c) (hc : ∀ i, i < zs.length → w.cell? (x.add i) = some (.int .i64 (zs.getD i 0))) (hw : ∀ n ∈ zs, (Lit.int .i64 n).wf = true) :
    Calls Try.prog 5 #[.slice (some x) n c] w fun e w' => e = .returned (.bool true) ∧ Below w.heap.size w w' := by
  by_cases h0 : n = 0
  · subst h0; exact numAll_empty _ _ w
  · by_cases h5 : 50 < n
    · exact numAll_long _ _ _ w h5 (by omega)
    · obtain ⟨b, off, spot⟩ := x
      have hspot : spot = none := by simpa [Addr.add] using World.cell?_spot (hc 0 (by omega))
      subst hspot
      refine numAll_cells b off n c (zs.take n) w (by simp; omega) (by omega) (fun j hj => ?_) (fun j hj => ?_)
      · rw [getD_take zs n j hj]; exact wf_i64 (getD_wf _ zs hw j (by omega))
      · rw [getD_take zs n j hj]; rw [← Go.WideShapes.add_plain]; exact hc j (by omega)

end Go.Proofs.Ytibjnljkhamdpaa

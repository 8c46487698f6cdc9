/- The walks of layer 4's statements but for the acts: each returns true, and leaves memory as it was, but for new blocks. -/
import Derived.Test.YtpfhmccafcpflaaArenaCode4
import Derived.Test.YtpfhmccafcpflaaArenaRef
namespace Go.Proofs.Ytpfhmccafcpflaa
open Go.RowKit
set_option linter.unusedVariables false

theorem code_apage (at' : Int) (w : World) (h0 : in64 at') :
    Calls Try.prog 22 #[.int .i64 at'] w fun e w' => e = .returned (.int .i64 (if at' < 0 then -1 else at' / 64)) ∧ w = w' := by
  obtain ⟨h1, h2⟩ := h0
  by_cases h : at' < 0
  · rw [if_pos h]
    go_enter Try.func22, Try.ntmps22
    go_wp2
    go_ret
    exact ⟨rfl, rfl⟩
  · rw [if_neg h]
    go_enter Try.func22, Try.ntmps22
    go_wp2
    go_ret
    exact ⟨rfl, rfl⟩

theorem code_abase (page : Int) (w : World) (h0 : in64 page) :
    Calls Try.prog 23 #[.int .i64 page] w fun e w' => e = .returned (.int .i64 (if page < 0 ∨ 1024 < page then -1 else page * 64)) ∧ w = w' := by
  obtain ⟨h1, h2⟩ := h0
  by_cases h : page < 0
  · rw [if_pos (Or.inl h)]
    go_enter Try.func23, Try.ntmps23
    go_wp2
    go_ret
    exact ⟨rfl, rfl⟩
  · by_cases h3 : 1024 < page
    · rw [if_pos (Or.inr h3)]
      go_enter Try.func23, Try.ntmps23
      go_wp2
      go_ret
      exact ⟨rfl, rfl⟩
    · rw [if_neg (by omega)]
      have hw : wrap64 (page * 64) = page * 64 := by unfold wrap64; omega
      go_enter Try.func23, Try.ntmps23
      go_wp2
      go_ret
      exact ⟨rfl, rfl⟩

theorem awake_any (w : World) : Calls Try.prog 8 #[] w fun e w' => e = .returned (.bool true) ∧ Below w.heap.size w w' := by
  have c1 := code_anew 4 w (by omega) (by omega)
  go_enter Try.func8, Try.ntmps8
  go_wp2_with (go_at_call 9; refine c1.mono ?_)
  rintro e w1 ⟨p, g, rfl, har, hb1⟩
  have c2 := code_awords p _ _ _ w1 har.cell
  have c3 := code_ain har 255 1 (by unfold in64; omega) (by unfold in64; omega)
  have c4 := code_ain har 255 2 (by unfold in64; omega) (by unfold in64; omega)
  have c5 := code_apage 64 w1 (by unfold in64; omega)
  rw [show aIn (64 * 4) 255 1 = true by decide] at c3
  rw [show aIn (64 * 4) 255 2 = false by decide] at c4
  rw [show ((64 * 4 : Nat) : Int) = 256 by rfl] at c2
  rw [show (if (64 : Int) < 0 then (-1 : Int) else 64 / 64) = 1 by decide] at c5
  clear c1 har
  go_wp2_with (first
    | (go_at_call 11; refine c2.mono ?_; rintro e w' ⟨rfl, rfl⟩)
    | (go_at_call 21; (with_reducible refine c3.mono ?_); rintro e w' ⟨rfl, rfl⟩)
    | (go_at_call 21; (with_reducible refine c4.mono ?_); rintro e w' ⟨rfl, rfl⟩)
    | (go_at_call 22; refine c5.mono ?_; rintro e w' ⟨rfl, rfl⟩))
  go_ret
  exact ⟨rfl, hb1⟩

theorem arenaNew_any (pages : Int) (w : World) (h0 : in64 pages) : Calls Try.prog 4 #[.int .i64 pages] w fun e w' => e = .returned (.bool true) ∧ Below w.heap.size w w' := by
  have ca := fun W => awake_any W
  by_cases hno : pages < 4 ∨ 1024 < pages
  · have c1 := code_anew_no pages w hno
    have c2 := code_awords_nil w
    by_cases h4 : pages < 4
    · clear hno
      go_enter Try.func4, Try.ntmps4
      go_wp2_with (first
        | (go_at_call 9; refine c1.mono ?_; rintro e w' ⟨rfl, rfl⟩)
        | (go_at_call 11; refine c2.mono ?_; rintro e w' ⟨rfl, rfl⟩)
        | (go_at_call 8; refine (ca _).mono ?_; rintro e w1 ⟨rfl, hb1⟩))
      go_ret
      exact ⟨rfl, hb1⟩
    · have h5 : 1024 < pages := by omega
      clear hno
      go_enter Try.func4, Try.ntmps4
      go_wp2_with (first
        | (go_at_call 9; refine c1.mono ?_; rintro e w' ⟨rfl, rfl⟩)
        | (go_at_call 11; refine c2.mono ?_; rintro e w' ⟨rfl, rfl⟩)
        | (go_at_call 8; refine (ca _).mono ?_; rintro e w1 ⟨rfl, hb1⟩))
      go_ret
      exact ⟨rfl, hb1⟩
  · obtain ⟨m, rfl⟩ : ∃ m : Nat, pages = (m : Int) := ⟨pages.toNat, by omega⟩
    have h4 : 4 ≤ m := by omega
    have h5 : m ≤ 1024 := by omega
    have c1 := code_anew m w h4 h5
    obtain ⟨L, hL⟩ : ∃ L, 64 * m = L := ⟨_, rfl⟩
    have hw : wrap64 (64 * (m : Int)) = (L : Int) := by unfold wrap64; omega
    have hw2 : (64 * (m : Int)) = (L : Int) := by omega
    have hL2 : L ≤ 65536 := by omega
    rw [hL] at c1
    clear hno h0
    have HL := hidb hL
    clear hL
    go_enter Try.func4, Try.ntmps4
    go_wp2_with (go_at_call 9; refine c1.mono ?_)
    rintro e w1 ⟨p, g, rfl, har, hb1⟩
    have c2 := code_awords p _ _ _ w1 har.cell
    have c3 := code_arow_ok 0 L har (by omega)
    rw [show ((0 : Nat) : Int) = 0 from rfl] at c3
    have hrow : aRow (List.replicate L 0) 0 L = List.replicate L 0 := by unfold aRow; simp
    rw [hrow] at c3
    unfold OwnWNo at c3
    rw [List.length_replicate] at c3
    clear c1 har hrow
    have HB1 := hidb hb1
    have hsz1 := hb1.size
    clear hb1
    go_wp2_with (first
      | (go_at_call 11; refine c2.mono ?_; rintro e w' ⟨rfl, rfl⟩)
      | (go_at_call 19; refine c3.mono ?_; rintro e w2 ⟨A, c, rfl, hown, hb2⟩))
    have HS := hidb (Sl.of_own hown)
    have HB2 := hidb (HB1.out.trans (hb2.mono hsz1))
    clear hown hb2 c3 c2
    go_loop [7] (fun k => ∃ j : Nat, j ≤ L ∧ k = .int .i64 j) (fun k => (L - intOf k).toNat)
    case atStart => exact ⟨0, by omega, rfl⟩
    case round =>
      obtain ⟨j, hj, rfl⟩ := hrel
      by_cases hlt : j < L
      · obtain ⟨b, off, x, rfl, hx, hc⟩ := HS.out.word hlt
        have hx0 : x = 0 := List.eq_of_mem_replicate (List.mem_of_getElem? hx)
        subst hx0
        clear hx
        rw [show ((0 : Nat) : Int) = 0 from rfl] at hc
        have hi0 : (0 : Int) ≤ (j : Int) := by omega
        have hi1 : (j : Int) < (L : Int) := by omega
        go_wp2
        go_round
        case rel => exact ⟨j + 1, by omega, by go_num⟩
        case measure => simp [intOf]; omega
      · have hge : ¬ ((j : Int) < (L : Int)) := by omega
        go_wp2_with (go_at_call 8; refine (ca _).mono ?_; rintro e w3 ⟨rfl, hb3⟩)
        go_ret
        exact ⟨rfl, HB2.out.trans (hb3.mono (by have := HB2.out.size; omega))⟩

theorem arenaPages_any (at' page : Int) (w : World) (h0 : in64 at') (h1 : in64 page) : Calls Try.prog 5 #[.int .i64 at', .int .i64 page] w fun e w' => e = .returned (.bool true) ∧ Below w.heap.size w w' := by
  have ca := fun W => awake_any W
  have c1 := code_apage at' w h0
  have c2 := code_abase page w h1
  obtain ⟨a0, a1⟩ := h0
  obtain ⟨b0, b1⟩ := h1
  obtain ⟨q, hq⟩ : ∃ q, at' / 64 = q := ⟨_, rfl⟩
  by_cases hp : page < 0 ∨ 1024 < page
  · rw [if_pos hp] at c2
    by_cases ha : at' < 0
    · rw [if_pos ha] at c1
      by_cases hp1 : page < 0
      · clear hp
        go_enter Try.func5, Try.ntmps5
        go_wp2_with (first
          | (go_at_call 22; (with_reducible refine c1.mono ?_); rintro e w' ⟨rfl, rfl⟩)
          | (go_at_call 23; refine c2.mono ?_; rintro e w' ⟨rfl, rfl⟩)
          | (go_at_call 8; refine (ca _).mono ?_; rintro e w1 ⟨rfl, hb1⟩))
        go_ret
        exact ⟨rfl, hb1⟩
      · have hp2 : 1024 < page := by omega
        clear hp
        go_enter Try.func5, Try.ntmps5
        go_wp2_with (first
          | (go_at_call 22; (with_reducible refine c1.mono ?_); rintro e w' ⟨rfl, rfl⟩)
          | (go_at_call 23; refine c2.mono ?_; rintro e w' ⟨rfl, rfl⟩)
          | (go_at_call 8; refine (ca _).mono ?_; rintro e w1 ⟨rfl, hb1⟩))
        go_ret
        exact ⟨rfl, hb1⟩
    · rw [if_neg ha] at c1
      have hq0 : 0 ≤ q := by omega
      have hqr : Int.tdiv at' 64 = q := by rw [Int.tdiv_eq_ediv_of_nonneg (by omega)]; exact hq
      rw [hq] at c1
      by_cases hp1 : page < 0
      · clear hp
        go_enter Try.func5, Try.ntmps5
        go_wp2_with (first
          | (go_at_call 22; (with_reducible refine c1.mono ?_); rintro e w' ⟨rfl, rfl⟩)
          | (go_at_call 23; refine c2.mono ?_; rintro e w' ⟨rfl, rfl⟩)
          | (go_at_call 8; refine (ca _).mono ?_; rintro e w1 ⟨rfl, hb1⟩))
        go_ret
        exact ⟨rfl, hb1⟩
      · have hp2 : 1024 < page := by omega
        clear hp
        go_enter Try.func5, Try.ntmps5
        go_wp2_with (first
          | (go_at_call 22; (with_reducible refine c1.mono ?_); rintro e w' ⟨rfl, rfl⟩)
          | (go_at_call 23; refine c2.mono ?_; rintro e w' ⟨rfl, rfl⟩)
          | (go_at_call 8; refine (ca _).mono ?_; rintro e w1 ⟨rfl, hb1⟩))
        go_ret
        exact ⟨rfl, hb1⟩
  · rw [if_neg hp] at c2
    have hp1 : ¬ page < 0 := by omega
    have hp2 : ¬ 1024 < page := by omega
    have hw1 : wrap64 (64 * page) = 64 * page := by unfold wrap64; omega
    have hw2 : wrap64 (64 * page + 63) = 64 * page + 63 := by unfold wrap64; omega
    have c3 := code_apage (64 * page) w (by unfold in64; omega)
    have c4 := code_apage (64 * page + 63) w (by unfold in64; omega)
    rw [if_neg (by omega), show 64 * page / 64 = page by omega] at c3
    rw [if_neg (by omega), show (64 * page + 63) / 64 = page by omega] at c4
    rw [show page * 64 = 64 * page by omega] at c2
    have hb0 : 0 ≤ 64 * page := by omega
    have hb1 : (64 * page == -1) = false := by simp; omega
    clear hp
    by_cases ha : at' < 0
    · rw [if_pos ha] at c1
      go_enter Try.func5, Try.ntmps5
      go_wp2_with (first
        | (go_at_call 22; (with_reducible refine c1.mono ?_); rintro e w' ⟨rfl, rfl⟩)
        | (go_at_call 23; refine c2.mono ?_; rintro e w' ⟨rfl, rfl⟩)
        | (go_at_call 22; (with_reducible refine c3.mono ?_); rintro e w' ⟨rfl, rfl⟩)
        | (go_at_call 22; (with_reducible refine c4.mono ?_); rintro e w' ⟨rfl, rfl⟩)
        | (go_at_call 8; refine (ca _).mono ?_; rintro e w1 ⟨rfl, hb1⟩))
      go_ret
      exact ⟨rfl, hb1⟩
    · rw [if_neg ha] at c1
      have hq0 : 0 ≤ q := by omega
      have hqr : Int.tdiv at' 64 = q := by rw [Int.tdiv_eq_ediv_of_nonneg (by omega)]; exact hq
      rw [hq] at c1
      go_enter Try.func5, Try.ntmps5
      go_wp2_with (first
        | (go_at_call 22; (with_reducible refine c1.mono ?_); rintro e w' ⟨rfl, rfl⟩)
        | (go_at_call 23; refine c2.mono ?_; rintro e w' ⟨rfl, rfl⟩)
        | (go_at_call 22; (with_reducible refine c3.mono ?_); rintro e w' ⟨rfl, rfl⟩)
        | (go_at_call 22; (with_reducible refine c4.mono ?_); rintro e w' ⟨rfl, rfl⟩)
        | (go_at_call 8; refine (ca _).mono ?_; rintro e w1 ⟨rfl, hb1⟩))
      go_ret
      exact ⟨rfl, hb1⟩

end Go.Proofs.Ytpfhmccafcpflaa

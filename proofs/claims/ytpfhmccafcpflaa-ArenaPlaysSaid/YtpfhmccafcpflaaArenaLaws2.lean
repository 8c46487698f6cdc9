/- The walks of layer 4's statements on a nil arena and on words that are moved. -/
import Derived.Test.YtpfhmccafcpflaaArenaLaws
namespace Go.Proofs.Ytpfhmccafcpflaa
open Go.RowKit
set_option linter.unusedVariables false

/-- The error's number of what a nil arena is asked. -/
def noOf (b : Bool) : Int := if b then 0 else 2

theorem nil_row (at' n : Int) (w : World) (h0 : in64 at') (h1 : in64 n) :
    Calls Try.prog 19 #[.pointer none, .int .i64 at', .int .i64 n] w fun e w' => e = .returned (.tuple #[.slice none 0 0, .int .i64 (noOf (aIn 0 at' n))]) ∧ Below w.heap.size w w' := by
  cases hin : aIn 0 at' n with
  | false =>
    have cr := code_arow_no_of _ 0 at' n _ (code_ain_nil (eCell w) at' n h0 h1) hin
    unfold eCell at cr
    clear hin h0 h1
    go_enter_defers Try.func19, Try.ntmps19
    go_wp2_with (go_at_call 26; refine cr.mono ?_; rintro e w' ⟨rfl, rfl⟩)
    refine leaves_cons (f := 30) (args := #[.pointer (some ⟨w.heap.size, 0, none⟩)]) (by simp) (by simp [go_sem]) ?_
    refine (catch_row ⟨w.heap.size, 0, none⟩ 0 _ (by simp) (by simp) (by simp [go_sem])).mono ?_
    rintro e u' w'' ⟨rfl, rfl, rfl⟩
    simp [Leaves, settle, results, Try.results19, go_sem, noOf]
    exact ((Below.refl _ _).alloc (Nat.le_refl _) _).alloc (by simp) _
  | true =>
    have hh := of_decide_eq_true hin
    obtain rfl : n = 0 := by omega
    have cr := code_arow_none_of _ 0 at' _ (code_ain_nil (eCell w) at' 0 h0 h1) hin
    unfold eCell at cr
    have cc := fun W => code_wclone_none W
    clear hin h0 h1 hh
    go_enter_defers Try.func19, Try.ntmps19
    go_wp2_with (first
      | (go_at_call 26; refine cr.mono ?_; rintro e w' ⟨rfl, rfl⟩)
      | (go_at_call 31; refine (cc _).mono ?_; rintro e w' ⟨rfl, rfl⟩))
    refine leaves_cons (f := 30) (args := #[.pointer (some ⟨w.heap.size, 0, none⟩)]) (by simp) (by simp [go_sem]) ?_
    refine (idle_row ⟨w.heap.size, 0, none⟩ 0 _ (by simp) (by simp [go_sem])).mono ?_
    rintro e u' w'' ⟨rfl, rfl, rfl⟩
    simp [Leaves, settle, results, Try.results19, go_sem, noOf]
    exact (Below.refl _ _).alloc (Nat.le_refl _) _

theorem nil_store (at' : Int) (A : Option Addr) (n c : Nat) (w : World) (h0 : in64 at') (hn : n ≤ 9223372036854775807) :
    Calls Try.prog 13 #[.pointer none, .int .i64 at', .slice A n c] w fun e w' => e = .returned (.int .i64 (noOf (aIn 0 at' (n : Int)))) ∧ Below w.heap.size w w' := by
  cases hin : aIn 0 at' (n : Int) with
  | false => exact code_astore_no _ 0 at' A n c w (by omega) hn (code_awords_nil _) h0 hin
  | true =>
    have hh := of_decide_eq_true hin
    obtain rfl : n = 0 := by omega
    exact code_astore_none _ 0 at' A c w (by omega) (code_awords_nil _) h0 hin

theorem nil_zero (at' n : Int) (w : World) (h0 : in64 at') (h1 : in64 n) :
    Calls Try.prog 17 #[.pointer none, .int .i64 at', .int .i64 n] w fun e w' => e = .returned (.int .i64 (noOf (aIn 0 at' n))) ∧ Below w.heap.size w w' := by
  cases hin : aIn 0 at' n with
  | false => exact code_azero_no _ 0 at' n w (by omega) (code_awords_nil _) h0 h1 hin
  | true =>
    have hh := of_decide_eq_true hin
    obtain rfl : n = 0 := by omega
    exact code_azero_none _ 0 at' w (by omega) (code_awords_nil _) h0 hin

theorem nil_move (at' n : Int) (w : World) (h0 : in64 at') (h1 : in64 n) :
    Calls Try.prog 15 #[.pointer none, .int .i64 at', .int .i64 0, .int .i64 n] w fun e w' => e = .returned (.int .i64 (noOf (aIn 0 at' n))) ∧ Below w.heap.size w w' := by
  cases hin : aIn 0 at' n with
  | false => exact code_amove_no _ 0 at' 0 n w (by omega) (code_awords_nil _) h0 h1 hin
  | true =>
    have hh := of_decide_eq_true hin
    obtain rfl : n = 0 := by omega
    exact code_amove_none _ 0 at' 0 w (by omega) (code_awords_nil _) h0 (by unfold in64; omega) hin (by decide)

theorem aIn_nil (at' n : Int) : aIn 0 at' n = decide (at' = 0 ∧ n = 0) := by
  unfold aIn; rw [decide_eq_decide]; omega

theorem arenaNil_any (at' n : Int) (A : Option Addr) (len c : Nat) (w : World) (h0 : in64 at') (h1 : in64 n) (hl : len ≤ 9223372036854775807) :
    Calls Try.prog 6 #[.int .i64 at', .int .i64 n, .slice A len c] w fun e w' => e = .returned (.bool true) ∧ Below w.heap.size w w' := by
  have ca := fun W => awake_any W
  by_cases hbig : 20 < len
  · go_enter Try.func6, Try.ntmps6
    go_wp2_with (go_at_call 8; refine (ca _).mono ?_; rintro e w1 ⟨rfl, hb1⟩)
    go_ret
    exact ⟨rfl, hb1⟩
  · have c1 := fun W => code_aload_no (.pointer none) 0 at' W (by omega) (code_awords_nil _) h0 (by rw [aIn_nil]; exact decide_eq_false (by omega))
    have c2 := fun W => nil_row at' n W h0 h1
    have c3 := fun W => nil_store at' A len c W h0 hl
    have c4 := fun W => nil_zero at' n W h0 h1
    have c5 := fun W => nil_move at' n W h0 h1
    have c6 := fun W => code_awords_nil W
    have c7 := fun W => code_ain_nil W at' n h0 h1
    have HB0 : Hid (Below w.heap.size w w) := Below.refl _ _
    rw [aIn_nil] at c2 c3 c4 c5 c7
    clear h0 h1
    by_cases ha : at' = 0
    · subst ha
      by_cases hn : n = 0
      · subst hn
        by_cases h : len = 0
        · subst h
          simp only [noOf] at c2 c3 c4 c5 c7
          simp at c2 c3 c4 c5 c7
          go_enter Try.func6, Try.ntmps6
          go_wp2_with (first
            | (go_at_call 18; refine (c1 _).mono ?_; rintro e w1 ⟨rfl, hb1⟩)
            | (go_at_call 19; refine (c2 _).mono ?_; rintro e w2 ⟨rfl, hb2⟩)
            | (go_at_call 13; refine (c3 _).mono ?_; rintro e w3 ⟨rfl, hb3⟩)
            | (go_at_call 11; refine (c6 _).mono ?_; rintro e w' ⟨rfl, rfl⟩)
            | (go_at_call 21; refine (c7 _).mono ?_; rintro e w' ⟨rfl, rfl⟩)
            | (go_at_call 17; refine (c4 _).mono ?_; rintro e w4 ⟨rfl, hb4⟩)
            | (go_at_call 15; refine (c5 _).mono ?_; rintro e w5 ⟨rfl, hb5⟩)
            | (go_at_call 8; refine (ca _).mono ?_; rintro e w6 ⟨rfl, hb6⟩))
          go_ret
          exact ⟨rfl, nextB (nextB (nextB (nextB (nextB hb1 hb2) hb3) hb4) hb5) hb6⟩
        · have hb : ((len : Int) == 0) = false := by simp; omega
          have hb2 : ¬ ((len : Int) = 0) := by omega
          simp only [noOf] at c2 c3 c4 c5 c7
          simp [h] at c2 c3 c4 c5 c7
          go_enter Try.func6, Try.ntmps6
          go_wp2_with (first
            | (go_at_call 18; refine (c1 _).mono ?_; rintro e w1 ⟨rfl, hb1⟩)
            | (go_at_call 19; refine (c2 _).mono ?_; rintro e w2 ⟨rfl, hb2⟩)
            | (go_at_call 13; refine (c3 _).mono ?_; rintro e w3 ⟨rfl, hb3⟩)
            | (go_at_call 11; refine (c6 _).mono ?_; rintro e w' ⟨rfl, rfl⟩)
            | (go_at_call 21; refine (c7 _).mono ?_; rintro e w' ⟨rfl, rfl⟩)
            | (go_at_call 17; refine (c4 _).mono ?_; rintro e w4 ⟨rfl, hb4⟩)
            | (go_at_call 15; refine (c5 _).mono ?_; rintro e w5 ⟨rfl, hb5⟩)
            | (go_at_call 8; refine (ca _).mono ?_; rintro e w6 ⟨rfl, hb6⟩))
          go_ret
          exact ⟨rfl, nextB (nextB (nextB (nextB (nextB hb1 hb2) hb3) hb4) hb5) hb6⟩
      · have hb : (n == 0) = false := by simpa using hn
        by_cases h : len = 0
        · subst h
          simp only [noOf] at c2 c3 c4 c5 c7
          simp [hn] at c2 c3 c4 c5 c7
          go_enter Try.func6, Try.ntmps6
          go_wp2_with (first
            | (go_at_call 18; refine (c1 _).mono ?_; rintro e w1 ⟨rfl, hb1⟩)
            | (go_at_call 19; refine (c2 _).mono ?_; rintro e w2 ⟨rfl, hb2⟩)
            | (go_at_call 13; refine (c3 _).mono ?_; rintro e w3 ⟨rfl, hb3⟩)
            | (go_at_call 11; refine (c6 _).mono ?_; rintro e w' ⟨rfl, rfl⟩)
            | (go_at_call 21; refine (c7 _).mono ?_; rintro e w' ⟨rfl, rfl⟩)
            | (go_at_call 17; refine (c4 _).mono ?_; rintro e w4 ⟨rfl, hb4⟩)
            | (go_at_call 15; refine (c5 _).mono ?_; rintro e w5 ⟨rfl, hb5⟩)
            | (go_at_call 8; refine (ca _).mono ?_; rintro e w6 ⟨rfl, hb6⟩))
          go_ret
          exact ⟨rfl, nextB (nextB (nextB (nextB (nextB hb1 hb2) hb3) hb4) hb5) hb6⟩
        · have hb3 : ((len : Int) == 0) = false := by simp; omega
          have hb2 : ¬ ((len : Int) = 0) := by omega
          simp only [noOf] at c2 c3 c4 c5 c7
          simp [h, hn] at c2 c3 c4 c5 c7
          go_enter Try.func6, Try.ntmps6
          go_wp2_with (first
            | (go_at_call 18; refine (c1 _).mono ?_; rintro e w1 ⟨rfl, hb1⟩)
            | (go_at_call 19; refine (c2 _).mono ?_; rintro e w2 ⟨rfl, hb2⟩)
            | (go_at_call 13; refine (c3 _).mono ?_; rintro e w3 ⟨rfl, hb3⟩)
            | (go_at_call 11; refine (c6 _).mono ?_; rintro e w' ⟨rfl, rfl⟩)
            | (go_at_call 21; refine (c7 _).mono ?_; rintro e w' ⟨rfl, rfl⟩)
            | (go_at_call 17; refine (c4 _).mono ?_; rintro e w4 ⟨rfl, hb4⟩)
            | (go_at_call 15; refine (c5 _).mono ?_; rintro e w5 ⟨rfl, hb5⟩)
            | (go_at_call 8; refine (ca _).mono ?_; rintro e w6 ⟨rfl, hb6⟩))
          go_ret
          exact ⟨rfl, nextB (nextB (nextB (nextB (nextB hb1 hb2) hb3) hb4) hb5) hb6⟩
    · have hb : (at' == 0) = false := by simpa using ha
      simp only [noOf] at c2 c3 c4 c5 c7
      simp [ha] at c2 c3 c4 c5 c7
      go_enter Try.func6, Try.ntmps6
      go_wp2_with (first
        | (go_at_call 18; refine (c1 _).mono ?_; rintro e w1 ⟨rfl, hb1⟩)
        | (go_at_call 19; refine (c2 _).mono ?_; rintro e w2 ⟨rfl, hb2⟩)
        | (go_at_call 13; refine (c3 _).mono ?_; rintro e w3 ⟨rfl, hb3⟩)
        | (go_at_call 11; refine (c6 _).mono ?_; rintro e w' ⟨rfl, rfl⟩)
        | (go_at_call 21; refine (c7 _).mono ?_; rintro e w' ⟨rfl, rfl⟩)
        | (go_at_call 17; refine (c4 _).mono ?_; rintro e w4 ⟨rfl, hb4⟩)
        | (go_at_call 15; refine (c5 _).mono ?_; rintro e w5 ⟨rfl, hb5⟩)
        | (go_at_call 8; refine (ca _).mono ?_; rintro e w6 ⟨rfl, hb6⟩))
      go_ret
      exact ⟨rfl, nextB (nextB (nextB (nextB (nextB hb1 hb2) hb3) hb4) hb5) hb6⟩

end Go.Proofs.Ytpfhmccafcpflaa

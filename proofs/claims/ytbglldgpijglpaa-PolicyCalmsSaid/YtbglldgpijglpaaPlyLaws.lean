/- Layer 18's statements about numbers alone: First, Grow, Shrink, and what both come to. -/
import Derived.Test.YtbglldgpijglpaaPlyFns
import Derived.Test.YtbglldgpijglpaaPlyRef
namespace Go.Proofs.Ytbglldgpijglpaa
open Go.RowKit
set_option linter.unusedVariables false

theorem awake18 (w : World) : Calls Try.prog 13 #[] w fun e w' => e = .returned (.bool true) ∧ Below w.heap.size w w' := by
  have c1 := code_plgrow 16 10 30 1024 w (by unfold in64; omega) (by unfold in64; omega) (by unfold in64; omega) (by unfold in64; omega)
  rw [show plGrow 16 10 30 1024 = (64, 0) by decide +kernel] at c1
  --@1
  go_enter Try.func13, Try.ntmps13
  go_wp2_with (first | (go_at_call 14; (with_reducible refine c1.mono ?_); rintro e w1 ⟨rfl, hb1⟩))
  go_ret
  exact ⟨rfl, hb1⟩

theorem plFirst_err {words limit n e : Int} (h : plFirst words limit = (n, e)) : e = 0 ∨ e = 1 ∨ e = 4 := by
  unfold plFirst at h
  split at h
  · injection h with _ h; omega
  · split at h <;> (injection h with _ h; omega)
theorem plGrow_err {size used more limit n e : Int} (h : plGrow size used more limit = (n, e)) : e = 0 ∨ e = 1 ∨ e = 4 := by
  unfold plGrow at h
  split at h
  · injection h with _ h; omega
  · split at h <;> (injection h with _ h; omega)

set_option maxHeartbeats 2000000 in
theorem policyFirst_any (words limit : Int) (w : World) (h0 : in64 words) (h1 : in64 limit) :
    Calls Try.prog 3 #[.int .i64 words, .int .i64 limit] w fun e w' => e = .returned (.bool true) ∧ Below w.heap.size w w' := by
  obtain ⟨n, x, hR⟩ : ∃ n x, plFirst words limit = (n, x) := ⟨_, _, rfl⟩
  obtain ⟨b, hl⟩ : ∃ b, plLim limit = b := ⟨_, rfl⟩
  have cf := code_plfirst words limit w h0 h1
  have cr := fun W => ref_plfirst words limit W h0 h1
  rw [hR] at cf cr
  have cl := fun W g hc => code_lim1 limit h1 g W hc b hl
  have ck := fun W => ref_pllim limit W h1 b hl
  have ca := awake18
  rcases plFirst_err hR with rfl | hx
  · obtain ⟨f1, f2, f3, f4⟩ := plFirst_ok hR
    have f5 := stkSz_16 f1
    have hn64 : in64 n := by obtain ⟨a, b⟩ := h1; exact ⟨by omega, by omega⟩
    have cz := fun W => ref_stsize n W hn64 true f1
    obtain ⟨hlim, hw1⟩ : limit ≤ 65536 ∧ 1 ≤ words := by
      unfold plFirst at hR
      split at hR
      · injection hR with _ h; exact absurd h (by decide)
      · rename_i hh
        exact ⟨(plLim_facts (n := limit) (by cases hq : plLim limit with | true => rfl | false => exact absurd (Or.inl hq) hh)).2, by omega⟩
    have hw : wrap64 (2 * words) = 2 * words := by obtain ⟨a, b⟩ := h0; unfold wrap64; omega
    clear hR hl f1 hn64
    by_cases h16 : n = 16
    · subst h16
      --@2
      go_enter Try.func3, Try.ntmps3
      go_wp2_with (first | (go_at_call 8; (with_reducible refine cf.mono ?_); rintro e w1 ⟨rfl, hb1⟩) | (go_at_call 9; (with_reducible refine (cr _).mono ?_); rintro e w2 ⟨rfl, rfl⟩) | (go_at_call 10; (with_reducible refine (cl _ _ (by simp)).mono ?_); rintro e w3 ⟨rfl, hb3⟩) | (go_at_call 11; (with_reducible refine (ck _).mono ?_); rintro e w4 ⟨rfl, rfl⟩) | (go_at_call 12; (with_reducible refine (cz _).mono ?_); rintro e w6 ⟨rfl, rfl⟩) | (go_at_call 13; (with_reducible refine (ca _).mono ?_); rintro e w5 ⟨rfl, hb5⟩))
      go_ret
      exact ⟨rfl, belF_tr (belF_tr hb1 (pl_b1 hb3)) hb5⟩
    · have f4' : n < 2 * words := by omega
      --@3
      go_enter Try.func3, Try.ntmps3
      go_wp2_with (first | (go_at_call 8; (with_reducible refine cf.mono ?_); rintro e w1 ⟨rfl, hb1⟩) | (go_at_call 9; (with_reducible refine (cr _).mono ?_); rintro e w2 ⟨rfl, rfl⟩) | (go_at_call 10; (with_reducible refine (cl _ _ (by simp)).mono ?_); rintro e w3 ⟨rfl, hb3⟩) | (go_at_call 11; (with_reducible refine (ck _).mono ?_); rintro e w4 ⟨rfl, rfl⟩) | (go_at_call 12; (with_reducible refine (cz _).mono ?_); rintro e w6 ⟨rfl, rfl⟩) | (go_at_call 13; (with_reducible refine (ca _).mono ?_); rintro e w5 ⟨rfl, hb5⟩))
      go_ret
      exact ⟨rfl, belF_tr (belF_tr hb1 (pl_b1 hb3)) hb5⟩
  · clear hR hl
    have hx0 : x ≠ 0 := by omega
    --@4
    go_enter Try.func3, Try.ntmps3
    go_wp2_with (first | (go_at_call 8; (with_reducible refine cf.mono ?_); rintro e w1 ⟨rfl, hb1⟩) | (go_at_call 9; (with_reducible refine (cr _).mono ?_); rintro e w2 ⟨rfl, rfl⟩) | (go_at_call 10; (with_reducible refine (cl _ _ (by simp)).mono ?_); rintro e w3 ⟨rfl, hb3⟩) | (go_at_call 11; (with_reducible refine (ck _).mono ?_); rintro e w4 ⟨rfl, rfl⟩) | (go_at_call 13; (with_reducible refine (ca _).mono ?_); rintro e w5 ⟨rfl, hb5⟩))
    go_ret
    exact ⟨rfl, belF_tr (belF_tr hb1 (pl_b1 hb3)) hb5⟩

set_option maxHeartbeats 2000000 in
theorem policyGrows_any (size used more limit : Int) (w : World) (h0 : in64 size) (h1 : in64 used) (h2 : in64 more) (h3 : in64 limit) :
    Calls Try.prog 4 #[.int .i64 size, .int .i64 used, .int .i64 more, .int .i64 limit] w fun e w' => e = .returned (.bool true) ∧ Below w.heap.size w w' := by
  obtain ⟨n, x, hR⟩ : ∃ n x, plGrow size used more limit = (n, x) := ⟨_, _, rfl⟩
  have cf := code_plgrow size used more limit w h0 h1 h2 h3
  have cr := fun W => ref_plgrow size used more limit W h0 h1 h2 h3
  rw [hR] at cf cr
  have ca := awake18
  rcases plGrow_err hR with rfl | hx
  · obtain ⟨g1, g2, g3, g4, g5, g6, g7, g8, g9, g10, g11, _⟩ := plGrow_ok hR
    have hlim := (plLim_facts g1).2
    have f5 := stkSz_16 g8
    have hn64 : in64 n := ⟨by omega, by omega⟩
    have cz := fun W => ref_stsize n W hn64 true g8
    have hw : wrap64 (used + more) = used + more := by unfold wrap64; omega
    clear hR g8 g1 g2 hn64
    --@5
    go_enter Try.func4, Try.ntmps4
    go_wp2_with (first | (go_at_call 14; (with_reducible refine cf.mono ?_); rintro e w1 ⟨rfl, hb1⟩) | (go_at_call 15; (with_reducible refine (cr _).mono ?_); rintro e w2 ⟨rfl, rfl⟩) | (go_at_call 12; (with_reducible refine (cz _).mono ?_); rintro e w6 ⟨rfl, rfl⟩) | (go_at_call 13; (with_reducible refine (ca _).mono ?_); rintro e w5 ⟨rfl, hb5⟩))
    go_ret
    exact ⟨rfl, belF_tr hb1 hb5⟩
  · clear hR
    have hx0 : x ≠ 0 := by omega
    --@6
    go_enter Try.func4, Try.ntmps4
    go_wp2_with (first | (go_at_call 14; (with_reducible refine cf.mono ?_); rintro e w1 ⟨rfl, hb1⟩) | (go_at_call 15; (with_reducible refine (cr _).mono ?_); rintro e w2 ⟨rfl, rfl⟩) | (go_at_call 13; (with_reducible refine (ca _).mono ?_); rintro e w5 ⟨rfl, hb5⟩))
    go_ret
    exact ⟨rfl, belF_tr hb1 hb5⟩

set_option maxHeartbeats 2000000 in
theorem policyShrinks_any (size used : Int) (w : World) (h0 : in64 size) (h1 : in64 used) :
    Calls Try.prog 5 #[.int .i64 size, .int .i64 used] w fun e w' => e = .returned (.bool true) ∧ Below w.heap.size w w' := by
  obtain ⟨n, b, hR⟩ : ∃ n b, plShrink size used = (n, b) := ⟨_, _, rfl⟩
  have cf := code_plshrink size used w h0 h1
  have cr := fun W => ref_plshrink size used W h0 h1
  rw [hR] at cf cr
  have ca := awake18
  cases b with
  | true =>
    obtain ⟨g1, g2, g3, g4, g5⟩ := plShrink_ok hR
    have f5 := stkSz_16 g1
    obtain ⟨z0, z1⟩ := h0
    have hn64 : in64 n := ⟨by omega, by omega⟩
    have cz := fun W => ref_stsize n W hn64 true g1
    have hw : wrap64 (2 * n) = 2 * n := by unfold wrap64; omega
    have hq : Int.tdiv n 2 = n / 2 := Int.tdiv_eq_ediv_of_nonneg (by omega)
    clear hR g1 g5 hn64
    --@7
    go_enter Try.func5, Try.ntmps5
    go_wp2_with (first | (go_at_call 16; (with_reducible refine cf.mono ?_); rintro e w1 ⟨rfl, hb1⟩) | (go_at_call 17; (with_reducible refine (cr _).mono ?_); rintro e w2 ⟨rfl, rfl⟩) | (go_at_call 12; (with_reducible refine (cz _).mono ?_); rintro e w6 ⟨rfl, rfl⟩) | (go_at_call 13; (with_reducible refine (ca _).mono ?_); rintro e w5 ⟨rfl, hb5⟩))
    go_ret
    exact ⟨rfl, belF_tr hb1 hb5⟩
  | false =>
    clear hR
    --@8
    go_enter Try.func5, Try.ntmps5
    go_wp2_with (first | (go_at_call 16; (with_reducible refine cf.mono ?_); rintro e w1 ⟨rfl, hb1⟩) | (go_at_call 17; (with_reducible refine (cr _).mono ?_); rintro e w2 ⟨rfl, rfl⟩) | (go_at_call 13; (with_reducible refine (ca _).mono ?_); rintro e w5 ⟨rfl, hb5⟩))
    go_ret
    exact ⟨rfl, belF_tr hb1 hb5⟩

set_option maxHeartbeats 2000000 in
theorem policyCalms_any (size used more limit : Int) (w : World) (h0 : in64 size) (h1 : in64 used) (h2 : in64 more) (h3 : in64 limit) :
    Calls Try.prog 7 #[.int .i64 size, .int .i64 used, .int .i64 more, .int .i64 limit] w fun e w' => e = .returned (.bool true) ∧ Below w.heap.size w w' := by
  obtain ⟨n, x, hR⟩ : ∃ n x, plGrow size used more limit = (n, x) := ⟨_, _, rfl⟩
  have cf := code_plgrow size used more limit w h0 h1 h2 h3
  rw [hR] at cf
  have ca := awake18
  rcases plGrow_err hR with rfl | hx
  · obtain ⟨g1, g2, g3, g4, g5, g6, g7, g8, g9, g10, g11, g12⟩ := plGrow_ok hR
    have hlim := (plLim_facts g1).2
    have f5 := stkSz_16 g8
    have f6 := stkSz_16 g2
    have hw : wrap64 (used + more) = used + more := by unfold wrap64; omega
    have cs : size < n → ∃ m, ∀ W, Calls Try.prog 16 #[.int .i64 n, .int .i64 (used + more)] W (ResBB (m, false) W) := fun hlt => by
      have := plGrow_calm hR hlt
      obtain ⟨m, b, hs⟩ : ∃ m b, plShrink n (used + more) = (m, b) := ⟨_, _, rfl⟩
      rw [hs] at this
      obtain rfl : b = false := this
      exact ⟨m, fun W => by rw [← hs]; exact code_plshrink n (used + more) W ⟨by omega, by omega⟩ ⟨by omega, by omega⟩⟩
    obtain ⟨half, b, hS⟩ : ∃ half b, plShrink size used = (half, b) := ⟨_, _, rfl⟩
    have ch := fun W => code_plshrink size used W h0 h1
    rw [hS] at ch
    cases b with
    | true =>
      have hc := plShrink_calm hR hS
      obtain ⟨s1, s2, s3, s4, s5⟩ := plShrink_ok hS
      have s6 := stkSz_16 s1
      have cg := fun W => code_plgrow half used used limit W ⟨by omega, by omega⟩ h1 h1 h3
      rw [hc] at cg
      clear hR g1 g2 g8 hS hc s1 s5
      by_cases hlt : size < n
      · obtain ⟨m, cs⟩ := cs hlt
        --@9
        go_enter Try.func7, Try.ntmps7
        go_wp2_with (first | (go_at_call 14; (with_reducible refine cf.mono ?_); rintro e w1 ⟨rfl, hb1⟩; clear cf) | (go_at_call 16; (with_reducible refine (cs _).mono ?_); rintro e w2 ⟨rfl, hb2⟩; clear cs) | (go_at_call 16; (with_reducible refine (ch _).mono ?_); rintro e w3 ⟨rfl, hb3⟩) | (go_at_call 14; (with_reducible refine (cg _).mono ?_); rintro e w4 ⟨rfl, hb4⟩) | (go_at_call 13; (with_reducible refine (ca _).mono ?_); rintro e w5 ⟨rfl, hb5⟩))
        go_ret
        exact ⟨rfl, belF_tr (belF_tr (belF_tr (belF_tr hb1 hb2) hb3) hb4) hb5⟩
      · clear cs
        --@10
        go_enter Try.func7, Try.ntmps7
        go_wp2_with (first | (go_at_call 14; (with_reducible refine cf.mono ?_); rintro e w1 ⟨rfl, hb1⟩; clear cf) | (go_at_call 16; (with_reducible refine (ch _).mono ?_); rintro e w3 ⟨rfl, hb3⟩) | (go_at_call 14; (with_reducible refine (cg _).mono ?_); rintro e w4 ⟨rfl, hb4⟩) | (go_at_call 13; (with_reducible refine (ca _).mono ?_); rintro e w5 ⟨rfl, hb5⟩))
        go_ret
        exact ⟨rfl, belF_tr (belF_tr (belF_tr hb1 hb3) hb4) hb5⟩
    | false =>
      obtain rfl := plShrink_no hS
      clear hR g1 g2 g8 hS
      by_cases hlt : half < n
      · obtain ⟨m, cs⟩ := cs hlt
        --@11
        go_enter Try.func7, Try.ntmps7
        go_wp2_with (first | (go_at_call 14; (with_reducible refine cf.mono ?_); rintro e w1 ⟨rfl, hb1⟩; clear cf) | (go_at_call 16; (with_reducible refine (cs _).mono ?_); rintro e w2 ⟨rfl, hb2⟩; clear cs) | (go_at_call 16; (with_reducible refine (ch _).mono ?_); rintro e w3 ⟨rfl, hb3⟩) | (go_at_call 13; (with_reducible refine (ca _).mono ?_); rintro e w5 ⟨rfl, hb5⟩))
        go_ret
        exact ⟨rfl, belF_tr (belF_tr (belF_tr hb1 hb2) hb3) hb5⟩
      · clear cs
        --@12
        go_enter Try.func7, Try.ntmps7
        go_wp2_with (first | (go_at_call 14; (with_reducible refine cf.mono ?_); rintro e w1 ⟨rfl, hb1⟩; clear cf) | (go_at_call 16; (with_reducible refine (ch _).mono ?_); rintro e w3 ⟨rfl, hb3⟩) | (go_at_call 13; (with_reducible refine (ca _).mono ?_); rintro e w5 ⟨rfl, hb5⟩))
        go_ret
        exact ⟨rfl, belF_tr (belF_tr hb1 hb3) hb5⟩
  · clear hR
    have hx0 : x ≠ 0 := by omega
    --@13
    go_enter Try.func7, Try.ntmps7
    go_wp2_with (first | (go_at_call 14; (with_reducible refine cf.mono ?_); rintro e w1 ⟨rfl, hb1⟩; clear cf) | (go_at_call 13; (with_reducible refine (ca _).mono ?_); rintro e w5 ⟨rfl, hb5⟩))
    go_ret
    exact ⟨rfl, belF_tr hb1 hb5⟩
end Go.Proofs.Ytbglldgpijglpaa

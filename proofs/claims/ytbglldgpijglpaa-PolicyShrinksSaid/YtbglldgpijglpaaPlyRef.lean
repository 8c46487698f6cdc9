/- The document's own Limit, First, Grow and Shrink (layer 18) are the plain ones. -/
import Derived.Test.YtbglldgpijglpaaPlyMath
namespace Go.Proofs.Ytbglldgpijglpaa
open Go.RowKit
set_option linter.unusedVariables false

theorem ref_pllim (n : Int) (w : World) (hn : in64 n) (b : Bool) (hb : plLim n = b) : Calls Try.prog 11 #[.int .i64 n] w fun e w' => e = .returned (.bool b) ∧ w = w' := by
  unfold plLim at hb
  cases hz : stkSz n with
  | false =>
    have cs := ref_stsize n w hn false hz
    rw [hz, Bool.false_and] at hb
    subst hb
    clear hz
    --@1
    go_enter Try.func11, Try.ntmps11
    go_wp2_with (first | (go_at_call 12; (with_reducible refine cs.mono ?_); rintro e w1 ⟨rfl, rfl⟩))
    go_ret
    exact ⟨rfl, rfl⟩
  | true =>
    have cs := ref_stsize n w hn true hz
    rw [hz, Bool.true_and] at hb
    clear hz
    --@2
    go_enter Try.func11, Try.ntmps11
    go_wp2_with (first | (go_at_call 12; (with_reducible refine cs.mono ?_); rintro e w1 ⟨rfl, rfl⟩))
    go_ret
    exact ⟨by (first | exact congrArg Ending.returned (congrArg Value.bool hb) | (rw [← hb]; rfl)), rfl⟩

/-- What a pair of numbers is told as. -/
def ResN (r : Int × Int) (w : World) (e : Ending) (w' : World) : Prop := e = .returned (.tuple #[.int .i64 r.1, .int .i64 r.2]) ∧ w = w'

theorem ref_plfirst (words limit : Int) (w : World) (h0 : in64 words) (h1 : in64 limit) : Calls Try.prog 9 #[.int .i64 words, .int .i64 limit] w (ResN (plFirst words limit) w) := by
  cases hz : plLim limit with
  | false =>
    have cs := ref_pllim limit w h1 false hz
    have E : plFirst words limit = (0, 1) := by unfold plFirst; rw [if_pos (Or.inl hz)]
    rw [E]
    clear hz E
    --@3
    go_enter Try.func9, Try.ntmps9
    go_wp2_with (first | (go_at_call 11; (with_reducible refine cs.mono ?_); rintro e w1 ⟨rfl, rfl⟩))
    go_ret2
    exact ⟨rfl, rfl⟩
  | true =>
    have cs := ref_pllim limit w h1 true hz
    obtain ⟨l1, l2⟩ := plLim_facts hz
    have l3 := stkSz_16 l1
    obtain ⟨z0, z1⟩ := h0
    by_cases c1 : words < 1
    · have E : plFirst words limit = (0, 1) := by unfold plFirst; rw [if_pos (Or.inr c1)]
      rw [E]
      clear hz E l1
      --@4
      go_enter Try.func9, Try.ntmps9
      go_wp2_with (first | (go_at_call 11; (with_reducible refine cs.mono ?_); rintro e w1 ⟨rfl, rfl⟩))
      go_ret2
      exact ⟨rfl, rfl⟩
    · by_cases c2 : limit < words
      · have E : plFirst words limit = (0, 4) := by unfold plFirst; rw [if_neg (by rw [hz]; simp; omega), if_pos c2]
        rw [E]
        clear hz E l1
        --@5
        go_enter Try.func9, Try.ntmps9
        go_wp2_with (first | (go_at_call 11; (with_reducible refine cs.mono ?_); rintro e w1 ⟨rfl, rfl⟩))
        go_ret2
        exact ⟨rfl, rfl⟩
      · have E : Hid (plFirst words limit = (plDbl 20 16 words, 0)) := hidb (by unfold plFirst; rw [if_neg (by rw [hz]; simp; omega), if_neg c2])
        have F : Hid (words ≤ 16 * ((2 ^ 20 : Nat) : Int)) := hidb (fuel20 (by omega) (by omega))
        clear hz l1
        --@6
        go_enter Try.func9, Try.ntmps9
        go_wp2_with (first | (go_at_call 11; (with_reducible refine cs.mono ?_); rintro e w1 ⟨rfl, rfl⟩))
        clear cs
        go_loopw [6] (fun v wr => ∃ (k : Nat) (s : Int), v = .int .i64 s ∧ 16 ≤ s ∧ s ≤ 131072 ∧ Hid (words ≤ s * ((2 ^ k : Nat) : Int)) ∧ Hid (plDbl k s words = plDbl 20 16 words) ∧ w = wr) (fun v _ => (131072 - intOf v).toNat)
        case atStart => exact ⟨20, 16, rfl, by omega, by omega, F, hidb rfl, rfl⟩
        case round =>
          obtain ⟨k, s, rfl, hs0, hs1, hF, hD, rfl⟩ := hrel
          by_cases c3 : s < words
          · obtain ⟨j, hk⟩ : ∃ j, k = j + 1 := by
              cases k with
              | zero => exact absurd hF.out (by simp; omega)
              | succ j => exact ⟨j, rfl⟩
            have hF2 : Hid (words ≤ 2 * s * ((2 ^ j : Nat) : Int)) := hidb (by
              have := hF.out
              rw [hk, Nat.pow_succ, Int.natCast_mul, ← Int.mul_assoc, Int.mul_comm (s * _), ← Int.mul_assoc] at this
              exact this)
            have hD2 : Hid (plDbl j (2 * s) words = plDbl 20 16 words) := hidb (by have := hD.out; rw [hk, plDbl_go j c3] at this; exact this)
            clear hF hD hk
            go_wp2
            go_roundw
            case rel => exact ⟨j, 2 * s, by go_num, by omega, by omega, hF2, hD2, by first | rfl | trivial⟩
            case measure => simp [intOf]; omega
          · have P : Hid (ResN (plFirst words limit) w (.returned (.tuple #[.int .i64 s, .int .i64 0])) w) := hidb (by
              have := hD.out
              rw [plDbl_stop k c3] at this
              rw [E.out, ← this]
              exact ⟨rfl, rfl⟩)
            clear hF hD
            go_wp2
            go_ret2
            exact P.out

theorem ref_plgrow (size used more limit : Int) (w : World) (h0 : in64 size) (h1 : in64 used) (h2 : in64 more) (h3 : in64 limit) : Calls Try.prog 15 #[.int .i64 size, .int .i64 used, .int .i64 more, .int .i64 limit] w (ResN (plGrow size used more limit) w) := by
  cases hz : plLim limit with
  | false =>
    have cs := ref_pllim limit w h3 false hz
    have E : plGrow size used more limit = (0, 1) := by unfold plGrow; rw [if_pos (Or.inl hz)]
    rw [E]
    clear hz E
    --@7
    go_enter Try.func15, Try.ntmps15
    go_wp2_with (first | (go_at_call 11; (with_reducible refine cs.mono ?_); rintro e w1 ⟨rfl, rfl⟩))
    go_ret2
    exact ⟨rfl, rfl⟩
  | true =>
    have cs := ref_pllim limit w h3 true hz
    obtain ⟨l1, l2⟩ := plLim_facts hz
    have l3 := stkSz_16 l1
    cases hy : stkSz size with
    | false =>
      have cz := ref_stsize size w h0 false hy
      have E : plGrow size used more limit = (0, 1) := by unfold plGrow; rw [if_pos (Or.inr (Or.inl hy))]
      rw [E]
      clear hz hy E l1
      --@8
      go_enter Try.func15, Try.ntmps15
      go_wp2_with (first | (go_at_call 11; (with_reducible refine cs.mono ?_); rintro e w1 ⟨rfl, rfl⟩) | (go_at_call 12; (with_reducible refine cz.mono ?_); rintro e w1 ⟨rfl, rfl⟩))
      go_ret2
      exact ⟨rfl, rfl⟩
    | true =>
      have cz := ref_stsize size w h0 true hy
      have s16 := stkSz_16 hy
      obtain ⟨a0, a1⟩ := h1
      obtain ⟨b0, b1⟩ := h2
      by_cases c1 : limit < size ∨ used < 0 ∨ size < used ∨ more < 0
      · have E : plGrow size used more limit = (0, 1) := by unfold plGrow; rw [if_pos (Or.inr (Or.inr c1))]
        rw [E]
        clear hz hy E l1
        by_cases c2 : limit < size
        · clear c1
          --@9
          go_enter Try.func15, Try.ntmps15
          go_wp2_with (first | (go_at_call 11; (with_reducible refine cs.mono ?_); rintro e w1 ⟨rfl, rfl⟩) | (go_at_call 12; (with_reducible refine cz.mono ?_); rintro e w1 ⟨rfl, rfl⟩))
          go_ret2
          exact ⟨rfl, rfl⟩
        · by_cases c3 : used < 0
          · clear c1
            --@10
            go_enter Try.func15, Try.ntmps15
            go_wp2_with (first | (go_at_call 11; (with_reducible refine cs.mono ?_); rintro e w1 ⟨rfl, rfl⟩) | (go_at_call 12; (with_reducible refine cz.mono ?_); rintro e w1 ⟨rfl, rfl⟩))
            go_ret2
            exact ⟨rfl, rfl⟩
          · by_cases c4 : size < used
            · clear c1
              --@11
              go_enter Try.func15, Try.ntmps15
              go_wp2_with (first | (go_at_call 11; (with_reducible refine cs.mono ?_); rintro e w1 ⟨rfl, rfl⟩) | (go_at_call 12; (with_reducible refine cz.mono ?_); rintro e w1 ⟨rfl, rfl⟩))
              go_ret2
              exact ⟨rfl, rfl⟩
            · have c5 : more < 0 := by omega
              clear c1
              --@12
              go_enter Try.func15, Try.ntmps15
              go_wp2_with (first | (go_at_call 11; (with_reducible refine cs.mono ?_); rintro e w1 ⟨rfl, rfl⟩) | (go_at_call 12; (with_reducible refine cz.mono ?_); rintro e w1 ⟨rfl, rfl⟩))
              go_ret2
              exact ⟨rfl, rfl⟩
      · obtain ⟨d1, d2, d3, d4⟩ : size ≤ limit ∧ 0 ≤ used ∧ used ≤ size ∧ 0 ≤ more := by omega
        have N : ¬ (plLim limit = false ∨ stkSz size = false ∨ limit < size ∨ used < 0 ∨ size < used ∨ more < 0) := by rw [hz, hy]; simp; omega
        clear c1
        by_cases c6 : limit < used + more
        · have E : plGrow size used more limit = (0, 4) := by unfold plGrow; rw [if_neg N, if_pos c6]
          rw [E]
          clear hz hy E l1 N
          by_cases c7 : limit < more
          · --@13
            go_enter Try.func15, Try.ntmps15
            go_wp2_with (first | (go_at_call 11; (with_reducible refine cs.mono ?_); rintro e w1 ⟨rfl, rfl⟩) | (go_at_call 12; (with_reducible refine cz.mono ?_); rintro e w1 ⟨rfl, rfl⟩))
            go_ret2
            exact ⟨rfl, rfl⟩
          · have hw : wrap64 (used + more) = used + more := by unfold wrap64; omega
            --@14
            go_enter Try.func15, Try.ntmps15
            go_wp2_with (first | (go_at_call 11; (with_reducible refine cs.mono ?_); rintro e w1 ⟨rfl, rfl⟩) | (go_at_call 12; (with_reducible refine cz.mono ?_); rintro e w1 ⟨rfl, rfl⟩))
            go_ret2
            exact ⟨rfl, rfl⟩
        · have E : Hid (plGrow size used more limit = (plDbl 20 size (used + more), 0)) := hidb (by unfold plGrow; rw [if_neg N, if_neg c6])
          have F : Hid (used + more ≤ size * ((2 ^ 20 : Nat) : Int)) := hidb (fuel20 s16 (by omega))
          have hw : wrap64 (used + more) = used + more := by unfold wrap64; omega
          clear hz hy l1 N
          --@15
          go_enter Try.func15, Try.ntmps15
          go_wp2_with (first | (go_at_call 11; (with_reducible refine cs.mono ?_); rintro e w1 ⟨rfl, rfl⟩) | (go_at_call 12; (with_reducible refine cz.mono ?_); rintro e w1 ⟨rfl, rfl⟩))
          clear cs cz
          go_loopw [0] (fun v wr => ∃ (k : Nat) (s : Int), v = .int .i64 s ∧ 16 ≤ s ∧ s ≤ 131072 ∧ Hid (used + more ≤ s * ((2 ^ k : Nat) : Int)) ∧ Hid (plDbl k s (used + more) = plDbl 20 size (used + more)) ∧ w = wr) (fun v _ => (131072 - intOf v).toNat)
          case atStart => exact ⟨20, size, rfl, by omega, by omega, F, hidb rfl, rfl⟩
          case round =>
            obtain ⟨k, s, rfl, hs0, hs1, hF, hD, rfl⟩ := hrel
            by_cases c3 : s < used + more
            · obtain ⟨j, hk⟩ : ∃ j, k = j + 1 := by
                cases k with
                | zero => exact absurd hF.out (by simp; omega)
                | succ j => exact ⟨j, rfl⟩
              have hF2 : Hid (used + more ≤ 2 * s * ((2 ^ j : Nat) : Int)) := hidb (by
                have := hF.out
                rw [hk, Nat.pow_succ, Int.natCast_mul, ← Int.mul_assoc, Int.mul_comm (s * _), ← Int.mul_assoc] at this
                exact this)
              have hD2 : Hid (plDbl j (2 * s) (used + more) = plDbl 20 size (used + more)) := hidb (by have := hD.out; rw [hk, plDbl_go j c3] at this; exact this)
              clear hF hD hk
              go_wp2
              go_roundw
              case rel => exact ⟨j, 2 * s, by go_num, by omega, by omega, hF2, hD2, by first | rfl | trivial⟩
              case measure => simp [intOf]; omega
            · have P : Hid (ResN (plGrow size used more limit) w (.returned (.tuple #[.int .i64 s, .int .i64 0])) w) := hidb (by
                have := hD.out
                rw [plDbl_stop k c3] at this
                rw [E.out, ← this]
                exact ⟨rfl, rfl⟩)
              clear hF hD
              go_wp2
              go_ret2
              exact P.out

/-- What a number and a yes or no are told as. -/
def ResB (r : Int × Bool) (w : World) (e : Ending) (w' : World) : Prop := e = .returned (.tuple #[.int .i64 r.1, .bool r.2]) ∧ w = w'

theorem ref_plshrink (size used : Int) (w : World) (h0 : in64 size) (h1 : in64 used) : Calls Try.prog 17 #[.int .i64 size, .int .i64 used] w (ResB (plShrink size used) w) := by
  cases hz : stkSz size with
  | false =>
    have cs := ref_stsize size w h0 false hz
    have E : plShrink size used = (size, false) := by unfold plShrink; rw [if_neg (by rw [hz]; simp)]
    rw [E]
    clear hz E
    --@16
    go_enter Try.func17, Try.ntmps17
    go_wp2_with (first | (go_at_call 12; (with_reducible refine cs.mono ?_); rintro e w1 ⟨rfl, rfl⟩))
    go_ret2
    exact ⟨rfl, rfl⟩
  | true =>
    have cs := ref_stsize size w h0 true hz
    have s16 := stkSz_16 hz
    have hmax : size ≤ 4611686018427387904 := by
      obtain ⟨k, hk, e⟩ := stkSz_pow hz
      have : k ≤ 62 := by
        refine Decidable.byContradiction fun c => ?_
        have : 2 ^ 63 ≤ 2 ^ k := Nat.pow_le_pow_right (by omega) (by omega)
        have := h0.2
        omega
      have : 2 ^ k ≤ 2 ^ 62 := Nat.pow_le_pow_right (by omega) this
      omega
    obtain ⟨a0, a1⟩ := h1
    by_cases c1 : size = 16
    · have E : plShrink size used = (size, false) := by unfold plShrink; rw [if_neg (by simp [c1])]
      rw [E]
      subst c1
      clear hz E
      --@17
      go_enter Try.func17, Try.ntmps17
      go_wp2_with (first | (go_at_call 12; (with_reducible refine cs.mono ?_); rintro e w1 ⟨rfl, rfl⟩))
      go_ret2
      exact ⟨rfl, rfl⟩
    · have c1' : (size == 16) = false := by simp; exact c1
      by_cases c2 : used < 0
      · have E : plShrink size used = (size, false) := by unfold plShrink; rw [if_neg (by omega)]
        rw [E]
        clear hz E
        --@18
        go_enter Try.func17, Try.ntmps17
        go_wp2_with (first | (go_at_call 12; (with_reducible refine cs.mono ?_); rintro e w1 ⟨rfl, rfl⟩))
        go_ret2
        exact ⟨rfl, rfl⟩
      · by_cases c3 : size < used
        · have E : plShrink size used = (size, false) := by unfold plShrink; rw [if_neg (by omega)]
          rw [E]
          clear hz E
          --@19
          go_enter Try.func17, Try.ntmps17
          go_wp2_with (first | (go_at_call 12; (with_reducible refine cs.mono ?_); rintro e w1 ⟨rfl, rfl⟩))
          go_ret2
          exact ⟨rfl, rfl⟩
        · obtain ⟨s1, hs1⟩ : ∃ s1, wrap64 (used + used) = s1 := ⟨_, rfl⟩
          obtain ⟨s2, hs2⟩ : ∃ s2, wrap64 (s1 + used) = s2 := ⟨_, rfl⟩
          obtain ⟨s3, hs3⟩ : ∃ s3, wrap64 (s2 + used) = s3 := ⟨_, rfl⟩
          have F : used ≤ 1152921504606846976 → s3 = 4 * used := by
            intro h
            have e1 : s1 = used + used := by rw [← hs1]; unfold wrap64; omega
            have e2 : s2 = s1 + used := by rw [← hs2]; unfold wrap64; omega
            have e3 : s3 = s2 + used := by rw [← hs3]; unfold wrap64; omega
            omega
          by_cases c4 : size < s3
          · have E : plShrink size used = (size, false) := by unfold plShrink; rw [if_neg (by omega)]
            rw [E]
            clear hz E F
            --@20
            go_enter Try.func17, Try.ntmps17
            go_wp2_with (first | (go_at_call 12; (with_reducible refine cs.mono ?_); rintro e w1 ⟨rfl, rfl⟩))
            go_ret2
            exact ⟨rfl, rfl⟩
          · by_cases c5 : 1152921504606846976 < used
            · have E : plShrink size used = (size, false) := by unfold plShrink; rw [if_neg (by omega)]
              rw [E]
              clear hz E F
              --@21
              go_enter Try.func17, Try.ntmps17
              go_wp2_with (first | (go_at_call 12; (with_reducible refine cs.mono ?_); rintro e w1 ⟨rfl, rfl⟩))
              go_ret2
              exact ⟨rfl, rfl⟩
            · have E : Hid (plShrink size used = (size / 2, true)) := hidb (by unfold plShrink; rw [if_pos ⟨hz, c1, by omega, by have := F (by omega); omega⟩])
              have hq : Int.tdiv size 2 = size / 2 := Int.tdiv_eq_ediv_of_nonneg (by omega)
              have c6 : used + used + used + used ≤ size := by have := F (by omega); omega
              clear hz F c4 hs1 hs2 hs3
              --@22
              go_enter Try.func17, Try.ntmps17
              go_wp2_with (first | (go_at_call 12; (with_reducible refine cs.mono ?_); rintro e w1 ⟨rfl, rfl⟩))
              go_ret2
              rw [E.out]
              exact ⟨by go_num, rfl⟩
end Go.Proofs.Ytbglldgpijglpaa

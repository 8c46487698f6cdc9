/- Are two rows of runs the same? The document's own answer. -/
import Derived.Test.YtcgfmpegakpddaaGreatRows7
import Derived.WalkKit
import Derived.ProofKit
import Derived.WalkLawsBesides
import Derived.WalkSpells
import Derived.Deep.QuietTactic
import Derived.BigQuiet
import Derived.Laws.OwnMore
import Derived.Laws.StructEq
namespace Go.Proofs.YtcgfmpegakpddaaGreat
open Go.RowKit
set_option linter.unusedVariables false

theorem neq_run (a b c d : Int) (W : World) : (binOp .neq 47 (.agg #[.int .i64 a, .int .i64 b]) (.agg #[.int .i64 c, .int .i64 d])).run Tryz.prog W = .ok (.bool (!(a == c && b == d))) W := by
  simp [go_sem]
  by_cases h1 : a = c <;> by_cases h2 : b = d <;> simp [h1, h2]

theorem ref_xsame (A A2 : Option Addr) (n c m d : Nat) (xs ys : List (Int × Int)) (w : World) (B B2 : Nat) (hs : Rn w B A n xs) (hs2 : Rn w B2 A2 m ys) (hn : n ≤ 9223372036854775806) (hm : m ≤ 9223372036854775806) :
    Calls Tryz.prog 26 #[.slice A n c, .slice A2 m d] w fun e w' => e = .returned (.bool (decide (xs = ys))) ∧ ∃ q, w' = w.drewN q := by
  have l1 : xs.length = n := hs.1
  have l2 : ys.length = m := hs2.1
  by_cases hnm : n = m
  · subst hnm
    have L1 := hidb l1
    have L2 := hidb l2
    have HS := hidb hs
    have HS2 := hidb hs2
    clear hs hs2 l1 l2
    go_enter Tryz.func26, Tryz.ntmps26
    go_wp2
    go_loopw [13] (fun k wr => ∃ j q : Nat, j ≤ n ∧ Hid (∀ i, i < j → xs[i]? = ys[i]?) ∧ k = .int .i64 j ∧ wr = w.drewN q) (fun k _ => (n - intOf k).toNat)
    case atStart => exact ⟨0, 0, by omega, hidb (fun i h => absurd h (Nat.not_lt_zero _)), rfl, rfl⟩
    case round =>
      obtain ⟨j, q, hj, HA, rfl, rfl⟩ := hrel
      by_cases hlt : j < n
      · obtain ⟨b, off, s, l, rfl, _, hx, hc1, hc1'⟩ := HS.out.at_ hlt
        obtain ⟨b2, off2, s2, l2, rfl, _, hy, hc2, hc2'⟩ := HS2.out.at_ hlt
        have HX := hidb hx
        have HY := hidb hy
        clear hx hy
        have hi0 : (0 : Int) ≤ (j : Int) := by omega
        have hi1 : (j : Int) < (n : Int) := by omega
        have hq := fun W => neq_run s l s2 l2 W
        by_cases e : s = s2 ∧ l = l2
        · obtain ⟨rfl, rfl⟩ := e
          rw [show (!(s == s && l == l)) = false by simp] at hq
          go_wp2
          go_quiet (fail)
          go_wp2
          go_roundw
          case rel =>
            refine ⟨j + 1, _, by omega, hidb (fun i hi => ?_), by go_num, rfl⟩
            by_cases h : i = j
            · subst h; rw [HX.out, HY.out]
            · exact HA.out i (by omega)
          case measure => simp [intOf]; omega
        · have e2 : (!(s == s2 && l == l2)) = true := by
            rw [Bool.not_eq_true', Bool.and_eq_false_iff]
            by_cases h : s = s2
            · exact Or.inr (by simpa using fun h2 => e ⟨h, h2⟩)
            · exact Or.inl (by simpa using h)
          rw [e2] at hq
          have HF : Hid (decide (xs = ys) = false) := hidb (decide_eq_false (fun h => e (by have := HX.out; rw [h, HY.out] at this; simpa [eq_comm] using this)))
          clear e e2
          go_wp2
          go_quiet (fail)
          go_wp2
          go_ret
          exact ⟨by rw [HF.out]; rfl, _, World.drewN_drewN _ _ _⟩
      · have HF : Hid (decide (xs = ys) = true) := hidb (decide_eq_true (List.ext_getElem? (fun i => by
          by_cases h : i < n
          · exact HA.out i (by omega)
          · rw [List.getElem?_eq_none (by rw [L1.out]; omega), List.getElem?_eq_none (by rw [L2.out]; omega)])))
        go_wp2
        go_ret
        exact ⟨by rw [HF.out]; rfl, _, rfl⟩
  · have HF : Hid (decide (xs = ys) = false) := hidb (decide_eq_false (fun h => hnm (by rw [← l1, ← l2, h])))
    have eb : ((n : Int) != (m : Int)) = true := by simp; omega
    clear hs hs2 l1 l2
    go_enter Tryz.func26, Tryz.ntmps26
    go_wp2
    go_ret
    exact ⟨by rw [HF.out]; rfl, 0, rfl⟩

end Go.Proofs.YtcgfmpegakpddaaGreat

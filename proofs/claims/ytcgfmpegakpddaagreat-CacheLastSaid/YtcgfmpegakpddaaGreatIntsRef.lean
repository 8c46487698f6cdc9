/- What In and Ints of the document's own answers to layer 3 return (alone: layers from 8 on need them). -/
import Derived.Test.YtcgfmpegakpddaaGreatRows7
namespace Go.Proofs.YtcgfmpegakpddaaGreat
open Go.RowKit
set_option linter.unusedVariables false

theorem ref_bin (A : Option Addr) (n c : Nat) (zs : List Int) (v : Int) (w : World) (B : Nat) (hs : Sl w B A n (zs.map iv)) (hn : n ≤ 9223372036854775806) :
    Calls Tryz.prog 30 #[.slice A n c, .int .i64 v] w fun e w' => e = .returned (.bool (decide (v ∈ zs))) ∧ w = w' := by
  have l1 : zs.length = n := by have := hs.1; simpa using this
  have L1 := hidb l1
  have HS := hidb hs
  clear hs l1
  go_enter Tryz.func30, Tryz.ntmps30
  go_wp2
  go_loop [8] (fun k => ∃ j : Nat, j ≤ n ∧ Hid (∀ i, i < j → zs[i]? ≠ some v) ∧ k = .int .i64 j) (fun k => (n - intOf k).toNat)
  case atStart => exact ⟨0, by omega, hidb (fun i h => absurd h (Nat.not_lt_zero _)), rfl⟩
  case round =>
    obtain ⟨j, hj, HA, rfl⟩ := hrel
    by_cases hlt : j < n
    · obtain ⟨b, off, x, rfl, hx, hc⟩ := HS.out.int_ hlt
      have HX := hidb hx
      clear hx
      by_cases e : x = v
      · have HF : Hid (decide (v ∈ zs) = true) := hidb (decide_eq_true (by rw [← e]; exact List.mem_of_getElem? HX.out))
        have eb : (x == v) = true := by simpa using e
        clear e
        go_wp2
        go_ret
        exact ⟨by rw [HF.out]; rfl, rfl⟩
      · have eb : (x == v) = false := by simpa using e
        have HE := hidb e
        clear e
        go_wp2
        go_round
        case rel =>
          refine ⟨j + 1, by omega, hidb (fun i hi => ?_), by go_num⟩
          by_cases h : i = j
          · subst h; rw [HX.out]; intro h2; exact HE.out (by simpa using h2)
          · exact HA.out i (by omega)
        case measure => simp [intOf]; omega
    · have HF : Hid (decide (v ∈ zs) = false) := hidb (decide_eq_false (fun hmem => by
        obtain ⟨i, hi, e⟩ := List.getElem_of_mem hmem
        exact HA.out i (by have := L1.out; omega) (by rw [List.getElem?_eq_getElem hi, e])))
      go_wp2
      go_ret
      exact ⟨by rw [HF.out]; rfl, rfl⟩

theorem ref_bints (A A2 : Option Addr) (n c m d : Nat) (xs ys : List Int) (w : World) (B B2 : Nat) (hs : Sl w B A n (xs.map iv)) (hs2 : Sl w B2 A2 m (ys.map iv)) (hn : n ≤ 9223372036854775806) (hm : m ≤ 9223372036854775806) :
    Calls Tryz.prog 16 #[.slice A n c, .slice A2 m d] w fun e w' => e = .returned (.bool (decide (xs = ys))) ∧ ∃ q, w' = w.drewN q := by
  have l1 : xs.length = n := by have := hs.1; simpa using this
  have l2 : ys.length = m := by have := hs2.1; simpa using this
  by_cases hnm : n = m
  · subst hnm
    have L1 := hidb l1
    have L2 := hidb l2
    have HS := hidb hs
    have HS2 := hidb hs2
    clear hs hs2 l1 l2
    go_enter Tryz.func16, Tryz.ntmps16
    go_wp2
    go_loopw [13] (fun k wr => ∃ j q : Nat, j ≤ n ∧ Hid (∀ i, i < j → xs[i]? = ys[i]?) ∧ k = .int .i64 j ∧ wr = w.drewN q) (fun k _ => (n - intOf k).toNat)
    case atStart => exact ⟨0, 0, by omega, hidb (fun i h => absurd h (Nat.not_lt_zero _)), rfl, rfl⟩
    case round =>
      obtain ⟨j, q, hj, HA, rfl, rfl⟩ := hrel
      by_cases hlt : j < n
      · obtain ⟨b, off, x, rfl, hx, hc1⟩ := HS.out.int_ hlt
        obtain ⟨b2, off2, y, rfl, hy, hc2⟩ := HS2.out.int_ hlt
        have HX := hidb hx
        have HY := hidb hy
        clear hx hy
        have hi0 : (0 : Int) ≤ (j : Int) := by omega
        have hi1 : (j : Int) < (n : Int) := by omega
        by_cases e : x = y
        · have eb : (x != y) = false := by simpa using e
          have HE := hidb e
          clear e
          go_wp2
          go_quiet (fail)
          go_wp2
          go_roundw
          case rel =>
            refine ⟨j + 1, _, by omega, hidb (fun i hi => ?_), by go_num, rfl⟩
            by_cases h : i = j
            · subst h; rw [HX.out, HY.out, HE.out]
            · exact HA.out i (by omega)
          case measure => simp [intOf]; omega
        · have eb : (x != y) = true := by simpa using e
          have HF : Hid (decide (xs = ys) = false) := hidb (decide_eq_false (fun h => e (by rw [h, HY.out] at HX; simpa using HX.out.symm)))
          clear e
          go_wp2
          go_quiet (fail)
          go_wp2
          go_ret
          exact ⟨by rw [HF.out]; rfl, _, World.drewN_drewN _ _ _⟩
      · have HF : Hid (decide (xs = ys) = true) := hidb (decide_eq_true (List.ext_getElem? (fun i => by
          by_cases hi : i < n
          · exact HA.out i (by omega)
          · rw [List.getElem?_eq_none (by have := L1.out; omega), List.getElem?_eq_none (by have := L2.out; omega)])))
        go_wp2
        go_ret
        exact ⟨by rw [HF.out]; rfl, q, rfl⟩
  · have HF : Hid (decide (xs = ys) = false) := hidb (decide_eq_false (fun h => hnm (by rw [← l1, ← l2, h])))
    have eb : ((n : Int) != (m : Int)) = true := by simp; omega
    clear hs hs2 l1 l2 hnm
    go_enter Tryz.func16, Tryz.ntmps16
    go_wp2
    go_ret
    exact ⟨by rw [HF.out]; rfl, 0, rfl⟩

end Go.Proofs.YtcgfmpegakpddaaGreat

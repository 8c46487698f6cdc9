/- What each function of the document's own answers to layer 4 (arena) returns. -/
import Derived.Test.YtlniakcoikhilaaDoorRowWords
import Derived.Test.YtlniakcoikhilaaDoorArenaAll
namespace Go.Proofs.YtlniakcoikhilaaDoor
open Go.RowKit
set_option linter.unusedVariables false

theorem made_words (n : Nat) : (madeCells (Value.int .u64 0).cells (n * 1)).toList = (List.replicate n 0).map wv := by
  rw [Nat.mul_one]
  exact (toList_madeCells_one _ n).trans (by simp [wv])

theorem ref_asame (A A2 : Option Addr) (n c m d : Nat) (xs ys : List Nat) (w : World) (B B2 : Nat) (hs : Sl w B A n (xs.map wv)) (hs2 : Sl w B2 A2 m (ys.map wv)) (hn : n ≤ 9223372036854775806) (hm : m ≤ 9223372036854775806) :
    Calls Tryd.prog 15 #[.slice A n c, .slice A2 m d] w fun e w' => e = .returned (.bool (decide (xs = ys))) ∧ ∃ q, w' = w.drewN q := by
  have l1 : xs.length = n := by have := hs.1; simpa using this
  have l2 : ys.length = m := by have := hs2.1; simpa using this
  by_cases hnm : n = m
  · subst hnm
    have L1 := hidb l1
    have L2 := hidb l2
    have HS := hidb hs
    have HS2 := hidb hs2
    clear hs hs2 l1 l2
    go_enter Tryd.func15, Tryd.ntmps15
    go_wp2
    go_loopw [13] (fun k wr => ∃ j q : Nat, j ≤ n ∧ Hid (∀ i, i < j → xs[i]? = ys[i]?) ∧ k = .int .i64 j ∧ wr = w.drewN q) (fun k _ => (n - intOf k).toNat)
    case atStart => exact ⟨0, 0, by omega, hidb (fun i h => absurd h (Nat.not_lt_zero _)), rfl, rfl⟩
    case round =>
      obtain ⟨j, q, hj, HA, rfl, rfl⟩ := hrel
      by_cases hlt : j < n
      · obtain ⟨b, off, x, rfl, hx, hc1⟩ := HS.out.word hlt
        obtain ⟨b2, off2, y, rfl, hy, hc2⟩ := HS2.out.word hlt
        have HX := hidb hx
        have HY := hidb hy
        clear hx hy
        have hi0 : (0 : Int) ≤ (j : Int) := by omega
        have hi1 : (j : Int) < (n : Int) := by omega
        by_cases e : x = y
        · have eb : ((x : Int) != (y : Int)) = false := by simp; omega
          have HE := hidb e
          clear e
          go_wp2
          go_quiet (fail)
          go_wp2
          go_roundw
          case rel =>
            refine ⟨j + 1, _, by omega, hidb (fun i hi => ?_), by go_num, rfl⟩
            by_cases h : i = j
            · subst h; rw [HX.out, HY.out, HE.out]
            · exact HA.out i (by omega)
          case measure => simp [intOf]; omega
        · have eb : ((x : Int) != (y : Int)) = true := by simp; omega
          have HF : Hid (decide (xs = ys) = false) := hidb (decide_eq_false (fun h => e (by rw [h, HY.out] at HX; simpa using HX.out.symm)))
          clear e
          go_wp2
          go_quiet (fail)
          go_wp2
          go_ret
          exact ⟨by rw [HF.out]; rfl, _, World.drewN_drewN _ _ _⟩
      · have HF : Hid (decide (xs = ys) = true) := hidb (decide_eq_true (List.ext_getElem? (fun i => by
          by_cases hi : i < n
          · exact HA.out i (by omega)
          · rw [List.getElem?_eq_none (by have := L1.out; omega), List.getElem?_eq_none (by have := L2.out; omega)])))
        go_wp2
        go_ret
        exact ⟨by rw [HF.out]; rfl, q, rfl⟩
  · have HF : Hid (decide (xs = ys) = false) := hidb (decide_eq_false (fun h => hnm (by rw [← l1, ← l2, h])))
    have eb : ((n : Int) != (m : Int)) = true := by simp; omega
    clear hs hs2 l1 l2 hnm
    go_enter Tryd.func15, Tryd.ntmps15
    go_wp2
    go_ret
    exact ⟨by rw [HF.out]; rfl, 0, rfl⟩

end Go.Proofs.YtlniakcoikhilaaDoor

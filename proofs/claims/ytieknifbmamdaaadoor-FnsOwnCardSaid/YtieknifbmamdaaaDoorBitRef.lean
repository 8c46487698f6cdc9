/- What each function of the document's own answers to layer 3 (bitmap) returns. -/
import Derived.Test.YtieknifbmamdaaaDoorRowWords
import Derived.Test.YtieknifbmamdaaaDoorBitMath
import Derived.WalkKit
import Derived.ProofKit
import Derived.WalkLawsBesides
import Derived.WalkSpells
import Derived.Deep.QuietTactic
import Derived.BigQuiet
namespace Go.Proofs.YtieknifbmamdaaaDoor
open Go.RowKit
set_option linter.unusedVariables false

theorem ref_bhas (A : Option Addr) (n c : Nat) (ws : List Nat) (i : Int) (w : World) (B : Nat) (hs : Sl w B A n (ws.map wv)) (hn : n ≤ 9223372036854775807) (hw : ∀ x ∈ ws, x < 18446744073709551616) (h0 : -9223372036854775808 ≤ i) (h1 : i ≤ 9223372036854775807) :
    Calls Tryd.prog 26 #[.slice A n c, .int .i64 i] w fun e w' => e = .returned (.bool (bHas ws i)) ∧ w = w' := by
  have hl : ws.length = n := by have := hs.1; simpa using this
  by_cases hneg : i < 0
  · rw [bHas_neg ws i hneg]
    clear hs hw hl
    go_enter Tryd.func26, Tryd.ntmps26
    go_wp2
    go_ret
    exact ⟨rfl, rfl⟩
  · have hp : 0 ≤ i := by omega
    by_cases hpast : (n : Int) ≤ i / 64
    · rw [bHas_past ws i (by omega)]
      clear hs hw hl
      go_enter Tryd.func26, Tryd.ntmps26
      go_wp2
      go_ret
      exact ⟨rfl, rfl⟩
    · obtain ⟨b, off, u, rfl, _, hu, hcell⟩ := hs.at_ (k := i.toNat / 64) (by omega)
      obtain ⟨x, hx⟩ : ∃ x, ws.getD (i.toNat / 64) 0 = x := ⟨_, rfl⟩
      have hlt : i.toNat / 64 < ws.length := by omega
      have hxx : ws[i.toNat / 64]? = some x := by
        rw [← hx, List.getD_eq_getElem?_getD, List.getElem?_eq_getElem hlt]; rfl
      have hmem : x < 18446744073709551616 := hw x (List.mem_of_getElem? hxx)
      rw [List.getElem?_map, hxx] at hu
      obtain rfl : u = wv x := by simpa using hu.symm
      have E : Hid (bHas ws i = x.testBit (i.toNat % 64)) := hidb (by rw [bHas_at ws i hp, hx])
      have hcell' : w.cell? ⟨b, off + i.toNat / 64, none⟩ = some (.int .u64 (x : Int)) := hcell
      have hi64 : (i / 64).toNat = i.toNat / 64 := by omega
      have hi0 : 0 ≤ i / 64 := by omega
      clear hs hw hl hu hcell hx hxx hlt
      go_enter Tryd.func26, Tryd.ntmps26
      go_wp2
      go_loop [5, 6] (fun v k => ∃ (j : Nat) (y : Int), (j : Int) ≤ i % 64 ∧ 0 ≤ y ∧ y ≤ 18446744073709551615 ∧ Hid (y = ((x / 2 ^ j : Nat) : Int)) ∧ v = .int .u64 y ∧ k = .int .i64 j) (fun _ k => (64 - intOf k).toNat)
      case atStart => exact ⟨0, x, by omega, by omega, by omega, hidb (by simp), rfl, rfl⟩
      case round =>
        obtain ⟨j, y, hj, hy0, hy1, HY, rfl, rfl⟩ := hrel
        by_cases hlt : (j : Int) < i % 64
        · go_wp2
          go_round
          case rel => exact ⟨j + 1, y / 2, by omega, by omega, by omega, hidb (by rw [HY.out, Nat.pow_succ, ← Nat.div_div_eq_div_mul]; omega), rfl, by go_num⟩
          case measure => simp [intOf]; omega
        · have hje : j = i.toNat % 64 := by omega
          have HB : Hid (bHas ws i = (y % 2 == 1)) := hidb (by
            rw [E.out, testBit_div, HY.out, hje]
            rw [Bool.eq_iff_iff, decide_eq_true_iff, beq_iff_eq]; omega)
          clear hje
          go_wp2
          go_ret
          exact ⟨congrArg Ending.returned (congrArg Value.bool HB.out.symm), rfl⟩

theorem ref_bsame (A A2 : Option Addr) (n c m d : Nat) (xs ys : List Nat) (w : World) (B B2 : Nat) (hs : Sl w B A n (xs.map wv)) (hs2 : Sl w B2 A2 m (ys.map wv)) (hn : n ≤ 9223372036854775806) (hm : m ≤ 9223372036854775806) :
    Calls Tryd.prog 32 #[.slice A n c, .slice A2 m d] w fun e w' => e = .returned (.bool (bSame xs ys)) ∧ w = w' := by
  have l1 : xs.length = n := by have := hs.1; simpa using this
  have l2 : ys.length = m := by have := hs2.1; simpa using this
  have L1 := hidb l1
  have L2 := hidb l2
  have HS := hidb hs
  have HS2 := hidb hs2
  clear hs hs2 l1 l2
  go_enter Tryd.func32, Tryd.ntmps32
  go_wp2
  go_loop [5] (fun k => ∃ j : Nat, j ≤ max n m ∧ Hid (∀ i, i < j → xs.getD i 0 = ys.getD i 0) ∧ k = .int .i64 j) (fun k => (max n m - intOf k).toNat)
  case atStart => exact ⟨0, by omega, hidb (fun i h => absurd h (Nat.not_lt_zero _)), rfl⟩
  case round =>
    obtain ⟨j, hj, HA, rfl⟩ := hrel
    by_cases hlt : j < max n m
    · obtain ⟨x, hx⟩ : ∃ x, xs.getD j 0 = x := ⟨_, rfl⟩
      obtain ⟨y, hy⟩ : ∃ y, ys.getD j 0 = y := ⟨_, rfl⟩
      have step : x = y → ∀ i, i < j + 1 → xs.getD i 0 = ys.getD i 0 := fun e i hi => by
        by_cases h : i = j
        · subst h; rw [hx, hy, e]
        · exact HA.out i (by omega)
      have STEP := hidb step
      have FALSE : Hid (x ≠ y → bSame xs ys = false) := hidb (fun e => bSame_false xs ys j (by rw [L1.out, L2.out]; exact hlt) (by rw [hx, hy]; exact e))
      clear step
      by_cases h1 : j < n
      · obtain ⟨b, off, x', rfl, hx', hc1⟩ := HS.out.word h1
        obtain rfl : x' = x := (getD_at _ _ _ _ hx').symm.trans hx
        by_cases h2 : j < m
        · obtain ⟨b2, off2, y', rfl, hy', hc2⟩ := HS2.out.word h2
          obtain rfl : y' = y := (getD_at _ _ _ _ hy').symm.trans hy
          clear hx hy hx' hy' hlt
          by_cases e : x' = y'
          · have eb : ((x' : Int) != (y' : Int)) = false := by simp; omega
            have HE := hidb e
            clear e
            go_wp2
            go_round
            case rel => exact ⟨j + 1, by omega, hidb (STEP.out HE.out), by go_num⟩
            case measure => simp [intOf]; omega
          · have eb : ((x' : Int) != (y' : Int)) = true := by simp; omega
            have HF := hidb (FALSE.out e)
            clear e
            go_wp2
            go_ret
            exact ⟨by rw [HF.out]; rfl, rfl⟩
        · have y0 : y = 0 := hy.symm.trans (getD_none _ _ _ (by rw [L2.out]; omega))
          subst y0
          clear hx hy hx' hlt
          by_cases e : x' = 0
          · have eb : ((x' : Int) != 0) = false := by simpa using e
            have HE := hidb e
            clear e
            go_wp2
            go_round
            case rel => exact ⟨j + 1, by omega, hidb (STEP.out HE.out), by go_num⟩
            case measure => simp [intOf]; omega
          · have eb : ((x' : Int) != 0) = true := by simpa using e
            have HF := hidb (FALSE.out e)
            clear e
            go_wp2
            go_ret
            exact ⟨by rw [HF.out]; rfl, rfl⟩
      · have h2 : j < m := by omega
        have x0 : x = 0 := hx.symm.trans (getD_none _ _ _ (by rw [L1.out]; omega))
        subst x0
        obtain ⟨b2, off2, y', rfl, hy', hc2⟩ := HS2.out.word h2
        obtain rfl : y' = y := (getD_at _ _ _ _ hy').symm.trans hy
        clear hx hy hy' hlt
        by_cases e : 0 = y'
        · have eb : ((0 : Int) != (y' : Int)) = false := by simp; omega
          have HE := hidb e
          clear e
          go_wp2
          go_round
          case rel => exact ⟨j + 1, by omega, hidb (STEP.out HE.out), by go_num⟩
          case measure => simp [intOf]; omega
        · have eb : ((0 : Int) != (y' : Int)) = true := by simp; omega
          have HF := hidb (FALSE.out e)
          clear e
          go_wp2
          go_ret
          exact ⟨by rw [HF.out]; rfl, rfl⟩
    · have HT : Hid (bSame xs ys = true) := hidb (bSame_true xs ys (fun i hi => HA.out i (by rw [L1.out, L2.out] at hi; omega)))
      have h1 : ¬ j < n := by omega
      have h2 : ¬ j < m := by omega
      go_wp2
      go_ret
      exact ⟨by rw [HT.out]; rfl, rfl⟩

end Go.Proofs.YtieknifbmamdaaaDoor

/- What each function of the document's own answers to layer 3 (bitmap) returns. -/
import Derived.Test.YtdcnpaodcjfdbaaGreatDoorRowWords
import Derived.Test.YtdcnpaodcjfdbaaGreatDoorBitMath
import Derived.WalkKit
import Derived.ProofKit
import Derived.WalkLawsBesides
import Derived.WalkSpells
import Derived.Deep.QuietTactic
import Derived.BigQuiet
namespace Go.Proofs.YtdcnpaodcjfdbaaGreatDoor
open Go.RowKit
set_option linter.unusedVariables false

theorem ref_bhas (A : Option Addr) (n c : Nat) (ws : List Nat) (i : Int) (w : World) (B : Nat) (hs : Sl w B A n (ws.map wv)) (hn : n ≤ 9223372036854775807) (hw : ∀ x ∈ ws, x < 18446744073709551616) (h0 : -9223372036854775808 ≤ i) (h1 : i ≤ 9223372036854775807) :
    Calls Tryz.prog 82 #[.slice A n c, .int .i64 i] w fun e w' => e = .returned (.bool (bHas ws i)) ∧ w = w' := by
  have hl : ws.length = n := by have := hs.1; simpa using this
  by_cases hneg : i < 0
  · rw [bHas_neg ws i hneg]
    clear hs hw hl
    go_enter Tryz.func82, Tryz.ntmps82
    go_wp2
    go_ret
    exact ⟨rfl, rfl⟩
  · have hp : 0 ≤ i := by omega
    by_cases hpast : (n : Int) ≤ i / 64
    · rw [bHas_past ws i (by omega)]
      clear hs hw hl
      go_enter Tryz.func82, Tryz.ntmps82
      go_wp2
      go_ret
      exact ⟨rfl, rfl⟩
    · obtain ⟨b, off, u, rfl, _, hu, hcell⟩ := hs.at_ (k := i.toNat / 64) (by omega)
      obtain ⟨x, hx⟩ : ∃ x, ws.getD (i.toNat / 64) 0 = x := ⟨_, rfl⟩
      have hlt : i.toNat / 64 < ws.length := by omega
      have hxx : ws[i.toNat / 64]? = some x := by
        rw [← hx, List.getD_eq_getElem?_getD, List.getElem?_eq_getElem hlt]; rfl
      have hmem : x < 18446744073709551616 := hw x (List.mem_of_getElem? hxx)
      rw [List.getElem?_map, hxx] at hu
      obtain rfl : u = wv x := by simpa using hu.symm
      have E : Hid (bHas ws i = x.testBit (i.toNat % 64)) := hidb (by rw [bHas_at ws i hp, hx])
      have hcell' : w.cell? ⟨b, off + i.toNat / 64, none⟩ = some (.int .u64 (x : Int)) := hcell
      have hi64 : (i / 64).toNat = i.toNat / 64 := by omega
      have hi0 : 0 ≤ i / 64 := by omega
      clear hs hw hl hu hcell hx hxx hlt
      go_enter Tryz.func82, Tryz.ntmps82
      go_wp2
      go_loop [5, 6] (fun v k => ∃ (j : Nat) (y : Int), (j : Int) ≤ i % 64 ∧ 0 ≤ y ∧ y ≤ 18446744073709551615 ∧ Hid (y = ((x / 2 ^ j : Nat) : Int)) ∧ v = .int .u64 y ∧ k = .int .i64 j) (fun _ k => (64 - intOf k).toNat)
      case atStart => exact ⟨0, x, by omega, by omega, by omega, hidb (by simp), rfl, rfl⟩
      case round =>
        obtain ⟨j, y, hj, hy0, hy1, HY, rfl, rfl⟩ := hrel
        by_cases hlt : (j : Int) < i % 64
        · go_wp2
          go_round
          case rel => exact ⟨j + 1, y / 2, by omega, by omega, by omega, hidb (by rw [HY.out, Nat.pow_succ, ← Nat.div_div_eq_div_mul]; omega), rfl, by go_num⟩
          case measure => simp [intOf]; omega
        · have hje : j = i.toNat % 64 := by omega
          have HB : Hid (bHas ws i = (y % 2 == 1)) := hidb (by
            rw [E.out, testBit_div, HY.out, hje]
            rw [Bool.eq_iff_iff, decide_eq_true_iff, beq_iff_eq]; omega)
          clear hje
          go_wp2
          go_ret
          exact ⟨congrArg Ending.returned (congrArg Value.bool HB.out.symm), rfl⟩

end Go.Proofs.YtdcnpaodcjfdbaaGreatDoor

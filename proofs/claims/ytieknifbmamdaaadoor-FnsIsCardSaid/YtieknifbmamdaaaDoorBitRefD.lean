/- What each function of the document's own answers to layer 3 (bitmap) returns. -/
import Derived.Test.YtieknifbmamdaaaDoorRowWords
import Derived.Test.YtieknifbmamdaaaDoorBitMath
import Derived.Test.YtieknifbmamdaaaDoorBitRef
import Derived.WalkKit
import Derived.ProofKit
import Derived.WalkLawsBesides
import Derived.WalkSpells
import Derived.Deep.QuietTactic
import Derived.BigQuiet
namespace Go.Proofs.YtieknifbmamdaaaDoor
open Go.RowKit
set_option linter.unusedVariables false

theorem ref_bbits (A : Option Addr) (n c : Nat) (ws : List Nat) (m : Int) (w : World) (hs : Sl w w.heap.size A n (ws.map wv)) (hn : n ≤ 100) (hw : ∀ x ∈ ws, x < 18446744073709551616) (h0 : -9223372036854775808 ≤ m) (h1 : m ≤ 9223372036854775807) :
    Calls Tryd.prog 21 #[.slice A n c, .int .i64 m] w (OwnInts w (bBits ws (min m.toNat (64 * n)))) := by
  obtain ⟨i0, hi, hz0, hz1, hz2⟩ := info_parts info_int
  have HS := hidb hs; clear hs
  go_enter Tryd.func21, Tryd.ntmps21
  go_wp2
  go_loopw [5, 6] (fun v k wr => ∃ j : Nat, j ≤ min m.toNat (64 * n) ∧ k = .int .i64 j ∧ wr.ownsRow w.heap.size 3 1 v (bBits ws j).length ((bBits ws j).map iv) ∧ Below w.heap.size w wr) (fun _ k _ => (6400 - intOf k).toNat)
  case atStart =>
    refine ⟨0, by omega, rfl, ?_, (Below.refl _ _).alloc (Nat.le_refl _) _⟩
    exact World.ownsRow_made w #[] 0 (Nat.le_refl _) (by unfold maxLen; omega) rfl
  case round =>
    obtain ⟨j, hj, rfl, hown, hbel⟩ := hrel
    by_cases hlt : j < min m.toNat (64 * n)
    · have hc := ref_bhas A n c ws (j : Int) wr w.heap.size (HS.out.below hbel) (by omega) hw (by omega) (by omega)
      have hsucc := bBits_succ ws j
      have hlen := bBits_length ws j
      have hm1 : (j : Int) < m := by omega
      have hm2 : (j : Int) < 64 * (n : Int) := by omega
      have hsz := hbel.size
      cases hB : bHas ws (j : Int) with
      | true =>
        rw [hB] at hc hsucc
        simp only [if_true] at hsucc
        have HS2 := hidb hsucc
        have HH := hidb hbel
        clear hB hsucc hbel
        go_wp2_with (first
          | (go_at_call 26; refine hc.mono ?_; rintro e w' ⟨rfl, rfl⟩)
          | (at_builtin; refine wpList_append_one wr rfl _ _ 40 rfl w.heap.size 3 i0 (.int .i64 0) 8 Tryd.underlying40 hi hz0 hz1 hz2 rfl _ _ _ rfl (by exact hown) hsz (.int .i64 (j : Int)) rfl _ rfl (by unfold maxLen; omega) (by omega) ?_; intro v1 w1 hown1 hb1))
        have HO := hidb hown1
        have HB1 := hidb hb1
        clear hown1 hb1 hown
        go_roundw
        case rel => exact ⟨j + 1, by omega, by go_num, by rw [HS2.out, List.length_append, List.map_append]; exact HO.out, HH.out.trans HB1.out⟩
        case measure => simp [intOf]; omega
      | false =>
        rw [hB] at hc hsucc
        simp only [Bool.false_eq_true, if_false, List.append_nil] at hsucc
        have HS2 := hidb hsucc
        have HH := hidb hbel
        have HO := hidb hown
        clear hB hsucc hbel hown
        go_wp2_with (go_at_call 26; refine hc.mono ?_; rintro e w' ⟨rfl, rfl⟩)
        go_roundw
        case rel => exact ⟨j + 1, by omega, by go_num, by rw [HS2.out]; exact HO.out, HH.out⟩
        case measure => simp [intOf]; omega
    · have hje : j = min m.toNat (64 * n) := by omega
      have P : Hid (OwnInts w (bBits ws (min m.toNat (64 * n))) (.returned u5) wr) := hidb (by
        rw [← hje]
        rcases hown.2 with ⟨rfl, h0⟩ | ⟨g, cap, cur, rfl, _⟩
        · refine ⟨none, 0, by rw [h0], ?_, hbel⟩; rw [h0] at hown ⊢; exact hown
        · exact ⟨_, _, rfl, hown, hbel⟩)
      clear hown hbel hje
      by_cases hm : (j : Int) < m
      · have hn2 : ¬ (j : Int) < 64 * (n : Int) := by omega
        go_wp2
        go_ret
        exact P.out
      · go_wp2
        go_ret
        exact P.out

theorem ref_bints (A A2 : Option Addr) (n c m d : Nat) (xs ys : List Int) (w : World) (B B2 : Nat) (hs : Sl w B A n (xs.map iv)) (hs2 : Sl w B2 A2 m (ys.map iv)) (hn : n ≤ 9223372036854775806) (hm : m ≤ 9223372036854775806) :
    Calls Tryd.prog 25 #[.slice A n c, .slice A2 m d] w fun e w' => e = .returned (.bool (decide (xs = ys))) ∧ ∃ q, w' = w.drewN q := by
  have l1 : xs.length = n := by have := hs.1; simpa using this
  have l2 : ys.length = m := by have := hs2.1; simpa using this
  by_cases hnm : n = m
  · subst hnm
    have L1 := hidb l1
    have L2 := hidb l2
    have HS := hidb hs
    have HS2 := hidb hs2
    clear hs hs2 l1 l2
    go_enter Tryd.func25, Tryd.ntmps25
    go_wp2
    go_loopw [13] (fun k wr => ∃ j q : Nat, j ≤ n ∧ Hid (∀ i, i < j → xs[i]? = ys[i]?) ∧ k = .int .i64 j ∧ wr = w.drewN q) (fun k _ => (n - intOf k).toNat)
    case atStart => exact ⟨0, 0, by omega, hidb (fun i h => absurd h (Nat.not_lt_zero _)), rfl, rfl⟩
    case round =>
      obtain ⟨j, q, hj, HA, rfl, rfl⟩ := hrel
      by_cases hlt : j < n
      · obtain ⟨b, off, x, rfl, hx, hc1⟩ := HS.out.int_ hlt
        obtain ⟨b2, off2, y, rfl, hy, hc2⟩ := HS2.out.int_ hlt
        have HX := hidb hx
        have HY := hidb hy
        clear hx hy
        have hi0 : (0 : Int) ≤ (j : Int) := by omega
        have hi1 : (j : Int) < (n : Int) := by omega
        by_cases e : x = y
        · have eb : (x != y) = false := by simpa using e
          have HE := hidb e
          clear e
          go_wp2
          go_quiet (fail)
          go_wp2
          go_roundw
          case rel =>
            refine ⟨j + 1, _, by omega, hidb (fun i hi => ?_), by go_num, rfl⟩
            by_cases h : i = j
            · subst h; rw [HX.out, HY.out, HE.out]
            · exact HA.out i (by omega)
          case measure => simp [intOf]; omega
        · have eb : (x != y) = true := by simpa using e
          have HF : Hid (decide (xs = ys) = false) := hidb (decide_eq_false (fun h => e (by rw [h, HY.out] at HX; simpa using HX.out.symm)))
          clear e
          go_wp2
          go_quiet (fail)
          go_wp2
          go_ret
          exact ⟨by rw [HF.out]; rfl, _, World.drewN_drewN _ _ _⟩
      · have HF : Hid (decide (xs = ys) = true) := hidb (decide_eq_true (List.ext_getElem? (fun i => by
          by_cases hi : i < n
          · exact HA.out i (by omega)
          · rw [List.getElem?_eq_none (by have := L1.out; omega), List.getElem?_eq_none (by have := L2.out; omega)])))
        go_wp2
        go_ret
        exact ⟨by rw [HF.out]; rfl, q, rfl⟩
  · have HF : Hid (decide (xs = ys) = false) := hidb (decide_eq_false (fun h => hnm (by rw [← l1, ← l2, h])))
    have eb : ((n : Int) != (m : Int)) = true := by simp; omega
    clear hs hs2 l1 l2 hnm
    go_enter Tryd.func25, Tryd.ntmps25
    go_wp2
    go_ret
    exact ⟨by rw [HF.out]; rfl, 0, rfl⟩

end Go.Proofs.YtieknifbmamdaaaDoor

/- What each function of the document's own answers to layer 3 (bitmap) returns. -/
import Derived.Test.YtbjcdfhckhpoiaaRowWords
import Derived.Test.YtbjcdfhckhpoiaaBitMath
import Derived.WalkKit
import Derived.ProofKit
import Derived.WalkLawsBesides
import Derived.WalkSpells
import Derived.Deep.QuietTactic
import Derived.BigQuiet
namespace Go.Proofs.Ytbjcdfhckhpoiaa
open Go.RowKit
set_option linter.unusedVariables false

theorem ref_bin (A : Option Addr) (n c : Nat) (zs : List Int) (v : Int) (w : World) (B : Nat) (hs : Sl w B A n (zs.map iv)) (hn : n ≤ 9223372036854775806) :
    Calls Try.prog 18 #[.slice A n c, .int .i64 v] w fun e w' => e = .returned (.bool (decide (v ∈ zs))) ∧ w = w' := by
  have l1 : zs.length = n := by have := hs.1; simpa using this
  have L1 := hidb l1
  have HS := hidb hs
  clear hs l1
  go_enter Try.func18, Try.ntmps18
  go_wp2
  go_loop [8] (fun k => ∃ j : Nat, j ≤ n ∧ Hid (∀ i, i < j → zs[i]? ≠ some v) ∧ k = .int .i64 j) (fun k => (n - intOf k).toNat)
  case atStart => exact ⟨0, by omega, hidb (fun i h => absurd h (Nat.not_lt_zero _)), rfl⟩
  case round =>
    obtain ⟨j, hj, HA, rfl⟩ := hrel
    by_cases hlt : j < n
    · obtain ⟨b, off, x, rfl, hx, hc⟩ := HS.out.int_ hlt
      have HX := hidb hx
      clear hx
      by_cases e : x = v
      · have HF : Hid (decide (v ∈ zs) = true) := hidb (decide_eq_true (by rw [← e]; exact List.mem_of_getElem? HX.out))
        have eb : (x == v) = true := by simpa using e
        clear e
        go_wp2
        go_ret
        exact ⟨by rw [HF.out]; rfl, rfl⟩
      · have eb : (x == v) = false := by simpa using e
        have HE := hidb e
        clear e
        go_wp2
        go_round
        case rel =>
          refine ⟨j + 1, by omega, hidb (fun i hi => ?_), by go_num⟩
          by_cases h : i = j
          · subst h; rw [HX.out]; intro h2; exact HE.out (by simpa using h2)
          · exact HA.out i (by omega)
        case measure => simp [intOf]; omega
    · have HF : Hid (decide (v ∈ zs) = false) := hidb (decide_eq_false (fun hmem => by
        obtain ⟨i, hi, e⟩ := List.getElem_of_mem hmem
        exact HA.out i (by have := L1.out; omega) (by rw [List.getElem?_eq_getElem hi, e])))
      go_wp2
      go_ret
      exact ⟨by rw [HF.out]; rfl, rfl⟩

theorem ref_bof (A : Option Addr) (n c : Nat) (zs : List Int) (w : World) (hs : Sl w w.heap.size A n (zs.map iv)) (hn : n ≤ 9223372036854775806) (hz : ∀ x ∈ zs, -9223372036854775808 ≤ x ∧ x ≤ 9223372036854775807) :
    Calls Try.prog 8 #[.slice A n c] w (OwnWords w (bOf zs)) := by
  obtain ⟨i0, hi, hz0, hz1, hz2⟩ := info_parts info_u64
  have l1 : zs.length = n := by have := hs.1; simpa using this
  have L1 := hidb l1
  have HS := hidb hs
  clear hs l1
  go_enter Try.func8, Try.ntmps8
  go_wp2
  go_loop [3, 11] (fun v k => ∃ j : Nat, j ≤ n ∧ v = .int .i64 (bMost (zs.take j)) ∧ k = .int .i64 j) (fun _ k => (n - intOf k).toNat)
  case atStart => exact ⟨0, by omega, rfl, rfl⟩
  case round =>
    obtain ⟨j, hj, rfl, rfl⟩ := hrel
    by_cases hlt : j < n
    · obtain ⟨b, off, x, rfl, hx, hc⟩ := HS.out.int_ hlt
      have htk : zs.take (j + 1) = zs.take j ++ [x] := by rw [List.take_add_one, hx]; rfl
      have hmo := bMost_snoc (zs.take j) x
      rw [← htk] at hmo
      have hrg := bMost_range (zs.take j)
      have hxr := hz x (List.mem_of_getElem? hx)
      obtain ⟨mo, hmoe⟩ : ∃ mo, bMost (zs.take j) = mo := ⟨_, rfl⟩
      rw [hmoe] at hmo hrg ⊢
      obtain ⟨hx0, hx1⟩ := hxr
      by_cases h1 : 0 ≤ x
      · by_cases h2 : x < 4096
        · by_cases h3 : mo < x
          · rw [if_pos ⟨h1, h2, h3⟩] at hmo
            have HM := hidb hmo
            clear hmo hx htk hmoe hrg
            go_wp2
            go_round
            case rel => exact ⟨j + 1, by omega, by rw [HM.out], by go_num⟩
            case measure => simp [intOf]; omega
          · rw [if_neg (by omega)] at hmo
            have HM := hidb hmo
            clear hmo hx htk hmoe hrg
            go_wp2
            go_round
            case rel => exact ⟨j + 1, by omega, by rw [HM.out], by go_num⟩
            case measure => simp [intOf]; omega
        · rw [if_neg (by omega)] at hmo
          have HM := hidb hmo
          clear hmo hx htk hmoe hrg
          go_wp2
          go_round
          case rel => exact ⟨j + 1, by omega, by rw [HM.out], by go_num⟩
          case measure => simp [intOf]; omega
      · rw [if_neg (by omega)] at hmo
        have HM := hidb hmo
        clear hmo hx htk hmoe hrg
        go_wp2
        go_round
        case rel => exact ⟨j + 1, by omega, by rw [HM.out], by go_num⟩
        case measure => simp [intOf]; omega
    · have ht : zs.take j = zs := List.take_of_length_le (by have := L1.out; omega)
      rw [ht]
      obtain ⟨j', rfl⟩ : ∃ j', j' = j := ⟨_, rfl⟩
      have hje : j' = n := by omega
      subst hje
      clear ht hlt hj
      have hrg := bMost_range zs
      have hcn : Hid (bCount zs = (bMost zs + 64).toNat / 64) := hidb rfl
      obtain ⟨mo, hmoe⟩ : ∃ mo, bMost zs = mo := ⟨_, rfl⟩
      rw [hmoe] at hcn hrg ⊢
      obtain ⟨hr0, hr1⟩ := hrg
      clear hmoe
      have HZ := hidb hz
      clear hz
      go_wp2
      go_loopw [5, 6] (fun v k wr => ∃ p : Nat, p ≤ 64 ∧ Hid (p ≤ bCount zs) ∧ k = .int .i64 p ∧ wr.ownsRow w.heap.size 38 1 v p (((List.range p).map fun k => bAcc zs k 64).map wv) ∧ Below w.heap.size w wr) (fun _ k _ => (64 - intOf k).toNat)
      case atStart => exact ⟨0, by omega, hidb (by omega), rfl, ownsRow_empty w _, (Below.refl _ _).alloc (Nat.le_refl _) _⟩
      case round =>
        obtain ⟨p, hp64, HP, rfl, hown, hbel⟩ := hrel
        have hbsz := hbel.size
        by_cases hlt : 64 * (p : Int) ≤ mo
        · have hp63 : p < 64 := by omega
          have HPC : Hid (p + 1 ≤ bCount zs) := hidb (by rw [hcn.out]; omega)
          have HS2 := hidb (HS.out.below hbel)
          have HBEL := hidb hbel
          have HOWN := hidb hown
          obtain ⟨wo, rfl⟩ : ∃ wo : World, wo = wr := ⟨_, rfl⟩
          clear hbel hown
          go_wp2
          go_loop [7, 8] (fun v k => ∃ (j a : Nat), j ≤ 64 ∧ Hid (a = bAcc zs p j) ∧ v = .int .u64 (a : Int) ∧ k = .int .i64 (63 - (j : Int))) (fun _ k => (intOf k + 1).toNat)
          case atStart => exact ⟨0, 0, by omega, hidb rfl, rfl, rfl⟩
          case round =>
            obtain ⟨j, a, hj, HA, rfl, rfl⟩ := hrel
            by_cases hj2 : j < 64
            · have ha : a < 9223372036854775808 := by
                have h1 := bAcc_lt zs p j
                have h2 : 2 ^ j ≤ 2 ^ 63 := Nat.pow_le_pow_right (by omega) (by omega)
                have := HA.out
                omega
              have hin := ref_bin A j' c zs (64 * (p : Int) + (63 - (j : Int))) wo _ HS2.out hn
              have hsucc := bAcc_succ zs p j
              cases hB : decide ((64 * (p : Int) + (63 - (j : Int))) ∈ zs) with
              | true =>
                rw [hB] at hin
                rw [if_pos (of_decide_eq_true hB)] at hsucc
                have HSU := hidb hsucc
                clear hB hsucc
                go_wp2_with (go_at_call 18; refine hin.mono ?_; rintro e w' ⟨rfl, rfl⟩)
                go_round
                case rel => exact ⟨j + 1, 2 * a + 1, by omega, hidb (by rw [HSU.out, HA.out]), by simp, by congr 1; omega⟩
                case measure => simp [intOf]; omega
              | false =>
                rw [hB] at hin
                rw [if_neg (of_decide_eq_false hB)] at hsucc
                have HSU := hidb hsucc
                clear hB hsucc
                go_wp2_with (go_at_call 18; refine hin.mono ?_; rintro e w' ⟨rfl, rfl⟩)
                go_round
                case rel => exact ⟨j + 1, 2 * a, by omega, hidb (by rw [HSU.out, HA.out]; rfl), by simp, by congr 1; omega⟩
                case measure => simp [intOf]; omega
            · have hj3 : j = 64 := by omega
              subst hj3
              have hown := HOWN.out
              go_wp2_with (at_builtin; refine wpList_append_one wo rfl _ _ 24 rfl w.heap.size 38 i0 (.int .u64 0) 8 Try.underlying24 hi hz0 hz1 hz2 rfl _ _ _ rfl (by exact hown) hbsz (.int .u64 (a : Int)) rfl _ rfl (by unfold maxLen; omega) (by omega) ?_; intro v1 w1 hown1 hb1)
              have HO := hidb hown1
              have HB1 := hidb hb1
              clear hown1 hb1 hown
              go_roundw
              case rel =>
                refine ⟨p + 1, by omega, HPC, by go_num, ?_, HBEL.out.trans HB1.out⟩
                rw [List.range_succ, List.map_append, List.map_append]
                have := HO.out
                rw [HA.out] at this
                exact this
              case measure => simp [intOf]; omega
        · have hpc : p = bCount zs := by have := HP.out; rw [hcn.out] at this ⊢; omega
          have P : Hid (OwnWords w (bOf zs) (.returned u5) wr) := hidb (by
            subst hpc
            obtain ⟨A', c', rfl⟩ := own_form hown
            have hl : (bOf zs).length = bCount zs := by unfold bOf; simp
            refine ⟨A', c', by rw [hl], ?_, hbel⟩
            rw [hl]; exact hown)
          clear hown hbel hpc
          go_wp2
          go_ret
          exact P.out

end Go.Proofs.Ytbjcdfhckhpoiaa

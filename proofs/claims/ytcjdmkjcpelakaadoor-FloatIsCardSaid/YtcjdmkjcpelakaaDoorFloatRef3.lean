/- What the document's own 'Text' and 'Read' (layer 2) return; memory is as it was. -/
import Derived.Test.YtcjdmkjcpelakaaDoorFloatHex
import Derived.WalkSpells
namespace Go.Proofs.YtcjdmkjcpelakaaDoor
open Go.RowKit
set_option linter.unusedVariables false

theorem hex_one (d : Nat) (h : d < 16) : (ByteArray.mk #[48, 49, 50, 51, 52, 53, 54, 55, 56, 57, 97, 98, 99, 100, 101, 102]).extract d (d + 1) = ⟨#[hexB d]⟩ := by
  have : ∀ d : Fin 16, (ByteArray.mk #[48, 49, 50, 51, 52, 53, 54, 55, 56, 57, 97, 98, 99, 100, 101, 102]).extract d.val (d.val + 1) = ⟨#[hexB d.val]⟩ := by decide +kernel
  exact this ⟨d, h⟩
theorem hex_cons (d : Nat) (h : d < 16) (l : List UInt8) : (ByteArray.mk #[48, 49, 50, 51, 52, 53, 54, 55, 56, 57, 97, 98, 99, 100, 101, 102]).extract d (d + 1) ++ ⟨l.toArray⟩ = ⟨(hexB d :: l).toArray⟩ := by
  rw [hex_one d h]
  apply ByteArray.ext
  rw [ByteArray.data_append]
  simp

theorem ref_ftext (b : Nat) (w : World) (h : b < 18446744073709551616) :
    Calls Tryd.prog 10 #[.int .u64 (b : Int)] w fun e w' => e = .returned (.string ⟨(hexT b 16).toArray⟩) ∧ w = w' := by
  go_enter Tryd.func10, Tryd.ntmps10
  go_wp2
  go_loop [0, 3, 4] (fun x s k => ∃ (j : Nat) (m : Nat), j ≤ 16 ∧ m < 18446744073709551616 ∧ Hid (m = b / 16 ^ j) ∧ x = .int .u64 (m : Int) ∧ s = .string ⟨(hexT b j).toArray⟩ ∧ k = .int .i64 j) (fun _ _ k => (16 - intOf k).toNat)
  case atStart => exact ⟨0, b, by omega, h, hidf (by simp), rfl, rfl, rfl⟩
  case round =>
    obtain ⟨j, m, hj, hm, HM, rfl, rfl, rfl⟩ := hrel
    by_cases hlt : j < 16
    · have hlen : ¬ 9223372036854775807 < min (m % 16 + 1) 16 - m % 16 + (hexT b j).length := by rw [hexT_length]; omega
      go_wp2
      go_round
      case rel =>
        refine ⟨j + 1, m / 16, by omega, by omega, hidf ?_, by simp, ?_, by go_num⟩
        · rw [HM.out, Nat.pow_succ, Nat.div_div_eq_div_mul]
        · rw [hex_cons _ (Nat.mod_lt _ (by omega)), HM.out]; rfl
      case measure => simp [intOf]; omega
    · obtain rfl : j = 16 := by omega
      go_wp2
      go_ret
      exact ⟨rfl, rfl⟩

/-- What 'Read' returns. -/
def ReadOf (l : List UInt8) (e : Ending) : Prop := e = .returned (.tuple #[.int .u64 (((fRead l).getD 0 : Nat) : Int), .bool (fRead l).isSome])

theorem fRead_len (l : List UInt8) (h : l.length ≠ 16) : fRead l = none := by unfold fRead; rw [if_neg (by omega)]
theorem fRead_bad (l : List UInt8) (c : UInt8) (h : c ∈ l) (hc : ¬ hexD c.toNat ≤ 15) : fRead l = none := by
  unfold fRead
  rw [if_neg]
  intro ⟨_, h2⟩
  unfold hexAll at h2
  rw [List.all_eq_true] at h2
  exact hc (of_decide_eq_true (h2 c h))

theorem u64_wrap_range (x : Int) : 0 ≤ IntKind.u64.wrap x ∧ IntKind.u64.wrap x ≤ 18446744073709551615 := by
  simp only [IntKind.wrap, IntKind.bits, IntKind.signed]; simp; omega

theorem read_step (l : List UInt8) (j : Nat) (m d : Int) (c : UInt8) (ht : l.take (j + 1) = l.take j ++ [c]) (hj : j < l.length) (hd : d = ((hexD c.toNat : Nat) : Int)) (hc : hexD c.toNat ≤ 15)
    (H : j ≤ 16 → hexAll (l.take j) = true ∧ m = ((hexV (l.take j) : Nat) : Int)) :
    0 ≤ IntKind.u64.wrap (IntKind.u64.wrap (16 * m) + d) ∧ IntKind.u64.wrap (IntKind.u64.wrap (16 * m) + d) ≤ 18446744073709551615 ∧
      (j + 1 ≤ 16 → hexAll (l.take (j + 1)) = true ∧ IntKind.u64.wrap (IntKind.u64.wrap (16 * m) + d) = ((hexV (l.take (j + 1)) : Nat) : Int)) := by
  have r := u64_wrap_range (IntKind.u64.wrap (16 * m) + d)
  refine ⟨r.1, r.2, fun h => ?_⟩
  obtain ⟨h1, h2⟩ := H (by omega)
  have hv := hexV_lt (l.take j) h1
  rw [List.length_take, Nat.min_eq_left (by omega)] at hv
  have hp : 16 ^ j ≤ 16 ^ 15 := Nat.pow_le_pow_right (by omega) (by omega)
  have hp2 : (16 ^ 15 : Nat) = 1152921504606846976 := by decide
  refine ⟨?_, ?_⟩
  · rw [ht, hexAll_snoc, h1, decide_eq_true hc]; rfl
  · rw [ht, hexV_snoc, h2, hd, IntWalk.u64_in (16 * _) (by omega), IntWalk.u64_in _ (by omega)]; omega

theorem ref_fread (s : ByteArray) (w : World) (hs : s.size ≤ maxLen) :
    Calls Tryd.prog 13 #[.string s] w fun e w' => ReadOf s.data.toList e ∧ w = w' := by
  unfold maxLen at hs
  have HL : Hid (s.data.toList.length = s.size) := hidf (by simp)
  go_enter Tryd.func13, Tryd.ntmps13
  go_wp2
  go_loop [4, 5] (fun v k => ∃ (j : Nat) (m : Int), j ≤ s.size ∧ j ≤ 17 ∧ 0 ≤ m ∧ m ≤ 18446744073709551615 ∧ Hid (j ≤ 16 → hexAll (s.data.toList.take j) = true ∧ m = ((hexV (s.data.toList.take j) : Nat) : Int)) ∧ v = .int .u64 m ∧ k = .int .i64 j) (fun _ k => (17 - intOf k).toNat)
  case atStart => exact ⟨0, 0, by omega, by omega, by omega, by omega, hidf (fun _ => ⟨rfl, rfl⟩), rfl, rfl⟩
  case round =>
    obtain ⟨j, m, hj, hj17, hm0, hm1, HM, rfl, rfl⟩ := hrel
    by_cases hlt : j < s.size
    · by_cases h17 : j < 17
      · have HC : Hid (s[j] ∈ s.data.toList ∧ s.data.toList.take (j + 1) = s.data.toList.take j ++ [s[j]]) := hidf ⟨by simp [ByteArray.getElem_eq_getElem_data], by
          rw [List.take_succ_eq_append_getElem (by simpa using hlt)]; rfl⟩
        go_wp2
        · go_round
          case rel =>
            have st := read_step s.data.toList j m (↑s[j].toNat - 48) s[j] HC.out.2 (by rw [HL.out]; exact hlt) (by unfold hexD; rw [if_pos (by omega)]; omega) (by unfold hexD; rw [if_pos (by omega)]; omega) HM.out
            exact ⟨j + 1, _, by omega, by omega, st.1, st.2.1, hidf st.2.2, rfl, by go_num⟩
          case measure => simp [intOf]; omega
        · go_round
          case rel =>
            have st := read_step s.data.toList j m (↑s[j].toNat - 97 + 10) s[j] HC.out.2 (by rw [HL.out]; exact hlt) (by unfold hexD; rw [if_neg (by omega), if_pos (by omega)]; omega) (by unfold hexD; rw [if_neg (by omega), if_pos (by omega)]; omega) HM.out
            exact ⟨j + 1, _, by omega, by omega, st.1, st.2.1, hidf st.2.2, rfl, by go_num⟩
          case measure => simp [intOf]; omega
        all_goals
          go_ret2
          have e := fRead_bad s.data.toList s[j] HC.out.1 (by unfold hexD; rw [if_neg (by omega), if_neg (by omega)]; omega)
          exact ⟨by unfold ReadOf; rw [e]; rfl, rfl⟩
      · have hne : ((s.size : Int) != 16) = true := by simp; omega
        have e := hidf (fRead_len s.data.toList (by rw [HL.out]; omega))
        go_wp2
        go_ret2
        exact ⟨by unfold ReadOf; rw [e.out]; rfl, rfl⟩
    · have hjs : j = s.size := by omega
      by_cases h16 : s.size = 16
      · have hv : Hid (fRead s.data.toList = some (hexV s.data.toList) ∧ m = ((hexV s.data.toList : Nat) : Int)) := hidf (by
          have h := HM.out (by omega)
          rw [List.take_of_length_le (by rw [HL.out]; omega)] at h
          exact ⟨by unfold fRead; rw [if_pos ⟨by rw [HL.out]; exact h16, h.1⟩], h.2⟩)
        have hne : ((s.size : Int) != 16) = false := by simp; omega
        clear h16 hjs
        go_wp2
        go_ret2
        exact ⟨by unfold ReadOf; rw [hv.out.1, hv.out.2]; rfl, rfl⟩
      · have hne : ((s.size : Int) != 16) = true := by simp; omega
        have e := hidf (fRead_len s.data.toList (by rw [HL.out]; omega))
        clear h16 hjs
        go_wp2
        all_goals
          go_ret2
          exact ⟨by unfold ReadOf; rw [e.out]; rfl, rfl⟩

end Go.Proofs.YtcjdmkjcpelakaaDoor

/- What the library's own reading of a number to the base 16 is: strconv.ParseUint of sixteen digits. Memory is as it was, but for a new block. -/
import Derived.Test.YtcjdmkjcpelakaaDoorFloatHex
import Derived.Test.YtcjdmkjcpelakaaDoorBits
import Derived.Lib.Strings
import Derived.Lib.Walk
import Derived.Lib.ConvBytes
import Derived.Laws.Strings3
import Derived.BigCall
import Derived.BigGuard
namespace Go.Proofs.YtcjdmkjcpelakaaDoor
open Go.RowKit
set_option linter.unusedVariables false

theorem hexV_take (l : List UInt8) (k : Nat) (h : k < l.length) : hexV (l.take (k + 1)) = 16 * hexV (l.take k) + hexD (l[k].toNat) := by
  rw [List.take_succ_eq_append_getElem h, hexV_snoc]
theorem hexAll_at (l : List UInt8) (h : hexAll l = true) (k : Nat) (hk : k < l.length) : hexD (l[k].toNat) ≤ 15 := by
  unfold hexAll at h
  have := List.all_eq_true.1 h _ (List.getElem_mem hk)
  simpa using this
theorem hexAll_take (l : List UInt8) (h : hexAll l = true) (k : Nat) : hexAll (l.take k) = true := by
  unfold hexAll at h ⊢
  rw [List.all_eq_true] at h ⊢
  exact fun x hx => h x (List.mem_of_mem_take hx)
theorem or_lower : ∀ c : Nat, 97 ≤ c → c ≤ 102 → bits BinOp.or IntKind.u8 (c : Int) 32 = (c : Int) := by
  intro c h1 h2
  have : c = 97 ∨ c = 98 ∨ c = 99 ∨ c = 100 ∨ c = 101 ∨ c = 102 := by omega
  rcases this with rfl | rfl | rfl | rfl | rfl | rfl <;> decide +kernel

set_option maxHeartbeats 4000000 in
set_option maxRecDepth 100000 in
theorem parse16' (t : ByteArray) (w : World) (hl : t.size = 16) (ha : hexAll t.data.toList = true) :
    Calls Tryd.prog 39 #[.string t, .int .i64 16, .int .i64 64] w fun e w' => e = .returned (.tuple #[.int .u64 ((hexV t.data.toList : Nat) : Int), .nilIface]) ∧ w' = Lib.bytesWorld w 5 t := by
  have hemp : t.toList.isEmpty = false := by
    rw [← decide_eq_emptyBytes]
    exact decide_eq_false (fun h => by rw [h] at hl; cases hl)
  have hcv := Lib.run_convert_string_bytes (P := Tryd.prog) w 9 50 5 t (u := .string) Tryd.underlying9 Tryd.underlying50 Tryd.underlying5
  have hB : ∀ j, j < t.size → (Lib.bytesWorld w 5 t).cell? ⟨w.heap.size, j, none⟩ = some (.int .u8 (t.data.toList.getD j 0).toNat) := fun j hj => Lib.bytesWorld_cell w 5 t j hj
  obtain ⟨W1, hW1⟩ : ∃ W1, W1 = Lib.bytesWorld w 5 t := ⟨_, rfl⟩
  rw [← hW1] at hcv hB ⊢
  clear hW1
  obtain ⟨bs, hL⟩ : ∃ bs, bs = t.data.toList := ⟨_, rfl⟩
  have hLn : bs.length = t.size := by rw [hL, Array.length_toList]; rfl
  rw [← hL] at hB ha ⊢
  clear hL
  have HA := hidf ha
  have HB := hidf hB
  have HL := hidf hLn
  clear ha hB hLn
  have hmv : IntKind.u64.wrap (IntKind.u64.wrap 18446744073709551616 - 1) = 18446744073709551615 := by
    rw [IntKind.wrap_u64, IntKind.wrap_u64]
    decide
  go_enter Tryd.func39, Tryd.ntmps39
  go_wp2
  go_loop [12, 13, 101] (fun vu vn vi => ∃ (k : Nat) (a : Int), vu = .bool false ∧ vn = .int .u64 a ∧ vi = .int .i64 k ∧ k ≤ 16 ∧ Hid (a = ((hexV (bs.take k) : Nat) : Int)))
    (fun _ _ vi => 16 - (intOf vi).toNat)
  case atStart => exact ⟨0, 0, rfl, rfl, rfl, by omega, hidf (by simp [hexV])⟩
  case round =>
    obtain ⟨k, a, rfl, rfl, rfl, hk, HH⟩ := hrel
    have hlt := hexV_lt (bs.take k) (hexAll_take bs HA.out k)
    rw [List.length_take, Nat.min_eq_left (by have := HL.out; omega)] at hlt
    have ea := HH.out
    have a0 : 0 ≤ a := by omega
    by_cases hkn : k < 16
    · have hp : 16 ^ k ≤ 16 ^ 15 := Nat.pow_le_pow_right (by omega) (by omega)
      have icut : a < 1152921504606846976 := by omega
      have hkb : k < bs.length := by have := HL.out; omega
      have hc := HB.out k (by omega)
      have hget : bs.getD k 0 = bs[k] := by simp [List.getD, List.getElem?_eq_getElem hkb]
      rw [hget] at hc
      have hd := hexAll_at bs HA.out k hkb
      have hv := hexV_take bs k hkb
      generalize bs[k] = c at hc hd hv
      have hc256 : c.toNat < 256 := c.toNat_lt
      clear hget hp hlt
      by_cases hdig : 48 ≤ c.toNat ∧ c.toNat ≤ 57
      · obtain ⟨hd0, hd1⟩ := hdig
        have HN : Hid (a * 16 + ((c.toNat : Int) - 48) = ((hexV (bs.take (k + 1)) : Nat) : Int)) := hidf (by
          have e : hexD c.toNat = c.toNat - 48 := by unfold hexD; rw [if_pos ⟨hd0, hd1⟩]
          rw [hv, e]; omega)
        clear hd hv ea
        go_wp2
        go_round
        case rel => exact ⟨k + 1, a * 16 + ((c.toNat : Int) - 48), rfl, by first | rfl | (congr 1; omega), by first | rfl | (congr 1; omega), by omega, HN⟩
        case measure => simp [intOf]; omega
      · have hr : 97 ≤ c.toNat ∧ c.toNat ≤ 102 := by
          unfold hexD at hd; rw [if_neg hdig] at hd; split at hd
          · assumption
          · omega
        obtain ⟨hd0, hd1⟩ := hr
        have hor := or_lower c.toNat hd0 hd1
        have HN : Hid (a * 16 + ((c.toNat : Int) - 87) = ((hexV (bs.take (k + 1)) : Nat) : Int)) := hidf (by
          have e : hexD c.toNat = c.toNat - 87 := by unfold hexD; rw [if_neg hdig, if_pos ⟨hd0, hd1⟩]
          rw [hv, e]; omega)
        clear hd hv ea hdig
        go_wp2
        go_round
        case rel => exact ⟨k + 1, a * 16 + ((c.toNat : Int) - 87), rfl, by first | rfl | (congr 1; omega), by first | rfl | (congr 1; omega), by omega, HN⟩
        case measure => simp [intOf]; omega
    · obtain rfl : k = 16 := by omega
      have HN : Hid (a = ((hexV bs : Nat) : Int)) := hidf (by
        rw [HH.out, List.take_of_length_le (by have := HL.out; omega)])
      clear ea
      go_wp2
      go_ret2
      exact ⟨by rw [← HN.out]; rfl, rfl⟩

end Go.Proofs.YtcjdmkjcpelakaaDoor

/- What the library's own text of a number to the base 16 is: strconv.FormatUint. Memory is as it was, but for a new block. -/
import Derived.Test.YtcjdmkjcpelakaaDoorFloatHex
import Derived.Test.YtcjdmkjcpelakaaDoorBits
import Derived.Laws.IdiomStrings
namespace Go.Proofs.YtcjdmkjcpelakaaDoor
open Go.RowKit
set_option linter.unusedVariables false

/-- What the call needs of the library's table: its fifteenth cell is 4. -/
def Tab64 (w : World) : Prop := w.cell? ⟨8, 15, none⟩ = some (.int .u8 4) ∧ 8 < w.heap.size
theorem Tab64.alloc {w : World} (h : Tab64 w) (o : Obj) : Tab64 (w.alloc o) :=
  ⟨by rw [World.cell?_alloc_past _ _ _ h.2]; exact h.1, by have := h.2; simp; omega⟩

theorem trailing16 (w : World) (ht : Tab64 w) :
    Calls Tryd.prog 79 #[.int .u64 16] w fun e w' => e = .returned (.int .i64 4) ∧ w = w' := by
  have hc := ht.1
  clear ht
  have e0 : IntKind.u64.wrap (-16) = 18446744073709551600 := by decide +kernel
  have e1 : bits BinOp.and IntKind.u64 16 18446744073709551600 = 16 := by decide +kernel
  have e2 : IntKind.u64.wrap 4573923408821661840 = 4573923408821661840 := by decide +kernel
  go_enter Tryd.func79, Tryd.ntmps79
  go_wp2
  go_ret
  exact ⟨rfl, rfl⟩

theorem power16 (w : World) :
    Calls Tryd.prog 78 #[.int .i64 16] w fun e w' => e = .returned (.bool true) ∧ w = w' := by
  have hp : bits BinOp.and IntKind.i64 16 15 = 0 := by decide +kernel
  go_enter Tryd.func78, Tryd.ntmps78
  go_wp2
  go_ret
  exact ⟨rfl, rfl⟩

theorem idx_digit (d : Nat) (hd : d < 16) (w : World) :
    (Instr.index 9 (.string ⟨#[48, 49, 50, 51, 52, 53, 54, 55, 56, 57, 97, 98, 99, 100, 101, 102, 103, 104, 105, 106, 107, 108, 109, 110, 111, 112, 113, 114, 115, 116, 117, 118, 119, 120, 121, 122]⟩) (.int .u64 (d : Int))).run Tryd.prog w = .ok (.int .u8 ((hexB d).toNat : Int)) w := by
  have : d = 0 ∨ d = 1 ∨ d = 2 ∨ d = 3 ∨ d = 4 ∨ d = 5 ∨ d = 6 ∨ d = 7 ∨ d = 8 ∨ d = 9 ∨ d = 10 ∨ d = 11 ∨ d = 12 ∨ d = 13 ∨ d = 14 ∨ d = 15 := by omega
  rcases this with rfl | rfl | rfl | rfl | rfl | rfl | rfl | rfl | rfl | rfl | rfl | rfl | rfl | rfl | rfl | rfl <;> (refine (?_ : _ = _); clear hd; kernel_rfl)

/-- A row of 65 cells whose last ones, from the i-th on, are these bytes. -/
def Tail (a : Array Value) (i : Nat) (l : List UInt8) : Prop := a.size = 65 ∧ i + l.length = 65 ∧ ∀ t (h : t < l.length), a[i + t]? = some (.int .u8 (l[t].toNat : Int))
theorem tail_start (a : Array Value) (h : a.size = 65) : Tail a 65 [] := ⟨h, rfl, fun t h => absurd h (Nat.not_lt_zero _)⟩
theorem tail_step {a : Array Value} {k : Nat} {l : List UInt8} (x : UInt8) (h : Tail a (k + 1) l) : Tail (a.setIfInBounds k (.int .u8 (x.toNat : Int))) k (x :: l) := by
  obtain ⟨h1, h2, h3⟩ := h
  refine ⟨by simpa using h1, by simp; omega, ?_⟩
  intro t ht
  cases t with
  | zero =>
    rw [Nat.add_zero, Array.getElem?_setIfInBounds_self_of_lt (by omega)]
    rfl
  | succ t =>
    rw [Array.getElem?_setIfInBounds_ne (by omega), show k + (t + 1) = k + 1 + t by omega]
    have := h3 t (by simpa using ht)
    simpa using this
theorem tail_cell {a : Array Value} {k : Nat} {l : List UInt8} (h : Tail a (k + 1) l) : ∃ v, a[k]? = some v := by
  have := h.1; have := h.2.1
  exact ⟨a[k]'(by omega), Array.getElem?_eq_getElem (by omega)⟩

theorem arr65 : Tryd.prog.arrayLen 99 = 65 := by kernel_rfl
theorem slice65 (blk k : Nat) (hk : k < 65) (w : World) : (Instr.sliceAt 99 (.pointer (some ⟨blk, 0, none⟩)) (some (.int .i64 (k : Int))) none none).run Tryd.prog w = .ok (.slice (some ⟨blk, k, none⟩) (65 - k) (65 - k)) w := by
  rw [run_sliceAt_array_l w 99 ⟨blk, 0, none⟩ (by kernel_rfl) .i64 (k : Int) (by omega) (by rw [arr65]; omega)]
  go_simp
  omega


theorem hexT_succ (b j : Nat) : hexT b (j + 1) = hexB (b / 16 ^ j % 16) :: hexT b j := rfl

set_option maxRecDepth 100000 in
theorem format16 (b : Nat) (w : World) (h : b < 18446744073709551616) (ht : Tab64 w) :
    Calls Tryd.prog 44 #[.slice none 0 0, .int .u64 (b : Int), .int .i64 16, .bool false, .bool false] w fun e w' => (∃ j, j ≤ 15 ∧ b < 16 ^ (j + 1) ∧ e = .returned (.tuple #[.slice none 0 0, .string ⟨(hexT b (j + 1)).toArray⟩])) ∧ ∃ a, w' = w.alloc (.cells a 99) := by
  obtain ⟨Z, HZ⟩ : ∃ Z, Hid (Tryd.zeroCells99 = Z) := ⟨_, hidf rfl⟩
  have hZ : Tryd.zeroCells99.size = 65 := by kernel_rfl
  have HS := hidf hZ
  have H := hidf h
  clear hZ
  have h79 := fun o => trailing16 (w.alloc o) (ht.alloc o)
  clear ht
  go_enter Tryd.func44, Tryd.ntmps44
  go_wp2_with (first
    | (go_at_call 79; refine (h79 _).mono ?_; rintro e w' ⟨rfl, rfl⟩)
    | (go_at_call 78; refine (power16 _).mono ?_; rintro e w' ⟨rfl, rfl⟩))
  clear h79 h
  go_loopw [1, 13] (fun u k wr => ∃ (j i m : Nat) (a : Array Value), j ≤ 15 ∧ i + j = 65 ∧ m < 18446744073709551616 ∧ Hid (m = b / 16 ^ j ∧ Tail a i (hexT b j)) ∧ u = .int .u64 m ∧ k = .int .i64 i ∧ wr = w.alloc (.cells a 99)) (fun _ k _ => (intOf k).toNat)
  case atStart => exact ⟨0, 65, b, _, by omega, by omega, H.out, hidf ⟨by simp, tail_start _ HS.out⟩, rfl, rfl, rfl⟩
  case round =>
    obtain ⟨j, i, m, a, hj, hij, hm, HH, rfl, rfl, rfl⟩ := hrel
    obtain ⟨k, rfl⟩ : ∃ k, i = k + 1 := ⟨i - 1, by omega⟩
    obtain ⟨v, hv⟩ := tail_cell HH.out.2
    by_cases hlt : 16 ≤ m
    · have hlt' : (16 : Int) ≤ (m : Int) := by omega
      obtain ⟨d, HD⟩ : ∃ d, Hid (m % 16 = d) := ⟨_, hidf rfl⟩
      have hd : d < 16 := by rw [← HD.out]; exact Nat.mod_lt _ (by omega)
      have hb : bits BinOp.and IntKind.u64 (m : Int) 15 = (d : Int) := by
        rw [show (15 : Int) = ((15 : Nat) : Int) by rfl, bits_and_u64 m _ hm (by omega), ← HD.out]
        exact congrArg Int.ofNat (Nat.and_two_pow_sub_one_eq_mod m 4)
      have hj' : j ≤ 14 := by
        have e := HH.out.1
        have hb' := H.out
        by_cases hj15 : j = 15
        · subst hj15; omega
        · omega
      have HN : Hid (m / 16 = b / 16 ^ (j + 1) ∧ Tail (a.setIfInBounds k (.int .u8 ((hexB d).toNat : Int))) k (hexT b (j + 1))) := hidf (by
        refine ⟨by rw [HH.out.1, Nat.pow_succ, Nat.div_div_eq_div_mul], ?_⟩
        rw [hexT_succ, ← HH.out.1, HD.out]
        exact tail_step _ HH.out.2)
      have hix := idx_digit d hd
      go_wp2
      go_roundw
      case rel => exact ⟨j + 1, k, m / 16, _, by omega, by omega, by omega, HN, by simp, rfl, rfl⟩
      case measure => simp [intOf]
    · have hlt' : ¬ (16 : Int) ≤ (m : Int) := by omega
      have hm16 : m < 16 := by omega
      have HN : Hid (b < 16 ^ (j + 1) ∧ Tail (a.setIfInBounds k (.int .u8 ((hexB m).toNat : Int))) k (hexT b (j + 1))) := hidf (by
        have e := HH.out.1
        refine ⟨?_, ?_⟩
        · rw [Nat.pow_succ, Nat.mul_comm]
          exact (Nat.div_lt_iff_lt_mul (Nat.pow_pos (by omega))).1 (by rw [← e]; exact hm16)
        · rw [hexT_succ, ← e, Nat.mod_eq_of_lt hm16]
          exact tail_step _ HH.out.2)
      have hix := idx_digit m hm16
      have hsl := slice65 w.heap.size k (by omega)
      have hcv := run_convert_bytes_back (P := Tryd.prog) (w.alloc (.cells (a.setIfInBounds k (.int .u8 ((hexB m).toNat : Int))) 99)) 50 9 5 ⟨w.heap.size, k, none⟩ (65 - k) (hexT b (j + 1)) Tryd.underlying50 Tryd.underlying5 Tryd.underlying9 (fun t ht => by
        rw [Go.WideShapes.add_plain]
        rw [World.cell?_alloc_at _ _ _ _ rfl]
        exact HN.out.2.2.2 t ht)
      rw [show (hexT b (j + 1)).length = 65 - k by have := HN.out.2.2.1; omega] at hcv
      go_wp2
      go_ret2
      exact ⟨⟨j, hj, HN.out.1, rfl⟩, _, rfl⟩

theorem fmt16' (b : Nat) (w : World) (h : b < 18446744073709551616) (ht : Tab64 w) :
    Calls Tryd.prog 22 #[.int .u64 (b : Int), .int .i64 16] w fun e w' => (∃ j, j ≤ 15 ∧ b < 16 ^ (j + 1) ∧ e = .returned (.string ⟨(hexT b (j + 1)).toArray⟩)) ∧ ∃ a, w' = w.alloc (.cells a 99) := by
  have hcon := format16 b w h ht
  clear h ht
  go_enter Tryd.func22, Tryd.ntmps22
  go_wp2_with (go_at_call 44; refine hcon.mono ?_; rintro e w' ⟨⟨j, hj, hb, rfl⟩, a, rfl⟩; have HB := hidf hb; clear hb)
  go_ret
  exact ⟨⟨j, hj, HB.out, rfl⟩, a, rfl⟩

/-- The library's text of a number to the base 16. -/
theorem fmt16 (b : Nat) (w : World) (h : b < 18446744073709551616) (ht : Tab64 w) :
    Calls Tryd.prog 16 #[.int .u64 (b : Int), .int .i64 16] w fun e w' => (∃ j, j ≤ 15 ∧ b < 16 ^ (j + 1) ∧ e = .returned (.string ⟨(hexT b (j + 1)).toArray⟩)) ∧ ∃ a, w' = w.alloc (.cells a 99) := by
  have hcon := fmt16' b w h ht
  clear h ht
  go_enter Tryd.func16, Tryd.ntmps16
  go_wp2_with (go_at_call 22; refine hcon.mono ?_; rintro e w' ⟨⟨j, hj, hb, rfl⟩, a, rfl⟩; have HB := hidf hb; clear hb)
  go_ret
  exact ⟨⟨j, hj, HB.out, rfl⟩, a, rfl⟩

end Go.Proofs.YtcjdmkjcpelakaaDoor

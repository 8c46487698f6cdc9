/- What the library's OnesCount64 and TrailingZeros64 return. -/
import Derived.Test.YtdcnpaodcjfdbaaGreatDoorOnes
import Derived.Test.YtdcnpaodcjfdbaaGreatDoorBits
import Derived.Test.YtdcnpaodcjfdbaaGreatDoorProg
import Derived.Lib.TrailingZeros
import Derived.WalkKit
import Derived.ProofKit
import Derived.WalkLawsBesides
import Derived.WalkSpells
namespace Go.Proofs.YtdcnpaodcjfdbaaGreatDoor
open Go.RowKit
set_option linter.unusedVariables false

theorem and_quo (x k m : Nat) (hx : x < 18446744073709551616) (hm : m < 18446744073709551616) : bits .and .u64 ((x : Int) / (k : Int)) (m : Int) = ((x / k &&& m : Nat) : Int) := by
  have e : ((x : Int) / (k : Int)) = ((x / k : Nat) : Int) := by simp
  have hl : x / k ≤ x := Nat.div_le_self _ _
  rw [e, bits_and_u64 _ _ (by omega) hm]
theorem sum_wrap (a b : Nat) (h : a + b < 18446744073709551616) : IntKind.u64.wrap ((a : Int) + (b : Int)) = ((a + b : Nat) : Int) := by
  rw [IntWalk.u64_in _ (by omega)]; omega
theorem quo_sum (a k : Nat) (h : a / k + a < 18446744073709551616) : IntKind.u64.wrap ((a : Int) / (k : Int) + (a : Int)) = ((a / k + a : Nat) : Int) := by
  have e : ((a : Int) / (k : Int)) = ((a / k : Nat) : Int) := by simp
  rw [e, sum_wrap _ _ h]
theorem sum_quo (a k : Nat) (h : a + a / k < 18446744073709551616) : IntKind.u64.wrap ((a : Int) + (a : Int) / (k : Int)) = ((a + a / k : Nat) : Int) := by
  have e : ((a : Int) / (k : Int)) = ((a / k : Nat) : Int) := by simp
  rw [e, sum_wrap _ _ h]

theorem ones64 (x : Nat) (hx : x < 18446744073709551616) (w : World) :
    Calls Tryz.prog 93 #[.int .u64 (x : Int)] w fun e w' => e = .returned (.int .i64 (popN 64 x : Nat)) ∧ w = w' := by
  obtain ⟨a, ha⟩ : ∃ a, a = (x / 2 &&& 6148914691236517205) + (x &&& 6148914691236517205) := ⟨_, rfl⟩
  obtain ⟨b, hb⟩ : ∃ b, b = (a / 4 &&& 3689348814741910323) + (a &&& 3689348814741910323) := ⟨_, rfl⟩
  obtain ⟨c, hc⟩ : ∃ c, c = (b / 16 + b) &&& 1085102592571150095 := ⟨_, rfl⟩
  obtain ⟨y, hy⟩ : ∃ y, y = c + c / 256 := ⟨_, rfl⟩
  obtain ⟨z, hz⟩ : ∃ z, z = y + y / 65536 := ⟨_, rfl⟩
  obtain ⟨v, hv⟩ : ∃ v, v = z + z / 4294967296 := ⟨_, rfl⟩
  obtain ⟨r, la, lb, lc, ly, lz, lv⟩ := ones_all x hx a b c y z v ha hb hc hy hz hv
  have A1 : bits .and .u64 ((x : Int) / 2) 6148914691236517205 = _ := and_quo x 2 6148914691236517205 hx (by omega)
  have A2 : bits .and .u64 (x : Int) 6148914691236517205 = _ := bits_and_u64 x 6148914691236517205 hx (by omega)
  have A3 := sum_wrap _ _ (ha ▸ la)
  rw [← ha] at A3
  have B1 : bits .and .u64 ((a : Int) / 4) 3689348814741910323 = _ := and_quo a 4 3689348814741910323 la (by omega)
  have B2 : bits .and .u64 (a : Int) 3689348814741910323 = _ := bits_and_u64 a 3689348814741910323 la (by omega)
  have lb' : b < 18446744073709551616 := Nat.lt_of_le_of_lt (Nat.le_add_left _ _) lb
  have B3 := sum_wrap _ _ (hb ▸ lb')
  rw [← hb] at B3
  have C1 : IntKind.u64.wrap ((b : Int) / 16 + (b : Int)) = _ := quo_sum b 16 lb
  have C2 : bits .and .u64 ((b / 16 + b : Nat) : Int) 1085102592571150095 = _ := bits_and_u64 (b / 16 + b) 1085102592571150095 lb (by omega)
  rw [← hc] at C2
  have Y1 : IntKind.u64.wrap ((c : Int) + (c : Int) / 256) = _ := sum_quo c 256 (hy ▸ (by omega))
  rw [← hy] at Y1
  have Z1 : IntKind.u64.wrap ((y : Int) + (y : Int) / 65536) = _ := sum_quo y 65536 (hz ▸ (by omega))
  rw [← hz] at Z1
  have V1 : IntKind.u64.wrap ((z : Int) + (z : Int) / 4294967296) = _ := sum_quo z 4294967296 (hv ▸ (by omega))
  rw [← hv] at V1
  have W1 : bits .and .i64 (v : Int) 127 = ((popN 64 x : Nat) : Int) := by
    rw [show (127 : Int) = ((127 : Nat) : Int) from rfl, bits_and_i64 v 127 (by omega) (by omega), show (127 : Nat) = 2 ^ 7 - 1 from rfl, Nat.and_two_pow_sub_one_eq_mod, ← r]
  have W2 : wrap64 (v : Int) = (v : Int) := IntWalk.wrap64_in _ (by omega)
  clear ha hb hc hy hz hv r la lb lc ly lz lv lb'
  replace A1 := (show Hid _ from A1)
  replace A2 := (show Hid _ from A2)
  replace A3 := (show Hid _ from A3)
  replace B1 := (show Hid _ from B1)
  replace B2 := (show Hid _ from B2)
  replace B3 := (show Hid _ from B3)
  replace C1 := (show Hid _ from C1)
  replace C2 := (show Hid _ from C2)
  replace Y1 := (show Hid _ from Y1)
  replace Z1 := (show Hid _ from Z1)
  replace V1 := (show Hid _ from V1)
  replace W2 := (show Hid _ from W2)
  replace W1 := (show Hid _ from W1)
  go_enter Tryz.func93, Tryz.ntmps93
  go_wp2
  go_ret
  refine ⟨congrArg Ending.returned (congrArg (Value.int IntKind.i64) ?_), rfl⟩
  rw [A1.out, A2.out, A3.out, B1.out, B2.out, B3.out, C1.out, C2.out, Y1.out, Z1.out, V1.out, W2.out, W1.out]

/-- The table that the library's initialiser lays. -/
def TabDB (w : World) : Prop := ∀ j, j < Lib.deBruijn64tab.length → w.cell? ⟨0, j, none⟩ = some (.int .u8 (Lib.deBruijn64tab.getD j 0))

theorem low_key (x a : Nat) (hx : x < 18446744073709551616) (hx0 : x ≠ 0) (hlow : x &&& (18446744073709551616 - x) = a) :
    IntKind.u64.wrap (bits .and .u64 (x : Int) (IntKind.u64.wrap (-(x : Int))) * 285870213051353865) / 288230376151711744 = ((a * 285870213051353865 % 18446744073709551616 / 288230376151711744 : Nat) : Int) := by
  have e1 : IntKind.u64.wrap (-(x : Int)) = ((18446744073709551616 - x : Nat) : Int) := by rw [IntKind.wrap_u64]; omega
  rw [e1, bits_and_u64 x _ hx (by omega), hlow, IntKind.wrap_u64]
  omega

theorem tz64 (x : Nat) (hx : x < 18446744073709551616) (hx0 : x ≠ 0) (w : World) (ht : TabDB w) :
    Calls Tryz.prog 75 #[.int .u64 (x : Int)] w fun e w' => e = .returned (.int .i64 (Lib.ctz 64 x : Nat)) ∧ w = w' := by
  obtain ⟨hlow, hk⟩ := Lib.lowest_bit 64 x hx0 hx
  obtain ⟨hi, htab⟩ := Lib.deBruijn64_at _ hk
  have hcell := ht _ hi
  rw [htab] at hcell
  have key := low_key x _ hx hx0 hlow
  obtain ⟨idx, hidx⟩ : ∃ i, i = 2 ^ Lib.ctz 64 x * 285870213051353865 % 18446744073709551616 / 288230376151711744 := ⟨_, rfl⟩
  rw [← hidx] at hi hcell key
  obtain ⟨k, hkk⟩ : ∃ k, k = Lib.ctz 64 x := ⟨_, rfl⟩
  rw [← hkk] at hk hcell ⊢
  have eb : ((x : Int) == 0) = false := by simpa using hx0
  clear hlow htab ht hidx hkk
  go_enter Tryz.func75, Tryz.ntmps75
  go_wp2_with (simp only [key])
  go_ret
  exact ⟨rfl, rfl⟩

end Go.Proofs.YtdcnpaodcjfdbaaGreatDoor

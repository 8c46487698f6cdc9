/- What each function of layer 2 (float) on one float or two returns: for every argument of its type; memory is as it was, but for draws. -/
import Derived.Test.YtdcnpaodcjfdbaaGreatDoorFloatLib
import Derived.Test.YtdcnpaodcjfdbaaGreatDoorFloatText
import Derived.Test.YtdcnpaodcjfdbaaGreatDoorMasks
namespace Go.Proofs.YtdcnpaodcjfdbaaGreatDoor
open Go.RowKit
set_option linter.unusedVariables false

theorem and_exponent (b : Nat) (h : b < 18446744073709551616) : bits BinOp.and IntKind.u64 (b : Int) 9218868437227405312 = ((b / 4503599627370496 % 2048 * 4503599627370496 : Nat) : Int) := by
  rw [show (9218868437227405312 : Int) = ((9218868437227405312 : Nat) : Int) by rfl, bits_and_u64 b _ h (by omega)]
  exact congrArg Int.ofNat (and_mask b 52 11)
theorem and_fraction (b : Nat) (h : b < 18446744073709551616) : bits BinOp.and IntKind.u64 (b : Int) 4503599627370495 = ((b % 4503599627370496 : Nat) : Int) := by
  rw [show (4503599627370495 : Int) = ((4503599627370495 : Nat) : Int) by rfl, bits_and_u64 b _ h (by omega)]
  exact congrArg Int.ofNat (Nat.and_two_pow_sub_one_eq_mod b 52)
theorem and_rest (b : Nat) (h : b < 18446744073709551616) : bits BinOp.and IntKind.u64 (b : Int) 9223372036854775807 = ((fRung b : Nat) : Int) := by
  rw [show (9223372036854775807 : Int) = ((9223372036854775807 : Nat) : Int) by rfl, bits_and_u64 b _ h (by omega)]
  exact congrArg Int.ofNat (Nat.and_two_pow_sub_one_eq_mod b 63)
theorem and_sign (b : Nat) (h : b < 18446744073709551616) : (bits BinOp.and IntKind.u64 (b : Int) 9223372036854775808 == 0) = !fNeg b := by
  rw [show (9223372036854775808 : Int) = ((9223372036854775808 : Nat) : Int) by rfl, bits_and_u64 b _ h (by omega), and_high b h]
  unfold fNeg
  split
  · rw [decide_eq_false (by omega)]; rfl
  · rw [decide_eq_true (by omega)]; rfl
theorem xor_sign (b : Nat) (h : b < 18446744073709551616) : bits BinOp.xor IntKind.u64 (b : Int) 9223372036854775808 = ((fFlip b : Nat) : Int) := by
  rw [show (9223372036854775808 : Int) = ((9223372036854775808 : Nat) : Int) by rfl, bits_xor_u64 b _ h (by omega), xor_high b h]
  have s := of_sign b h
  have r : fRung b < 9223372036854775808 := Nat.mod_lt _ (by omega)
  refine congrArg Int.ofNat ?_
  unfold fFlip
  cases g : fNeg b <;> rw [g] at s <;> simp only [Bool.false_eq_true, if_false, if_true] at s ⊢ <;> split <;> omega
theorem or_sign (b : Nat) (h : b < 18446744073709551616) : bits BinOp.or IntKind.u64 (b : Int) 9223372036854775808 = ((fRung b + 9223372036854775808 : Nat) : Int) := by
  rw [show (9223372036854775808 : Int) = ((9223372036854775808 : Nat) : Int) by rfl, bits_or_u64 b _ h (by omega), or_high b h]
  rfl

/-- What an operation's own function returns: a float that comes to what the document says, once NaNs are told as one. -/
def FunOf (op a b : Nat) (w : World) (e : Ending) (w' : World) : Prop := ∃ r, e = .returned (.float .f64 r) ∧ r < 18446744073709551616 ∧ fOne r = fCalc op a b ∧ ∃ q, w' = w.drewN q

theorem fun_add (a b : Nat) (w : World) :
    Calls Tryz.prog 100 #[.float .f64 a, .float .f64 b] w (FunOf 1 a b w) := by
  cases ho : Ieee.double.add a b with
  | some r =>
    have hr := arith_some .add 121 a b r ho
    have P : Hid (FunOf 1 a b w (.returned (.float .f64 r)) w) := hidf ⟨r, rfl, Ieee.double.add_lt ho, by rw [calc1, ho]; rfl, 0, rfl⟩
    clear ho
    go_enter Tryz.func100, Tryz.ntmps100
    go_wp2
    go_ret
    exact P.out
  | none =>
    obtain ⟨n, hn, h1, hr⟩ := arith_none .add (by simp) 121 a b ho w
    have P : Hid (FunOf 1 a b w (.returned (.float .f64 n)) w.drew) := hidf ⟨n, rfl, hn, by rw [calc1, ho]; unfold fOne; rw [if_pos h1]; rfl, 1, rfl⟩
    clear ho h1 hn
    go_enter Tryz.func100, Tryz.ntmps100
    go_wp2
    go_ret
    exact P.out

theorem fun_sub (a b : Nat) (w : World) :
    Calls Tryz.prog 101 #[.float .f64 a, .float .f64 b] w (FunOf 2 a b w) := by
  cases ho : Ieee.double.sub a b with
  | some r =>
    have hr := arith_some .sub 121 a b r ho
    have P : Hid (FunOf 2 a b w (.returned (.float .f64 r)) w) := hidf ⟨r, rfl, Ieee.double.sub_lt ho, by rw [calc2, ho]; rfl, 0, rfl⟩
    clear ho
    go_enter Tryz.func101, Tryz.ntmps101
    go_wp2
    go_ret
    exact P.out
  | none =>
    obtain ⟨n, hn, h1, hr⟩ := arith_none .sub (by simp) 121 a b ho w
    have P : Hid (FunOf 2 a b w (.returned (.float .f64 n)) w.drew) := hidf ⟨n, rfl, hn, by rw [calc2, ho]; unfold fOne; rw [if_pos h1]; rfl, 1, rfl⟩
    clear ho h1 hn
    go_enter Tryz.func101, Tryz.ntmps101
    go_wp2
    go_ret
    exact P.out

theorem fun_mul (a b : Nat) (w : World) :
    Calls Tryz.prog 102 #[.float .f64 a, .float .f64 b] w (FunOf 3 a b w) := by
  cases ho : Ieee.double.mul a b with
  | some r =>
    have hr := arith_some .mul 121 a b r ho
    have P : Hid (FunOf 3 a b w (.returned (.float .f64 r)) w) := hidf ⟨r, rfl, Ieee.double.mul_lt ho, by rw [calc3, ho]; rfl, 0, rfl⟩
    clear ho
    go_enter Tryz.func102, Tryz.ntmps102
    go_wp2
    go_ret
    exact P.out
  | none =>
    obtain ⟨n, hn, h1, hr⟩ := arith_none .mul (by simp) 121 a b ho w
    have P : Hid (FunOf 3 a b w (.returned (.float .f64 n)) w.drew) := hidf ⟨n, rfl, hn, by rw [calc3, ho]; unfold fOne; rw [if_pos h1]; rfl, 1, rfl⟩
    clear ho h1 hn
    go_enter Tryz.func102, Tryz.ntmps102
    go_wp2
    go_ret
    exact P.out

theorem fun_div (a b : Nat) (w : World) :
    Calls Tryz.prog 103 #[.float .f64 a, .float .f64 b] w (FunOf 4 a b w) := by
  cases ho : Ieee.double.div a b with
  | some r =>
    have hr := arith_some .quo 121 a b r ho
    have P : Hid (FunOf 4 a b w (.returned (.float .f64 r)) w) := hidf ⟨r, rfl, Ieee.double.div_lt ho, by rw [calc4, ho]; rfl, 0, rfl⟩
    clear ho
    go_enter Tryz.func103, Tryz.ntmps103
    go_wp2
    go_ret
    exact P.out
  | none =>
    obtain ⟨n, hn, h1, hr⟩ := arith_none .quo (by simp) 121 a b ho w
    have P : Hid (FunOf 4 a b w (.returned (.float .f64 n)) w.drew) := hidf ⟨n, rfl, hn, by rw [calc4, ho]; unfold fOne; rw [if_pos h1]; rfl, 1, rfl⟩
    clear ho h1 hn
    go_enter Tryz.func103, Tryz.ntmps103
    go_wp2
    go_ret
    exact P.out

theorem float_truth (p : Bool) (w : World) :
    Calls Tryz.prog 105 #[.bool p] w fun e w' => e = .returned (.float .f64 (fTruth p)) ∧ w = w' := by
  cases p
  all_goals
    go_enter Tryz.func105, Tryz.ntmps105
    go_wp2
    go_ret
    exact ⟨rfl, rfl⟩
theorem one_truth (p : Bool) : fOne (fTruth p) = fTruth p := by cases p <;> decide

theorem fun_less (a b : Nat) (w : World) :
    Calls Tryz.prog 104 #[.float .f64 a, .float .f64 b] w (FunOf 5 a b w) := by
  go_enter Tryz.func104, Tryz.ntmps104
  go_wp2_with (go_at_call 105; refine (float_truth _ _).mono ?_; rintro e w' ⟨rfl, rfl⟩)
  go_ret
  exact ⟨_, rfl, truth_lt _, one_truth _, 0, rfl⟩

theorem fun_same (a b : Nat) (w : World) :
    Calls Tryz.prog 106 #[.float .f64 a, .float .f64 b] w (FunOf 6 a b w) := by
  go_enter Tryz.func106, Tryz.ntmps106
  go_wp2_with (go_at_call 105; refine (float_truth _ _).mono ?_; rintro e w' ⟨rfl, rfl⟩)
  go_ret
  exact ⟨_, rfl, truth_lt _, one_truth _, 0, rfl⟩

theorem minmax_nan (k : Bool) (x y t : Nat) : (Question.nanMinMax .f64 k x y).cut t < 18446744073709551616 ∧ fCls ((Question.nanMinMax .f64 k x y).cut t) = 1 := nan_cut x y t
theorem decode_neg (b : Nat) (h : b < 18446744073709551616) : (FloatKind.f64.decode b).neg = fNeg b := by
  show (Ieee.double.read b).neg = fNeg b
  rw [read_def]
  have e : fNeg b = (b / 9223372036854775808 % 2 == 1) := by
    unfold fNeg; rw [Bool.eq_iff_iff]; simp; omega
  rw [e]
  split
  · rfl
  · split
    · rfl
    · split <;> rfl

theorem run_min_some (ts : Array TypeId) (t : TypeId) (a b : Nat) (w : World) (ha : a < 18446744073709551616) (o : Ordering) (h : Ieee.double.order a b = some o) : (Builtin.min_ ts t #[.float .f64 a, .float .f64 b]).run Tryz.prog w = .ok (.float .f64 (fMin a b)) w := by
  have h' : FloatKind.f64.format.order a b = some o := h
  cases o <;> simp [Builtin.min_, Builtin.min2, fMin, h, h', decode_neg a ha]
theorem run_max_some (ts : Array TypeId) (t : TypeId) (a b : Nat) (w : World) (ha : a < 18446744073709551616) (o : Ordering) (h : Ieee.double.order a b = some o) : (Builtin.max_ ts t #[.float .f64 a, .float .f64 b]).run Tryz.prog w = .ok (.float .f64 (fMax a b)) w := by
  have h' : FloatKind.f64.format.order a b = some o := h
  cases o <;> simp [Builtin.max_, Builtin.max2, fMax, h, h', decode_neg a ha]
theorem run_min_none (ts : Array TypeId) (t : TypeId) (a b : Nat) (w : World) (h : Ieee.double.order a b = none) : ∃ n, n < 18446744073709551616 ∧ fCls n = 1 ∧ (Builtin.min_ ts t #[.float .f64 a, .float .f64 b]).run Tryz.prog w = .ok (.float .f64 n) w.drew := by
  have n := minmax_nan false a b (w.tape w.drawn (.nanMinMax .f64 false a b))
  have h' : FloatKind.f64.format.order a b = none := h
  refine ⟨_, n.1, n.2, ?_⟩
  simp [Builtin.min_, Builtin.min2, h', Question.forced]
theorem run_max_none (ts : Array TypeId) (t : TypeId) (a b : Nat) (w : World) (h : Ieee.double.order a b = none) : ∃ n, n < 18446744073709551616 ∧ fCls n = 1 ∧ (Builtin.max_ ts t #[.float .f64 a, .float .f64 b]).run Tryz.prog w = .ok (.float .f64 n) w.drew := by
  have n := minmax_nan true a b (w.tape w.drawn (.nanMinMax .f64 true a b))
  have h' : FloatKind.f64.format.order a b = none := h
  refine ⟨_, n.1, n.2, ?_⟩
  simp [Builtin.max_, Builtin.max2, h', Question.forced]

theorem fun_min (a b : Nat) (w : World) (ha : a < 18446744073709551616) (hb : b < 18446744073709551616) :
    Calls Tryz.prog 107 #[.float .f64 a, .float .f64 b] w (FunOf 7 a b w) := by
  cases ho : Ieee.double.order a b with
  | some o =>
    have hr := fun W => run_min_some #[121, 121] 121 a b W ha o ho
    have P : Hid (FunOf 7 a b w (.returned (.float .f64 (fMin a b))) w) := hidf (by
      have l : fMin a b < 18446744073709551616 := by unfold fMin; rw [ho]; cases o <;> simp only [] <;> (try split) <;> assumption
      have na : fCls a ≠ 1 := fun h => by rw [order_nan a b ha hb (Or.inl h)] at ho; cases ho
      have nb : fCls b ≠ 1 := fun h => by rw [order_nan a b ha hb (Or.inr h)] at ho; cases ho
      have n : fCls (fMin a b) ≠ 1 := by unfold fMin; rw [ho]; cases o <;> simp only [] <;> (try split) <;> assumption
      exact ⟨_, rfl, l, by unfold fOne; rw [if_neg n]; rfl, 0, rfl⟩)
    clear ho
    generalize fMin a b = r at hr P
    go_enter Tryz.func107, Tryz.ntmps107
    go_wp2
    go_ret
    exact P.out
  | none =>
    obtain ⟨n, hn, h1, hr⟩ := run_min_none #[121, 121] 121 a b w ho
    have P : Hid (FunOf 7 a b w (.returned (.float .f64 n)) w.drew) := hidf ⟨n, rfl, hn, by unfold fOne; rw [if_pos h1]; show _ = fMin a b; unfold fMin; rw [ho], 1, rfl⟩
    clear ho h1 hn
    go_enter Tryz.func107, Tryz.ntmps107
    go_wp2
    go_ret
    exact P.out

theorem fun_max (a b : Nat) (w : World) (ha : a < 18446744073709551616) (hb : b < 18446744073709551616) :
    Calls Tryz.prog 108 #[.float .f64 a, .float .f64 b] w (FunOf 8 a b w) := by
  cases ho : Ieee.double.order a b with
  | some o =>
    have hr := fun W => run_max_some #[121, 121] 121 a b W ha o ho
    have P : Hid (FunOf 8 a b w (.returned (.float .f64 (fMax a b))) w) := hidf (by
      have l : fMax a b < 18446744073709551616 := by unfold fMax; rw [ho]; cases o <;> simp only [] <;> (try split) <;> assumption
      have na : fCls a ≠ 1 := fun h => by rw [order_nan a b ha hb (Or.inl h)] at ho; cases ho
      have nb : fCls b ≠ 1 := fun h => by rw [order_nan a b ha hb (Or.inr h)] at ho; cases ho
      have n : fCls (fMax a b) ≠ 1 := by unfold fMax; rw [ho]; cases o <;> simp only [] <;> (try split) <;> assumption
      exact ⟨_, rfl, l, by unfold fOne; rw [if_neg n]; rfl, 0, rfl⟩)
    clear ho
    generalize fMax a b = r at hr P
    go_enter Tryz.func108, Tryz.ntmps108
    go_wp2
    go_ret
    exact P.out
  | none =>
    obtain ⟨n, hn, h1, hr⟩ := run_max_none #[121, 121] 121 a b w ho
    have P : Hid (FunOf 8 a b w (.returned (.float .f64 n)) w.drew) := hidf ⟨n, rfl, hn, by unfold fOne; rw [if_pos h1]; show _ = fMax a b; unfold fMax; rw [ho], 1, rfl⟩
    clear ho h1 hn
    go_enter Tryz.func108, Tryz.ntmps108
    go_wp2
    go_ret
    exact P.out

theorem fun_neg (a b : Nat) (w : World) (ha : a < 18446744073709551616) :
    Calls Tryz.prog 109 #[.float .f64 a, .float .f64 b] w (FunOf 9 a b w) := by
  have h1 := call_bits a
  have h2 := xor_sign a ha
  have h3 := call_frombits (fFlip a)
  have P : Hid (FunOf 9 a b w (.returned (.float .f64 (fFlip a))) w) := hidf ⟨_, rfl, flip_lt a, rfl, 0, rfl⟩
  clear ha
  generalize fFlip a = r at h2 h3 P
  go_enter Tryz.func109, Tryz.ntmps109
  go_wp2
  go_ret
  exact P.out

theorem fun_root (a b : Nat) (w : World) (ha : a < 18446744073709551616) :
    Calls Tryz.prog 111 #[.float .f64 a, .float .f64 b] w (FunOf 10 a b w) := by
  have cs := fun W => lib_sqrt a W ha
  go_enter Tryz.func111, Tryz.ntmps111
  go_wp2_with (go_at_call 92; refine (cs _).mono ?_; rintro e w' ⟨r, rfl, hr, h1, q, rfl⟩; have HO := hidf h1; clear h1)
  go_ret
  exact ⟨r, rfl, by assumption, HO.out, q, rfl⟩

theorem order_self (b : Nat) (h : b < 18446744073709551616) : (FloatKind.f64.format.order b b != some .eq) = decide (fCls b = 1) := by
  show (Ieee.double.order b b != some .eq) = _
  by_cases n : fCls b = 1
  · rw [order_nan b b h h (Or.inl n), decide_eq_true n]; rfl
  · rw [order_key b b h h n n, decide_eq_false n]; simp

theorem float_bits (b : Nat) (w : World) (h : b < 18446744073709551616) :
    Calls Tryz.prog 88 #[.float .f64 b] w fun e w' => e = .returned (.int .u64 ((fOne b : Nat) : Int)) ∧ w = w' := by
  have h1 := call_bits b
  have h2 := order_self b h
  by_cases n : fCls b = 1
  · have e : fOne b = fNaN := by unfold fOne; rw [if_pos n]
    rw [e]
    rw [decide_eq_true n] at h2
    clear n e h
    go_enter Tryz.func88, Tryz.ntmps88
    go_wp2
    go_ret
    exact ⟨rfl, rfl⟩
  · have e : fOne b = b := by unfold fOne; rw [if_neg n]
    rw [e]
    rw [decide_eq_false n] at h2
    clear n e h
    go_enter Tryz.func88, Tryz.ntmps88
    go_wp2
    go_ret
    exact ⟨rfl, rfl⟩

theorem nil_nil (w : World) : (binOp .eql 130 .nilFunc .nilFunc).run Tryz.prog w = .ok (.bool true) w := by kernel_rfl
theorem fun_nil (f : Fn) (x y : Array Value) (w : World) : (binOp .eql 130 (.func f x y) .nilFunc).run Tryz.prog w = .ok (.bool false) w := by kernel_rfl

theorem float_calc_no (op : Int) (a b : Nat) (w : World) (ho : op < 1 ∨ 10 < op) :
    Calls Tryz.prog 66 #[.int .u8 op, .int .u64 (a : Int), .int .u64 (b : Int)] w fun e w' => e = .returned (.tuple #[.int .u64 0, .int .i64 1]) ∧ w = w' := by
  have n1 : (op == 1) = false := by simp; omega
  have n2 : (op == 2) = false := by simp; omega
  have n3 : (op == 3) = false := by simp; omega
  have n4 : (op == 4) = false := by simp; omega
  have n5 : (op == 5) = false := by simp; omega
  have n6 : (op == 6) = false := by simp; omega
  have n7 : (op == 7) = false := by simp; omega
  have n8 : (op == 8) = false := by simp; omega
  have n9 : (op == 9) = false := by simp; omega
  have n10 : (op == 10) = false := by simp; omega
  have hn := nil_nil
  clear ho
  go_enter Tryz.func66, Tryz.ntmps66
  go_wp2
  go_ret2
  exact ⟨rfl, rfl⟩

theorem float_op1 (w : World) :
    Calls Tryz.prog 87 #[.int .u8 1] w fun e w' => e = .returned (.func (.func 100) #[] #[]) ∧ w = w' := by
  go_enter Tryz.func87, Tryz.ntmps87
  go_wp2
  go_ret
  exact ⟨rfl, rfl⟩

theorem float_op2 (w : World) :
    Calls Tryz.prog 87 #[.int .u8 2] w fun e w' => e = .returned (.func (.func 101) #[] #[]) ∧ w = w' := by
  go_enter Tryz.func87, Tryz.ntmps87
  go_wp2
  go_ret
  exact ⟨rfl, rfl⟩

theorem float_op3 (w : World) :
    Calls Tryz.prog 87 #[.int .u8 3] w fun e w' => e = .returned (.func (.func 102) #[] #[]) ∧ w = w' := by
  go_enter Tryz.func87, Tryz.ntmps87
  go_wp2
  go_ret
  exact ⟨rfl, rfl⟩

theorem float_op4 (w : World) :
    Calls Tryz.prog 87 #[.int .u8 4] w fun e w' => e = .returned (.func (.func 103) #[] #[]) ∧ w = w' := by
  go_enter Tryz.func87, Tryz.ntmps87
  go_wp2
  go_ret
  exact ⟨rfl, rfl⟩

theorem float_op5 (w : World) :
    Calls Tryz.prog 87 #[.int .u8 5] w fun e w' => e = .returned (.func (.func 104) #[] #[]) ∧ w = w' := by
  go_enter Tryz.func87, Tryz.ntmps87
  go_wp2
  go_ret
  exact ⟨rfl, rfl⟩

theorem float_op6 (w : World) :
    Calls Tryz.prog 87 #[.int .u8 6] w fun e w' => e = .returned (.func (.func 106) #[] #[]) ∧ w = w' := by
  go_enter Tryz.func87, Tryz.ntmps87
  go_wp2
  go_ret
  exact ⟨rfl, rfl⟩

theorem float_op7 (w : World) :
    Calls Tryz.prog 87 #[.int .u8 7] w fun e w' => e = .returned (.func (.func 107) #[] #[]) ∧ w = w' := by
  go_enter Tryz.func87, Tryz.ntmps87
  go_wp2
  go_ret
  exact ⟨rfl, rfl⟩

theorem float_op8 (w : World) :
    Calls Tryz.prog 87 #[.int .u8 8] w fun e w' => e = .returned (.func (.func 108) #[] #[]) ∧ w = w' := by
  go_enter Tryz.func87, Tryz.ntmps87
  go_wp2
  go_ret
  exact ⟨rfl, rfl⟩

theorem float_op9 (w : World) :
    Calls Tryz.prog 87 #[.int .u8 9] w fun e w' => e = .returned (.func (.func 109) #[] #[]) ∧ w = w' := by
  go_enter Tryz.func87, Tryz.ntmps87
  go_wp2
  go_ret
  exact ⟨rfl, rfl⟩

theorem float_op10 (w : World) :
    Calls Tryz.prog 87 #[.int .u8 10] w fun e w' => e = .returned (.func (.func 111) #[] #[]) ∧ w = w' := by
  go_enter Tryz.func87, Tryz.ntmps87
  go_wp2
  go_ret
  exact ⟨rfl, rfl⟩

theorem float_calc1 (a b : Nat) (w : World) (ha : a < 18446744073709551616) (hb : b < 18446744073709551616) :
    Calls Tryz.prog 66 #[.int .u8 1, .int .u64 (a : Int), .int .u64 (b : Int)] w (CalcOf 1 a b w) := by
  have cf := fun W => fun_add a b W
  have h1 := call_frombits a
  have h2 := call_frombits b
  have hn := fun_nil
  clear ha hb
  go_enter Tryz.func66, Tryz.ntmps66
  go_wp2_with (first
    | (go_at_call 87; refine (float_op1 _).mono ?_; rintro e w' ⟨rfl, rfl⟩)
    | (go_at_call 100; refine (cf _).mono ?_; rintro e w' ⟨r, rfl, hr, hf, q, rfl⟩; have HF := hidf hf; clear hf)
    | (go_at_call 88; refine (float_bits r _ (by assumption)).mono ?_; rintro e w' ⟨rfl, rfl⟩))
  go_ret2
  exact ⟨by rw [HF.out]; rfl, q, rfl⟩

theorem float_calc2 (a b : Nat) (w : World) (ha : a < 18446744073709551616) (hb : b < 18446744073709551616) :
    Calls Tryz.prog 66 #[.int .u8 2, .int .u64 (a : Int), .int .u64 (b : Int)] w (CalcOf 2 a b w) := by
  have cf := fun W => fun_sub a b W
  have h1 := call_frombits a
  have h2 := call_frombits b
  have hn := fun_nil
  clear ha hb
  go_enter Tryz.func66, Tryz.ntmps66
  go_wp2_with (first
    | (go_at_call 87; refine (float_op2 _).mono ?_; rintro e w' ⟨rfl, rfl⟩)
    | (go_at_call 101; refine (cf _).mono ?_; rintro e w' ⟨r, rfl, hr, hf, q, rfl⟩; have HF := hidf hf; clear hf)
    | (go_at_call 88; refine (float_bits r _ (by assumption)).mono ?_; rintro e w' ⟨rfl, rfl⟩))
  go_ret2
  exact ⟨by rw [HF.out]; rfl, q, rfl⟩

theorem float_calc3 (a b : Nat) (w : World) (ha : a < 18446744073709551616) (hb : b < 18446744073709551616) :
    Calls Tryz.prog 66 #[.int .u8 3, .int .u64 (a : Int), .int .u64 (b : Int)] w (CalcOf 3 a b w) := by
  have cf := fun W => fun_mul a b W
  have h1 := call_frombits a
  have h2 := call_frombits b
  have hn := fun_nil
  clear ha hb
  go_enter Tryz.func66, Tryz.ntmps66
  go_wp2_with (first
    | (go_at_call 87; refine (float_op3 _).mono ?_; rintro e w' ⟨rfl, rfl⟩)
    | (go_at_call 102; refine (cf _).mono ?_; rintro e w' ⟨r, rfl, hr, hf, q, rfl⟩; have HF := hidf hf; clear hf)
    | (go_at_call 88; refine (float_bits r _ (by assumption)).mono ?_; rintro e w' ⟨rfl, rfl⟩))
  go_ret2
  exact ⟨by rw [HF.out]; rfl, q, rfl⟩

theorem float_calc4 (a b : Nat) (w : World) (ha : a < 18446744073709551616) (hb : b < 18446744073709551616) :
    Calls Tryz.prog 66 #[.int .u8 4, .int .u64 (a : Int), .int .u64 (b : Int)] w (CalcOf 4 a b w) := by
  have cf := fun W => fun_div a b W
  have h1 := call_frombits a
  have h2 := call_frombits b
  have hn := fun_nil
  clear ha hb
  go_enter Tryz.func66, Tryz.ntmps66
  go_wp2_with (first
    | (go_at_call 87; refine (float_op4 _).mono ?_; rintro e w' ⟨rfl, rfl⟩)
    | (go_at_call 103; refine (cf _).mono ?_; rintro e w' ⟨r, rfl, hr, hf, q, rfl⟩; have HF := hidf hf; clear hf)
    | (go_at_call 88; refine (float_bits r _ (by assumption)).mono ?_; rintro e w' ⟨rfl, rfl⟩))
  go_ret2
  exact ⟨by rw [HF.out]; rfl, q, rfl⟩

theorem float_calc5 (a b : Nat) (w : World) (ha : a < 18446744073709551616) (hb : b < 18446744073709551616) :
    Calls Tryz.prog 66 #[.int .u8 5, .int .u64 (a : Int), .int .u64 (b : Int)] w (CalcOf 5 a b w) := by
  have cf := fun W => fun_less a b W
  have h1 := call_frombits a
  have h2 := call_frombits b
  have hn := fun_nil
  clear ha hb
  go_enter Tryz.func66, Tryz.ntmps66
  go_wp2_with (first
    | (go_at_call 87; refine (float_op5 _).mono ?_; rintro e w' ⟨rfl, rfl⟩)
    | (go_at_call 104; refine (cf _).mono ?_; rintro e w' ⟨r, rfl, hr, hf, q, rfl⟩; have HF := hidf hf; clear hf)
    | (go_at_call 88; refine (float_bits r _ (by assumption)).mono ?_; rintro e w' ⟨rfl, rfl⟩))
  go_ret2
  exact ⟨by rw [HF.out]; rfl, q, rfl⟩

theorem float_calc6 (a b : Nat) (w : World) (ha : a < 18446744073709551616) (hb : b < 18446744073709551616) :
    Calls Tryz.prog 66 #[.int .u8 6, .int .u64 (a : Int), .int .u64 (b : Int)] w (CalcOf 6 a b w) := by
  have cf := fun W => fun_same a b W
  have h1 := call_frombits a
  have h2 := call_frombits b
  have hn := fun_nil
  clear ha hb
  go_enter Tryz.func66, Tryz.ntmps66
  go_wp2_with (first
    | (go_at_call 87; refine (float_op6 _).mono ?_; rintro e w' ⟨rfl, rfl⟩)
    | (go_at_call 106; refine (cf _).mono ?_; rintro e w' ⟨r, rfl, hr, hf, q, rfl⟩; have HF := hidf hf; clear hf)
    | (go_at_call 88; refine (float_bits r _ (by assumption)).mono ?_; rintro e w' ⟨rfl, rfl⟩))
  go_ret2
  exact ⟨by rw [HF.out]; rfl, q, rfl⟩

theorem float_calc7 (a b : Nat) (w : World) (ha : a < 18446744073709551616) (hb : b < 18446744073709551616) :
    Calls Tryz.prog 66 #[.int .u8 7, .int .u64 (a : Int), .int .u64 (b : Int)] w (CalcOf 7 a b w) := by
  have cf := fun W => fun_min a b W ha hb
  have h1 := call_frombits a
  have h2 := call_frombits b
  have hn := fun_nil
  clear ha hb
  go_enter Tryz.func66, Tryz.ntmps66
  go_wp2_with (first
    | (go_at_call 87; refine (float_op7 _).mono ?_; rintro e w' ⟨rfl, rfl⟩)
    | (go_at_call 107; refine (cf _).mono ?_; rintro e w' ⟨r, rfl, hr, hf, q, rfl⟩; have HF := hidf hf; clear hf)
    | (go_at_call 88; refine (float_bits r _ (by assumption)).mono ?_; rintro e w' ⟨rfl, rfl⟩))
  go_ret2
  exact ⟨by rw [HF.out]; rfl, q, rfl⟩

theorem float_calc8 (a b : Nat) (w : World) (ha : a < 18446744073709551616) (hb : b < 18446744073709551616) :
    Calls Tryz.prog 66 #[.int .u8 8, .int .u64 (a : Int), .int .u64 (b : Int)] w (CalcOf 8 a b w) := by
  have cf := fun W => fun_max a b W ha hb
  have h1 := call_frombits a
  have h2 := call_frombits b
  have hn := fun_nil
  clear ha hb
  go_enter Tryz.func66, Tryz.ntmps66
  go_wp2_with (first
    | (go_at_call 87; refine (float_op8 _).mono ?_; rintro e w' ⟨rfl, rfl⟩)
    | (go_at_call 108; refine (cf _).mono ?_; rintro e w' ⟨r, rfl, hr, hf, q, rfl⟩; have HF := hidf hf; clear hf)
    | (go_at_call 88; refine (float_bits r _ (by assumption)).mono ?_; rintro e w' ⟨rfl, rfl⟩))
  go_ret2
  exact ⟨by rw [HF.out]; rfl, q, rfl⟩

theorem float_calc9 (a b : Nat) (w : World) (ha : a < 18446744073709551616) (hb : b < 18446744073709551616) :
    Calls Tryz.prog 66 #[.int .u8 9, .int .u64 (a : Int), .int .u64 (b : Int)] w (CalcOf 9 a b w) := by
  have cf := fun W => fun_neg a b W ha
  have h1 := call_frombits a
  have h2 := call_frombits b
  have hn := fun_nil
  clear ha hb
  go_enter Tryz.func66, Tryz.ntmps66
  go_wp2_with (first
    | (go_at_call 87; refine (float_op9 _).mono ?_; rintro e w' ⟨rfl, rfl⟩)
    | (go_at_call 109; refine (cf _).mono ?_; rintro e w' ⟨r, rfl, hr, hf, q, rfl⟩; have HF := hidf hf; clear hf)
    | (go_at_call 88; refine (float_bits r _ (by assumption)).mono ?_; rintro e w' ⟨rfl, rfl⟩))
  go_ret2
  exact ⟨by rw [HF.out]; rfl, q, rfl⟩

theorem float_calc10 (a b : Nat) (w : World) (ha : a < 18446744073709551616) (hb : b < 18446744073709551616) :
    Calls Tryz.prog 66 #[.int .u8 10, .int .u64 (a : Int), .int .u64 (b : Int)] w (CalcOf 10 a b w) := by
  have cf := fun W => fun_root a b W ha
  have h1 := call_frombits a
  have h2 := call_frombits b
  have hn := fun_nil
  clear ha hb
  go_enter Tryz.func66, Tryz.ntmps66
  go_wp2_with (first
    | (go_at_call 87; refine (float_op10 _).mono ?_; rintro e w' ⟨rfl, rfl⟩)
    | (go_at_call 111; refine (cf _).mono ?_; rintro e w' ⟨r, rfl, hr, hf, q, rfl⟩; have HF := hidf hf; clear hf)
    | (go_at_call 88; refine (float_bits r _ (by assumption)).mono ?_; rintro e w' ⟨rfl, rfl⟩))
  go_ret2
  exact ⟨by rw [HF.out]; rfl, q, rfl⟩

end Go.Proofs.YtdcnpaodcjfdbaaGreatDoor

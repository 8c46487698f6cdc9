/- What the document's own 'Calc', 'Order', 'Text', 'Read' and 'Sum' (layer 2) return; memory is as it was, but for draws. -/
import Derived.Test.YtdcnpaodcjfdbaaGreatDoorFloatEdge
import Derived.Test.YtdcnpaodcjfdbaaGreatDoorFloatLib
namespace Go.Proofs.YtdcnpaodcjfdbaaGreatDoor
open Go.RowKit
set_option linter.unusedVariables false

theorem ref_fwhole (b : Nat) (w : World) (h : b < 18446744073709551616) :
    Calls Tryz.prog 91 #[.float .f64 b] w fun e w' => e = .returned (.int .u64 ((fOne b : Nat) : Int)) ∧ w = w' := by
  have cc := fun W => ref_fclass b W h
  have hb := call_bits b
  obtain ⟨m, hm⟩ : ∃ m : Int, (fCls b : Int) = m := ⟨_, rfl⟩
  rw [hm] at cc
  by_cases m1 : m = 1
  · have e : fOne b = fNaN := by unfold fOne; rw [if_pos (by omega)]
    have E := hidf e
    subst m1
    clear hm e
    go_enter Tryz.func91, Tryz.ntmps91
    go_wp2_with (first
      | (go_at_call 113; refine (cc _).mono ?_; rintro e w' ⟨rfl, rfl⟩)
      | (go_at_call 116; refine (ref_fnan _).mono ?_; rintro e w' ⟨rfl, rfl⟩))
    go_ret
    exact ⟨by rw [E.out]; rfl, rfl⟩
  · have e : fOne b = b := by unfold fOne; rw [if_neg (by omega)]
    have E := hidf e
    have m1' : (m == 1) = false := by simpa using m1
    clear hm e
    go_enter Tryz.func91, Tryz.ntmps91
    go_wp2_with (first
      | (go_at_call 113; refine (cc _).mono ?_; rintro e w' ⟨rfl, rfl⟩))
    go_ret
    exact ⟨by rw [E.out]; rfl, rfl⟩

theorem ref_calc_no (op : Int) (a b : Nat) (w : World) (ho : op < 1 ∨ 10 < op) :
    Calls Tryz.prog 69 #[.int .u8 op, .int .u64 (a : Int), .int .u64 (b : Int)] w fun e w' => e = .returned (.tuple #[.int .u64 0, .int .i64 1]) ∧ w = w' := by
  rcases ho with h | h
  · go_enter Tryz.func69, Tryz.ntmps69
    go_wp2
    go_ret2
    exact ⟨rfl, rfl⟩
  · have h1 : ¬ op < 1 := by omega
    go_enter Tryz.func69, Tryz.ntmps69
    go_wp2
    go_ret2
    exact ⟨rfl, rfl⟩

theorem ref_calc5 (a b : Nat) (w : World) (ha : a < 18446744073709551616) (hb : b < 18446744073709551616) :
    Calls Tryz.prog 69 #[.int .u8 5, .int .u64 (a : Int), .int .u64 (b : Int)] w (CalcOf 5 a b w) := by
  have ce := fun W => ref_edge5 a b W ha hb
  go_enter Tryz.func69, Tryz.ntmps69
  go_wp2_with (go_at_call 90; refine (ce _).mono ?_; rintro e w' ⟨⟨r, ok, rfl, h1, h2, h3⟩, rfl⟩; cases ok; exact absurd (h3 rfl) (by omega); have H2 := hidf (h2 rfl); clear h2 h3)
  go_ret2
  exact ⟨by rw [H2.out]; rfl, 0, rfl⟩

theorem ref_calc6 (a b : Nat) (w : World) (ha : a < 18446744073709551616) (hb : b < 18446744073709551616) :
    Calls Tryz.prog 69 #[.int .u8 6, .int .u64 (a : Int), .int .u64 (b : Int)] w (CalcOf 6 a b w) := by
  have ce := fun W => ref_edge6 a b W ha hb
  go_enter Tryz.func69, Tryz.ntmps69
  go_wp2_with (go_at_call 90; refine (ce _).mono ?_; rintro e w' ⟨⟨r, ok, rfl, h1, h2, h3⟩, rfl⟩; cases ok; exact absurd (h3 rfl) (by omega); have H2 := hidf (h2 rfl); clear h2 h3)
  go_ret2
  exact ⟨by rw [H2.out]; rfl, 0, rfl⟩

theorem ref_calc7 (a b : Nat) (w : World) (ha : a < 18446744073709551616) (hb : b < 18446744073709551616) :
    Calls Tryz.prog 69 #[.int .u8 7, .int .u64 (a : Int), .int .u64 (b : Int)] w (CalcOf 7 a b w) := by
  have ce := fun W => ref_edge7 a b W ha hb
  go_enter Tryz.func69, Tryz.ntmps69
  go_wp2_with (go_at_call 90; refine (ce _).mono ?_; rintro e w' ⟨⟨r, ok, rfl, h1, h2, h3⟩, rfl⟩; cases ok; exact absurd (h3 rfl) (by omega); have H2 := hidf (h2 rfl); clear h2 h3)
  go_ret2
  exact ⟨by rw [H2.out]; rfl, 0, rfl⟩

theorem ref_calc8 (a b : Nat) (w : World) (ha : a < 18446744073709551616) (hb : b < 18446744073709551616) :
    Calls Tryz.prog 69 #[.int .u8 8, .int .u64 (a : Int), .int .u64 (b : Int)] w (CalcOf 8 a b w) := by
  have ce := fun W => ref_edge8 a b W ha hb
  go_enter Tryz.func69, Tryz.ntmps69
  go_wp2_with (go_at_call 90; refine (ce _).mono ?_; rintro e w' ⟨⟨r, ok, rfl, h1, h2, h3⟩, rfl⟩; cases ok; exact absurd (h3 rfl) (by omega); have H2 := hidf (h2 rfl); clear h2 h3)
  go_ret2
  exact ⟨by rw [H2.out]; rfl, 0, rfl⟩

theorem ref_calc9 (a b : Nat) (w : World) (ha : a < 18446744073709551616) (hb : b < 18446744073709551616) :
    Calls Tryz.prog 69 #[.int .u8 9, .int .u64 (a : Int), .int .u64 (b : Int)] w (CalcOf 9 a b w) := by
  have ce := fun W => ref_edge9 a b W ha hb
  go_enter Tryz.func69, Tryz.ntmps69
  go_wp2_with (go_at_call 90; refine (ce _).mono ?_; rintro e w' ⟨⟨r, ok, rfl, h1, h2, h3⟩, rfl⟩; cases ok; exact absurd (h3 rfl) (by omega); have H2 := hidf (h2 rfl); clear h2 h3)
  go_ret2
  exact ⟨by rw [H2.out]; rfl, 0, rfl⟩

theorem ref_calc1 (a b : Nat) (w : World) (ha : a < 18446744073709551616) (hb : b < 18446744073709551616) :
    Calls Tryz.prog 69 #[.int .u8 1, .int .u64 (a : Int), .int .u64 (b : Int)] w (CalcOf 1 a b w) := by
  have ce := fun W => ref_edge1 a b W ha hb
  have ta := call_frombits a
  have tb := call_frombits b
  cases ho : Ieee.double.add a b with
  | some r =>
    have hr := arith_some .add 121 a b r ho
    have cw := fun W => ref_fwhole r W (Ieee.double.add_lt ho)
    have HO : Hid (fCalc 1 a b = fOne r) := hidf (by rw [calc1, ho]; rfl)
    clear ho
    go_enter Tryz.func69, Tryz.ntmps69
    go_wp2_with (first
      | (go_at_call 90; refine (ce _).mono ?_; rintro e w' ⟨⟨r', ok, rfl, h1, h2, h3⟩, rfl⟩; have H2 := hidf h2; clear h2 h3; cases ok)
      | (go_at_call 91; refine (cw _).mono ?_; rintro e w' ⟨rfl, rfl⟩))
    · go_ret2
      exact ⟨by rw [HO.out]; rfl, 0, rfl⟩
    · go_ret2
      exact ⟨by rw [H2.out (by simp)]; rfl, 0, rfl⟩
  | none =>
    obtain ⟨n, hn, h1, hr⟩ := arith_none .add (by simp) 121 a b ho w
    have cw := fun W => ref_fwhole n W hn
    have HO : Hid (fCalc 1 a b = fOne n) := hidf (by rw [calc1, ho]; unfold fOne; rw [if_pos h1]; rfl)
    clear ho h1 hn
    go_enter Tryz.func69, Tryz.ntmps69
    go_wp2_with (first
      | (go_at_call 90; refine (ce _).mono ?_; rintro e w' ⟨⟨r', ok, rfl, h1, h2, h3⟩, rfl⟩; have H2 := hidf h2; clear h2 h3; cases ok)
      | (go_at_call 91; refine (cw _).mono ?_; rintro e w' ⟨rfl, rfl⟩))
    · go_ret2
      exact ⟨by rw [HO.out]; rfl, 1, rfl⟩
    · go_ret2
      exact ⟨by rw [H2.out (by simp)]; rfl, 0, rfl⟩

theorem ref_calc2 (a b : Nat) (w : World) (ha : a < 18446744073709551616) (hb : b < 18446744073709551616) :
    Calls Tryz.prog 69 #[.int .u8 2, .int .u64 (a : Int), .int .u64 (b : Int)] w (CalcOf 2 a b w) := by
  have ce := fun W => ref_edge2 a b W ha hb
  have ta := call_frombits a
  have tb := call_frombits b
  cases ho : Ieee.double.sub a b with
  | some r =>
    have hr := arith_some .sub 121 a b r ho
    have cw := fun W => ref_fwhole r W (Ieee.double.sub_lt ho)
    have HO : Hid (fCalc 2 a b = fOne r) := hidf (by rw [calc2, ho]; rfl)
    clear ho
    go_enter Tryz.func69, Tryz.ntmps69
    go_wp2_with (first
      | (go_at_call 90; refine (ce _).mono ?_; rintro e w' ⟨⟨r', ok, rfl, h1, h2, h3⟩, rfl⟩; have H2 := hidf h2; clear h2 h3; cases ok)
      | (go_at_call 91; refine (cw _).mono ?_; rintro e w' ⟨rfl, rfl⟩))
    · go_ret2
      exact ⟨by rw [HO.out]; rfl, 0, rfl⟩
    · go_ret2
      exact ⟨by rw [H2.out (by simp)]; rfl, 0, rfl⟩
  | none =>
    obtain ⟨n, hn, h1, hr⟩ := arith_none .sub (by simp) 121 a b ho w
    have cw := fun W => ref_fwhole n W hn
    have HO : Hid (fCalc 2 a b = fOne n) := hidf (by rw [calc2, ho]; unfold fOne; rw [if_pos h1]; rfl)
    clear ho h1 hn
    go_enter Tryz.func69, Tryz.ntmps69
    go_wp2_with (first
      | (go_at_call 90; refine (ce _).mono ?_; rintro e w' ⟨⟨r', ok, rfl, h1, h2, h3⟩, rfl⟩; have H2 := hidf h2; clear h2 h3; cases ok)
      | (go_at_call 91; refine (cw _).mono ?_; rintro e w' ⟨rfl, rfl⟩))
    · go_ret2
      exact ⟨by rw [HO.out]; rfl, 1, rfl⟩
    · go_ret2
      exact ⟨by rw [H2.out (by simp)]; rfl, 0, rfl⟩

theorem ref_calc3 (a b : Nat) (w : World) (ha : a < 18446744073709551616) (hb : b < 18446744073709551616) :
    Calls Tryz.prog 69 #[.int .u8 3, .int .u64 (a : Int), .int .u64 (b : Int)] w (CalcOf 3 a b w) := by
  have ce := fun W => ref_edge3 a b W ha hb
  have ta := call_frombits a
  have tb := call_frombits b
  cases ho : Ieee.double.mul a b with
  | some r =>
    have hr := arith_some .mul 121 a b r ho
    have cw := fun W => ref_fwhole r W (Ieee.double.mul_lt ho)
    have HO : Hid (fCalc 3 a b = fOne r) := hidf (by rw [calc3, ho]; rfl)
    clear ho
    go_enter Tryz.func69, Tryz.ntmps69
    go_wp2_with (first
      | (go_at_call 90; refine (ce _).mono ?_; rintro e w' ⟨⟨r', ok, rfl, h1, h2, h3⟩, rfl⟩; have H2 := hidf h2; clear h2 h3; cases ok)
      | (go_at_call 91; refine (cw _).mono ?_; rintro e w' ⟨rfl, rfl⟩))
    · go_ret2
      exact ⟨by rw [HO.out]; rfl, 0, rfl⟩
    · go_ret2
      exact ⟨by rw [H2.out (by simp)]; rfl, 0, rfl⟩
  | none =>
    obtain ⟨n, hn, h1, hr⟩ := arith_none .mul (by simp) 121 a b ho w
    have cw := fun W => ref_fwhole n W hn
    have HO : Hid (fCalc 3 a b = fOne n) := hidf (by rw [calc3, ho]; unfold fOne; rw [if_pos h1]; rfl)
    clear ho h1 hn
    go_enter Tryz.func69, Tryz.ntmps69
    go_wp2_with (first
      | (go_at_call 90; refine (ce _).mono ?_; rintro e w' ⟨⟨r', ok, rfl, h1, h2, h3⟩, rfl⟩; have H2 := hidf h2; clear h2 h3; cases ok)
      | (go_at_call 91; refine (cw _).mono ?_; rintro e w' ⟨rfl, rfl⟩))
    · go_ret2
      exact ⟨by rw [HO.out]; rfl, 1, rfl⟩
    · go_ret2
      exact ⟨by rw [H2.out (by simp)]; rfl, 0, rfl⟩

theorem ref_calc4 (a b : Nat) (w : World) (ha : a < 18446744073709551616) (hb : b < 18446744073709551616) :
    Calls Tryz.prog 69 #[.int .u8 4, .int .u64 (a : Int), .int .u64 (b : Int)] w (CalcOf 4 a b w) := by
  have ce := fun W => ref_edge4 a b W ha hb
  have ta := call_frombits a
  have tb := call_frombits b
  cases ho : Ieee.double.div a b with
  | some r =>
    have hr := arith_some .quo 121 a b r ho
    have cw := fun W => ref_fwhole r W (Ieee.double.div_lt ho)
    have HO : Hid (fCalc 4 a b = fOne r) := hidf (by rw [calc4, ho]; rfl)
    clear ho
    go_enter Tryz.func69, Tryz.ntmps69
    go_wp2_with (first
      | (go_at_call 90; refine (ce _).mono ?_; rintro e w' ⟨⟨r', ok, rfl, h1, h2, h3⟩, rfl⟩; have H2 := hidf h2; clear h2 h3; cases ok)
      | (go_at_call 91; refine (cw _).mono ?_; rintro e w' ⟨rfl, rfl⟩))
    · go_ret2
      exact ⟨by rw [HO.out]; rfl, 0, rfl⟩
    · go_ret2
      exact ⟨by rw [H2.out (by simp)]; rfl, 0, rfl⟩
  | none =>
    obtain ⟨n, hn, h1, hr⟩ := arith_none .quo (by simp) 121 a b ho w
    have cw := fun W => ref_fwhole n W hn
    have HO : Hid (fCalc 4 a b = fOne n) := hidf (by rw [calc4, ho]; unfold fOne; rw [if_pos h1]; rfl)
    clear ho h1 hn
    go_enter Tryz.func69, Tryz.ntmps69
    go_wp2_with (first
      | (go_at_call 90; refine (ce _).mono ?_; rintro e w' ⟨⟨r', ok, rfl, h1, h2, h3⟩, rfl⟩; have H2 := hidf h2; clear h2 h3; cases ok)
      | (go_at_call 91; refine (cw _).mono ?_; rintro e w' ⟨rfl, rfl⟩))
    · go_ret2
      exact ⟨by rw [HO.out]; rfl, 1, rfl⟩
    · go_ret2
      exact ⟨by rw [H2.out (by simp)]; rfl, 0, rfl⟩

theorem ref_calc10 (a b : Nat) (w : World) (ha : a < 18446744073709551616) (hb : b < 18446744073709551616) :
    Calls Tryz.prog 69 #[.int .u8 10, .int .u64 (a : Int), .int .u64 (b : Int)] w (CalcOf 10 a b w) := by
  have ce := fun W => ref_edge10 a b W ha hb
  have ta := call_frombits a
  have tb := call_frombits b
  have cs := fun W => lib_sqrt a W ha
  go_enter Tryz.func69, Tryz.ntmps69
  go_wp2_with (first
    | (go_at_call 90; refine (ce _).mono ?_; rintro e w' ⟨⟨r', ok, rfl, h1, h2, h3⟩, rfl⟩; have H2 := hidf h2; clear h2 h3; cases ok)
    | (go_at_call 92; refine (cs _).mono ?_; rintro e w' ⟨r, rfl, hr, h1, q, rfl⟩; have HO := hidf h1; clear h1)
    | (go_at_call 91; refine (ref_fwhole r _ (by assumption)).mono ?_; rintro e w' ⟨rfl, rfl⟩))
  · go_ret2
    exact ⟨by rw [calc10, ← HO.out]; rfl, q, rfl⟩
  · go_ret2
    exact ⟨by rw [H2.out (by simp)]; rfl, 0, rfl⟩

end Go.Proofs.YtdcnpaodcjfdbaaGreatDoor

/- The walks of layer 2's statements on numbers and rows: each returns true, and leaves memory as it was, but for draws and new blocks. -/
import Derived.Test.YtcjdmkjcpelakaaFloatMany
import Derived.Test.YtcjdmkjcpelakaaFloatRef2
import Derived.WalkSmall
namespace Go.Proofs.Ytcjdmkjcpelakaa
open Go.RowKit
set_option linter.unusedVariables false

theorem grown_drewN {W w : World} (h : Grown W w) (n : Nat) : Grown W (w.drewN n) := h

theorem wf_u64 {n : Int} (h : (Lit.int .u64 n).wf = true) : 0 ≤ n ∧ n ≤ 18446744073709551615 := by
  have h1 : IntKind.u64.min = 0 := rfl
  have h2 : IntKind.u64.max = 18446744073709551615 := rfl
  simp only [Lit.wf, Bool.and_eq_true, decide_eq_true_eq] at h
  omega

/-- What 'Calc' comes to, for any number of an operation. -/
def calcV (op : Int) (a b : Nat) : Nat := if op < 1 ∨ 10 < op then 0 else fCalc op.toNat a b
def calcE (op : Int) : Int := if op < 1 ∨ 10 < op then 1 else 0
def AnyOf (op : Int) (a b : Nat) (w : World) (e : Ending) (w' : World) : Prop := e = .returned (.tuple #[.int .u64 ((calcV op a b : Nat) : Int), .int .i64 (calcE op)]) ∧ ∃ q, w' = w.drewN q

theorem any_of (op : Nat) (a b : Nat) (h1 : 1 ≤ op) (h2 : op ≤ 10) (w w' : World) (e : Ending) (h : CalcOf op a b w e w') : AnyOf (op : Int) a b w e w' := by
  obtain ⟨h3, q, h4⟩ := h
  refine ⟨?_, q, h4⟩
  unfold calcV calcE
  rw [if_neg (by omega), if_neg (by omega)]
  simpa using h3

theorem float_calc_any (op : Int) (a b : Nat) (w : World) (ha : a < 18446744073709551616) (hb : b < 18446744073709551616) :
    Calls Try.prog 7 #[.int .u8 op, .int .u64 (a : Int), .int .u64 (b : Int)] w (AnyOf op a b w) := by
  by_cases ho : op < 1 ∨ 10 < op
  · refine (float_calc_no op a b w ho).mono ?_
    rintro e w' ⟨rfl, rfl⟩
    exact ⟨by unfold calcV calcE; rw [if_pos ho, if_pos ho]; rfl, 0, rfl⟩
  · obtain ⟨n, rfl⟩ : ∃ n : Nat, op = (n : Int) := ⟨op.toNat, by omega⟩
    have h1 : 1 ≤ n := by omega
    have h2 : n ≤ 10 := by omega
    clear ho
    have : n = 1 ∨ n = 2 ∨ n = 3 ∨ n = 4 ∨ n = 5 ∨ n = 6 ∨ n = 7 ∨ n = 8 ∨ n = 9 ∨ n = 10 := by omega
    rcases this with rfl | rfl | rfl | rfl | rfl | rfl | rfl | rfl | rfl | rfl
    · exact (float_calc1 a b w ha hb).mono fun e w' h => any_of 1 a b h1 h2 w w' e h
    · exact (float_calc2 a b w ha hb).mono fun e w' h => any_of 2 a b h1 h2 w w' e h
    · exact (float_calc3 a b w ha hb).mono fun e w' h => any_of 3 a b h1 h2 w w' e h
    · exact (float_calc4 a b w ha hb).mono fun e w' h => any_of 4 a b h1 h2 w w' e h
    · exact (float_calc5 a b w ha hb).mono fun e w' h => any_of 5 a b h1 h2 w w' e h
    · exact (float_calc6 a b w ha hb).mono fun e w' h => any_of 6 a b h1 h2 w w' e h
    · exact (float_calc7 a b w ha hb).mono fun e w' h => any_of 7 a b h1 h2 w w' e h
    · exact (float_calc8 a b w ha hb).mono fun e w' h => any_of 8 a b h1 h2 w w' e h
    · exact (float_calc9 a b w ha hb).mono fun e w' h => any_of 9 a b h1 h2 w w' e h
    · exact (float_calc10 a b w ha hb).mono fun e w' h => any_of 10 a b h1 h2 w w' e h

theorem ref_calc_any (op : Int) (a b : Nat) (w : World) (ha : a < 18446744073709551616) (hb : b < 18446744073709551616) :
    Calls Try.prog 8 #[.int .u8 op, .int .u64 (a : Int), .int .u64 (b : Int)] w (AnyOf op a b w) := by
  by_cases ho : op < 1 ∨ 10 < op
  · refine (ref_calc_no op a b w ho).mono ?_
    rintro e w' ⟨rfl, rfl⟩
    exact ⟨by unfold calcV calcE; rw [if_pos ho, if_pos ho]; rfl, 0, rfl⟩
  · obtain ⟨n, rfl⟩ : ∃ n : Nat, op = (n : Int) := ⟨op.toNat, by omega⟩
    have h1 : 1 ≤ n := by omega
    have h2 : n ≤ 10 := by omega
    clear ho
    have : n = 1 ∨ n = 2 ∨ n = 3 ∨ n = 4 ∨ n = 5 ∨ n = 6 ∨ n = 7 ∨ n = 8 ∨ n = 9 ∨ n = 10 := by omega
    rcases this with rfl | rfl | rfl | rfl | rfl | rfl | rfl | rfl | rfl | rfl
    · exact (ref_calc1 a b w ha hb).mono fun e w' h => any_of 1 a b h1 h2 w w' e h
    · exact (ref_calc2 a b w ha hb).mono fun e w' h => any_of 2 a b h1 h2 w w' e h
    · exact (ref_calc3 a b w ha hb).mono fun e w' h => any_of 3 a b h1 h2 w w' e h
    · exact (ref_calc4 a b w ha hb).mono fun e w' h => any_of 4 a b h1 h2 w w' e h
    · exact (ref_calc5 a b w ha hb).mono fun e w' h => any_of 5 a b h1 h2 w w' e h
    · exact (ref_calc6 a b w ha hb).mono fun e w' h => any_of 6 a b h1 h2 w w' e h
    · exact (ref_calc7 a b w ha hb).mono fun e w' h => any_of 7 a b h1 h2 w w' e h
    · exact (ref_calc8 a b w ha hb).mono fun e w' h => any_of 8 a b h1 h2 w w' e h
    · exact (ref_calc9 a b w ha hb).mono fun e w' h => any_of 9 a b h1 h2 w w' e h
    · exact (ref_calc10 a b w ha hb).mono fun e w' h => any_of 10 a b h1 h2 w w' e h

theorem awake_any (w : World) : Calls Try.prog 9 #[] w fun e w' => e = .returned (.bool true) ∧ ∃ q, w' = w.drewN q := by
  have c1 : ∀ W, Calls Try.prog 7 #[.int .u8 4, .int .u64 4607182418800017408, .int .u64 9223372036854775808] W fun e w' => e = .returned (.tuple #[.int .u64 18442240474082181120, .int .i64 0]) ∧ ∃ q, w' = W.drewN q := fun W => by
    have h := float_calc4 4607182418800017408 9223372036854775808 W (by omega) (by omega)
    unfold CalcOf at h
    rw [show fCalc 4 4607182418800017408 9223372036854775808 = 18442240474082181120 by decide +kernel] at h
    exact h
  have c2 : ∀ W, Calls Try.prog 7 #[.int .u8 7, .int .u64 0, .int .u64 9223372036854775808] W fun e w' => e = .returned (.tuple #[.int .u64 9223372036854775808, .int .i64 0]) ∧ ∃ q, w' = W.drewN q := fun W => by
    have h := float_calc7 0 9223372036854775808 W (by omega) (by omega)
    unfold CalcOf at h
    rw [show fCalc 7 0 9223372036854775808 = 9223372036854775808 by decide +kernel] at h
    exact h
  go_enter Try.func9, Try.ntmps9
  go_wp2_with (go_at_call 7; first | ((with_reducible refine (c1 _).mono ?_); rintro e w' ⟨rfl, q1, rfl⟩) | ((with_reducible refine (c2 _).mono ?_); rintro e w' ⟨rfl, q2, rfl⟩))
  go_ret
  exact ⟨rfl, _, rfl⟩

theorem floatCalcs_any (op : Int) (a b : Nat) (w : World) (ha : a < 18446744073709551616) (hb : b < 18446744073709551616) :
    Calls Try.prog 3 #[.int .u8 op, .int .u64 (a : Int), .int .u64 (b : Int)] w fun e w' => e = .returned (.bool true) ∧ Grown w w' := by
  have c1 := fun W => float_calc_any op a b W ha hb
  have c2 := fun W => ref_calc_any op a b W ha hb
  go_enter Try.func3, Try.ntmps3
  go_wp2_with (first
    | (go_at_call 7; refine (c1 _).mono ?_; rintro e w' ⟨rfl, q1, rfl⟩)
    | (go_at_call 8; refine (c2 _).mono ?_; rintro e w' ⟨rfl, q2, rfl⟩)
    | (go_at_call 9; refine (awake_any _).mono ?_; rintro e w' ⟨rfl, q3, rfl⟩))
  go_ret
  exact ⟨rfl, grown_drewN (Grown.refl _) _⟩

theorem fone_canon (r : Nat) (h : fCls (fOne r) = 1) : fOne r = fNaN := by
  unfold fOne at h ⊢
  split at h
  · next n => rw [if_pos n]
  · next n => exact absurd h n
theorem fone_nan : fOne fNaN = fNaN := by decide
theorem calc_one (n a b : Nat) (ha : a < 18446744073709551616) (hb : b < 18446744073709551616) (h1 : 1 ≤ n) (h2 : n ≤ 10) : ∃ r, r < 18446744073709551616 ∧ fCalc n a b = fOne r := by
  have can : ∀ o : Option Nat, (∀ r, o = some r → r < 18446744073709551616) → ∃ r, r < 18446744073709551616 ∧ fCanon o = fOne r := by
    intro o ho
    cases o with
    | none => exact ⟨fNaN, by decide, fone_nan.symm⟩
    | some r => exact ⟨r, ho r rfl, rfl⟩
  have : n = 1 ∨ n = 2 ∨ n = 3 ∨ n = 4 ∨ n = 5 ∨ n = 6 ∨ n = 7 ∨ n = 8 ∨ n = 9 ∨ n = 10 := by omega
  rcases this with rfl | rfl | rfl | rfl | rfl | rfl | rfl | rfl | rfl | rfl
  · exact can _ (fun r h => Ieee.double.add_lt h)
  · exact can _ (fun r h => Ieee.double.sub_lt h)
  · exact can _ (fun r h => Ieee.double.mul_lt h)
  · exact can _ (fun r h => Ieee.double.div_lt h)
  · exact ⟨_, truth_lt _, (one_truth _).symm⟩
  · exact ⟨_, truth_lt _, (one_truth _).symm⟩
  · show ∃ r, r < _ ∧ fMin a b = fOne r
    cases ho : Ieee.double.order a b with
    | none => exact ⟨fNaN, by decide, by unfold fMin; rw [ho]; rfl⟩
    | some o =>
      have na : fOne a = a := by unfold fOne; rw [if_neg]; exact fun h => by rw [order_nan a b ha hb (Or.inl h)] at ho; cases ho
      have nb : fOne b = b := by unfold fOne; rw [if_neg]; exact fun h => by rw [order_nan a b ha hb (Or.inr h)] at ho; cases ho
      cases o
      · exact ⟨a, ha, by unfold fMin; rw [ho]; exact na.symm⟩
      · by_cases g : fNeg a = true
        · exact ⟨a, ha, by unfold fMin; rw [ho]; simp only [g, if_true]; exact na.symm⟩
        · exact ⟨b, hb, by unfold fMin; rw [ho]; simp only [g]; exact nb.symm⟩
      · exact ⟨b, hb, by unfold fMin; rw [ho]; exact nb.symm⟩
  · show ∃ r, r < _ ∧ fMax a b = fOne r
    cases ho : Ieee.double.order a b with
    | none => exact ⟨fNaN, by decide, by unfold fMax; rw [ho]; rfl⟩
    | some o =>
      have na : fOne a = a := by unfold fOne; rw [if_neg]; exact fun h => by rw [order_nan a b ha hb (Or.inl h)] at ho; cases ho
      have nb : fOne b = b := by unfold fOne; rw [if_neg]; exact fun h => by rw [order_nan a b ha hb (Or.inr h)] at ho; cases ho
      cases o
      · exact ⟨b, hb, by unfold fMax; rw [ho]; exact nb.symm⟩
      · by_cases g : fNeg a = true
        · exact ⟨b, hb, by unfold fMax; rw [ho]; simp only [g, if_true]; exact nb.symm⟩
        · exact ⟨a, ha, by unfold fMax; rw [ho]; simp only [g]; exact na.symm⟩
      · exact ⟨a, ha, by unfold fMax; rw [ho]; exact na.symm⟩
  · exact ⟨_, flip_lt a, rfl⟩
  · exact can _ (fun r h => Ieee.double.sqrt_lt h)

/-- Class, with its answer as a number of Go's. -/
theorem class_of (b : Nat) (m : Int) (h : b < 18446744073709551616) (hm : (fCls b : Int) = m) (w : World) :
    Calls Try.prog 10 #[.int .u64 (b : Int)] w fun e w' => e = .returned (.int .u8 m) ∧ w = w' := by
  rw [← hm]; exact float_class b w h

set_option maxRecDepth 100000 in
theorem floatOne_any (op : Int) (a b : Nat) (w : World) (ha : a < 18446744073709551616) (hb : b < 18446744073709551616) :
    Calls Try.prog 4 #[.int .u8 op, .int .u64 (a : Int), .int .u64 (b : Int)] w fun e w' => e = .returned (.bool true) ∧ Grown w w' := by
  have c1 := fun W => float_calc_any op a b W ha hb
  unfold AnyOf at c1
  by_cases ho : op < 1 ∨ 10 < op
  · rw [show calcV op a b = 0 by unfold calcV; rw [if_pos ho], show calcE op = 1 by unfold calcE; rw [if_pos ho]] at c1
    clear ho
    go_enter Try.func4, Try.ntmps4
    go_wp2_with (first
      | (go_at_call 7; refine (c1 _).mono ?_; rintro e w' ⟨rfl, q1, rfl⟩)
      | (go_at_call 9; refine (awake_any _).mono ?_; rintro e w' ⟨rfl, q3, rfl⟩))
    go_ret
    exact ⟨rfl, grown_drewN (Grown.refl _) _⟩
  · rw [show calcV op a b = fCalc op.toNat a b by unfold calcV; rw [if_neg ho], show calcE op = 0 by unfold calcE; rw [if_neg ho]] at c1
    have co := calc_one op.toNat a b ha hb (by omega) (by omega)
    by_cases h56 : op = 5 ∨ op = 6
    · obtain ⟨p, hp, hn⟩ : ∃ p, fCalc op.toNat a b = fTruth p ∧ (p = true → fCls a ≠ 1 ∧ fCls b ≠ 1) := by
        have hn : ∀ o, (Ieee.double.order a b == some o) = true → fCls a ≠ 1 ∧ fCls b ≠ 1 := by
          intro o h
          refine ⟨fun g => ?_, fun g => ?_⟩
          · rw [order_nan a b ha hb (Or.inl g)] at h; cases h
          · rw [order_nan a b ha hb (Or.inr g)] at h; cases h
        rcases h56 with rfl | rfl
        · exact ⟨_, rfl, hn _⟩
        · exact ⟨_, rfl, hn _⟩
      rw [hp] at c1
      have ca := fun m hm W => class_of a m ha hm W
      have cb := fun m hm W => class_of b m hb hm W
      have s56 : op = 5 ∨ (op ≠ 5 ∧ op = 6) := by omega
      clear ho co hp h56
      cases p
      · obtain ⟨ma, hma⟩ : ∃ m : Int, (fCls a : Int) = m := ⟨_, rfl⟩
        obtain ⟨mb, hmb⟩ : ∃ m : Int, (fCls b : Int) = m := ⟨_, rfl⟩
        have ca := ca ma hma
        have cb := cb mb hmb
        have cx := class_of 0 3 (by omega) (by decide)
        simp only [fTruth, Bool.false_eq_true, if_false] at c1
        clear hn hma hmb ha hb
        rcases s56 with rfl | ⟨h5, rfl⟩
        all_goals
          go_enter Try.func4, Try.ntmps4
          go_wp2_with (first
            | (go_at_call 7; refine (c1 _).mono ?_; rintro e w' ⟨rfl, q1, rfl⟩)
            | (go_at_call 10; first | ((with_reducible refine (ca _).mono ?_); rintro e w' ⟨rfl, rfl⟩) | ((with_reducible refine (cb _).mono ?_); rintro e w' ⟨rfl, rfl⟩) | ((refine (cx _).mono ?_); rintro e w' ⟨rfl, rfl⟩))
            | (go_at_call 9; refine (awake_any _).mono ?_; rintro e w' ⟨rfl, q3, rfl⟩))
          all_goals
            go_ret
            exact ⟨rfl, grown_drewN (Grown.refl _) _⟩
      · obtain ⟨na, nb⟩ := hn rfl
        obtain ⟨ma, hma⟩ : ∃ m : Int, (fCls a : Int) = m := ⟨_, rfl⟩
        obtain ⟨mb, hmb⟩ : ∃ m : Int, (fCls b : Int) = m := ⟨_, rfl⟩
        have ca := ca ma hma
        have cb := cb mb hmb
        have ta : (ma == 1) = false := by simp; omega
        have tb : (mb == 1) = false := by simp; omega
        have cx := class_of 4607182418800017408 5 (by omega) (by decide)
        simp only [fTruth, if_true] at c1
        clear hn hma hmb ha hb na nb
        rcases s56 with rfl | ⟨h5, rfl⟩
        all_goals
          go_enter Try.func4, Try.ntmps4
          go_wp2_with (first
            | (go_at_call 7; refine (c1 _).mono ?_; rintro e w' ⟨rfl, q1, rfl⟩)
            | (go_at_call 10; first | ((with_reducible refine (ca _).mono ?_); rintro e w' ⟨rfl, rfl⟩) | ((with_reducible refine (cb _).mono ?_); rintro e w' ⟨rfl, rfl⟩) | ((refine (cx _).mono ?_); rintro e w' ⟨rfl, rfl⟩))
            | (go_at_call 9; refine (awake_any _).mono ?_; rintro e w' ⟨rfl, q3, rfl⟩))
          all_goals
            go_ret
            exact ⟨rfl, grown_drewN (Grown.refl _) _⟩
    · have n5 : (op == 5) = false := by simp; omega
      have n6 : (op == 6) = false := by simp; omega
      obtain ⟨r, hr, hv⟩ := co
      rw [hv] at c1
      clear hv ho h56 ha hb
      by_cases hx : fCls (fOne r) = 1
      · rw [fone_canon r hx] at c1
        have cx := class_of fNaN 1 (by decide) (by decide)
        unfold fNaN at c1 cx
        clear hx hr
        go_enter Try.func4, Try.ntmps4
        go_wp2_with (first
          | (go_at_call 7; refine (c1 _).mono ?_; rintro e w' ⟨rfl, q1, rfl⟩)
          | (go_at_call 10; (refine (cx _).mono ?_); rintro e w' ⟨rfl, rfl⟩)
          | (go_at_call 9; refine (awake_any _).mono ?_; rintro e w' ⟨rfl, q3, rfl⟩))
        go_ret
        exact ⟨rfl, grown_drewN (Grown.refl _) _⟩
      · have hl := fOne_lt r hr
        generalize fOne r = v at c1 hx hl
        obtain ⟨m, hm⟩ : ∃ m : Int, (fCls v : Int) = m := ⟨_, rfl⟩
        have cx := class_of v m hl hm
        have t1 : (m == 1) = false := by simp; omega
        clear hx hr hm hl
        go_enter Try.func4, Try.ntmps4
        go_wp2_with (first
          | (go_at_call 7; refine (c1 _).mono ?_; rintro e w' ⟨rfl, q1, rfl⟩)
          | (go_at_call 10; (refine (cx _).mono ?_); rintro e w' ⟨rfl, rfl⟩)
          | (go_at_call 9; refine (awake_any _).mono ?_; rintro e w' ⟨rfl, q3, rfl⟩))
        go_ret
        exact ⟨rfl, grown_drewN (Grown.refl _) _⟩

end Go.Proofs.Ytcjdmkjcpelakaa

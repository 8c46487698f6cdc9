/- What the machine's own operations of floats return: a NaN's bits are drawn. -/
import Derived.Test.YtdcnpaodcjfdbaaGreatDoorFloatPlain
namespace Go.Proofs.YtdcnpaodcjfdbaaGreatDoor
open Go.RowKit
set_option linter.unusedVariables false

theorem nan_cut (x y t : Nat) : (Question.nanBits .f64 x y).cut t < 18446744073709551616 ∧ fCls ((Question.nanBits .f64 x y).cut t) = 1 := by
  show (t % 2) * 2 ^ 63 + 0x7ff0000000000000 + 1 + (t / 2) % (2 ^ 52 - 1) < 18446744073709551616 ∧ fCls ((t % 2) * 2 ^ 63 + 0x7ff0000000000000 + 1 + (t / 2) % (2 ^ 52 - 1)) = 1
  have h2 : (t / 2) % (2 ^ 52 - 1) < 2 ^ 52 - 1 := Nat.mod_lt _ (by omega)
  rw [fCls_nan]
  unfold fRung
  generalize (t / 2) % (2 ^ 52 - 1) = q at h2 ⊢
  rcases Nat.mod_two_eq_zero_or_one t with h | h <;> rw [h] <;> omega

theorem call_bits (b : Nat) (w : World) : (callFunc 95 #[.float .f64 b]).run Tryz.prog w = .ok (.value (.int .u64 (b : Int))) w := by kernel_rfl
theorem call_frombits (b : Nat) (w : World) : (callFunc 89 #[.int .u64 (b : Int)]).run Tryz.prog w = .ok (.value (.float .f64 b)) w := by kernel_rfl
theorem sqrt_elim (a : Nat) : Extern.MathSqrt.sqrt #[Value.float .f64 a] = (Ieee.double.sqrt a).elim (choose (.nanBits .f64 a a) >>= fun b => pure (Value.float .f64 b)) (fun r => pure (Value.float .f64 r)) := by
  kernel_rfl
theorem call_sqrt_some (a r : Nat) (w : World) (h : Ieee.double.sqrt a = some r) : (callFunc 119 #[.float .f64 a]).run Tryz.prog w = .ok (.value (.float .f64 r)) w := by
  rw [run_callFunc_extern Tryz.func119 (by kernel_rfl) (by kernel_rfl) (by kernel_rfl) (e := Extern.MathSqrt.sqrt) (by kernel_rfl)]
  rw [sqrt_elim, h]
  rfl
theorem call_sqrt_none (a : Nat) (w : World) (h : Ieee.double.sqrt a = none) : ∃ b, b < 18446744073709551616 ∧ fCls b = 1 ∧ (callFunc 119 #[.float .f64 a]).run Tryz.prog w = .ok (.value (.float .f64 b)) w.drew := by
  have n := nan_cut a a (w.tape w.drawn (.nanBits .f64 a a))
  refine ⟨_, n.1, n.2, ?_⟩
  rw [run_callFunc_extern Tryz.func119 (by kernel_rfl) (by kernel_rfl) (by kernel_rfl) (e := Extern.MathSqrt.sqrt) (by kernel_rfl)]
  rw [sqrt_elim, h]
  rfl

/-- A float that is told as one NaN if it is one, comes to just that. -/
def RootOf (a : Nat) (w : World) (e : Ending) (w' : World) : Prop := ∃ r, e = .returned (.float .f64 r) ∧ r < 18446744073709551616 ∧ fOne r = fCanon (Ieee.double.sqrt a) ∧ ∃ q, w' = w.drewN q

theorem lib_sqrt (a : Nat) (w : World) (h : a < 18446744073709551616) :
    Calls Tryz.prog 92 #[.float .f64 a] w (RootOf a w) := by
  cases hs : Ieee.double.sqrt a with
  | some r =>
    have hc := call_sqrt_some a r w hs
    have hl := Ieee.double.sqrt_lt hs
    have P : Hid (RootOf a w (.returned (.float .f64 r)) w) := hidf ⟨r, rfl, hl, by rw [hs]; rfl, 0, rfl⟩
    clear hs hl
    go_enter Tryz.func92, Tryz.ntmps92
    go_wp2
    go_ret
    exact P.out
  | none =>
    obtain ⟨b, hb, hn, hc⟩ := call_sqrt_none a w hs
    have P : Hid (RootOf a w (.returned (.float .f64 b)) w.drew) := hidf ⟨b, rfl, hb, by rw [hs]; unfold fOne; rw [if_pos hn]; rfl, 1, rfl⟩
    clear hs hb hn
    go_enter Tryz.func92, Tryz.ntmps92
    go_wp2
    go_ret
    exact P.out

theorem arith_some (op : BinOp) (t : TypeId) (a b r : Nat) (h : floatBits op .f64 a b = some r) (w : World) : (binOp op t (.float .f64 a) (.float .f64 b)).run Tryz.prog w = .ok (.float .f64 r) w :=
  run_float_arith w op t .f64 a b r h
theorem arith_none (op : BinOp) (hop : op = .add ∨ op = .sub ∨ op = .mul ∨ op = .quo) (t : TypeId) (a b : Nat) (h : floatBits op .f64 a b = none) (w : World) : ∃ n, n < 18446744073709551616 ∧ fCls n = 1 ∧ (binOp op t (.float .f64 a) (.float .f64 b)).run Tryz.prog w = .ok (.float .f64 n) w.drew := by
  have n := nan_cut a b (w.tape w.drawn (.nanBits .f64 a b))
  refine ⟨_, n.1, n.2, ?_⟩
  unfold floatBits at h
  rcases hop with rfl | rfl | rfl | rfl <;> simp only at h <;> simp [binOp, Op.floatArith, h, Question.forced]

/-- What 'Calc' returns for an operation that there is. -/
def CalcOf (op a b : Nat) (w : World) (e : Ending) (w' : World) : Prop := e = .returned (.tuple #[.int .u64 ((fCalc op a b : Nat) : Int), .int .i64 0]) ∧ ∃ q, w' = w.drewN q

end Go.Proofs.YtdcnpaodcjfdbaaGreatDoor

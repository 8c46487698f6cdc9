/- Plain facts on the 64 bits of a float64: their class, their sign, and what IEEE 754's operations give at the edges (NaNs, infinities, zeros). No program is named here. -/
import Ieee.Arith
import Derived.Laws.FloatBits
namespace Go.Proofs.YtdcnpaodcjfdbaaGreatDoor
open Ieee

/-- The sign of bits. -/
def fNeg (b : Nat) : Bool := decide (9223372036854775808 ≤ b)
/-- Bits without their sign. -/
def fRung (b : Nat) : Nat := b % 9223372036854775808
/-- The class of bits: 1 NaN, 2 infinity, 3 zero, 4 small, 5 plain. -/
def fCls (b : Nat) : Nat :=
  if 9218868437227405312 < fRung b then 1 else if fRung b = 9218868437227405312 then 2 else if fRung b = 0 then 3 else if fRung b < 4503599627370496 then 4 else 5
/-- The one NaN. -/
def fNaN : Nat := 9221120237041090561
/-- What a NaN is, when it is told. -/
def fOne (b : Nat) : Nat := if fCls b = 1 then fNaN else b
/-- What an operation comes to. -/
def fCanon (o : Option Nat) : Nat := match o with | some r => fOne r | none => fNaN

theorem fCls_range (b : Nat) : 1 ≤ fCls b ∧ fCls b ≤ 5 := by unfold fCls; split <;> (try split) <;> (try split) <;> (try split) <;> omega

theorem read_def (b : Nat) : double.read b =
    (if fRung b < 4503599627370496 then Datum.number (b / 9223372036854775808 % 2 == 1) (fRung b) (-1074)
    else if fRung b < 9218868437227405312 then Datum.number (b / 9223372036854775808 % 2 == 1) (4503599627370496 + fRung b % 4503599627370496) (-1074 + (fRung b / 4503599627370496 - 1 : Nat))
    else if fRung b = 9218868437227405312 then Datum.infinity (b / 9223372036854775808 % 2 == 1)
    else Datum.nan (b / 9223372036854775808 % 2 == 1) (fRung b - 9218868437227405312)) := rfl

theorem neg_def (b : Nat) (h : b < 18446744073709551616) : (b / 9223372036854775808 % 2 == 1) = fNeg b := by
  unfold fNeg
  rw [Bool.eq_iff_iff, decide_eq_true_iff, beq_iff_eq]
  omega

theorem read_nan (b : Nat) (h : b < 18446744073709551616) (hc : fCls b = 1) : double.read b = .nan (fNeg b) (fRung b - 9218868437227405312) := by
  have h1 : 9218868437227405312 < fRung b := by
    unfold fCls at hc; split at hc <;> (try split at hc) <;> (try split at hc) <;> (try split at hc) <;> omega
  rw [read_def, neg_def b h, if_neg (by omega), if_neg (by omega), if_neg (by omega)]

theorem read_inf (b : Nat) (h : b < 18446744073709551616) (hc : fCls b = 2) : double.read b = .infinity (fNeg b) := by
  have h1 : fRung b = 9218868437227405312 := by
    unfold fCls at hc; split at hc <;> (try split at hc) <;> (try split at hc) <;> (try split at hc) <;> omega
  rw [read_def, neg_def b h, if_neg (by omega), if_neg (by omega), if_pos h1]

theorem read_zero (b : Nat) (h : b < 18446744073709551616) (hc : fCls b = 3) : double.read b = .number (fNeg b) 0 (-1074) := by
  have h1 : fRung b = 0 := by
    unfold fCls at hc; split at hc <;> (try split at hc) <;> (try split at hc) <;> (try split at hc) <;> omega
  rw [read_def, neg_def b h, if_pos (by omega), h1]

/-- The size of finite bits, in units of the least one. -/
def fVal (r : Nat) : Nat := if r < 4503599627370496 then r else (4503599627370496 + r % 4503599627370496) * 2 ^ (r / 4503599627370496 - 1)

theorem read_fin (b : Nat) (h : b < 18446744073709551616) (hc : 3 ≤ fCls b) :
    ∃ (m k : Nat), double.read b = .number (fNeg b) m (-1074 + (k : Int)) ∧ m * 2 ^ k = fVal (fRung b) ∧ (fCls b ≠ 3 → m ≠ 0) := by
  have h1 : fRung b < 9218868437227405312 := by
    unfold fCls at hc; split at hc <;> (try split at hc) <;> (try split at hc) <;> (try split at hc) <;> omega
  have h3 : fCls b ≠ 3 → fRung b ≠ 0 := by
    intro hn h0; apply hn; unfold fCls; rw [h0]; decide
  rw [read_def, neg_def b h]
  unfold fVal
  by_cases h2 : fRung b < 4503599627370496
  · rw [if_pos h2, if_pos h2]
    exact ⟨fRung b, 0, by simp, by simp, h3⟩
  · rw [if_neg h2, if_pos h1, if_neg h2]
    exact ⟨_, _, rfl, rfl, fun _ => by omega⟩

theorem fVal_zero (r : Nat) : fVal r = 0 ↔ r = 0 := by
  unfold fVal
  by_cases h : r < 4503599627370496
  · rw [if_pos h]
  · rw [if_neg h]
    constructor
    · intro h0
      have := Nat.one_le_two_pow (n := r / 4503599627370496 - 1)
      have := Nat.mul_eq_zero.1 h0
      omega
    · intro h0; omega

theorem fVal_lt (r s : Nat) (h : r < s) : fVal r < fVal s := by
  have hlo : ∀ r, ¬ r < 4503599627370496 → 4503599627370496 * 2 ^ (r / 4503599627370496 - 1) ≤ fVal r := by
    intro r hr; unfold fVal; rw [if_neg hr]; exact Nat.mul_le_mul_right _ (by omega)
  have hhi : ∀ r, fVal r < 4503599627370496 * 2 ^ (r / 4503599627370496) := by
    intro r; unfold fVal
    by_cases hr : r < 4503599627370496
    · rw [if_pos hr, show r / 4503599627370496 = 0 by omega]; simpa using hr
    · rw [if_neg hr]
      obtain ⟨q, hq⟩ : ∃ q, r / 4503599627370496 = q + 1 := ⟨r / 4503599627370496 - 1, by omega⟩
      rw [hq, Nat.add_sub_cancel, Nat.pow_succ, ← Nat.mul_assoc]
      have hm : r % 4503599627370496 < 4503599627370496 := Nat.mod_lt _ (by omega)
      have hp := Nat.one_le_two_pow (n := q)
      calc (4503599627370496 + r % 4503599627370496) * 2 ^ q < (4503599627370496 * 2) * 2 ^ q := Nat.mul_lt_mul_of_pos_right (by omega) (by omega)
        _ = 4503599627370496 * 2 ^ q * 2 := by rw [Nat.mul_assoc, Nat.mul_comm 2, Nat.mul_assoc]
  by_cases hs : s < 4503599627370496
  · unfold fVal; rw [if_pos hs, if_pos (by omega)]; exact h
  · by_cases hq : r / 4503599627370496 = s / 4503599627370496
    · have hr : ¬ r < 4503599627370496 := by omega
      unfold fVal
      rw [if_neg hr, if_neg hs, hq]
      have hp := Nat.one_le_two_pow (n := s / 4503599627370496 - 1)
      exact Nat.mul_lt_mul_of_pos_right (by omega) (by omega)
    · have hlt : r / 4503599627370496 ≤ s / 4503599627370496 - 1 := by
        have : r / 4503599627370496 ≤ s / 4503599627370496 := Nat.div_le_div_right (by omega)
        omega
      refine Nat.lt_of_lt_of_le (hhi r) (Nat.le_trans ?_ (hlo s hs))
      exact Nat.mul_le_mul_left _ (Nat.pow_le_pow_right (by omega) hlt)

/-- Where bits stand in the order of floats (zeros of both signs at one place). -/
def fKey (b : Nat) : Int := if fNeg b then -(fRung b : Int) else (fRung b : Int)

theorem signed_val (s : Bool) (m k c : Nat) (h : c ≤ k) : signed s m (k - c) * 2 ^ c = (if s then -((m * 2 ^ k : Nat) : Int) else ((m * 2 ^ k : Nat) : Int)) := by
  have e : (m <<< (k - c)) * 2 ^ c = m * 2 ^ k := by
    rw [Nat.shiftLeft_eq, Nat.mul_assoc, ← Nat.pow_add]; congr 2; omega
  unfold signed
  cases s
  · simp only [Bool.false_eq_true, if_false]
    rw [← e]; simp
  · simp only [if_true]
    rw [← e]; simp [Int.neg_mul]

theorem compare_lt {x y : Int} (h : x < y) : compare x y = .lt := by
  show compareOfLessAndEq x y = _; unfold compareOfLessAndEq; rw [if_pos h]
theorem compare_gt {x y : Int} (h : y < x) : compare x y = .gt := by
  show compareOfLessAndEq x y = _; unfold compareOfLessAndEq; rw [if_neg (by omega), if_neg (by omega)]
theorem compare_eq {x y : Int} (h : x = y) : compare x y = .eq := by
  show compareOfLessAndEq x y = _; unfold compareOfLessAndEq; rw [if_neg (by omega), if_pos h]

theorem compare_scale (x y : Int) (c : Nat) : compare (x * 2 ^ c) (y * 2 ^ c) = compare x y := by
  have hp : (0 : Int) < 2 ^ c := Int.pow_pos (by omega)
  rcases Int.lt_trichotomy x y with h | h | h
  · rw [compare_lt h, compare_lt (Int.mul_lt_mul_of_pos_right h hp)]
  · rw [compare_eq h, compare_eq (by rw [h])]
  · rw [compare_gt h, compare_gt (Int.mul_lt_mul_of_pos_right h hp)]

/-- A sign and a size. -/
def fSV (s : Bool) (v : Nat) : Int := if s then -(v : Int) else (v : Int)

theorem compare_vals (s t : Bool) (r q : Nat) : compare (fSV s (fVal r)) (fSV t (fVal q)) = compare (fSV s r) (fSV t q) := by
  have z1 := fVal_zero r
  have z2 := fVal_zero q
  have h : (fVal r < fVal q ∧ r < q) ∨ (fVal r = fVal q ∧ r = q) ∨ (fVal q < fVal r ∧ q < r) := by
    rcases Nat.lt_trichotomy r q with h | h | h
    · exact Or.inl ⟨fVal_lt r q h, h⟩
    · exact Or.inr (Or.inl ⟨by rw [h], h⟩)
    · exact Or.inr (Or.inr ⟨fVal_lt q r h, h⟩)
  unfold fSV
  generalize fVal r = x at *
  generalize fVal q = y at *
  cases s <;> cases t <;> simp only [Bool.false_eq_true, if_false, if_true]
  · rcases h with h | h | h
    · rw [compare_lt (by omega), compare_lt (by omega)]
    · rw [compare_eq (by omega), compare_eq (by omega)]
    · rw [compare_gt (by omega), compare_gt (by omega)]
  · by_cases h0 : r = 0 ∧ q = 0
    · rw [compare_eq (by omega), compare_eq (by omega)]
    · rw [compare_gt (by omega), compare_gt (by omega)]
  · by_cases h0 : r = 0 ∧ q = 0
    · rw [compare_eq (by omega), compare_eq (by omega)]
    · rw [compare_lt (by omega), compare_lt (by omega)]
  · rcases h with h | h | h
    · rw [compare_gt (by omega), compare_gt (by omega)]
    · rw [compare_eq (by omega), compare_eq (by omega)]
    · rw [compare_lt (by omega), compare_lt (by omega)]

theorem fCls_inf (b : Nat) : fCls b = 2 ↔ fRung b = 9218868437227405312 := by
  unfold fCls; split <;> (try split) <;> (try split) <;> (try split) <;> omega
theorem fCls_nan (b : Nat) : fCls b = 1 ↔ 9218868437227405312 < fRung b := by
  unfold fCls; split <;> (try split) <;> (try split) <;> (try split) <;> omega
theorem fCls_zero (b : Nat) : fCls b = 3 ↔ fRung b = 0 := by
  unfold fCls; split <;> (try split) <;> (try split) <;> (try split) <;> omega
theorem fCls_fin (b : Nat) : 3 ≤ fCls b ↔ fRung b < 9218868437227405312 := by
  unfold fCls; split <;> (try split) <;> (try split) <;> (try split) <;> omega

theorem order_key (a b : Nat) (ha : a < 18446744073709551616) (hb : b < 18446744073709551616) (na : fCls a ≠ 1) (nb : fCls b ≠ 1) :
    double.order a b = some (compare (fKey a) (fKey b)) := by
  have ra := fCls_range a
  have rb := fCls_range b
  unfold Format.order fKey
  by_cases ia : fCls a = 2
  · have qa := (fCls_inf a).1 ia
    rw [read_inf a ha ia, qa]
    by_cases ib : fCls b = 2
    · have qb := (fCls_inf b).1 ib
      rw [read_inf b hb ib, qb]
      cases fNeg a <;> cases fNeg b <;> rfl
    · obtain ⟨n, l, e, _, _⟩ := read_fin b hb (by omega)
      have qb := (fCls_fin b).1 (by omega)
      rw [e]
      cases fNeg a <;> cases fNeg b <;> simp only [Datum.order, Bool.false_eq_true, if_false, if_true]
      · rw [compare_gt (by omega)]
      · rw [compare_gt (by omega)]
      · rw [compare_lt (by omega)]
      · rw [compare_lt (by omega)]
  · obtain ⟨m, k, e, hv, _⟩ := read_fin a ha (by omega)
    have qa := (fCls_fin a).1 (by omega)
    rw [e]
    by_cases ib : fCls b = 2
    · have qb := (fCls_inf b).1 ib
      rw [read_inf b hb ib, qb]
      cases fNeg a <;> cases fNeg b <;> simp only [Datum.order, Bool.false_eq_true, if_false, if_true]
      · rw [compare_lt (by omega)]
      · rw [compare_gt (by omega)]
      · rw [compare_lt (by omega)]
      · rw [compare_gt (by omega)]
    · obtain ⟨n, l, e2, hv2, _⟩ := read_fin b hb (by omega)
      rw [e2]
      simp only [Datum.order]
      have hm : (min (-1074 + (k : Int)) (-1074 + (l : Int))) = -1074 + ((min k l : Nat) : Int) := by omega
      rw [hm, show (-1074 + (k : Int) - (-1074 + ((min k l : Nat) : Int))).toNat = k - min k l by omega, show (-1074 + (l : Int) - (-1074 + ((min k l : Nat) : Int))).toNat = l - min k l by omega]
      rw [← compare_scale _ _ (min k l), signed_val _ _ _ _ (by omega), signed_val _ _ _ _ (by omega), hv, hv2]
      exact congrArg some (compare_vals (fNeg a) (fNeg b) (fRung a) (fRung b))

theorem order_nan (a b : Nat) (ha : a < 18446744073709551616) (hb : b < 18446744073709551616) (h : fCls a = 1 ∨ fCls b = 1) : double.order a b = none := by
  unfold Format.order
  rcases h with h | h
  · rw [read_nan a ha h]; rfl
  · rw [read_nan b hb h]; cases double.read a <;> rfl
theorem add_nan (a b : Nat) (ha : a < 18446744073709551616) (hb : b < 18446744073709551616) (h : fCls a = 1 ∨ fCls b = 1) : double.add a b = none := by
  unfold Format.add
  rcases h with h | h
  · rw [read_nan a ha h]; rfl
  · rw [read_nan b hb h]; cases double.read a <;> rfl
theorem sub_nan (a b : Nat) (ha : a < 18446744073709551616) (hb : b < 18446744073709551616) (h : fCls a = 1 ∨ fCls b = 1) : double.sub a b = none := by
  unfold Format.sub
  rcases h with h | h
  · rw [read_nan a ha h]; rfl
  · rw [read_nan b hb h]; cases double.read a <;> rfl
theorem mul_nan (a b : Nat) (ha : a < 18446744073709551616) (hb : b < 18446744073709551616) (h : fCls a = 1 ∨ fCls b = 1) : double.mul a b = none := by
  unfold Format.mul
  rcases h with h | h
  · rw [read_nan a ha h]; rfl
  · rw [read_nan b hb h]; cases double.read a <;> rfl
theorem div_nan (a b : Nat) (ha : a < 18446744073709551616) (hb : b < 18446744073709551616) (h : fCls a = 1 ∨ fCls b = 1) : double.div a b = none := by
  unfold Format.div
  rcases h with h | h
  · rw [read_nan a ha h]; rfl
  · rw [read_nan b hb h]; cases double.read a <;> rfl
theorem sqrt_nan (a : Nat) (ha : a < 18446744073709551616) (h : fCls a = 1) : double.sqrt a = none := by
  unfold Format.sqrt
  rw [read_nan a ha h]; rfl

/-- Bits with a sign, or without. -/
def fSigned (b : Nat) (s : Bool) : Nat := if s then fRung b + 9223372036854775808 else fRung b

theorem word_def (s : Bool) (r : Nat) : double.word s r = if s then 9223372036854775808 + r else r := by
  cases s <;> rfl
theorem word_inf (s : Bool) : double.write (.infinity s) = if s then 18442240474082181120 else 9218868437227405312 := by
  show double.word s 9218868437227405312 = _
  rw [word_def]
theorem word_zero (s : Bool) (i : Int) : double.write (.number s 0 i) = if s then 9223372036854775808 else 0 := by
  show double.nearest s 0 i = _
  unfold Format.nearest
  rw [if_pos rfl, word_def]
theorem of_sign (b : Nat) (h : b < 18446744073709551616) : b = if fNeg b then fRung b + 9223372036854775808 else fRung b := by
  unfold fNeg fRung
  by_cases h1 : 9223372036854775808 ≤ b
  · rw [decide_eq_true h1, if_pos rfl]; omega
  · rw [decide_eq_false h1]; simp only [Bool.false_eq_true, if_false]; omega
theorem inf_word (b : Nat) (h : b < 18446744073709551616) (hc : fCls b = 2) : double.write (.infinity (fNeg b)) = b := by
  have e := of_sign b h
  rw [(fCls_inf b).1 hc] at e
  rw [word_inf]
  refine Eq.trans ?_ e.symm
  cases fNeg b <;> rfl
theorem zero_word (b : Nat) (h : b < 18446744073709551616) (hc : fCls b = 3) (i : Int) : double.write (.number (fNeg b) 0 i) = b := by
  have e := of_sign b h
  rw [(fCls_zero b).1 hc] at e
  rw [word_zero]
  refine Eq.trans ?_ e.symm
  cases fNeg b <;> rfl

/-! The edges of each operation. -/
theorem add_inf_inf (a b : Nat) (ha : a < 18446744073709551616) (hb : b < 18446744073709551616) (ca : fCls a = 2) (cb : fCls b = 2) : double.add a b = if fNeg a = fNeg b then some a else none := by
  unfold Format.add
  rw [read_inf a ha ca, read_inf b hb cb]
  simp only [Datum.sum]
  by_cases h : fNeg a = fNeg b
  · rw [if_pos h, if_pos h, Option.map_some, inf_word a ha ca]
  · rw [if_neg h, if_neg h]; rfl
theorem add_inf_fin (a b : Nat) (ha : a < 18446744073709551616) (hb : b < 18446744073709551616) (ca : fCls a = 2) (cb : 3 ≤ fCls b) : double.add a b = some a := by
  unfold Format.add
  obtain ⟨n, l, e, _, _⟩ := read_fin b hb cb
  rw [read_inf a ha ca, e]
  simp only [Datum.sum]
  rw [Option.map_some, inf_word a ha ca]
theorem add_fin_inf (a b : Nat) (ha : a < 18446744073709551616) (hb : b < 18446744073709551616) (ca : 3 ≤ fCls a) (cb : fCls b = 2) : double.add a b = some b := by
  unfold Format.add
  obtain ⟨n, l, e, _, _⟩ := read_fin a ha ca
  rw [read_inf b hb cb, e]
  simp only [Datum.sum]
  rw [Option.map_some, inf_word b hb cb]
theorem add_zero_zero (a b : Nat) (ha : a < 18446744073709551616) (hb : b < 18446744073709551616) (ca : fCls a = 3) (cb : fCls b = 3) : double.add a b = some (if fNeg a && fNeg b then 9223372036854775808 else 0) := by
  unfold Format.add
  rw [read_zero a ha ca, read_zero b hb cb]
  cases fNeg a <;> cases fNeg b <;> rfl

/-- The sign the other way round. -/
def fFlip (b : Nat) : Nat := if fNeg b then fRung b else fRung b + 9223372036854775808
theorem flip_lt (b : Nat) : fFlip b < 18446744073709551616 := by
  unfold fFlip fRung; split <;> omega
theorem flip_rung (b : Nat) : fRung (fFlip b) = fRung b := by
  unfold fFlip fRung; split <;> omega
theorem flip_neg (b : Nat) : fNeg (fFlip b) = !fNeg b := by
  unfold fFlip
  cases h : fNeg b
  · simp only [Bool.false_eq_true, if_false, Bool.not_false]; unfold fNeg; exact decide_eq_true (by omega)
  · simp only [if_true, Bool.not_true]; unfold fNeg fRung; exact decide_eq_false (by omega)
theorem flip_cls (b : Nat) : fCls (fFlip b) = fCls b := by unfold fCls; rw [flip_rung]
theorem read_flip (b : Nat) (h : b < 18446744073709551616) : double.read (fFlip b) = (double.read b).opposite := by
  rw [read_def, read_def, neg_def _ (flip_lt b), neg_def b h, flip_rung, flip_neg]
  split
  · rfl
  · split
    · rfl
    · split
      · rfl
      · rfl
theorem sub_flip (a b : Nat) (hb : b < 18446744073709551616) : double.sub a b = double.add a (fFlip b) := by
  unfold Format.sub Format.add; rw [read_flip b hb]

theorem mul_inf_zero (a b : Nat) (ha : a < 18446744073709551616) (hb : b < 18446744073709551616) (h : (fCls a = 2 ∧ fCls b = 3) ∨ (fCls a = 3 ∧ fCls b = 2)) : double.mul a b = none := by
  unfold Format.mul
  rcases h with ⟨ca, cb⟩ | ⟨ca, cb⟩
  · rw [read_inf a ha ca, read_zero b hb cb]; rfl
  · rw [read_zero a ha ca, read_inf b hb cb]; rfl
theorem mul_inf (a b : Nat) (ha : a < 18446744073709551616) (hb : b < 18446744073709551616) (na : fCls a ≠ 1) (nb : fCls b ≠ 1) (za : fCls a ≠ 3) (zb : fCls b ≠ 3) (h : fCls a = 2 ∨ fCls b = 2) :
    double.mul a b = some (if fNeg a ^^ fNeg b then 18442240474082181120 else 9218868437227405312) := by
  have ra := fCls_range a
  have rb := fCls_range b
  unfold Format.mul
  by_cases ia : fCls a = 2
  · rw [read_inf a ha ia]
    by_cases ib : fCls b = 2
    · rw [read_inf b hb ib]; simp only [Datum.product]; rw [Option.map_some, word_inf]
    · obtain ⟨n, l, e, _, hn⟩ := read_fin b hb (by omega)
      rw [e]; simp only [Datum.product]; rw [if_neg (hn zb), Option.map_some, word_inf]
  · obtain ⟨n, l, e, _, hn⟩ := read_fin a ha (by omega)
    rw [e, read_inf b hb (by omega)]; simp only [Datum.product]; rw [if_neg (hn za), Option.map_some, word_inf]
    rw [Bool.xor_comm]
theorem mul_zero (a b : Nat) (ha : a < 18446744073709551616) (hb : b < 18446744073709551616) (fa : 3 ≤ fCls a) (fb : 3 ≤ fCls b) (h : fCls a = 3 ∨ fCls b = 3) :
    double.mul a b = some (if fNeg a ^^ fNeg b then 9223372036854775808 else 0) := by
  unfold Format.mul
  rcases h with h | h
  · obtain ⟨n, l, e, _, hn⟩ := read_fin b hb fb
    rw [read_zero a ha h, e]; simp only [Datum.product, Nat.zero_mul]; rw [Option.map_some, word_zero]
  · obtain ⟨n, l, e, _, hn⟩ := read_fin a ha fa
    rw [read_zero b hb h, e]; simp only [Datum.product, Nat.mul_zero]; rw [Option.map_some, word_zero]

theorem div_none (a b : Nat) (ha : a < 18446744073709551616) (hb : b < 18446744073709551616) (h : (fCls a = 2 ∧ fCls b = 2) ∨ (fCls a = 3 ∧ fCls b = 3)) : double.div a b = none := by
  unfold Format.div
  rcases h with ⟨ca, cb⟩ | ⟨ca, cb⟩
  · rw [read_inf a ha ca, read_inf b hb cb]; rfl
  · rw [read_zero a ha ca, read_zero b hb cb]; rfl
theorem div_inf (a b : Nat) (ha : a < 18446744073709551616) (hb : b < 18446744073709551616) (na : fCls a ≠ 1) (nb : fCls b ≠ 1) (h : (fCls a = 2 ∧ fCls b ≠ 2) ∨ (fCls b = 3 ∧ fCls a ≠ 3)) :
    double.div a b = some (if fNeg a ^^ fNeg b then 18442240474082181120 else 9218868437227405312) := by
  have ra := fCls_range a
  have rb := fCls_range b
  unfold Format.div
  by_cases ia : fCls a = 2
  · obtain ⟨n, l, e, _, hn⟩ := read_fin b hb (by omega)
    rw [read_inf a ha ia, e]; simp only [Datum.quotient]; rw [Option.map_some, word_inf]
  · obtain ⟨n, l, e, _, hn⟩ := read_fin a ha (by omega)
    rw [read_zero b hb (by omega), e]; simp only [Datum.quotient]; rw [if_pos trivial, if_neg (hn (by omega)), Option.map_some, word_inf]
theorem div_zero (a b : Nat) (ha : a < 18446744073709551616) (hb : b < 18446744073709551616) (na : fCls a ≠ 1) (nb : fCls b ≠ 1) (h : (fCls a = 3 ∧ fCls b ≠ 3) ∨ (fCls b = 2 ∧ fCls a ≠ 2)) :
    double.div a b = some (if fNeg a ^^ fNeg b then 9223372036854775808 else 0) := by
  have ra := fCls_range a
  have rb := fCls_range b
  unfold Format.div
  by_cases ib : fCls b = 2
  · obtain ⟨n, l, e, _, hn⟩ := read_fin a ha (by omega)
    rw [read_inf b hb ib, e]; simp only [Datum.quotient]; rw [Option.map_some, word_zero]
  · obtain ⟨n, l, e, _, hn⟩ := read_fin b hb (by omega)
    rw [read_zero a ha (by omega), e]; simp only [Datum.quotient]; rw [if_neg (hn (by omega))]
    simp only [Nat.zero_shiftLeft, Nat.zero_div, Nat.zero_mod]
    exact congrArg some (word_zero (fNeg a ^^ fNeg b) _)
theorem sqrt_same (a : Nat) (ha : a < 18446744073709551616) (h : fCls a = 3 ∨ (fCls a = 2 ∧ fNeg a = false)) : double.sqrt a = some a := by
  unfold Format.sqrt
  rcases h with h | ⟨h, hs⟩
  · rw [read_zero a ha h]; simp only [Datum.root]; rw [if_pos trivial, Option.map_some, zero_word a ha h]
  · have e := inf_word a ha h
    rw [hs] at e
    rw [read_inf a ha h, hs]; simp only [Datum.root, Bool.false_eq_true, if_false]; rw [Option.map_some, e]
theorem sqrt_none (a : Nat) (ha : a < 18446744073709551616) (hc : fCls a ≠ 3) (hs : fNeg a = true) : double.sqrt a = none := by
  have ra := fCls_range a
  by_cases n1 : fCls a = 1
  · exact sqrt_nan a ha n1
  · unfold Format.sqrt
    by_cases i1 : fCls a = 2
    · rw [read_inf a ha i1, hs]; rfl
    · obtain ⟨n, l, e, _, hn⟩ := read_fin a ha (by omega)
      rw [e, hs]; simp only [Datum.root]; rw [if_neg (hn hc)]; rfl

end Go.Proofs.YtdcnpaodcjfdbaaGreatDoor

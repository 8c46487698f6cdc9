/- How many bits of a word are 1: what the library's masks and shifts come to. No program is named here. -/
import Derived.Below
namespace Go.Proofs.YtdcnpaodcjfdbaaGreatDoor

/-- How many of the lowest n bits are 1. -/
def popN : Nat → Nat → Nat
  | 0, _ => 0
  | n + 1, x => x % 2 + popN n (x / 2)
theorem popN_le : ∀ n x, popN n x ≤ n
  | 0, _ => Nat.le_refl _
  | n + 1, x => by have := popN_le n (x / 2); unfold popN; omega
theorem popN_filter : ∀ n x, ((List.range n).filter x.testBit).length = popN n x
  | 0, _ => rfl
  | n + 1, x => by
    have ih := popN_filter n (x / 2)
    rw [List.range_succ_eq_map, List.filter_cons, List.filter_map]
    have e : (x.testBit ∘ Nat.succ) = (x / 2).testBit := by
      funext i; simp [Nat.testBit_succ]
    rw [e]
    unfold popN
    rw [← ih, Nat.testBit_zero]
    by_cases h : x % 2 = 1
    · simp [h]; omega
    · have : x % 2 = 0 := by omega
      simp [this]

/-- f at each digit of 4 bits. -/
def dig (f : Nat → Nat) : Nat → Nat → Nat
  | 0, _ => 0
  | n + 1, x => f (x % 16) + 16 * dig f n (x / 16)
/-- The mask that is c at each digit. -/
def msk (c : Nat) : Nat → Nat
  | 0 => 0
  | n + 1 => c + 16 * msk c n

theorem and_dig (a h m k : Nat) (ha : a < 16) (hm : m < 16) : (a + 16 * h) &&& (m + 16 * k) = (a &&& m) + 16 * (h &&& k) := by
  have e1 : ((a + 16 * h) &&& (m + 16 * k)) / 2 ^ 4 = (h &&& k) := by
    rw [Nat.and_div_two_pow]
    congr 1 <;> omega
  have e2 : ((a + 16 * h) &&& (m + 16 * k)) % 2 ^ 4 = (a &&& m) := by
    rw [Nat.and_mod_two_pow]
    congr 1 <;> omega
  omega

def f1 (a : Nat) : Nat := (a / 2 &&& 5) + (a &&& 5)
def f2 (a : Nat) : Nat := (a / 4 &&& 3) + (a &&& 3)
theorem f1_at : ∀ a, a < 16 → ∀ b, b < 2 → ((a / 2 + 8 * b) &&& 5) + (a &&& 5) = f1 a := by decide
theorem f2_at : ∀ a, a < 16 → ∀ b, b < 4 → ((a / 4 + 4 * b) &&& 3) + (a &&& 3) = f2 a := by decide
theorem f1_lt : ∀ a, a < 16 → f1 a < 16 := by decide
theorem f21 : ∀ a, a < 16 → f2 (f1 a) = popN 4 a ∧ f2 (f1 a) ≤ 4 := by decide

theorem step1 : ∀ n x, x < 16 ^ n → (x / 2 &&& msk 5 n) + (x &&& msk 5 n) = dig f1 n x
  | 0, x, h => by
    have : x = 0 := by simpa using h
    subst this; rfl
  | n + 1, x, h => by
    have hx : x / 16 < 16 ^ n := by rw [Nat.pow_succ] at h; omega
    have ih := step1 n (x / 16) hx
    unfold msk dig
    have e1 : x / 2 = (x % 16 / 2 + 8 * (x / 16 % 2)) + 16 * (x / 16 / 2) := by omega
    have e2 : x = x % 16 + 16 * (x / 16) := by omega
    have g1 := and_dig (x % 16 / 2 + 8 * (x / 16 % 2)) (x / 16 / 2) 5 (msk 5 n) (by omega) (by omega)
    have g2 := and_dig (x % 16) (x / 16) 5 (msk 5 n) (by omega) (by omega)
    rw [← e1] at g1
    rw [← e2] at g2
    rw [g1, g2, ← ih, ← f1_at (x % 16) (by omega) (x / 16 % 2) (by omega)]
    omega
theorem step2 : ∀ n x, x < 16 ^ n → (x / 4 &&& msk 3 n) + (x &&& msk 3 n) = dig f2 n x
  | 0, x, h => by
    have : x = 0 := by simpa using h
    subst this; rfl
  | n + 1, x, h => by
    have hx : x / 16 < 16 ^ n := by rw [Nat.pow_succ] at h; omega
    have ih := step2 n (x / 16) hx
    unfold msk dig
    have e1 : x / 4 = (x % 16 / 4 + 4 * (x / 16 % 4)) + 16 * (x / 16 / 4) := by omega
    have e2 : x = x % 16 + 16 * (x / 16) := by omega
    have g1 := and_dig (x % 16 / 4 + 4 * (x / 16 % 4)) (x / 16 / 4) 3 (msk 3 n) (by omega) (by omega)
    have g2 := and_dig (x % 16) (x / 16) 3 (msk 3 n) (by omega) (by omega)
    rw [← e1] at g1
    rw [← e2] at g2
    rw [g1, g2, ← ih, ← f2_at (x % 16) (by omega) (x / 16 % 4) (by omega)]
    omega
theorem dig_lt (f : Nat → Nat) (hf : ∀ a, a < 16 → f a < 16) : ∀ n x, dig f n x < 16 ^ n
  | 0, _ => by simp [dig]
  | n + 1, x => by
    have ih := dig_lt f hf n (x / 16)
    have := hf (x % 16) (by omega)
    unfold dig
    rw [Nat.pow_succ]; omega
theorem dig_dig (f g : Nat → Nat) (hf : ∀ a, a < 16 → f a < 16) : ∀ n x, dig g n (dig f n x) = dig (fun a => g (f a)) n x
  | 0, _ => rfl
  | n + 1, x => by
    have ih := dig_dig f g hf n (x / 16)
    have h := hf (x % 16) (by omega)
    show g (dig f (n + 1) x % 16) + 16 * dig g n (dig f (n + 1) x / 16) = _
    have e1 : dig f (n + 1) x % 16 = f (x % 16) := by show (f (x % 16) + 16 * dig f n (x / 16)) % 16 = _; omega
    have e2 : dig f (n + 1) x / 16 = dig f n (x / 16) := by show (f (x % 16) + 16 * dig f n (x / 16)) / 16 = _; omega
    rw [e1, e2, ih]; rfl
theorem popN_four (n x : Nat) : popN (n + 4) x = popN 4 (x % 16) + popN n (x / 16) := by
  show x % 2 + (x / 2 % 2 + (x / 2 / 2 % 2 + (x / 2 / 2 / 2 % 2 + popN n (x / 2 / 2 / 2 / 2)))) = (x % 16 % 2 + (x % 16 / 2 % 2 + (x % 16 / 2 / 2 % 2 + (x % 16 / 2 / 2 / 2 % 2 + 0)))) + popN n (x / 16)
  rw [show x / 2 / 2 / 2 / 2 = x / 16 by omega]
  omega

/-- Pairs of digits: the mask 0f at each byte. -/
theorem and_byte (a h k : Nat) (ha : a < 256) : (a + 256 * h) &&& (15 + 256 * k) = a % 16 + 256 * (h &&& k) := by
  have e1 : ((a + 256 * h) &&& (15 + 256 * k)) / 2 ^ 8 = (h &&& k) := by
    rw [Nat.and_div_two_pow]
    congr 1 <;> omega
  have e2 : ((a + 256 * h) &&& (15 + 256 * k)) % 2 ^ 8 = a % 16 := by
    rw [Nat.and_mod_two_pow]
    rw [show (a + 256 * h) % 2 ^ 8 = a by omega, show (15 + 256 * k) % 2 ^ 8 = 2 ^ 4 - 1 by omega, Nat.and_two_pow_sub_one_eq_mod]
  omega
def mskB : Nat → Nat
  | 0 => 0
  | n + 1 => 15 + 256 * mskB n
/-- The sums of two digits, a byte each. -/
def pairs (f : Nat → Nat) : Nat → Nat → Nat
  | 0, _ => 0
  | n + 1, x => (f (x % 16) + f (x / 16 % 16)) + 256 * pairs f n (x / 256)
theorem step3 (f : Nat → Nat) (hf : ∀ a, a < 16 → f a ≤ 4) : ∀ n x, (dig f (2 * n) x / 16 + dig f (2 * n) x) &&& mskB n = pairs f n x
  | 0, x => Nat.and_zero _
  | n + 1, x => by
    have ih := step3 f hf n (x / 256)
    have h0 := hf (x % 16) (by omega)
    have h1 := hf (x / 16 % 16) (by omega)
    have e : dig f (2 * (n + 1)) x = f (x % 16) + 16 * (f (x / 16 % 16) + 16 * dig f (2 * n) (x / 16 / 16)) := rfl
    rw [show x / 16 / 16 = x / 256 by omega] at e
    have h2 : dig f (2 * n) (x / 256) % 16 ≤ 4 := by
      cases n with
      | zero => show 0 % 16 ≤ 4; omega
      | succ k =>
        show (f (x / 256 % 16) + 16 * dig f (2 * k + 1) (x / 256 / 16)) % 16 ≤ 4
        have := hf (x / 256 % 16) (by omega)
        omega
    rw [e]
    generalize dig f (2 * n) (x / 256) = z at ih h2
    unfold mskB pairs
    rw [← ih]
    generalize f (x % 16) = p at h0
    generalize f (x / 16 % 16) = q at h1
    have e2 : (p + 16 * (q + 16 * z)) / 16 + (p + 16 * (q + 16 * z)) = (p + q + 16 * (q + z % 16)) + 256 * (z / 16 + z) := by omega
    rw [e2, and_byte _ _ _ (by omega)]
    omega

section
variable {b0 b1 b2 b3 b4 b5 b6 b7 c1 c2 c3 c4 c5 c6 q y z v p r l s1 s2 s3 c b d D : Nat}
theorem fo_bound (D : Nat) (h : c = b + 256 * d) (hb : b ≤ 8) (hd : d ≤ D) : c ≤ 8 + 256 * D := by omega
theorem fo_div (hq : q = b + 256 * c) (hb : b ≤ 8) : q / 256 = c := by omega
theorem fo_y (hy : y = q + c1) (hq : q = b0 + 256 * c1) (e1 : c1 = b1 + 256 * c2) (e2 : c2 = b2 + 256 * c3) : y = (b0 + b1) + 256 * (b1 + b2) + 65536 * (c2 + c3) := by omega
theorem fo_ydiv (g2 : y = (b0 + b1) + 256 * (b1 + b2) + 65536 * c) (h0 : b0 ≤ 8) (h1 : b1 ≤ 8) (h2 : b2 ≤ 8) : y / 65536 = c := by omega
theorem fo_two (e2 : c2 = b2 + 256 * c3) (e3 : c3 = b3 + 256 * c4) (e4 : c4 = b4 + 256 * c5) : c2 + c3 = (b2 + b3) + 256 * (b3 + b4) + 65536 * (c4 + c5) := by omega
theorem fo_four (g4 : p = (b2 + b3) + 256 * (b3 + b4) + 65536 * (c4 + c5)) (e4 : c4 = b4 + 256 * c5) (e5 : c5 = b5 + 256 * c6) (e6 : c6 = b6 + 256 * b7) : p + (c4 + c5) = (b2 + b3 + b4 + b5) + 256 * (b3 + b4 + b5 + b6) + 65536 * (c4 + c5 + c6 + b7) := by omega
theorem fo_z (hz : z = y + p) (g2 : y = (b0 + b1) + 256 * (b1 + b2) + 65536 * p) (g4 : p = (b2 + b3) + 256 * (b3 + b4) + 65536 * r) : z = (b0 + b1 + b2 + b3) + 256 * (b1 + b2 + b3 + b4) + 65536 * (p + r) := by omega
theorem fo_zlow (h0 : b0 ≤ 8) (h1 : b1 ≤ 8) (h2 : b2 ≤ 8) (h3 : b3 ≤ 8) (h4 : b4 ≤ 8) (h5 : b5 ≤ 8) (h6 : b6 ≤ 8) : (b0 + b1 + b2 + b3) + 256 * (b1 + b2 + b3 + b4) + 65536 * ((b2 + b3 + b4 + b5) + 256 * (b3 + b4 + b5 + b6)) < 4294967296 := by omega
theorem fo_zsplit (s1 s2 s3 s4 p : Nat) : s1 + 256 * s2 + 65536 * (s3 + 256 * s4 + 65536 * p) = (s1 + 256 * s2 + 65536 * (s3 + 256 * s4)) + 4294967296 * p := by omega
theorem fo_zdiv (h : z = l + 4294967296 * p) (hl : l < 4294967296) : z / 4294967296 = p := by omega
theorem fo_last (e4 : c4 = b4 + 256 * c5) (e5 : c5 = b5 + 256 * c6) (e6 : c6 = b6 + 256 * b7) : c4 + c5 + c6 + b7 = (b4 + b5 + b6 + b7) + 256 * (c5 + c6 + b7) := by omega
theorem fo_mod (s1 s2 s3 : Nat) (hv : v = p + 256 * s1 + 65536 * s2 + (r + 256 * s3)) (l1 : p ≤ 32) (l2 : r ≤ 32) : v % 128 = p + r := by omega
theorem fo_sum (h0 : b0 ≤ 8) (h1 : b1 ≤ 8) (h2 : b2 ≤ 8) (h3 : b3 ≤ 8) : b0 + b1 + b2 + b3 ≤ 32 := by omega
theorem fo_q (hq : q = b0 + 256 * c1) (k1 : c1 ≤ 2260630401189896) (h0 : b0 ≤ 8) : q < 2 ^ 60 := by omega
theorem fo_ylt (hy : y = q + c1) (hq : q = b0 + 256 * c1) (k1 : c1 ≤ 2260630401189896) (h0 : b0 ≤ 8) : y < 2 ^ 61 := by omega
theorem fo_zlt (hz : z = y + (c2 + c3)) (hy : y < 2 ^ 61) (k2 : c2 ≤ 8830587504648) (k3 : c3 ≤ 34494482440) : z < 2 ^ 62 := by omega
theorem fo_vlt (hv : v = z + (r + 256 * p)) (hz : z < 2 ^ 62) (hr : r ≤ 32) (hp : p ≤ 1000000) : v < 2 ^ 63 := by omega
theorem fo_s3 (k5 : c5 ≤ 526344) (k6 : c6 ≤ 2056) (h7 : b7 ≤ 8) : c5 + c6 + b7 ≤ 1000000 := by omega
end

theorem fold_eight (b0 b1 b2 b3 b4 b5 b6 b7 c1 c2 c3 c4 c5 c6 : Nat) (h0 : b0 ≤ 8) (h1 : b1 ≤ 8) (h2 : b2 ≤ 8) (h3 : b3 ≤ 8) (h4 : b4 ≤ 8) (h5 : b5 ≤ 8) (h6 : b6 ≤ 8) (h7 : b7 ≤ 8) (q y z v : Nat)
    (hq : q = b0 + 256 * c1) (e1 : c1 = b1 + 256 * c2) (e2 : c2 = b2 + 256 * c3) (e3 : c3 = b3 + 256 * c4) (e4 : c4 = b4 + 256 * c5) (e5 : c5 = b5 + 256 * c6) (e6 : c6 = b6 + 256 * b7)
    (hy : y = q + q / 256) (hz : z = y + y / 65536) (hv : v = z + z / 4294967296) :
    v % 128 = b0 + b1 + b2 + b3 + b4 + b5 + b6 + b7 ∧ q < 2 ^ 60 ∧ y < 2 ^ 61 ∧ z < 2 ^ 62 ∧ v < 2 ^ 63 := by
  have k6 : c6 ≤ 2056 := fo_bound 8 e6 h6 h7
  have k5 : c5 ≤ 526344 := fo_bound 2056 e5 h5 k6
  have k4 : c4 ≤ 134744072 := fo_bound 526344 e4 h4 k5
  have k3 : c3 ≤ 34494482440 := fo_bound 134744072 e3 h3 k4
  have k2 : c2 ≤ 8830587504648 := fo_bound 34494482440 e2 h2 k3
  have k1 : c1 ≤ 2260630401189896 := fo_bound 8830587504648 e1 h1 k2
  rw [fo_div hq h0] at hy
  have g2 := fo_y hy hq e1 e2
  rw [fo_ydiv g2 h0 h1 h2] at hz
  have g4 := fo_two e2 e3 e4
  have g5 := fo_four g4 e4 e5 e6
  have g6 := fo_z hz g2 g4
  rw [g5] at g6
  have g6' := g6
  rw [fo_zsplit] at g6'
  rw [fo_zdiv g6' (fo_zlow h0 h1 h2 h3 h4 h5 h6), fo_last e4 e5 e6] at hv
  have y61 := fo_ylt hy hq k1 h0
  have z62 := fo_zlt hz y61 k2 k3
  have v63 := fo_vlt hv z62 (fo_sum h4 h5 h6 h7) (fo_s3 k5 k6 h7)
  rw [g6] at hv
  have m := fo_mod _ _ _ hv (fo_sum h0 h1 h2 h3) (fo_sum h4 h5 h6 h7)
  refine ⟨?_, fo_q hq k1 h0, y61, z62, v63⟩
  rw [m]
  simp only [Nat.add_assoc]

theorem ones_a {a : Nat} (h : a < 16 ^ 16) : a < 18446744073709551616 := by omega
theorem ones_b {b : Nat} (h : b < 16 ^ 15 * 5) : b / 16 + b < 18446744073709551616 := by omega
/-- What the masks and shifts come to. -/
theorem ones_all (x : Nat) (hx : x < 18446744073709551616) (a b c y z v : Nat)
    (ha : a = (x / 2 &&& 6148914691236517205) + (x &&& 6148914691236517205)) (hb : b = (a / 4 &&& 3689348814741910323) + (a &&& 3689348814741910323))
    (hc : c = (b / 16 + b) &&& 1085102592571150095) (hy : y = c + c / 256) (hz : z = y + y / 65536) (hv : v = z + z / 4294967296) :
    v % 128 = popN 64 x ∧ a < 18446744073709551616 ∧ b / 16 + b < 18446744073709551616 ∧ c < 2 ^ 60 ∧ y < 2 ^ 61 ∧ z < 2 ^ 62 ∧ v < 2 ^ 63 := by
  have m5 : msk 5 16 = 6148914691236517205 := by decide
  have m3 : msk 3 16 = 3689348814741910323 := by decide
  have mB : mskB 8 = 1085102592571150095 := by decide
  have x16 : x < 16 ^ 16 := by omega
  have s1 := step1 16 x x16
  rw [m5, ← ha] at s1
  have a16 : a < 16 ^ 16 := by rw [s1]; exact dig_lt f1 f1_lt 16 x
  have s2 := step2 16 a a16
  rw [m3, ← hb, s1, dig_dig f1 f2 f1_lt] at s2
  have hf : ∀ a, a < 16 → f2 (f1 a) ≤ 4 := fun a h => (f21 a h).2
  have s3 := step3 (fun a => f2 (f1 a)) hf 8 x
  rw [mB, show 2 * 8 = 16 from rfl, ← s2, ← hc] at s3
  have b16 : b < 16 ^ 15 * 5 := by
    rw [s2]
    have : ∀ n x, dig (fun a => f2 (f1 a)) (n + 1) x < 16 ^ n * 5 := by
      intro n
      induction n with
      | zero => intro x; have := hf (x % 16) (by omega); show f2 (f1 (x % 16)) + 16 * 0 < 1 * 5; omega
      | succ n ih =>
        intro x
        have h1 := ih (x / 16)
        have h2 := hf (x % 16) (by omega)
        show f2 (f1 (x % 16)) + 16 * dig (fun a => f2 (f1 a)) (n + 1) (x / 16) < _
        rw [Nat.pow_succ]; omega
    exact this 15 x
  have P : ∀ y, f2 (f1 (y % 16)) + f2 (f1 (y / 16 % 16)) ≤ 8 := fun y => by
    have h1 := hf (y % 16) (by omega); have h2 := hf (y / 16 % 16) (by omega); omega
  have hb : ∀ n y, pairs (fun a => f2 (f1 a)) (n + 1) y = (f2 (f1 (y % 16)) + f2 (f1 (y / 16 % 16))) + 256 * pairs (fun a => f2 (f1 a)) n (y / 256) := fun n y => rfl
  have two : ∀ n y, popN (n + 8) y = (f2 (f1 (y % 16)) + f2 (f1 (y / 16 % 16))) + popN n (y / 256) := fun n y => by
    rw [popN_four (n + 4) y, popN_four n (y / 16), (f21 (y % 16) (by omega)).1, (f21 (y / 16 % 16) (by omega)).1, show y / 16 / 16 = y / 256 by omega]
    omega
  have t := two 56 x
  rw [two 48, two 40, two 32, two 24, two 16, two 8, two 0] at t
  have e0 := s3
  rw [hb] at e0
  have e1 := hb 6 (x / 256)
  have e2 := hb 5 (x / 256 / 256)
  have e3 := hb 4 (x / 256 / 256 / 256)
  have e4 := hb 3 (x / 256 / 256 / 256 / 256)
  have e5 := hb 2 (x / 256 / 256 / 256 / 256 / 256)
  have e6 := hb 1 (x / 256 / 256 / 256 / 256 / 256 / 256)
  have e7 := hb 0 (x / 256 / 256 / 256 / 256 / 256 / 256 / 256)
  have p0 : pairs (fun a => f2 (f1 a)) 0 (x / 256 / 256 / 256 / 256 / 256 / 256 / 256 / 256) = 0 := rfl
  rw [p0, Nat.mul_zero, Nat.add_zero] at e7
  rw [e7] at e6
  obtain ⟨r1, r2, r3, r4, r5⟩ := fold_eight _ _ _ _ _ _ _ _ _ _ _ _ _ _ (P x) (P (x / 256)) (P (x / 256 / 256)) (P (x / 256 / 256 / 256)) (P (x / 256 / 256 / 256 / 256)) (P (x / 256 / 256 / 256 / 256 / 256)) (P (x / 256 / 256 / 256 / 256 / 256 / 256)) (P (x / 256 / 256 / 256 / 256 / 256 / 256 / 256)) c y z v e0 e1 e2 e3 e4 e5 e6 hy hz hv
  have q0 : ∀ y, popN 0 y = 0 := fun _ => rfl
  rw [q0] at t
  have a64 := ones_a a16
  have b64 := ones_b b16
  refine ⟨?_, a64, b64, r2, r3, r4, r5⟩
  rw [r1]
  show _ = popN (56 + 8) x
  rw [t]
  simp only [Nat.add_assoc, Nat.add_zero]

end Go.Proofs.YtdcnpaodcjfdbaaGreatDoor

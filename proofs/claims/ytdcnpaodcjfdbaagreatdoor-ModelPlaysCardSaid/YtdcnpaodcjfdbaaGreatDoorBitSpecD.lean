/- Plain facts on which bits are 1: word by word, bit by bit, and back from a text. No program is named here. -/
import Derived.Test.YtdcnpaodcjfdbaaGreatDoorBitSpec
import Derived.Test.YtdcnpaodcjfdbaaGreatDoorOnes
import Derived.Lib.TrailingZeros
namespace Go.Proofs.YtdcnpaodcjfdbaaGreatDoor

theorem filter_range_le (p : Nat → Bool) (n k : Nat) : (List.range n).filter p = (List.range (n + k)).filter (fun i => decide (i < n) && p i) := by
  rw [List.range_add, List.filter_append]
  have e1 : (List.range n).filter (fun i => decide (i < n) && p i) = (List.range n).filter p := List.filter_congr fun i hi => by
    rw [decide_eq_true (List.mem_range.1 hi)]; rfl
  have e2 : ((List.range k).map (n + ·)).filter (fun i => decide (i < n) && p i) = [] := by
    rw [List.filter_eq_nil_iff]
    intro i hi
    obtain ⟨j, _, rfl⟩ := List.mem_map.1 hi
    rw [decide_eq_false (by omega)]; simp
  rw [e1, e2, List.append_nil]
theorem filter_ext (p q : Nat → Bool) (n m : Nat) (h : ∀ i, (i < n ∧ p i = true) ↔ (i < m ∧ q i = true)) : (List.range n).filter p = (List.range m).filter q := by
  rw [filter_range_le p n m, filter_range_le q m n, Nat.add_comm m n]
  refine List.filter_congr fun i _ => ?_
  have := h i
  rw [Bool.eq_iff_iff, Bool.and_eq_true, Bool.and_eq_true, decide_eq_true_iff, decide_eq_true_iff]
  exact this
theorem bBits_ext (a b : List Nat) (n m : Nat) (h : ∀ i : Nat, (i < n ∧ bHas a (i : Int) = true) ↔ (i < m ∧ bHas b (i : Int) = true)) : bBits a n = bBits b m := by
  unfold bBits; rw [filter_ext _ _ n m h]

/-- The bits of the word j. -/
def wBits (j x : Nat) : List Int := ((List.range 64).filter x.testBit).map fun (i : Nat) => ((64 * j + i : Nat) : Int)
theorem wBits_length (j x : Nat) : (wBits j x).length = popN 64 x := by unfold wBits; rw [List.length_map, popN_filter]
theorem wBits_zero (j : Nat) : wBits j 0 = [] := by
  unfold wBits
  rw [List.filter_eq_nil_iff.2 (fun i _ => by simp)]; rfl
theorem bBits_word (ws : List Nat) (j : Nat) : bBits ws (64 * (j + 1)) = bBits ws (64 * j) ++ wBits j (ws.getD j 0) := by
  unfold bBits wBits
  rw [show 64 * (j + 1) = 64 * j + 64 by omega, List.range_add, List.filter_append, List.map_append, List.filter_map, List.map_map]
  congr 1
  have e : ((fun (i : Nat) => bHas ws (i : Int)) ∘ (64 * j + ·)) = fun i => bHas ws ((64 * j + i : Nat) : Int) := rfl
  rw [e]
  rw [List.filter_congr (q := (ws.getD j 0).testBit) (fun i hi => bHas_word ws j i (List.mem_range.1 hi))]
  rfl

theorem filter_peel (p q : Nat → Bool) (n t : Nat) (ht : t < n) (h1 : ∀ i, i < t → p i = false) (h2 : p t = true) (h3 : ∀ i, q i = (p i && decide (i ≠ t))) : (List.range n).filter p = t :: (List.range n).filter q := by
  obtain ⟨k, rfl⟩ : ∃ k, n = t + (k + 1) := ⟨n - t - 1, by omega⟩
  rw [List.range_add, List.range_succ_eq_map, List.map_cons, List.filter_append, List.filter_append, List.filter_cons, List.filter_cons]
  have e1 : (List.range t).filter p = [] := List.filter_eq_nil_iff.2 fun i hi => by rw [h1 i (List.mem_range.1 hi)]; simp
  have e2 : (List.range t).filter q = [] := List.filter_eq_nil_iff.2 fun i hi => by rw [h3, h1 i (List.mem_range.1 hi)]; simp
  have e3 : q t = false := by rw [h3]; simp
  rw [e1, e2, Nat.add_zero, h2, e3]
  simp only [if_true, Bool.false_eq_true, if_false, List.nil_append]
  congr 1
  refine List.filter_congr fun i hi => ?_
  obtain ⟨j, hj, rfl⟩ := List.mem_map.1 hi
  obtain ⟨l, _, rfl⟩ := List.mem_map.1 hj
  rw [h3, decide_eq_true (by omega), Bool.and_true]

/-- The lowest bit goes. -/
theorem low_bits (x : Nat) (hx : x < 18446744073709551616) (h0 : x ≠ 0) : Lib.ctz 64 x < 64 ∧ (∀ i, i < Lib.ctz 64 x → x.testBit i = false) ∧ x.testBit (Lib.ctz 64 x) = true ∧ ∀ i, (x &&& (x - 1)).testBit i = (x.testBit i && decide (i ≠ Lib.ctz 64 x)) := by
  obtain ⟨m, hm, hk⟩ := Lib.ctzFrom_spec 64 x (by omega) hx
  have e : Lib.ctz 64 x = Lib.ctzFrom 64 x := by unfold Lib.ctz; rw [if_neg h0]
  rw [e]
  generalize Lib.ctzFrom 64 x = t at hm hk
  have hp : 0 < 2 ^ t := Nat.pow_pos (by omega)
  have b1 : ∀ i, x.testBit i = (decide (t ≤ i) && (2 * m + 1).testBit (i - t)) := fun i => by
    rw [hm, Nat.mul_comm, Nat.testBit_mul_two_pow]
  have d : (x - 1) / 2 ^ t = 2 * m := by
    have e1 : x - 1 = 2 ^ t * (2 * m) + (2 ^ t - 1) := by rw [hm, Nat.mul_add, Nat.mul_one]; omega
    rw [e1, Nat.mul_add_div hp, Nat.div_eq_of_lt (by omega), Nat.add_zero]
  have b2 : ∀ i, t ≤ i → (x - 1).testBit i = (2 * m).testBit (i - t) := fun i hi => by
    rw [← d, Nat.testBit_div_two_pow]
    congr 1; omega
  refine ⟨hk, fun i hi => ?_, ?_, fun i => ?_⟩
  · rw [b1, decide_eq_false (by omega)]; rfl
  · rw [b1, decide_eq_true (Nat.le_refl _), Nat.sub_self, Nat.testBit_zero]
    simp
  · rw [Nat.testBit_and]
    by_cases h : t ≤ i
    · rw [b1, b2 i h, decide_eq_true h]
      by_cases h2 : i = t
      · subst h2
        simp [Nat.sub_self]
      · obtain ⟨k, hk⟩ : ∃ k, i - t = k + 1 := ⟨i - t - 1, by omega⟩
        rw [hk, Nat.testBit_succ, Nat.testBit_succ, show (2 * m + 1) / 2 = m by omega, show 2 * m / 2 = m by omega, decide_eq_true h2]
        simp
    · rw [b1, decide_eq_false h]; rfl
theorem wBits_peel (j x : Nat) (hx : x < 18446744073709551616) (h0 : x ≠ 0) : wBits j x = ((64 * j + Lib.ctz 64 x : Nat) : Int) :: wBits j (x &&& (x - 1)) := by
  obtain ⟨ht, h1, h2, h3⟩ := low_bits x hx h0
  unfold wBits
  rw [filter_peel x.testBit (x &&& (x - 1)).testBit 64 _ ht h1 h2 h3]
  rfl

/-- The first m bits of a bitmap. -/
def bCut (ws : List Nat) (m : Nat) : List Nat := if ws.length ≤ m / 64 then ws else (ws.take (m / 64 + 1)).set (m / 64) (ws.getD (m / 64) 0 &&& (2 ^ (m % 64) - 1))
theorem bCut_wd {ws : List Nat} (h : Wd ws) (m : Nat) : Wd (bCut ws m) := by
  unfold bCut
  split
  · exact h
  · exact wd_set (h.take _) _ _ (Nat.lt_of_le_of_lt Nat.and_le_left (h.getD _))
theorem bCut_length (ws : List Nat) (m : Nat) : (bCut ws m).length ≤ ws.length := by
  unfold bCut
  split
  · exact Nat.le_refl _
  · rw [List.length_set, List.length_take]; omega
theorem getD_take_lt (l : List Nat) (n i : Nat) (h : i < n) : (l.take n).getD i 0 = l.getD i 0 := by
  rw [List.getD_eq_getElem?_getD, List.getElem?_take_of_lt h, List.getD_eq_getElem?_getD]
theorem bCut_has (ws : List Nat) (m i : Nat) : (i < 64 * (bCut ws m).length ∧ bHas (bCut ws m) (i : Int) = true) ↔ (i < min m (64 * ws.length) ∧ bHas ws (i : Int) = true) := by
  unfold bCut
  split
  · next h =>
    constructor
    · rintro ⟨h1, h2⟩; exact ⟨by omega, h2⟩
    · rintro ⟨h1, h2⟩; exact ⟨by omega, h2⟩
  · next h =>
    have hl : ((ws.take (m / 64 + 1)).set (m / 64) (ws.getD (m / 64) 0 &&& (2 ^ (m % 64) - 1))).length = m / 64 + 1 := by rw [List.length_set, List.length_take]; omega
    rw [hl]
    by_cases hi : i < 64 * (m / 64 + 1)
    · have hw : bHas ((ws.take (m / 64 + 1)).set (m / 64) (ws.getD (m / 64) 0 &&& (2 ^ (m % 64) - 1))) (i : Int) = (bHas ws (i : Int) && decide (i < m)) := by
        rw [bHas_at _ _ (by omega), bHas_at _ _ (by omega), getD_set _ _ _ _ (by rw [List.length_take]; omega), Int.toNat_natCast]
        by_cases e : i / 64 = m / 64
        · rw [if_pos e, Nat.testBit_and, Nat.testBit_two_pow_sub_one, e]
          congr 1
          rw [Bool.eq_iff_iff, decide_eq_true_iff, decide_eq_true_iff]; omega
        · rw [if_neg e, getD_take_lt _ _ _ (by omega), decide_eq_true (by omega), Bool.and_true]
      rw [hw, Bool.and_eq_true, decide_eq_true_iff]
      constructor
      · rintro ⟨_, h1, h2⟩; exact ⟨by omega, h1⟩
      · rintro ⟨h1, h2⟩; exact ⟨hi, h2, by omega⟩
    · constructor
      · rintro ⟨h1, _⟩; exact absurd h1 hi
      · rintro ⟨h1, _⟩; omega
theorem bCut_bits (ws : List Nat) (m : Nat) : bBits (bCut ws m) (64 * (bCut ws m).length) = bBits ws (min m (64 * ws.length)) := bBits_ext _ _ _ _ (bCut_has ws m)

/-- Of the numbers of a text's ones the bits are these. -/
theorem ones_bits (l : List UInt8) (hl : l.length ≤ 4096) (N : Nat) (hN : min 4096 (64 * (cOf (bOnes l)).length) = N) : bBits (cOf (bOnes l)) N = bOnes l := by
  have e : bOnes l = ((List.range l.length).filter fun (i : Nat) => l.getD i 0 == 49).map fun (i : Nat) => (i : Int) := rfl
  have hmem : ∀ i : Nat, (i : Int) ∈ bOnes l ↔ (i < l.length ∧ (l.getD i 0 == 49) = true) := fun i => by
    rw [e]
    constructor
    · intro h
      obtain ⟨j, hj, hji⟩ := List.mem_map.1 h
      have : j = i := by omega
      subst this
      have := List.mem_filter.1 hj
      exact ⟨List.mem_range.1 this.1, this.2⟩
    · rintro ⟨h1, h2⟩
      exact List.mem_map.2 ⟨i, List.mem_filter.2 ⟨List.mem_range.2 h1, h2⟩, rfl⟩
  unfold bBits
  rw [filter_ext (fun (i : Nat) => bHas (cOf (bOnes l)) (i : Int)) (fun (i : Nat) => l.getD i 0 == 49) N l.length (fun i => ?_)]
  · rfl
  · constructor
    · rintro ⟨_, h⟩
      rw [cOf_has, decide_eq_true_iff] at h
      exact (hmem i).1 h.2.2
    · intro h
      have hh : bHas (cOf (bOnes l)) (i : Int) = true := by rw [cOf_has, decide_eq_true_iff]; exact ⟨by omega, by omega, (hmem i).2 h⟩
      have := (bHas_lt _ _ hh).2
      exact ⟨by omega, hh⟩
theorem bOnes_range (l : List UInt8) (hl : l.length ≤ 4096) : ∀ x ∈ bOnes l, -9223372036854775808 ≤ x ∧ x ≤ 9223372036854775807 := fun x hx => by
  unfold bOnes at hx
  obtain ⟨i, hi, rfl⟩ := List.mem_map.1 hx
  have := List.mem_range.1 (List.mem_filter.1 hi).1
  omega
theorem text_digits (ws : List Nat) (m : Nat) : bDigits (bText ws m) = true := by
  unfold bDigits bText
  rw [List.all_eq_true]
  intro c hc
  obtain ⟨i, _, rfl⟩ := List.mem_map.1 hc
  split <;> rfl
theorem text_ones (ws : List Nat) (m : Nat) : bOnes (bText ws m) = bBits ws m := by
  unfold bOnes bBits
  rw [bText_length]
  congr 1
  refine List.filter_congr fun i hi => ?_
  have hi := List.mem_range.1 hi
  unfold bText
  rw [List.getD_eq_getElem?_getD, List.getElem?_map, List.getElem?_range hi]
  show ((if bHas ws (i : Int) = true then (49 : UInt8) else 48) == 49) = _
  cases bHas ws (i : Int) <;> rfl
theorem bits_short (ws : List Nat) (hl : ws.length ≤ 64) (n : Int) : bBits ws (min n 4096).toNat = bBits ws (min n.toNat (64 * ws.length)) := bBits_ext _ _ _ _ fun i => by
  constructor
  · rintro ⟨h1, h2⟩
    have := (bHas_lt _ _ h2).2
    exact ⟨by omega, h2⟩
  · rintro ⟨h1, h2⟩
    exact ⟨by omega, h2⟩

end Go.Proofs.YtdcnpaodcjfdbaaGreatDoor

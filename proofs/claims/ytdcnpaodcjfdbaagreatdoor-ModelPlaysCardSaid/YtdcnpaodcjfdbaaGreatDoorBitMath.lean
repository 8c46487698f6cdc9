/- Plain facts on rows of bits: which are 1, their text, their numbers. No program is named here. -/
import Derived.Below
namespace Go.Proofs.YtdcnpaodcjfdbaaGreatDoor

/-- Is a bit 1? -/
def bHas (ws : List Nat) (i : Int) : Bool := decide (0 ≤ i) && (ws.getD (i.toNat / 64) 0).testBit (i.toNat % 64)
/-- Which are 1, of the first n. -/
def bBits (ws : List Nat) (n : Nat) : List Int := ((List.range n).filter fun (i : Nat) => bHas ws (i : Int)).map fun (i : Nat) => (i : Int)
/-- The text of the first n. -/
def bText (ws : List Nat) (n : Nat) : List UInt8 := (List.range n).map fun (i : Nat) => if bHas ws (i : Int) then 49 else 48
/-- The same bits? -/
def bSame (a b : List Nat) : Bool := (List.range (max a.length b.length)).all fun i => a.getD i 0 == b.getD i 0

theorem bHas_neg (ws : List Nat) (i : Int) (h : i < 0) : bHas ws i = false := by unfold bHas; rw [decide_eq_false (by omega)]; rfl
theorem bHas_past (ws : List Nat) (i : Int) (h : ws.length ≤ i.toNat / 64) : bHas ws i = false := by
  unfold bHas; rw [List.getD_eq_getElem?_getD, List.getElem?_eq_none h]; simp
theorem bHas_at (ws : List Nat) (i : Int) (h0 : 0 ≤ i) : bHas ws i = (ws.getD (i.toNat / 64) 0).testBit (i.toNat % 64) := by
  unfold bHas; rw [decide_eq_true h0]; rfl
theorem bBits_succ (ws : List Nat) (n : Nat) : bBits ws (n + 1) = bBits ws n ++ (if bHas ws (n : Int) then [(n : Int)] else []) := by
  unfold bBits
  rw [List.range_succ, List.filter_append, List.map_append]
  congr 1
  by_cases h : bHas ws (n : Int) <;> simp [h]
theorem bBits_length (ws : List Nat) (n : Nat) : (bBits ws n).length ≤ n := by
  unfold bBits; rw [List.length_map]
  exact Nat.le_trans (List.length_filter_le _ _) (by simp)
theorem bText_succ (ws : List Nat) (n : Nat) : bText ws (n + 1) = bText ws n ++ [if bHas ws (n : Int) then 49 else 48] := by
  unfold bText; rw [List.range_succ, List.map_append]; rfl
theorem bText_length (ws : List Nat) (n : Nat) : (bText ws n).length = n := by unfold bText; simp

theorem testBit_div (x k : Nat) : x.testBit k = decide (x / 2 ^ k % 2 = 1) := by
  rw [Nat.testBit_eq_decide_div_mod_eq]

theorem getD_at {α : Type} (l : List α) (i : Nat) (d x : α) (h : l[i]? = some x) : l.getD i d = x := by
  rw [List.getD_eq_getElem?_getD, h]; rfl
theorem getD_none {α : Type} (l : List α) (i : Nat) (d : α) (h : l.length ≤ i) : l.getD i d = d := by
  rw [List.getD_eq_getElem?_getD, List.getElem?_eq_none h]; rfl

theorem bSame_true (a b : List Nat) (h : ∀ i, i < max a.length b.length → a.getD i 0 = b.getD i 0) : bSame a b = true := by
  unfold bSame; rw [List.all_eq_true]
  intro i hi
  rw [List.mem_range] at hi
  simpa using h i hi
theorem bSame_false (a b : List Nat) (i : Nat) (hi : i < max a.length b.length) (h : a.getD i 0 ≠ b.getD i 0) : bSame a b = false := by
  unfold bSame; rw [List.all_eq_false]
  exact ⟨i, List.mem_range.2 hi, by simpa using h⟩
/-- Where a text has the digit 1. -/
def bOnes (l : List UInt8) : List Int := ((List.range l.length).filter fun (i : Nat) => l.getD i 0 == 49).map fun (i : Nat) => (i : Int)
def bDigits (l : List UInt8) : Bool := l.all fun c => c == 48 || c == 49
/-- Which bits a text has; the error's number. -/
def bRead (l : List UInt8) : List Int × Int := if 4096 < l.length then ([], 11) else if bDigits l then (bOnes l, 0) else ([], 10)

theorem bOnes_snoc (l : List UInt8) (c : UInt8) : bOnes (l ++ [c]) = bOnes l ++ (if c = 49 then [(l.length : Int)] else []) := by
  unfold bOnes
  rw [List.length_append, List.length_singleton, List.range_succ, List.filter_append, List.map_append]
  congr 1
  · congr 1
    apply List.filter_congr
    intro i hi
    have hi := List.mem_range.1 hi
    rw [List.getD_eq_getElem?_getD, List.getElem?_append_left hi, ← List.getD_eq_getElem?_getD]
  · by_cases h : c = 49 <;> simp [h]
theorem bOnes_length (l : List UInt8) : (bOnes l).length ≤ l.length := by
  unfold bOnes; rw [List.length_map]
  exact Nat.le_trans (List.length_filter_le _ _) (by simp)
theorem bDigits_snoc (l : List UInt8) (c : UInt8) : bDigits (l ++ [c]) = (bDigits l && (c == 48 || c == 49)) := by
  unfold bDigits; rw [List.all_append]; simp
theorem bDigits_bad (l : List UInt8) (c : UInt8) (h : c ∈ l) (h0 : c ≠ 48) (h1 : c ≠ 49) : bDigits l = false := by
  unfold bDigits; rw [List.all_eq_false]; exact ⟨c, h, by simp [h0, h1]⟩

/-- The greatest number that a bitmap has a bit for; -1. -/
def bMost (l : List Int) : Int := l.foldl (fun m x => if 0 ≤ x ∧ x < 4096 ∧ m < x then x else m) (-1)
/-- The highest j bits of the word k. -/
def bAcc (l : List Int) (k : Nat) : Nat → Nat
  | 0 => 0
  | j + 1 => 2 * bAcc l k j + (if (64 * (k : Int) + (63 - (j : Int))) ∈ l then 1 else 0)
/-- How many words it takes. -/
def bCount (l : List Int) : Nat := (bMost l + 64).toNat / 64
/-- The bitmap of bits. -/
def bOf (l : List Int) : List Nat := (List.range (bCount l)).map fun k => bAcc l k 64

theorem bMost_snoc (l : List Int) (x : Int) : bMost (l ++ [x]) = if 0 ≤ x ∧ x < 4096 ∧ bMost l < x then x else bMost l := by
  unfold bMost; rw [List.foldl_append]; rfl
theorem bMost_range (l : List Int) : -1 ≤ bMost l ∧ bMost l ≤ 4095 := by
  have : ∀ (l : List Int) (m : Int), -1 ≤ m ∧ m ≤ 4095 → -1 ≤ l.foldl (fun m x => if 0 ≤ x ∧ x < 4096 ∧ m < x then x else m) m ∧ l.foldl (fun m x => if 0 ≤ x ∧ x < 4096 ∧ m < x then x else m) m ≤ 4095 := by
    intro l
    induction l with
    | nil => intro m h; exact h
    | cons x l ih =>
      intro m h
      rw [List.foldl_cons]
      apply ih
      split <;> omega
  exact this l (-1) (by omega)
theorem bAcc_succ (l : List Int) (k j : Nat) : bAcc l k (j + 1) = 2 * bAcc l k j + (if (64 * (k : Int) + (63 - (j : Int))) ∈ l then 1 else 0) := rfl
theorem bAcc_lt (l : List Int) (k j : Nat) : bAcc l k j < 2 ^ j := by
  induction j with
  | zero => simp [bAcc]
  | succ j ih =>
    unfold bAcc
    rw [Nat.pow_succ]
    split <;> omega
theorem bAcc_bit (l : List Int) (k : Nat) : ∀ j t, t < j → (bAcc l k j).testBit t = decide ((64 * (k : Int) + (64 - (j : Int)) + (t : Int)) ∈ l)
  | 0, t, h => by omega
  | j + 1, 0, h => by
    rw [Nat.testBit_zero]
    unfold bAcc
    rw [show (64 * (k : Int) + (64 - ((j + 1 : Nat) : Int)) + ((0 : Nat) : Int)) = 64 * (k : Int) + (63 - (j : Int)) by omega]
    by_cases h : (64 * (k : Int) + (63 - (j : Int))) ∈ l
    · rw [if_pos h, decide_eq_true h]; simp
    · rw [if_neg h, decide_eq_false h]; simp
  | j + 1, t + 1, h => by
    rw [Nat.testBit_succ]
    have e : bAcc l k (j + 1) / 2 = bAcc l k j := by
      show (2 * bAcc l k j + _) / 2 = _
      split <;> omega
    rw [e, bAcc_bit l k j t (by omega)]
    rw [show (64 * (k : Int) + (64 - ((j + 1 : Nat) : Int)) + ((t + 1 : Nat) : Int)) = 64 * (k : Int) + (64 - (j : Int)) + (t : Int) by omega]
theorem bMost_mem : ∀ (l : List Int) (m : Int), (∀ x ∈ l, 0 ≤ x → x < 4096 → x ≤ l.foldl (fun m x => if 0 ≤ x ∧ x < 4096 ∧ m < x then x else m) m) ∧ m ≤ l.foldl (fun m x => if 0 ≤ x ∧ x < 4096 ∧ m < x then x else m) m ∧
    (l.foldl (fun m x => if 0 ≤ x ∧ x < 4096 ∧ m < x then x else m) m = m ∨ (l.foldl (fun m x => if 0 ≤ x ∧ x < 4096 ∧ m < x then x else m) m ∈ l ∧ 0 ≤ l.foldl (fun m x => if 0 ≤ x ∧ x < 4096 ∧ m < x then x else m) m))
  | [], m => ⟨fun x h => by simp at h, Int.le_refl _, Or.inl rfl⟩
  | y :: l, m => by
    rw [List.foldl_cons]
    obtain ⟨h1, h2, h3⟩ := bMost_mem l (if 0 ≤ y ∧ y < 4096 ∧ m < y then y else m)
    generalize l.foldl (fun m x => if 0 ≤ x ∧ x < 4096 ∧ m < x then x else m) (if 0 ≤ y ∧ y < 4096 ∧ m < y then y else m) = r at h1 h2 h3 ⊢
    refine ⟨fun x hx h0 h4 => ?_, ?_, ?_⟩
    · rcases List.mem_cons.1 hx with rfl | hx
      · split at h2 <;> omega
      · exact h1 x hx h0 h4
    · split at h2 <;> omega
    · rcases h3 with h3 | ⟨h3, h4⟩
      · split at h3
        · right; rw [h3]; exact ⟨List.mem_cons_self, by omega⟩
        · left; exact h3
      · right; exact ⟨List.mem_cons_of_mem _ h3, h4⟩
/-- It has just these bits. -/
theorem bOf_has (l : List Int) (i : Int) : bHas (bOf l) i = decide (0 ≤ i ∧ i < 4096 ∧ i ∈ l) := by
  by_cases h0 : 0 ≤ i
  · rw [bHas_at _ _ h0]
    have hr := bMost_range l
    obtain ⟨m1, _, m3⟩ := bMost_mem l (-1)
    change (∀ x ∈ l, 0 ≤ x → x < 4096 → x ≤ bMost l) at m1
    by_cases hc : i.toNat / 64 < bCount l
    · have e : (bOf l).getD (i.toNat / 64) 0 = bAcc l (i.toNat / 64) 64 := by
        unfold bOf
        rw [List.getD_eq_getElem?_getD, List.getElem?_map, List.getElem?_range hc]; rfl
      rw [e, bAcc_bit l _ 64 _ (Nat.mod_lt _ (by omega))]
      have e2 : (64 * ((i.toNat / 64 : Nat) : Int) + (64 - ((64 : Nat) : Int)) + ((i.toNat % 64 : Nat) : Int)) = i := by omega
      rw [e2, Bool.eq_iff_iff, decide_eq_true_iff, decide_eq_true_iff]
      constructor
      · intro h
        refine ⟨h0, ?_, h⟩
        unfold bCount at hc; omega
      · intro h; exact h.2.2
    · rw [getD_none _ _ _ (by unfold bOf; simp; omega), Nat.zero_testBit]
      symm
      apply decide_eq_false
      rintro ⟨_, h2, h3⟩
      have := m1 i h3 h0 h2
      unfold bCount at hc; omega
  · rw [bHas_neg _ _ (by omega)]
    symm; apply decide_eq_false; omega

end Go.Proofs.YtdcnpaodcjfdbaaGreatDoor

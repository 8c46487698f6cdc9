/- Rows of words: plain facts on layer 4 (arena). No program is named here. -/
namespace Go.Proofs.Ytcngcibiibchiaa

/-- Are k words from an address on there, of so many? -/
def aIn (len : Nat) (at' k : Int) : Bool := decide (0 ≤ at' ∧ 0 ≤ k ∧ at' + k ≤ (len : Int))
/-- k words from an address on. -/
def aRow (xs : List Nat) (at' k : Nat) : List Nat := (xs.drop at').take k
/-- The words behind a store. -/
def aStore (xs : List Nat) (at' : Nat) (ys : List Nat) : List Nat := xs.take at' ++ ys ++ xs.drop (at' + ys.length)

theorem aRow_length (xs : List Nat) (at' k : Nat) (h : at' + k ≤ xs.length) : (aRow xs at' k).length = k := by
  unfold aRow; rw [List.length_take, List.length_drop]; omega
theorem aRow_succ (xs : List Nat) (at' j : Nat) (x : Nat) (h : xs[at' + j]? = some x) : aRow xs at' (j + 1) = aRow xs at' j ++ [x] := by
  unfold aRow
  rw [List.take_add_one, List.getElem?_drop, h]; rfl
theorem aRow_zero (xs : List Nat) (at' : Nat) : aRow xs at' 0 = [] := by unfold aRow; simp
theorem aStore_length (xs : List Nat) (at' : Nat) (ys : List Nat) (h : at' + ys.length ≤ xs.length) : (aStore xs at' ys).length = xs.length := by
  unfold aStore; rw [List.length_append, List.length_append, List.length_take, List.length_drop]; omega
theorem aStore_nil (xs : List Nat) (at' : Nat) : aStore xs at' [] = xs := by unfold aStore; simp
theorem aStore_get (xs : List Nat) (at' : Nat) (ys : List Nat) (h : at' + ys.length ≤ xs.length) (i : Nat) : (aStore xs at' ys)[i]? = if i < at' then xs[i]? else if i < at' + ys.length then ys[i - at']? else xs[i]? := by
  unfold aStore
  have e : min at' xs.length = at' := by omega
  by_cases h1 : i < at'
  · rw [if_pos h1, List.getElem?_append_left (by rw [List.length_append, List.length_take]; omega), List.getElem?_append_left (by rw [List.length_take]; omega), List.getElem?_take_of_lt h1]
  · rw [if_neg h1]
    by_cases h2 : i < at' + ys.length
    · rw [if_pos h2, List.getElem?_append_left (by rw [List.length_append, List.length_take]; omega), List.getElem?_append_right (by rw [List.length_take]; omega), List.length_take, e]
    · rw [if_neg h2, List.getElem?_append_right (by rw [List.length_append, List.length_take]; omega), List.length_append, List.length_take, e, List.getElem?_drop, show at' + ys.length + (i - (at' + ys.length)) = i by omega]
/-- One word more. -/
theorem aStore_succ (xs : List Nat) (at' : Nat) (ys : List Nat) (y : Nat) (h : at' + ys.length < xs.length) : aStore xs at' (ys ++ [y]) = (aStore xs at' ys).set (at' + ys.length) y := by
  apply List.ext_getElem?
  intro i
  rw [List.getElem?_set, aStore_length xs at' ys (by omega), aStore_get xs at' ys (by omega), aStore_get xs at' (ys ++ [y]) (by simp; omega)]
  rw [List.length_append, List.length_singleton]
  by_cases h1 : i < at'
  · rw [if_pos h1, if_pos h1, if_neg (by omega)]
  · rw [if_neg h1, if_neg h1]
    by_cases h2 : i < at' + ys.length
    · rw [if_pos (by omega), if_neg (by omega), if_pos h2, List.getElem?_append_left (by omega)]
    · by_cases h3 : at' + ys.length = i
      · subst h3
        rw [if_pos (by omega), if_pos rfl, if_pos h, List.getElem?_append_right (by omega)]
        simp
      · rw [if_neg (by omega), if_neg h3, if_neg h2]
theorem aStore_take (xs : List Nat) (at' : Nat) (ys : List Nat) (j y : Nat) (hy : ys[j]? = some y) (h : at' + ys.length ≤ xs.length) : aStore xs at' (ys.take (j + 1)) = (aStore xs at' (ys.take j)).set (at' + j) y := by
  have hj : j < ys.length := by
    rcases Nat.lt_or_ge j ys.length with h | h
    · exact h
    · rw [List.getElem?_eq_none h] at hy; cases hy
  rw [List.take_add_one, hy]
  have := aStore_succ xs at' (ys.take j) y (by rw [List.length_take]; omega)
  rw [List.length_take, Nat.min_eq_left (by omega)] at this
  exact this
theorem aRow_get (xs : List Nat) (at' k i : Nat) : (aRow xs at' k)[i]? = if i < k then xs[at' + i]? else none := by
  unfold aRow
  by_cases h : i < k
  · rw [if_pos h, List.getElem?_take_of_lt h, List.getElem?_drop]
  · rw [if_neg h, List.getElem?_eq_none (by rw [List.length_take]; omega)]
/-- What was stored is read. -/
theorem aRow_same (xs : List Nat) (at' : Nat) (ys : List Nat) (n : Nat) (hn : ys.length = n) (h : at' + n ≤ xs.length) : aRow (aStore xs at' ys) at' n = ys := by
  apply List.ext_getElem?
  intro i
  rw [aRow_get, aStore_get xs at' ys (by omega)]
  by_cases hi : i < n
  · rw [if_pos hi, if_neg (by omega), if_pos (by omega), show at' + i - at' = i by omega]
  · rw [if_neg hi, List.getElem?_eq_none (by omega)]
/-- What stands elsewhere is read as it was. -/
theorem aRow_other (xs : List Nat) (at' : Nat) (ys : List Nat) (b n : Nat) (h : at' + ys.length ≤ xs.length) (hd : b + n ≤ at' ∨ at' + ys.length ≤ b) : aRow (aStore xs at' ys) b n = aRow xs b n := by
  apply List.ext_getElem?
  intro i
  rw [aRow_get, aRow_get, aStore_get xs at' ys h]
  by_cases hi : i < n
  · rw [if_pos hi, if_pos hi]
    by_cases h1 : b + i < at'
    · rw [if_pos h1]
    · rw [if_neg h1, if_neg (by omega)]
  · rw [if_neg hi, if_neg hi]

end Go.Proofs.Ytcngcibiibchiaa

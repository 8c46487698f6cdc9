/- Slots of frames (layer 16): plain functions. -/
import Derived.Test.YthjodcojhlfnfaaDoorWlkAll
namespace Go.Proofs.YthjodcojhlfnfaaDoor
open Go.RowKit
set_option linter.unusedVariables false

/-- What a slot has. -/
structure VlV where
  kind : Nat
  bits : Nat
  depth : Int
  slot : Int
deriving DecidableEq
def vlC (v : VlV) : Value := .agg #[.int .u8 v.kind, .int .u64 v.bits, .int .i64 v.depth, .int .i64 v.slot]
def vl0 : VlV := ⟨0, 0, 0, 0⟩
/-- May a value be? -/
def vMay (v : VlV) : Bool := decide (v.kind ≤ 2 ∧ (v.kind = 1 ∨ v.bits = 0)) && (if v.kind < 2 then decide (v.depth = 0 ∧ v.slot = 0) else decide (0 ≤ v.depth ∧ 0 ≤ v.slot))
/-- How many slots a frame has. -/
def slSize (l : Fns) (x : FrV) : Int := if fSize l x.fn < 0 ∨ x.at_ < 0 ∨ 1099511627776 < x.at_ then 0 else fSize l x.fn
/-- The address of a slot; -1. -/
def slAddr (l : Fns) (L : List FrV) (d i : Int) : Int := if d < 0 ∨ (L.length : Int) ≤ d ∨ i < 0 ∨ slSize l (L.getD d.toNat fr0) ≤ i then -1 else (L.getD d.toNat fr0).at_ + 2 + i
/-- The slot that has an address, from a depth on. -/
def slFind (l : Fns) : Nat → List FrV → Int → Option (Nat × Nat)
  | _, [], _ => none
  | d, x :: r, a => if x.at_ + 2 ≤ a ∧ a < x.at_ + 2 + slSize l x then some (d, (a - (x.at_ + 2)).toNat) else slFind l (d + 1) r a
theorem slSize_range (l : Fns) (hl : ∀ x ∈ l, 0 ≤ x.1 ∧ x.1 ≤ 1000) (x : FrV) : 0 ≤ slSize l x ∧ slSize l x ≤ 1000 ∧ (0 < slSize l x → 0 ≤ x.at_ ∧ x.at_ ≤ 1099511627776 ∧ slSize l x = fSize l x.fn) := by
  unfold slSize
  have := fSize_range hl x.fn
  split <;> omega
theorem slSize_owns (l : Fns) (x : FrV) : slSize (fOwns l) x = slSize l x := by unfold slSize; rw [fSize_owns]
theorem slAddr_owns (l : Fns) (L : List FrV) (d i : Int) : slAddr (fOwns l) L d i = slAddr l L d i := by unfold slAddr; rw [slSize_owns]
theorem slFind_owns (l : Fns) (a : Int) : ∀ (L : List FrV) (d : Nat), slFind (fOwns l) d L a = slFind l d L a
  | [], _ => rfl
  | x :: r, d => by unfold slFind; rw [slSize_owns, slFind_owns l a r (d + 1)]
theorem slFind_at {l : Fns} {a : Int} {L : List FrV} {j : Nat} {x : FrV} (h : L[j]? = some x) (d : Nat) : slFind l d (L.drop j) a = if x.at_ + 2 ≤ a ∧ a < x.at_ + 2 + slSize l x then some (d, (a - (x.at_ + 2)).toNat) else slFind l (d + 1) (L.drop (j + 1)) a := by
  obtain ⟨hj, rfl⟩ := List.getElem?_eq_some_iff.1 h
  rw [List.drop_eq_getElem_cons hj]; rfl
/-- What is found is an address. -/
theorem slFind_addr {l : Fns} {a : Int} : ∀ (L : List FrV) (d0 : Nat) (d i : Nat), slFind l d0 L a = some (d, i) → d0 ≤ d ∧ d < d0 + L.length ∧ (i : Int) < slSize l (L.getD (d - d0) fr0) ∧ (L.getD (d - d0) fr0).at_ + 2 + (i : Int) = a
  | [], d0, d, i, h => by cases h
  | x :: r, d0, d, i, h => by
    unfold slFind at h
    by_cases hc : x.at_ + 2 ≤ a ∧ a < x.at_ + 2 + slSize l x
    · rw [if_pos hc] at h
      injection h with h
      injection h with h1 h2
      subst h1 h2
      simp only [Nat.sub_self, List.getD_cons_zero, List.length_cons]
      omega
    · rw [if_neg hc] at h
      have := slFind_addr r (d0 + 1) d i h
      obtain ⟨k, hk⟩ : ∃ k, d - d0 = k + 1 := ⟨d - d0 - 1, by omega⟩
      rw [hk, List.getD_cons_succ]
      rw [show d - (d0 + 1) = k by omega] at this
      simp only [List.length_cons]
      omega
end Go.Proofs.YthjodcojhlfnfaaDoor

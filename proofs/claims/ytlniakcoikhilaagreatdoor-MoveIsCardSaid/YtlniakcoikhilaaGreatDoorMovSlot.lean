/- Stacks that are moved (layer 17): the slots of what was moved, word by word; plain facts. -/
import Derived.Test.YtlniakcoikhilaaGreatDoorMovWalk
namespace Go.Proofs.YtlniakcoikhilaaGreatDoor
open Go.RowKit
set_option linter.unusedVariables false

/-- A slot's word, moved. -/
def slW (xs : List Nat) (l : Fns) (δ : Int) (x : FrV) (i : Nat) : Nat :=
  if fPtr l x.fn i = true ∧ xs.getD (x.at_ + 2 + i).toNat 0 ≠ 0 then ((xs.getD (x.at_ + 2 + i).toNat 0 : Nat) + δ : Int).toNat else xs.getD (x.at_ + 2 + i).toNat 0
theorem getD_some {α : Type} {L : List α} {d : Nat} {x y : α} (h : L[d]? = some x) : L.getD d y = x := by rw [List.getD_eq_getElem?_getD, h]; rfl
theorem some_getD {α : Type} {L : List α} {d : Nat} (y : α) (h : d < L.length) : L[d]? = some (L.getD d y) := by rw [List.getD_eq_getElem?_getD, List.getElem?_eq_getElem h]; rfl
/-- Frames within so many words, here and there. -/
def Win (N : Nat) (δ : Int) (L : List FrV) : Prop := (N : Int) ≤ 65536 ∧ ∀ y ∈ L, 0 ≤ y.at_ ∧ y.at_ ≤ N ∧ 0 ≤ y.at_ + δ ∧ y.at_ + δ ≤ N
theorem slSize_shF {N : Nat} {δ : Int} {L : List FrV} (h : Win N δ L) (l : Fns) {y : FrV} (hy : y ∈ L) : slSize l (shF δ y) = slSize l y := by
  have k := h.2 y hy
  have := h.1
  unfold slSize shF
  simp only
  by_cases c : fSize l y.fn < 0
  · rw [if_pos (Or.inl c), if_pos (Or.inl c)]
  · rw [if_neg (by omega), if_neg (by omega)]
theorem slAddr_of {l : Fns} {L : List FrV} {d i : Nat} {x : FrV} (h : L[d]? = some x) (hi : (i : Int) < slSize l x) : slAddr l L d i = x.at_ + 2 + i := by
  obtain ⟨hj, -⟩ := List.getElem?_eq_some_iff.1 h
  unfold slAddr
  rw [Int.toNat_natCast, getD_some h, if_neg (by omega)]
theorem slAddr_shF {N : Nat} {δ : Int} {l : Fns} {L : List FrV} (hW : Win N δ L) {d i : Nat} {x : FrV} (h : L[d]? = some x) (hi : (i : Int) < slSize l x) : slAddr l (L.map (shF δ)) d i = x.at_ + δ + 2 + i := by
  have h2 : (L.map (shF δ))[d]? = some (shF δ x) := by rw [List.getElem?_map, h]; rfl
  rw [slAddr_of h2 (by rw [slSize_shF hW l (List.mem_of_getElem? h)]; exact hi)]
  rfl
theorem slGet_cases {l : Fns} {L : List FrV} {xs : List Nat} {d i : Nat} {x : FrV} (h : L[d]? = some x) (hi : (i : Int) < slSize l x) (hg : (slGet xs l L d i).2 = 0) {w : Nat} (hw : xs.getD (x.at_ + 2 + (i : Int)).toNat 0 = w) :
    0 ≤ x.at_ + 2 + (i : Int) ∧ x.at_ + 2 + (i : Int) < xs.length ∧ ((fPtr l x.fn i = false ∧ slGet xs l L d i = (⟨1, w, 0, 0⟩, 0)) ∨ (fPtr l x.fn i = true ∧ w = 0 ∧ slGet xs l L d i = (vl0, 0)) ∨
      (fPtr l x.fn i = true ∧ w ≠ 0 ∧ w ≤ 4611686018427387904 ∧ ∃ u k, slFind l 0 L w = some (u, k) ∧ u ≤ d ∧ slGet xs l L d i = (⟨2, 0, u, k⟩, 0))) := by
  have a1 := slAddr_of h hi
  unfold slGet at hg ⊢
  rw [a1, Int.toNat_natCast, getD_some h, hw] at hg
  rw [a1, Int.toNat_natCast, getD_some h, hw]
  by_cases c0 : x.at_ + 2 + (i : Int) < 0 ∨ (xs.length : Int) ≤ x.at_ + 2 + (i : Int)
  · rw [if_pos c0] at hg; simp at hg
  · rw [if_neg c0] at hg
    rw [if_neg c0]
    refine ⟨by omega, by omega, ?_⟩
    by_cases c1 : fPtr l x.fn i = false
    · rw [if_pos c1]
      exact Or.inl ⟨c1, rfl⟩
    · rw [if_neg c1] at hg
      rw [if_neg c1]
      have c1 := (Bool.not_eq_false _).mp c1
      refine Or.inr ?_
      by_cases c2 : w = 0
      · rw [if_pos c2]
        exact Or.inl ⟨c1, c2, rfl⟩
      · rw [if_neg c2] at hg
        rw [if_neg c2]
        refine Or.inr ⟨c1, c2, ?_⟩
        by_cases c3 : 4611686018427387904 < w
        · rw [if_pos c3] at hg; simp at hg
        · rw [if_neg c3] at hg
          rw [if_neg c3]
          refine ⟨by omega, ?_⟩
          cases hf : slFind l 0 L (w : Int) with
          | none => rw [hf] at hg; simp at hg
          | some uk =>
            obtain ⟨u, k⟩ := uk
            rw [hf] at hg
            simp only at hg
            by_cases c4 : (d : Int) < (u : Int)
            · rw [if_pos c4] at hg; simp at hg
            · exact ⟨u, k, rfl, by omega, by simp only; rw [if_neg c4]⟩
/-- A slot's value, put where the slot was moved to. -/
theorem slPut_moved {N : Nat} {δ : Int} {l : Fns} {L : List FrV} (hW : Win N δ L) {xs ys : List Nat} {d i : Nat} {x : FrV} (h : L[d]? = some x) (hi : (i : Int) < slSize l x) (hg : (slGet xs l L d i).2 = 0) (hb : x.at_ + δ + 2 + i < ys.length) :
    (slPut ys l (L.map (shF δ)) d i (slGet xs l L d i).1).1 = ys.set (x.at_ + δ + 2 + i).toNat (slW xs l δ x i) := by
  have hx := hW.2 x (List.mem_of_getElem? h)
  have a2 := slAddr_shF hW h hi
  have hL2 : (L.map (shF δ)).getD d fr0 = shF δ x := getD_some (by rw [List.getElem?_map, h]; rfl)
  have hfn : (shF δ x).fn = x.fn := rfl
  obtain ⟨w, hw⟩ : ∃ w, xs.getD (x.at_ + 2 + (i : Int)).toNat 0 = w := ⟨_, rfl⟩
  obtain ⟨b0, b1, hc⟩ := slGet_cases h hi hg hw
  unfold slW
  rw [hw]
  unfold slPut
  rw [a2, Int.toNat_natCast, hL2, hfn, if_neg (show ¬ (x.at_ + δ + 2 + (i : Int) < 0 ∨ (ys.length : Int) ≤ x.at_ + δ + 2 + (i : Int)) by omega)]
  rcases hc with ⟨c1, hv⟩ | ⟨c1, c2, hv⟩ | ⟨c1, c2, c3, u, k, hf, hu, hv⟩
  · rw [hv, c1]
    simp [vMay]
  · rw [hv, c1, c2]
    simp [vMay, vl0]
  · obtain ⟨-, f1, f2, f3⟩ := slFind_addr L 0 u k hf
    rw [Nat.sub_zero] at f2 f3
    have hu2 := some_getD fr0 (show u < L.length by omega)
    have a3 := slAddr_shF hW hu2 f2
    have hy := hW.2 _ (List.mem_of_getElem? hu2)
    have hm : vMay ⟨2, 0, (u : Int), (k : Int)⟩ = true := by
      unfold vMay
      simp
    rw [hv, c1]
    simp only
    rw [hm, a3, if_neg (by simp), if_neg (by simp), if_pos True.intro, if_neg (by omega), if_neg (by omega), if_pos ⟨True.intro, c2⟩, show (L.getD u fr0).at_ + δ + 2 + (k : Int) = (w : Int) + δ by omega]
theorem slErr_all {xs : List Nat} {l : Fns} {L : List FrV} {d k : Nat} (h : slErr xs l L d k = 0) (i : Nat) (hi : i < k) : (slGet xs l L d i).2 = 0 := by
  unfold slErr at h
  cases hf : (((List.range k).map fun (i : Nat) => (slGet xs l L d i).2).find? (fun e => e != 0)) with
  | none =>
    rw [List.find?_eq_none] at hf
    have := hf (slGet xs l L d i).2 (List.mem_map.2 ⟨i, List.mem_range.2 hi, rfl⟩)
    simpa using this
  | some e =>
    rw [hf] at h
    have := List.find?_some hf
    simp at this h
    exact absurd h this
theorem slRow_at (xs : List Nat) (l : Fns) (L : List FrV) (d k i : Nat) (hi : i < k) : (slRow xs l L d k)[i]? = some (slGet xs l L d i).1 := by
  unfold slRow
  rw [List.getElem?_map, List.getElem?_range hi]; rfl
/-- A frame's slots, put where they were moved to. -/
theorem mvRow_moved {N : Nat} {δ : Int} {l : Fns} {L : List FrV} (hW : Win N δ L) {xs : List Nat} {d : Nat} {x : FrV} (h : L[d]? = some x) {k : Nat} (hk : (k : Int) = slSize l x) (hg : slErr xs l L d k = 0) : ∀ (m i : Nat) (ys : List Nat), i + m = k → ys.length = N → x.at_ + δ + 2 + k ≤ N →
    ∀ p : Nat, (mvRow l (L.map (shF δ)) d i ((slRow xs l L d k).drop i) ys).getD p 0 = if x.at_ + δ + 2 + i ≤ (p : Int) ∧ (p : Int) < x.at_ + δ + 2 + k then slW xs l δ x ((p : Int) - (x.at_ + δ + 2)).toNat else ys.getD p 0
  | 0, i, ys, him, hn, hb, p => by
    rw [List.drop_eq_nil_of_le (by rw [slRow_length]; omega), if_neg (by omega)]
    rfl
  | m + 1, i, ys, him, hn, hb, p => by
    have hx := hW.2 x (List.mem_of_getElem? h)
    rw [mvRow_at (slRow_at xs l L d k i (by omega)), slPut_moved hW h (by omega) (slErr_all hg i (by omega)) (by omega), mvRow_moved hW h hk hg m (i + 1) _ (by omega) (by rw [List.length_set]; exact hn) hb p]
    by_cases c : x.at_ + δ + 2 + ((i + 1 : Nat) : Int) ≤ (p : Int) ∧ (p : Int) < x.at_ + δ + 2 + k
    · rw [if_pos c, if_pos (by omega)]
    · rw [if_neg c]
      rw [List.getD_eq_getElem?_getD, List.getElem?_set]
      by_cases c2 : (x.at_ + δ + 2 + (i : Int)).toNat = p
      · rw [if_pos c2, if_pos (by omega), if_pos (by omega), show ((p : Int) - (x.at_ + δ + 2)).toNat = i by omega]
        rfl
      · rw [if_neg c2, if_neg (by omega), List.getD_eq_getElem?_getD]
end Go.Proofs.YtlniakcoikhilaaGreatDoor

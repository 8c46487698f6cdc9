/- Stacks that are moved (layer 17): all words behind it; plain facts. -/
import Derived.Test.YtlniakcoikhilaaGreatDoorMovSlot
namespace Go.Proofs.YtlniakcoikhilaaGreatDoor
open Go.RowKit
set_option linter.unusedVariables false

/-- The values of frames' slots; none of them fails. -/
def rowsOf (xs : List Nat) (l : Fns) (L : List FrV) : Nat → List FrV → List (List VlV)
  | _, [] => []
  | d, x :: r => slRow xs l L d (slSize l x).toNat :: rowsOf xs l L (d + 1) r
def Errs (xs : List Nat) (l : Fns) (L : List FrV) : Nat → List FrV → Prop
  | _, [] => True
  | d, x :: r => slErr xs l L d (slSize l x).toNat = 0 ∧ Errs xs l L (d + 1) r
theorem slAllAux_ok {xs : List Nat} {l : Fns} {L : List FrV} : ∀ (q : List FrV) (d : Nat) (acc : List (List VlV)), (slAllAux xs l L d q acc).2 = 0 → slAllAux xs l L d q acc = (acc ++ rowsOf xs l L d q, 0) ∧ Errs xs l L d q
  | [], d, acc, h => ⟨by unfold slAllAux rowsOf; simp, True.intro⟩
  | x :: r, d, acc, h => by
    unfold slAllAux at h ⊢
    by_cases c : slErr xs l L d (slSize l x).toNat = 0
    · rw [if_pos c] at h
      rw [if_pos c]
      obtain ⟨h1, h2⟩ := slAllAux_ok r (d + 1) _ h
      rw [h1]
      exact ⟨by rw [rowsOf, List.append_assoc]; rfl, c, h2⟩
    · rw [if_neg c] at h
      exact absurd h c
theorem slAllAux_of {xs : List Nat} {l : Fns} {L : List FrV} : ∀ (q : List FrV) (d : Nat) (acc : List (List VlV)), Errs xs l L d q → slAllAux xs l L d q acc = (acc ++ rowsOf xs l L d q, 0)
  | [], d, acc, h => by unfold slAllAux rowsOf; simp
  | x :: r, d, acc, h => by
    obtain ⟨c, h2⟩ := h
    unfold slAllAux
    rw [if_pos c, slAllAux_of r (d + 1) _ h2, rowsOf, List.append_assoc]
    rfl
/-- The words of frames' slots, moved; others are as told. -/
def slotsW (xs : List Nat) (l : Fns) (δ : Int) : List FrV → Int → Nat → Nat
  | [], _, z => z
  | x :: r, a, z => if x.at_ + 2 ≤ a ∧ a < x.at_ + 2 + slSize l x then slW xs l δ x (a - (x.at_ + 2)).toNat else slotsW xs l δ r a z
theorem slSize_end {N : Nat} {δ : Int} {L : List FrV} (h : Win N δ L) {l : Fns} (hl : ∀ x ∈ l, 0 ≤ x.1 ∧ x.1 ≤ 1000) {x : FrV} (hx : x ∈ L) (h4 : 0 ≤ x.fn) (h5 : x.fn < l.length) : x.at_ + 2 + slSize l x = wkEnd l x ∧ 0 ≤ slSize l x := by
  have k := h.2 x hx
  have := h.1
  have hw := fWords_cases l hl x.fn
  have hz : slSize l x = fSize l x.fn ∧ fWords l x.fn = fSize l x.fn + 2 := by
    unfold fWords at hw ⊢
    unfold slSize
    split at hw
    · omega
    · rename_i c
      rw [if_neg c, if_neg (by omega)]
      exact ⟨rfl, by omega⟩
  unfold wkEnd
  omega
theorem slotsW_out {xs : List Nat} {N : Nat} {δ : Int} {L : List FrV} (hW : Win N δ L) {l : Fns} (hl : ∀ x ∈ l, 0 ≤ x.1 ∧ x.1 ≤ 1000) {a : Int} {z : Nat} : ∀ (M : List FrV) (e k : Int), (∀ x ∈ M, x ∈ L) → Chn l e k M → e ≤ a → slotsW xs l δ M a z = z
  | [], _, _, _, _, _ => rfl
  | x :: r, e, k, hm, hc, ha => by
    obtain ⟨h1, h2, h3, h4, h5, h6⟩ := hc
    have hs := slSize_end hW hl (hm x List.mem_cons_self) h4 h5
    have hw := fWords_cases l hl x.fn
    have h1' : x.at_ + fWords l x.fn = e := h1
    rw [slotsW, if_neg (by omega)]
    exact slotsW_out hW hl r _ _ (fun y hy => hm y (List.mem_cons_of_mem _ hy)) h6 (by omega)
theorem lyW_out {l : Fns} (hl : ∀ x ∈ l, 0 ≤ x.1 ∧ x.1 ≤ 1000) {δ a : Int} : ∀ (M : List FrV) (e k : Int), Chn l e k M → e ≤ a → lyW l δ M a = 0
  | [], _, _, _, _ => rfl
  | x :: r, e, k, hc, ha => by
    obtain ⟨h1, h2, h3, h4, h5, h6⟩ := hc
    have hw := fWords_cases l hl x.fn
    have h1' : x.at_ + fWords l x.fn = e := h1
    rw [lyW, if_neg (by omega)]
    exact lyW_out hl r _ _ h6 (by omega)
theorem mvRows_moved {N : Nat} {δ : Int} {l : Fns} (hl : ∀ x ∈ l, 0 ≤ x.1 ∧ x.1 ≤ 1000) {L : List FrV} (hW : Win N δ L) {xs : List Nat} : ∀ (M : List FrV) (d : Nat) (e k : Int) (ys : List Nat), L.drop d = M → Chn l e k M → e + δ ≤ N → Errs xs l L d M → ys.length = N →
    ∀ p : Nat, (mvRows l (L.map (shF δ)) d (rowsOf xs l L d M) ys).getD p 0 = slotsW xs l δ M ((p : Int) - δ) (ys.getD p 0)
  | [], d, e, k, ys, _, _, _, _, _, p => rfl
  | x :: r, d, e, k, ys, hd, hc, he, hg, hn, p => by
    obtain ⟨h1, h2, h3, h4, h5, h6⟩ := hc
    have hx : L[d]? = some x := by
      have := congrArg (fun q => q[0]?) hd
      simpa using this
    have hr : L.drop (d + 1) = r := by
      have := congrArg List.tail hd
      simpa using this
    have hmem := List.mem_of_getElem? hx
    have hs := slSize_end hW hl hmem h4 h5
    have hw := fWords_cases l hl x.fn
    have h1' : wkEnd l x = e := h1
    have h1'' : x.at_ + fWords l x.fn = e := h1
    obtain ⟨g1, g2⟩ := hg
    have hrow := mvRow_moved hW hx (k := (slSize l x).toNat) (by omega) g1 (slSize l x).toNat 0 ys (by omega) hn (by omega) p
    rw [List.drop_zero] at hrow
    rw [rowsOf, mvRows, mvRows_moved hl hW r (d + 1) x.at_ x.at_ _ hr h6 (by omega) g2 (by rw [mvRow_length]; exact hn) p, hrow, slotsW]
    by_cases c : x.at_ + 2 ≤ (p : Int) - δ ∧ (p : Int) - δ < x.at_ + 2 + slSize l x
    · rw [if_pos (show x.at_ + δ + 2 + ((0 : Nat) : Int) ≤ (p : Int) ∧ (p : Int) < x.at_ + δ + 2 + ((slSize l x).toNat : Int) by omega), if_pos c, slotsW_out hW hl r x.at_ x.at_ (fun y hy => List.mem_of_mem_drop (hr ▸ hy : y ∈ L.drop (d + 1))) h6 (by omega), show (p : Int) - (x.at_ + δ + 2) = (p : Int) - δ - (x.at_ + 2) by omega]
    · rw [if_neg (show ¬ (x.at_ + δ + 2 + ((0 : Nat) : Int) ≤ (p : Int) ∧ (p : Int) < x.at_ + δ + 2 + ((slSize l x).toNat : Int)) by omega), if_neg c]
end Go.Proofs.YtlniakcoikhilaaGreatDoor

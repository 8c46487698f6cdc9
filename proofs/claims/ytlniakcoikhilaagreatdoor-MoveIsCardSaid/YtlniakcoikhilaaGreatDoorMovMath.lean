/- Stacks that are moved (layer 17): what stands where behind it; plain facts. -/
import Derived.Test.YtlniakcoikhilaaGreatDoorMovRef
import Derived.Test.YtlniakcoikhilaaGreatDoorWlkAll
namespace Go.Proofs.YtlniakcoikhilaaGreatDoor
open Go.RowKit
set_option linter.unusedVariables false

/-- A frame that stands elsewhere. -/
def shF (δ : Int) (x : FrV) : FrV := ⟨x.at_ + δ, x.fn, if x.link = -1 then -1 else x.link + δ⟩
/-- The word of frames that are laid anew, by where it stood. -/
def lyW (l : Fns) (δ : Int) : List FrV → Int → Nat
  | [], _ => 0
  | x :: r, a => if x.at_ ≤ a ∧ a < wkEnd l x then (if a = x.at_ then ((shF δ x).link + 1).toNat else if a = x.at_ + 1 then (x.fn + 1).toNat else 0) else lyW l δ r a
/-- Frames from an end on, the first one with this link, each one's link being the one ahead of it. -/
def Chn (l : Fns) : Int → Int → List FrV → Prop
  | _, _, [] => True
  | e, k, x :: r => wkEnd l x = e ∧ x.link = k ∧ 0 ≤ x.at_ ∧ 0 ≤ x.fn ∧ x.fn < l.length ∧ Chn l x.at_ x.at_ r
/-- Where the last one stands. -/
def topA : Int → List FrV → Int
  | e, [] => e
  | _, x :: r => topA x.at_ r
theorem topA_le {l : Fns} (hl : ∀ x ∈ l, 0 ≤ x.1 ∧ x.1 ≤ 1000) : ∀ (M : List FrV) (e k : Int), Chn l e k M → topA e M ≤ e
  | [], e, k, _ => Int.le_refl _
  | x :: r, e, k, h => by
    obtain ⟨h1, h2, h3, h4, h5, h6⟩ := h
    have := topA_le hl r _ _ h6
    have hw := fWords_cases l hl x.fn
    unfold wkEnd at h1
    show topA x.at_ r ≤ e
    omega
/-- Frames that are laid anew stand as the elder ones do, each one as far from where it stood. -/
theorem layGo_shift {l : Fns} (hl : ∀ x ∈ l, 0 ≤ x.1 ∧ x.1 ≤ 1000) {lo δ : Int} {N : Nat} (h0 : 0 ≤ lo) : ∀ (M : List FrV) (xs : List Nat) (e k : Int), xs.length = N → Chn l e k M → e + δ ≤ N → lo ≤ topA e M + δ → (k = -1 ∨ (k = e ∧ 0 ≤ k ∧ e + δ < N)) →
    ∃ ys, layGo l lo (M.map FrV.fn) xs (e + δ) (if k = -1 then -1 else k + δ) = (ys, topA e M + δ, true) ∧ ys.length = N ∧ ∀ i : Nat, ys.getD i 0 = if topA e M + δ ≤ (i : Int) ∧ (i : Int) < e + δ then lyW l δ M ((i : Int) - δ) else xs.getD i 0
  | [], xs, e, k, hn, _, _, _, _ => ⟨xs, rfl, hn, fun i => by
      rw [if_neg]
      show ¬ (e + δ ≤ (i : Int) ∧ (i : Int) < e + δ)
      omega⟩
  | x :: r, xs, e, k, hn, hc, he, hlo, hk => by
    obtain ⟨h1, h2, h3, h4, h5, h6⟩ := hc
    have hw := fWords_cases l hl x.fn
    have htop := topA_le hl r _ _ h6
    have hlo' : lo ≤ topA x.at_ r + δ := hlo
    have h1' : x.at_ + fWords l x.fn = e := h1
    obtain ⟨m, hm⟩ : ∃ m : Nat, fWords l x.fn = (m : Int) + 2 := ⟨(fWords l x.fn - 2).toNat, by omega⟩
    obtain ⟨s, hs⟩ : ∃ s : Nat, x.at_ + δ = (s : Int) := ⟨(x.at_ + δ).toNat, by omega⟩
    obtain ⟨lk, hlk⟩ : ∃ lk, (if k = -1 then (-1 : Int) else k + δ) = lk := ⟨_, rfl⟩
    have hlkb : -1 ≤ lk ∧ lk < N := by
      rw [← hlk]; split <;> omega
    have hrl : (frRow (m + 2) x.fn lk).length = m + 2 := frRow_length _ (by omega) _ _
    have hpush : frPush xs l lo (e + δ) x.fn lk = (aStore xs s (frRow (m + 2) x.fn lk), x.at_ + δ, 0) := by
      unfold frPush
      rw [hn, if_neg (by omega), if_neg (by omega), hm, show e + δ - ((m : Int) + 2) = x.at_ + δ by omega, hs, Int.toNat_natCast, show ((m : Int) + 2).toNat = m + 2 by omega]
    have hlen : (aStore xs s (frRow (m + 2) x.fn lk)).length = N := by rw [aStore_length _ _ _ (by rw [hrl]; omega)]; exact hn
    obtain ⟨ys, g1, g2, g3⟩ := layGo_shift hl h0 r (aStore xs s (frRow (m + 2) x.fn lk)) x.at_ x.at_ hlen h6 (by omega) hlo' (Or.inr ⟨rfl, h3, by omega⟩)
    rw [if_neg (by omega)] at g1
    refine ⟨ys, ?_, g2, fun i => ?_⟩
    · rw [hlk]
      show layGo l lo (x.fn :: r.map FrV.fn) xs (e + δ) lk = _
      unfold layGo
      rw [hpush, if_pos rfl]
      exact g1
    · rw [g3]
      show (if topA x.at_ r + δ ≤ (i : Int) ∧ (i : Int) < x.at_ + δ then _ else _) = if topA x.at_ r + δ ≤ (i : Int) ∧ (i : Int) < e + δ then _ else _
      have hst := aStore_get xs s (frRow (m + 2) x.fn lk) (by rw [hrl]; omega) i
      rw [hrl] at hst
      by_cases a1 : topA x.at_ r + δ ≤ (i : Int) ∧ (i : Int) < x.at_ + δ
      · rw [if_pos a1, if_pos (by omega)]
        show _ = lyW l δ (x :: r) ((i : Int) - δ)
        rw [lyW, if_neg (by unfold wkEnd; omega)]
      · rw [if_neg a1, List.getD_eq_getElem?_getD, hst]
        by_cases a2 : topA x.at_ r + δ ≤ (i : Int) ∧ (i : Int) < e + δ
        · rw [if_pos a2, if_neg (by omega), if_pos (by omega)]
          show _ = lyW l δ (x :: r) ((i : Int) - δ)
          have hlkx : (shF δ x).link = lk := by unfold shF; simp only; rw [h2, hlk]
          rw [lyW, if_pos (by unfold wkEnd; omega), hlkx]
          obtain ⟨j, rfl⟩ : ∃ j, i = s + j := ⟨i - s, by omega⟩
          rw [show s + j - s = j by omega]
          match j with
          | 0 => rw [if_pos (by omega)]; rfl
          | 1 => rw [if_neg (by omega), if_pos (by omega)]; rfl
          | j + 2 =>
            rw [if_neg (by omega), if_neg (by omega)]
            unfold frRow
            simp only [List.getElem?_cons_succ]
            rw [List.getElem?_replicate, if_pos (by omega)]
            rfl
        · rw [if_neg a2]
          by_cases a3 : i < s
          · rw [if_pos a3, ← List.getD_eq_getElem?_getD]
          · rw [if_neg a3, if_neg (by omega), ← List.getD_eq_getElem?_getD]
end Go.Proofs.YtlniakcoikhilaaGreatDoor

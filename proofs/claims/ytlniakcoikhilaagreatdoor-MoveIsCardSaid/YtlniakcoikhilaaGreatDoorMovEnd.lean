/- Stacks that are moved (layer 17): the laws' own facts: MoveKeeps, MoveBack, MoveTwice over plain words. -/
import Derived.Test.YtlniakcoikhilaaGreatDoorMovBack
namespace Go.Proofs.YtlniakcoikhilaaGreatDoor
open Go.RowKit
set_option linter.unusedVariables false

theorem mvFits_iff {s x : StV} : mvFits s x = true ↔ (s.lo + s.size ≤ x.lo ∨ x.lo + x.size ≤ s.lo) := by
  unfold mvFits; exact decide_eq_true_iff
theorem MvOk.hd {xs ys : List Nat} {l : Fns} (hl : ∀ x ∈ l, 0 ≤ x.1 ∧ x.1 ≤ 1000) {s : StV} {lo size δ : Int} {L : List FrV} (h : MvOk xs l s lo size δ L) (hy : Mvd xs l s lo size δ L ys) : Hd xs l δ L ys := h.heads hl hy
/-- Words that are the same where the frames stand have them, too. -/
theorem Hd.keep {xs ys zs : List Nat} {l : Fns} (hl : ∀ x ∈ l, 0 ≤ x.1 ∧ x.1 ≤ 1000) {s : StV} {lo size δ : Int} {L : List FrV} (h : MvOk xs l s lo size δ L) (hy : Hd xs l δ L ys) (hz : ∀ i : Nat, s.sp + δ ≤ (i : Int) → (i : Int) < lo + size → zs.getD i 0 = ys.getD i 0) : Hd xs l δ L zs := fun x hx => by
  obtain ⟨k1, k2, k3, k4⟩ := h.chn hl
  obtain ⟨q1, q2, q3, q4, q5, q6, q7⟩ := chn_mem hl L _ _ k1 x hx
  rw [k2] at q1
  have hs := slSize_end k3 hl hx q4 q5
  have hd := h.dist
  obtain ⟨⟨a1, a2⟩, a3⟩ := hy x hx
  refine ⟨⟨?_, ?_⟩, fun i hi => ?_⟩
  · rw [hz _ (by omega) (by omega)]; exact a1
  · rw [hz _ (by omega) (by omega)]; exact a2
  · rw [hz _ (by omega) (by omega)]; exact a3 i hi
/-- The elder stack's words stay. -/
theorem MvOk.elder {xs ys : List Nat} {l : Fns} {s : StV} {lo size δ : Int} {L : List FrV} (h : MvOk xs l s lo size δ L) (hl : ∀ x ∈ l, 0 ≤ x.1 ∧ x.1 ≤ 1000) (hy : Mvd xs l s lo size δ L ys) (i : Nat) (h0 : s.lo ≤ (i : Int)) (h1 : (i : Int) < s.lo + s.size) : ys.getD i 0 = xs.getD i 0 := by
  obtain ⟨k1, k2, k3, k4⟩ := h.chn hl
  have hf := mvFits_iff.1 h.fits
  simp only at hf
  rw [hy.2, if_neg (by omega)]
/-- No link, and no pointer, tells a word of the elder stack. -/
theorem MvOk.far {xs ys : List Nat} {l : Fns} (hl : ∀ x ∈ l, 0 ≤ x.1 ∧ x.1 ≤ 1000) {s : StV} {lo size δ : Int} {L : List FrV} (h : MvOk xs l s lo size δ L) (hy : Mvd xs l s lo size δ L ys) {x : FrV} (hx : x ∈ L) :
    ((shF δ x).link = -1 ∨ (0 ≤ (shF δ x).link ∧ ¬ (s.lo ≤ (shF δ x).link ∧ (shF δ x).link < s.lo + s.size))) ∧
    ∀ i : Nat, (i : Int) < slSize l x → fPtr l x.fn i = true → ys.getD (x.at_ + δ + 2 + i).toNat 0 = 0 ∨ ¬ (s.lo ≤ (ys.getD (x.at_ + δ + 2 + i).toNat 0 : Nat) ∧ ((ys.getD (x.at_ + δ + 2 + i).toNat 0 : Nat) : Int) < s.lo + s.size) := by
  obtain ⟨k1, k2, k3, k4⟩ := h.chn hl
  have hd := h.dist
  have hf := mvFits_iff.1 h.fits
  simp only at hf
  obtain ⟨q1, q2, q3, q4, q5, q6, q7⟩ := chn_mem hl L _ _ k1 x hx
  rw [k2] at q1
  refine ⟨?_, fun i hi hp => ?_⟩
  · show (if x.link = -1 then (-1 : Int) else x.link + δ) = -1 ∨ (0 ≤ (if x.link = -1 then (-1 : Int) else x.link + δ) ∧ ¬ (s.lo ≤ (if x.link = -1 then (-1 : Int) else x.link + δ) ∧ (if x.link = -1 then (-1 : Int) else x.link + δ) < s.lo + s.size))
    by_cases c : x.link = -1
    · rw [if_pos c]; exact Or.inl rfl
    · rw [if_neg c]
      refine Or.inr ?_
      rcases q6 with q6 | q6
      · exact absurd q6 c
      · omega
  · rw [(h.heads hl hy x hx).2 i hi]
    unfold slW
    by_cases c : xs.getD (x.at_ + 2 + (i : Int)).toNat 0 = 0
    · rw [if_neg (fun k => k.2 c)]; exact Or.inl c
    · rw [if_pos ⟨hp, c⟩]
      have := h.ptr hl hx hi hp c
      exact Or.inr (by omega)
/-- There and back. -/
theorem MvOk.back {xs ys zs : List Nat} {l : Fns} (hl : ∀ x ∈ l, 0 ≤ x.1 ∧ x.1 ≤ 1000) {s : StV} {lo size δ : Int} {L : List FrV} (h : MvOk xs l s lo size δ L) (hy : Mvd xs l s lo size δ L ys) (hn : zs.length = xs.length) (hz : ∀ i : Nat, ¬ (s.lo ≤ (i : Int) ∧ (i : Int) < s.lo + s.size) → zs.getD i 0 = ys.getD i 0) :
    ∃ vs, mvTo zs l ⟨lo, size, s.sp + δ⟩ s.lo s.size = (vs, s, 0) ∧ vs.length = xs.length ∧ ∀ i : Nat, s.sp ≤ (i : Int) → (i : Int) < s.lo + s.size → vs.getD i 0 = xs.getD i 0 := by
  obtain ⟨k1, k2, k3, k4⟩ := h.chn hl
  have hd := h.dist
  have hf := mvFits_iff.1 h.fits
  simp only at hf
  have m1 := h.may
  unfold stMay at m1
  obtain ⟨m1, m2⟩ := Bool.and_eq_true_iff.1 m1
  have m2 := of_decide_eq_true m2
  have hH := Hd.keep (zs := zs) hl h (h.hd hl hy) (fun i a b => hz i (by omega))
  have hA := h.again hl hn hH m1 (lo2 := s.lo) (size2 := s.size) (by unfold stMay; simp only; rw [m1, Bool.true_and]; exact decide_eq_true (by omega)) (by omega) (mvFits_iff.2 (by simp only; omega))
  obtain ⟨vs, v1, v2⟩ := hA.does hl
  have e : s.sp + δ + (s.lo + s.size - lo - size) = s.sp := by omega
  simp only at v1
  rw [e] at v1
  refine ⟨vs, v1, by rw [v2.1, hn], fun i a b => ?_⟩
  have h2 := Hd.twice hl h hH (hA.hd hl v2)
  rw [show δ + (s.lo + s.size - lo - size) = 0 by omega] at h2
  exact Hd.same hl h h2 (h.self hl) (by omega) i (by omega) (by omega)
/-- Somewhere, and then elsewhere; or there at once. -/
theorem MvOk.twice {xs ys : List Nat} {l : Fns} (hl : ∀ x ∈ l, 0 ≤ x.1 ∧ x.1 ≤ 1000) {s : StV} {lo size δ at' most δ' : Int} {L L' : List FrV} (h : MvOk xs l s lo size δ L) (hy : Mvd xs l s lo size δ L ys) (h1 : (mvTo ys l ⟨lo, size, s.sp + δ⟩ at' most).2.2 = 0) (h2 : (mvTo xs l s at' most).2.2 = 0) :
    ∃ us vs, mvTo ys l ⟨lo, size, s.sp + δ⟩ at' most = (us, ⟨at', most, s.sp + (at' + most - s.lo - s.size)⟩, 0) ∧ mvTo xs l s at' most = (vs, ⟨at', most, s.sp + (at' + most - s.lo - s.size)⟩, 0) ∧ us.length = xs.length ∧ vs.length = xs.length ∧
      0 ≤ s.sp + (at' + most - s.lo - s.size) ∧ ∀ i : Nat, s.sp + (at' + most - s.lo - s.size) ≤ (i : Int) → (i : Int) < at' + most → us.getD i 0 = vs.getD i 0 := by
  obtain ⟨k1, k2, k3, k4⟩ := h.chn hl
  have hd := h.dist
  have hk := h.keeps hl hy
  have p1 := mvTo_ok (by rw [hy.1]; exact h.small) h1
  have p2 := mvTo_ok h.small h2
  rw [hk.2.1] at p1
  rw [h.walk] at p2
  simp only at p1 p2
  obtain ⟨us, u1, u2⟩ := p1.does hl
  obtain ⟨vs, v1, v2⟩ := p2.does hl
  obtain ⟨j1, j2, j3, j4⟩ := p2.chn hl
  simp only at u1
  have e : s.sp + δ + (at' + most - lo - size) = s.sp + (at' + most - s.lo - s.size) := by omega
  rw [e] at u1
  refine ⟨us, vs, u1, v1, by rw [u2.1, hy.1], v2.1, by omega, fun i a b => ?_⟩
  have w1 := Hd.twice hl h (h.hd hl hy) (p1.hd hl u2)
  rw [show δ + (at' + most - lo - size) = at' + most - s.lo - s.size by omega] at w1
  exact Hd.same hl h w1 (p2.hd hl v2) (by omega) i a (by omega)
end Go.Proofs.YtlniakcoikhilaaGreatDoor

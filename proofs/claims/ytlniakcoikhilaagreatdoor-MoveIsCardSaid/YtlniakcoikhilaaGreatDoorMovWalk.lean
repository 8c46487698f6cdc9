/- Stacks that are moved (layer 17): the walk over what was moved; plain facts. -/
import Derived.Test.YtlniakcoikhilaaGreatDoorMovMath
namespace Go.Proofs.YtlniakcoikhilaaGreatDoor
open Go.RowKit
set_option linter.unusedVariables false

/-- What a walk meets hangs together from the end on. -/
theorem wkGo_chn {xs : List Nat} {l : Fns} (hl : ∀ x ∈ l, 0 ≤ x.1 ∧ x.1 ≤ 1000) {hi a0 : Int} : ∀ (n : Nat) (a : Int) (acc L : List FrV), wkGo xs l hi n a acc = some L → a ≤ hi → Chn l a (if a = hi then -1 else a) acc → topA a acc = a0 → Chn l hi (-1) L ∧ topA hi L = a0
  | 0, a, acc, L, h, ha, hc, ht => by
    unfold wkGo at h
    split at h
    · cases h
    · obtain rfl : acc = L := by injection h
      obtain rfl : a = hi := by omega
      rw [if_pos rfl] at hc
      exact ⟨hc, ht⟩
  | n + 1, a, acc, L, h, ha, hc, ht => by
    unfold wkGo at h
    by_cases hlt : a < hi
    · rw [if_pos hlt] at h
      cases hw : wkOne xs l hi a with
      | none => rw [hw] at h; cases h
      | some xe =>
        obtain ⟨x, e⟩ := xe
        rw [hw] at h
        obtain ⟨g1, g2, g3, g4, g5, g6, g7, g8, g9, g10⟩ := wkOne_good hl hw
        obtain ⟨r1, r2, r3, r4, -⟩ := frRead_good hl g1
        rw [← g2] at r3 r4
        rw [if_neg (by omega)] at hc
        refine wkGo_chn hl n e (x :: acc) L h g5 ⟨by unfold wkEnd; rw [g9, ← g3], ?_, by omega, r3, r4, by rw [g9]; exact hc⟩ (by show topA x.at_ acc = a0; rw [g9]; exact ht)
        by_cases he : e = hi
        · rw [if_pos he]; exact g7 he
        · rw [if_neg he]; exact g6 (by omega)
    · rw [if_neg hlt] at h
      obtain rfl : acc = L := by injection h
      obtain rfl : a = hi := by omega
      rw [if_pos rfl] at hc
      exact ⟨hc, ht⟩
theorem wkFrames_chn {xs : List Nat} {l : Fns} (hl : ∀ x ∈ l, 0 ≤ x.1 ∧ x.1 ≤ 1000) {s : StV} {L : List FrV} (h : wkFrames xs l s = (L, 0)) : stMay s xs.length = true ∧ Chn l (s.lo + s.size) (-1) L ∧ topA (s.lo + s.size) L = s.sp := by
  unfold wkFrames at h
  by_cases hm : stMay s xs.length = false
  · rw [if_pos hm] at h; cases h
  · rw [if_neg hm] at h
    have hm := (Bool.not_eq_false _).mp hm
    refine ⟨hm, ?_⟩
    unfold stMay at hm
    have hm2 := of_decide_eq_true (Bool.and_eq_true_iff.1 hm).2
    split at h
    · cases h
    · rename_i f hf
      obtain rfl : f = L := (Prod.mk.inj h).1
      exact wkGo_chn hl _ _ _ _ hf (by omega) True.intro rfl
/-- Frames that hang together, and stand in the words, are met. -/
theorem wkGo_meet {ys : List Nat} {l : Fns} (hl : ∀ x ∈ l, 0 ≤ x.1 ∧ x.1 ≤ 1000) {hi : Int} : ∀ (M : List FrV) (e k : Int) (acc : List FrV), Chn l e k M → e ≤ hi → (k = if e = hi then -1 else e) → (∀ x ∈ M, frRead ys l x.at_ = (x, 0)) → wkGo ys l hi (hi - topA e M).toNat (topA e M) acc = wkGo ys l hi (hi - e).toNat e (M ++ acc)
  | [], e, k, acc, _, _, _, _ => rfl
  | x :: r, e, k, acc, hc, he, hk, hr => by
    obtain ⟨h1, h2, h3, h4, h5, h6⟩ := hc
    have hw := fWords_cases l hl x.fn
    have h1' : x.at_ + fWords l x.fn = e := h1
    have ih := wkGo_meet (ys := ys) (hi := hi) hl r x.at_ x.at_ acc h6 (by omega) (by rw [if_neg (by omega)]) (fun y hy => hr y (List.mem_cons_of_mem _ hy))
    show wkGo ys l hi (hi - topA x.at_ r).toNat (topA x.at_ r) acc = _
    rw [ih]
    refine wkGo_step hl (by omega) ?_
    unfold wkOne
    rw [hr x List.mem_cons_self, if_neg (by simp)]
    simp only
    rw [h1', if_neg]
    rw [h2, hk]
    by_cases c : e = hi
    · rw [if_pos c]; omega
    · rw [if_neg c]; omega
theorem wkFrames_meet {ys : List Nat} {l : Fns} (hl : ∀ x ∈ l, 0 ≤ x.1 ∧ x.1 ≤ 1000) {s : StV} {L : List FrV} (hm : stMay s ys.length = true) (hc : Chn l (s.lo + s.size) (-1) L) (ht : topA (s.lo + s.size) L = s.sp) (hr : ∀ x ∈ L, frRead ys l x.at_ = (x, 0)) : wkFrames ys l s = (L, 0) := by
  unfold wkFrames
  rw [hm, if_neg (by simp)]
  have k := wkGo_meet hl L _ _ [] hc (Int.le_refl _) (by rw [if_pos rfl]) hr
  rw [ht] at k
  rw [k, wkGo_end (by omega), List.append_nil]
/-- Frames that stand elsewhere hang together there. -/
theorem chn_shift {l : Fns} (hl : ∀ x ∈ l, 0 ≤ x.1 ∧ x.1 ≤ 1000) {δ : Int} : ∀ (M : List FrV) (e k : Int), Chn l e k M → 0 ≤ topA e M + δ → Chn l (e + δ) (if k = -1 then -1 else k + δ) (M.map (shF δ)) ∧ topA (e + δ) (M.map (shF δ)) = topA e M + δ
  | [], _, _, _, _ => ⟨True.intro, rfl⟩
  | x :: r, e, k, hc, h0 => by
    obtain ⟨h1, h2, h3, h4, h5, h6⟩ := hc
    have htop := topA_le hl r _ _ h6
    have h0' : 0 ≤ topA x.at_ r + δ := h0
    have h1' : x.at_ + fWords l x.fn = e := h1
    have ih := chn_shift hl r x.at_ x.at_ h6 h0'
    rw [if_neg (by omega)] at ih
    refine ⟨⟨?_, ?_, ?_, h4, h5, ih.1⟩, ih.2⟩
    · show x.at_ + δ + fWords l x.fn = e + δ; omega
    · show (if x.link = -1 then -1 else x.link + δ) = _; rw [h2]
    · show 0 ≤ x.at_ + δ; omega
/-- A frame's two words, and it is read. -/
theorem frRead_of {ys : List Nat} {l : Fns} {x : FrV} (h0 : 0 ≤ x.at_) (h4 : 0 ≤ x.fn) (h5 : x.fn < l.length) (hk : -1 ≤ x.link ∧ x.link < ys.length) (hw : 2 ≤ fWords l x.fn) (he : x.at_ + fWords l x.fn ≤ ys.length) (k0 : ys.getD x.at_.toNat 0 = (x.link + 1).toNat) (k1 : ys.getD (x.at_.toNat + 1) 0 = (x.fn + 1).toNat) : frRead ys l x.at_ = (x, 0) := by
  obtain ⟨at', fn, link⟩ := x
  simp only at *
  obtain ⟨n, rfl⟩ : ∃ n : Nat, at' = (n : Int) := ⟨at'.toNat, by omega⟩
  rw [Int.toNat_natCast] at k0 k1
  have e1 : ((ys.getD (n + 1) 0 : Nat) : Int) - 1 = fn := by rw [k1]; omega
  have e0 : ((ys.getD n 0 : Nat) : Int) - 1 = link := by rw [k0]; omega
  rw [frRead_yes (by unfold aIn; exact decide_eq_true (by omega)), e1, e0]
  unfold frOk
  rw [e1, k0, k1]
  exact decide_eq_true (by omega)
end Go.Proofs.YtlniakcoikhilaaGreatDoor

/- Stacks that are moved (layer 17): what was moved has the same functions' frames, and slots that have the same; plain facts. -/
import Derived.Test.YtlniakcoikhilaaGreatDoorMovWord
namespace Go.Proofs.YtlniakcoikhilaaGreatDoor
open Go.RowKit
set_option linter.unusedVariables false

theorem chn_mem {l : Fns} (hl : ∀ x ∈ l, 0 ≤ x.1 ∧ x.1 ≤ 1000) : ∀ (M : List FrV) (e k : Int), Chn l e k M → ∀ x ∈ M, topA e M ≤ x.at_ ∧ wkEnd l x ≤ e ∧ 0 ≤ x.at_ ∧ 0 ≤ x.fn ∧ x.fn < l.length ∧ (x.link = k ∨ (x.at_ ≤ x.link ∧ x.link + 2 ≤ e)) ∧ x.at_ + 2 ≤ wkEnd l x
  | y :: r, e, k, hc, x, hx => by
    obtain ⟨h1, h2, h3, h4, h5, h6⟩ := hc
    have hw := fWords_cases l hl y.fn
    have h1' : y.at_ + fWords l y.fn = e := h1
    have ht := topA_le hl r _ _ h6
    show topA y.at_ r ≤ x.at_ ∧ _
    rcases List.mem_cons.1 hx with rfl | hx
    · exact ⟨ht, by rw [h1]; omega, h3, h4, h5, Or.inl h2, by rw [h1]; omega⟩
    · obtain ⟨a, b, c, d, f, g, i⟩ := chn_mem hl r _ _ h6 x hx
      exact ⟨a, by omega, c, d, f, Or.inr (by omega), i⟩
/-- The words of a frame that was moved. -/
theorem chn_words {xs : List Nat} {N : Nat} {δ : Int} {L : List FrV} (hW : Win N δ L) {l : Fns} (hl : ∀ x ∈ l, 0 ≤ x.1 ∧ x.1 ≤ 1000) {z : Nat} : ∀ (M : List FrV) (e k : Int), (∀ x ∈ M, x ∈ L) → Chn l e k M → ∀ x ∈ M,
    (lyW l δ M x.at_ = ((shF δ x).link + 1).toNat ∧ lyW l δ M (x.at_ + 1) = (x.fn + 1).toNat) ∧ (slotsW xs l δ M x.at_ z = z ∧ slotsW xs l δ M (x.at_ + 1) z = z) ∧ ∀ i : Nat, (i : Int) < slSize l x → slotsW xs l δ M (x.at_ + 2 + i) z = slW xs l δ x i
  | y :: r, e, k, hm, hc, x, hx => by
    obtain ⟨h1, h2, h3, h4, h5, h6⟩ := hc
    have hw := fWords_cases l hl y.fn
    have h1' : y.at_ + fWords l y.fn = e := h1
    have hsy := slSize_end hW hl (hm y List.mem_cons_self) h4 h5
    by_cases c : x = y
    · subst c
      refine ⟨⟨?_, ?_⟩, ⟨?_, ?_⟩, fun i hi => ?_⟩
      · rw [lyW, if_pos (by omega), if_pos rfl]
      · rw [lyW, if_pos (by omega), if_neg (by omega), if_pos rfl]
      · rw [slotsW, if_neg (by omega)]
        exact slotsW_out hW hl r _ _ (fun y hy => hm y (List.mem_cons_of_mem _ hy)) h6 (by omega)
      · rw [slotsW, if_neg (by omega)]
        exact slotsW_out hW hl r _ _ (fun y hy => hm y (List.mem_cons_of_mem _ hy)) h6 (by omega)
      · rw [slotsW, if_pos (by omega), show (x.at_ + 2 + (i : Int) - (x.at_ + 2)).toNat = i by omega]
    · have hx2 : x ∈ r := by
        rcases List.mem_cons.1 hx with h | h
        · exact absurd h c
        · exact h
      obtain ⟨⟨a, b⟩, ⟨f, g⟩, hi⟩ := chn_words hW hl r _ _ (fun y hy => hm y (List.mem_cons_of_mem _ hy)) h6 x hx2
      obtain ⟨q1, q2, q3, q4, q5, -, q7⟩ := chn_mem hl r _ _ h6 x hx2
      have hsx := slSize_end hW hl (hm x hx) q4 q5
      refine ⟨⟨?_, ?_⟩, ⟨?_, ?_⟩, fun i hii => ?_⟩
      · rw [lyW, if_neg (by omega)]; exact a
      · rw [lyW, if_neg (by omega)]; exact b
      · rw [slotsW, if_neg (by omega)]; exact f
      · rw [slotsW, if_neg (by omega)]; exact g
      · rw [slotsW, if_neg (by omega)]; exact hi i hii
/-- What is asked for a move. -/
structure MvOk (xs : List Nat) (l : Fns) (s : StV) (lo size δ : Int) (L : List FrV) : Prop where
  small : xs.length ≤ 65536
  may : stMay s xs.length = true
  sz : stkSz size = true
  goal : stMay ⟨lo, size, lo⟩ xs.length = true
  walk : wkFrames xs l s = (L, 0)
  errs : Errs xs l L 0 L
  used : s.lo + s.size - s.sp ≤ size
  fits : mvFits s ⟨lo, size, 0⟩ = true
  dist : δ = lo + size - s.lo - s.size
theorem mvTo_ok {xs : List Nat} {l : Fns} {s : StV} {lo size : Int} (hn : xs.length ≤ 65536) (h : (mvTo xs l s lo size).2.2 = 0) : MvOk xs l s lo size (lo + size - s.lo - s.size) (wkFrames xs l s).1 := by
  unfold mvTo at h
  split at h
  · simp at h
  · rename_i c1
    split at h
    · simp at h
    · rename_i c2
      split at h
      · simp at h
      · rename_i c3
        split at h
        · simp at h
        · rename_i c4
          refine ⟨hn, ?_, ?_, ?_, Prod.ext rfl (by simpa using c2), (slAllAux_ok _ _ _ (by simpa [slAll] using c3)).2, by omega, ?_, rfl⟩
          · cases k : stMay s xs.length with
            | true => rfl
            | false => exact absurd (Or.inl k) c1
          · cases k : stkSz size with
            | true => rfl
            | false => exact absurd (Or.inr (Or.inl k)) c1
          · cases k : stMay ⟨lo, size, lo⟩ xs.length with
            | true => rfl
            | false => exact absurd (Or.inr (Or.inr k)) c1
          · cases k : mvFits s ⟨lo, size, 0⟩ with
            | true => rfl
            | false => exact absurd (Or.inr k) c4
theorem MvOk.chn {xs : List Nat} {l : Fns} (hl : ∀ x ∈ l, 0 ≤ x.1 ∧ x.1 ≤ 1000) {s : StV} {lo size δ : Int} {L : List FrV} (h : MvOk xs l s lo size δ L) :
    Chn l (s.lo + s.size) (-1) L ∧ topA (s.lo + s.size) L = s.sp ∧ Win xs.length δ L ∧ (0 ≤ lo ∧ lo ≤ s.sp + δ ∧ s.sp + δ ≤ lo + size ∧ lo + size ≤ xs.length ∧ 0 ≤ s.lo ∧ s.lo ≤ s.sp ∧ s.sp ≤ s.lo + s.size ∧ s.lo + s.size ≤ xs.length) := by
  obtain ⟨-, k1, k2⟩ := wkFrames_chn hl h.walk
  have m1 := h.may
  have m2 := h.goal
  unfold stMay at m1 m2
  have m1 := of_decide_eq_true (Bool.and_eq_true_iff.1 m1).2
  have m2 := of_decide_eq_true (Bool.and_eq_true_iff.1 m2).2
  simp only at m2
  have hu := h.used
  have hd := h.dist
  have hsm := h.small
  refine ⟨k1, k2, ⟨by omega, fun y hy => ?_⟩, by omega⟩
  obtain ⟨q1, q2, q3, q4, q5, -, q7⟩ := chn_mem hl L _ _ k1 y hy
  rw [k2] at q1
  omega
/-- Words that have the moved frames' own are walked as the elder ones. -/
theorem MvOk.walkH {xs : List Nat} {l : Fns} (hl : ∀ x ∈ l, 0 ≤ x.1 ∧ x.1 ≤ 1000) {s : StV} {lo size δ : Int} {L : List FrV} (h : MvOk xs l s lo size δ L) {ys : List Nat} (hn : ys.length = xs.length)
    (hw : ∀ x ∈ L, ys.getD (x.at_ + δ).toNat 0 = ((shF δ x).link + 1).toNat ∧ ys.getD ((x.at_ + δ).toNat + 1) 0 = (x.fn + 1).toNat) : stMay ⟨lo, size, s.sp + δ⟩ ys.length = true ∧ wkFrames ys l ⟨lo, size, s.sp + δ⟩ = (L.map (shF δ), 0) := by
  obtain ⟨k1, k2, k3, k4⟩ := h.chn hl
  have hd := h.dist
  have e1 : lo + size = s.lo + s.size + δ := by omega
  obtain ⟨c1, c2⟩ := chn_shift hl L _ _ k1 (δ := δ) (by rw [k2]; omega)
  rw [if_pos rfl] at c1
  rw [k2] at c2
  have hm : stMay ⟨lo, size, s.sp + δ⟩ ys.length = true := by
    have m2 := h.goal
    unfold stMay at m2 ⊢
    simp only at m2 ⊢
    obtain ⟨m3, m4⟩ := Bool.and_eq_true_iff.1 m2
    have m4 := of_decide_eq_true m4
    rw [m3, hn, Bool.true_and]
    exact decide_eq_true (by omega)
  refine ⟨hm, wkFrames_meet hl hm (by show Chn l (lo + size) (-1) _; rw [e1]; exact c1) (by show topA (lo + size) _ = s.sp + δ; rw [e1]; exact c2) (fun z hz => ?_)⟩
  obtain ⟨x, hx, rfl⟩ := List.mem_map.1 hz
  obtain ⟨q1, q2, q3, q4, q5, q6, q7⟩ := chn_mem hl L _ _ k1 x hx
  have hq := k3.2 x hx
  have q2' : x.at_ + fWords l x.fn ≤ s.lo + s.size := q2
  have q7' : x.at_ + 2 ≤ x.at_ + fWords l x.fn := q7
  obtain ⟨w0, w1⟩ := hw x hx
  refine frRead_of (x := shF δ x) hq.2.2.1 q4 q5 ?_ (by show 2 ≤ fWords l x.fn; omega) (by show x.at_ + δ + fWords l x.fn ≤ _; omega) w0 w1
  show -1 ≤ (if x.link = -1 then (-1 : Int) else x.link + δ) ∧ (if x.link = -1 then (-1 : Int) else x.link + δ) < ys.length
  rcases q6 with q6 | q6
  · rw [q6, if_pos rfl]; omega
  · rw [if_neg (by omega)]; omega
end Go.Proofs.YtlniakcoikhilaaGreatDoor

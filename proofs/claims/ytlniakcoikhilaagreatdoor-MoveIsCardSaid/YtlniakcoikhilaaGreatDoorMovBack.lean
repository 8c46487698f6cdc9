/- Stacks that are moved (layer 17): there and back, there and elsewhere; what the elder stack's words are; plain facts. -/
import Derived.Test.YtlniakcoikhilaaGreatDoorMovKeep
namespace Go.Proofs.YtlniakcoikhilaaGreatDoor
open Go.RowKit
set_option linter.unusedVariables false

/-- Words that have the frames of others, moved. -/
def Hd (xs : List Nat) (l : Fns) (δ : Int) (L : List FrV) (ys : List Nat) : Prop :=
  ∀ x ∈ L, (ys.getD (x.at_ + δ).toNat 0 = ((shF δ x).link + 1).toNat ∧ ys.getD ((x.at_ + δ).toNat + 1) 0 = (x.fn + 1).toNat) ∧ ∀ i : Nat, (i : Int) < slSize l x → ys.getD (x.at_ + δ + 2 + i).toNat 0 = slW xs l δ x i
theorem chn_cover {l : Fns} {i : Int} : ∀ (M : List FrV) (e k : Int), Chn l e k M → topA e M ≤ i → i < e → ∃ x ∈ M, x.at_ ≤ i ∧ i < wkEnd l x
  | [], e, k, _, h1, h2 => absurd h1 (by show ¬ e ≤ i; omega)
  | x :: r, e, k, hc, h1, h2 => by
    obtain ⟨c1, c2, c3, c4, c5, c6⟩ := hc
    by_cases c : x.at_ ≤ i
    · exact ⟨x, List.mem_cons_self, c, by omega⟩
    · obtain ⟨y, hy, h⟩ := chn_cover r x.at_ x.at_ c6 h1 (by omega)
      exact ⟨y, List.mem_cons_of_mem _ hy, h⟩
/-- Two that have the same frames are the same words there. -/
theorem Hd.same {xs us vs : List Nat} {l : Fns} (hl : ∀ x ∈ l, 0 ≤ x.1 ∧ x.1 ≤ 1000) {s : StV} {lo size δ δ2 : Int} {L : List FrV} (h : MvOk xs l s lo size δ L) (h1 : Hd xs l δ2 L us) (h2 : Hd xs l δ2 L vs) (h0 : 0 ≤ s.sp + δ2) (i : Nat) (hi : s.sp + δ2 ≤ (i : Int)) (hi2 : (i : Int) < s.lo + s.size + δ2) : us.getD i 0 = vs.getD i 0 := by
  obtain ⟨k1, k2, k3, k4⟩ := h.chn hl
  have h0 := h0
  obtain ⟨x, hx, c1, c2⟩ := chn_cover L _ _ k1 (i := (i : Int) - δ2) (by rw [k2]; omega) (by omega)
  obtain ⟨q1, q2, q3, q4, q5, q6, q7⟩ := chn_mem hl L _ _ k1 x hx
  rw [k2] at q1
  have hs := slSize_end k3 hl hx q4 q5
  obtain ⟨⟨a1, a2⟩, a3⟩ := h1 x hx
  obtain ⟨⟨b1, b2⟩, b3⟩ := h2 x hx
  by_cases d0 : (i : Int) = x.at_ + δ2
  · rw [show i = (x.at_ + δ2).toNat by omega, a1, b1]
  · by_cases d1 : (i : Int) = x.at_ + δ2 + 1
    · rw [show i = (x.at_ + δ2).toNat + 1 by omega, a2, b2]
    · obtain ⟨j, hj⟩ : ∃ j : Nat, (i : Int) = x.at_ + δ2 + 2 + j := ⟨((i : Int) - (x.at_ + δ2 + 2)).toNat, by omega⟩
      rw [show i = (x.at_ + δ2 + 2 + (j : Int)).toNat by omega, a3 j (by omega), b3 j (by omega)]
theorem errs_at {xs : List Nat} {l : Fns} {L : List FrV} : ∀ (M : List FrV) (d0 : Nat), Errs xs l L d0 M → ∀ (d : Nat) (x : FrV), M[d]? = some x → slErr xs l L (d0 + d) (slSize l x).toNat = 0
  | y :: r, d0, h, 0, x, hx => by
    obtain rfl : y = x := by simpa using hx
    exact h.1
  | y :: r, d0, h, d + 1, x, hx => by
    have := errs_at r (d0 + 1) h.2 d x (by simpa using hx)
    rw [show d0 + (d + 1) = d0 + 1 + d by omega]
    exact this
/-- A pointer's word that isn't 0 tells a word of a frame's. -/
theorem MvOk.ptr {xs : List Nat} {l : Fns} (hl : ∀ x ∈ l, 0 ≤ x.1 ∧ x.1 ≤ 1000) {s : StV} {lo size δ : Int} {L : List FrV} (h : MvOk xs l s lo size δ L) {x : FrV} (hx : x ∈ L) {i : Nat} (hi : (i : Int) < slSize l x) (hp : fPtr l x.fn i = true) (hw : xs.getD (x.at_ + 2 + (i : Int)).toNat 0 ≠ 0) :
    s.sp + 2 ≤ (xs.getD (x.at_ + 2 + (i : Int)).toNat 0 : Nat) ∧ ((xs.getD (x.at_ + 2 + (i : Int)).toNat 0 : Nat) : Int) < s.lo + s.size := by
  obtain ⟨k1, k2, k3, k4⟩ := h.chn hl
  obtain ⟨d, hd⟩ := List.getElem?_of_mem hx
  have he := errs_at L 0 h.errs d x hd
  rw [Nat.zero_add] at he
  obtain ⟨b0, b1, hc⟩ := slGet_cases hd hi (slErr_all he i (by omega)) rfl
  rcases hc with ⟨c1, -⟩ | ⟨-, c2, -⟩ | ⟨-, -, -, u, k, hf, hu, -⟩
  · rw [hp] at c1; cases c1
  · exact absurd c2 hw
  · obtain ⟨-, f1, f2, f3⟩ := slFind_addr L 0 u k hf
    rw [Nat.sub_zero] at f2 f3
    have hm := List.mem_of_getElem? (some_getD fr0 (show u < L.length by omega))
    obtain ⟨q1, q2, q3, q4, q5, q6, q7⟩ := chn_mem hl L _ _ k1 _ hm
    have hs := slSize_end k3 hl hm q4 q5
    rw [k2] at q1
    omega
theorem slW_twice {xs zs : List Nat} {l : Fns} {δ δ2 : Int} {x : FrV} {i : Nat} (hz : zs.getD (x.at_ + δ + 2 + i).toNat 0 = slW xs l δ x i) (hp : fPtr l x.fn i = true → xs.getD (x.at_ + 2 + (i : Int)).toNat 0 ≠ 0 → 0 < (xs.getD (x.at_ + 2 + (i : Int)).toNat 0 : Nat) + δ) : slW zs l δ2 (shF δ x) i = slW xs l (δ + δ2) x i := by
  unfold slW at hz ⊢
  rw [show (shF δ x).at_ = x.at_ + δ from rfl, show (shF δ x).fn = x.fn from rfl, hz]
  by_cases c : fPtr l x.fn i = true ∧ xs.getD (x.at_ + 2 + (i : Int)).toNat 0 ≠ 0
  · have := hp c.1 c.2
    rw [if_pos c, if_pos c, if_pos ⟨c.1, by omega⟩, show ((((xs.getD (x.at_ + 2 + (i : Int)).toNat 0 : Nat) : Int) + δ).toNat : Int) + δ2 = ((xs.getD (x.at_ + 2 + (i : Int)).toNat 0 : Nat) : Int) + (δ + δ2) by omega]
  · rw [if_neg c, if_neg c, if_neg c]
theorem shF_twice {δ δ2 : Int} {x : FrV} (h : -1 ≤ x.link) (h2 : x.link ≠ -1 → 0 ≤ x.link + δ) : shF δ2 (shF δ x) = shF (δ + δ2) x := by
  unfold shF
  simp only
  by_cases c : x.link = -1
  · rw [if_pos c, if_pos c, if_pos rfl, Int.add_assoc]
  · rw [if_neg c, if_neg c, if_neg (by have := h2 c; omega), Int.add_assoc, Int.add_assoc]
/-- What is moved, and moved again, is moved by both. -/
theorem Hd.twice {xs zs vs : List Nat} {l : Fns} (hl : ∀ x ∈ l, 0 ≤ x.1 ∧ x.1 ≤ 1000) {s : StV} {lo size δ δ2 : Int} {L : List FrV} (h : MvOk xs l s lo size δ L) (h1 : Hd xs l δ L zs) (h2 : Hd zs l δ2 (L.map (shF δ)) vs) : Hd xs l (δ + δ2) L vs := fun x hx => by
  obtain ⟨k1, k2, k3, k4⟩ := h.chn hl
  obtain ⟨q1, q2, q3, q4, q5, q6, q7⟩ := chn_mem hl L _ _ k1 x hx
  have hW := k3.2 x hx
  obtain ⟨⟨a1, a2⟩, a3⟩ := h1 x hx
  obtain ⟨⟨b1, b2⟩, b3⟩ := h2 (shF δ x) (List.mem_map.2 ⟨x, hx, rfl⟩)
  have hlk : -1 ≤ x.link ∧ (x.link ≠ -1 → 0 ≤ x.link + δ) := by
    rcases q6 with q6 | q6 <;> omega
  rw [shF_twice hlk.1 hlk.2, show (shF δ x).at_ + δ2 = x.at_ + (δ + δ2) by show x.at_ + δ + δ2 = _; omega] at b1
  rw [show (shF δ x).at_ + δ2 = x.at_ + (δ + δ2) by show x.at_ + δ + δ2 = _; omega] at b2
  refine ⟨⟨b1, b2⟩, fun i hi => ?_⟩
  have k := b3 i (by rw [slSize_shF k3 l hx]; exact hi)
  rw [show (shF δ x).at_ + δ2 = x.at_ + (δ + δ2) by show x.at_ + δ + δ2 = _; omega] at k
  rw [k]
  refine slW_twice (a3 i hi) (fun p w => ?_)
  have := h.ptr hl hx hi p w
  omega
/-- Words have their own frames. -/
theorem MvOk.self {xs : List Nat} {l : Fns} (hl : ∀ x ∈ l, 0 ≤ x.1 ∧ x.1 ≤ 1000) {s : StV} {lo size δ : Int} {L : List FrV} (h : MvOk xs l s lo size δ L) : Hd xs l 0 L xs := fun x hx => by
  obtain ⟨k1, k2, k3, k4⟩ := h.chn hl
  obtain ⟨q1, q2, q3, q4, q5, q6, q7⟩ := chn_mem hl L _ _ k1 x hx
  have hr : frRead xs l x.at_ = (x, 0) := by
    have hw := h.walk
    unfold wkFrames at hw
    rw [h.may, if_neg (by simp)] at hw
    split at hw
    · cases hw
    · rename_i f hf
      obtain rfl : f = L := (Prod.mk.inj hw).1
      have := (wkGo_top hl _ _ _ _ hf (by omega) True.intro (fun y hy => by cases hy)).2.2.2.2 x hx
      rcases this with h | h
      · cases h
      · exact h.1
  rcases frRead_cases xs l x.at_ with e | ⟨n, e1, e2, e3, e4⟩
  · rw [hr] at e; exact absurd rfl e.1
  · rw [hr] at e4
    have e5 := (Prod.mk.inj e4).1
    have f1 : x.fn = ((xs.getD (n + 1) 0 : Nat) : Int) - 1 := by rw [e5]
    have f2 : x.link = ((xs.getD n 0 : Nat) : Int) - 1 := by rw [e5]
    have hk : (shF 0 x).link = x.link := by
      unfold shF; simp only
      by_cases c : x.link = -1
      · rw [if_pos c, c]
      · rw [if_neg c]; omega
    refine ⟨⟨?_, ?_⟩, fun i hi => ?_⟩
    · rw [hk, f2, e1, show ((n : Int) + 0).toNat = n by omega]; omega
    · rw [f1, e1, show ((n : Int) + 0).toNat = n by omega]; omega
    · unfold slW
      rw [Int.add_zero]
      split
      · omega
      · rfl
/-- A stack that was moved can be moved again. -/
theorem MvOk.again {xs zs : List Nat} {l : Fns} (hl : ∀ x ∈ l, 0 ≤ x.1 ∧ x.1 ≤ 1000) {s : StV} {lo size δ lo2 size2 : Int} {L : List FrV} (h : MvOk xs l s lo size δ L) (hn : zs.length = xs.length) (hz : Hd xs l δ L zs) (g1 : stkSz size2 = true) (g2 : stMay ⟨lo2, size2, lo2⟩ xs.length = true) (g3 : s.lo + s.size - s.sp ≤ size2) (g4 : mvFits ⟨lo, size, s.sp + δ⟩ ⟨lo2, size2, 0⟩ = true) :
    MvOk zs l ⟨lo, size, s.sp + δ⟩ lo2 size2 (lo2 + size2 - lo - size) (L.map (shF δ)) := by
  obtain ⟨k1, k2, k3, k4⟩ := h.chn hl
  have hd := h.dist
  obtain ⟨w1, w2⟩ := h.walkH hl hn (fun x hx => (hz x hx).1)
  obtain ⟨r1, r2⟩ := rows_moved hl k3 (ys := zs) L 0 rfl h.errs (fun x hx i hi => by
    obtain ⟨q1, q2, q3, q4, q5, q6, q7⟩ := chn_mem hl L _ _ k1 x hx
    have hs := slSize_end k3 hl hx q4 q5
    refine ⟨?_, (hz x hx).2 i hi⟩
    omega)
  exact ⟨by rw [hn]; exact h.small, w1, g1, by rw [hn]; exact g2, w2, r2, by show lo + size - (s.sp + δ) ≤ size2; omega, g4, rfl⟩
end Go.Proofs.YtlniakcoikhilaaGreatDoor

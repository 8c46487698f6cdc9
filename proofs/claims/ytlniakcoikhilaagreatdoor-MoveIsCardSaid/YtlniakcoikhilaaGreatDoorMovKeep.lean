/- Stacks that are moved (layer 17): all of it: the words behind a move, its walk, its slots; plain facts. -/
import Derived.Test.YtlniakcoikhilaaGreatDoorMovDoes
import Derived.Test.YtlniakcoikhilaaGreatDoorMovRef
namespace Go.Proofs.YtlniakcoikhilaaGreatDoor
open Go.RowKit
set_option linter.unusedVariables false

/-- The words behind a move, one by one. -/
def Mvd (xs : List Nat) (l : Fns) (s : StV) (lo size δ : Int) (L : List FrV) (ys : List Nat) : Prop :=
  ys.length = xs.length ∧ ∀ i : Nat, ys.getD i 0 = if s.sp + δ ≤ (i : Int) ∧ (i : Int) < lo + size then slotsW xs l δ L ((i : Int) - δ) (lyW l δ L ((i : Int) - δ)) else xs.getD i 0
theorem MvOk.heads {xs : List Nat} {l : Fns} (hl : ∀ x ∈ l, 0 ≤ x.1 ∧ x.1 ≤ 1000) {s : StV} {lo size δ : Int} {L : List FrV} (h : MvOk xs l s lo size δ L) {ys : List Nat} (hy : Mvd xs l s lo size δ L ys) :
    ∀ x ∈ L, (ys.getD (x.at_ + δ).toNat 0 = ((shF δ x).link + 1).toNat ∧ ys.getD ((x.at_ + δ).toNat + 1) 0 = (x.fn + 1).toNat) ∧ ∀ i : Nat, (i : Int) < slSize l x → ys.getD (x.at_ + δ + 2 + i).toNat 0 = slW xs l δ x i := fun x hx => by
  obtain ⟨k1, k2, k3, k4⟩ := h.chn hl
  obtain ⟨q1, q2, q3, q4, q5, q6, q7⟩ := chn_mem hl L _ _ k1 x hx
  have hq := k3.2 x hx
  have hd := h.dist
  have hs := slSize_end k3 hl hx q4 q5
  refine ⟨⟨?_, ?_⟩, fun i hi => ?_⟩
  · obtain ⟨⟨a, b⟩, ⟨c, d⟩, e⟩ := chn_words (xs := xs) (z := lyW l δ L x.at_) k3 hl L _ _ (fun y hy => hy) k1 x hx
    rw [hy.2, if_pos (by omega), show (((x.at_ + δ).toNat : Nat) : Int) - δ = x.at_ by omega, c, a]
  · obtain ⟨⟨a, b⟩, ⟨c, d⟩, e⟩ := chn_words (xs := xs) (z := lyW l δ L (x.at_ + 1)) k3 hl L _ _ (fun y hy => hy) k1 x hx
    rw [hy.2, if_pos (by omega), show ((((x.at_ + δ).toNat + 1 : Nat) : Nat) : Int) - δ = x.at_ + 1 by omega, d, b]
  · obtain ⟨⟨a, b⟩, ⟨c, d⟩, e⟩ := chn_words (xs := xs) (z := lyW l δ L (x.at_ + 2 + i)) k3 hl L _ _ (fun y hy => hy) k1 x hx
    rw [hy.2, if_pos (by omega), show (((x.at_ + δ + 2 + (i : Int)).toNat : Nat) : Int) - δ = x.at_ + 2 + i by omega, e i hi]
/-- A move that may be. -/
theorem MvOk.does {xs : List Nat} {l : Fns} (hl : ∀ x ∈ l, 0 ≤ x.1 ∧ x.1 ≤ 1000) {s : StV} {lo size δ : Int} {L : List FrV} (h : MvOk xs l s lo size δ L) :
    ∃ ys, mvTo xs l s lo size = (ys, ⟨lo, size, s.sp + δ⟩, 0) ∧ Mvd xs l s lo size δ L ys := by
  obtain ⟨k1, k2, k3, k4⟩ := h.chn hl
  have hd := h.dist
  have e1 : s.lo + s.size + δ = lo + size := by omega
  obtain ⟨ys, g1, g2, g3⟩ := layGo_shift hl (lo := lo) (δ := δ) (N := xs.length) (by omega) L xs (s.lo + s.size) (-1) rfl k1 (by omega) (by rw [k2]; omega) (Or.inl rfl)
  rw [if_pos rfl, e1, k2] at g1
  rw [e1, k2] at g3
  have hA : slAll xs l L = (rowsOf xs l L 0 L, 0) := by
    unfold slAll
    rw [slAllAux_of L 0 [] h.errs, List.nil_append]
  have hw0 := h.walkH hl g2 (fun x hx => by
    obtain ⟨q1, q2, q3, q4, q5, q6, q7⟩ := chn_mem hl L _ _ k1 x hx
    have hq := k3.2 x hx
    rw [k2] at q1
    obtain ⟨⟨a, b⟩, -, -⟩ := chn_words (xs := xs) (z := 0) k3 hl L _ _ (fun y hy => hy) k1 x hx
    refine ⟨?_, ?_⟩
    · rw [g3, if_pos (by omega), show (((x.at_ + δ).toNat : Nat) : Int) - δ = x.at_ by omega, a]
    · rw [g3, if_pos (by omega), show ((((x.at_ + δ).toNat + 1 : Nat) : Nat) : Int) - δ = x.at_ + 1 by omega, b])
  refine ⟨mvRows l (L.map (shF δ)) 0 (rowsOf xs l L 0 L) ys, ?_, ?_, fun i => ?_⟩
  · unfold mvTo
    rw [h.may, h.sz, h.goal, h.walk, if_neg (by simp), if_neg (by simp)]
    simp only
    rw [hA, if_neg (by simp), h.fits, if_neg (by have := h.used; simp; omega), g1, if_neg (by simp)]
    simp only
    rw [hw0.2]
  · have : ∀ (R : List (List VlV)) (d : Nat) (zs : List Nat), (mvRows l (L.map (shF δ)) d R zs).length = zs.length := by
      intro R
      induction R with
      | nil => intro d zs; rfl
      | cons r q ih => intro d zs; rw [mvRows, ih, mvRow_length]
    rw [this, g2]
  · rw [mvRows_moved hl k3 L 0 (s.lo + s.size) (-1) ys rfl k1 (by omega) h.errs g2 i, g3]
    by_cases c : s.sp + δ ≤ (i : Int) ∧ (i : Int) < lo + size
    · rw [if_pos c, if_pos c]
    · rw [if_neg c, if_neg c]
      by_cases c2 : (i : Int) < s.sp + δ
      · have hlow : ∀ (M : List FrV) (z : Nat), (∀ x ∈ M, (i : Int) - δ < x.at_) → slotsW xs l δ M ((i : Int) - δ) z = z := by
          intro M
          induction M with
          | nil => intro z _; rfl
          | cons y r ih =>
            intro z hz
            have := hz y List.mem_cons_self
            rw [slotsW, if_neg (by omega)]
            exact ih z (fun x hx => hz x (List.mem_cons_of_mem _ hx))
        exact hlow L _ (fun x hx => by
          have := chn_mem hl L _ _ k1 x hx
          rw [k2] at this
          omega)
      · exact slotsW_out k3 hl L _ _ (fun y hy => hy) k1 (by omega)
theorem slFind_shF {N : Nat} {δ : Int} {L : List FrV} (hW : Win N δ L) (l : Fns) (a : Int) : ∀ (M : List FrV) (d : Nat), (∀ x ∈ M, x ∈ L) → slFind l d (M.map (shF δ)) (a + δ) = slFind l d M a
  | [], d, _ => rfl
  | x :: r, d, hm => by
    have hs := slSize_shF hW l (hm x List.mem_cons_self)
    have ih := slFind_shF hW l a r (d + 1) (fun y hy => hm y (List.mem_cons_of_mem _ hy))
    show (if (shF δ x).at_ + 2 ≤ a + δ ∧ a + δ < (shF δ x).at_ + 2 + slSize l (shF δ x) then some (d, (a + δ - ((shF δ x).at_ + 2)).toNat) else slFind l (d + 1) (r.map (shF δ)) (a + δ)) = if x.at_ + 2 ≤ a ∧ a < x.at_ + 2 + slSize l x then some (d, (a - (x.at_ + 2)).toNat) else slFind l (d + 1) r a
    rw [hs, ih]
    show (if x.at_ + δ + 2 ≤ a + δ ∧ a + δ < x.at_ + δ + 2 + slSize l x then some (d, (a + δ - (x.at_ + δ + 2)).toNat) else _) = _
    by_cases c : x.at_ + 2 ≤ a ∧ a < x.at_ + 2 + slSize l x
    · rw [if_pos c, if_pos (by omega), show a + δ - (x.at_ + δ + 2) = a - (x.at_ + 2) by omega]
    · rw [if_neg c, if_neg (by omega)]
/-- A slot that was moved has the same. -/
theorem slGet_moved {N : Nat} {δ : Int} {l : Fns} (hl : ∀ x ∈ l, 0 ≤ x.1 ∧ x.1 ≤ 1000) {L : List FrV} (hW : Win N δ L) {xs ys : List Nat} {d i : Nat} {x : FrV} (h : L[d]? = some x) (hi : (i : Int) < slSize l x) (hg : (slGet xs l L d i).2 = 0) (hb : x.at_ + δ + 2 + i < ys.length) (hy : ys.getD (x.at_ + δ + 2 + i).toNat 0 = slW xs l δ x i) :
    slGet ys l (L.map (shF δ)) d i = slGet xs l L d i := by
  have hx := hW.2 x (List.mem_of_getElem? h)
  have a2 := slAddr_shF hW h hi
  have hL2 : (L.map (shF δ)).getD d fr0 = shF δ x := getD_some (by rw [List.getElem?_map, h]; rfl)
  have hfn : (shF δ x).fn = x.fn := rfl
  obtain ⟨w, hw⟩ : ∃ w, xs.getD (x.at_ + 2 + (i : Int)).toNat 0 = w := ⟨_, rfl⟩
  obtain ⟨b0, b1, hc⟩ := slGet_cases h hi hg hw
  unfold slW at hy
  rw [hw] at hy
  have hN := hW.1
  rcases hc with ⟨c1, hv⟩ | ⟨c1, c2, hv⟩ | ⟨c1, c2, c3, u, k, hf, hu, hv⟩
  · rw [hv]
    rw [c1, if_neg (by simp)] at hy
    unfold slGet
    rw [a2, Int.toNat_natCast, hL2, hfn, if_neg (by omega), if_pos c1, hy]
  · rw [hv]
    rw [c2, if_neg (by simp)] at hy
    unfold slGet
    rw [a2, Int.toNat_natCast, hL2, hfn, if_neg (by omega), c1, if_neg (by simp), if_pos hy]
  · obtain ⟨-, f1, f2, f3⟩ := slFind_addr L 0 u k hf
    rw [Nat.sub_zero] at f2 f3
    have hu2 := some_getD fr0 (show u < L.length by omega)
    have hy2 := hW.2 _ (List.mem_of_getElem? hu2)
    have hsz := slSize_range l hl (L.getD u fr0)
    rw [if_pos ⟨c1, c2⟩] at hy
    have hy3 : ys.getD (x.at_ + δ + 2 + (i : Int)).toNat 0 = ((w : Int) + δ).toNat := hy
    have hff : slFind l 0 (L.map (shF δ)) ((((w : Int) + δ).toNat : Nat) : Int) = some (u, k) := by
      rw [show ((((w : Int) + δ).toNat : Nat) : Int) = (w : Int) + δ by omega, slFind_shF hW l w L 0 (fun y hy => hy)]
      exact hf
    rw [hv]
    unfold slGet
    rw [a2, Int.toNat_natCast, hL2, hfn, if_neg (by omega), c1, if_neg (by simp), hy3, if_neg (by omega), if_neg (by omega), hff]
    simp only
    rw [if_neg (by omega)]
theorem rows_moved {N : Nat} {δ : Int} {l : Fns} (hl : ∀ x ∈ l, 0 ≤ x.1 ∧ x.1 ≤ 1000) {L : List FrV} (hW : Win N δ L) {xs ys : List Nat} : ∀ (M : List FrV) (d : Nat), L.drop d = M → Errs xs l L d M →
    (∀ x ∈ M, ∀ i : Nat, (i : Int) < slSize l x → x.at_ + δ + 2 + i < ys.length ∧ ys.getD (x.at_ + δ + 2 + i).toNat 0 = slW xs l δ x i) →
    rowsOf ys l (L.map (shF δ)) d (M.map (shF δ)) = rowsOf xs l L d M ∧ Errs ys l (L.map (shF δ)) d (M.map (shF δ))
  | [], d, _, _, _ => ⟨rfl, True.intro⟩
  | x :: r, d, hd, hg, hy => by
    obtain ⟨g1, g2⟩ := hg
    have hx : L[d]? = some x := by
      have := congrArg (fun q => q[0]?) hd
      simpa using this
    have hr : L.drop (d + 1) = r := by
      have := congrArg List.tail hd
      simpa using this
    have hs := slSize_shF hW l (List.mem_of_getElem? hx)
    obtain ⟨ih1, ih2⟩ := rows_moved hl hW r (d + 1) hr g2 (fun y hm => hy y (List.mem_cons_of_mem _ hm))
    have he : ∀ i : Nat, i < (slSize l x).toNat → slGet ys l (L.map (shF δ)) d i = slGet xs l L d i := fun i hi => by
      obtain ⟨b1, b2⟩ := hy x List.mem_cons_self i (by omega)
      exact slGet_moved hl hW hx (by omega) (slErr_all g1 i hi) b1 b2
    refine ⟨?_, ?_, ih2⟩
    · rw [List.map_cons, rowsOf, rowsOf, ih1, hs]
      congr 1
      unfold slRow
      exact List.map_congr_left fun i hi => by rw [he i (List.mem_range.1 hi)]
    · rw [hs]
      rw [← g1]
      unfold slErr
      rw [List.map_congr_left (fun i hi => by rw [he i (List.mem_range.1 hi)])]
/-- What a move keeps. -/
theorem MvOk.keeps {xs : List Nat} {l : Fns} (hl : ∀ x ∈ l, 0 ≤ x.1 ∧ x.1 ≤ 1000) {s : StV} {lo size δ : Int} {L : List FrV} (h : MvOk xs l s lo size δ L) {ys : List Nat} (hy : Mvd xs l s lo size δ L ys) :
    stMay ⟨lo, size, s.sp + δ⟩ ys.length = true ∧ wkFrames ys l ⟨lo, size, s.sp + δ⟩ = (L.map (shF δ), 0) ∧ Errs ys l (L.map (shF δ)) 0 (L.map (shF δ)) ∧ slAll xs l L = (rowsOf xs l L 0 L, 0) ∧ slAll ys l (L.map (shF δ)) = (rowsOf xs l L 0 L, 0) := by
  obtain ⟨k1, k2, k3, k4⟩ := h.chn hl
  have hd := h.dist
  have hh := h.heads hl hy
  obtain ⟨w1, w2⟩ := h.walkH hl hy.1 (fun x hx => (hh x hx).1)
  obtain ⟨r1, r2⟩ := rows_moved hl k3 (ys := ys) L 0 rfl h.errs (fun x hx i hi => by
    obtain ⟨q1, q2, q3, q4, q5, q6, q7⟩ := chn_mem hl L _ _ k1 x hx
    have hs := slSize_end k3 hl hx q4 q5
    refine ⟨?_, (hh x hx).2 i hi⟩
    have := hy.1
    omega)
  refine ⟨w1, w2, r2, ?_, ?_⟩
  · unfold slAll
    rw [slAllAux_of L 0 [] h.errs, List.nil_append]
  · unfold slAll
    rw [slAllAux_of _ 0 [] r2, List.nil_append, r1]
end Go.Proofs.YtlniakcoikhilaaGreatDoor

/- Stacks that are moved (layer 17): words that are copied, and raised one by one, are those that a move leaves; plain facts. -/
import Derived.Test.YtlniakcoikhilaaGreatDoorMovEnd
namespace Go.Proofs.YtlniakcoikhilaaGreatDoor
open Go.RowKit
set_option linter.unusedVariables false

/-- The copy of a word, raised. -/
def mvRz (δ : Int) (zs : List Nat) (a : Int) : List Nat := if zs.getD a.toNat 0 = 0 then zs else zs.set (a + δ).toNat (((zs.getD a.toNat 0 : Nat) : Int) + δ).toNat
/-- The addresses of a frame's words that are raised. -/
def mvAds (l : Fns) (x : FrV) : List Int := x.at_ :: (fPtrs l x.fn).map fun i => x.at_ + 2 + i
/-- The copies of frames, raised. -/
def mvAdj (δ : Int) (l : Fns) (L : List FrV) (zs : List Nat) : List Nat := (L.flatMap (mvAds l)).foldl (mvRz δ) zs
/-- What is used, copied. -/
def mvCopy (xs : List Nat) (s : StV) (δ : Int) : List Nat := aStore xs (s.sp + δ).toNat (aRow xs s.sp.toNat (s.lo + s.size - s.sp).toNat)
theorem mvRz_length (δ : Int) (zs : List Nat) (a : Int) : (mvRz δ zs a).length = zs.length := by unfold mvRz; split <;> simp
theorem mvRz_fold_length (δ : Int) : ∀ (S : List Int) (zs : List Nat), (S.foldl (mvRz δ) zs).length = zs.length
  | [], zs => rfl
  | a :: r, zs => by rw [List.foldl_cons, mvRz_fold_length δ r, mvRz_length]
theorem getD_setZ (zs : List Nat) (k v i : Nat) : (zs.set k v).getD i 0 = if k = i ∧ i < zs.length then v else zs.getD i 0 := by
  rw [List.getD_eq_getElem?_getD, List.getD_eq_getElem?_getD, List.getElem?_set]
  by_cases h : k = i
  · subst h
    by_cases h2 : k < zs.length
    · rw [if_pos rfl, if_pos h2, if_pos ⟨rfl, h2⟩]; rfl
    · rw [if_pos rfl, if_neg h2, if_neg (fun q => h2 q.2), List.getElem?_eq_none (by omega)]
  · rw [if_neg h, if_neg (fun q => h q.1)]
/-- Words raised one by one: the elder ones stay, so the order plays no part. -/
theorem mvRz_fold {δ : Int} {us : List Nat} {p q : Int} (h0 : 0 ≤ p) (h1 : 0 ≤ p + δ) (hd : q ≤ p + δ ∨ q + δ ≤ p) : ∀ (S : List Int) (zs : List Nat), (∀ a ∈ S, p ≤ a ∧ a < q) → q + δ ≤ zs.length → (∀ i : Nat, p ≤ (i : Int) → (i : Int) < q → zs.getD i 0 = us.getD i 0) →
    ∀ i : Nat, (S.foldl (mvRz δ) zs).getD i 0 = if (i : Int) - δ ∈ S ∧ us.getD ((i : Int) - δ).toNat 0 ≠ 0 then (((us.getD ((i : Int) - δ).toNat 0 : Nat) : Int) + δ).toNat else zs.getD i 0
  | [], zs, _, _, _, i => by rw [if_neg (fun h => by cases h.1)]; rfl
  | a :: r, zs, hS, hl, hz, i => by
    obtain ⟨ha1, ha2⟩ := hS a List.mem_cons_self
    have hza := hz a.toNat (by omega) (by omega)
    have hk : ∀ j : Nat, p ≤ (j : Int) → (j : Int) < q → (mvRz δ zs a).getD j 0 = us.getD j 0 := fun j hj1 hj2 => by
      unfold mvRz
      split
      · exact hz j hj1 hj2
      · rw [getD_setZ, if_neg (by omega)]; exact hz j hj1 hj2
    have ih := mvRz_fold h0 h1 hd r (mvRz δ zs a) (fun b hb => hS b (List.mem_cons_of_mem _ hb)) (by rw [mvRz_length]; exact hl) hk i
    rw [List.foldl_cons, ih]
    by_cases c : (i : Int) - δ ∈ r ∧ us.getD ((i : Int) - δ).toNat 0 ≠ 0
    · rw [if_pos c, if_pos ⟨List.mem_cons_of_mem _ c.1, c.2⟩]
    · rw [if_neg c]
      by_cases c2 : (i : Int) - δ = a
      · by_cases c3 : us.getD a.toNat 0 = 0
        · rw [if_neg (by rw [c2]; exact fun k => k.2 c3)]
          unfold mvRz
          rw [hza, if_pos c3]
        · rw [if_pos ⟨by rw [c2]; exact List.mem_cons_self, by rw [c2]; exact c3⟩, c2]
          unfold mvRz
          rw [hza, if_neg c3, getD_setZ, if_pos ⟨by omega, by omega⟩]
      · rw [if_neg]
        · unfold mvRz
          split
          · rfl
          · rw [getD_setZ, if_neg (by omega)]
        · rintro ⟨k1, k2⟩
          rcases List.mem_cons.1 k1 with k | k
          · exact c2 k
          · exact c ⟨k, k2⟩
theorem mem_fPtrs {l : Fns} {f i : Int} : i ∈ fPtrs l f ↔ (fPtr l f i = true ∧ 0 ≤ i ∧ i < fSize l f) := by
  unfold fPtrs fPtr fSize
  split
  · constructor
    · intro h; cases h
    · rintro ⟨h, -⟩; cases h
  · generalize l.getD f.toNat (0, []) = y
    unfold bBits
    rw [List.mem_map]
    constructor
    · rintro ⟨k, hk, rfl⟩
      obtain ⟨h1, h2⟩ := List.mem_filter.1 hk
      have h1 := List.mem_range.1 h1
      exact ⟨h2, by omega, by omega⟩
    · rintro ⟨h1, h2, h3⟩
      obtain ⟨h4, h5⟩ := bHas_lt _ _ h1
      exact ⟨i.toNat, List.mem_filter.2 ⟨List.mem_range.2 (by omega), by rw [show ((i.toNat : Nat) : Int) = i by omega]; exact h1⟩, by omega⟩
/-- An address is of one frame. -/
theorem chn_one {l : Fns} (hl : ∀ x ∈ l, 0 ≤ x.1 ∧ x.1 ≤ 1000) : ∀ (M : List FrV) (e k : Int), Chn l e k M → ∀ y x : FrV, y ∈ M → x ∈ M → ∀ a : Int, y.at_ ≤ a → a < wkEnd l y → x.at_ ≤ a → a < wkEnd l x → y = x
  | z :: r, e, k, hc, y, x, hy, hx, a, a1, a2, a3, a4 => by
    obtain ⟨h1, h2, h3, h4, h5, h6⟩ := hc
    rcases List.mem_cons.1 hy with h | h
    · rcases List.mem_cons.1 hx with g | g
      · rw [h, g]
      · have := (chn_mem hl r _ _ h6 x g).2.1
        rw [h] at a1
        omega
    · rcases List.mem_cons.1 hx with g | g
      · have := (chn_mem hl r _ _ h6 y h).2.1
        rw [g] at a3
        omega
      · exact chn_one hl r _ _ h6 y x h g a a1 a2 a3 a4
theorem slSize_fn {N : Nat} {δ : Int} {L : List FrV} (h : Win N δ L) {l : Fns} (hl : ∀ x ∈ l, 0 ≤ x.1 ∧ x.1 ≤ 1000) {x : FrV} (hx : x ∈ L) (h4 : 0 ≤ x.fn) (h5 : x.fn < l.length) : fSize l x.fn = slSize l x := by
  have k := h.2 x hx
  have := h.1
  have hw := fWords_cases l hl x.fn
  unfold fWords at hw
  unfold slSize
  split at hw
  · omega
  · rename_i c
    rw [if_neg (by omega)]
/-- A frame's words: what stands there, raised where it hangs on the place. -/
theorem MvOk.adj {xs : List Nat} {l : Fns} (hl : ∀ x ∈ l, 0 ≤ x.1 ∧ x.1 ≤ 1000) {s : StV} {lo size δ : Int} {L : List FrV} (h : MvOk xs l s lo size δ L) : Mvd xs l s lo size δ L (mvAdj δ l L (mvCopy xs s δ)) := by
  obtain ⟨k1, k2, k3, k4⟩ := h.chn hl
  have hd := h.dist
  have hf := mvFits_iff.1 h.fits
  simp only at hf
  have hrl : (aRow xs s.sp.toNat (s.lo + s.size - s.sp).toNat).length = (s.lo + s.size - s.sp).toNat := aRow_length _ _ _ (by omega)
  have hcl : (mvCopy xs s δ).length = xs.length := by unfold mvCopy; rw [aStore_length _ _ _ (by rw [hrl]; omega)]
  have hcg : ∀ i : Nat, (mvCopy xs s δ).getD i 0 = if s.sp + δ ≤ (i : Int) ∧ (i : Int) < lo + size then xs.getD ((i : Int) - δ).toNat 0 else xs.getD i 0 := fun i => by
    rw [List.getD_eq_getElem?_getD]
    unfold mvCopy
    rw [aStore_get _ _ _ (by rw [hrl]; omega), hrl]
    by_cases c1 : i < (s.sp + δ).toNat
    · rw [if_pos c1, if_neg (by omega), List.getD_eq_getElem?_getD]
    · rw [if_neg c1]
      by_cases c2 : i < (s.sp + δ).toNat + (s.lo + s.size - s.sp).toNat
      · rw [if_pos c2, if_pos (by omega)]
        unfold aRow
        rw [List.getElem?_take_of_lt (by omega), List.getElem?_drop, List.getD_eq_getElem?_getD, show s.sp.toNat + (i - (s.sp + δ).toNat) = ((i : Int) - δ).toNat by omega]
      · rw [if_neg c2, if_neg (by omega), List.getD_eq_getElem?_getD]
  have hS : ∀ a ∈ L.flatMap (mvAds l), s.sp ≤ a ∧ a < s.lo + s.size := fun a ha => by
    obtain ⟨x, hx, hax⟩ := List.mem_flatMap.1 ha
    obtain ⟨q1, q2, q3, q4, q5, q6, q7⟩ := chn_mem hl L _ _ k1 x hx
    rw [k2] at q1
    have hs := slSize_end k3 hl hx q4 q5
    rcases List.mem_cons.1 hax with rfl | hax
    · omega
    · obtain ⟨i, hi, rfl⟩ := List.mem_map.1 hax
      obtain ⟨-, i1, i2⟩ := mem_fPtrs.1 hi
      have := slSize_fn k3 hl hx q4 q5
      omega
  have hfold := mvRz_fold (us := xs) (p := s.sp) (q := s.lo + s.size) (δ := δ) (by omega) (by omega) (by omega) (L.flatMap (mvAds l)) (mvCopy xs s δ) hS (by rw [hcl]; omega) (fun i h1 h2 => by rw [hcg, if_neg (by omega)])
  refine ⟨by unfold mvAdj; rw [mvRz_fold_length, hcl], fun i => ?_⟩
  unfold mvAdj
  rw [hfold i, hcg i]
  by_cases c : s.sp + δ ≤ (i : Int) ∧ (i : Int) < lo + size
  · rw [if_pos c, if_pos c]
    obtain ⟨x, hx, d1, d2⟩ := chn_cover L _ _ k1 (i := (i : Int) - δ) (by rw [k2]; omega) (by omega)
    obtain ⟨q1, q2, q3, q4, q5, q6, q7⟩ := chn_mem hl L _ _ k1 x hx
    rw [k2] at q1
    have hs := slSize_end k3 hl hx q4 q5
    have hW := k3.2 x hx
    have hN := k3.1
    have hfz := slSize_fn k3 hl hx q4 q5
    obtain ⟨⟨w0, w1⟩, w2⟩ := h.self hl x hx
    -- an address of this frame is raised just if it is its link's, or a pointer slot's
    have hmem : ∀ a, x.at_ ≤ a → a < wkEnd l x → (a ∈ L.flatMap (mvAds l) ↔ a ∈ mvAds l x) := fun a a1 a2 => by
      constructor
      · intro ha
        obtain ⟨y, hy, hay⟩ := List.mem_flatMap.1 ha
        obtain ⟨r1, r2, r3, r4, r5, r6, r7⟩ := chn_mem hl L _ _ k1 y hy
        have hsy := slSize_end k3 hl hy r4 r5
        have hWy := k3.2 y hy
        have hfy := slSize_fn k3 hl hy r4 r5
        have hb : y.at_ ≤ a ∧ a < wkEnd l y := by
          rcases List.mem_cons.1 hay with rfl | hay
          · omega
          · obtain ⟨i, hi, rfl⟩ := List.mem_map.1 hay
            obtain ⟨-, i1, i2⟩ := mem_fPtrs.1 hi
            omega
        have : y = x := chn_one hl L _ _ k1 y x hy hx a hb.1 hb.2 a1 a2
        rw [← this]; exact hay
      · exact fun ha => List.mem_flatMap.2 ⟨x, hx, ha⟩
    have hm := hmem ((i : Int) - δ) d1 d2
    obtain ⟨⟨e0, e1⟩, ⟨f0, f1⟩, f2⟩ := chn_words (xs := xs) (z := lyW l δ L ((i : Int) - δ)) k3 hl L _ _ (fun y hy => hy) k1 x hx
    by_cases g0 : (i : Int) - δ = x.at_
    · rw [g0] at f0 ⊢
      rw [f0, e0]
      have hin : x.at_ ∈ L.flatMap (mvAds l) := (hmem x.at_ (by omega) (by omega)).2 List.mem_cons_self
      have hk : xs.getD x.at_.toNat 0 = (x.link + 1).toNat := by
        rw [Int.add_zero] at w0
        rw [w0]
        have : (shF 0 x).link = x.link := by
          unfold shF; simp only
          by_cases c : x.link = -1
          · rw [if_pos c, c]
          · rw [if_neg c]; omega
        rw [this]
      rw [hk]
      show _ = ((if x.link = -1 then (-1 : Int) else x.link + δ) + 1).toNat
      rcases q6 with q6 | q6
      · rw [q6, if_neg (fun k => k.2 rfl), if_pos rfl]
      · rw [if_pos ⟨hin, by omega⟩, if_neg (by omega)]
        omega
    · by_cases g1 : (i : Int) - δ = x.at_ + 1
      · rw [g1] at f1 ⊢
        rw [f1, e1, if_neg, show (x.at_ + 1).toNat = (x.at_ + 0).toNat + 1 by omega, w1]
        rintro ⟨k, -⟩
        rcases List.mem_cons.1 ((hmem (x.at_ + 1) (by omega) (by omega)).1 k) with k | k
        · omega
        · obtain ⟨j, hj, hj2⟩ := List.mem_map.1 k
          obtain ⟨-, i1, i2⟩ := mem_fPtrs.1 hj
          omega
      · obtain ⟨j, hj⟩ : ∃ j : Nat, (i : Int) - δ = x.at_ + 2 + j := ⟨((i : Int) - δ - (x.at_ + 2)).toNat, by omega⟩
        rw [hj] at hm ⊢
        have f2 := f2 j (by omega)
        rw [hj] at f2
        rw [f2]
        unfold slW
        have hp : (x.at_ + 2 + (j : Int) ∈ L.flatMap (mvAds l)) ↔ fPtr l x.fn j = true := by
          rw [hm]
          constructor
          · intro k
            rcases List.mem_cons.1 k with k | k
            · omega
            · obtain ⟨u, hu, hu2⟩ := List.mem_map.1 k
              obtain ⟨u1, -, -⟩ := mem_fPtrs.1 hu
              rw [show (j : Int) = u by omega]; exact u1
          · intro k
            exact List.mem_cons_of_mem _ (List.mem_map.2 ⟨j, mem_fPtrs.2 ⟨k, by omega, by omega⟩, rfl⟩)
        by_cases c5 : fPtr l x.fn j = true ∧ xs.getD (x.at_ + 2 + (j : Int)).toNat 0 ≠ 0
        · rw [if_pos c5, if_pos ⟨hp.2 c5.1, c5.2⟩]
        · rw [if_neg c5, if_neg (fun k => c5 ⟨hp.1 k.1, k.2⟩)]
  · rw [if_neg c, if_neg c, if_neg]
    rintro ⟨k, -⟩
    have := hS _ k
    omega
end Go.Proofs.YtlniakcoikhilaaGreatDoor

/- What the code of layer 16 (slots) returns: place, Address, Find. -/
import Derived.Test.YthjodcojhlfnfaaDoorSltFind
namespace Go.Proofs.YthjodcojhlfnfaaDoor
open Go.RowKit
set_option linter.unusedVariables false

/-- The words in which a frame's slots stand. -/
def slRun (l : Fns) (x : FrV) : Int × Int := if 0 < slSize l x then (x.at_ + 2, slSize l x) else (0, 0)
theorem two_cellsS (w : World) (b : Nat) (u0 u1 x0 x1 : Value) (h0 : w.cell? ⟨b, 0, none⟩ = some x0) (h1 : w.cell? ⟨b, 1, none⟩ = some x1) :
    ((w.setCell ⟨b, 0, none⟩ u0).setCell ⟨b, 1, none⟩ u1).cell? ⟨b, 0, none⟩ = some u0 ∧ ((w.setCell ⟨b, 0, none⟩ u0).setCell ⟨b, 1, none⟩ u1).cell? ⟨b, 1, none⟩ = some u1 := by
  have o : ∀ (w : World) (i j : Nat) (v : Value), i ≠ j → (w.setCell ⟨b, i, none⟩ v).cell? ⟨b, j, none⟩ = w.cell? ⟨b, j, none⟩ := fun w i j v h => World.cell?_setCell_other w _ _ _ (fun e => h (by injection e))
  have s : ∀ (w : World) (i : Nat) (v x : Value), w.cell? ⟨b, i, none⟩ = some x → (w.setCell ⟨b, i, none⟩ v).cell? ⟨b, i, none⟩ = some v := fun w i v x h => World.cell?_setCell_same w _ _ h
  refine ⟨?_, ?_⟩
  · rw [o _ 1 0 _ (by decide), s _ 0 _ x0 h0]
  · rw [s _ 1 _ x1 (by rw [o _ 0 1 _ (by decide)]; exact h1)]
theorem bel_set2 {w W : World} {b : Nat} (h : Below w.heap.size w W) (hb : w.heap.size ≤ b) (u0 u1 : Value) : Below w.heap.size w ((W.setCell ⟨b, 0, none⟩ u0).setCell ⟨b, 1, none⟩ u1) := (h.setCell hb u0).setCell hb u1

theorem code_place {w : World} {lo hi : Nat} {tp : Option Addr} {l : Fns} (ht : TbO w lo hi tp l) (hhi : hi ≤ w.heap.size) (hl : ∀ x ∈ l, 0 ≤ x.1 ∧ x.1 ≤ 1000) (x : FrV) (r : Int × Int) (hr : slRun l x = r) :
    Calls Tryd.prog 21 #[.pointer tp, .agg #[.int .i64 x.at_, .int .i64 x.fn, .int .i64 x.link]] w fun e w' => e = .returned (.agg #[.int .i64 r.1, .int .i64 r.2]) ∧ Below w.heap.size w w' := by
  obtain ⟨W0, hW0⟩ : ∃ W0, W0 = (w.alloc (.cells #[.int .i64 x.at_, .int .i64 x.fn, .int .i64 x.link] 64)).alloc (.cells #[.int .i64 0, .int .i64 0] 66) := ⟨_, rfl⟩
  have hb0 : Below w.heap.size w W0 := by rw [hW0]; exact belF_al (belF_al (Below.refl _ _) _) _
  have HB := hidb hb0
  have HC : Hid (∀ W, Below W0.heap.size W0 W → (W.cell? ⟨w.heap.size, 0, none⟩ = some (.int .i64 x.at_) ∧ W.cell? ⟨w.heap.size, 1, none⟩ = some (.int .i64 x.fn) ∧ W.cell? ⟨w.heap.size, 2, none⟩ = some (.int .i64 x.link)) ∧ W.cell? ⟨w.heap.size + 1, 0, none⟩ = some (.int .i64 0) ∧ W.cell? ⟨w.heap.size + 1, 1, none⟩ = some (.int .i64 0) ∧ W.frozen? ⟨w.heap.size + 1, 0, none⟩ = false ∧ W.frozen? ⟨w.heap.size + 1, 1, none⟩ = false) := hidb (fun W hb => by
    have hz : W0.heap.size = w.heap.size + 2 := by rw [hW0]; simp
    have hc : ∀ b k, b < w.heap.size + 2 → W.cell? ⟨b, k, none⟩ = W0.cell? ⟨b, k, none⟩ := fun b k h => hb.cell (by show b < _; omega)
    have hf : ∀ b k, b < w.heap.size + 2 → W.frozen? ⟨b, k, none⟩ = W0.frozen? ⟨b, k, none⟩ := fun b k h => hb.frozen (by show b < _; omega)
    have n1 : (w.alloc (.cells #[.int .i64 x.at_, .int .i64 x.fn, .int .i64 x.link] 64)).heap.size = w.heap.size + 1 := by simp
    refine ⟨⟨?_, ?_, ?_⟩, ?_, ?_, ?_, ?_⟩
    · rw [hc _ _ (by omega), hW0, World.cell?_alloc_lt _ _ _ (by show w.heap.size < _; omega)]; simp
    · rw [hc _ _ (by omega), hW0, World.cell?_alloc_lt _ _ _ (by show w.heap.size < _; omega)]; simp
    · rw [hc _ _ (by omega), hW0, World.cell?_alloc_lt _ _ _ (by show w.heap.size < _; omega)]; simp
    · rw [hc _ _ (by omega), hW0, ← n1]; simp
    · rw [hc _ _ (by omega), hW0, ← n1]; simp
    · rw [hf _ _ (by omega), hW0, ← n1]; simp [go_sem]
    · rw [hf _ _ (by omega), hW0, ← n1]; simp [go_sem])
  have HE : Hid (∀ W, Below W0.heap.size W0 W → frNear x → Calls Tryd.prog 41 #[.pointer tp, .agg #[.int .i64 x.at_, .int .i64 x.fn, .int .i64 x.link]] W fun e w' => e = .returned (.int .i64 (frEnd l x)) ∧ Below W.heap.size W w') := hidb (fun W hb hn => code_frend (ht.below ((belF_tr hb0 hb).mono hhi)) (Nat.le_trans hhi (belF_tr hb0 hb).size) hl x hn)
  have HS : Hid (∀ W, Below W0.heap.size W0 W → frNear x → Calls Tryd.prog 40 #[.pointer tp, .agg #[.int .i64 x.at_, .int .i64 x.fn, .int .i64 x.link], .int .i64 0] W fun e w' => e = .returned (.tuple #[.int .i64 (frSlot l x 0).1, .int .i64 (frSlot l x 0).2]) ∧ Below W.heap.size W w') := hidb (fun W hb hn => code_frslot (ht.below ((belF_tr hb0 hb).mono hhi)) (Nat.le_trans hhi (belF_tr hb0 hb).size) hl x hn 0)
  have hsz := slSize_range l hl x
  have hfs := fSize_range hl x.fn
  unfold slRun at hr
  by_cases h1 : x.at_ < 0
  · rw [if_neg (by unfold slSize; rw [if_pos (Or.inr (Or.inl h1))]; omega)] at hr
    subst hr
    clear HB hl ht hb0 HC HE HS hsz hfs hW0
    --@1
    go_enter Tryd.func21, Tryd.ntmps21
    go_wp2
    exact bodyPost_ret (v := .agg #[.int .i64 0, .int .i64 0]) (by simp [results, Tryd.results21, go_sem]) rfl ⟨rfl, belF_al (belF_al (Below.refl _ _) _) _⟩
  by_cases h2 : 1099511627776 < x.at_
  · rw [if_neg (by unfold slSize; rw [if_pos (Or.inr (Or.inr h2))]; omega)] at hr
    subst hr
    clear HB hl ht hb0 HC HE HS hsz hfs hW0
    --@2
    go_enter Tryd.func21, Tryd.ntmps21
    go_wp2
    exact bodyPost_ret (v := .agg #[.int .i64 0, .int .i64 0]) (by simp [results, Tryd.results21, go_sem]) rfl ⟨rfl, belF_al (belF_al (Below.refl _ _) _) _⟩
  have hne : frNear x := by unfold frNear; omega
  have cs := fun W hb => HS.out W hb hne
  have ce := fun W hb => HE.out W hb hne
  have hsl : slSize l x = if fSize l x.fn < 0 then 0 else fSize l x.fn := by
    unfold slSize
    by_cases h : fSize l x.fn < 0
    · rw [if_pos (Or.inl h), if_pos h]
    · rw [if_neg (by omega), if_neg h]
  by_cases h3 : fSize l x.fn ≤ 0
  · rw [if_neg (by rw [hsl]; split <;> omega)] at hr
    have e : frSlot l x 0 = (0, 2) := by unfold frSlot; rw [if_pos (Or.inr h3)]
    rw [e] at cs
    subst hr
    rw [hW0] at HB HC cs
    have CS := hidb cs
    obtain ⟨⟨c0, c1, c2⟩, z0, z1, f0, f1⟩ := HC.out _ (Below.refl _ _)
    clear hl ht hb0 HE HS hsz hfs ce cs hsl e hne hW0
    --@3
    go_enter Tryd.func21, Tryd.ntmps21
    go_wp2_with (first | (go_at_call 40; (with_reducible refine (CS.out _ (Below.refl _ _)).mono ?_); rintro e w1 ⟨rfl, hb1⟩; have HB1 := hidb hb1; obtain ⟨⟨c3, c4, c5⟩, z2, z3, f2, f3⟩ := HC.out _ hb1))
    obtain ⟨s0, s1⟩ := two_cellsS w1 (w.heap.size + 1) (.int .i64 0) (.int .i64 0) _ _ z2 z3
    exact bodyPost_ret (v := .agg #[.int .i64 0, .int .i64 0]) (by simp [results, Tryd.results21, go_sem, s0, s1]) rfl ⟨rfl, bel_set2 (belF_tr HB.out HB1.out) (by omega) _ _⟩
  · rw [if_pos (by rw [hsl, if_neg (by omega)]; omega), hsl, if_neg (by omega)] at hr
    have e : frSlot l x 0 = (x.at_ + 2, 0) := by unfold frSlot; rw [if_neg (by omega)]; simp
    have e2 : frEnd l x = x.at_ + 2 + fSize l x.fn := by unfold frEnd fWords; rw [if_neg (by omega), if_neg (by omega)]; omega
    rw [e] at cs
    rw [e2] at ce
    generalize fSize l x.fn = z at *
    subst hr
    rw [hW0] at HB HC cs ce
    have CS := hidb cs
    have CE := hidb ce
    have hw : wrap64 (x.at_ + 2 + z - (x.at_ + 2)) = z := by unfold wrap64; omega
    obtain ⟨⟨c0, c1, c2⟩, z0, z1, f0, f1⟩ := HC.out _ (Below.refl _ _)
    clear hl ht hb0 HE HS hsz hfs ce cs hsl e hne hW0 e2 h3
    --@4
    go_enter Tryd.func21, Tryd.ntmps21
    go_wp2_with (first
      | (go_at_call 40; (with_reducible refine (CS.out _ (Below.refl _ _)).mono ?_); rintro e w1 ⟨rfl, hb1⟩; have HB1 := hidb hb1; obtain ⟨⟨c3, c4, c5⟩, z2, z3, f2, f3⟩ := HC.out _ hb1)
      | (go_at_call 41; (with_reducible refine (CE.out _ HB1.out).mono ?_); rintro e w2 ⟨rfl, hb2⟩; have HB2 := hidb (belF_tr HB1.out hb2); obtain ⟨⟨c6, c7, c8⟩, z4, z5, f4, f5⟩ := HC.out _ HB2.out))
    obtain ⟨s0, s1⟩ := two_cellsS w2 (w.heap.size + 1) (.int .i64 (x.at_ + 2)) (.int .i64 z) _ _ z4 z5
    exact bodyPost_ret (v := .agg #[.int .i64 (x.at_ + 2), .int .i64 z]) (by simp [results, Tryd.results21, go_sem, s0, s1]) rfl ⟨rfl, bel_set2 (belF_tr HB.out HB2.out) (by omega) _ _⟩

/-- The address of a slot; the error's number. -/
def slAdr (l : Fns) (L : List FrV) (d i : Int) : Int × Int := if slAddr l L d i < 0 then (0, 2) else (slAddr l L d i, 0)
section
variable {w : World} {lo hi : Nat} {tp : Option Addr} {l : Fns} {A : Option Addr} {m c : Nat} {L : List FrV}
theorem code_sladdr (ht : TbO w lo hi tp l) (hhi : hi ≤ w.heap.size) (hl : ∀ x ∈ l, 0 ≤ x.1 ∧ x.1 ≤ 1000) (hs : FrRow w w.heap.size A m L) (hm : m ≤ 1000000) (d i : Int) (r : Int × Int) (hr : slAdr l L d i = r) :
    Calls Tryd.prog 9 #[.pointer tp, .slice A m c, .int .i64 d, .int .i64 i] w fun e w' => e = .returned (.tuple #[.int .i64 r.1, .int .i64 r.2]) ∧ Below w.heap.size w w' := by
  have hlen := hs.len
  unfold slAdr at hr
  by_cases h1 : d < 0
  · have E : slAddr l L d i = -1 := by unfold slAddr; rw [if_pos (Or.inl h1)]
    rw [E, if_pos (by omega)] at hr
    subst hr
    clear ht hs hl E
    --@5
    go_enter Tryd.func9, Tryd.ntmps9
    go_wp2
    go_ret2
    exact ⟨rfl, Below.refl _ _⟩
  by_cases h2 : (m : Int) ≤ d
  · have E : slAddr l L d i = -1 := by unfold slAddr; rw [if_pos (Or.inr (Or.inl (by omega)))]
    rw [E, if_pos (by omega)] at hr
    subst hr
    clear ht hs hl E
    --@6
    go_enter Tryd.func9, Tryd.ntmps9
    go_wp2
    go_ret2
    exact ⟨rfl, Below.refl _ _⟩
  obtain ⟨b, off, x, rfl, hbl, hx, hc0, hc1, hc2⟩ := hs.at_ (j := d.toNat) (by omega)
  have hg : L.getD d.toNat fr0 = x := by rw [List.getD_eq_getElem?_getD, hx]; rfl
  obtain ⟨q, hq⟩ : ∃ q, slRun l x = q := ⟨_, rfl⟩
  have cp := code_place ht hhi hl x q hq
  have hz := slSize_range l hl x
  have f1 : d < (m : Int) := by omega
  have f2 : 0 ≤ d := by omega
  have E : slAddr l L d i = if i < 0 ∨ q.2 ≤ i then -1 else q.1 + i := by
    unfold slAddr; rw [hg, ← hq]; unfold slRun
    by_cases h3 : i < 0
    · rw [if_pos (Or.inr (Or.inr (Or.inl h3))), if_pos (Or.inl h3)]
    · by_cases h4 : slSize l x ≤ i
      · rw [if_pos (Or.inr (Or.inr (Or.inr h4))), if_pos (Or.inr (by split <;> simp only <;> omega))]
      · have h5 : 0 < slSize l x := by omega
        rw [if_pos h5]
        simp only
        rw [if_neg (by omega), if_neg (by omega)]
  have hqr : 0 ≤ q.1 ∧ q.1 ≤ 1099511627778 ∧ 0 ≤ q.2 ∧ q.2 ≤ 1000 := by
    rw [← hq]; unfold slRun; split
    · have := hz.2.2 (by omega); simp only; omega
    · simp only; omega
  rw [E] at hr
  obtain ⟨q1, q2⟩ := q
  obtain ⟨xa, xf, xl⟩ := x
  simp only at *
  clear ht hs hl E hx hg hq hz
  have HR := hidb hr
  clear hr
  by_cases h3 : i < 0
  · have hr := HR.out
    rw [if_pos (Or.inl h3), if_pos (by omega)] at hr
    subst hr
    --@7
    go_enter Tryd.func9, Tryd.ntmps9
    go_wp2_with (first | (go_at_call 21; (with_reducible refine cp.mono ?_); rintro e w1 ⟨rfl, hb1⟩))
    go_ret2
    exact ⟨rfl, belF_al hb1 _⟩
  by_cases h4 : q2 ≤ i
  · have hr := HR.out
    rw [if_pos (Or.inr h4), if_pos (by omega)] at hr
    subst hr
    --@8
    go_enter Tryd.func9, Tryd.ntmps9
    go_wp2_with (first | (go_at_call 21; (with_reducible refine cp.mono ?_); rintro e w1 ⟨rfl, hb1⟩))
    go_ret2
    exact ⟨rfl, belF_al hb1 _⟩
  · have hr := HR.out
    rw [if_neg (by omega), if_neg (by omega)] at hr
    subst hr
    have hw : wrap64 (q1 + i) = q1 + i := by unfold wrap64; omega
    --@9
    go_enter Tryd.func9, Tryd.ntmps9
    go_wp2_with (first | (go_at_call 21; (with_reducible refine cp.mono ?_); rintro e w1 ⟨rfl, hb1⟩))
    go_ret2
    exact ⟨by (first | rfl | (rw [hw]; rfl)), belF_al hb1 _⟩

set_option maxRecDepth 100000 in
set_option maxHeartbeats 2000000 in
theorem code_slfind (ht : TbO w lo hi tp l) (hhi : hi ≤ w.heap.size) (hl : ∀ x ∈ l, 0 ≤ x.1 ∧ x.1 ≤ 1000) (hs : FrRow w w.heap.size A m L) (hm : m ≤ 1000000) (a : Int) (ha : in64 a) (r : Option (Nat × Nat)) (hr : slFind l 0 L a = r) :
    Calls Tryd.prog 11 #[.pointer tp, .slice A m c, .int .i64 a] w fun e w' => e = .returned (findC r) ∧ Below w.heap.size w w' := by
  have HS := hidb hs
  have HL := hidb hl
  have HR := hidb hr
  have HA := hidb ha
  have KP : Hid (∀ W x q, Below w.heap.size w W → slRun l x = q → Calls Tryd.prog 21 #[.pointer tp, .agg #[.int .i64 x.at_, .int .i64 x.fn, .int .i64 x.link]] W fun e w' => e = .returned (.agg #[.int .i64 q.1, .int .i64 q.2]) ∧ Below W.heap.size W w') := hidb (fun W x q hb hq => code_place (ht.below (hb.mono hhi)) (Nat.le_trans hhi hb.size) hl x q hq)
  clear ht hl hs hr ha
  go_enter Tryd.func11, Tryd.ntmps11
  go_wp2
  go_loopw [14] (fun k wr => ∃ j : Nat, j ≤ m ∧ k = .int .i64 j ∧ Hid (slFind l 0 L a = slFind l j (L.drop j) a) ∧ Hid (Below w.heap.size w wr)) (fun k _ => (m - intOf k).toNat)
  case atStart => exact ⟨0, by omega, rfl, hidb rfl, hidb (Below.refl _ _)⟩
  case round =>
    obtain ⟨j, hj, rfl, HF, HB⟩ := hrel
    by_cases hlt : j < m
    · obtain ⟨b, off, x, rfl, hbl, hx, hc0, hc1, hc2⟩ := HS.out.at_ hlt
      have d0 := (HB.out.cell (p := ⟨b, off + j * 3, none⟩) hbl).trans hc0
      have d1 := (HB.out.cell (p := ⟨b, off + j * 3 + 1, none⟩) hbl).trans hc1
      have d2 := (HB.out.cell (p := ⟨b, off + j * 3 + 2, none⟩) hbl).trans hc2
      obtain ⟨q, hq⟩ : ∃ q, slRun l x = q := ⟨_, rfl⟩
      have HBA : Hid (Below w.heap.size w (wr.alloc (.cells #[.int .i64 x.at_, .int .i64 x.fn, .int .i64 x.link] 64))) := hidb (belF_al HB.out _)
      have cp := KP.out _ x q HBA.out hq
      have hz := slSize_range l HL.out x
      have hst := slFind_at (l := l) (a := a) hx j
      have hqr : 0 ≤ q.1 ∧ q.1 ≤ 1099511627778 ∧ 0 ≤ q.2 ∧ q.2 ≤ 1000 := by
        rw [← hq]; unfold slRun; split
        · have := hz.2.2 (by omega); simp only; omega
        · simp only; omega
      have hst2 : slFind l j (L.drop j) a = if q.1 ≤ a ∧ a < q.1 + q.2 then some (j, (a - q.1).toNat) else slFind l (j + 1) (L.drop (j + 1)) a := by
        rw [hst, ← hq]; unfold slRun
        by_cases h0 : 0 < slSize l x
        · rw [if_pos h0]
        · rw [if_neg h0, if_neg (by omega), if_neg (by simp only; omega)]
      have HST := hidb hst2
      have g0 : (0 : Int) ≤ (j : Int) := by omega
      have g1 : (j : Int) < (m : Int) := by omega
      have hw : wrap64 (q.1 + q.2) = q.1 + q.2 := by unfold wrap64; omega
      obtain ⟨q1, q2⟩ := q
      obtain ⟨xa, xf, xl⟩ := x
      simp only at *
      clear hst hst2 hx hc0 hc1 hc2 hq hz
      by_cases h1 : a < q1
      · have HN : Hid (slFind l 0 L a = slFind l (j + 1) (L.drop (j + 1)) a) := hidb (by rw [HF.out, HST.out, if_neg (by omega)])
        have g3 : ¬ q1 ≤ a := by omega
        --@10
        go_wp2_with (first | (go_at_call 21; (with_reducible refine cp.mono ?_); rintro e w1 ⟨rfl, hb1⟩; have HB1 := hidb hb1; clear hb1))
        go_roundw
        case rel => exact ⟨j + 1, by omega, by go_num, HN, hidb (belF_al (belF_tr HBA.out HB1.out) _)⟩
        case measure => simp [intOf]; omega
      by_cases h2 : a < q1 + q2
      · have HE : Hid (r = some (j, (a - q1).toNat)) := hidb (by rw [← HR.out, HF.out, HST.out, if_pos (by omega)])
        have hsub : wrap64 (a - q1) = a - q1 := by have := HA.out; unfold in64 at this; unfold wrap64; omega
        have g4 : ((a - q1).toNat : Int) = a - q1 := by omega
        have g3 : q1 ≤ a := by omega
        --@11
        go_wp2_with (first | (go_at_call 21; (with_reducible refine cp.mono ?_); rintro e w1 ⟨rfl, hb1⟩; have HB1 := hidb hb1; clear hb1) | (go_quiet (fail)))
        exact bodyPost_ret (v := .tuple #[.int .i64 (j : Int), .int .i64 (a - q1), .bool true]) (by simp [results, Tryd.results11, go_sem]) rfl ⟨by rw [HE.out]; unfold findC; simp only; rw [g4], belowN (belF_al (belF_tr HBA.out HB1.out) _) _⟩
      · have HN : Hid (slFind l 0 L a = slFind l (j + 1) (L.drop (j + 1)) a) := hidb (by rw [HF.out, HST.out, if_neg (by omega)])
        have g3 : q1 ≤ a := by omega
        have g5 : ¬ a < q1 + q2 := by omega
        --@12
        go_wp2_with (first | (go_at_call 21; (with_reducible refine cp.mono ?_); rintro e w1 ⟨rfl, hb1⟩; have HB1 := hidb hb1; clear hb1))
        go_roundw
        case rel => exact ⟨j + 1, by omega, by go_num, HN, hidb (belF_al (belF_tr HBA.out HB1.out) _)⟩
        case measure => simp [intOf]; omega
    · have HE : Hid (r = none) := hidb (by rw [← HR.out, HF.out, List.drop_of_length_le (by rw [HS.out.len]; omega)]; rfl)
      --@13
      go_wp2
      exact bodyPost_ret (v := .tuple #[.int .i64 0, .int .i64 0, .bool false]) (by simp [results, Tryd.results11, go_sem]) rfl ⟨by rw [HE.out]; rfl, HB.out⟩
end
end Go.Proofs.YthjodcojhlfnfaaDoor

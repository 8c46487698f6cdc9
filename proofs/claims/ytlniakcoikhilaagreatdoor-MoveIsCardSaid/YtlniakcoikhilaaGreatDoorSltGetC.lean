/- What the code of layer 16 (slots) returns: Get, All. -/
import Derived.Test.YtlniakcoikhilaaGreatDoorSlsAll
namespace Go.Proofs.YtlniakcoikhilaaGreatDoor
open Go.RowKit
set_option linter.unusedVariables false

theorem slFind_ge (l : Fns) : ∀ (L : List FrV) (d : Nat) (a : Int) (u k : Nat), slFind l d L a = some (u, k) → d ≤ u
  | [], d, a, u, k, h => by cases h
  | x :: r, d, a, u, k, h => by
    unfold slFind at h
    split at h
    · injection h with h; injection h with h _; omega
    · have := slFind_ge l r (d + 1) a u k h; omega
theorem slFind_take (l : Fns) : ∀ (L : List FrV) (d n : Nat) (a : Int), slFind l d (L.take n) a = match slFind l d L a with | none => none | some (u, k) => if d + n ≤ u then none else some (u, k)
  | [], d, n, a => by rw [List.take_nil]; rfl
  | x :: r, d, 0, a => by
    rw [List.take_zero]
    cases h : slFind l d (x :: r) a with
    | none => rfl
    | some uk => obtain ⟨u, k⟩ := uk; have := slFind_ge l _ d a u k h; simp only; rw [if_pos (by omega)]; rfl
  | x :: r, d, n + 1, a => by
    rw [List.take_succ_cons]
    by_cases c : x.at_ + 2 ≤ a ∧ a < x.at_ + 2 + slSize l x
    · rw [slFind, if_pos c, slFind, if_pos c]
      simp only
      rw [if_neg (by omega)]
    · rw [slFind, if_neg c, slFind, if_neg c, slFind_take l r (d + 1) n a, show d + 1 + n = d + (n + 1) by omega]
theorem slFind_far (l : Fns) (hl : ∀ x ∈ l, 0 ≤ x.1 ∧ x.1 ≤ 1000) : ∀ (L : List FrV) (d : Nat) (a : Int), (a < 0 ∨ 4611686018427387904 < a) → slFind l d L a = none
  | [], d, a, h => rfl
  | x :: r, d, a, h => by
    have hz := slSize_range l hl x
    rw [slFind, if_neg (fun c => by have := hz.2.2 (by omega); omega)]
    exact slFind_far l hl r (d + 1) a h
/-- What a pointer slot has that has this word, and may refer to slots of these frames. -/
def slPtr (l : Fns) (L : List FrV) (x : Nat) : VlV × Int := if x = 0 then (vl0, 0) else match slFind l 0 L (wrap64 (x : Int)) with | none => (vl0, 9) | some (u, k) => (⟨2, 0, u, k⟩, 0)
theorem slGet_ptr {xs : List Nat} {l : Fns} (hl : ∀ x ∈ l, 0 ≤ x.1 ∧ x.1 ≤ 1000) {L : List FrV} {d i : Int} {a : Nat} (hx : Wd xs) (ha : slAddr l L d i = (a : Int)) (hn : a < xs.length) (hp : fPtr l (L.getD d.toNat fr0).fn i = true) (hd : 0 ≤ d) : slGet xs l L d i = slPtr l (L.take (d.toNat + 1)) (xs.getD a 0) := by
  unfold slGet slPtr
  rw [ha, if_neg (by omega), Int.toNat_natCast, hp, if_neg (by simp)]
  have hu : xs.getD a 0 < 18446744073709551616 := by
    rw [List.getD_eq_getElem?_getD, List.getElem?_eq_getElem hn]; exact hx _ (List.getElem_mem _)
  generalize xs.getD a 0 = u at *
  by_cases c : u = 0
  · rw [if_pos c, if_pos c]
  · rw [if_neg c, if_neg c]
    by_cases c2 : 4611686018427387904 < u
    · rw [if_pos c2, slFind_far l hl _ _ _ (by unfold wrap64; omega)]
    · rw [if_neg c2, slFind_take, show wrap64 (u : Int) = (u : Int) by unfold wrap64; omega]
      cases slFind l 0 L (u : Int) with
      | none => rfl
      | some yz =>
        obtain ⟨y, z⟩ := yz
        simp only
        by_cases c3 : d < (y : Int)
        · rw [if_pos c3, if_pos (by omega)]
        · rw [if_neg c3, if_neg (by omega)]
theorem FrRow.take {w : World} {B n k : Nat} {A : Option Addr} {L : List FrV} (h : FrRow w B A n L) (hk : k ≤ n) : FrRow w B A k (L.take k) := by
  refine ⟨by rw [List.length_take, h.len]; omega, fun h0 => ?_⟩
  obtain ⟨b, off, e, hb, hc⟩ := h.2 (by omega)
  refine ⟨b, off, e, hb, fun j y hj => hc j y ?_⟩
  rw [List.getElem?_take] at hj
  split at hj
  · exact hj
  · cases hj

section
variable {w : World} {lo hi : Nat} {tp : Option Addr} {l : Fns} {A : Option Addr} {m c : Nat} {L : List FrV}
set_option maxHeartbeats 2000000 in
theorem c_slptr (ht : TbO w lo hi tp l) (hhi : hi ≤ w.heap.size) (hl : ∀ x ∈ l, 0 ≤ x.1 ∧ x.1 ≤ 1000) (hs : FrRow w w.heap.size A m L) (hm : m ≤ 1000000) (x : Nat) (hx : x < 18446744073709551616) (v : VlV) (no : Int) (hr : slPtr l L x = (v, no)) :
    Calls Tryz.prog 100 #[.pointer tp, .slice A m c, .int .u64 (x : Int)] w fun e w' => e = .returned (.tuple #[.agg #[.int .u8 v.kind, .int .u64 v.bits, .int .i64 v.depth, .int .i64 v.slot], .int .i64 no]) ∧ Below w.heap.size w w' := by
  obtain ⟨W0, hW0⟩ : ∃ W0, W0 = w.alloc (.cells #[.int .u8 0, .int .u64 0, .int .i64 0, .int .i64 0] 77) := ⟨_, rfl⟩
  have hb0 : Below w.heap.size w W0 := by rw [hW0]; exact belF_al (Below.refl _ _) _
  have hz0 : W0.heap.size = w.heap.size + 1 := by rw [hW0]; simp
  have HQ : Hid (∀ W, Below W0.heap.size W0 W → (W.cell? ⟨w.heap.size, 0, none⟩ = some (.int .u8 0) ∧ W.cell? ⟨w.heap.size, 1, none⟩ = some (.int .u64 0) ∧ W.cell? ⟨w.heap.size, 2, none⟩ = some (.int .i64 0) ∧ W.cell? ⟨w.heap.size, 3, none⟩ = some (.int .i64 0)) ∧ W.frozen? ⟨w.heap.size, 0, none⟩ = false ∧ W.frozen? ⟨w.heap.size, 1, none⟩ = false ∧ W.frozen? ⟨w.heap.size, 2, none⟩ = false ∧ W.frozen? ⟨w.heap.size, 3, none⟩ = false) := hidb (fun W hb => by
    have hc : ∀ k, W.cell? ⟨w.heap.size, k, none⟩ = W0.cell? ⟨w.heap.size, k, none⟩ := fun k => hb.cell (by show w.heap.size < _; omega)
    have hf : ∀ k, W.frozen? ⟨w.heap.size, k, none⟩ = W0.frozen? ⟨w.heap.size, k, none⟩ := fun k => hb.frozen (by show w.heap.size < _; omega)
    refine ⟨⟨?_, ?_, ?_, ?_⟩, ?_, ?_, ?_, ?_⟩
    · rw [hc, hW0]; simp
    · rw [hc, hW0]; simp
    · rw [hc, hW0]; simp
    · rw [hc, hW0]; simp
    all_goals (rw [hf, hW0]; simp [go_sem]))
  unfold slPtr at hr
  by_cases h1 : x = 0
  · subst h1
    rw [if_pos rfl] at hr
    injection hr with hr1 hr2
    subst hr1 hr2
    clear ht hl hs hW0 hb0 hz0 HQ
    --@1
    go_enter Tryz.func100, Tryz.ntmps100
    go_wp2
    exact bodyPost_ret (v := .tuple #[.agg #[.int .u8 0, .int .u64 0, .int .i64 0, .int .i64 0], .int .i64 0]) (by simp [results, Tryz.results100, go_sem]) rfl ⟨rfl, belF_al (Below.refl _ _) _⟩
  · have h1b : ((x : Int) == 0) = false := by simpa using h1
    rw [if_neg h1] at hr
    obtain ⟨a, ha⟩ : ∃ a, wrap64 (x : Int) = a := ⟨_, rfl⟩
    have hai : in64 a := by rw [← ha]; unfold in64 wrap64; omega
    rw [ha] at hr
    have cf := code_slfind (c := c) (ht.below (hb0.mono hhi)) (Nat.le_trans hhi hb0.size) hl (hs.step hb0) hm a hai _ rfl
    have HB := hidb hb0
    rw [hW0] at cf HQ HB
    have HA := hidb ha
    clear ht hl hs hb0 hz0 hW0 ha
    cases hf : slFind l 0 L a with
    | none =>
      rw [hf] at hr cf
      injection hr with hr1 hr2
      subst hr1 hr2
      unfold findC at cf
      clear hf
      --@2
      go_enter Tryz.func100, Tryz.ntmps100
      go_wp2_with (first | (go_at_call 109; rw [HA.out]; (with_reducible refine cf.mono ?_); rintro e w1 ⟨rfl, hb1⟩; obtain ⟨⟨r0, r1, r2, r3⟩, f0, f1, f2, f3⟩ := HQ.out _ hb1))
      obtain ⟨s0, s1, s2, s3⟩ := four_cellsV w1 w.heap.size (.int .u8 0) (.int .u64 0) (.int .i64 0) (.int .i64 0) _ _ _ _ r0 r1 r2 r3
      exact bodyPost_ret (v := .tuple #[.agg #[.int .u8 0, .int .u64 0, .int .i64 0, .int .i64 0], .int .i64 9]) (by simp [results, Tryz.results100, go_sem, s0, s1, s2, s3]) rfl ⟨rfl, bel_set4 (belF_tr HB.out hb1) (Nat.le_refl _) _ _ _ _⟩
    | some yz =>
      obtain ⟨y, z⟩ := yz
      rw [hf] at hr cf
      injection hr with hr1 hr2
      subst hr1 hr2
      unfold findC at cf
      simp only at cf
      clear hf
      --@3
      go_enter Tryz.func100, Tryz.ntmps100
      go_wp2_with (first | (go_at_call 109; rw [HA.out]; (with_reducible refine cf.mono ?_); rintro e w1 ⟨rfl, hb1⟩; obtain ⟨⟨r0, r1, r2, r3⟩, f0, f1, f2, f3⟩ := HQ.out _ hb1))
      obtain ⟨s0, s1, s2, s3⟩ := four_cellsV w1 w.heap.size (.int .u8 2) (.int .u64 0) (.int .i64 (y : Int)) (.int .i64 (z : Int)) _ _ _ _ r0 r1 r2 r3
      exact bodyPost_ret (v := .tuple #[.agg #[.int .u8 2, .int .u64 0, .int .i64 (y : Int), .int .i64 (z : Int)], .int .i64 0]) (by simp [results, Tryz.results100, go_sem, s0, s1, s2, s3]) rfl ⟨rfl, bel_set4 (belF_tr HB.out hb1) (Nat.le_refl _) _ _ _ _⟩
set_option maxHeartbeats 4000000 in
theorem code_slget {B p g len : Nat} {xs : List Nat} (ha : Ar w B p g len xs) (ht : TbO w lo hi tp l) (hhi : hi ≤ w.heap.size) (hl : ∀ x ∈ l, 0 ≤ x.1 ∧ x.1 ≤ 1000) (hx : Wd xs) (hs : FrRow w w.heap.size A m L) (hm : m ≤ 1000000) (hcap : m ≤ c) (d i : Int) (hI : in64 i) (v : VlV) (no : Int) (hr : slGet xs l L d i = (v, no)) :
    Calls Tryz.prog 86 #[.pointer (some ⟨p, 0, none⟩), .pointer tp, .slice A m c, .int .i64 d, .int .i64 i] w fun e w' => e = .returned (.tuple #[.agg #[.int .u8 v.kind, .int .u64 v.bits, .int .i64 v.depth, .int .i64 v.slot], .int .i64 no]) ∧ Below w.heap.size w w' := by
  have hlen := ha.hlen
  have hsmall := ha.small
  have hlL := hs.len
  obtain ⟨W0, hW0⟩ : ∃ W0, W0 = w.alloc (.cells #[.int .u8 0, .int .u64 0, .int .i64 0, .int .i64 0] 77) := ⟨_, rfl⟩
  have hb0 : Below w.heap.size w W0 := by rw [hW0]; exact belF_al (Below.refl _ _) _
  have hz0 : W0.heap.size = w.heap.size + 1 := by rw [hW0]; simp
  have HQ : Hid (∀ W, Below W0.heap.size W0 W → (W.cell? ⟨w.heap.size, 0, none⟩ = some (.int .u8 0) ∧ W.cell? ⟨w.heap.size, 1, none⟩ = some (.int .u64 0) ∧ W.cell? ⟨w.heap.size, 2, none⟩ = some (.int .i64 0) ∧ W.cell? ⟨w.heap.size, 3, none⟩ = some (.int .i64 0)) ∧ W.frozen? ⟨w.heap.size, 0, none⟩ = false ∧ W.frozen? ⟨w.heap.size, 1, none⟩ = false ∧ W.frozen? ⟨w.heap.size, 2, none⟩ = false ∧ W.frozen? ⟨w.heap.size, 3, none⟩ = false) := hidb (fun W hb => by
    have hc : ∀ k, W.cell? ⟨w.heap.size, k, none⟩ = W0.cell? ⟨w.heap.size, k, none⟩ := fun k => hb.cell (by show w.heap.size < _; omega)
    have hf : ∀ k, W.frozen? ⟨w.heap.size, k, none⟩ = W0.frozen? ⟨w.heap.size, k, none⟩ := fun k => hb.frozen (by show w.heap.size < _; omega)
    refine ⟨⟨?_, ?_, ?_, ?_⟩, ?_, ?_, ?_, ?_⟩
    · rw [hc, hW0]; simp
    · rw [hc, hW0]; simp
    · rw [hc, hW0]; simp
    · rw [hc, hW0]; simp
    all_goals (rw [hf, hW0]; simp [go_sem]))
  obtain ⟨r, hra⟩ : ∃ r, slAdr l L d i = r := ⟨_, rfl⟩
  have ca := code_sladdr (c := c) (ht.below (hb0.mono hhi)) (Nat.le_trans hhi hb0.size) hl (hs.step hb0) hm d i r hra
  have HB := hidb hb0
  have HBW : Hid (∀ W, Below W0.heap.size W0 W → Below w.heap.size w W) := hidb (fun W hb => belF_tr hb0 hb)
  obtain ⟨a, hda⟩ : ∃ a, slAddr l L d i = a := ⟨_, rfl⟩
  unfold slAdr at hra
  rw [hda] at hra
  have hadr : 0 ≤ a → 0 ≤ d ∧ d < (m : Int) ∧ a ≤ 1099511628000000 := fun h => by
    unfold slAddr at hda
    have hz := slSize_range l hl (L.getD d.toNat fr0)
    split at hda <;> omega
  by_cases h1 : a < 0
  · rw [if_pos h1] at hra
    subst hra
    unfold slGet at hr
    rw [hda, if_pos (Or.inl h1)] at hr
    injection hr with hr1 hr2
    subst hr1 hr2
    rw [hW0] at ca HQ HB HBW
    clear hl ht hs ha hx hW0 hb0 hz0 hadr hda
    --@4
    go_enter Tryz.func86, Tryz.ntmps86
    go_wp2_with (first | (go_at_call 98; (with_reducible refine ca.mono ?_); rintro e w1 ⟨rfl, hb1⟩; obtain ⟨⟨r0, r1, r2, r3⟩, f0, f1, f2, f3⟩ := HQ.out _ hb1))
    obtain ⟨s0, s1, s2, s3⟩ := four_cellsV w1 w.heap.size (.int .u8 0) (.int .u64 0) (.int .i64 0) (.int .i64 0) _ _ _ _ r0 r1 r2 r3
    exact bodyPost_ret (v := .tuple #[.agg #[.int .u8 0, .int .u64 0, .int .i64 0, .int .i64 0], .int .i64 2]) (by simp [results, Tryz.results86, go_sem, s0, s1, s2, s3]) rfl ⟨rfl, bel_set4 (belF_tr HB.out hb1) (Nat.le_refl _) _ _ _ _⟩
  rw [if_neg h1] at hra
  subst hra
  obtain ⟨e0, e1, e2⟩ := hadr (by omega)
  obtain ⟨k, rfl⟩ : ∃ k : Nat, a = (k : Int) := ⟨a.toNat, by omega⟩
  by_cases h2 : len ≤ k
  · have KL : Hid (∀ W, Below W0.heap.size W0 W → Calls Tryz.prog 87 #[.pointer (some ⟨p, 0, none⟩), .int .i64 (k : Int)] W fun e w' => e = .returned (.tuple #[.int .u64 0, .int .i64 2]) ∧ Below W.heap.size W w') := hidb (fun W hb => code_aload_no _ len k W hsmall (code_awords p _ _ _ _ ((ha.below (belF_tr hb0 hb) (Nat.le_refl _)).alloc _).cell) (by unfold in64; omega) (by unfold aIn; exact decide_eq_false (by omega)))
    unfold slGet at hr
    rw [hda, if_pos (Or.inr (by omega))] at hr
    injection hr with hr1 hr2
    subst hr1 hr2
    rw [hW0] at ca HQ HB HBW KL
    clear hl ht hs ha hx hW0 hb0 hz0 hadr hda
    --@5
    go_enter Tryz.func86, Tryz.ntmps86
    go_wp2_with (first
      | (go_at_call 98; (with_reducible refine ca.mono ?_); rintro e w1 ⟨rfl, hb1⟩; have HB1 := hidb hb1)
      | (go_at_call 87; (with_reducible refine (KL.out _ HB1.out).mono ?_); rintro e w2 ⟨rfl, hb2⟩; have HB2 := hidb (belF_tr HB1.out hb2); obtain ⟨⟨r0, r1, r2, r3⟩, f0, f1, f2, f3⟩ := HQ.out _ HB2.out))
    obtain ⟨s0, s1, s2, s3⟩ := four_cellsV w2 w.heap.size (.int .u8 0) (.int .u64 0) (.int .i64 0) (.int .i64 0) _ _ _ _ r0 r1 r2 r3
    exact bodyPost_ret (v := .tuple #[.agg #[.int .u8 0, .int .u64 0, .int .i64 0, .int .i64 0], .int .i64 2]) (by simp [results, Tryz.results86, go_sem, s0, s1, s2, s3]) rfl ⟨rfl, bel_set4 (HBW.out _ HB2.out) (Nat.le_refl _) _ _ _ _⟩
  have hkx : k < xs.length := by omega
  obtain ⟨u, hu⟩ : ∃ u, xs[k]? = some u := ⟨_, List.getElem?_eq_getElem hkx⟩
  have hgd0 : xs.getD k 0 = u := by rw [List.getD_eq_getElem?_getD, hu]; rfl
  have hu2 : u < 18446744073709551616 := hx _ (List.mem_of_getElem? hu)
  have KL : Hid (∀ W, Below W0.heap.size W0 W → Calls Tryz.prog 87 #[.pointer (some ⟨p, 0, none⟩), .int .i64 (k : Int)] W fun e w' => e = .returned (.tuple #[.int .u64 (u : Int), .int .i64 0]) ∧ Below W.heap.size W w') := hidb (fun W hb => code_aload k u (ha.below (belF_tr hb0 hb) (Nat.le_refl _)) hu)
  obtain ⟨n, rfl⟩ : ∃ n : Nat, d = (n : Int) := ⟨d.toNat, by omega⟩
  obtain ⟨b, off, x, rfl, hbl, hxx, hc0, hc1, hc2⟩ := hs.at_ (j := n) (by omega)
  have hgd : L.getD (n : Int).toNat fr0 = x := by rw [Int.toNat_natCast, List.getD_eq_getElem?_getD, hxx]; rfl
  obtain ⟨xa, xf, xl⟩ := x
  simp only at hc0 hc1 hc2
  obtain ⟨pt, hpt⟩ : ∃ pt, fPtr l xf i = pt := ⟨_, rfl⟩
  have KP : Hid (∀ W, Below W0.heap.size W0 W → Calls Tryz.prog 99 #[.pointer tp, .int .i64 xf, .int .i64 i] W fun e w' => e = .returned (.bool pt) ∧ Below W.heap.size W w') := hidb (fun W hb => by
    have := code_fptr (ht.below ((belF_tr hb0 hb).mono hhi)) (Nat.le_trans hhi (belF_tr hb0 hb).size) xf i hI
    rw [hpt] at this; exact this)
  have HG : Hid (∀ W, Below W0.heap.size W0 W → W.cell? ⟨b, off + n * 3 + 1, none⟩ = some (.int .i64 xf)) := hidb (fun W hb => ((belF_tr hb0 hb).cell (p := ⟨b, off + n * 3 + 1, none⟩) hbl).trans hc1)
  cases pt with
  | false =>
    unfold slGet at hr
    rw [hda, if_neg (by omega), hgd, if_pos hpt, Int.toNat_natCast, hgd0] at hr
    injection hr with hr1 hr2
    subst hr1 hr2
    rw [hW0] at ca HQ HB HBW KL KP HG
    clear hl ht hs ha hx hW0 hb0 hz0 hadr hda hpt hgd hc0 hc1 hc2 hu hgd0 hxx
    --@6
    go_enter Tryz.func86, Tryz.ntmps86
    go_wp2_with (first
      | (go_at_call 98; (with_reducible refine ca.mono ?_); rintro e w1 ⟨rfl, hb1⟩; have HB1 := hidb hb1)
      | (go_at_call 87; (with_reducible refine (KL.out _ HB1.out).mono ?_); rintro e w2 ⟨rfl, hb2⟩; have HB2 := hidb (belF_tr HB1.out hb2); have t0 := HG.out _ HB2.out)
      | (go_at_call 99; (with_reducible refine (KP.out _ HB2.out).mono ?_); rintro e w3 ⟨rfl, hb3⟩; have HB3 := hidb (belF_tr HB2.out hb3); obtain ⟨⟨r0, r1, r2, r3⟩, f0, f1, f2, f3⟩ := HQ.out _ HB3.out))
    obtain ⟨s0, s1, s2, s3⟩ := four_cellsV w3 w.heap.size (.int .u8 1) (.int .u64 (u : Int)) (.int .i64 0) (.int .i64 0) _ _ _ _ r0 r1 r2 r3
    exact bodyPost_ret (v := .tuple #[.agg #[.int .u8 1, .int .u64 (u : Int), .int .i64 0, .int .i64 0], .int .i64 0]) (by simp [results, Tryz.results86, go_sem, s0, s1, s2, s3]) rfl ⟨rfl, bel_set4 (HBW.out _ HB3.out) (Nat.le_refl _) _ _ _ _⟩
  | true =>
    rw [slGet_ptr hl hx hda hkx (by rw [hgd]; exact hpt) e0, hgd0, Int.toNat_natCast] at hr
    obtain ⟨vk, vb, vd, vi⟩ := v
    have KF : Hid (∀ W, Below W0.heap.size W0 W → ∀ c', Calls Tryz.prog 100 #[.pointer tp, .slice (some ⟨b, off, none⟩) (n + 1) c', .int .u64 (u : Int)] W fun e w' => e = .returned (.tuple #[.agg #[.int .u8 vk, .int .u64 vb, .int .i64 vd, .int .i64 vi], .int .i64 no]) ∧ Below W.heap.size W w') := hidb (fun W hb c' => c_slptr (c := c') (ht.below ((belF_tr hb0 hb).mono hhi)) (Nat.le_trans hhi (belF_tr hb0 hb).size) hl ((hs.step (belF_tr hb0 hb)).take (by omega)) (by omega) u hu2 _ no hr)
    have g0 : (n : Int) + 1 ≤ (c : Int) := by omega
    have g1 : (n : Int) + 1 ≤ (m : Int) := by omega
    have g2 : (n : Int) < (m : Int) := by omega
    have g3 : n + 1 ≤ c := by omega
    have gt : ((n : Int) + 1).toNat = n + 1 := by omega
    rw [hW0] at ca HQ HB HBW KL KP HG KF
    clear hl ht hs ha hx hW0 hb0 hz0 hadr hda hpt hgd hc0 hc1 hc2 hu hgd0 hxx hr
    --@7
    go_enter Tryz.func86, Tryz.ntmps86
    go_wp2_with (first
      | (go_at_call 98; (with_reducible refine ca.mono ?_); rintro e w1 ⟨rfl, hb1⟩; have HB1 := hidb hb1)
      | (go_at_call 87; (with_reducible refine (KL.out _ HB1.out).mono ?_); rintro e w2 ⟨rfl, hb2⟩; have HB2 := hidb (belF_tr HB1.out hb2); have t0 := HG.out _ HB2.out)
      | (go_at_call 99; (with_reducible refine (KP.out _ HB2.out).mono ?_); rintro e w3 ⟨rfl, hb3⟩; have HB3 := hidb (belF_tr HB2.out hb3))
      | (go_at_call 100; (with_reducible refine (KF.out _ HB3.out _).mono ?_); rintro e w4 ⟨rfl, hb4⟩; have HB4 := hidb (belF_tr HB3.out hb4); obtain ⟨⟨r0, r1, r2, r3⟩, f0, f1, f2, f3⟩ := HQ.out _ HB4.out))
    obtain ⟨s0, s1, s2, s3⟩ := four_cellsV w4 w.heap.size (.int .u8 vk) (.int .u64 vb) (.int .i64 vd) (.int .i64 vi) _ _ _ _ r0 r1 r2 r3
    exact bodyPost_ret (v := .tuple #[.agg #[.int .u8 vk, .int .u64 vb, .int .i64 vd, .int .i64 vi], .int .i64 no]) (by simp [results, Tryz.results86, go_sem, s0, s1, s2, s3]) rfl ⟨rfl, bel_set4 (HBW.out _ HB4.out) (Nat.le_refl _) _ _ _ _⟩
end
end Go.Proofs.YtlniakcoikhilaaGreatDoor

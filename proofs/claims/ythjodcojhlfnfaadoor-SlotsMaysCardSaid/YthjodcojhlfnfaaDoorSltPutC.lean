/- What the code of layer 16 (slots) returns: word, Put. -/
import Derived.Test.YthjodcojhlfnfaaDoorSltCode
import Derived.Test.YthjodcojhlfnfaaDoorSltMay
import Derived.Test.YthjodcojhlfnfaaDoorSltPut
namespace Go.Proofs.YthjodcojhlfnfaaDoor
open Go.RowKit
set_option linter.unusedVariables false

/-- What stands in a slot of a frame of this depth that has a value; the error's number. -/
def slWord (l : Fns) (L : List FrV) (d : Int) (v : VlV) : Int × Int :=
  if v.kind = 2 then if slAddr l L v.depth v.slot < 0 then (0, 2) else if d < v.depth then (0, 7) else (slAddr l L v.depth v.slot, 0) else (v.bits, 0)
theorem slAddr_top (l : Fns) (hl : ∀ x ∈ l, 0 ≤ x.1 ∧ x.1 ≤ 1000) (L : List FrV) (d i : Int) : slAddr l L d i ≤ 1099511628778 := by
  have hz := slSize_range l hl (L.getD d.toNat fr0)
  unfold slAddr; split <;> omega
section
variable {w : World} {lo hi : Nat} {tp : Option Addr} {l : Fns} {A : Option Addr} {m c : Nat} {L : List FrV}
theorem c_word (ht : TbO w lo hi tp l) (hhi : hi ≤ w.heap.size) (hl : ∀ x ∈ l, 0 ≤ x.1 ∧ x.1 ≤ 1000) (hs : FrRow w w.heap.size A m L) (hm : m ≤ 1000000) (d : Int) (v : VlV) (r : Int × Int) (hr : slWord l L d v = r) :
    Calls Tryd.prog 34 #[.pointer tp, .slice A m c, .int .i64 d, .agg #[.int .u8 v.kind, .int .u64 v.bits, .int .i64 v.depth, .int .i64 v.slot]] w fun e w' => e = .returned (.tuple #[.int .u64 r.1, .int .i64 r.2]) ∧ Below w.heap.size w w' := by
  unfold slWord at hr
  obtain ⟨W0, hW0⟩ : ∃ W0, W0 = w.alloc (.cells #[.int .u8 v.kind, .int .u64 v.bits, .int .i64 v.depth, .int .i64 v.slot] 42) := ⟨_, rfl⟩
  have hb0 : Below w.heap.size w W0 := by rw [hW0]; exact belF_al (Below.refl _ _) _
  have HC : Hid (∀ W, Below W0.heap.size W0 W → W.cell? ⟨w.heap.size, 2, none⟩ = some (.int .i64 v.depth) ∧ W.cell? ⟨w.heap.size, 3, none⟩ = some (.int .i64 v.slot)) := hidb (fun W hb => by
    have hz : W0.heap.size = w.heap.size + 1 := by rw [hW0]; simp
    refine ⟨?_, ?_⟩ <;> (rw [hb.cell (by show w.heap.size < _; omega), hW0]; simp))
  have htop := slAddr_top l hl L v.depth v.slot
  obtain ⟨k, bb, vd, vi⟩ := v
  simp only at *
  by_cases h1 : k = 2
  · rw [if_pos h1] at hr
    have hkb : ((k : Int) != 2) = false := by simp; omega
    clear h1
    obtain ⟨a, ha⟩ : ∃ a, slAddr l L vd vi = a := ⟨_, rfl⟩
    obtain ⟨q, hq⟩ : ∃ q, slAdr l L vd vi = q := ⟨_, rfl⟩
    have ca := code_sladdr (c := c) (ht.below (hb0.mono hhi)) (Nat.le_trans hhi hb0.size) hl (hs.step hb0) hm vd vi q hq
    unfold slAdr at hq
    rw [ha] at hq hr htop
    have HB := hidb hb0
    rw [hW0] at ca HC
    clear ht hl hs hW0 hb0
    by_cases h2 : a < 0
    · rw [if_pos h2] at hq hr
      subst hq hr
      --@1
      go_enter Tryd.func34, Tryd.ntmps34
      go_wp2_with (first | (go_at_call 9; (with_reducible refine ca.mono ?_); rintro e w1 ⟨rfl, hb1⟩; obtain ⟨c2, c3⟩ := HC.out _ hb1))
      go_ret2
      exact ⟨rfl, belF_tr (belF_al (Below.refl _ _) _) hb1⟩
    · rw [if_neg h2] at hq hr
      subst hq
      by_cases h3 : d < vd
      · rw [if_pos h3] at hr
        subst hr
        --@2
        go_enter Tryd.func34, Tryd.ntmps34
        go_wp2_with (first | (go_at_call 9; (with_reducible refine ca.mono ?_); rintro e w1 ⟨rfl, hb1⟩; obtain ⟨c2, c3⟩ := HC.out _ hb1))
        go_ret2
        exact ⟨rfl, belF_tr (belF_al (Below.refl _ _) _) hb1⟩
      · rw [if_neg h3] at hr
        subst hr
        have hw : IntKind.u64.wrap a = a := by rw [IntKind.wrap_u64]; omega
        --@3
        go_enter Tryd.func34, Tryd.ntmps34
        go_wp2_with (first | (go_at_call 9; (with_reducible refine ca.mono ?_); rintro e w1 ⟨rfl, hb1⟩; obtain ⟨c2, c3⟩ := HC.out _ hb1))
        go_ret2
        exact ⟨by (first | rfl | (rw [hw]; rfl)), belF_tr (belF_al (Below.refl _ _) _) hb1⟩
  · rw [if_neg h1] at hr
    subst hr
    have hk : ((k : Int) != 2) = true := by simp; omega
    clear ht hl hs hW0 hb0 HC
    --@4
    go_enter Tryd.func34, Tryd.ntmps34
    go_wp2
    go_ret2
    exact ⟨rfl, belF_al (Below.refl _ _) _⟩

theorem aStore_one (xs : List Nat) (k u : Nat) (h : k < xs.length) : aStore xs k [u] = xs.set k u := by
  apply List.ext_getElem?
  intro j
  rw [aStore_get _ _ _ (by simp; omega), List.getElem?_set]
  simp only [List.length_cons, List.length_nil]
  by_cases h1 : k = j
  · subst h1
    rw [if_neg (by omega), if_pos (by omega), if_pos rfl, if_pos h]; simp
  · rw [if_neg h1]
    by_cases h2 : j < k
    · rw [if_pos h2]
    · rw [if_neg h2, if_neg (by omega)]
/-- A row of one value that a call lays. -/
theorem vlit_row (X : World) (v : VlV) : VlRow (X.alloc (.cells #[.int .u8 v.kind, .int .u64 v.bits, .int .i64 v.depth, .int .i64 v.slot] 42)) (X.heap.size + 1) (some ⟨X.heap.size, 0, none⟩) 1 [v] := by
  refine ⟨rfl, fun _ => ⟨X.heap.size, 0, rfl, by omega, fun j y hj => ?_⟩⟩
  match j, hj with
  | 0, hj =>
    obtain rfl := Option.some.inj hj
    refine ⟨_, rfl, fun k hk => ?_, rfl⟩
    match k, hk with
    | 0, _ => simp [vlcells]
    | 1, _ => simp [vlcells]
    | 2, _ => simp [vlcells]
    | 3, _ => simp [vlcells]
  | j + 1, hj => simp at hj

set_option maxRecDepth 100000 in
set_option maxHeartbeats 4000000 in
theorem code_slput {B p g len : Nat} {xs : List Nat} (ha : Ar w B p g len xs) (ht : TbO w lo hi tp l) (hhi : hi ≤ w.heap.size) (hl : ∀ x ∈ l, 0 ≤ x.1 ∧ x.1 ≤ 1000) (hs : FrRow w w.heap.size A m L) (hm : m ≤ 1000000) (d i : Int) (hI : in64 i) (v : VlV) (h4 : in64 v.depth) (h5 : in64 v.slot) (hk : v.kind < 256) (hbits : v.bits < 18446744073709551616) (ys : List Nat) (no : Int) (hr : slPut xs l L d i v = (ys, no)) :
    Calls Tryd.prog 17 #[.pointer (some ⟨p, 0, none⟩), .pointer tp, .slice A m c, .int .i64 d, .int .i64 i, .agg #[.int .u8 v.kind, .int .u64 v.bits, .int .i64 v.depth, .int .i64 v.slot]] w fun e w' => e = .returned (.int .i64 no) ∧ Ar w' B p g len ys ∧ w.grownBy w' (some g) := by
  have hlen := ha.hlen
  obtain ⟨W0, hW0⟩ : ∃ W0, W0 = w.alloc (.cells #[.int .u8 v.kind, .int .u64 v.bits, .int .i64 v.depth, .int .i64 v.slot] 42) := ⟨_, rfl⟩
  have hb0 : Below w.heap.size w W0 := by rw [hW0]; exact belF_al (Below.refl _ _) _
  have HC : Hid (∀ W, Below W0.heap.size W0 W → (W.cell? ⟨w.heap.size, 0, none⟩ = some (.int .u8 v.kind) ∧ W.cell? ⟨w.heap.size, 1, none⟩ = some (.int .u64 v.bits)) ∧ W.cell? ⟨w.heap.size, 2, none⟩ = some (.int .i64 v.depth) ∧ W.cell? ⟨w.heap.size, 3, none⟩ = some (.int .i64 v.slot)) := hidb (fun W hb => by
    have hz : W0.heap.size = w.heap.size + 1 := by rw [hW0]; simp
    refine ⟨⟨?_, ?_⟩, ?_, ?_⟩ <;> (rw [hb.cell (by show w.heap.size < _; omega), hW0]; simp))
  have HB := hidb hb0
  have HSAME : Hid (∀ W, Below w.heap.size w W → Ar W B p g len xs ∧ w.grownBy W (some g)) := hidb (fun W hb => ⟨ha.below hb (Nat.le_refl _), below_to_grown hb _⟩)
  have HADR : Hid (∀ W q, Below w.heap.size w W → slAdr l L d i = q → Calls Tryd.prog 9 #[.pointer tp, .slice A m c, .int .i64 d, .int .i64 i] W fun e w' => e = .returned (.tuple #[.int .i64 q.1, .int .i64 q.2]) ∧ Below W.heap.size W w') := hidb (fun W q hb hq => code_sladdr (ht.below (hb.mono hhi)) (Nat.le_trans hhi hb.size) hl (hs.step hb) hm d i q hq)
  have HIN : Hid (∀ W a b, Below w.heap.size w W → in64 a → aIn len a 1 = b → Calls Tryd.prog 32 #[.pointer (some ⟨p, 0, none⟩), .int .i64 a, .int .i64 1] W fun e w' => e = .returned (.bool b) ∧ W = w') := hidb (fun W a b hb h0 h => by rw [← h]; exact code_ain (ha.below hb (Nat.le_refl _)) a 1 h0 (by unfold in64; omega))
  have HMAY : Hid (∀ W b, vMay v = b → Calls Tryd.prog 14 #[.slice (some ⟨W.heap.size, 0, none⟩) 1 1] (W.alloc (.cells #[.int .u8 v.kind, .int .u64 v.bits, .int .i64 v.depth, .int .i64 v.slot] 42)) fun e w' => e = .returned (.bool b) ∧ Below W.heap.size W w') := hidb (fun W b hb => by
    refine (code_vmay _ 1 1 [v] _ _ (vlit_row W v) (by simp) (by omega) (fun u hu => by rw [List.mem_singleton.1 hu]; exact ⟨h4, h5⟩) b (by simp [hb])).mono ?_
    rintro e w' ⟨rfl, h⟩
    exact ⟨rfl, belF_tr (belF_al (Below.refl _ _) _) h⟩)
  have HPTR : Hid (∀ W f b, Below w.heap.size w W → fPtr l f i = b → Calls Tryd.prog 33 #[.pointer tp, .int .i64 f, .int .i64 i] W fun e w' => e = .returned (.bool b) ∧ Below W.heap.size W w') := hidb (fun W f b hb h => by rw [← h]; exact code_fptr (ht.below (hb.mono hhi)) (Nat.le_trans hhi hb.size) f i hI)
  have HWRD : Hid (∀ W q, Below w.heap.size w W → slWord l L d v = q → Calls Tryd.prog 34 #[.pointer tp, .slice A m c, .int .i64 d, .agg #[.int .u8 v.kind, .int .u64 v.bits, .int .i64 v.depth, .int .i64 v.slot]] W fun e w' => e = .returned (.tuple #[.int .u64 q.1, .int .i64 q.2]) ∧ Below W.heap.size W w') := hidb (fun W q hb hq => c_word (ht.below (hb.mono hhi)) (Nat.le_trans hhi hb.size) hl (hs.step hb) hm d v q hq)
  have HSTO : Hid (∀ W (a x : Nat), Below w.heap.size w W → a < len → x < 18446744073709551616 → Calls Tryd.prog 27 #[.pointer (some ⟨p, 0, none⟩), .int .i64 (a : Int), .slice (some ⟨W.heap.size, 0, none⟩) 1 1] (W.alloc (.cells #[.int .u64 (x : Int)] 40)) fun e w' => e = .returned (.int .i64 0) ∧ Ar w' B p g len (aStore xs a [x]) ∧ w.grownBy w' (some g)) := hidb (fun W a x hb hal hx => by
    have hb2 := belF_al hb (.cells #[.int .u64 (x : Int)] 40)
    have hsl : Sl (W.alloc (.cells #[.int .u64 (x : Int)] 40)) (W.alloc (.cells #[.int .u64 (x : Int)] 40)).heap.size (some ⟨W.heap.size, 0, none⟩) 1 ([x].map wv) :=
      Sl.of_own (World.ownsRow_lit (base := W.heap.size) (e := 40) (size := 1) W #[.int .u64 (x : Int)] 1 (Nat.le_refl _) (by unfold maxLen; omega) (by simp))
    refine (code_astore a _ 1 1 (ha.below hb2 (Nat.le_refl _)) hsl (by omega)).mono ?_
    rintro e w' ⟨rfl, h1, h2⟩
    exact ⟨rfl, h1, (below_to_grown hb2 _).trans h2⟩)
  obtain ⟨a, hadr⟩ : ∃ a, slAddr l L d i = a := ⟨_, rfl⟩
  have htop := slAddr_top l hl L d i
  have hrow : 0 ≤ a → ∃ b off x, A = some ⟨b, off, none⟩ ∧ 0 ≤ d ∧ d < (m : Int) ∧ b < w.heap.size ∧ L.getD d.toNat fr0 = x ∧ w.cell? ⟨b, off + d.toNat * 3 + 1, none⟩ = some (.int .i64 x.fn) := fun h => by
    have hlL := hs.len
    have hd : 0 ≤ d ∧ d < (m : Int) := by unfold slAddr at hadr; split at hadr <;> omega
    obtain ⟨b, off, x, rfl, hbl, hx, hc0, hc1, hc2⟩ := hs.at_ (j := d.toNat) (by omega)
    exact ⟨b, off, x, rfl, hd.1, hd.2, hbl, by rw [List.getD_eq_getElem?_getD, hx]; rfl, hc1⟩
  rw [hadr] at htop
  unfold slPut at hr
  rw [hadr, hlen] at hr
  have hads : ∀ q, (if a < 0 then ((0, 2) : Int × Int) else (a, 0)) = q → slAdr l L d i = q := fun q h => by unfold slAdr; rw [hadr]; exact h
  by_cases h1 : a < 0
  · rw [if_pos (Or.inl h1)] at hr
    injection hr with hy hn
    subst hy hn
    have ca := HADR.out W0 _ hb0 (hads _ (if_pos h1))
    rw [hW0] at ca
    clear ha ht hl hs hW0 hb0 HADR HIN HMAY HPTR HWRD HSTO HC hrow hads hadr
    --@5
    go_enter Tryd.func17, Tryd.ntmps17
    go_wp2_with (first | (go_at_call 9; (with_reducible refine ca.mono ?_); rintro e w1 ⟨rfl, hb1⟩; have HB1 := hidb hb1; clear hb1))
    go_ret
    exact ⟨rfl, HSAME.out _ (belF_tr (belF_al (Below.refl _ _) _) HB1.out)⟩
  have ca := HADR.out W0 _ hb0 (hads _ (if_neg h1))
  have hi64 : in64 a := by unfold in64; omega
  have HBW : Hid (∀ W, Below W0.heap.size W0 W → Below w.heap.size w W) := hidb (fun W hb => belF_tr HB.out hb)
  by_cases h2 : (len : Int) ≤ a
  · rw [if_pos (Or.inr h2)] at hr
    injection hr with hy hn
    subst hy hn
    have ci := fun W hb => HIN.out W a false hb hi64 (by unfold aIn; exact decide_eq_false (by omega))
    have CI := hidb ci
    rw [hW0] at ca HBW
    clear ha ht hl hs hW0 hb0 HADR HIN HMAY HPTR HWRD HSTO HC hrow hads hadr ci h1 h2
    --@6
    go_enter Tryd.func17, Tryd.ntmps17
    go_wp2_with (first
      | (go_at_call 9; (with_reducible refine ca.mono ?_); rintro e w1 ⟨rfl, hb1⟩; have HB1 := hidb (HBW.out _ hb1); clear hb1)
      | (go_at_call 32; (with_reducible refine (CI.out _ HB1.out).mono ?_); rintro e w2 ⟨rfl, rfl⟩))
    go_ret
    exact ⟨rfl, HSAME.out _ HB1.out⟩
  rw [if_neg (by omega)] at hr
  obtain ⟨k, rfl⟩ : ∃ k : Nat, a = (k : Int) := ⟨a.toNat, by omega⟩
  have hkl : k < len := by omega
  have ci := fun W hb => HIN.out W (k : Int) true hb hi64 (by unfold aIn; exact decide_eq_true (by omega))
  have CI := hidb ci
  obtain ⟨b, off, x, rfl, f0, f1, hbl, hgd, hcf⟩ := hrow (by omega)
  rw [hgd] at hr
  have HF : Hid (∀ W, Below w.heap.size w W → W.cell? ⟨b, off + d.toNat * 3 + 1, none⟩ = some (.int .i64 x.fn)) := hidb (fun W hb => (hb.cell (p := ⟨b, off + d.toNat * 3 + 1, none⟩) hbl).trans hcf)
  clear ci hrow hads hgd hcf HIN HADR
  cases hmay : vMay v with
  | false =>
    rw [if_pos hmay] at hr
    injection hr with hy hn
    subst hy hn
    have cm := fun W => HMAY.out W false hmay
    rw [hW0] at ca HBW HC
    obtain ⟨vk, vb, vd, vi⟩ := v
    simp only at *
    clear ha ht hl hs hW0 hb0 HMAY HPTR HWRD HSTO hadr h1 h2 hmay hk hbits
    --@7
    go_enter Tryd.func17, Tryd.ntmps17
    go_wp2_with (first
      | (go_at_call 9; (with_reducible refine ca.mono ?_); rintro e w1 ⟨rfl, hb1⟩; have HB1 := hidb (HBW.out _ hb1); obtain ⟨⟨c0, c1⟩, c2, c3⟩ := HC.out _ hb1; clear hb1)
      | (go_at_call 32; (with_reducible refine (CI.out _ HB1.out).mono ?_); rintro e w2 ⟨rfl, rfl⟩)
      | (go_at_call 14; (with_reducible refine (cm _).mono ?_); rintro e w3 ⟨rfl, hb3⟩; have HB3 := hidb (belF_tr HB1.out hb3); clear hb3))
    go_ret
    exact ⟨rfl, HSAME.out _ HB3.out⟩
  | true =>
    rw [if_neg (by rw [hmay]; decide)] at hr
    have cm := fun W => HMAY.out W true hmay
    obtain ⟨pt, hpt⟩ : ∃ pt, fPtr l x.fn i = pt := ⟨_, rfl⟩
    rw [hpt] at hr
    have cp := fun W hb => HPTR.out W x.fn pt hb hpt
    have CP := hidb cp
    have HCC : Hid (∀ W, Below W0.heap.size W0 W → (W.cell? ⟨w.heap.size, 0, none⟩ = some (.int .u8 v.kind) ∧ W.cell? ⟨w.heap.size, 1, none⟩ = some (.int .u64 v.bits)) ∧ (W.cell? ⟨w.heap.size, 2, none⟩ = some (.int .i64 v.depth) ∧ W.cell? ⟨w.heap.size, 3, none⟩ = some (.int .i64 v.slot)) ∧ W.cell? ⟨b, off + d.toNat * 3 + 1, none⟩ = some (.int .i64 x.fn)) := hidb (fun W hb => ⟨(HC.out W hb).1, (HC.out W hb).2, HF.out W (HBW.out W hb)⟩)
    obtain ⟨vk, vb, vd, vi⟩ := v
    obtain ⟨xa, xf, xl⟩ := x
    simp only at *
    have hdk : ((vk : Int) == 1) = decide (vk = 1) := by by_cases e : vk = 1 <;> simp [e]; omega
    by_cases h3 : pt = decide (vk = 1)
    · rw [if_pos h3] at hr
      injection hr with hy hn
      subst hy hn
      have hq : (pt == ((vk : Int) == 1)) = true := by rw [hdk, h3]; simp
      rw [hW0] at ca HBW HC HCC
      clear ha ht hl hs hW0 hb0 HMAY HPTR HWRD HSTO hadr h1 h2 hmay hk hbits cp hpt h3 hdk
      --@8
      go_enter Tryd.func17, Tryd.ntmps17
      go_wp2_with (first
        | (go_at_call 9; (with_reducible refine ca.mono ?_); rintro e w1 ⟨rfl, hb1⟩; have HB1 := hidb (HBW.out _ hb1); have HG1 := hidb hb1; obtain ⟨⟨c0, c1⟩, c2, c3⟩ := HC.out _ hb1; clear hb1)
        | (go_at_call 32; (with_reducible refine (CI.out _ HB1.out).mono ?_); rintro e w2 ⟨rfl, rfl⟩)
        | (go_at_call 14; (with_reducible refine (cm _).mono ?_); rintro e w3 ⟨rfl, hb3⟩; have HB3 := hidb (belF_tr HB1.out hb3); have HG3 := hidb (belF_tr HG1.out hb3); clear hb3; obtain ⟨⟨c4, c5⟩, ⟨c6, c7⟩, c8⟩ := HCC.out _ HG3.out))
      have HK : Hid (∀ W, Below w3.heap.size w3 W → ((W.cell? ⟨w.heap.size, 0, none⟩ = some (.int .u8 vk) ∧ W.cell? ⟨w.heap.size, 1, none⟩ = some (.int .u64 vb)) ∧ (W.cell? ⟨w.heap.size, 2, none⟩ = some (.int .i64 vd) ∧ W.cell? ⟨w.heap.size, 3, none⟩ = some (.int .i64 vi)) ∧ W.cell? ⟨b, off + d.toNat * 3 + 1, none⟩ = some (.int .i64 xf))) := hidb (fun W hb => HCC.out W (belF_tr HG3.out hb))
      clear c0 c1 c2 c3 c4 c5 c6 c7 c8
      (first | go_region_held3 (fun W => ((W.cell? ⟨w.heap.size, 0, none⟩ = some (.int .u8 vk) ∧ W.cell? ⟨w.heap.size, 1, none⟩ = some (.int .u64 vb)) ∧ (W.cell? ⟨w.heap.size, 2, none⟩ = some (.int .i64 vd) ∧ W.cell? ⟨w.heap.size, 3, none⟩ = some (.int .i64 vi)) ∧ W.cell? ⟨b, off + d.toNat * 3 + 1, none⟩ = some (.int .i64 xf)))
        (first | ((with_reducible refine HK.out _ ?_); (repeat (first | with_reducible exact Below.refl _ _ | with_reducible exact Hid.out (by assumption) | with_reducible apply belF_al | with_reducible apply belF_dr)); done) | (go_keep; done))
        (first
          | (go_at_call 33; (with_reducible refine (CP.out _ (belF_tr HB3.out (by (repeat (first | with_reducible exact Below.refl _ _ | with_reducible exact Hid.out (by assumption) | with_reducible apply belF_al | with_reducible apply belF_dr))))).mono ?_); rintro e w4 ⟨rfl, hb4⟩; have HG4 : Hid (Below w3.heap.size w3 w4) := hidb (belF_tr (by (repeat (first | with_reducible exact Below.refl _ _ | with_reducible exact Hid.out (by assumption) | with_reducible apply belF_al | with_reducible apply belF_dr))) hb4); have hc4 := HK.out w4 HG4.out; clear hb4)) | fail)
      all_goals go_wp2
      all_goals go_ret
      all_goals exact ⟨rfl, HSAME.out _ (belF_tr HB3.out HG4.out)⟩
    · rw [if_neg h3] at hr
      have hq : (pt == ((vk : Int) == 1)) = false := by rw [hdk]; simpa using h3
      obtain ⟨q, hq2⟩ : ∃ q, slWord l L d ⟨vk, vb, vd, vi⟩ = q := ⟨_, rfl⟩
      have cw := fun W hb => HWRD.out W q hb hq2
      have CW := hidb cw
      have hres : (q.2 ≠ 0 ∧ ys = xs ∧ no = q.2) ∨ (∃ u : Nat, q = ((u : Int), 0) ∧ u < 18446744073709551616 ∧ ys = aStore xs k [u] ∧ no = 0) := by
        have hts := slAddr_top l hl L vd vi
        have hset : ∀ u, aStore xs k [u] = xs.set k u := fun u => aStore_one xs k u (by omega)
        unfold slWord at hq2
        simp only at hq2
        rw [Int.toNat_natCast] at hr
        by_cases e : vk = 2
        · rw [if_pos e] at hr hq2
          by_cases e2 : slAddr l L vd vi < 0
          · rw [if_pos e2] at hr hq2
            injection hr with hy hn
            subst hy hn hq2
            exact Or.inl ⟨by decide, rfl, rfl⟩
          · rw [if_neg e2] at hr hq2
            by_cases e3 : d < vd
            · rw [if_pos e3] at hr hq2
              injection hr with hy hn
              subst hy hn hq2
              exact Or.inl ⟨by decide, rfl, rfl⟩
            · rw [if_neg e3] at hr hq2
              injection hr with hy hn
              subst hy hn hq2
              exact Or.inr ⟨(slAddr l L vd vi).toNat, by rw [Int.toNat_of_nonneg (by omega)], by omega, by rw [hset], rfl⟩
        · rw [if_neg e] at hr hq2
          injection hr with hy hn
          subst hy hn hq2
          exact Or.inr ⟨vb, rfl, hbits, by rw [hset], rfl⟩
      obtain ⟨q1, q2⟩ := q
      simp only at hres cw CW
      rw [hW0] at ca HBW HC HCC
      clear ha ht hl hs hW0 hb0 HMAY HPTR HWRD hadr h1 h2 hmay hk hbits cp hpt h3 hdk cw hr
      rcases hres with ⟨h5, rfl, rfl⟩ | ⟨u, hu, hu2, rfl, rfl⟩
      · have hne : (no != 0) = true := by simpa using h5
        --@9
        go_enter Tryd.func17, Tryd.ntmps17
        go_wp2_with (first
          | (go_at_call 9; (with_reducible refine ca.mono ?_); rintro e w1 ⟨rfl, hb1⟩; have HB1 := hidb (HBW.out _ hb1); have HG1 := hidb hb1; obtain ⟨⟨c0, c1⟩, c2, c3⟩ := HC.out _ hb1; clear hb1)
          | (go_at_call 32; (with_reducible refine (CI.out _ HB1.out).mono ?_); rintro e w2 ⟨rfl, rfl⟩)
          | (go_at_call 14; (with_reducible refine (cm _).mono ?_); rintro e w3 ⟨rfl, hb3⟩; have HB3 := hidb (belF_tr HB1.out hb3); have HG3 := hidb (belF_tr HG1.out hb3); clear hb3; obtain ⟨⟨c4, c5⟩, ⟨c6, c7⟩, c8⟩ := HCC.out _ HG3.out))
        have HK : Hid (∀ W, Below w3.heap.size w3 W → ((W.cell? ⟨w.heap.size, 0, none⟩ = some (.int .u8 vk) ∧ W.cell? ⟨w.heap.size, 1, none⟩ = some (.int .u64 vb)) ∧ (W.cell? ⟨w.heap.size, 2, none⟩ = some (.int .i64 vd) ∧ W.cell? ⟨w.heap.size, 3, none⟩ = some (.int .i64 vi)) ∧ W.cell? ⟨b, off + d.toNat * 3 + 1, none⟩ = some (.int .i64 xf))) := hidb (fun W hb => HCC.out W (belF_tr HG3.out hb))
        clear c0 c1 c2 c3 c4 c5 c6 c7 c8
        (first | go_region_held3 (fun W => ((W.cell? ⟨w.heap.size, 0, none⟩ = some (.int .u8 vk) ∧ W.cell? ⟨w.heap.size, 1, none⟩ = some (.int .u64 vb)) ∧ (W.cell? ⟨w.heap.size, 2, none⟩ = some (.int .i64 vd) ∧ W.cell? ⟨w.heap.size, 3, none⟩ = some (.int .i64 vi)) ∧ W.cell? ⟨b, off + d.toNat * 3 + 1, none⟩ = some (.int .i64 xf)))
          (first | ((with_reducible refine HK.out _ ?_); (repeat (first | with_reducible exact Below.refl _ _ | with_reducible exact Hid.out (by assumption) | with_reducible apply belF_al | with_reducible apply belF_dr)); done) | (go_keep; done))
          (first
            | (go_at_call 33; (with_reducible refine (CP.out _ (belF_tr HB3.out (by (repeat (first | with_reducible exact Below.refl _ _ | with_reducible exact Hid.out (by assumption) | with_reducible apply belF_al | with_reducible apply belF_dr))))).mono ?_); rintro e w4 ⟨rfl, hb4⟩; have HG4 : Hid (Below w3.heap.size w3 w4) := hidb (belF_tr (by (repeat (first | with_reducible exact Below.refl _ _ | with_reducible exact Hid.out (by assumption) | with_reducible apply belF_al | with_reducible apply belF_dr))) hb4); have hc4 := HK.out w4 HG4.out; clear hb4)) | fail)
        all_goals go_wp2_with (first | (go_at_call 34; (with_reducible refine (CW.out _ (belF_tr HB3.out (by (repeat (first | with_reducible exact Below.refl _ _ | with_reducible exact Hid.out (by assumption) | with_reducible apply belF_al | with_reducible apply belF_dr))))).mono ?_); rintro e w5 ⟨rfl, hb5⟩; have HG5 : Hid (Below w3.heap.size w3 w5) := hidb (belF_tr (by (repeat (first | with_reducible exact Below.refl _ _ | with_reducible exact Hid.out (by assumption) | with_reducible apply belF_al | with_reducible apply belF_dr))) hb5)))
        all_goals go_ret
        all_goals exact ⟨rfl, HSAME.out _ (belF_tr HB3.out HG5.out)⟩
      · obtain ⟨rfl, rfl⟩ : q1 = (u : Int) ∧ q2 = 0 := by injection hu with e1 e2; exact ⟨e1, e2⟩
        have CST := hidb (fun W hb => HSTO.out W k u hb hkl hu2)
        clear HSTO hu
        --@10
        go_enter Tryd.func17, Tryd.ntmps17
        go_wp2_with (first
          | (go_at_call 9; (with_reducible refine ca.mono ?_); rintro e w1 ⟨rfl, hb1⟩; have HB1 := hidb (HBW.out _ hb1); have HG1 := hidb hb1; obtain ⟨⟨c0, c1⟩, c2, c3⟩ := HC.out _ hb1; clear hb1)
          | (go_at_call 32; (with_reducible refine (CI.out _ HB1.out).mono ?_); rintro e w2 ⟨rfl, rfl⟩)
          | (go_at_call 14; (with_reducible refine (cm _).mono ?_); rintro e w3 ⟨rfl, hb3⟩; have HB3 := hidb (belF_tr HB1.out hb3); have HG3 := hidb (belF_tr HG1.out hb3); clear hb3; obtain ⟨⟨c4, c5⟩, ⟨c6, c7⟩, c8⟩ := HCC.out _ HG3.out))
        have HK : Hid (∀ W, Below w3.heap.size w3 W → ((W.cell? ⟨w.heap.size, 0, none⟩ = some (.int .u8 vk) ∧ W.cell? ⟨w.heap.size, 1, none⟩ = some (.int .u64 vb)) ∧ (W.cell? ⟨w.heap.size, 2, none⟩ = some (.int .i64 vd) ∧ W.cell? ⟨w.heap.size, 3, none⟩ = some (.int .i64 vi)) ∧ W.cell? ⟨b, off + d.toNat * 3 + 1, none⟩ = some (.int .i64 xf))) := hidb (fun W hb => HCC.out W (belF_tr HG3.out hb))
        clear c0 c1 c2 c3 c4 c5 c6 c7 c8
        (first | go_region_held3 (fun W => ((W.cell? ⟨w.heap.size, 0, none⟩ = some (.int .u8 vk) ∧ W.cell? ⟨w.heap.size, 1, none⟩ = some (.int .u64 vb)) ∧ (W.cell? ⟨w.heap.size, 2, none⟩ = some (.int .i64 vd) ∧ W.cell? ⟨w.heap.size, 3, none⟩ = some (.int .i64 vi)) ∧ W.cell? ⟨b, off + d.toNat * 3 + 1, none⟩ = some (.int .i64 xf)))
          (first | ((with_reducible refine HK.out _ ?_); (repeat (first | with_reducible exact Below.refl _ _ | with_reducible exact Hid.out (by assumption) | with_reducible apply belF_al | with_reducible apply belF_dr)); done) | (go_keep; done))
          (first
            | (go_at_call 33; (with_reducible refine (CP.out _ (belF_tr HB3.out (by (repeat (first | with_reducible exact Below.refl _ _ | with_reducible exact Hid.out (by assumption) | with_reducible apply belF_al | with_reducible apply belF_dr))))).mono ?_); rintro e w4 ⟨rfl, hb4⟩; have HG4 : Hid (Below w3.heap.size w3 w4) := hidb (belF_tr (by (repeat (first | with_reducible exact Below.refl _ _ | with_reducible exact Hid.out (by assumption) | with_reducible apply belF_al | with_reducible apply belF_dr))) hb4); have hc4 := HK.out w4 HG4.out; clear hb4)) | fail)
        all_goals go_wp2_with (first
          | (go_at_call 34; (with_reducible refine (CW.out _ (belF_tr HB3.out (by (repeat (first | with_reducible exact Below.refl _ _ | with_reducible exact Hid.out (by assumption) | with_reducible apply belF_al | with_reducible apply belF_dr))))).mono ?_); rintro e w5 ⟨rfl, hb5⟩; have HG5 : Hid (Below w3.heap.size w3 w5) := hidb (belF_tr (by (repeat (first | with_reducible exact Below.refl _ _ | with_reducible exact Hid.out (by assumption) | with_reducible apply belF_al | with_reducible apply belF_dr))) hb5))
          | (go_at_call 27; (with_reducible refine (CST.out _ (belF_tr HB3.out HG5.out)).mono ?_); rintro e w6 ⟨rfl, ha6, hg6⟩))
        all_goals go_ret
        all_goals exact ⟨rfl, ha6, hg6⟩
end
end Go.Proofs.YthjodcojhlfnfaaDoor

/- What Count, Bits and Read of layer 3 (bitmap) return. -/
import Derived.Test.YtdcnpaodcjfdbaaGreatDoorBitCode
import Derived.Test.YtdcnpaodcjfdbaaGreatDoorBitSpecD
import Derived.Test.YtdcnpaodcjfdbaaGreatDoorBitTab
import Derived.Lib.MinMax
import Derived.Deep.Onto
namespace Go.Proofs.YtdcnpaodcjfdbaaGreatDoor
open Go.RowKit
set_option linter.unusedVariables false

theorem TabDB.below {w w' : World} (h : TabDB w) (hb : Below w.heap.size w w') : TabDB w' := fun j hj => by
  have h1 := h j hj
  have h2 := h 0 (by decide)
  have hl : 0 < w.heap.size := by
    refine Nat.not_le.1 fun c => ?_
    unfold World.cell? at h2
    rw [Array.getElem?_eq_none c] at h2
    simp at h2
  rw [hb.cell hl]; exact h1

theorem Sl.take {w : World} {B n : Nat} {A : Option Addr} {ws : List Nat} (h : Sl w B A n (ws.map wv)) (k : Nat) (hk : k ≤ n) : Sl w B A k ((ws.take k).map wv) := by
  have hl : ws.length = n := by have := h.1; simpa using this
  refine ⟨by rw [List.length_map, List.length_take]; omega, fun hn => ?_⟩
  obtain ⟨b, off, e, hb, hc⟩ := h.2 (by omega)
  refine ⟨b, off, e, hb, fun j hj => ?_⟩
  rw [hc j (by omega), List.getElem?_map, List.getElem?_map, List.getElem?_take_of_lt hj]

theorem low_mask (k : Nat) (hk : k < 64) : IntKind.u64.wrap (IntKind.u64.wrap (2 ^ k) - 1) = ((2 ^ k - 1 : Nat) : Int) := by
  have h : 2 ^ k < 2 ^ 64 := Nat.pow_lt_pow_right (by omega) hk
  have hp : 0 < 2 ^ k := Nat.pow_pos (by omega)
  rw [pow_word k hk]
  obtain ⟨p, hpp⟩ : ∃ p, 2 ^ k = p := ⟨_, rfl⟩
  rw [hpp] at h hp ⊢
  rw [IntWalk.u64_in _ (by omega)]; omega
theorem and_low (x k : Nat) (hx : x < 18446744073709551616) (hk : k < 64) : bits .and .u64 (x : Int) (IntKind.u64.wrap (IntKind.u64.wrap (2 ^ k) - 1)) = ((x &&& (2 ^ k - 1) : Nat) : Int) := by
  have h : 2 ^ k < 2 ^ 64 := Nat.pow_lt_pow_right (by omega) hk
  rw [low_mask k hk]
  obtain ⟨p, hpp⟩ : ∃ p, 2 ^ k = p := ⟨_, rfl⟩
  rw [hpp] at h ⊢
  exact bits_and_u64 _ _ hx (by omega)

theorem code_bhead (A : Option Addr) (n c : Nat) (ws : List Nat) (m : Int) (w : World) (hs : Sl w w.heap.size A n (ws.map wv)) (hn : n ≤ 17592186044416) (hnc : n ≤ c) (hcm : c ≤ 9223372036854775807) (hA : A = none → c = 0) (hw : Wd ws) (h0 : -9223372036854775808 ≤ m) (h1 : m ≤ 9223372036854775807) :
    Calls Tryz.prog 74 #[.slice A n c, .int .i64 m] w (ResWords w (bCut ws m.toNat)) := by
  have l1 : ws.length = n := by have := hs.1; simpa using this
  obtain ⟨M, hM⟩ : ∃ M : Int, M = max m 0 := ⟨_, rfl⟩
  have hMm : M.toNat = m.toNat := by omega
  by_cases hbig : (n : Int) ≤ M / 64
  · have E : bCut ws m.toNat = ws := by unfold bCut; rw [if_pos (by omega)]
    have P : Hid (ResWords w (bCut ws m.toNat) (.returned (.slice A n c)) w) := hidb (by
      rw [E, ← l1]; rw [← l1] at hs
      exact ⟨A, c, rfl, by omega, hcm, hA, hs, Below.refl _ _⟩)
    rw [hM] at hbig
    clear E hs hw hM
    go_enter Tryz.func74, Tryz.ntmps74
    go_wp2
    go_ret
    exact P.out
  · obtain ⟨k, hk⟩ : ∃ k, m.toNat / 64 = k := ⟨_, rfl⟩
    have hkn : k < n := by omega
    obtain ⟨b, off, x, rfl, hx, _⟩ := hs.word (j := k) hkn
    have cc := code_bclone _ _ c (ws.take (k + 1)) w (hs.take (k + 1) (by omega)) (by omega) (fun h => by cases h)
    have E : Hid (bCut ws m.toNat = (ws.take (k + 1)).set k (x &&& (2 ^ (m.toNat % 64) - 1))) := hidb (by
      unfold bCut; rw [if_neg (by omega), hk, getD_at _ _ _ _ hx])
    have hxl : x < 18446744073709551616 := hw x (List.mem_of_getElem? hx)
    have hx1 : (ws.take (k + 1))[k]? = some x := by rw [List.getElem?_take_of_lt (by omega)]; exact hx
    have hlt : (ws.take (k + 1)).length = k + 1 := by rw [List.length_take]; omega
    have d1 : max m 0 / 64 = (k : Int) := by omega
    have d2 : ¬ (n : Int) ≤ (k : Int) := by omega
    have d3 : (max m 0 % 64).toNat = m.toNat % 64 := by omega
    have hand : Hid (bits .and .u64 (x : Int) (IntKind.u64.wrap (IntKind.u64.wrap (2 ^ (m.toNat % 64)) - 1)) = ((x &&& (2 ^ (m.toNat % 64) - 1) : Nat) : Int)) := hidb (and_low x _ hxl (Nat.mod_lt _ (by omega)))
    clear hs hw hM hMm hbig hx hk
    go_enter Tryz.func74, Tryz.ntmps74
    go_wp2_with (go_at_call 94; refine cc.mono ?_)
    rintro e w1 ⟨A1, c1, rfl, hown1, hb1⟩
    clear cc
    rw [hlt] at hown1 ⊢
    have hcaps := own_caps hown1
    obtain ⟨g, cap, hv, _, hglt⟩ := hown1.form (by omega)
    obtain rfl : A1 = some ⟨g, 0, none⟩ := by injection hv
    have hcell : w1.cell? ⟨g, k, none⟩ = some (.int .u64 (x : Int)) := by
      rw [hown1.cellAt k (by omega), List.getElem?_map, hx1]; rfl
    have hf := hown1.frozenAt k
    have hk0 : (0 : Int) ≤ (k : Int) := by omega
    have hk1 : (k : Int) < ((k + 1 : Nat) : Int) := by omega
    obtain ⟨y, hy⟩ : ∃ y, (x &&& (2 ^ (m.toNat % 64) - 1)) = y := ⟨_, rfl⟩
    rw [hy] at E hand
    have hst := (hown1.stored k (wv y)).1
    have hst2 : (w1.setCell ⟨g, k, none⟩ (.int .u64 (y : Int))).ownsRow w.heap.size 32 1 (.slice (some ⟨g, 0, none⟩) (k + 1) c1) (k + 1) (((ws.take (k + 1)).set k y).map wv) := by rw [List.map_set]; exact hst
    have hsl2 := Sl.of_own hst2
    have hgb : w.heap.size ≤ g := (hown1.lt g rfl).1
    have P : Hid (ResWords w (bCut ws m.toNat) (.returned (.slice (some ⟨g, 0, none⟩) (k + 1) c1)) (w1.setCell ⟨g, k, none⟩ (.int .u64 (y : Int))).drew) := hidb (by
      have hl3 : (bCut ws m.toNat).length = k + 1 := by rw [E.out, List.length_set, hlt]
      refine ⟨some ⟨g, 0, none⟩, c1, by rw [hl3], by rw [hl3]; exact hcaps.1, hcaps.2.1, fun h => (by cases h), ?_, (hb1.setCell (p := ⟨g, k, none⟩) hgb _).drew⟩
      rw [hl3, E.out]; exact hsl2)
    clear hown1 hcaps hst hst2 hsl2 hx1 hv hy hlt hb1 E
    go_wp2
    go_region
    rw [hand.out]
    go_wp2
    go_ret
    exact P.out

theorem code_bcount (A : Option Addr) (n c : Nat) (ws : List Nat) (m : Int) (w : World) (hs : Sl w w.heap.size A n (ws.map wv)) (hn : n ≤ 17592186044416) (hnc : n ≤ c) (hcm : c ≤ 9223372036854775807) (hA : A = none → c = 0) (hw : Wd ws) (h0 : -9223372036854775808 ≤ m) (h1 : m ≤ 9223372036854775807) :
    Calls Tryz.prog 71 #[.slice A n c, .int .i64 m] w fun e w' => e = .returned (.int .i64 ((bBits ws (min m.toNat (64 * n))).length : Nat)) ∧ Below w.heap.size w w' := by
  have l1 : ws.length = n := by have := hs.1; simpa using this
  have ch := code_bhead A n c ws m w hs hn hnc hcm hA hw h0 h1
  have E := hidb (bCut_bits ws m.toNat)
  have HW := hidb (bCut_wd hw m.toNat)
  have hlen := bCut_length ws m.toNat
  rw [l1] at E hlen
  generalize bCut ws m.toNat = h at *
  clear hs hw
  go_enter Tryz.func71, Tryz.ntmps71
  go_wp2_with (go_at_call 74; refine ch.mono ?_)
  rintro e w1 ⟨A1, c1, rfl, hle1, hcap1, hA1, hsl1, hb1⟩
  have HS := hidb hsl1
  have HB := hidb hb1
  have hl2 : (bBits h (64 * h.length)).length ≤ 64 * h.length := bBits_length _ _
  clear ch hsl1 hb1
  go_wp2
  go_loop [5, 12] (fun v k => ∃ j : Nat, j ≤ h.length ∧ v = .int .i64 ((bBits h (64 * j)).length : Nat) ∧ k = .int .i64 j) (fun _ k => (h.length - intOf k).toNat)
  case atStart => exact ⟨0, by omega, rfl, rfl⟩
  case round =>
    obtain ⟨j, hj, rfl, rfl⟩ := hrel
    by_cases hlt : j < h.length
    · obtain ⟨b, off, x, rfl, hx, hc⟩ := HS.out.word hlt
      have hxl : x < 18446744073709551616 := HW.out x (List.mem_of_getElem? hx)
      have co := ones64 x hxl w1
      have hstep : (bBits h (64 * (j + 1))).length = (bBits h (64 * j)).length + popN 64 x := by
        rw [bBits_word, List.length_append, wBits_length, getD_at _ _ _ _ hx]
      have hpl := popN_le 64 x
      have hbl := bBits_length h (64 * j)
      have ST := hidb hstep
      generalize (bBits h (64 * j)).length = cn at *
      generalize popN 64 x = p at *
      clear hstep hx
      go_wp2_with (go_at_call 93; refine co.mono ?_; rintro e w' ⟨rfl, rfl⟩)
      go_round
      case rel => exact ⟨j + 1, by omega, by rw [ST.out]; first | rfl | go_num, by go_num⟩
      case measure => simp [intOf]; omega
    · have hje : j = h.length := by omega
      rw [hje, E.out]
      go_wp2
      go_ret
      exact ⟨rfl, HB.out⟩

theorem and_pred (x : Nat) (hx : x < 18446744073709551616) (h0 : x ≠ 0) : bits .and .u64 (x : Int) ((x : Int) - 1) = ((x &&& (x - 1) : Nat) : Int) := by
  have e : ((x : Int) - 1) = ((x - 1 : Nat) : Int) := by omega
  rw [e, bits_and_u64 _ _ hx (by omega)]

set_option maxHeartbeats 1000000 in
theorem code_bbits (A : Option Addr) (n c : Nat) (ws : List Nat) (m : Int) (w : World) (hs : Sl w w.heap.size A n (ws.map wv)) (hn : n ≤ 17592186044416) (hk : n ≤ 1000 ∨ m ≤ 1000) (hnc : n ≤ c) (hcm : c ≤ 9223372036854775807) (hA : A = none → c = 0) (hw : Wd ws) (h0 : -9223372036854775808 ≤ m) (h1 : m ≤ 9223372036854775807) (ht : TabDB w) :
    Calls Tryz.prog 44 #[.slice A n c, .int .i64 m] w (OwnInts w (bBits ws (min m.toNat (64 * n)))) := by
  obtain ⟨i0, hi, hz0, hz1, hz2⟩ := info_parts info_int
  have l1 : ws.length = n := by have := hs.1; simpa using this
  have ch := code_bhead A n c ws m w hs hn hnc hcm hA hw h0 h1
  have E := hidb (bCut_bits ws m.toNat)
  have HW := hidb (bCut_wd hw m.toNat)
  have hlen := bCut_length ws m.toNat
  have hl1 : (bCut ws m.toNat).length ≤ 1000 := by
    rcases hk with hk | hk
    · omega
    · unfold bCut
      split
      · omega
      · rw [List.length_set, List.length_take]; omega
  rw [l1] at E hlen
  generalize bCut ws m.toNat = h at *
  have HT := hidb ht
  clear hs hw ht hn hk
  go_enter Tryz.func44, Tryz.ntmps44
  go_wp2_with (go_at_call 74; refine ch.mono ?_)
  rintro e w1 ⟨A1, c1, rfl, hle1, hcap1, hA1, hsl1, hb1⟩
  have HS := hidb hsl1
  have HB := hidb hb1
  have hb1s := hb1.size
  have HT1 := hidb (TabDB.below HT.out hb1)
  clear ch hsl1 hb1
  go_wp2
  go_loopw [5, 12] (fun v k wr => ∃ j : Nat, j ≤ h.length ∧ k = .int .i64 j ∧ wr.ownsRow w1.heap.size 3 1 v (bBits h (64 * j)).length ((bBits h (64 * j)).map iv) ∧ Below w1.heap.size w1 wr) (fun _ k _ => (h.length - intOf k).toNat)
  case atStart => exact ⟨0, by omega, rfl, World.ownsRow_nil _ _ _ _, Below.refl _ _⟩
  case round =>
    obtain ⟨j, hj, rfl, hown, hbel⟩ := hrel
    by_cases hlt : j < h.length
    · obtain ⟨b, off, x, rfl, hx, hc⟩ := (HS.out.below hbel).word hlt
      have hxl : x < 18446744073709551616 := HW.out x (List.mem_of_getElem? hx)
      have hbl := bBits_length h (64 * (j + 1))
      have hW : Hid (bBits h (64 * j) ++ wBits j x = bBits h (64 * (j + 1))) := hidb (by rw [bBits_word, getD_at _ _ _ _ hx])
      have HOWN := hidb hown
      have HBEL := hidb hbel
      clear hx hown hbel
      obtain ⟨wo, rfl⟩ : ∃ wo : World, wo = wr := ⟨_, rfl⟩
      go_wp2
      go_loopw [5, 7] (fun v u wr => ∃ (y : Nat) (l : List Int), u = .int .u64 (y : Int) ∧ y < 18446744073709551616 ∧ Hid (l ++ wBits j y = bBits h (64 * (j + 1))) ∧ wr.ownsRow w1.heap.size 3 1 v l.length (l.map iv) ∧ Below w1.heap.size w1 wr) (fun _ u _ => popN 64 (intOf u).toNat)
      case atStart => exact ⟨x, _, rfl, hxl, hW, HOWN.out, HBEL.out⟩
      case round =>
        obtain ⟨y, l, rfl, hyl, HL, hown, hbel⟩ := hrel
        by_cases hy : y = 0
        · subst hy
          have HO : Hid (wr.ownsRow w1.heap.size 3 1 u5 (bBits h (64 * (j + 1))).length ((bBits h (64 * (j + 1))).map iv)) := hidb (by
            rw [← HL.out, wBits_zero, List.append_nil]; exact hown)
          have HB2 := hidb hbel
          clear hown hbel
          go_wp2
          go_roundw
          case rel => exact ⟨j + 1, by omega, by go_num, HO.out, HB2.out⟩
          case measure => simp [intOf]; omega
        · have ct := tz64 y hyl hy wr (TabDB.below HT1.out (hbel.mono (Nat.le_refl _)))
          have hpeel := wBits_peel j y hyl hy
          have hand := and_pred y hyl hy
          have hct := (low_bits y hyl hy).1
          have hpop : popN 64 (y &&& (y - 1)) < popN 64 y := by
            rw [← wBits_length j y, hpeel, List.length_cons, wBits_length]; omega
          have hll : l.length ≤ 64 * (j + 1) := by
            have := congrArg List.length HL.out
            rw [List.length_append] at this; omega
          have hal : y &&& (y - 1) < 18446744073709551616 := Nat.lt_of_le_of_lt Nat.and_le_left hyl
          rw [hpeel] at HL
          have HL2 : Hid ((l ++ [((64 * j + Lib.ctz 64 y : Nat) : Int)]) ++ wBits j (y &&& (y - 1)) = bBits h (64 * (j + 1))) := hidb (by rw [List.append_assoc]; exact HL.out)
          have eb : ((y : Int) != 0) = true := by simpa using hy
          have hadd : Hid ((j : Int) * 64 + ((Lib.ctz 64 y : Nat) : Int) = ((64 * j + Lib.ctz 64 y : Nat) : Int)) := hidb (by omega)
          obtain ⟨wp, rfl⟩ : ∃ wp : World, wp = wr := ⟨_, rfl⟩
          have hbsz := hbel.size
          generalize Lib.ctz 64 y = t at *
          have HAND := hidb hand
          have HPOP := hidb hpop
          clear hpeel hand hpop
          go_wp2_with (first
            | (go_at_call 75; refine ct.mono ?_; rintro e w' ⟨rfl, rfl⟩)
            | (at_builtin; refine wpList_append_one wp rfl _ _ 35 rfl w1.heap.size 3 i0 (.int .i64 0) 8 Tryz.underlying35 hi hz0 hz1 hz2 rfl _ _ _ rfl (by exact hown) hbsz (.int .i64 ((j : Int) * 64 + (t : Int))) rfl _ rfl (by unfold maxLen; omega) (by omega) ?_; intro v1 w2 hown1 hb2))
          have HO : Hid (w2.ownsRow w1.heap.size 3 1 v1 (l ++ [((64 * j + t : Nat) : Int)]).length ((l ++ [((64 * j + t : Nat) : Int)]).map iv)) := hidb (by
            rw [hadd.out] at hown1
            rw [List.length_append, List.map_append]; exact hown1)
          have HB3 := hidb (hbel.trans hb2)
          clear hown1 hb2 hown hbel ct
          go_wp2
          rw [HAND.out]
          go_roundw
          case rel => exact ⟨y &&& (y - 1), l ++ [((64 * j + t : Nat) : Int)], rfl, hal, HL2, HO.out, HB3.out⟩
          case measure => simpa [intOf] using HPOP.out
    · have hje : j = h.length := by omega
      have P : Hid (OwnInts w (bBits ws (min m.toNat (64 * n))) (.returned u5) wr) := hidb (by
        rw [hje, E.out] at hown
        obtain ⟨A', c', rfl⟩ := own_form hown
        exact ⟨A', c', rfl, hown.mono hb1s, HB.out.trans (hbel.mono hb1s)⟩)
      clear hown hbel hje
      go_wp2
      go_ret
      exact P.out

end Go.Proofs.YtdcnpaodcjfdbaaGreatDoor

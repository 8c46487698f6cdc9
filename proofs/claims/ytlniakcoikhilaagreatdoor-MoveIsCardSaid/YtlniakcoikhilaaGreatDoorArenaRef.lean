/- What each function of the document's own answers to layer 4 (arena) returns. -/
import Derived.Test.YtlniakcoikhilaaGreatDoorRowWords
import Derived.Test.YtlniakcoikhilaaGreatDoorArenaAll
namespace Go.Proofs.YtlniakcoikhilaaGreatDoor
open Go.RowKit
set_option linter.unusedVariables false

theorem ref_ain (A : Option Addr) (len c : Nat) (at' k : Int) (w : World) (hl : len ≤ 4611686018427387904) (a0 : -9223372036854775808 ≤ at') (a1 : at' ≤ 9223372036854775807) (k0 : -9223372036854775808 ≤ k) (k1 : k ≤ 9223372036854775807) :
    Calls Tryz.prog 19 #[.slice A len c, .int .i64 at', .int .i64 k] w fun e w' => e = .returned (.bool (aIn len at' k)) ∧ w = w' := by
  by_cases h1 : 0 ≤ at'
  · by_cases h2 : at' ≤ (len : Int)
    · by_cases h3 : 0 ≤ k
      · by_cases h4 : k ≤ (len : Int)
        · have E : Hid (decide (at' ≤ (len : Int) - k) = aIn len at' k) := hidb (by unfold aIn; rw [Bool.eq_iff_iff, decide_eq_true_iff, decide_eq_true_iff]; omega)
          have hw : wrap64 ((len : Int) - k) = (len : Int) - k := by unfold wrap64; omega
          go_enter Tryz.func19, Tryz.ntmps19
          go_wp2
          go_ret
          exact ⟨congrArg Ending.returned (congrArg Value.bool E.out), rfl⟩
        · have e : aIn len at' k = false := by unfold aIn; exact decide_eq_false (by omega)
          rw [e]; clear e
          go_enter Tryz.func19, Tryz.ntmps19
          go_wp2
          go_ret
          exact ⟨rfl, rfl⟩
      · have e : aIn len at' k = false := by unfold aIn; exact decide_eq_false (by omega)
        rw [e]; clear e
        go_enter Tryz.func19, Tryz.ntmps19
        go_wp2
        go_ret
        exact ⟨rfl, rfl⟩
    · have e : aIn len at' k = false := by unfold aIn; exact decide_eq_false (by omega)
      rw [e]; clear e
      go_enter Tryz.func19, Tryz.ntmps19
      go_wp2
      go_ret
      exact ⟨rfl, rfl⟩
  · have e : aIn len at' k = false := by unfold aIn; exact decide_eq_false (by omega)
    rw [e]; clear e
    go_enter Tryz.func19, Tryz.ntmps19
    go_wp2
    go_ret
    exact ⟨rfl, rfl⟩

theorem made_words (n : Nat) : (madeCells (Value.int .u64 0).cells (n * 1)).toList = (List.replicate n 0).map wv := by
  rw [Nat.mul_one]
  exact (toList_madeCells_one _ n).trans (by simp [wv])

theorem ref_asame (A A2 : Option Addr) (n c m d : Nat) (xs ys : List Nat) (w : World) (B B2 : Nat) (hs : Sl w B A n (xs.map wv)) (hs2 : Sl w B2 A2 m (ys.map wv)) (hn : n ≤ 9223372036854775806) (hm : m ≤ 9223372036854775806) :
    Calls Tryz.prog 12 #[.slice A n c, .slice A2 m d] w fun e w' => e = .returned (.bool (decide (xs = ys))) ∧ ∃ q, w' = w.drewN q := by
  have l1 : xs.length = n := by have := hs.1; simpa using this
  have l2 : ys.length = m := by have := hs2.1; simpa using this
  by_cases hnm : n = m
  · subst hnm
    have L1 := hidb l1
    have L2 := hidb l2
    have HS := hidb hs
    have HS2 := hidb hs2
    clear hs hs2 l1 l2
    go_enter Tryz.func12, Tryz.ntmps12
    go_wp2
    go_loopw [13] (fun k wr => ∃ j q : Nat, j ≤ n ∧ Hid (∀ i, i < j → xs[i]? = ys[i]?) ∧ k = .int .i64 j ∧ wr = w.drewN q) (fun k _ => (n - intOf k).toNat)
    case atStart => exact ⟨0, 0, by omega, hidb (fun i h => absurd h (Nat.not_lt_zero _)), rfl, rfl⟩
    case round =>
      obtain ⟨j, q, hj, HA, rfl, rfl⟩ := hrel
      by_cases hlt : j < n
      · obtain ⟨b, off, x, rfl, hx, hc1⟩ := HS.out.word hlt
        obtain ⟨b2, off2, y, rfl, hy, hc2⟩ := HS2.out.word hlt
        have HX := hidb hx
        have HY := hidb hy
        clear hx hy
        have hi0 : (0 : Int) ≤ (j : Int) := by omega
        have hi1 : (j : Int) < (n : Int) := by omega
        by_cases e : x = y
        · have eb : ((x : Int) != (y : Int)) = false := by simp; omega
          have HE := hidb e
          clear e
          go_wp2
          go_quiet (fail)
          go_wp2
          go_roundw
          case rel =>
            refine ⟨j + 1, _, by omega, hidb (fun i hi => ?_), by go_num, rfl⟩
            by_cases h : i = j
            · subst h; rw [HX.out, HY.out, HE.out]
            · exact HA.out i (by omega)
          case measure => simp [intOf]; omega
        · have eb : ((x : Int) != (y : Int)) = true := by simp; omega
          have HF : Hid (decide (xs = ys) = false) := hidb (decide_eq_false (fun h => e (by rw [h, HY.out] at HX; simpa using HX.out.symm)))
          clear e
          go_wp2
          go_quiet (fail)
          go_wp2
          go_ret
          exact ⟨by rw [HF.out]; rfl, _, World.drewN_drewN _ _ _⟩
      · have HF : Hid (decide (xs = ys) = true) := hidb (decide_eq_true (List.ext_getElem? (fun i => by
          by_cases hi : i < n
          · exact HA.out i (by omega)
          · rw [List.getElem?_eq_none (by have := L1.out; omega), List.getElem?_eq_none (by have := L2.out; omega)])))
        go_wp2
        go_ret
        exact ⟨by rw [HF.out]; rfl, q, rfl⟩
  · have HF : Hid (decide (xs = ys) = false) := hidb (decide_eq_false (fun h => hnm (by rw [← l1, ← l2, h])))
    have eb : ((n : Int) != (m : Int)) = true := by simp; omega
    clear hs hs2 l1 l2 hnm
    go_enter Tryz.func12, Tryz.ntmps12
    go_wp2
    go_ret
    exact ⟨by rw [HF.out]; rfl, 0, rfl⟩

set_option maxRecDepth 100000 in

theorem ref_astore_no (A A2 : Option Addr) (len c n2 c2 : Nat) (at' : Int) (w : World) (hl : len ≤ 4611686018427387904) (hl2 : n2 ≤ 4611686018427387904) (a0 : -9223372036854775808 ≤ at') (a1 : at' ≤ 9223372036854775807) (hno : aIn len at' (n2 : Int) = false) :
    Calls Tryz.prog 8 #[.slice A len c, .int .i64 at', .slice A2 n2 c2] w fun e w' => e = .returned (.tuple #[.slice A len c, .int .i64 2]) ∧ w = w' := by
  have ci := fun W => ref_ain A len c at' (n2 : Int) W hl a0 a1 (by omega) (by omega)
  rw [hno] at ci
  clear hno
  go_enter Tryz.func8, Tryz.ntmps8
  go_wp2_with (go_at_call 19; refine (ci _).mono ?_; rintro e w' ⟨rfl, rfl⟩)
  go_ret2
  exact ⟨rfl, rfl⟩

theorem ref_astore (A A2 : Option Addr) (len c n2 c2 : Nat) (xs ys : List Nat) (at' : Nat) (w : World) (hs : Sl w w.heap.size A len (xs.map wv)) (hs2 : Sl w w.heap.size A2 n2 (ys.map wv)) (h0 : 0 < len) (hl : len ≤ 65536) (hin : at' + n2 ≤ len) :
    Calls Tryz.prog 8 #[.slice A len c, .int .i64 (at' : Int), .slice A2 n2 c2] w (OwnWNo w (aStore xs at' ys) 0) := by
  obtain ⟨i0, hi, hz0, hz1, hz2⟩ := info_parts info_u64
  have ci := fun W => ref_ain A len c (at' : Int) (n2 : Int) W (by omega) (by omega) (by omega) (by omega) (by omega)
  rw [show aIn len (at' : Int) (n2 : Int) = true by unfold aIn; exact decide_eq_true (by omega)] at ci
  have l1 : xs.length = len := by have := hs.1; simpa using this
  have l2 : ys.length = n2 := by have := hs2.1; simpa using this
  have L1 := hidb l1
  have L2 := hidb l2
  have HS2 := hidb hs2
  obtain ⟨b, off, rfl, hb, hcell⟩ := hs.2 h0
  have hc1 : ∀ j u, (xs.map wv)[j]? = some u → (w.alloc (.cells #[] 59)).cell? ((⟨b, off, none⟩ : Addr).add j) = some u := fun j u hj => by
    have hjl : j < len := by
      rcases Nat.lt_or_ge j len with h | h
      · exact h
      · rw [List.getElem?_eq_none (by rw [List.length_map, l1]; exact h)] at hj; cases hj
    rw [Go.WideShapes.add_plain, World.cell?_alloc_lt _ _ _ hb, hcell j hjl]; exact hj
  have h1 : ∀ u ∈ xs.map wv, u.oneCell' = true := fun u hu => by
    obtain ⟨x, _, rfl⟩ := List.mem_map.1 hu; rfl
  have C1 := hidb hc1
  have C2 := hidb h1
  clear hs hs2 l1 l2 hc1 h1 hcell hb
  go_enter Tryz.func8, Tryz.ntmps8
  go_wp2_with (first
    | (go_at_call 19; refine (ci _).mono ?_; rintro e w' ⟨rfl, rfl⟩)
    | (at_builtin; refine wpList_append_own (w.alloc (.cells #[] 59)) rfl _ _ 22 rfl w.heap.size 59 i0 (.int .u64 0) 1 8 Tryz.underlying22 hi hz0 hz1 hz2 rfl (by decide) _ 0 [] rfl (by exact ownsRow_empty w _) ⟨b, off, none⟩ len c (xs.map wv) rfl (by have := L1.out; simp; omega) C1.out C2.out (by unfold maxLen; omega) (by omega) (by simp) ?_; intro v1 w1 hown1 hg1 hnil1))
  obtain ⟨g, cap, rfl, hgb, hglt⟩ := hown1.form (by omega)
  have hbel0 : Below w.heap.size w w1 := ((Below.refl _ _).alloc (Nat.le_refl _) _).grown hg1 (by simp) (fun k hk => by cases hk; exact Nat.le_refl _)
  rw [Nat.zero_add, List.nil_append] at hown1
  rw [Nat.zero_add]
  have HO1 := hidb hown1
  have HB0 := hidb hbel0
  clear hown1 hg1 hnil1 hbel0 hglt ci C1 C2
  go_loopw [22] (fun k wr => ∃ j : Nat, j ≤ n2 ∧ k = .int .i64 j ∧ wr.ownsRow w.heap.size 59 1 (.slice (some ⟨g, 0, none⟩) len cap) len ((aStore xs at' (ys.take j)).map wv) ∧ Below w.heap.size w wr) (fun k _ => (n2 - intOf k).toNat)
  case atStart => exact ⟨0, by omega, rfl, by rw [List.take_zero, aStore_nil]; exact HO1.out, HB0.out⟩
  case round =>
    obtain ⟨j, hj, rfl, hown, hbel⟩ := hrel
    by_cases hlt : j < n2
    · obtain ⟨b2, off2, y, rfl, hy, hc2⟩ := (HS2.out.below hbel).word hlt
      have hlen : (aStore xs at' (ys.take j)).length = len := by
        rw [aStore_length _ _ _ (by rw [List.length_take]; have := L1.out; have := L2.out; omega)]; exact L1.out
      obtain ⟨o, ho⟩ : ∃ o, wr.cell? ⟨g, at' + j, none⟩ = some o := by
        rw [hown.cellAt (at' + j) (by omega), List.getElem?_eq_getElem (by rw [List.length_map, hlen]; omega)]; exact ⟨_, rfl⟩
      have hf := hown.frozenAt (at' + j)
      have hst := hown.stored (at' + j) (wv y)
      have HST : Hid ((wr.setCell ⟨g, at' + j, none⟩ (.int .u64 (y : Int))).ownsRow w.heap.size 59 1 (.slice (some ⟨g, 0, none⟩) len cap) len ((aStore xs at' (ys.take (j + 1))).map wv)) := hidb (by
        rw [aStore_take xs at' ys j y hy (by have := L1.out; have := L2.out; omega), List.map_set]; exact hst.1)
      have HB := hidb (hbel.setCell (p := ⟨g, at' + j, none⟩) hgb (.int .u64 (y : Int)))
      clear hst hy hown hbel hlen
      go_wp2
      go_roundw
      case rel => exact ⟨j + 1, by omega, by go_num, HST.out, HB.out⟩
      case measure => simp [intOf]; omega
    · have hje : j = n2 := by omega
      have P : Hid (OwnWNo w (aStore xs at' ys) 0 (.returned (.tuple #[.slice (some ⟨g, 0, none⟩) len cap, .int .i64 0])) wr) := hidb (by
        have ht : ys.take j = ys := List.take_of_length_le (by have := L2.out; omega)
        rw [ht] at hown
        have hlen : (aStore xs at' ys).length = len := by
          rw [aStore_length _ _ _ (by have := L1.out; have := L2.out; omega)]; exact L1.out
        exact ⟨_, _, by rw [hlen], by rw [hlen]; exact hown, hbel⟩)
      clear hown hbel
      subst hje
      go_wp2
      go_ret2
      exact P.out

end Go.Proofs.YtlniakcoikhilaaGreatDoor

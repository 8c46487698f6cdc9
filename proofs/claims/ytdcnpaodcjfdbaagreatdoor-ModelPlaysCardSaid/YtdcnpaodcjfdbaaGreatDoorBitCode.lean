/- What each function of layer 3 (bitmap) returns. -/
import Derived.Test.YtdcnpaodcjfdbaaGreatDoorRowWords
import Derived.Test.YtdcnpaodcjfdbaaGreatDoorBitSpec
import Derived.Test.YtdcnpaodcjfdbaaGreatDoorBits
import Derived.WalkKit
import Derived.ProofKit
import Derived.WalkLawsBesides
import Derived.WalkSpells
import Derived.Deep.QuietTactic
import Derived.BigQuiet
import Derived.Lib.SliceRun
namespace Go.Proofs.YtdcnpaodcjfdbaaGreatDoor
open Go.RowKit
set_option linter.unusedVariables false

theorem bit_of (x k j : Nat) (hx : x < 18446744073709551616) (hk : k = j) : (bits .and .u64 ((x : Int) / 2 ^ k) 1 == 1) = x.testBit j := by
  subst hk
  have e : ((x : Int) / 2 ^ k) = ((x / 2 ^ k : Nat) : Int) := by simp
  have hl : x / 2 ^ k ≤ x := Nat.div_le_self _ _
  rw [e, show (1 : Int) = ((1 : Nat) : Int) from rfl, bits_and_u64 _ _ (by omega) (by omega), testBit_div, Bool.eq_iff_iff, beq_iff_eq, decide_eq_true_iff, Nat.and_one_is_mod]
  omega

theorem pow_word (k : Nat) (hk : k < 64) : IntKind.u64.wrap (2 ^ k) = ((2 ^ k : Nat) : Int) := by
  have h : 2 ^ k < 2 ^ 64 := Nat.pow_lt_pow_right (by omega) hk
  have e : ((2 : Int) ^ k) = ((2 ^ k : Nat) : Int) := by simp
  rw [e]
  obtain ⟨p, hp⟩ : ∃ p, 2 ^ k = p := ⟨_, rfl⟩
  rw [hp] at h ⊢
  exact IntWalk.u64_in _ (by omega)
theorem or_shl (x k : Nat) (hx : x < 18446744073709551616) (hk : k < 64) : bits .or .u64 (x : Int) (IntKind.u64.wrap (2 ^ k)) = ((x ||| 2 ^ k : Nat) : Int) := by
  rw [pow_word k hk, bits_or_u64 _ _ hx (Nat.pow_lt_pow_right (by omega) hk)]
theorem code_bhas (A : Option Addr) (n c : Nat) (ws : List Nat) (i : Int) (w : World) (B : Nat) (hs : Sl w B A n (ws.map wv)) (hn : n ≤ 9223372036854775807) (hw : Wd ws) (h0 : -9223372036854775808 ≤ i) (h1 : i ≤ 9223372036854775807) :
    Calls Tryz.prog 122 #[.slice A n c, .int .i64 i] w fun e w' => e = .returned (.bool (bHas ws i)) ∧ w = w' := by
  have hl : ws.length = n := by have := hs.1; simpa using this
  by_cases hneg : i < 0
  · rw [bHas_neg ws i hneg]
    clear hs hw hl
    go_enter Tryz.func122, Tryz.ntmps122
    go_wp2
    go_ret
    exact ⟨rfl, rfl⟩
  · have hp : 0 ≤ i := by omega
    by_cases hpast : (n : Int) ≤ i / 64
    · rw [bHas_past ws i (by omega)]
      clear hs hw hl
      go_enter Tryz.func122, Tryz.ntmps122
      go_wp2
      go_ret
      exact ⟨rfl, rfl⟩
    · obtain ⟨b, off, x, rfl, hx, hcell⟩ := hs.word (j := i.toNat / 64) (by omega)
      have E : Hid (bHas ws i = x.testBit (i.toNat % 64)) := hidb (by rw [bHas_at ws i hp, getD_at _ _ _ _ hx])
      have hxl := hw x (List.mem_of_getElem? hx)
      have hi64 : (i / 64).toNat = i.toNat / 64 := by omega
      have hi0 : 0 ≤ i / 64 := by omega
      have hi1 : i / 64 < n := by omega
      clear hs hw hl hx
      go_enter Tryz.func122, Tryz.ntmps122
      go_wp2
      go_ret
      exact ⟨congrArg Ending.returned (congrArg Value.bool ((bit_of x _ (i.toNat % 64) hxl (by omega)).trans E.out.symm)), rfl⟩

theorem code_bmay (i : Int) (w : World) :
    Calls Tryz.prog 72 #[.int .i64 i] w fun e w' => e = .returned (.bool (bMay i)) ∧ w = w' := by
  by_cases h0 : 0 ≤ i
  · by_cases h1 : i < 4096
    · rw [show bMay i = true from decide_eq_true ⟨h0, h1⟩]
      go_enter Tryz.func72, Tryz.ntmps72
      go_wp2
      go_ret
      exact ⟨rfl, rfl⟩
    · rw [show bMay i = false from decide_eq_false (by omega)]
      go_enter Tryz.func72, Tryz.ntmps72
      go_wp2
      go_ret
      exact ⟨rfl, rfl⟩
  · rw [show bMay i = false from decide_eq_false (by omega)]
    go_enter Tryz.func72, Tryz.ntmps72
    go_wp2
    go_ret
    exact ⟨rfl, rfl⟩

theorem clone_nil (w : World) (A : Option Addr) (n c : Nat) : (binOp .eql 51 (.slice A n c) (.slice none 0 0)).run Tryz.prog w = .ok (.bool A.isNone) w := Lib.run_eql_slice_nil w 51 32 A n c 0 0 (by kernel_rfl)

theorem code_bclone (A : Option Addr) (n c : Nat) (ws : List Nat) (w : World) (hs : Sl w w.heap.size A n (ws.map wv)) (hn : n ≤ 17592186044416) (hA : A = none → c = 0) :
    Calls Tryz.prog 94 #[.slice A n c] w (OwnWords w ws) := by
  obtain ⟨i0, hi, hz0, hz1, hz2⟩ := info_parts info_u64
  have l1 : ws.length = n := by have := hs.1; simpa using this
  cases A with
  | none =>
    obtain rfl : n = 0 := by
      refine Nat.eq_zero_of_not_pos fun h => ?_
      obtain ⟨b, off, e, _⟩ := hs.2 h
      cases e
    obtain rfl : c = 0 := hA rfl
    obtain rfl : ws = [] := List.eq_nil_of_length_eq_zero l1
    clear hs l1
    have q := clone_nil w none 0 0
    go_enter Tryz.func94, Tryz.ntmps94
    go_wp2
    go_ret
    exact ⟨none, 0, rfl, World.ownsRow_nil _ _ _ _, Below.refl _ _⟩
  | some p =>
    have HS := hidb hs
    have L1 := hidb l1
    clear hs l1
    have q := clone_nil w (some p) n c
    have hnews : Hid (∀ j u, (ws.map wv)[j]? = some u → (w.alloc (.cells #[] 32)).cell? (p.add j) = some u) := hidb (fun j u hu => by
      have hj : j < n := by
        have := (List.getElem?_eq_some_iff.1 hu).1
        rw [List.length_map, L1.out] at this; exact this
      obtain ⟨b, off, e, hb, hcells⟩ := HS.out.2 (by omega)
      obtain rfl : p = ⟨b, off, none⟩ := by injection e
      rw [Go.WideShapes.add_plain, World.cell?_alloc_lt w _ _ hb, hcells j hj, hu])
    have hone : Hid (∀ u ∈ ws.map wv, u.oneCell' = true) := hidb (fun u hu => by
      obtain ⟨x, _, rfl⟩ := List.mem_map.1 hu; rfl)
    have hown0 := hidb (ownsRow_empty w 32)
    go_enter Tryz.func94, Tryz.ntmps94
    go_wp2_with (at_builtin; refine wpList_append_own (w.alloc (.cells #[] 32)) rfl _ _ 51 rfl w.heap.size 32 i0 (.int .u64 0) 1 8 Tryz.underlying51 hi hz0 hz1 hz2 rfl (by decide) _ 0 [] rfl (by exact hown0.out) p n c (ws.map wv) rfl (by rw [List.length_map, L1.out, Nat.mul_one]) (by exact hnews.out) (by exact hone.out) (by unfold maxLen; omega) (by omega) (by simp) ?_; intro v1 w1 hown1 hg1 _)
    rw [Nat.zero_add, List.nil_append] at hown1
    have P : Hid (OwnWords w ws (.returned v1) w1) := hidb (by
      obtain ⟨A', c', rfl⟩ := own_form hown1
      rw [← L1.out] at hown1 ⊢
      refine ⟨A', c', rfl, hown1, ?_⟩
      exact ((Below.refl _ _).alloc (Nat.le_refl _) _).grown hg1 (by simp) (fun k hk => (hown0.out.lt k hk).1))
    clear hown1 hg1
    go_wp2
    go_ret
    exact P.out

theorem code_bset (v : Value) (ws : List Nat) (i : Int) (w : World) (base : Nat) (hown : w.ownsRow base 32 1 v ws.length (ws.map wv)) (hbase : base ≤ w.heap.size) (hw : Wd ws) (hn : ws.length ≤ 1000) (h0 : 0 ≤ i) (h1 : i < 4096) :
    Calls Tryz.prog 73 #[v, .int .i64 i] w fun e w' => ∃ A c, e = .returned (.slice A (bSet ws i.toNat).length c) ∧ w'.ownsRow base 32 1 (.slice A (bSet ws i.toNat).length c) (bSet ws i.toNat).length ((bSet ws i.toNat).map wv) ∧ Below base w w' := by
  obtain ⟨i0, hi, hz0, hz1, hz2⟩ := info_parts info_u64
  have HO := hidb hown
  clear hown
  have HW := hidb hw
  clear hw
  go_enter Tryz.func73, Tryz.ntmps73
  go_wp2
  go_loopw [0] (fun v wr => ∃ l : List Nat, l.length ≤ 1000 ∧ Hid (Wd l) ∧ Hid (bPad l (i.toNat / 64 + 1) = bPad ws (i.toNat / 64 + 1)) ∧ wr.ownsRow base 32 1 v l.length (l.map wv) ∧ Below base w wr) (fun v _ => 1000 - lenOf v)
  case atStart => exact ⟨ws, by omega, HW, hidb rfl, HO.out, Below.refl _ _⟩
  case round =>
    obtain ⟨l, hl, HL, HP, hown, hbel⟩ := hrel
    obtain ⟨A, c, rfl⟩ := own_form hown
    by_cases hlt : (l.length : Int) ≤ i / 64
    · have HPM : Hid (bPad (l ++ [0]) (i.toNat / 64 + 1) = bPad ws (i.toNat / 64 + 1)) := hidb (by rw [bPad_more l _ (by omega)]; exact HP.out)
      have HL2 : Hid (Wd (l ++ [0])) := hidb (fun x hx => by
        rcases List.mem_append.1 hx with hx | hx
        · exact HL.out x hx
        · rw [List.mem_singleton.1 hx]; omega)
      have hbsz := hbel.size
      have hb2 : base ≤ wr.heap.size := by omega
      have HB := hidb hbel
      clear hbel
      go_wp2_with (at_builtin; refine wpList_append_one wr rfl _ _ 51 rfl base 32 i0 (.int .u64 0) 8 Tryz.underlying51 hi hz0 hz1 hz2 rfl _ _ _ rfl (by exact hown) hb2 (.int .u64 0) rfl _ rfl (by unfold maxLen; omega) (by omega) ?_; intro v1 w1 hown1 hb1)
      have HO1 := hidb hown1
      have HB1 := hidb hb1
      clear hown1 hb1 hown
      go_roundw
      case rel => exact ⟨l ++ [0], by simp; omega, HL2, HPM, by rw [List.length_append, List.map_append]; exact HO1.out, HB.out.trans HB1.out⟩
      case measure =>
        obtain ⟨A', c', rfl⟩ := own_form HO1.out
        simp [lenOf]; omega
    · have hgt : i / 64 < (l.length : Int) := by omega
      obtain ⟨g, cap, hv, _, hglt⟩ := hown.form (by omega)
      obtain rfl : A = some ⟨g, 0, none⟩ := by injection hv
      obtain ⟨k, hk⟩ : ∃ k, i.toNat / 64 = k := ⟨_, rfl⟩
      have hik : (i / 64).toNat = k := by omega
      have hkl : k < l.length := by omega
      obtain ⟨x, hx⟩ : ∃ x, l[k]? = some x := ⟨_, List.getElem?_eq_getElem hkl⟩
      have hcell : wr.cell? ⟨g, k, none⟩ = some (.int .u64 (x : Int)) := by
        rw [hown.cellAt k (by omega), List.getElem?_map, hx]; rfl
      have hf := hown.frozenAt k
      have hi0 : 0 ≤ i / 64 := by omega
      have hm : (i % 64).toNat = i.toNat % 64 := by omega
      have hxl : x < 18446744073709551616 := HL.out x (List.mem_of_getElem? hx)
      have hor : Hid (bits .or .u64 (x : Int) (IntKind.u64.wrap (2 ^ (i.toNat % 64))) = ((x ||| 2 ^ (i.toNat % 64) : Nat) : Int)) := hidb (by exact or_shl x _ hxl (Nat.mod_lt _ (by omega)))
      have hset : bSet ws i.toNat = l.set k (x ||| 2 ^ (i.toNat % 64)) := by
        have e1 : bPad l (k + 1) = l := by unfold bPad; rw [show k + 1 - l.length = 0 by omega]; simp
        have e2 := HP.out
        rw [hk, e1] at e2
        have e3 := bPad_getD ws (k + 1) k
        rw [← e2, getD_at _ _ _ _ hx] at e3
        unfold bSet
        rw [hk, ← e2, ← e3]
      have hst := hown.stored k (wv (x ||| 2 ^ (i.toNat % 64)))
      have P : Hid ((wr.setCell ⟨g, k, none⟩ (.int .u64 ((x ||| 2 ^ (i.toNat % 64) : Nat) : Int))).ownsRow base 32 1 (.slice (some ⟨g, 0, none⟩) (bSet ws i.toNat).length c) (bSet ws i.toNat).length ((bSet ws i.toNat).map wv)) := hidb (by
        rw [hset, List.length_set, List.map_set]; exact hst.1)
      have HN : Hid (l.length = (bSet ws i.toNat).length) := hidb (by rw [hset, List.length_set])
      have hgb : base ≤ g := (hown.lt g rfl).1
      have HB := hidb (hbel.setCell (p := ⟨g, k, none⟩) hgb (.int .u64 ((x ||| 2 ^ (i.toNat % 64) : Nat) : Int)))
      clear hst hset hown hbel hx hk hv
      go_wp2
      go_region
      rw [hor.out]
      go_wp2
      go_ret
      exact ⟨some ⟨g, 0, none⟩, c, by rw [← HN.out]; rfl, P.out, HB.out.drew⟩

theorem code_bof (A : Option Addr) (n c : Nat) (zs : List Int) (w : World) (hs : Sl w w.heap.size A n (zs.map iv)) (hn : n ≤ 9223372036854775806) :
    Calls Tryz.prog 43 #[.slice A n c] w (OwnWords w (cOf zs)) := by
  have l1 : zs.length = n := by have := hs.1; simpa using this
  have L1 := hidb l1
  have HS := hidb hs
  clear hs l1
  go_enter Tryz.func43, Tryz.ntmps43
  go_wp2
  go_loopw [3, 8] (fun v k wr => ∃ j : Nat, j ≤ n ∧ k = .int .i64 j ∧ wr.ownsRow w.heap.size 32 1 v (cOf (zs.take j)).length ((cOf (zs.take j)).map wv) ∧ Below w.heap.size w wr) (fun _ k _ => (n - intOf k).toNat)
  case atStart => exact ⟨0, by omega, rfl, World.ownsRow_nil _ _ _ _, Below.refl _ _⟩
  case round =>
    obtain ⟨j, hj, rfl, hown, hbel⟩ := hrel
    by_cases hlt : j < n
    · obtain ⟨b, off, x, rfl, hx, hc⟩ := (HS.out.below hbel).int_ hlt
      have htk : cOf (zs.take (j + 1)) = if bMay x then bSet (cOf (zs.take j)) x.toNat else cOf (zs.take j) := by
        rw [List.take_add_one, hx]; exact cOf_snoc _ _
      have hbsz := hbel.size
      have HB := hidb hbel
      have cm := code_bmay x wr
      cases hM : bMay x with
      | true =>
        rw [hM, if_pos rfl] at htk
        rw [hM] at cm
        have hxr : 0 ≤ x ∧ x < 4096 := of_decide_eq_true hM
        have cs := code_bset _ (cOf (zs.take j)) x wr w.heap.size hown hbsz (cOf_wd _) (Nat.le_trans (cOf_length _) (by omega)) hxr.1 hxr.2
        rw [← htk] at cs
        clear hbel hM hown hx htk hxr
        go_wp2_with (first
          | (go_at_call 72; refine cm.mono ?_; rintro e w' ⟨rfl, rfl⟩)
          | (go_at_call 73; refine cs.mono ?_; rintro e w' ⟨A1, c1, rfl, hown1, hb1⟩))
        have HO := hidb hown1
        have HB1 := hidb hb1
        clear hown1 hb1 cs
        go_roundw
        case rel => exact ⟨j + 1, by omega, by go_num, HO.out, HB.out.trans HB1.out⟩
        case measure => simp [intOf]; omega
      | false =>
        rw [hM] at htk
        simp only [Bool.false_eq_true, if_false] at htk
        rw [hM] at cm
        have HO : Hid (wr.ownsRow w.heap.size 32 1 _ (cOf (zs.take (j + 1))).length ((cOf (zs.take (j + 1))).map wv)) := hidb (by rw [htk]; exact hown)
        clear hbel hM hown hx htk
        go_wp2_with (go_at_call 72; refine cm.mono ?_; rintro e w' ⟨rfl, rfl⟩)
        go_roundw
        case rel => exact ⟨j + 1, by omega, by go_num, HO.out, HB.out⟩
        case measure => simp [intOf]; omega
    · have hje : j = n := by omega
      have P : Hid (OwnWords w (cOf zs) (.returned u3) wr) := hidb (by
        rw [List.take_of_length_le (by rw [L1.out]; omega)] at hown
        obtain ⟨A', c', rfl⟩ := own_form hown
        exact ⟨A', c', rfl, hown, hbel⟩)
      clear hown hbel hje
      go_wp2
      go_ret
      exact P.out

/-- What the closure that Has hands on answers. -/
theorem code_bfn (A : Option Addr) (n c p : Nat) (ws : List Nat) (i : Int) (w : World) (B : Nat) (hp : w.cell? ⟨p, 0, none⟩ = some (.slice A n c)) (hs : Sl w B A n (ws.map wv)) (hn : n ≤ 9223372036854775807) (hw : Wd ws) (h0 : -9223372036854775808 ≤ i) (h1 : i ≤ 9223372036854775807) :
    Calls Tryz.prog 121 #[.int .i64 i, .pointer (some ⟨p, 0, none⟩)] w fun e w' => e = .returned (.bool (!bHas ws i)) ∧ w = w' := by
  have cb := code_bhas A n c ws i w B hs hn hw h0 h1
  clear hs hw
  go_enter Tryz.func121, Tryz.ntmps121
  go_wp2_with (go_at_call 122; refine cb.mono ?_; rintro e w' ⟨rfl, rfl⟩)
  go_ret
  exact ⟨by first | rfl | simp, rfl⟩

theorem code_bindex (A A2 : Option Addr) (n c m d p : Nat) (ws : List Nat) (zs : List Int) (w : World) (B B2 : Nat) (hp : w.cell? ⟨p, 0, none⟩ = some (.slice A n c)) (hs : Sl w B A n (ws.map wv)) (hn : n ≤ 9223372036854775807) (hw : Wd ws)
    (hs2 : Sl w B2 A2 m (zs.map iv)) (hm : m ≤ 9223372036854775806) (hz : ∀ x ∈ zs, -9223372036854775808 ≤ x ∧ x ≤ 9223372036854775807) :
    Calls Tryz.prog 124 #[.slice A2 m d, .func (.func 121) #[] #[.pointer (some ⟨p, 0, none⟩)]] w fun e w' => (∃ r : Int, e = .returned (.int .i64 r) ∧ -1 ≤ r ∧ r ≤ 9223372036854775807 ∧ decide (0 ≤ r) = !zs.all (bHas ws)) ∧ w = w' := by
  have hl : zs.length = m := by have := hs2.1; simpa using this
  have HL := hidb hl; clear hl
  have cf := fun i h0 h1 => code_bfn A n c p ws i w B hp hs hn hw h0 h1
  have HS2 := hidb hs2; clear hs2
  have HZ := hidb hz; clear hz
  clear hp hs hw
  go_enter Tryz.func124, Tryz.ntmps124
  go_wp2
  go_loop [8] (fun k => ∃ j : Nat, j ≤ m ∧ Hid (∀ i, i < j → bHas ws (zs.getD i 0) = true) ∧ k = .int .i64 j) (fun k => (m - intOf k).toNat)
  case atStart => exact ⟨0, by omega, hidb (fun i h => absurd h (Nat.not_lt_zero _)), rfl⟩
  case round =>
    obtain ⟨j, hj, HA, rfl⟩ := hrel
    by_cases hlt : j < m
    · obtain ⟨b, off, x, rfl, hx, hc⟩ := HS2.out.int_ hlt
      have hb := HZ.out x (List.mem_of_getElem? hx)
      have HX := hidb hx
      have hcon := cf x hb.1 hb.2
      clear hx hb
      cases hB : bHas ws x with
      | true =>
        have HB := hidb hB
        rw [hB] at hcon
        clear hB
        go_wp2_with (go_at_call 121; refine hcon.mono ?_; rintro e w' ⟨rfl, rfl⟩)
        go_round
        case rel =>
          refine ⟨j + 1, by omega, hidb (fun i hi => ?_), by go_num⟩
          by_cases h : i = j
          · subst h; rw [getD_at _ _ _ _ HX.out]; exact HB.out
          · exact HA.out i (by omega)
        case measure => simp [intOf]; omega
      | false =>
        have HB := hidb hB
        rw [hB] at hcon
        clear hB
        go_wp2_with (go_at_call 121; refine hcon.mono ?_; rintro e w' ⟨rfl, rfl⟩)
        go_ret
        refine ⟨⟨(j : Int), rfl, by omega, by omega, ?_⟩, rfl⟩
        have hall : zs.all (bHas ws) = false := by
          rw [List.all_eq_false]; exact ⟨x, List.mem_of_getElem? HX.out, by rw [HB.out]; simp⟩
        rw [hall]; exact decide_eq_true (by omega)
    · have : j = m := by omega
      subst this
      go_wp2
      go_ret
      refine ⟨⟨-1, rfl, by omega, by omega, ?_⟩, rfl⟩
      have hall : zs.all (bHas ws) = true := by
        rw [List.all_eq_true]
        intro x hx
        obtain ⟨i, hi, rfl⟩ := List.getElem_of_mem hx
        have := HA.out i (by have := HL.out; omega)
        rwa [List.getD_eq_getElem?_getD, List.getElem?_eq_getElem hi] at this
      rw [hall]; exact decide_eq_false (by omega)

theorem code_bcontains (A A2 : Option Addr) (n c m d p : Nat) (ws : List Nat) (zs : List Int) (w : World) (B B2 : Nat) (hp : w.cell? ⟨p, 0, none⟩ = some (.slice A n c)) (hs : Sl w B A n (ws.map wv)) (hn : n ≤ 9223372036854775807) (hw : Wd ws)
    (hs2 : Sl w B2 A2 m (zs.map iv)) (hm : m ≤ 9223372036854775806) (hz : ∀ x ∈ zs, -9223372036854775808 ≤ x ∧ x ≤ 9223372036854775807) :
    Calls Tryz.prog 120 #[.slice A2 m d, .func (.func 121) #[] #[.pointer (some ⟨p, 0, none⟩)]] w fun e w' => e = .returned (.bool (!zs.all (bHas ws))) ∧ w = w' := by
  have hcon := code_bindex A A2 n c m d p ws zs w B B2 hp hs hn hw hs2 hm hz
  clear hp hs hw hs2 hz
  generalize (!zs.all (bHas ws)) = r at hcon ⊢
  go_enter Tryz.func120, Tryz.ntmps120
  go_wp2_with (go_at_call 124; refine hcon.mono ?_; rintro e w' ⟨⟨k, rfl, hk0, hk1, hk2⟩, rfl⟩)
  go_ret
  exact ⟨congrArg Ending.returned (congrArg Value.bool (by first | rfl | assumption)), rfl⟩

theorem code_bHas (A A2 : Option Addr) (n c m d : Nat) (ws : List Nat) (zs : List Int) (w : World) (hs : Sl w w.heap.size A n (ws.map wv)) (hn : n ≤ 9223372036854775807) (hw : Wd ws)
    (hs2 : Sl w w.heap.size A2 m (zs.map iv)) (hm : m ≤ 9223372036854775806) (hz : ∀ x ∈ zs, -9223372036854775808 ≤ x ∧ x ≤ 9223372036854775807) :
    Calls Tryz.prog 96 #[.slice A n c, .slice A2 m d] w fun e w' => e = .returned (.bool (zs.all (bHas ws))) ∧ w' = w.alloc (.cells #[.slice A n c] 51) := by
  have hcon := code_bcontains A A2 n c m d w.heap.size ws zs (w.alloc (.cells #[.slice A n c] 51)) w.heap.size w.heap.size (by simp) (hs.alloc (Nat.le_refl _) _) hn hw (hs2.alloc (Nat.le_refl _) _) hm hz
  clear hs hw hs2 hz
  generalize zs.all (bHas ws) = r at hcon ⊢
  go_enter Tryz.func96, Tryz.ntmps96
  go_wp2_with (go_at_call 120; refine hcon.mono ?_; rintro e w' ⟨rfl, rfl⟩)
  go_ret
  exact ⟨by simp, rfl⟩

end Go.Proofs.YtdcnpaodcjfdbaaGreatDoor

/- The walks of layer 3's statements on counting, listing and texts: each returns true, and leaves memory as it was, but for new blocks. -/
import Derived.Test.YtbjcdfhckhpoiaaDoorBitRead
import Derived.Test.YtbjcdfhckhpoiaaDoorBitAwake
import Derived.Test.YtbjcdfhckhpoiaaDoorBitRefD
namespace Go.Proofs.YtbjcdfhckhpoiaaDoor
open Go.RowKit
set_option linter.unusedVariables false

theorem wv_one (l : List Nat) : ∀ u ∈ l.map wv, u.oneCell' = true := fun u hu => by
  obtain ⟨x, _, rfl⟩ := List.mem_map.1 hu; rfl

theorem bSame_refl (l : List Nat) : bSame l l = true := by rw [bSame_trim, decide_eq_true_iff]

theorem bitmapTells_any (A : Option Addr) (n c : Nat) (ws : List Nat) (m : Int) (w : World) (hs : Sl w w.heap.size A n (ws.map wv)) (hnc : n ≤ c) (hcm : c ≤ 9223372036854775807) (hA : A = none → c = 0) (hw : Wd ws)
    (h0 : -9223372036854775808 ≤ m) (h1 : m ≤ 9223372036854775807) (ht : TabDB w) :
    Calls Tryd.prog 3 #[.slice A n c, .int .i64 m] w fun e w' => e = .returned (.bool true) ∧ Below w.heap.size w w' := by
  have ca := fun W => awake_any W
  by_cases hbig : 70 < n
  · clear hs hw ht
    go_enter Tryd.func3, Tryd.ntmps3
    go_wp2_with (go_at_call 5; refine (ca _).mono ?_; rintro e w1 ⟨rfl, hb1⟩)
    go_ret
    exact ⟨rfl, hb1⟩
  · have hn1 : n ≤ 70 := by omega
    obtain ⟨i0, hi, hz0, hz1, hz2⟩ := info_parts info_u64
    have HS := hidb hs
    have HW := hidb hw
    have HT := hidb ht
    have HO := hidb (wv_one ws)
    clear hs hw hbig ht
    go_enter Tryd.func3, Tryd.ntmps3
    go_wp2_with (at_builtin; refine wpList_copy w rfl _ _ 22 rfl 41 i0 (.int .u64 0) 8 Tryd.underlying22 hi hz0 hz1 hz2 rfl A n c (ws.map wv) rfl rfl HS.out hA HO.out (by unfold maxLen; omega) (by omega) ?_)
    intro A1 c1 w1 hown1 hb1
    have hsz1 := hb1.size
    have HS1 := hidb (HS.out.below hb1)
    have HWAS := hidb (Sl.of_own hown1)
    have HB1 := hidb hb1
    have c2 := ref_bbits A n c ws m w1 (HS1.out.more hsz1) (by omega) HW.out h0 h1
    clear hown1 hb1
    go_wp2_with (go_at_call 6; refine c2.mono ?_)
    rintro e w2 ⟨A2, c2', rfl, hown2, hb2⟩
    have hsz2 := hb2.size
    have HB2 := hidb (HB1.out.trans (hb2.mono hsz1))
    have HS2 := hidb (HS.out.below HB2.out)
    have HWAS2 := hidb (HWAS.out.below hb2)
    have HL2 := hidb (Sl.of_own hown2)
    have hll : (bBits ws (min m.toNat (64 * n))).length ≤ 4480 := Nat.le_trans (bBits_length _ _) (by omega)
    have c3 := code_bcount A n c ws m w2 (HS2.out.more (by omega)) (by omega) hnc hcm hA HW.out h0 h1
    clear hown2 hb2 c2
    generalize hL : bBits ws (min m.toNat (64 * n)) = L at *
    go_wp2_with (go_at_call 7; refine c3.mono ?_)
    rintro e w3 ⟨rfl, hb3⟩
    have hsz3 := hb3.size
    have HB3 := hidb (HB2.out.trans (hb3.mono (by omega)))
    have HS3 := hidb (HS.out.below HB3.out)
    have HWAS3 := hidb (HWAS2.out.below (hb3.mono (by omega)))
    have HL3 := hidb (HL2.out.below hb3)
    have c4 := code_bbits A n c ws m w3 (HS3.out.more (by omega)) (by omega) hnc hcm hA HW.out h0 h1 (TabDB.below HT.out HB3.out)
    rw [hL] at c4
    clear hb3 c3
    go_wp2_with (go_at_call 9; refine c4.mono ?_)
    rintro e w4 ⟨A4, c4', rfl, hown4, hb4⟩
    have hsz4 := hb4.size
    have HB4 := hidb (HB3.out.trans (hb4.mono (by omega)))
    have HS4 := hidb (HS.out.below HB4.out)
    have HWAS4 := hidb (HWAS3.out.below (hb4.mono (by omega)))
    have HL4 := hidb (HL3.out.below (hb4.mono (by omega)))
    have c5 := ref_bints A4 A2 _ c4' _ c2' L L w4 _ _ (Sl.of_own hown4) HL4.out (by omega) (by omega)
    rw [show decide (L = L) = true by simp] at c5
    have c6 := fun q => code_btext A n c ws m (w4.drewN q) ((HS4.out.drewN q).more (by show _ ≤ w4.heap.size; omega)) (by omega) HW.out h0 h1
    clear hown4 hb4 c4
    go_wp2_with (first
      | (go_at_call 8; refine c5.mono ?_; rintro e w' ⟨rfl, q, rfl⟩)
      | (go_at_call 10; refine (c6 _).mono ?_))
    rintro e w5 ⟨rfl, hb5⟩
    have hb5' : Below w4.heap.size (w4.drewN q) w5 := hb5
    have hsz5 : w4.heap.size ≤ w5.heap.size := hb5'.size
    have HB5 := hidb ((belowN HB4.out q).trans (hb5'.mono (by omega)))
    have HS5 := hidb (HS.out.below HB5.out)
    have HWAS5 := hidb ((HWAS4.out.drewN q).below (hb5'.mono (by omega)))
    have c7 := ref_btext A n c ws m w5 _ HS5.out (by omega) HW.out h0 h1
    have c8 := ref_bsame A1 A n c1 n c ws ws w5 _ _ HWAS5.out HS5.out (by omega) (by omega)
    rw [bSame_refl] at c8
    have hmt : (min m 4096).toNat = min m.toNat 4096 := by omega
    have c9 := awake_any w5
    have hF := hidb (show w.heap.size ≤ w5.heap.size by omega)
    clear hb5 hb5' c5 c6
    rw [hmt]
    generalize bText ws (min m.toNat 4096) = T at *
    go_wp2_with (first
      | (go_at_call 11; refine c7.mono ?_; rintro e w' ⟨rfl, rfl⟩)
      | (go_at_call 12; refine c8.mono ?_; rintro e w' ⟨rfl, rfl⟩)
      | (go_at_call 5; refine c9.mono ?_; rintro e w6 ⟨rfl, hb6⟩))
    go_ret
    exact ⟨rfl, HB5.out.trans (hb6.mono hF.out)⟩

/-- What a text is read as: the code's answer against the document's. -/
theorem read_facts (l : List UInt8) : (rRead l).2 = (bRead l).2 ∧ bBits (rRead l).1 (min 4096 (64 * (rRead l).1.length)) = (bRead l).1 ∧ Wd (rRead l).1 ∧ (rRead l).1.length ≤ 64 ∧ (∀ n, (rRead l).1.length = n + 1 → (rRead l).1.getD n 0 ≠ 0) ∧ (bRead l).1.length ≤ 4096 := by
  unfold rRead bRead
  by_cases h : 4096 < l.length
  · rw [if_pos h, if_pos h]
    exact ⟨rfl, rfl, fun x hx => by simp at hx, by simp, fun n hn => by simp at hn, by simp⟩
  · rw [if_neg h, if_neg h]
    cases bDigits l with
    | false => exact ⟨rfl, rfl, fun x hx => by simp at hx, by simp, fun n hn => by simp at hn, by simp⟩
    | true => exact ⟨rfl, ones_bits l (by omega) _ rfl, cOf_wd _, cOf_length _, cOf_tight _, Nat.le_trans (bOnes_length l) (by omega)⟩
theorem read_text (ws : List Nat) (hl : ws.length ≤ 64) (m : Int) : rRead (bText ws (min m 4096).toNat) = (cOf (bBits ws (min m.toNat (64 * ws.length))), 0) ∧ bRead (bText ws (min m 4096).toNat) = (bBits ws (min m.toNat (64 * ws.length)), 0) := by
  have hlen : ¬ 4096 < (bText ws (min m 4096).toNat).length := by rw [bText_length]; omega
  unfold rRead bRead
  rw [if_neg hlen, if_neg hlen, text_digits, text_ones, bits_short ws hl]
  exact ⟨rfl, rfl⟩

theorem bitmapReads_any (s : ByteArray) (A : Option Addr) (n c : Nat) (ws : List Nat) (m : Int) (w : World) (hss : s.size ≤ 9223372036854775807) (hs : Sl w w.heap.size A n (ws.map wv)) (hnm : n ≤ 9223372036854775807) (hw : Wd ws)
    (h0 : -9223372036854775808 ≤ m) (h1 : m ≤ 9223372036854775807) :
    Calls Tryd.prog 4 #[.string s, .slice A n c, .int .i64 m] w fun e w' => e = .returned (.bool true) ∧ Below w.heap.size w w' := by
  have ca := fun W => awake_any W
  by_cases hbig : 5000 < s.size
  · clear hs hw
    go_enter Tryd.func4, Tryd.ntmps4
    go_wp2_with (go_at_call 5; refine (ca _).mono ?_; rintro e w1 ⟨rfl, hb1⟩)
    go_ret
    exact ⟨rfl, hb1⟩
  · by_cases hbig2 : 64 < n
    · clear hs hw
      go_enter Tryd.func4, Tryd.ntmps4
      go_wp2_with (go_at_call 5; refine (ca _).mono ?_; rintro e w1 ⟨rfl, hb1⟩)
      go_ret
      exact ⟨rfl, hb1⟩
    · have hn1 : n ≤ 64 := by omega
      have l1 : ws.length = n := by have := hs.1; simpa using this
      obtain ⟨f1, f2, f3, f4, f5, f6⟩ := read_facts s.data.toList
      obtain ⟨g1, g2⟩ := read_text ws (by omega) m
      obtain ⟨k1, k2, k3, k4, k5, k6⟩ := read_facts (bText ws (min m 4096).toNat)
      rw [g1, g2] at k2
      rw [g2] at k6
      rw [g1] at k3 k4
      have HS := hidb hs
      have HW := hidb hw
      have hs5 : s.size ≤ 5000 := by omega
      clear hs hw hbig hbig2 k1 k5 g2
      have c1 := code_bread s w (by omega)
      have c2 := fun W => ref_bread s W (by unfold maxLen; omega)
      rw [l1] at k2 k3 k4 k6 g1
      rw [← f1] at c2
      generalize (bRead s.data.toList).1 = R at f2 f6 c2
      generalize (rRead s.data.toList).2 = no at c1 c2
      generalize (rRead s.data.toList).1 = X at f2 f3 f4 f5 c1
      have F2 := hidb f2
      have F3 := hidb f3
      have F5 := hidb f5
      have G1 := hidb g1
      have K2 := hidb k2
      have K3 := hidb k3
      clear f1 f2 f3 f5 g1 k2 k3
      generalize hY : cOf (bBits ws (min m.toNat (64 * n))) = Y at *
      clear hY
      generalize hL : bBits ws (min m.toNat (64 * n)) = L at *
      go_enter Tryd.func4, Tryd.ntmps4
      go_wp2_with (go_at_call 13; refine c1.mono ?_)
      rintro e w1 ⟨A1, k1, rfl, hown1, hb1⟩
      have hsz1 := hb1.size
      have HX1 := hidb (Sl.of_own hown1)
      have HB1 := hidb hb1
      clear hown1 hb1 c1
      go_wp2_with (go_at_call 14; refine (c2 _).mono ?_)
      rintro e w2 ⟨A2, k2, rfl, hown2, hb2⟩
      have hsz2 := hb2.size
      have HX2 := hidb (HX1.out.below hb2)
      have HR2 := hidb (Sl.of_own hown2)
      have HB2 := hidb (HB1.out.trans (hb2.mono hsz1))
      have c3 := ref_bbits A1 X.length k1 X 4096 w2 (HX2.out.more hsz2) (by omega) F3.out (by omega) (by omega)
      rw [show (4096 : Int).toNat = 4096 from rfl, F2.out] at c3
      clear hown2 hb2 c2
      have hno : (no != no) = false := by simp
      go_wp2_with (go_at_call 6; refine c3.mono ?_)
      rintro e w3 ⟨A3, k3, rfl, hown3, hb3⟩
      have hsz3 := hb3.size
      have HX3 := hidb (HX2.out.below (hb3.mono (by omega)))
      have HR3 := hidb (HR2.out.below hb3)
      have HB3 := hidb (HB2.out.trans (hb3.mono (by omega)))
      have c4 := ref_bints A3 A2 _ k3 _ k2 R R w3 _ _ (Sl.of_own hown3) HR3.out (by omega) (by omega)
      rw [show decide (R = R) = true by simp] at c4
      have c5 := fun q => tight_any A1 X.length k1 X (w3.drewN q) _ (HX3.out.drewN q) (by omega) F5.out
      have HS3 := hidb (HS.out.below HB3.out)
      have c6 := fun q => code_btext A n c ws m (w3.drewN q) ((HS3.out.drewN q).more (by show _ ≤ w3.heap.size; omega)) (by omega) HW.out h0 h1
      clear hown3 hb3 c3
      go_wp2_with (first
        | (go_at_call 8; refine c4.mono ?_; rintro e w' ⟨rfl, q, rfl⟩)
        | (go_at_call 15; refine (c5 _).mono ?_; rintro e w' ⟨rfl, rfl⟩)
        | (go_at_call 10; refine (c6 _).mono ?_))
      rintro e w4 ⟨rfl, hb4⟩
      have hb4' : Below w3.heap.size (w3.drewN q) w4 := hb4
      have hsz4 : w3.heap.size ≤ w4.heap.size := hb4'.size
      have HB4 := hidb ((belowN HB3.out q).trans (hb4'.mono (by omega)))
      have c7 := code_bread ⟨(bText ws (min m 4096).toNat).toArray⟩ w4 (by
        show (bText ws (min m 4096).toNat).toArray.size ≤ _
        rw [List.size_toArray, bText_length]; omega)
      have et : (⟨(bText ws (min m 4096).toNat).toArray⟩ : ByteArray).data.toList = bText ws (min m 4096).toNat := rfl
      rw [et, G1.out] at c7
      clear hb4 hb4' c4 c5 c6 et G1
      generalize bText ws (min m 4096).toNat = T at *
      go_wp2_with (go_at_call 13; refine c7.mono ?_)
      rintro e w5 ⟨A5, k5, rfl, hown5, hb5⟩
      have hsz5 := hb5.size
      have HB5 := hidb (HB4.out.trans (hb5.mono (by omega)))
      have hlY : Y.length ≤ 64 := k4
      have c8 := ref_bbits A5 Y.length k5 Y 4096 w5 (Sl.of_own hown5) (by omega) K3.out (by omega) (by omega)
      rw [show (4096 : Int).toNat = 4096 from rfl, K2.out] at c8
      clear hown5 hb5 c7
      go_wp2_with (go_at_call 6; refine c8.mono ?_)
      rintro e w6 ⟨A6, k6', rfl, hown6, hb6⟩
      have hsz6 := hb6.size
      have HB6 := hidb (HB5.out.trans (hb6.mono (by omega)))
      have HL6 := hidb (Sl.of_own hown6)
      have c9 := ref_bbits A n c ws m w6 ((HS.out.below HB6.out).more (by omega)) (by omega) HW.out h0 h1
      rw [hL] at c9
      clear hown6 hb6 c8
      go_wp2_with (go_at_call 6; refine c9.mono ?_)
      rintro e w7 ⟨A7, k7, rfl, hown7, hb7⟩
      have hsz7 := hb7.size
      have HB7 := hidb (HB6.out.trans (hb7.mono (by omega)))
      have c10 := ref_bints A6 A7 _ k6' _ k7 L L w7 _ _ (HL6.out.below hb7) (Sl.of_own hown7) (by omega) (by omega)
      rw [show decide (L = L) = true by simp] at c10
      have hF := hidb (show w.heap.size ≤ w7.heap.size by omega)
      clear hown7 hb7 c9
      go_wp2_with (first
        | (go_at_call 8; refine c10.mono ?_; rintro e w' ⟨rfl, q2, rfl⟩)
        | (go_at_call 5; refine (ca _).mono ?_; rintro e w8 ⟨rfl, hb8⟩))
      go_ret
      exact ⟨rfl, (belowN HB7.out q2).trans (hb8.mono hF.out)⟩

end Go.Proofs.YtbjcdfhckhpoiaaDoor

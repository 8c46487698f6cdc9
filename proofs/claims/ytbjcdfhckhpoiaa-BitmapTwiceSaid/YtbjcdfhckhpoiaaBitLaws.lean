/- The walks of layer 3's statements that read no table: each returns true, and leaves memory as it was, but for new blocks. -/
import Derived.Test.YtbjcdfhckhpoiaaBitText
import Derived.Test.YtbjcdfhckhpoiaaBitRef
import Derived.Test.YtbjcdfhckhpoiaaBitRefO
namespace Go.Proofs.Ytbjcdfhckhpoiaa
open Go.RowKit
set_option linter.unusedVariables false

theorem Sl.lit {w : World} (e : TypeId) (l : List Value) (hn : l.length ≤ 1000) : Sl (w.alloc (.cells l.toArray e)) (w.alloc (.cells l.toArray e)).heap.size (some ⟨w.heap.size, 0, none⟩) l.length l :=
  Sl.of_own (World.ownsRow_lit (base := w.heap.size) (e := e) (size := 1) w l.toArray l.length (Nat.le_refl _) (by unfold maxLen; omega) (by simp))

theorem belowN {B : Nat} {a w : World} (h : Below B a w) (q : Nat) : Below B a (w.drewN q) := ⟨h.os, h.tape, h.output, h.size, h.block⟩

theorem awake_of : cOf [1, 3] = [10] := by decide
theorem awake_text : bText [10] (min 5 4096 : Int).toNat = [48, 49, 48, 49, 48] := by decide
theorem awake_wd : Wd [10] := fun x hx => by rw [List.mem_singleton.1 hx]; omega

theorem awake_any (w : World) : Calls Try.prog 6 #[] w fun e w' => e = .returned (.bool true) ∧ Below w.heap.size w w' := by
  have c1 := code_bof (some ⟨w.heap.size, 0, none⟩) 2 2 [1, 3] (w.alloc (.cells #[.int .i64 1, .int .i64 3] 3)) (Sl.lit (w := w) 3 [.int .i64 1, .int .i64 3] (by decide)) (by omega)
  rw [awake_of] at c1
  go_enter Try.func6, Try.ntmps6
  go_wp2_with (go_at_call 7; refine c1.mono ?_)
  rintro e w1 ⟨A, c, rfl, hown, hb1⟩
  have hsl := Sl.of_own hown
  have HB1 : Hid (Below w.heap.size w w1) := hidb (((Below.refl _ _).alloc (Nat.le_refl _) _).trans (hb1.mono (by simp)))
  have c2 := code_btext A 1 c [10] 5 w1 hsl (by omega) awake_wd (by omega) (by omega)
  rw [awake_text] at c2
  clear hown hb1 c1
  have HSL := hidb hsl
  clear hsl
  go_wp2_with (go_at_call 15; refine c2.mono ?_)
  rintro e w2 ⟨rfl, hb2⟩
  have HB2 := hidb hb2
  have hsl2 : Sl w2 w1.heap.size A 1 ([10].map wv) := HSL.out.below hb2
  have hsz := hb2.size
  have c3 := code_bHas A (some ⟨w2.heap.size, 0, none⟩) 1 c 1 1 [10] [3] (w2.alloc (.cells #[.int .i64 3] 3)) ((hsl2.alloc hsz _).more (by simp; omega)) (by omega) awake_wd (Sl.lit (w := w2) 3 [.int .i64 3] (by decide)) (by omega) (by simp)
  rw [show ([3] : List Int).all (bHas [10]) = true by decide] at c3
  have HS2 := hidb hsl2
  clear hb2 c2 hsl2
  go_wp2_with (go_at_call 12; refine c3.mono ?_)
  rintro e w3 ⟨rfl, rfl⟩
  generalize hW3 : (w2.alloc (.cells #[.int .i64 3] 3)).alloc (.cells #[.slice A 1 c] 24) = w3
  have hsz3 : w2.heap.size ≤ w3.heap.size := by rw [← hW3]; simp; omega
  have hsl3 : Sl w3 w1.heap.size A 1 ([10].map wv) := by rw [← hW3]; exact (HS2.out.alloc hsz _).alloc (by simp; omega) _
  have HB3 : Hid (Below w.heap.size w w3) := hidb (by
    have h1 := HB1.out.size
    rw [← hW3]; exact ((HB1.out.trans (HB2.out.mono (by omega))).alloc (by omega) _).alloc (by simp; omega) _)
  clear hW3 c3
  have c4 := code_bHas A (some ⟨w3.heap.size, 0, none⟩) 1 c 1 1 [10] [2] (w3.alloc (.cells #[.int .i64 2] 3)) ((hsl3.alloc (by omega) _).more (by simp; omega)) (by omega) awake_wd (Sl.lit (w := w3) 3 [.int .i64 2] (by decide)) (by omega) (by simp)
  rw [show ([2] : List Int).all (bHas [10]) = false by decide] at c4
  clear hsl3
  go_wp2_with (go_at_call 12; refine c4.mono ?_; rintro e w4 ⟨rfl, rfl⟩)
  go_ret
  refine ⟨rfl, ?_⟩
  have h1 := HB1.out.size
  exact (HB3.out.alloc (by omega) _).alloc (by simp; omega) _

theorem tight_any (A : Option Addr) (n c : Nat) (ws : List Nat) (w : World) (B : Nat) (hs : Sl w B A n (ws.map wv)) (hn : n ≤ 9223372036854775807) (ht : ∀ n, ws.length = n + 1 → ws.getD n 0 ≠ 0) :
    Calls Try.prog 11 #[.slice A n c] w fun e w' => e = .returned (.bool true) ∧ w = w' := by
  have hl : ws.length = n := by have := hs.1; simpa using this
  cases n with
  | zero =>
    clear hs ht
    go_enter Try.func11, Try.ntmps11
    go_wp2
    go_ret
    exact ⟨rfl, rfl⟩
  | succ k =>
    obtain ⟨b, off, x, rfl, hx, hc⟩ := hs.word (j := k) (by omega)
    have h0 := ht k hl
    rw [getD_at _ _ _ _ hx] at h0
    have eb : ((x : Int) != 0) = true := by simpa using h0
    have hk1 : (k : Int) < ((k + 1 : Nat) : Int) := by omega
    clear hs ht hl hx h0
    go_enter Try.func11, Try.ntmps11
    go_wp2
    go_ret
    exact ⟨rfl, rfl⟩

theorem bitmapOf_any (A A2 : Option Addr) (n c m d : Nat) (zs ys : List Int) (w : World) (hs : Sl w w.heap.size A n (zs.map iv)) (hs2 : Sl w w.heap.size A2 m (ys.map iv)) (hn : n ≤ 9223372036854775807) (hm : m ≤ 9223372036854775807)
    (hz : ∀ x ∈ zs, -9223372036854775808 ≤ x ∧ x ≤ 9223372036854775807) (hy : ∀ x ∈ ys, -9223372036854775808 ≤ x ∧ x ≤ 9223372036854775807) :
    Calls Try.prog 3 #[.slice A n c, .slice A2 m d] w fun e w' => e = .returned (.bool true) ∧ Below w.heap.size w w' := by
  by_cases hbig : 100 < n ∨ 100 < m
  · have ca := awake_any w
    clear hs hs2 hz hy
    by_cases h1 : 100 < n
    · go_enter Try.func3, Try.ntmps3
      go_wp2_with (go_at_call 6; refine ca.mono ?_; rintro e w1 ⟨rfl, hb1⟩)
      go_ret
      exact ⟨rfl, hb1⟩
    · have h2 : 100 < m := by omega
      go_enter Try.func3, Try.ntmps3
      go_wp2_with (go_at_call 6; refine ca.mono ?_; rintro e w1 ⟨rfl, hb1⟩)
      go_ret
      exact ⟨rfl, hb1⟩
  · have hn1 : n ≤ 100 := by omega
    have hm1 : m ≤ 100 := by omega
    clear hbig hn hm
    have c1 := code_bof A n c zs w hs (by omega)
    have l2 : ys.length = m := by have := hs2.1; simpa using this
    have L2 := hidb l2
    clear l2
    have HS := hidb hs
    have HS2 := hidb hs2
    have HZ := hidb hz
    have HY := hidb hy
    clear hs hs2 hz hy
    go_enter Try.func3, Try.ntmps3
    go_wp2_with (go_at_call 7; refine c1.mono ?_)
    rintro e w1 ⟨A1, k1, rfl, hown1, hb1⟩
    have hsz1 := hb1.size
    have c2 := ref_bof A n c zs w1 ((HS.out.below hb1).more hsz1) (by omega) HZ.out
    have HSL1 := hidb (Sl.of_own hown1)
    have HB1 := hidb hb1
    clear hb1 hown1 c1
    go_wp2_with (go_at_call 8; refine c2.mono ?_)
    rintro e w2 ⟨A2', k2, rfl, hown2, hb2⟩
    have hsz2 := hb2.size
    have HSL2 := hidb (Sl.of_own hown2)
    have HB2 := hidb (HB1.out.trans (hb2.mono hsz1))
    have HSL1' := hidb (HSL1.out.below hb2)
    have HSY := hidb (HS2.out.below HB2.out)
    have hlen1 := cOf_length zs
    have hlen2 : (bOf zs).length ≤ 64 := by unfold bOf; rw [List.length_map, List.length_range]; have := bMost_range zs; unfold bCount; omega
    clear hb2 hown2 c2
    generalize hN1 : (cOf zs).length = n1 at HSL1' hlen1 ⊢
    generalize hN2 : (bOf zs).length = n2 at HSL2 hlen2 ⊢
    go_wp2
    go_loop [7, 8] (fun v k => ∃ j : Nat, j ≤ m ∧ v = .bool ((ys.take j).all (bHas (bOf zs))) ∧ k = .int .i64 j) (fun _ k => (m - intOf k).toNat)
    case atStart => exact ⟨0, by omega, rfl, rfl⟩
    case round =>
      obtain ⟨j, hj, rfl, rfl⟩ := hrel
      by_cases hlt : j < m
      · obtain ⟨b, off, x, rfl, hx, hc⟩ := HSY.out.int_ hlt
        have hxr := HY.out x (List.mem_of_getElem? hx)
        have htk : (ys.take (j + 1)).all (bHas (bOf zs)) = ((ys.take j).all (bHas (bOf zs)) && bHas (bOf zs) x) := by
          rw [List.take_add_one, hx, List.all_append]; simp
        have ch := ref_bhas A2' n2 k2 (bOf zs) x w2 _ HSL2.out (by omega) (bOf_wd zs) hxr.1 hxr.2
        cases hB : (ys.take j).all (bHas (bOf zs)) with
        | true =>
          rw [hB, Bool.true_and] at htk
          have HTK := hidb htk
          clear htk hB hx hxr
          go_wp2_with (go_at_call 9; refine ch.mono ?_; rintro e w' ⟨rfl, rfl⟩)
          go_round
          case rel => exact ⟨j + 1, by omega, by rw [HTK.out], by go_num⟩
          case measure => simp [intOf]; omega
        | false =>
          rw [hB, Bool.false_and] at htk
          have HTK := hidb htk
          clear htk hB hx hxr ch
          go_wp2
          go_round
          case rel => exact ⟨j + 1, by omega, by rw [HTK.out], by go_num⟩
          case measure => simp [intOf]; omega
      · have hje : j = m := by omega
        have hall : (ys.take j).all (bHas (bOf zs)) = ys.all (bHas (cOf zs)) := by
          rw [List.take_of_length_le (by rw [L2.out]; omega)]
          congr 1
          funext i
          rw [cOf_has, bOf_has]
        rw [hall]
        have cs := ref_bsame A1 A2' n1 k1 n2 k2 (cOf zs) (bOf zs) w2 _ _ HSL1'.out HSL2.out (by omega) (by omega)
        rw [cOf_same] at cs
        have ct := tight_any A1 n1 k1 (cOf zs) w2 _ HSL1'.out (by omega) (cOf_tight zs)
        have chh := code_bHas A1 A2 n1 k1 m d (cOf zs) ys w2 (HSL1'.out.more hsz2) (by omega) (cOf_wd zs) (HSY.out.more (by omega)) (by omega) HY.out
        generalize ys.all (bHas (cOf zs)) = r at chh ⊢
        have ca := fun W => awake_any W
        have hr : (r == r) = true := by simp
        clear hall
        go_wp2_with (first
          | (go_at_call 10; refine cs.mono ?_; rintro e w' ⟨rfl, rfl⟩)
          | (go_at_call 11; refine ct.mono ?_; rintro e w' ⟨rfl, rfl⟩)
          | (go_at_call 12; refine chh.mono ?_; rintro e w' ⟨rfl, rfl⟩)
          | (go_at_call 6; refine (ca _).mono ?_; rintro e w4 ⟨rfl, hb4⟩))
        go_ret
        refine ⟨rfl, ?_⟩
        exact (HB2.out.alloc (by omega) _).trans (hb4.mono (by simp; omega))

theorem bitmapTwice_any (A : Option Addr) (n c : Nat) (ws : List Nat) (i k : Int) (on off : Bool) (w : World) (hs : Sl w w.heap.size A n (ws.map wv)) (hn : n ≤ 9223372036854775807) (hA : A = none → c = 0) (hw : Wd ws)
    (hi : -9223372036854775808 ≤ i ∧ i ≤ 9223372036854775807) (hk : -9223372036854775808 ≤ k ∧ k ≤ 9223372036854775807) :
    Calls Try.prog 5 #[.slice A n c, .int .i64 i, .int .i64 k, .bool on, .bool off] w fun e w' => e = .returned (.bool true) ∧ Below w.heap.size w w' := by
  have ca := fun W => awake_any W
  by_cases hbig : 70 < n
  · clear hs hw
    go_enter Try.func5, Try.ntmps5
    go_wp2_with (go_at_call 6; refine (ca _).mono ?_; rintro e w1 ⟨rfl, hb1⟩)
    go_ret
    exact ⟨rfl, hb1⟩
  · by_cases hik : i = k
    · clear hs hw
      have eb : (i == k) = true := by simpa using hik
      go_enter Try.func5, Try.ntmps5
      go_wp2_with (go_at_call 6; refine (ca _).mono ?_; rintro e w1 ⟨rfl, hb1⟩)
      go_ret
      exact ⟨rfl, hb1⟩
    · have eb : (i == k) = false := by simpa using hik
      have hn1 : n ≤ 70 := by omega
      have l1 : ws.length = n := by have := hs.1; simpa using this
      have len1 := bWith_length ws i on 70 (by omega) (by omega)
      have len2 := bWith_length (bWith ws i on) k off 70 len1 (by omega)
      have len3 := bWith_length ws k off 70 (by omega) (by omega)
      have len4 := bWith_length (bWith ws k off) i on 70 len3 (by omega)
      have TW := hidb (bWith_twice ws hw i k on off hik)
      have HS := hidb hs
      have HW := hidb hw
      have c1 := code_bWith A n c ws i on w hs (by omega) hA hw hi.1 hi.2
      clear hs hw hbig l1
      go_enter Try.func5, Try.ntmps5
      go_wp2_with (go_at_call 13; refine c1.mono ?_)
      rintro e w1 ⟨A1, k1, rfl, hle1, hcap1, hA1, hsl1, hb1⟩
      have c2 := code_bWith A1 _ k1 (bWith ws i on) k off w1 hsl1 (by omega) hA1 (bWith_wd HW.out _ _) hk.1 hk.2
      have hsz1 := hb1.size
      have HB1 := hidb hb1
      clear c1 hsl1 hb1
      go_wp2_with (go_at_call 13; refine c2.mono ?_)
      rintro e w2 ⟨A2, k2, rfl, hle2, hcap2, hA2, hsl2, hb2⟩
      have hsz2 := hb2.size
      have HB2 := hidb (HB1.out.trans (hb2.mono hsz1))
      have c3 := code_bWith A n c ws k off w2 ((HS.out.below HB2.out).more (by omega)) (by omega) hA HW.out hk.1 hk.2
      have HSL2 := hidb hsl2
      clear c2 hsl2 hb2
      go_wp2_with (go_at_call 13; refine c3.mono ?_)
      rintro e w3 ⟨A3, k3, rfl, hle3, hcap3, hA3, hsl3, hb3⟩
      have c4 := code_bWith A3 _ k3 (bWith ws k off) i on w3 hsl3 (by omega) hA3 (bWith_wd HW.out _ _) hi.1 hi.2
      have hsz3 := hb3.size
      have HB3 := hidb (HB2.out.trans (hb3.mono (by omega)))
      have HSL2' := hidb (HSL2.out.below hb3)
      clear c3 hsl3 hb3
      go_wp2_with (go_at_call 13; refine c4.mono ?_)
      rintro e w4 ⟨A4, k4, rfl, hle4, hcap4, hA4, hsl4, hb4⟩
      have hsz4 := hb4.size
      have HB4 := hidb (HB3.out.trans (hb4.mono (by omega)))
      have hslx := HSL2'.out.below (hb4.mono (by omega))
      have c5 := code_bSame A2 A4 _ k2 _ k4 _ _ w4 _ _ hslx hsl4 hle2 hle4 hcap2 hcap4 (by omega) (by omega)
      have c6 := fun q => ref_bsame A2 A4 _ k2 _ k4 _ _ (w4.drewN q) _ _ (hslx.drewN q) (hsl4.drewN q) (by omega) (by omega)
      have c7 := fun q => tight_any A2 _ k2 (bWith (bWith ws i on) k off) (w4.drewN q) _ (hslx.drewN q) (by omega) (bWith_last _ _ _)
      rw [TW.out] at c5 c6
      clear c4 hsl4 hb4 hslx
      generalize (bWith (bWith ws i on) k off).length = n2 at *
      generalize (bWith (bWith ws k off) i on).length = n4 at *
      go_wp2_with (first
        | (go_at_call 14; refine c5.mono ?_; rintro e w' ⟨rfl, q, rfl⟩)
        | (go_at_call 10; refine (c6 _).mono ?_; rintro e w' ⟨rfl, rfl⟩)
        | (go_at_call 11; refine (c7 _).mono ?_; rintro e w' ⟨rfl, rfl⟩)
        | (go_at_call 6; refine (ca _).mono ?_; rintro e w5 ⟨rfl, hb5⟩))
      go_ret
      refine ⟨rfl, ?_⟩
      exact (belowN HB4.out _).trans (hb5.mono (by show _ ≤ w4.heap.size; omega))

end Go.Proofs.Ytbjcdfhckhpoiaa

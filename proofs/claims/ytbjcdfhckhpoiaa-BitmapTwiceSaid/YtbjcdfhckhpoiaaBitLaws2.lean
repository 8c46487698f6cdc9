/- The walk of layer 3's statement on a bitmap with another bit. -/
import Derived.Test.YtbjcdfhckhpoiaaBitLaws
namespace Go.Proofs.Ytbjcdfhckhpoiaa
open Go.RowKit
set_option linter.unusedVariables false

/-- What the bit reads as, case by case. -/
theorem with_ways (ws : List Nat) (i : Int) (on : Bool) : ∃ r : Bool, [i].all (bHas (bWith ws i on)) = r ∧
    ((0 ≤ i ∧ i < 4096 ∧ on = true ∧ r = true) ∨ (0 ≤ i ∧ i < 4096 ∧ on = false ∧ r = false) ∨ (i < 0 ∧ bHas ws i = true ∧ r = true) ∨ (i < 0 ∧ bHas ws i = false ∧ r = false) ∨ (4096 ≤ i ∧ bHas ws i = true ∧ r = true) ∨ (4096 ≤ i ∧ bHas ws i = false ∧ r = false)) := by
  refine ⟨_, rfl, ?_⟩
  have e : [i].all (bHas (bWith ws i on)) = if bMay i = true ∧ i = i then on else bHas ws i := by rw [← bWith_has]; simp
  rw [e]
  by_cases h : 0 ≤ i ∧ i < 4096
  · rw [if_pos ⟨decide_eq_true h, rfl⟩]
    cases on <;> simp [h]
  · rw [if_neg (fun c => h (of_decide_eq_true c.1))]
    cases hB : bHas ws i with
    | true => by_cases h0 : i < 0 <;> simp <;> omega
    | false => by_cases h0 : i < 0 <;> simp <;> omega
theorem with_else (ws : List Nat) (i k : Int) (on : Bool) (h : k ≠ i) : [k].all (bHas (bWith ws i on)) = bHas ws k := by
  have e := bWith_has ws i on k
  rw [if_neg (fun c => h c.2)] at e
  simp [e]

set_option maxHeartbeats 2000000 in
theorem bitmapWith_any (A : Option Addr) (n c : Nat) (ws : List Nat) (i : Int) (on : Bool) (k : Int) (w : World) (hs : Sl w w.heap.size A n (ws.map wv)) (hn : n ≤ c) (hcm : c ≤ 9223372036854775807) (hA : A = none → c = 0) (hw : Wd ws)
    (hi : -9223372036854775808 ≤ i ∧ i ≤ 9223372036854775807) (hk : -9223372036854775808 ≤ k ∧ k ≤ 9223372036854775807) :
    Calls Try.prog 4 #[.slice A n c, .int .i64 i, .bool on, .int .i64 k] w fun e w' => e = .returned (.bool true) ∧ Below w.heap.size w w' := by
  have ca := fun W => awake_any W
  by_cases hbig : 70 < n
  · clear hs hw
    go_enter Try.func4, Try.ntmps4
    go_wp2_with (go_at_call 6; refine (ca _).mono ?_; rintro e w1 ⟨rfl, hb1⟩)
    go_ret
    exact ⟨rfl, hb1⟩
  · have hn1 : n ≤ 70 := by omega
    have l1 : ws.length = n := by have := hs.1; simpa using this
    have len1 := bWith_length ws i on 70 (by omega) (by omega)
    obtain ⟨r, hr, hways⟩ := with_ways ws i on
    have HR := hidb hr
    have HS := hidb hs
    have HW := hidb hw
    have c1 := code_bWith A n c ws i on w hs (by omega) hA hw hi.1 hi.2
    clear hs hw hbig l1 hr
    have HI := hidb hi
    have HK := hidb hk
    obtain ⟨hi0, hi1⟩ := hi
    obtain ⟨hk0, hk1⟩ := hk
    go_enter Try.func4, Try.ntmps4
    go_wp2_with (go_at_call 13; refine c1.mono ?_)
    rintro e w1 ⟨A1, k1, rfl, hle1, hcap1, hA1, hsl1, hb1⟩
    have hsz1 := hb1.size
    have HSW := hidb (HS.out.below hb1)
    have HB1 := hidb hb1
    have HX := hidb (bWith_wd HW.out i on)
    have HL := hidb (bWith_last ws i on)
    have HE := hidb (fun h => with_else ws i k on h)
    generalize hx : bWith ws i on = x at *
    clear hx c1 hb1
    have HSX := hidb hsl1
    have c2 := tight_any A1 _ k1 x w1 _ hsl1 (by omega) HL.out
    have c3 := code_bHas A1 (some ⟨w1.heap.size, 0, none⟩) _ k1 1 1 x [i] (w1.alloc (.cells #[.int .i64 i] 3)) ((hsl1.alloc (Nat.le_refl _) _).more (by simp)) (by omega) HX.out (Sl.lit (w := w1) 3 [.int .i64 i] (by simp)) (by omega) (fun y hy => by rw [List.mem_singleton.1 hy]; exact HI.out)
    rw [HR.out] at c3
    have c4 := fun W (hW : Below w.heap.size w W) => ref_bhas A n c ws i W w.heap.size (HS.out.below hW) (by omega) HW.out hi0 hi1
    clear hsl1
    obtain ⟨W2, hW2⟩ : ∃ W2, W2 = (w1.alloc (.cells #[.int .i64 i] 3)).alloc (.cells #[.slice A1 x.length k1] 24) := ⟨_, rfl⟩
    have hsz2 : w1.heap.size + 2 = W2.heap.size := by rw [hW2]; simp
    have hB12 : Below w1.heap.size w1 W2 := by rw [hW2]; exact ((Below.refl _ _).alloc (Nat.le_refl _) _).alloc (by simp) _
    have HB2 := hidb (HB1.out.trans (hB12.mono hsz1))
    have HSX2 := hidb (HSX.out.below hB12)
    have c5 := c4 W2 HB2.out
    have c6 := code_bHas A1 (some ⟨W2.heap.size, 0, none⟩) _ k1 1 1 x [k] (W2.alloc (.cells #[.int .i64 k] 3)) ((HSX2.out.alloc (by omega) _).more (by simp; omega)) (by omega) HX.out (Sl.lit (w := W2) 3 [.int .i64 k] (by simp)) (by omega) (fun y hy => by rw [List.mem_singleton.1 hy]; exact HK.out)
    obtain ⟨W3, hW3⟩ : ∃ W3, W3 = (W2.alloc (.cells #[.int .i64 k] 3)).alloc (.cells #[.slice A1 x.length k1] 24) := ⟨_, rfl⟩
    have hsz3 : W2.heap.size + 2 = W3.heap.size := by rw [hW3]; simp
    have hB23 : Below W2.heap.size W2 W3 := by rw [hW3]; exact ((Below.refl _ _).alloc (Nat.le_refl _) _).alloc (by simp) _
    have HB3 := hidb (HB2.out.trans (hB23.mono (by omega)))
    have c7 := ref_bhas A n c ws k W3 w.heap.size (HS.out.below HB3.out) (by omega) HW.out hk0 hk1
    have HSX3 := hidb (HSX2.out.below (hB23.mono (by omega)))
    have cS : ∀ W, Below w.heap.size w W → Sl W w1.heap.size A1 x.length (x.map wv) → Calls Try.prog 14 #[.slice A1 x.length k1, .slice A n c] W fun e w' => e = .returned (.bool (bSame x ws)) ∧ ∃ q, w' = W.drewN q := fun W hW hX => code_bSame A1 A _ k1 n c x ws W _ _ hX (HS.out.below hW) hle1 hn hcap1 hcm (by omega) (by omega)
    have cT : ∀ W, Below w.heap.size w W → Sl W w1.heap.size A1 x.length (x.map wv) → ∀ q, Calls Try.prog 10 #[.slice A1 x.length k1, .slice A n c] (W.drewN q) fun e w' => e = .returned (.bool (bSame x ws)) ∧ W.drewN q = w' := fun W hW hX q => ref_bsame A1 A _ k1 n c x ws (W.drewN q) _ _ (hX.drewN q) ((HS.out.below hW).drewN q) (by omega) (by omega)
    have s2 := cS W2 HB2.out HSX2.out
    have t2 := cT W2 HB2.out HSX2.out
    have s3 := cS W3 HB3.out HSX3.out
    have t3 := cT W3 HB3.out HSX3.out
    generalize bSame x ws = z at s2 t2 s3 t3
    have hz : (z == z) = true := by simp
    clear cS cT c4 hB12 hB23
    have EW2 := hidb hW2
    have EW3 := hidb hW3
    clear hW2 hW3
    have HL2 := hidb hsz2
    have HL3 := hidb hsz3
    have HL1 := hidb hsz1
    clear hsz2 hsz3 hsz1
    have F2 : Hid (∀ q w5, Below (W2.drewN q).heap.size (W2.drewN q) w5 → Below w.heap.size w w5) := hidb (fun q w5 h => (belowN HB2.out q).trans (h.mono (by show _ ≤ W2.heap.size; have := HL1.out; have := HL2.out; omega)))
    have F3 : Hid (∀ q w5, Below (W3.drewN q).heap.size (W3.drewN q) w5 → Below w.heap.size w w5) := hidb (fun q w5 h => (belowN HB3.out q).trans (h.mono (by show _ ≤ W3.heap.size; have := HL1.out; have := HL2.out; have := HL3.out; omega)))
    generalize x.length = n1 at *
    by_cases hki : k = i
    · have eb : (k == i) = true := by simpa using hki
      clear c6 c7 s3 t3 HE
      rcases hways with ⟨a1, a2, rfl, rfl⟩ | ⟨a1, a2, rfl, rfl⟩ | ⟨a1, a2, rfl⟩ | ⟨a1, a2, rfl⟩ | ⟨a1, a2, rfl⟩ | ⟨a1, a2, rfl⟩
      all_goals (first | rw [a2] at c5 | skip)
      all_goals (go_wp2_with (first
        | (go_at_call 11; refine c2.mono ?_; rintro e w' ⟨rfl, rfl⟩)
        | (go_at_call 12; refine c3.mono ?_; rintro e w' ⟨rfl, rfl⟩; rw [← EW2.out])
        | (go_at_call 9; refine c5.mono ?_; rintro e w' ⟨rfl, rfl⟩)
        | (go_at_call 14; refine s2.mono ?_; rintro e w' ⟨rfl, q, rfl⟩)
        | (go_at_call 10; refine (t2 _).mono ?_; rintro e w' ⟨rfl, rfl⟩)
        | (go_at_call 6; refine (ca _).mono ?_; rintro e w5 ⟨rfl, hb5⟩)))
      all_goals go_ret
      all_goals exact ⟨rfl, F2.out _ _ hb5⟩
    · have eb : (k == i) = false := by simpa using hki
      rw [HE.out hki] at c6
      generalize bHas ws k = y at c6 c7
      have hy : (y == y) = true := by simp
      clear s2 t2 HE
      rcases hways with ⟨a1, a2, rfl, rfl⟩ | ⟨a1, a2, rfl, rfl⟩ | ⟨a1, a2, rfl⟩ | ⟨a1, a2, rfl⟩ | ⟨a1, a2, rfl⟩ | ⟨a1, a2, rfl⟩
      all_goals (first | rw [a2] at c5 | skip)
      all_goals (go_wp2_with (first
        | (go_at_call 11; refine c2.mono ?_; rintro e w' ⟨rfl, rfl⟩)
        | (go_at_call 12; (with_reducible refine c3.mono ?_); rintro e w' ⟨rfl, rfl⟩; rw [← EW2.out])
        | (go_at_call 12; (with_reducible refine c6.mono ?_); rintro e w' ⟨rfl, rfl⟩; rw [← EW3.out])
        | (go_at_call 9; (with_reducible refine c5.mono ?_); rintro e w' ⟨rfl, rfl⟩)
        | (go_at_call 9; (with_reducible refine c7.mono ?_); rintro e w' ⟨rfl, rfl⟩)
        | (go_at_call 14; refine s3.mono ?_; rintro e w' ⟨rfl, q, rfl⟩)
        | (go_at_call 10; refine (t3 _).mono ?_; rintro e w' ⟨rfl, rfl⟩)
        | (go_at_call 6; refine (ca _).mono ?_; rintro e w5 ⟨rfl, hb5⟩)))
      all_goals go_ret
      all_goals exact ⟨rfl, F3.out _ _ hb5⟩

end Go.Proofs.Ytbjcdfhckhpoiaa

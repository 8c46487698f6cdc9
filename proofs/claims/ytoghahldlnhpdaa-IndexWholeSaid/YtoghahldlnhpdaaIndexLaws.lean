/- The walks of layer 5's example, and of its statement on a nil index. -/
import Derived.Test.YtoghahldlnhpdaaIndexNil
import Derived.Test.YtoghahldlnhpdaaRunSame
namespace Go.Proofs.Ytoghahldlnhpdaa
open Go.RowKit
set_option linter.unusedVariables false

theorem err_eq (a b : Int) (W : World) : (binOp .eql 33 (.int .i64 a) (.int .i64 b)).run Try.prog W = .ok (.bool (a == b)) W := by
  simp [go_sem]

theorem aw1 : xPut (List.replicate 8 0) 3 [(2, 3)] false = ([0, 0, 3, 3, 3, 0, 0, 0], 0) := by decide
theorem aw2 : xRuns [0, 0, 3, 3, 3, 0, 0, 0] 0 = [(0, 2), (5, 3)] := by decide
theorem aw3 : xOf [0, 0, 3, 3, 3, 0, 0, 0] (pageOf 256) = 3 := by decide

theorem Rn.one {w : World} (s l : Int) (t : TypeId) : Rn (w.alloc (.cells #[.int .i64 s, .int .i64 l] t)) (w.heap.size + 1) (some ⟨w.heap.size, 0, none⟩) 1 [(s, l)] :=
  ⟨rfl, fun _ => ⟨w.heap.size, 0, rfl, by omega, fun j r hj => by
    cases j with
    | zero =>
      obtain rfl : (s, l) = r := by simpa using hj
      simp [iv]
    | succ j => simp at hj⟩⟩
theorem Rn.two {w : World} (s l s2 l2 : Int) (t : TypeId) : Rn (w.alloc (.cells #[.int .i64 s, .int .i64 l, .int .i64 s2, .int .i64 l2] t)) (w.heap.size + 1) (some ⟨w.heap.size, 0, none⟩) 2 [(s, l), (s2, l2)] :=
  ⟨rfl, fun _ => ⟨w.heap.size, 0, rfl, by omega, fun j r hj => by
    match j, hj with
    | 0, hj =>
      obtain rfl : (s, l) = r := by simpa using hj
      simp [iv]
    | 1, hj =>
      obtain rfl : (s2, l2) = r := by simpa using hj
      simp [iv]
    | j + 2, hj => simp at hj⟩⟩

set_option maxHeartbeats 1000000 in
theorem awake5 (w : World) : Calls Try.prog 7 #[] w fun e w' => e = .returned (.bool true) ∧ Below w.heap.size w w' := by
  have c1 := code_xnew_at 8 8 w (by omega) (by omega) (by omega)
  unfold ResIx at c1
  have c2 : ∀ (w1 : World) (p g : Nat), Ix w1 w.heap.size p g 8 (List.replicate 8 0) → Below w.heap.size w w1 →
      Calls Try.prog 12 #[.pointer (some ⟨p, 0, none⟩), .int .i64 3, .slice (some ⟨w1.heap.size, 0, none⟩) 1 1] (w1.alloc (.cells #[.int .i64 2, .int .i64 3] 44)) fun e w2 => e = .returned (.int .i64 0) ∧ Ix w2 w.heap.size p g 8 [0, 0, 3, 3, 3, 0, 0, 0] ∧ Below w.heap.size w w2 := fun w1 p g hx hb => by
    have hl := hx.lt
    have hR := Rn.one (w := w1) 2 3 44
    refine (code_xset 3 _ 1 1 [(2, 3)] _ (hx.alloc (.cells #[.int .i64 2, .int .i64 3] 44)) (fun b off _ e => ?_) (hR.more (by simp)) (by omega) (fun r hr => ?_) ⟨by omega, by omega⟩).mono ?_
    · injection e with e; injection e with e; omega
    · obtain rfl : r = (2, 3) := by simpa using hr
      exact ⟨⟨by omega, by omega⟩, ⟨by omega, by omega⟩⟩
    · rintro e w2 ⟨rfl, h1, h2⟩
      rw [aw1] at h1 ⊢
      exact ⟨rfl, h1, (hb.alloc hb.size _).grown h2 (Nat.le_trans hb.size (by simp)) (fun k hk => by cases hk; exact hx.geg)⟩
  have c3 : ∀ (w2 : World) (p g : Nat), Ix w2 w.heap.size p g 8 [0, 0, 3, 3, 3, 0, 0, 0] →
      Calls Try.prog 18 #[.pointer (some ⟨p, 0, none⟩), .int .i64 0] w2 fun e w3 => ∃ A c, e = .returned (.slice A 2 c) ∧ Rn w3 w3.heap.size A 2 [(0, 2), (5, 3)] ∧ Below w2.heap.size w2 w3 := fun w2 p g hx => by
    refine (code_xruns hx 0 ⟨by omega, by omega⟩).mono ?_
    rintro e w3 ⟨A, c, rfl, h1, h2⟩
    rw [aw2] at h1 ⊢
    exact ⟨A, c, rfl, Rn.of_own h1 rfl, h2⟩
  have c4 : ∀ (w3 : World) (A : Option Addr) (c : Nat), Rn w3 w3.heap.size A 2 [(0, 2), (5, 3)] →
      Calls Try.prog 17 #[.slice A 2 c, .slice (some ⟨w3.heap.size, 0, none⟩) 2 2] (w3.alloc (.cells #[.int .i64 0, .int .i64 2, .int .i64 5, .int .i64 3] 44)) fun e w4 => e = .returned (.bool true) ∧ ∃ q, w4 = (w3.alloc (.cells #[.int .i64 0, .int .i64 2, .int .i64 5, .int .i64 3] 44)).drewN q := fun w3 A c hR =>
    ref_xsame A _ 2 c 2 2 _ _ _ _ _ (hR.alloc (Nat.le_refl _) _) (Rn.two 0 2 5 3 _) (by omega) (by omega)
  have c5 : ∀ (w4 : World) (p g : Nat), Ix w4 w.heap.size p g 8 [0, 0, 3, 3, 3, 0, 0, 0] → Calls Try.prog 15 #[.pointer (some ⟨p, 0, none⟩), .int .i64 256] w4 fun e w5 => e = .returned (.int .i64 3) ∧ w4 = w5 := fun w4 p g hx => by
    have := code_xat hx 256 ⟨by omega, by omega⟩
    rw [aw3] at this; exact this
  have C2 := hidb c2
  have C3 := hidb c3
  have C4 := hidb c4
  have C5 := hidb c5
  have HE : ∀ W, (binOp .eql 33 (.int .i64 0) (.int .i64 0)).run Try.prog W = .ok (.bool true) W := fun W => err_eq 0 0 W
  clear c2 c3 c4 c5
  go_enter Try.func7, Try.ntmps7
  go_wp2_with (first
    | (go_at_call 8; (with_reducible refine c1.mono ?_); rintro e w1 ⟨p, g, rfl, hx1, hb1⟩; have d2 := C2.out _ _ _ hx1 hb1; clear hx1 hb1)
    | (go_at_call 12; (with_reducible refine d2.mono ?_); rintro e w2 ⟨rfl, hx2, hb2⟩; have d3 := C3.out _ _ _ hx2; have HX2 := hidb hx2; have HB2 := hidb hb2; clear hx2 hb2)
    | (go_at_call 18; (with_reducible refine d3.mono ?_); rintro e w3 ⟨A3, c3, rfl, hR3, hb3⟩; have d4 := C4.out _ _ c3 hR3; have HX3 := hidb (HX2.out.below hb3 (Nat.le_refl _)); have HB3 := hidb (HB2.out.trans (hb3.mono HB2.out.size)); clear hR3 hb3)
    | (go_at_call 17; (with_reducible refine d4.mono ?_); rintro e w4 ⟨rfl, q, rfl⟩; have d5 := C5.out _ _ _ ((HX3.out.alloc (.cells #[.int .i64 0, .int .i64 2, .int .i64 5, .int .i64 3] 44)).drewN q))
    | (go_at_call 15; (with_reducible refine d5.mono ?_); rintro e w5 ⟨rfl, rfl⟩))
  go_ret
  exact ⟨rfl, belowN (HB3.out.alloc HB3.out.size _) _⟩


set_option maxHeartbeats 2000000 in
theorem indexNil_any (id page : Int) (A : Option Addr) (m c : Nat) (rs : List (Int × Int)) (w : World) (h0 : in64 id) (h1 : in64 page) (hm : m ≤ maxLen) (hs : Rn w w.heap.size A m rs) (hr : ∀ r ∈ rs, in64 r.1 ∧ in64 r.2) :
    Calls Try.prog 5 #[.int .i64 id, .int .i64 page, .slice A m c] w fun e w' => e = .returned (.bool true) ∧ Below w.heap.size w w' := by
  have ca := fun W => awake5 W
  unfold maxLen at hm
  by_cases g1 : 5 < m
  · clear hs hr
    go_enter Try.func5, Try.ntmps5
    go_wp2_with (go_at_call 7; refine (ca _).mono ?_; rintro e w1 ⟨rfl, hb1⟩)
    go_ret
    exact ⟨rfl, hb1⟩
  obtain ⟨no, hno⟩ : ∃ no, nilNo rs = no := ⟨_, rfl⟩
  have hl := hs.1
  have hno2 : (0 < m ∧ no = 2) ∨ (¬ 0 < m ∧ no = 0) := by
    rw [← hno, ← hl]
    cases rs with
    | nil => right; exact ⟨by simp, rfl⟩
    | cons r rs => left; exact ⟨by simp, by simp [nilNo]⟩
  have C1 : Hid (∀ W, Below w.heap.size w W → Calls Try.prog 11 #[.pointer none, .slice A m c] W fun e w' => e = .returned (.int .i64 no) ∧ Below W.heap.size W w') := hidb (fun W hb => by
    rw [← hno]; exact code_xdrop_nil A m c rs W ((hs.below hb).more hb.size) (by omega) hr)
  have C2 : Hid (∀ W, Below w.heap.size w W → 1 ≤ id → Calls Try.prog 12 #[.pointer none, .int .i64 id, .slice A m c] W fun e w' => e = .returned (.int .i64 no) ∧ Below W.heap.size W w') := hidb (fun W hb hi => by
    rw [← hno]; exact code_xset_nil id A m c rs W ((hs.below hb).more hb.size) (by omega) hr h0 (by omega))
  have C3 : Hid (∀ W, id < 1 → Calls Try.prog 12 #[.pointer none, .int .i64 id, .slice A m c] W fun e w' => e = .returned (.int .i64 1) ∧ Below W.heap.size W w') := hidb (fun W hi => code_xset_less id A m c W hi h0.1)
  have c4 := fun W => code_xpages_nil W
  have c5 := fun W => code_xof_nil W page h1
  have c6 := fun W => code_xat_nil W page h1
  have c7 := fun W => code_xruns_nil id W h0
  have d1 := C1.out w (Below.refl _ _)
  have h00 := h0.1
  have h01 := h0.2
  clear hs hr hno hl h0 h1
  by_cases hid : id < 1
  · have C3' := fun W => C3.out W hid
    rcases hno2 with ⟨hm1, rfl⟩ | ⟨hm1, rfl⟩
    all_goals
      go_enter Try.func5, Try.ntmps5
      go_wp2_with (first
        | (go_at_call 11; (with_reducible refine d1.mono ?_); rintro e w1 ⟨rfl, hb1⟩)
        | (go_at_call 12; (with_reducible refine (C3' _).mono ?_); rintro e w2 ⟨rfl, hb2⟩)
        | (go_at_call 7; (with_reducible refine (ca _).mono ?_); rintro e w3 ⟨rfl, hb3⟩))
      go_ret
      exact ⟨rfl, nextB (nextB hb1 hb2) hb3⟩
  · have hid2 : 1 ≤ id := by omega
    have C2' := fun W hb => C2.out W hb hid2
    rcases hno2 with ⟨hm1, rfl⟩ | ⟨hm1, rfl⟩
    all_goals
      go_enter Try.func5, Try.ntmps5
      go_wp2_with (first
        | (go_at_call 11; (with_reducible refine d1.mono ?_); rintro e w1 ⟨rfl, hb1⟩; have d2 := C2' _ hb1)
        | (go_at_call 12; (with_reducible refine d2.mono ?_); rintro e w2 ⟨rfl, hb2⟩)
        | (go_at_call 16; (with_reducible refine (c4 _).mono ?_); rintro e w' ⟨rfl, rfl⟩)
        | (go_at_call 13; (with_reducible refine (c5 _).mono ?_); rintro e w' ⟨rfl, rfl⟩)
        | (go_at_call 15; (with_reducible refine (c6 _).mono ?_); rintro e w' ⟨rfl, rfl⟩)
        | (go_at_call 18; (with_reducible refine (c7 _).mono ?_); rintro e w' ⟨rfl, rfl⟩)
        | (go_at_call 7; (with_reducible refine (ca _).mono ?_); rintro e w3 ⟨rfl, hb3⟩))
      go_ret
      exact ⟨rfl, nextB (nextB hb1 hb2) hb3⟩

end Go.Proofs.Ytoghahldlnhpdaa

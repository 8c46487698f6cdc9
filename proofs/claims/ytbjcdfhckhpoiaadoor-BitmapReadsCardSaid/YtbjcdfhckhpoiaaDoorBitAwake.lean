/- The document's example of layer 3, and a bitmap without a word 0 at its end, as its statements ask for them. -/
import Derived.Test.YtbjcdfhckhpoiaaDoorBitText
namespace Go.Proofs.YtbjcdfhckhpoiaaDoor
open Go.RowKit
set_option linter.unusedVariables false

theorem Sl.lit {w : World} (e : TypeId) (l : List Value) (hn : l.length ≤ 1000) : Sl (w.alloc (.cells l.toArray e)) (w.alloc (.cells l.toArray e)).heap.size (some ⟨w.heap.size, 0, none⟩) l.length l :=
  Sl.of_own (World.ownsRow_lit (base := w.heap.size) (e := e) (size := 1) w l.toArray l.length (Nat.le_refl _) (by unfold maxLen; omega) (by simp))

theorem belowN {B : Nat} {a w : World} (h : Below B a w) (q : Nat) : Below B a (w.drewN q) := ⟨h.os, h.tape, h.output, h.size, h.block⟩

theorem awake_of : cOf [1, 3] = [10] := by decide
theorem awake_text : bText [10] (min 5 4096 : Int).toNat = [48, 49, 48, 49, 48] := by decide
theorem awake_wd : Wd [10] := fun x hx => by rw [List.mem_singleton.1 hx]; omega

theorem awake_any (w : World) : Calls Tryd.prog 5 #[] w fun e w' => e = .returned (.bool true) ∧ Below w.heap.size w w' := by
  have c1 := code_bof (some ⟨w.heap.size, 0, none⟩) 2 2 [1, 3] (w.alloc (.cells #[.int .i64 1, .int .i64 3] 3)) (Sl.lit (w := w) 3 [.int .i64 1, .int .i64 3] (by decide)) (by omega)
  rw [awake_of] at c1
  go_enter Tryd.func5, Tryd.ntmps5
  go_wp2_with (go_at_call 16; refine c1.mono ?_)
  rintro e w1 ⟨A, c, rfl, hown, hb1⟩
  have hsl := Sl.of_own hown
  have HB1 : Hid (Below w.heap.size w w1) := hidb (((Below.refl _ _).alloc (Nat.le_refl _) _).trans (hb1.mono (by simp)))
  have c2 := code_btext A 1 c [10] 5 w1 hsl (by omega) awake_wd (by omega) (by omega)
  rw [awake_text] at c2
  clear hown hb1 c1
  have HSL := hidb hsl
  clear hsl
  go_wp2_with (go_at_call 10; refine c2.mono ?_)
  rintro e w2 ⟨rfl, hb2⟩
  have HB2 := hidb hb2
  have hsl2 : Sl w2 w1.heap.size A 1 ([10].map wv) := HSL.out.below hb2
  have hsz := hb2.size
  have c3 := code_bHas A (some ⟨w2.heap.size, 0, none⟩) 1 c 1 1 [10] [3] (w2.alloc (.cells #[.int .i64 3] 3)) ((hsl2.alloc hsz _).more (by simp; omega)) (by omega) awake_wd (Sl.lit (w := w2) 3 [.int .i64 3] (by decide)) (by omega) (by simp)
  rw [show ([3] : List Int).all (bHas [10]) = true by decide] at c3
  have HS2 := hidb hsl2
  clear hb2 c2 hsl2
  go_wp2_with (go_at_call 17; refine c3.mono ?_)
  rintro e w3 ⟨rfl, rfl⟩
  generalize hW3 : (w2.alloc (.cells #[.int .i64 3] 3)).alloc (.cells #[.slice A 1 c] 22) = w3
  have hsz3 : w2.heap.size ≤ w3.heap.size := by rw [← hW3]; simp; omega
  have hsl3 : Sl w3 w1.heap.size A 1 ([10].map wv) := by rw [← hW3]; exact (HS2.out.alloc hsz _).alloc (by simp; omega) _
  have HB3 : Hid (Below w.heap.size w w3) := hidb (by
    have h1 := HB1.out.size
    rw [← hW3]; exact ((HB1.out.trans (HB2.out.mono (by omega))).alloc (by omega) _).alloc (by simp; omega) _)
  clear hW3 c3
  have c4 := code_bHas A (some ⟨w3.heap.size, 0, none⟩) 1 c 1 1 [10] [2] (w3.alloc (.cells #[.int .i64 2] 3)) ((hsl3.alloc (by omega) _).more (by simp; omega)) (by omega) awake_wd (Sl.lit (w := w3) 3 [.int .i64 2] (by decide)) (by omega) (by simp)
  rw [show ([2] : List Int).all (bHas [10]) = false by decide] at c4
  clear hsl3
  go_wp2_with (go_at_call 17; refine c4.mono ?_; rintro e w4 ⟨rfl, rfl⟩)
  go_ret
  refine ⟨rfl, ?_⟩
  have h1 := HB1.out.size
  exact (HB3.out.alloc (by omega) _).alloc (by simp; omega) _

theorem tight_any (A : Option Addr) (n c : Nat) (ws : List Nat) (w : World) (B : Nat) (hs : Sl w B A n (ws.map wv)) (hn : n ≤ 9223372036854775807) (ht : ∀ n, ws.length = n + 1 → ws.getD n 0 ≠ 0) :
    Calls Tryd.prog 15 #[.slice A n c] w fun e w' => e = .returned (.bool true) ∧ w = w' := by
  have hl : ws.length = n := by have := hs.1; simpa using this
  cases n with
  | zero =>
    clear hs ht
    go_enter Tryd.func15, Tryd.ntmps15
    go_wp2
    go_ret
    exact ⟨rfl, rfl⟩
  | succ k =>
    obtain ⟨b, off, x, rfl, hx, hc⟩ := hs.word (j := k) (by omega)
    have h0 := ht k hl
    rw [getD_at _ _ _ _ hx] at h0
    have eb : ((x : Int) != 0) = true := by simpa using h0
    have hk1 : (k : Int) < ((k + 1 : Nat) : Int) := by omega
    clear hs ht hl hx h0
    go_enter Tryd.func15, Tryd.ntmps15
    go_wp2
    go_ret
    exact ⟨rfl, rfl⟩

end Go.Proofs.YtbjcdfhckhpoiaaDoor

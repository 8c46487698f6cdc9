/- Whether there is a stack of so many words: what layer 18's own seat needs of layer 15's texts (WlkAll has the same; never both). -/
import Derived.Test.YtbglldgpijglpaaRows7
import Derived.Test.YtbglldgpijglpaaNumMath
import Derived.Test.YtbglldgpijglpaaNumWalks
namespace Go.Proofs.Ytbglldgpijglpaa
open Go.RowKit
set_option linter.unusedVariables false

theorem belF_al {W X : World} (h : Below W.heap.size W X) (o : Obj) : Below W.heap.size W (X.alloc o) := h.alloc h.size o
theorem belF_dr {W X : World} (h : Below W.heap.size W X) : Below W.heap.size W X.drew := h.drew
theorem belF_tr {W X Y : World} (h : Below W.heap.size W X) (k : Below X.heap.size X Y) : Below W.heap.size W Y := h.trans (k.mono h.size)
def stkSz (n : Int) : Bool := decide (16 ≤ n) && isB n
theorem wk_sizes1 (z : Int) (hz : in64 z) (w : World) : Calls Try.prog 25 #[.int .i64 z] w fun e w' => e = .returned (.bool (!stkSz z)) ∧ Below w.heap.size w w' := by
  obtain ⟨h0, h1⟩ := hz
  unfold stkSz
  by_cases hl : z < 16
  · rw [decide_eq_false (by omega), Bool.false_and]
    go_enter Try.func25, Try.ntmps25
    go_wp2
    go_ret
    exact ⟨rfl, Below.refl _ _⟩
  · rw [decide_eq_true (by omega), Bool.true_and]
    have ci := fun W hc => num_is_one w.heap.size z W h0 h1 hc
    obtain ⟨b, hb⟩ : ∃ b, isB z = b := ⟨_, rfl⟩
    rw [hb] at ci ⊢
    clear hb
    go_enter Try.func25, Try.ntmps25
    cases b with
    | true =>
      go_wp2_with (first | (go_at_call 26; (with_reducible refine (ci _ (by simp)).mono ?_); rintro e w' ⟨rfl, rfl⟩))
      go_ret
      exact ⟨rfl, (Below.refl _ _).alloc (Nat.le_refl _) _⟩
    | false =>
      go_wp2_with (first | (go_at_call 26; (with_reducible refine (ci _ (by simp)).mono ?_); rintro e w' ⟨rfl, rfl⟩))
      go_ret
      exact ⟨rfl, (Below.refl _ _).alloc (Nat.le_refl _) _⟩
theorem wk_szidx (z : Int) (hz : in64 z) (g : Nat) (w : World) (hc : w.cell? ⟨g, 0, none⟩ = some (.int .i64 z)) (b : Bool) (hb : stkSz z = b) :
    Calls Try.prog 24 #[.slice (some ⟨g, 0, none⟩) 1 1, .func (.func 25) #[] #[]] w fun e w' => e = .returned (.int .i64 (if b then -1 else 0)) ∧ Below w.heap.size w w' := by
  have c1 := fun W => wk_sizes1 z hz W
  rw [hb] at c1
  have hlt : g < w.heap.size := lt_of_cell' hc
  have HC : Hid (∀ W, Below w.heap.size w W → W.cell? ⟨g, 0, none⟩ = some (.int .i64 z)) := hidb (fun W hb => (hb.cell (p := ⟨g, 0, none⟩) hlt).trans hc)
  have C1 := hidb c1
  clear c1 hb hc hz hlt
  go_enter Try.func24, Try.ntmps24
  go_wp2
  go_loopw [8] (fun k wr => ∃ j : Nat, j ≤ 1 ∧ Hid (j = 1 → b = true) ∧ k = .int .i64 j ∧ Hid (Below w.heap.size w wr)) (fun k _ => (1 - intOf k).toNat)
  case atStart => exact ⟨0, by omega, hidb (fun h => absurd h (by decide)), rfl, hidb (Below.refl _ _)⟩
  case round =>
    obtain ⟨j, hj, HA, rfl, HB⟩ := hrel
    by_cases hlt : j < 1
    · obtain rfl : j = 0 := by omega
      have hc := HC.out wr HB.out
      have c1 := C1.out wr
      cases b with
      | false =>
        simp only [Bool.not_false] at c1
        go_wp2_with (first | (go_at_call 25; (with_reducible refine c1.mono ?_); rintro e w1 ⟨rfl, hi1⟩))
        go_ret
        exact ⟨rfl, HB.out.trans (hi1.mono HB.out.size)⟩
      | true =>
        simp only [Bool.not_true] at c1
        go_wp2_with (first | (go_at_call 25; (with_reducible refine c1.mono ?_); rintro e w1 ⟨rfl, hi1⟩))
        go_roundw
        case rel => exact ⟨1, by omega, hidb (by simp), by first | rfl | go_num, hidb (HB.out.trans (hi1.mono HB.out.size))⟩
        case measure => simp [intOf]
    · obtain rfl : j = 1 := by omega
      obtain rfl := HA.out rfl
      go_wp2
      go_ret
      exact ⟨rfl, HB.out⟩
theorem wk_szhas (z : Int) (hz : in64 z) (g : Nat) (w : World) (hc : w.cell? ⟨g, 0, none⟩ = some (.int .i64 z)) (b : Bool) (hb : stkSz z = b) :
    Calls Try.prog 19 #[.slice (some ⟨g, 0, none⟩) 1 1, .func (.func 25) #[] #[]] w fun e w' => e = .returned (.bool (!b)) ∧ Below w.heap.size w w' := by
  have c1 := wk_szidx z hz g w hc b hb
  clear hc hb
  go_enter Try.func19, Try.ntmps19
  cases b with
  | false =>
    simp only [Bool.false_eq_true, if_false] at c1
    go_wp2_with (first | (go_at_call 24; (with_reducible refine c1.mono ?_); rintro e w1 ⟨rfl, hj1⟩))
    go_ret
    exact ⟨rfl, hj1⟩
  | true =>
    simp only [if_true] at c1
    go_wp2_with (first | (go_at_call 24; (with_reducible refine c1.mono ?_); rintro e w1 ⟨rfl, hj1⟩))
    go_ret
    exact ⟨rfl, hj1⟩
theorem wk_sizes (z : Int) (hz : in64 z) (g : Nat) (w : World) (hc : w.cell? ⟨g, 0, none⟩ = some (.int .i64 z)) (b : Bool) (hb : stkSz z = b) :
    Calls Try.prog 21 #[.slice (some ⟨g, 0, none⟩) 1 1] w fun e w' => e = .returned (.bool b) ∧ Below w.heap.size w w' := by
  have c1 := wk_szhas z hz g w hc b hb
  clear hc hb
  cases b with
  | true =>
    simp only [Bool.not_true] at c1
    go_enter Try.func21, Try.ntmps21
    go_wp2_with (first | (go_at_call 19; (with_reducible refine c1.mono ?_); rintro e w1 ⟨rfl, hb1⟩))
    go_ret
    exact ⟨rfl, hb1⟩
  | false =>
    simp only [Bool.not_false] at c1
    go_enter Try.func21, Try.ntmps21
    go_wp2_with (first | (go_at_call 19; (with_reducible refine c1.mono ?_); rintro e w1 ⟨rfl, hb1⟩))
    go_ret
    exact ⟨rfl, hb1⟩
theorem ref_stsize (n : Int) (w : World) (hn : in64 n) (b : Bool) (hb : stkSz n = b) : Calls Try.prog 12 #[.int .i64 n] w fun e w' => e = .returned (.bool b) ∧ w = w' := by
  have ci := ref_is n w hn.1 hn.2
  unfold stkSz at hb
  by_cases hl : n < 16
  · rw [decide_eq_false (by omega), Bool.false_and] at hb
    subst hb
    clear ci
    --@1
    go_enter Try.func12, Try.ntmps12
    go_wp2
    go_ret
    exact ⟨rfl, rfl⟩
  · rw [decide_eq_true (by omega), Bool.true_and] at hb
    rw [hb] at ci
    clear hb
    have hl2 : 16 ≤ n := by omega
    cases b with
    | true =>
      --@2
      go_enter Try.func12, Try.ntmps12
      go_wp2_with (first | (go_at_call 22; (with_reducible refine ci.mono ?_); rintro e w1 ⟨rfl, rfl⟩))
      go_ret
      exact ⟨rfl, rfl⟩
    | false =>
      --@3
      go_enter Try.func12, Try.ntmps12
      go_wp2_with (first | (go_at_call 22; (with_reducible refine ci.mono ?_); rintro e w1 ⟨rfl, rfl⟩))
      go_ret
      exact ⟨rfl, rfl⟩
end Go.Proofs.Ytbglldgpijglpaa

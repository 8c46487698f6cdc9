/- Layer 18 (policy): what may be limits, and how great a stack is to be. -/
import Derived.Test.YtbglldgpijglpaaPlyMath
import Derived.Test.YtbglldgpijglpaaNumMath
import Derived.Lib.MinMax
namespace Go.Proofs.Ytbglldgpijglpaa
open Go.RowKit
set_option linter.unusedVariables false

/-! Plain: doubling ends at the next power of two. -/
theorem pl_up {t : Int} (h0 : 1 ≤ t) (h1 : t ≤ 65536) : ∃ k : Nat, upI t = ((2 ^ k : Nat) : Int) ∧ t ≤ upI t ∧ upI t < 2 * t := by
  obtain ⟨a, b, c, _⟩ := upI_facts t h0 (by omega)
  unfold isB at a
  rw [decide_eq_true_iff] at a
  exact ⟨Nat.log2 (upI t).toNat, by rw [← a.2]; omega, b, c⟩
theorem pow_lt_two {i j : Nat} (h : ((2 ^ i : Nat) : Int) < ((2 ^ j : Nat) : Int)) : 2 * ((2 ^ i : Nat) : Int) ≤ ((2 ^ j : Nat) : Int) := by
  have hij : i < j := by
    refine Decidable.byContradiction fun c => ?_
    have : 2 ^ j ≤ 2 ^ i := Nat.pow_le_pow_right (by omega) (by omega)
    omega
  have : 2 ^ (i + 1) ≤ 2 ^ j := Nat.pow_le_pow_right (by omega) hij
  rw [Nat.pow_succ] at this
  omega
theorem plDbl_up {s t : Int} (hs : stkSz s = true) (hm : s ≤ 65536) (ht : t ≤ 65536) : plDbl 20 s t = max s (upI t) := by
  have h16 := stkSz_16 hs
  by_cases h1 : t < 1
  · have e : upI t = 1 := by unfold upI; rw [if_pos (by omega)]
    rw [e, plDbl_stop 20 (by omega)]; omega
  · obtain ⟨k, e, b, c⟩ := pl_up (by omega) ht
    obtain ⟨r1, r2, r3, r4, r5⟩ := plDbl_facts (L := 65536) (by decide +kernel) ht 20 s hs hm (fuel20 h16 ht)
    obtain ⟨i, _, hi⟩ := stkSz_pow hs
    obtain ⟨j, _, hj⟩ := stkSz_pow r1
    rw [e] at b c ⊢
    rw [hj] at r2 r4 r5 ⊢
    rw [hi] at r4 r5 ⊢
    have p1 : ((2 ^ i : Nat) : Int) < ((2 ^ k : Nat) : Int) → _ := pow_lt_two
    have p2 : ((2 ^ j : Nat) : Int) < ((2 ^ k : Nat) : Int) → _ := pow_lt_two
    have p3 : ((2 ^ k : Nat) : Int) < ((2 ^ j : Nat) : Int) → _ := pow_lt_two
    omega

theorem c_limit1 (z : Int) (hz : in64 z) (w : World) (b : Bool) (hb : plLim z = b) : Calls Try.prog 20 #[.int .i64 z] w fun e w' => e = .returned (.bool (!b)) ∧ Below w.heap.size w w' := by
  unfold plLim at hb
  cases hs : stkSz z with
  | false =>
    have ci := fun W hc => wk_sizes z hz w.heap.size W hc false hs
    rw [hs, Bool.false_and] at hb
    subst hb
    clear hs hz
    --@1
    go_enter Try.func20, Try.ntmps20
    go_wp2_with (first | (go_at_call 21; (with_reducible refine (ci _ (by simp)).mono ?_); rintro e w1 ⟨rfl, h1⟩))
    go_ret
    exact ⟨rfl, belF_tr (belF_al (Below.refl _ _) _) h1⟩
  | true =>
    have ci := fun W hc => wk_sizes z hz w.heap.size W hc true hs
    rw [hs, Bool.true_and] at hb
    clear hs hz
    --@2
    go_enter Try.func20, Try.ntmps20
    go_wp2_with (first | (go_at_call 21; (with_reducible refine (ci _ (by simp)).mono ?_); rintro e w1 ⟨rfl, h1⟩))
    go_ret
    exact ⟨by rw [← hb]; (first | rfl | (by_cases hc : z ≤ 65536 <;> simp [hc] <;> omega)), belF_tr (belF_al (Below.refl _ _) _) h1⟩

/-- slices.IndexFunc at numbers, with that closure: what it asks of each one may turn the world. -/
theorem code_pl_idx (p : Nat → Bool) (I : Nat → World → Prop) (A : Option Addr) (n c : Nat) (zs : List Int) (w : World) (hI : I 0 w) (hs : ∀ j W, I j W → Sl W W.heap.size A n (zs.map iv))
    (hq : ∀ j z W, zs[j]? = some z → I j W → Calls Try.prog 20 #[.int .i64 z] W fun e w' => e = .returned (.bool (p j)) ∧ I (j + 1) w') (hn : n ≤ 131072) :
    Calls Try.prog 24 #[.slice A n c, .func (.func 20) #[] #[]] w fun e w' => (∃ r : Int, e = .returned (.int .i64 r) ∧ -1 ≤ r ∧ r ≤ 9223372036854775807 ∧ decide (0 ≤ r) = (List.range n).any p) ∧ ∃ j, j ≤ n ∧ I j w' := by
  have HL : Hid (zs.length = n) := hidb (by have := (hs 0 w hI).1; simpa using this)
  have HI := hidb hI
  have HS := hidb hs
  have HQ := hidb hq
  clear hI hs hq
  go_enter Try.func24, Try.ntmps24
  go_wp2
  go_loopw [8] (fun k wr => ∃ j : Nat, j ≤ n ∧ Hid (∀ i, i < j → p i = false) ∧ k = .int .i64 j ∧ Hid (I j wr)) (fun k _ => (n - intOf k).toNat)
  case atStart => exact ⟨0, by omega, hidb (fun i h => absurd h (Nat.not_lt_zero _)), rfl, HI⟩
  case round =>
    obtain ⟨j, hj, HA, rfl, HJ⟩ := hrel
    by_cases hlt : j < n
    · obtain ⟨b, off, z, rfl, hx, hc⟩ := (HS.out j wr HJ.out).int_ hlt
      have c1 := HQ.out j z wr hx HJ.out
      have hj0 : (0 : Int) ≤ (j : Int) := by omega
      have hj1 : (j : Int) < (n : Int) := by omega
      clear hx
      cases hT : p j with
      | false =>
        rw [hT] at c1
        have HA2 : Hid (∀ i, i < j + 1 → p i = false) := hidb (fun i hi => by
          by_cases h : i = j
          · subst h; exact hT
          · exact HA.out i (by omega))
        clear hT
        go_wp2_with (first | (go_at_call 20; (with_reducible refine c1.mono ?_); rintro e w1 ⟨rfl, hi1⟩))
        go_roundw
        case rel => exact ⟨j + 1, by omega, HA2, by go_num, hidb hi1⟩
        case measure => simp [intOf]; omega
      | true =>
        rw [hT] at c1
        have HF : Hid ((List.range n).any p = true) := hidb (by
          rw [List.any_eq_true]
          exact ⟨j, List.mem_range.2 hlt, hT⟩)
        clear hT
        go_wp2_with (first | (go_at_call 20; (with_reducible refine c1.mono ?_); rintro e w1 ⟨rfl, hi1⟩))
        go_ret
        exact ⟨⟨j, rfl, by omega, by omega, by rw [HF.out]; exact decide_eq_true (by omega)⟩, j + 1, by omega, hi1⟩
    · have HF : Hid ((List.range n).any p = false) := hidb (by
        rw [List.any_eq_false]
        intro i hi
        have := HA.out i (by have := List.mem_range.1 hi; omega)
        simp [this])
      go_wp2
      go_ret
      exact ⟨⟨-1, rfl, by omega, by omega, by rw [HF.out]; rfl⟩, j, hj, HJ.out⟩
theorem code_pl_has (p : Nat → Bool) (I : Nat → World → Prop) (A : Option Addr) (n c : Nat) (zs : List Int) (w : World) (hI : I 0 w) (hs : ∀ j W, I j W → Sl W W.heap.size A n (zs.map iv))
    (hq : ∀ j z W, zs[j]? = some z → I j W → Calls Try.prog 20 #[.int .i64 z] W fun e w' => e = .returned (.bool (p j)) ∧ I (j + 1) w') (hn : n ≤ 131072) :
    Calls Try.prog 19 #[.slice A n c, .func (.func 20) #[] #[]] w fun e w' => e = .returned (.bool ((List.range n).any p)) ∧ ∃ j, j ≤ n ∧ I j w' := by
  have c1 := code_pl_idx p I A n c zs w hI hs hq hn
  clear hI hs hq
  go_enter Try.func19, Try.ntmps19
  go_wp2_with (go_at_call 24; (with_reducible refine c1.mono ?_); rintro e w1 ⟨⟨r, rfl, h1, h2, h3⟩, hj1⟩)
  go_ret
  exact ⟨rfl, hj1⟩

/-- Is one of them no limit? -/
def badLims (zs : List Int) (n : Nat) : Bool := (List.range n).any fun j => !plLim (zs.getD j 0)
theorem code_limit (A : Option Addr) (n c : Nat) (zs : List Int) (w : World) (hs : Sl w w.heap.size A n (zs.map iv)) (hx : ∀ x ∈ zs, in64 x) (hn : n ≤ 131072) (b : Bool) (hb : badLims zs n = b) :
    Calls Try.prog 10 #[.slice A n c] w fun e w' => e = .returned (.bool (!b)) ∧ Below w.heap.size w w' := by
  have c1 := code_pl_has (fun j => !plLim (zs.getD j 0)) (fun _ W => Below w.heap.size w W) A n c zs w (Below.refl _ _) (fun j W hb => (hs.below hb).more hb.size) (fun j z W hz hb => by
    have hz2 : zs.getD j 0 = z := by rw [List.getD_eq_getElem?_getD, hz]; rfl
    rw [hz2]
    exact (c_limit1 z (hx z (List.mem_of_getElem? hz)) W _ rfl).mono fun e w' ⟨h1, h2⟩ => ⟨h1, hb.trans (h2.mono hb.size)⟩) hn
  rw [show ((List.range n).any fun j => !plLim (zs.getD j 0)) = badLims zs n from rfl, hb] at c1
  have c2 : Calls Try.prog 19 #[.slice A n c, .func (.func 20) #[] #[]] w fun e w' => e = .returned (.bool b) ∧ Below w.heap.size w w' := c1.mono fun e w' ⟨h1, j, _, h2⟩ => ⟨h1, h2⟩
  clear c1 hs hx hn hb
  cases b with
  | true =>
    --@3
    go_enter Try.func10, Try.ntmps10
    go_wp2_with (first | (go_at_call 19; (with_reducible refine c2.mono ?_); rintro e w1 ⟨rfl, hb1⟩))
    go_ret
    exact ⟨rfl, hb1⟩
  | false =>
    --@4
    go_enter Try.func10, Try.ntmps10
    go_wp2_with (first | (go_at_call 19; (with_reducible refine c2.mono ?_); rintro e w1 ⟨rfl, hb1⟩))
    go_ret
    exact ⟨rfl, hb1⟩
/-- Limit, of one number that lies in a cell. -/
theorem code_lim1 (z : Int) (hz : in64 z) (g : Nat) (w : World) (hc : w.cell? ⟨g, 0, none⟩ = some (.int .i64 z)) (b : Bool) (hb : plLim z = b) :
    Calls Try.prog 10 #[.slice (some ⟨g, 0, none⟩) 1 1] w fun e w' => e = .returned (.bool b) ∧ Below w.heap.size w w' := by
  have hl : g < w.heap.size := lt_of_cell' hc
  have hs : Sl w w.heap.size (some ⟨g, 0, none⟩) 1 ([z].map iv) := ⟨rfl, fun _ => ⟨g, 0, rfl, hl, fun j hj => by
    obtain rfl : j = 0 := by omega
    exact hc⟩⟩
  have := code_limit (some ⟨g, 0, none⟩) 1 1 [z] w hs (fun x hx => by obtain rfl := List.mem_singleton.1 hx; exact hz) (by omega) (!b) (by rw [← hb]; show (!plLim z || false) = _; simp)
  rw [Bool.not_not] at this
  exact this

theorem code_atleast (s t : Int) (w : World) (hs : in64 s) (ht : in64 t) (m : Int) (hm : max s (upI t) = m) : Calls Try.prog 18 #[.int .i64 s, .int .i64 t] w fun e w' => e = .returned (.int .i64 m) ∧ w = w' := by
  have c1 := num_up t w ht.1 ht.2
  clear hs ht
  obtain ⟨u, hu⟩ : ∃ u, upI t = u := ⟨_, rfl⟩
  rw [hu] at c1 hm
  clear hu
  subst hm
  --@5
  go_enter Try.func18, Try.ntmps18
  go_wp2_with (first | (go_at_call 23; (with_reducible refine c1.mono ?_); rintro e w1 ⟨rfl, rfl⟩))
  go_ret
  exact ⟨rfl, rfl⟩
end Go.Proofs.Ytbglldgpijglpaa

/- What the document's own functions of layer 16 (slots) return: Size, Address, Find, May. -/
import Derived.Test.YthjodcojhlfnfaaDoorSltMath
import Derived.Test.YthjodcojhlfnfaaDoorWlkAll
namespace Go.Proofs.YthjodcojhlfnfaaDoor
open Go.RowKit
set_option linter.unusedVariables false

section
variable {w : World} {A2 : Option Addr} {n2 c2 lo' hi' : Nat} {ys : List FnV}
theorem ref_slsize (hr : FnRow w lo' hi' A2 n2 ys) (hhi : hi' ≤ w.heap.size) (hn2 : n2 ≤ 1000) (x : FrV) :
    Calls Tryd.prog 22 #[.slice A2 n2 c2, .agg #[.int .i64 x.at_, .int .i64 x.fn, .int .i64 x.link]] w fun e w' => e = .returned (.int .i64 (slSize (vals ys) x)) ∧ Below w.heap.size w w' := by
  obtain ⟨a, f, k⟩ := x
  have hb0 := belF_al (Below.refl w.heap.size w) (.cells #[.int .i64 a, .int .i64 f, .int .i64 k] 64)
  have cs := ref_fsize A2 n2 c2 ys lo' hi' (w.alloc (.cells #[.int .i64 a, .int .i64 f, .int .i64 k] 64)) f (hr.below (hb0.mono hhi)) hn2
  unfold slSize
  simp only
  generalize fSize (vals ys) f = z at *
  have HB := hidb hb0
  clear hr hb0
  by_cases h1 : z < 0
  · rw [if_pos (Or.inl h1)]
    --@1
    go_enter Tryd.func22, Tryd.ntmps22
    go_wp2_with (first | (go_at_call 42; (with_reducible refine cs.mono ?_); rintro e w1 ⟨rfl, rfl⟩))
    go_ret
    exact ⟨rfl, HB.out⟩
  · by_cases h2 : a < 0
    · rw [if_pos (Or.inr (Or.inl h2))]
      --@2
      go_enter Tryd.func22, Tryd.ntmps22
      go_wp2_with (first | (go_at_call 42; (with_reducible refine cs.mono ?_); rintro e w1 ⟨rfl, rfl⟩))
      go_ret
      exact ⟨rfl, HB.out⟩
    · by_cases h3 : 1099511627776 < a
      · rw [if_pos (Or.inr (Or.inr h3))]
        --@3
        go_enter Tryd.func22, Tryd.ntmps22
        go_wp2_with (first | (go_at_call 42; (with_reducible refine cs.mono ?_); rintro e w1 ⟨rfl, rfl⟩))
        go_ret
        exact ⟨rfl, HB.out⟩
      · rw [if_neg (by omega)]
        --@4
        go_enter Tryd.func22, Tryd.ntmps22
        go_wp2_with (first | (go_at_call 42; (with_reducible refine cs.mono ?_); rintro e w1 ⟨rfl, rfl⟩))
        go_ret
        exact ⟨rfl, HB.out⟩

theorem ref_sladdr {A : Option Addr} {m c : Nat} {L : List FrV} (hr : FnRow w lo' hi' A2 n2 ys) (hhi : hi' ≤ w.heap.size) (hn2 : n2 ≤ 1000) (hl : ∀ x ∈ vals ys, 0 ≤ x.1 ∧ x.1 ≤ 1000) (hs : FrRow w w.heap.size A m L) (hm : m ≤ 1000000) (d i : Int) :
    Calls Tryd.prog 10 #[.slice A2 n2 c2, .slice A m c, .int .i64 d, .int .i64 i] w fun e w' => e = .returned (.int .i64 (slAddr (vals ys) L d i)) ∧ Below w.heap.size w w' := by
  have hlen := hs.len
  by_cases h1 : d < 0
  · have E : slAddr (vals ys) L d i = -1 := by unfold slAddr; rw [if_pos (Or.inl h1)]
    rw [E]
    clear hr hs E
    --@5
    go_enter Tryd.func10, Tryd.ntmps10
    go_wp2
    go_ret
    exact ⟨rfl, Below.refl _ _⟩
  by_cases h2 : (m : Int) ≤ d
  · have E : slAddr (vals ys) L d i = -1 := by unfold slAddr; rw [if_pos (Or.inr (Or.inl (by omega)))]
    rw [E]
    clear hr hs E
    --@6
    go_enter Tryd.func10, Tryd.ntmps10
    go_wp2
    go_ret
    exact ⟨rfl, Below.refl _ _⟩
  by_cases h3 : i < 0
  · have E : slAddr (vals ys) L d i = -1 := by unfold slAddr; rw [if_pos (Or.inr (Or.inr (Or.inl h3)))]
    rw [E]
    clear hr hs E
    --@7
    go_enter Tryd.func10, Tryd.ntmps10
    go_wp2
    go_ret
    exact ⟨rfl, Below.refl _ _⟩
  obtain ⟨b, off, x, rfl, hbl, hx, hc0, hc1, hc2⟩ := hs.at_ (j := d.toNat) (by omega)
  have hg : L.getD d.toNat fr0 = x := by rw [List.getD_eq_getElem?_getD, hx]; rfl
  have cs := ref_slsize (c2 := c2) hr hhi hn2 x
  have hz := slSize_range (vals ys) hl x
  have E : slAddr (vals ys) L d i = if slSize (vals ys) x ≤ i then -1 else x.at_ + 2 + i := by
    unfold slAddr; rw [hg]
    by_cases h4 : slSize (vals ys) x ≤ i
    · rw [if_pos h4, if_pos (Or.inr (Or.inr (Or.inr h4)))]
    · rw [if_neg h4, if_neg (by omega)]
  rw [E]
  generalize slSize (vals ys) x = z at *
  obtain ⟨xa, xf, xl⟩ := x
  simp only at *
  have HC : Hid (∀ W, Below w.heap.size w W → W.cell? ⟨b, off + d.toNat * 3, none⟩ = some (.int .i64 xa)) := hidb (fun W hb => (hb.cell (p := ⟨b, off + d.toNat * 3, none⟩) hbl).trans hc0)
  have f1 : d < (m : Int) := by omega
  have f2 : 0 ≤ d := by omega
  clear hr hs E hg hx
  by_cases h4 : z ≤ i
  · rw [if_pos h4]
    --@8
    go_enter Tryd.func10, Tryd.ntmps10
    go_wp2_with (first | (go_at_call 22; (with_reducible refine cs.mono ?_); rintro e w1 ⟨rfl, hb1⟩))
    go_ret
    exact ⟨rfl, hb1⟩
  · rw [if_neg h4]
    have hw : wrap64 (xa + 2 + i) = xa + 2 + i := by unfold wrap64; omega
    have hw0 : wrap64 (xa + 2) = xa + 2 := by unfold wrap64; omega
    clear hz
    --@9
    go_enter Tryd.func10, Tryd.ntmps10
    go_wp2_with (first | (go_at_call 22; (with_reducible refine cs.mono ?_); rintro e w1 ⟨rfl, hb1⟩; have q0 := HC.out _ hb1))
    go_ret
    exact ⟨by (first | rfl | (rw [hw]; rfl)), hb1⟩
end

theorem ref_slmay (v : VlV) (hk : v.kind < 256) (hb : v.bits < 18446744073709551616) (w : World) (r : Bool) (hr : vMay v = r) :
    Calls Tryd.prog 13 #[vlC v] w fun e w' => e = .returned (.bool r) ∧ Below w.heap.size w w' := by
  obtain ⟨k, b, d, i⟩ := v
  have hb0 := belF_al (Below.refl w.heap.size w) (.cells #[.int .u8 (k : Int), .int .u64 (b : Int), .int .i64 d, .int .i64 i] 42)
  unfold vMay at hr
  simp only at hr hk hb
  unfold vlC
  simp only
  have HB := hidb hb0
  clear hb0
  by_cases h1 : 2 < k
  · rw [decide_eq_false (by omega), Bool.false_and] at hr
    subst hr
    --@10
    go_enter Tryd.func13, Tryd.ntmps13
    go_wp2
    go_ret
    exact ⟨rfl, HB.out⟩
  have hk3 : k = 0 ∨ k = 1 ∨ k = 2 := by omega
  rcases hk3 with rfl | rfl | rfl
  · by_cases h2 : b = 0
    · subst h2
      rw [decide_eq_true (by omega), Bool.true_and, if_pos (by omega)] at hr
      by_cases h3 : d = 0
      · by_cases h4 : i = 0
        · rw [decide_eq_true ⟨h3, h4⟩] at hr
          subst h3 h4 hr
          --@11
          go_enter Tryd.func13, Tryd.ntmps13
          go_wp2
          go_ret
          exact ⟨rfl, HB.out⟩
        · rw [decide_eq_false (fun h => h4 h.2)] at hr
          have h4b : (i == 0) = false := by simpa using h4
          subst h3 hr
          --@12
          go_enter Tryd.func13, Tryd.ntmps13
          go_wp2
          go_ret
          exact ⟨by (first | rfl | simp), HB.out⟩
      · rw [decide_eq_false (fun h => h3 h.1)] at hr
        have h3b : (d == 0) = false := by simpa using h3
        subst hr
        --@13
        go_enter Tryd.func13, Tryd.ntmps13
        go_wp2
        go_ret
        exact ⟨by (first | rfl | simp), HB.out⟩
    · rw [decide_eq_false (by omega), Bool.false_and] at hr
      have h2b : ((b : Int) != 0) = true := by simp; omega
      subst hr
      --@14
      go_enter Tryd.func13, Tryd.ntmps13
      go_wp2
      go_ret
      exact ⟨rfl, HB.out⟩
  · rw [decide_eq_true (by omega), Bool.true_and, if_pos (by omega)] at hr
    by_cases h3 : d = 0
    · by_cases h4 : i = 0
      · rw [decide_eq_true ⟨h3, h4⟩] at hr
        subst h3 h4 hr
        --@15
        go_enter Tryd.func13, Tryd.ntmps13
        go_wp2
        go_ret
        exact ⟨rfl, HB.out⟩
      · rw [decide_eq_false (fun h => h4 h.2)] at hr
        have h4b : (i == 0) = false := by simpa using h4
        subst h3 hr
        --@16
        go_enter Tryd.func13, Tryd.ntmps13
        go_wp2
        go_ret
        exact ⟨by (first | rfl | simp), HB.out⟩
    · rw [decide_eq_false (fun h => h3 h.1)] at hr
      have h3b : (d == 0) = false := by simpa using h3
      subst hr
      --@17
      go_enter Tryd.func13, Tryd.ntmps13
      go_wp2
      go_ret
      exact ⟨by (first | rfl | simp), HB.out⟩
  · by_cases h2 : b = 0
    · subst h2
      rw [decide_eq_true (by omega), Bool.true_and, if_neg (by omega)] at hr
      by_cases h3 : 0 ≤ d
      · have hr2 : decide (0 ≤ i) = r := by rw [← hr, decide_eq_decide]; omega
        clear hr
        --@18
        go_enter Tryd.func13, Tryd.ntmps13
        go_wp2
        go_ret
        exact ⟨by (first | exact congrArg Ending.returned (congrArg Value.bool hr2) | (rw [← hr2]; rfl)), HB.out⟩
      · rw [decide_eq_false (by omega)] at hr
        subst hr
        --@19
        go_enter Tryd.func13, Tryd.ntmps13
        go_wp2
        go_ret
        exact ⟨rfl, HB.out⟩
    · rw [decide_eq_false (by omega), Bool.false_and] at hr
      have h2b : ((b : Int) != 0) = true := by simp; omega
      subst hr
      --@20
      go_enter Tryd.func13, Tryd.ntmps13
      go_wp2
      go_ret
      exact ⟨rfl, HB.out⟩
end Go.Proofs.YthjodcojhlfnfaaDoor

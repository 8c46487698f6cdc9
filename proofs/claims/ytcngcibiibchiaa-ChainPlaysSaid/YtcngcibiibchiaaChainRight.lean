/- What Right of layer 8 (chain) does: slices.ContainsFunc at chains. -/
import Derived.Test.YtcngcibiibchiaaChainPushC
namespace Go.Proofs.Ytcngcibiibchiaa
open Go.RowKit
set_option linter.unusedVariables false

/-- Right. -/
def cRight (ws : List Nat) (rs : List (Int × Int)) : Bool := rs.all fun r => (cList ws r).isSome
/-- A whole number, and whether it is none below 0. -/
def ResPlace8 (w : World) (b : Bool) (e : Ending) (w' : World) : Prop := (∃ r : Int, e = .returned (.int .i64 r) ∧ -1 ≤ r ∧ r ≤ 9223372036854775807 ∧ decide (0 ≤ r) = b) ∧ Below w.heap.size w w'
theorem code_cridx {p g n t : Nat} {ws : List Nat} {B : Nat} (A : Option Addr) (m c : Nat) (rs : List (Int × Int)) (w : World) (ha : Ar w B p g n ws) (hc : w.cell? ⟨t, 0, none⟩ = some (.pointer (some ⟨p, 0, none⟩))) (hw : Wide ws)
    (hs : Rn w w.heap.size A m rs) (hm : m ≤ 65536) (hr : ∀ r ∈ rs, in64 r.1 ∧ in64 r.2) :
    Calls Try.prog 47 #[.slice A m c, .func (.func 39) #[] #[.pointer (some ⟨t, 0, none⟩)]] w (ResPlace8 w (!cRight ws rs)) := by
  have HL := hidb hs.1
  have HS := hidb hs
  have HR := hidb hr
  have HQ : Hid (∀ W, Below w.heap.size w W → ∀ r ∈ rs, Calls Try.prog 39 #[.agg #[.int .i64 r.1, .int .i64 r.2], .pointer (some ⟨t, 0, none⟩)] W fun e w' => e = .returned (.bool (!(cList ws r).isSome)) ∧ Below W.heap.size W w') := hidb (fun W hb r hm => code_cright1 (ha.below hb (Nat.le_refl _)) ((hb.cell (lt_of_cell hc)).trans hc) r.1 r.2 (hr r hm).1 (hr r hm).2 hw)
  clear hs hr hc ha hw
  go_enter Try.func47, Try.ntmps47
  go_wp2
  go_loopw [8] (fun k wr => ∃ j : Nat, j ≤ m ∧ Hid (∀ i r, i < j → rs[i]? = some r → (cList ws r).isSome = true) ∧ k = .int .i64 j ∧ Below w.heap.size w wr) (fun k _ => (m - intOf k).toNat)
  case atStart => exact ⟨0, by omega, hidb (fun i r h => absurd h (Nat.not_lt_zero _)), rfl, Below.refl _ _⟩
  case round =>
    obtain ⟨j, hj, HA, rfl, hbel⟩ := hrel
    by_cases hlt : j < m
    · obtain ⟨b, off, s, l, rfl, _, hx, hc1, hc2⟩ := (HS.out.below hbel).at_ hlt
      have c1 := HQ.out wr hbel (s, l) (List.mem_of_getElem? hx)
      have HX := hidb hx
      have HB := hidb hbel
      have hj0 : (0 : Int) ≤ (j : Int) := by omega
      have hj1 : (j : Int) < (m : Int) := by omega
      clear hx hbel
      cases hT : (cList ws (s, l)).isSome with
      | true =>
        rw [hT] at c1
        have HA2 : Hid (∀ i r, i < j + 1 → rs[i]? = some r → (cList ws r).isSome = true) := hidb (fun i r hi hir => by
          by_cases h : i = j
          · subst h; rw [HX.out] at hir; injection hir with hir; rw [← hir]; exact hT
          · exact HA.out i r (by omega) hir)
        clear hT
        go_wp2_with (first | (go_at_call 39; (with_reducible refine c1.mono ?_); rintro e w1 ⟨rfl, hb1⟩))
        go_roundw
        case rel => exact ⟨j + 1, by omega, HA2, by go_num, nextB HB.out hb1⟩
        case measure => simp [intOf]; omega
      | false =>
        rw [hT] at c1
        have HF : Hid (cRight ws rs = false) := hidb (by
          unfold cRight
          rw [List.all_eq_false]
          exact ⟨(s, l), List.mem_of_getElem? HX.out, by rw [hT]; simp⟩)
        clear hT
        go_wp2_with (first | (go_at_call 39; (with_reducible refine c1.mono ?_); rintro e w1 ⟨rfl, hb1⟩))
        go_ret
        exact ⟨⟨j, rfl, by omega, by omega, by rw [HF.out]; exact decide_eq_true (by omega)⟩, nextB HB.out hb1⟩
    · have HF : Hid (cRight ws rs = true) := hidb (List.all_eq_true.2 fun r hr => by
        obtain ⟨i, hi, rfl⟩ := List.getElem_of_mem hr
        exact HA.out i _ (by have := HL.out; omega) (List.getElem?_eq_getElem hi))
      have HB := hidb hbel
      clear hbel
      go_wp2
      go_ret
      exact ⟨⟨-1, rfl, by omega, by omega, by rw [HF.out]; rfl⟩, HB.out⟩
theorem code_cright {p g n : Nat} {ws : List Nat} {B : Nat} {w : World} (ha : Ar w B p g n ws) (hw : Wide ws) (A : Option Addr) (m c : Nat) (rs : List (Int × Int)) (hs : Rn w w.heap.size A m rs) (hm : m ≤ 65536) (hr : ∀ r ∈ rs, in64 r.1 ∧ in64 r.2) :
    Calls Try.prog 19 #[.pointer (some ⟨p, 0, none⟩), .slice A m c] w fun e w' => e = .returned (.bool (cRight ws rs)) ∧ Below w.heap.size w w' := by
  have hb0 : Below w.heap.size w (w.alloc (.cells #[.pointer (some ⟨p, 0, none⟩)] 26)) := (Below.refl _ _).alloc (Nat.le_refl _) _
  have ci := code_cridx (t := w.heap.size) A m c rs (w.alloc (.cells #[.pointer (some ⟨p, 0, none⟩)] 26)) (ha.alloc _) (by simp) hw ((hs.below hb0).more hb0.size) hm hr
  unfold ResPlace8 at ci
  have cc : Calls Try.prog 38 #[.slice A m c, .func (.func 39) #[] #[.pointer (some ⟨w.heap.size, 0, none⟩)]] (w.alloc (.cells #[.pointer (some ⟨p, 0, none⟩)] 26)) fun e w' => e = .returned (.bool (!cRight ws rs)) ∧ Below w.heap.size w w' := by
    have HB0 := hidb hb0
    clear ha hw hs hr hb0
    go_enter Try.func38, Try.ntmps38
    go_wp2_with (go_at_call 47; (with_reducible refine ci.mono ?_); rintro e w1 ⟨⟨r, rfl, h1, h2, h3⟩, hb1⟩)
    go_ret
    exact ⟨rfl, HB0.out.trans (hb1.mono HB0.out.size)⟩
  clear ha hw hs hr hb0 ci
  obtain ⟨b, hb⟩ : ∃ b, cRight ws rs = b := ⟨_, rfl⟩
  rw [hb] at cc ⊢
  clear hb
  go_enter Try.func19, Try.ntmps19
  go_wp2_with (go_at_call 38; (with_reducible refine cc.mono ?_); rintro e w1 ⟨rfl, hb1⟩)
  go_ret
  exact ⟨by simp, hb1⟩

end Go.Proofs.Ytcngcibiibchiaa

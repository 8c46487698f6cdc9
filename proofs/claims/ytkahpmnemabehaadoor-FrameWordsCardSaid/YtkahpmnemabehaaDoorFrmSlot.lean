/- What Slot and End of layer 14 (frame) return. -/
import Derived.Test.YtkahpmnemabehaaDoorFrmMath
namespace Go.Proofs.YtkahpmnemabehaaDoor
open Go.RowKit
set_option linter.unusedVariables false

/-- The address of a slot, the error's number. -/
def frSlot (l : Fns) (x : FrV) (i : Int) : Int × Int := if i < 0 ∨ fSize l x.fn ≤ i then (0, 2) else (x.at_ + 2 + i, 0)
/-- The address behind a frame. -/
def frEnd (l : Fns) (x : FrV) : Int := if fWords l x.fn < 0 then -1 else x.at_ + fWords l x.fn
def frNear (x : FrV) : Prop := -1099511627776 ≤ x.at_ ∧ x.at_ ≤ 1099511627776
theorem fSize_most (l : Fns) (hl : ∀ x ∈ l, 0 ≤ x.1 ∧ x.1 ≤ 1000) (f : Int) : -1 ≤ fSize l f ∧ fSize l f ≤ 1000 := fSize_range hl f

theorem code_frend {w : World} {lo hi : Nat} {tp : Option Addr} {l : Fns} (ht : TbO w lo hi tp l) (hhi : hi ≤ w.heap.size) (hl : ∀ x ∈ l, 0 ≤ x.1 ∧ x.1 ≤ 1000) (x : FrV) (hx : frNear x) :
    Calls Tryd.prog 15 #[.pointer tp, frC x] w fun e w' => e = .returned (.int .i64 (frEnd l x)) ∧ Below w.heap.size w w' := by
  obtain ⟨a, f, k⟩ := x
  have hb0 := belF_al (Below.refl w.heap.size w) (.cells #[.int .i64 a, .int .i64 f, .int .i64 k] 33)
  have HC : Hid (∀ W, Below (w.alloc (.cells #[.int .i64 a, .int .i64 f, .int .i64 k] 33)).heap.size (w.alloc (.cells #[.int .i64 a, .int .i64 f, .int .i64 k] 33)) W → W.cell? ⟨w.heap.size, 0, none⟩ = some (.int .i64 a)) := hidb (fun W hb => by rw [hb.cell (by simp)]; simp)
  have cw := code_fwordsT (ht.below (hb0.mono hhi)) (Nat.le_trans hhi hb0.size) f hl
  have hr := fWords_cases l hl f
  unfold frNear at hx
  unfold frEnd
  simp only at hx ⊢
  generalize fWords l f = m at *
  have HB := hidb hb0
  clear ht hl hb0
  unfold frC
  simp only
  by_cases h0 : m < 0
  · rw [if_pos h0]
    go_enter Tryd.func15, Tryd.ntmps15
    go_wp2_with (go_at_call 27; (with_reducible refine cw.mono ?_); rintro e w1 ⟨rfl, hb1⟩; have c0 := HC.out _ hb1)
    go_ret
    exact ⟨rfl, belF_tr HB.out hb1⟩
  · rw [if_neg h0]
    have hw : wrap64 (a + m) = a + m := by unfold wrap64; omega
    clear hr
    go_enter Tryd.func15, Tryd.ntmps15
    go_wp2_with (go_at_call 27; (with_reducible refine cw.mono ?_); rintro e w1 ⟨rfl, hb1⟩; have c0 := HC.out _ hb1)
    go_ret
    exact ⟨by (first | rfl | (rw [hw]; rfl)), belF_tr HB.out hb1⟩

theorem code_frslot {w : World} {lo hi : Nat} {tp : Option Addr} {l : Fns} (ht : TbO w lo hi tp l) (hhi : hi ≤ w.heap.size) (hl : ∀ x ∈ l, 0 ≤ x.1 ∧ x.1 ≤ 1000) (x : FrV) (hx : frNear x) (i : Int) :
    Calls Tryd.prog 14 #[.pointer tp, frC x, .int .i64 i] w fun e w' => e = .returned (.tuple #[.int .i64 (frSlot l x i).1, .int .i64 (frSlot l x i).2]) ∧ Below w.heap.size w w' := by
  obtain ⟨a, f, k⟩ := x
  have hb0 := belF_al (Below.refl w.heap.size w) (.cells #[.int .i64 a, .int .i64 f, .int .i64 k] 33)
  have HC : Hid (∀ W, Below (w.alloc (.cells #[.int .i64 a, .int .i64 f, .int .i64 k] 33)).heap.size (w.alloc (.cells #[.int .i64 a, .int .i64 f, .int .i64 k] 33)) W → W.cell? ⟨w.heap.size, 0, none⟩ = some (.int .i64 a)) := hidb (fun W hb => by rw [hb.cell (by simp)]; simp)
  have cw := code_fsize (ht.below (hb0.mono hhi)) (Nat.le_trans hhi hb0.size) f
  have hr := fSize_most l hl f
  unfold frNear at hx
  unfold frSlot
  simp only at hx ⊢
  generalize fSize l f = m at *
  have HB := hidb hb0
  clear ht hl hb0
  unfold frC
  simp only
  by_cases h0 : i < 0
  · rw [if_pos (Or.inl h0)]
    go_enter Tryd.func14, Tryd.ntmps14
    go_wp2
    go_ret2
    exact ⟨rfl, HB.out⟩
  · by_cases h1 : m ≤ i
    · rw [if_pos (Or.inr h1)]
      go_enter Tryd.func14, Tryd.ntmps14
      go_wp2_with (go_at_call 30; (with_reducible refine cw.mono ?_); rintro e w1 ⟨rfl, hb1⟩; have c0 := HC.out _ hb1)
      go_ret2
      exact ⟨rfl, belF_tr HB.out hb1⟩
    · rw [if_neg (by omega)]
      have hw : wrap64 (a + 2) = a + 2 := by unfold wrap64; omega
      have hw2 : wrap64 (a + 2 + i) = a + 2 + i := by unfold wrap64; omega
      clear hr
      go_enter Tryd.func14, Tryd.ntmps14
      go_wp2_with (go_at_call 30; (with_reducible refine cw.mono ?_); rintro e w1 ⟨rfl, hb1⟩; have c0 := HC.out _ hb1)
      go_ret2
      exact ⟨by (first | rfl | (rw [hw2]; rfl)), belF_tr HB.out hb1⟩
end Go.Proofs.YtkahpmnemabehaaDoor

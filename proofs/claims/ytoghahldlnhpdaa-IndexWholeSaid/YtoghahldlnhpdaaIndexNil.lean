/- What the calls of layer 5 (index) answer of a nil index. -/
import Derived.Test.YtoghahldlnhpdaaIndexDrop
import Derived.Test.YtoghahldlnhpdaaIndexRuns
namespace Go.Proofs.Ytoghahldlnhpdaa
open Go.RowKit
set_option linter.unusedVariables false

theorem Rn.none_ {w : World} {B m : Nat} {A : Option Addr} (h : m ≤ 0) : Rn w B A m [] := by
  obtain rfl : m = 0 := by omega
  exact Rn.nil_

def Done (w : World) (e : Ending) (w' : World) : Prop := e = .returned (.tuple #[]) ∧ Below w.heap.size w w'
def Idle (w : World) (e : Ending) (w' : World) : Prop := e = .returned (.tuple #[]) ∧ w = w'
/-- Nothing is asked where there are no runs. -/
theorem code_xask_none {a : Option Addr} {f : Value} {n : Nat} (A : Option Addr) (m c : Nat) (w : World) (hm0 : m ≤ 0) (hp : PagesAt w (.pointer a) n) (hn : n ≤ 1024) :
    Calls Try.prog 23 #[.pointer a, .slice A m c, f] w (Done w) := by
  have hb : Below w.heap.size w (w.alloc (.cells #[.pointer a] 24)) := (Below.refl _ _).alloc (Nat.le_refl _) _
  have c1 := code_xhas (v := .pointer a) (t := w.heap.size) A m c [] (w.alloc (.cells #[.pointer a] 24)) (by simp) (hp.below hb) hn (Rn.none_ hm0) (by omega) (fun r h => by cases h)
  rw [show (!([] : List (Int × Int)).all (xThere n)) = false from rfl] at c1
  unfold ResBool at c1
  have HB := hidb hb
  have HM := hidb hm0
  clear hp hb hm0
  go_enter Try.func23, Try.ntmps23
  go_wp2_with (go_at_call 29; (with_reducible refine c1.mono ?_); rintro e w1 ⟨rfl, hb1⟩)
  have B1 := hidb (nextB HB.out hb1)
  clear hb1 c1
  go_loopw [16] (fun k wr => ∃ j : Nat, k = .int .i64 j ∧ wr = w1) (fun _ _ => 0)
  case atStart => exact ⟨0, rfl, rfl⟩
  case round =>
    obtain ⟨j, rfl, rfl⟩ := hrel
    have hlt : ¬ j < m := by have := HM.out; omega
    have P : Hid (Done w (.returned (.tuple #[])) wr) := hidb ⟨rfl, B1.out⟩
    go_wp2
    exact bodyPost_ret (v := .tuple #[]) (by simp [results, Try.results23, go_sem]) rfl P.out
theorem code_xwrite_none (v : Value) (id : Int) (A : Option Addr) (m c : Nat) (w : World) (hm0 : m ≤ 0) :
    Calls Try.prog 25 #[v, .int .i64 id, .slice A m c] w (Idle w) := by
  have HM := hidb hm0
  clear hm0
  go_enter Try.func25, Try.ntmps25
  go_wp2
  go_loopw [11] (fun k wr => ∃ j : Nat, k = .int .i64 j ∧ wr = w) (fun _ _ => 0)
  case atStart => exact ⟨0, rfl, rfl⟩
  case round =>
    obtain ⟨j, rfl, rfl⟩ := hrel
    have hlt : ¬ j < m := by have := HM.out; omega
    have P : Hid (Idle wr (.returned (.tuple #[])) wr) := hidb ⟨rfl, rfl⟩
    go_wp2
    exact bodyPost_ret (v := .tuple #[]) (by simp [results, Try.results25, go_sem]) rfl P.out

theorem none_there (rs : List (Int × Int)) (h : rs ≠ []) : rs.all (xThere 0) = false := by
  cases rs with
  | nil => exact absurd rfl h
  | cons r rs =>
    rw [List.all_cons, Bool.and_eq_false_iff]
    left
    exact decide_eq_false (fun h => by have := h.2.2.1; have := h.2.1; omega)

theorem code_xruns_nil (id : Int) (w : World) (h0 : in64 id) :
    Calls Try.prog 18 #[.pointer none, .int .i64 id] w fun e w' => e = .returned (.slice none 0 0) ∧ w = w' := by
  have cp := code_xpages_nil w
  go_enter Try.func18, Try.ntmps18
  go_wp2_with (go_at_call 16; (with_reducible refine cp.mono ?_); rintro e w' ⟨rfl, rfl⟩)
  go_loopw [5, 10] (fun v k wr => v = .slice none 0 0 ∧ k = .int .i64 0 ∧ wr = w) (fun _ _ _ => 0)
  case atStart => exact ⟨rfl, rfl, rfl⟩
  case round =>
    obtain ⟨rfl, rfl, rfl⟩ := hrel
    go_wp2
    go_ret
    exact ⟨rfl, rfl⟩

/-- What Set and Drop of a nil index answer: OK, if there are no runs. -/
def nilNo (rs : List (Int × Int)) : Int := if rs = [] then 0 else 2

theorem code_xdrop_nil (A : Option Addr) (m c : Nat) (rs : List (Int × Int)) (w : World) (hs : Rn w w.heap.size A m rs) (hm : m ≤ 65536) (hr : ∀ r ∈ rs, in64 r.1 ∧ in64 r.2) :
    Calls Try.prog 11 #[.pointer none, .slice A m c] w fun e w' => e = .returned (.int .i64 (nilNo rs)) ∧ Below w.heap.size w w' := by
  obtain ⟨b1, b2, b4, b5⟩ : Below w.heap.size w ((w.alloc (.cells #[.pointer none] 24)).alloc (.cells #[.int .i64 0] 33)) ∧
      ((w.alloc (.cells #[.pointer none] 24)).alloc (.cells #[.int .i64 0] 33)).heap.size = w.heap.size + 1 + 1 ∧
      ((w.alloc (.cells #[.pointer none] 24)).alloc (.cells #[.int .i64 0] 33)).cell? ⟨w.heap.size + 1, 0, none⟩ = some (.int .i64 0) ∧
      ((w.alloc (.cells #[.pointer none] 24)).alloc (.cells #[.int .i64 0] 33)).frozen? ⟨w.heap.size + 1, 0, none⟩ = false :=
    ⟨((Below.refl _ _).alloc (Nat.le_refl _) _).alloc (by simp) _, by simp, by simp, by simp [go_sem]⟩
  have HE : Hid (∀ w4, Below (w.heap.size + 1 + 1) ((w.alloc (.cells #[.pointer none] 24)).alloc (.cells #[.int .i64 0] 33)) w4 → w4.cell? ⟨w.heap.size + 1, 0, none⟩ = some (.int .i64 0) ∧ w4.frozen? ⟨w.heap.size + 1, 0, none⟩ = false ∧ Below w.heap.size w w4) := hidb (fun w4 hb => ⟨by rw [hb.cell (by show w.heap.size + 1 < _; omega)]; exact b4, by rw [hb.frozen (by show w.heap.size + 1 < _; omega)]; exact b5, b1.trans (hb.mono (by omega))⟩)
  have HB2 := hidb b2
  cases rs with
  | nil =>
    have hm0 : m ≤ 0 := by have := hs.1; simp at this; omega
    have ca := fun f => code_xask_none (f := f) A m c _ hm0 (PagesAt.nil_ ((w.alloc (.cells #[.pointer none] 24)).alloc (.cells #[.int .i64 0] 33))) (by omega)
    unfold Done at ca
    have cw := fun W => code_xwrite_none (.pointer none) 0 A m c W hm0
    unfold Idle at cw
    have HK : Hid (∀ w4, Below ((w.alloc (.cells #[.pointer none] 24)).alloc (.cells #[.int .i64 0] 33)).heap.size ((w.alloc (.cells #[.pointer none] 24)).alloc (.cells #[.int .i64 0] 33)) w4 → w4.cell? ⟨w.heap.size, 0, none⟩ = some (.pointer none)) := hidb (fun w4 hb => by
      rw [hb.cell (by show w.heap.size < _; rw [b2]; omega), World.cell?_alloc_lt _ _ _ (by simp)]; simp)
    rw [show nilNo [] = 0 from rfl]
    clear hs hr b1 b2 b4 b5
    go_enter_defers Try.func11, Try.ntmps11
    go_wp2_with (first
      | (go_at_call 23; (with_reducible refine (ca _).mono ?_); rintro e w4 ⟨rfl, hb4⟩; have hcx := HK.out _ hb4; have HB4 := hidb (HE.out w4 (by rw [HB2.out] at hb4; exact hb4)); clear hb4; have hcE := HB4.out.1; have hfE := HB4.out.2.1)
      | (go_at_call 25; (with_reducible refine (cw _).mono ?_); rintro e w5 ⟨rfl, rfl⟩))
    have hcE2 := World.cell?_setCell_same _ _ (.int .i64 0) hcE
    refine leaves_cons (f := 21) (args := #[.pointer (some ⟨w.heap.size + 1, 0, none⟩)]) (by simp) (by simp [go_sem]) ?_
    refine (idle_drop ⟨w.heap.size + 1, 0, none⟩ 0 _ hcE2 (by simp [hfE])).mono ?_
    rintro e u' w'' ⟨rfl, rfl, rfl⟩
    have hc2 := World.cell?_setCell_same (w4.setCell ⟨w.heap.size + 1, 0, none⟩ (.int .i64 0)) ⟨w.heap.size + 1, 0, none⟩ (.int .i64 0) hcE2
    simp [Leaves, settle, results, Try.results11, go_sem, hc2]
    exact (HB4.out.2.2.setCell (p := ⟨w.heap.size + 1, 0, none⟩) (by show w.heap.size ≤ w.heap.size + 1; omega) _).setCell (p := ⟨w.heap.size + 1, 0, none⟩) (by show w.heap.size ≤ w.heap.size + 1; omega) _
  | cons r rs =>
    have ca := fun f => code_xask_gone (f := f) A m c (r :: rs) _ (PagesAt.nil_ ((w.alloc (.cells #[.pointer none] 24)).alloc (.cells #[.int .i64 0] 33))) (by omega) ((hs.below b1).more b1.size) hm hr (none_there _ (by simp))
    unfold Threw at ca
    rw [show nilNo (r :: rs) = 2 from rfl]
    clear hs hr b1 b2 b4 b5
    go_enter_defers Try.func11, Try.ntmps11
    go_wp2_with (first
      | (go_at_call 23; (with_reducible refine (ca _).mono ?_); rintro e w4 ⟨rfl, hb4⟩))
    rw [HB2.out] at hb4
    obtain ⟨hcE, hfE, hbw⟩ := HE.out _ hb4
    refine leaves_cons (f := 21) (args := #[.pointer (some ⟨w.heap.size + 1, 0, none⟩)]) (by simp) (by simp [go_sem]) ?_
    refine (catch_drop 58 2 (fun w => code_told2 w) ⟨w.heap.size + 1, 0, none⟩ 0 _ (lt_of_cell hcE) hcE hfE).mono ?_
    rintro e u' w'' ⟨rfl, rfl, rfl⟩
    have hT := told_cell hcE 58 (.int .i64 2)
    simp [Leaves, settle, results, Try.results11, go_sem, hT]
    exact (hbw.alloc hbw.size _).setCell (p := ⟨w.heap.size + 1, 0, none⟩) (by show w.heap.size ≤ w.heap.size + 1; omega) _

set_option maxHeartbeats 1000000 in
theorem code_xset_nil (id : Int) (A : Option Addr) (m c : Nat) (rs : List (Int × Int)) (w : World) (hs : Rn w w.heap.size A m rs) (hm : m ≤ 65536) (hr : ∀ r ∈ rs, in64 r.1 ∧ in64 r.2) (h0 : in64 id) (hid : ¬ id < 1) :
    Calls Try.prog 12 #[.pointer none, .int .i64 id, .slice A m c] w fun e w' => e = .returned (.int .i64 (nilNo rs)) ∧ Below w.heap.size w w' := by
  obtain ⟨i0, hi, hz0, hz1, hz2⟩ := info_parts info_bool
  have h01 := h0.2
  obtain ⟨W1, hW1⟩ : ∃ W1, (w.alloc (.cells #[.pointer none] 24)).alloc (.cells #[.int .i64 0] 33) = W1 := ⟨_, rfl⟩
  obtain ⟨b1, b2, b3, b4, b5⟩ : Below w.heap.size w W1 ∧ W1.heap.size = w.heap.size + 1 + 1 ∧ W1.cell? ⟨w.heap.size, 0, none⟩ = some (.pointer none) ∧ W1.cell? ⟨w.heap.size + 1, 0, none⟩ = some (.int .i64 0) ∧ W1.frozen? ⟨w.heap.size + 1, 0, none⟩ = false := by
    subst hW1
    exact ⟨((Below.refl _ _).alloc (Nat.le_refl _) _).alloc (by simp) _, by simp, by rw [World.cell?_alloc_lt _ _ _ (by simp)]; simp, by simp, by simp [go_sem]⟩
  have HE : Hid (∀ w4, Below (w.heap.size + 1 + 1) W1 w4 → w4.cell? ⟨w.heap.size + 1, 0, none⟩ = some (.int .i64 0) ∧ w4.frozen? ⟨w.heap.size + 1, 0, none⟩ = false ∧ Below w.heap.size w w4) := hidb (fun w4 hb => ⟨by rw [hb.cell (by show w.heap.size + 1 < _; omega)]; exact b4, by rw [hb.frozen (by show w.heap.size + 1 < _; omega)]; exact b5, b1.trans (hb.mono (by omega))⟩)
  have HZ : Hid (∀ w4, Below (w.heap.size + 1 + 1) W1 w4 → w.heap.size + 1 + 1 ≤ w4.heap.size) := hidb (fun w4 hb => by have := hb.size; omega)
  have HK : Hid (∀ w4, Below (w.heap.size + 1 + 1) W1 w4 → w4.cell? ⟨w.heap.size, 0, none⟩ = some (.pointer none)) := hidb (fun w4 hb => by
    rw [hb.cell (by show w.heap.size < _; omega)]; exact b3)
  have HM : Hid (∀ w1, ((w.alloc (.cells #[.pointer none] 24)).alloc (.cells #[.int .i64 0] 33)).grownBy w1 none → Below (w.heap.size + 1 + 1) W1 (w1.alloc (.cells #[.slice (some ⟨w.heap.size + 1 + 1, 0, none⟩) 0 0] 57)) ∧ (w1.alloc (.cells #[.slice (some ⟨w.heap.size + 1 + 1, 0, none⟩) 0 0] 57)).cell? ⟨w.heap.size, 0, none⟩ = some (.pointer none)) := hidb (fun w1 hg => by
    rw [hW1] at hg
    have hb : Below (w.heap.size + 1 + 1) W1 (w1.alloc (.cells #[.slice (some ⟨w.heap.size + 1 + 1, 0, none⟩) 0 0] 57)) := by
      rw [← b2]; exact ((Below.refl _ _).grown hg (Nat.le_refl _) (fun k hk => by cases hk)).alloc hg.size _
    exact ⟨hb, HK.out _ hb⟩)
  cases rs with
  | nil =>
    have hm0 : m ≤ 0 := by have := hs.1; simp at this; omega
    have CA : Hid (∀ W, Below (w.heap.size + 1 + 1) W1 W → ∀ f, Calls Try.prog 23 #[.pointer none, .slice A m c, f] W fun e w' => e = .returned (.tuple #[]) ∧ Below W.heap.size W w') := hidb (fun W _ f => code_xask_none (f := f) A m c _ hm0 (PagesAt.nil_ W) (by omega))
    have cw := fun W => code_xwrite_none (.pointer none) id A m c W hm0
    unfold Idle at cw
    have cp := fun W => code_xpages_nil W
    rw [show nilNo [] = 0 from rfl]
    have HS2 := hidb b2
    clear hs hr hm0 b1 b2 b3 b4 b5 hW1
    go_enter_defers Try.func12, Try.ntmps12
    go_wp2_with (first
      | (go_at_call 16; (with_reducible refine (cp _).mono ?_); rintro e w' ⟨rfl, rfl⟩)
      | (at_make; refine wpList_make_full _ rfl _ _ 57 rfl w.heap.size 4 i0 (.bool false) 1 Try.underlying57 hi hz0 hz1 .i64 .i64 _ _ 0 rfl rfl (by omega) (by omega) (by rw [hz2]; omega) (by unfold maxLen; omega) (by simp; omega) ?_; intro w1 hown hgrow; have B4 := HM.out w1 hgrow; have hcx := B4.2; have ca := CA.out _ B4.1; have HB1 := hidb B4.1; clear hown hgrow B4)
      | (go_at_call 23; (with_reducible refine (ca _).mono ?_); rintro e w4 ⟨rfl, hb4⟩; have HB4 := hidb (HB1.out.trans (hb4.mono (HZ.out _ HB1.out))); clear hb4; have hcx4 := HK.out _ HB4.out; have hcE := (HE.out _ HB4.out).1; have hfE := (HE.out _ HB4.out).2.1)
      | (go_at_call 25; (with_reducible refine (cw _).mono ?_); rintro e w5 ⟨rfl, rfl⟩))
    have hcE2 := World.cell?_setCell_same _ _ (.int .i64 0) hcE
    refine leaves_cons (f := 26) (args := #[.pointer (some ⟨w.heap.size + 1, 0, none⟩)]) (by simp) (by simp [go_sem]) ?_
    refine (idle_set ⟨w.heap.size + 1, 0, none⟩ 0 _ hcE2 (by simp [hfE])).mono ?_
    rintro e u' w'' ⟨rfl, rfl, rfl⟩
    have hc2 := World.cell?_setCell_same (w4.setCell ⟨w.heap.size + 1, 0, none⟩ (.int .i64 0)) ⟨w.heap.size + 1, 0, none⟩ (.int .i64 0) hcE2
    simp [Leaves, settle, results, Try.results12, go_sem, hc2]
    exact ((HE.out _ HB4.out).2.2.setCell (p := ⟨w.heap.size + 1, 0, none⟩) (by show w.heap.size ≤ w.heap.size + 1; omega) _).setCell (p := ⟨w.heap.size + 1, 0, none⟩) (by show w.heap.size ≤ w.heap.size + 1; omega) _
  | cons r rs =>
    have CA : Hid (∀ W, Below (w.heap.size + 1 + 1) W1 W → ∀ f, Calls Try.prog 23 #[.pointer none, .slice A m c, f] W fun e w' => e = .panicked [thrown 58] ∧ Below W.heap.size W w') := hidb (fun W hb f => by
      have hbw := b1.trans (hb.mono (by omega))
      exact code_xask_gone (f := f) A m c (r :: rs) _ (PagesAt.nil_ W) (by omega) ((hs.below hbw).more hbw.size) hm hr (none_there _ (by simp)))
    have cp := fun W => code_xpages_nil W
    rw [show nilNo (r :: rs) = 2 from rfl]
    clear hs hr b1 b2 b3 b4 b5 hW1
    go_enter_defers Try.func12, Try.ntmps12
    go_wp2_with (first
      | (go_at_call 16; (with_reducible refine (cp _).mono ?_); rintro e w' ⟨rfl, rfl⟩)
      | (at_make; refine wpList_make_full _ rfl _ _ 57 rfl w.heap.size 4 i0 (.bool false) 1 Try.underlying57 hi hz0 hz1 .i64 .i64 _ _ 0 rfl rfl (by omega) (by omega) (by rw [hz2]; omega) (by unfold maxLen; omega) (by simp; omega) ?_; intro w1 hown hgrow; have B4 := HM.out w1 hgrow; have hcx := B4.2; have ca := CA.out _ B4.1; have HB1 := hidb B4.1; clear hown hgrow B4)
      | (go_at_call 23; (with_reducible refine (ca _).mono ?_); rintro e w4 ⟨rfl, hb4⟩))
    obtain ⟨hcE, hfE, hbw⟩ := HE.out _ (HB1.out.trans (hb4.mono (HZ.out _ HB1.out)))
    refine leaves_cons (f := 26) (args := #[.pointer (some ⟨w.heap.size + 1, 0, none⟩)]) (by simp) (by simp [go_sem]) ?_
    refine (catch_set 58 2 (fun w => code_told2 w) ⟨w.heap.size + 1, 0, none⟩ 0 _ (lt_of_cell hcE) hcE hfE).mono ?_
    rintro e u' w'' ⟨rfl, rfl, rfl⟩
    have hT := told_cell hcE 58 (.int .i64 2)
    simp [Leaves, settle, results, Try.results12, go_sem, hT]
    exact (hbw.alloc hbw.size _).setCell (p := ⟨w.heap.size + 1, 0, none⟩) (by show w.heap.size ≤ w.heap.size + 1; omega) _

end Go.Proofs.Ytoghahldlnhpdaa

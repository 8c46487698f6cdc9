/- What Take, Give, List, Spans and Out of a nil pool return. -/
import Derived.Test.YthdjgmankcegpaaGreatPoolNils
import Derived.Test.YthdjgmankcegpaaGreatPoolGive0
import Derived.Test.YthdjgmankcegpaaGreatPoolReads2
import Derived.Test.YthdjgmankcegpaaGreatPoolTake
namespace Go.Proofs.YthdjgmankcegpaaGreat
open Go.RowKit Go.Maps
set_option linter.unusedVariables false

theorem code_ptake_nil (order : Int) (ho : 0 ≤ order ∧ order ≤ 3) (w : World) :
    Calls Tryz.prog 30 #[.pointer none, .int .i64 order] w fun e w' => e = .returned (.tuple #[.int .i64 0, .int .i64 3]) ∧ Below w.heap.size w w' := by
  have hbe : Below w.heap.size w (w.alloc (.cells #[.int .i64 order] 3)) := (Below.refl _ _).alloc (Nat.le_refl _) _
  have HX : Hid (∀ W, Below (w.heap.size + 1) (w.alloc (.cells #[.int .i64 order] 3)) W → W.cell? ⟨w.heap.size, 0, none⟩ = some (.int .i64 order)) := hidb (fun W hb => (hb.cell (p := ⟨w.heap.size, 0, none⟩) (by show w.heap.size < _; omega)).trans (World.cell?_alloc_at _ _ _ 0 (by simp)))
  have cr : ∀ W, Calls Tryz.prog 42 #[.pointer none, .func (.func 62) #[] #[.pointer (some ⟨w.heap.size, 0, none⟩)]] W fun e w' => ∃ A c, e = .returned (.slice A 0 c) ∧ Below W.heap.size W w' := fun W => (code_rising_nil W 62 #[.pointer (some ⟨w.heap.size, 0, none⟩)]).mono fun e w' ⟨A, c, h1, _, h2⟩ => ⟨A, c, h1, h2⟩
  have ca : ∀ W, Calls Tryz.prog 63 #[.pointer none, .int .i64 order] W fun e w' => e = .returned (.tuple #[.pointer none, .int .i64 3]) ∧ Below W.heap.size W w' := fun W => by
    have cp := code_pparts_nil W
    have cm : ∀ W2, Calls Tryz.prog 41 #[.pointer none, .int .i64 4, .int .i64 order] W2 fun e w' => e = .returned (.tuple #[.agg #[.int .i64 0, .int .i64 0, .int .i64 0, .int .i64 0], .int .i64 3]) ∧ Below W2.heap.size W2 w' := fun W2 => code_hmake_nil 4 order ⟨by omega, by omega⟩ (by omega) W2
    have hf := pfield_hp
    go_enter Tryz.func63, Tryz.ntmps63
    go_wp2_with (first
      | (go_at_call 81; (with_reducible refine cp.mono ?_); rintro e w1 ⟨rfl, hb1⟩)
      | (go_at_call 41; (with_reducible refine (cm _).mono ?_); rintro e w2 ⟨rfl, hb2⟩; have hb := hb1.trans (hb2.mono hb1.size)))
    go_ret2
    exact ⟨rfl, hb.alloc hb.size _⟩
  have hd1 : decide (order < 0) = false := decide_eq_false (by omega)
  have hd2 : decide (4 ≤ order) = false := decide_eq_false (by omega)
  have hz1 : (w.alloc (.cells #[.int .i64 order] 3)).heap.size = w.heap.size + 1 := by simp
  have HZ := hidb hz1
  have HBE := hidb hbe
  clear hbe hz1
  go_enter Tryz.func30, Tryz.ntmps30
  go_wp2_with (first
    | (go_at_call 42; (with_reducible refine (cr _).mono ?_); rintro e w1 ⟨A, c, rfl, hb1⟩; have hb := HBE.out.trans (hb1.mono (by rw [HZ.out]; omega)); have y0 := HX.out w1 (by rw [HZ.out] at hb1; exact hb1))
    | (go_at_call 63; (with_reducible refine (ca _).mono ?_); rintro e w2 ⟨rfl, hb2⟩))
  go_ret2
  exact ⟨rfl, hb.trans (hb2.mono hb.size)⟩
theorem code_plist_nil (order : Int) (w : World) : Calls Tryz.prog 15 #[.pointer none, .int .i64 order] w fun e w' => e = .returned (.slice none 0 0) ∧ Below w.heap.size w w' := by
  have hbe : Below w.heap.size w (w.alloc (.cells #[.int .i64 order] 3)) := (Below.refl _ _).alloc (Nat.le_refl _) _
  have cr : ∀ W, Calls Tryz.prog 42 #[.pointer none, .func (.func 45) #[] #[.pointer (some ⟨w.heap.size, 0, none⟩)]] W fun e w' => ∃ A c, e = .returned (.slice A 0 c) ∧ Below W.heap.size W w' := fun W => (code_rising_nil W 45 #[.pointer (some ⟨w.heap.size, 0, none⟩)]).mono fun e w' ⟨A, c, h1, _, h2⟩ => ⟨A, c, h1, h2⟩
  have HBE := hidb hbe
  clear hbe
  go_enter Tryz.func15, Tryz.ntmps15
  go_wp2_with (first
    | (go_at_call 42; (with_reducible refine (cr _).mono ?_); rintro e w1 ⟨A, c, rfl, hb1⟩; have hb := HBE.out.trans (hb1.mono HBE.out.size)))
  refine wp_loop_rounds 1 ?_
  rw [rounds_succ]
  go_wp2
  go_ret
  exact ⟨rfl, hb⟩
theorem code_pspans_nil (order : Int) (w : World) : Calls Tryz.prog 12 #[.pointer none, .int .i64 order] w fun e w' => e = .returned (.slice none 0 0) ∧ Below w.heap.size w w' := by
  have hbe : Below w.heap.size w (w.alloc (.cells #[.int .i64 order] 3)) := (Below.refl _ _).alloc (Nat.le_refl _) _
  have cr : ∀ W, Calls Tryz.prog 42 #[.pointer none, .func (.func 43) #[] #[.pointer (some ⟨w.heap.size, 0, none⟩)]] W fun e w' => ∃ A c, e = .returned (.slice A 0 c) ∧ Below W.heap.size W w' := fun W => (code_rising_nil W 43 #[.pointer (some ⟨w.heap.size, 0, none⟩)]).mono fun e w' ⟨A, c, h1, _, h2⟩ => ⟨A, c, h1, h2⟩
  have HBE := hidb hbe
  clear hbe
  go_enter Tryz.func12, Tryz.ntmps12
  go_wp2_with (first
    | (go_at_call 42; (with_reducible refine (cr _).mono ?_); rintro e w1 ⟨A, c, rfl, hb1⟩; have hb := HBE.out.trans (hb1.mono HBE.out.size)))
  refine wp_loop_rounds 1 ?_
  rw [rounds_succ]
  go_wp2
  go_ret
  exact ⟨rfl, hb⟩
theorem code_pout_nil (w : World) : Calls Tryz.prog 19 #[.pointer none] w fun e w' => e = .returned (.slice none 0 0) ∧ Below w.heap.size w w' := by
  have cr : ∀ W, Calls Tryz.prog 42 #[.pointer none, .func (.func 50) #[] #[]] W fun e w' => ∃ A c, e = .returned (.slice A 0 c) ∧ Below W.heap.size W w' := fun W => (code_rising_nil W 50 #[]).mono fun e w' ⟨A, c, h1, _, h2⟩ => ⟨A, c, h1, h2⟩
  go_enter Tryz.func19, Tryz.ntmps19
  go_wp2_with (first
    | (go_at_call 42; (with_reducible refine (cr _).mono ?_); rintro e w1 ⟨A, c, rfl, hb⟩))
  refine wp_loop_rounds 1 ?_
  rw [rounds_succ]
  go_wp2
  go_ret
  exact ⟨rfl, hb⟩
/-- Give$1, of a nil pool: there is no block. -/
theorem code_pgive1_nil (t : Nat) (w : World) (ht : w.cell? ⟨t, 0, none⟩ = some (.pointer none)) (x : Int) (hx : in64 x) :
    Calls Tryz.prog 66 #[.int .i64 x, .pointer (some ⟨t, 0, none⟩)] w fun e w' => e = .returned (.bool true) ∧ Below w.heap.size w w' := by
  have cc := code_cutat_nil x hx w
  go_enter Tryz.func66, Tryz.ntmps66
  go_wp2_with (first
    | (go_at_call 47; (with_reducible refine cc.mono ?_); rintro e w1 ⟨rfl, hb1⟩))
  go_ret
  exact ⟨rfl, hb1⟩
set_option maxRecDepth 100000 in
theorem code_pgive_nil (A : Option Addr) (N c : Nat) (xs : List Int) (w : World) (hs : Sl w w.heap.size A N (xs.map iv)) (hN : N ≤ 65536) (hx : ∀ x ∈ xs, in64 x) :
    Calls Tryz.prog 31 #[.pointer none, .slice A N c] w fun e w' => e = .returned (.int .i64 (if 0 < N then 2 else 0)) ∧ Below w.heap.size w w' := by
  have hxl : xs.length = N := by have := hs.1; simpa using this
  have hmk := @run_makeMap Tryz.prog
  obtain ⟨W0, hW0⟩ : ∃ W0, W0 = ((w.alloc (.cells #[.pointer none] 26)).alloc (.map #[] 0)).alloc (.cells #[.map (some (w.heap.size + 1))] 121) := ⟨_, rfl⟩
  have hb0 : Below w.heap.size w W0 := by
    have b1 := (Below.refl w.heap.size w).alloc (Nat.le_refl _) (.cells #[.pointer none] 26)
    have b2 := b1.alloc b1.size (.map #[] 0)
    rw [hW0]; exact b2.alloc b2.size _
  have htc : W0.cell? ⟨w.heap.size, 0, none⟩ = some (.pointer none) := by rw [hW0]; exact alloc_old _ (alloc_old _ (World.cell?_alloc_at _ _ _ 0 (by simp)))
  have hs0 : Sl W0 W0.heap.size A N (xs.map iv) := (hs.below hb0).more hb0.size
  have c1 := code_g1_has (t := w.heap.size) (fun _ => true) (fun _ W => Below W0.heap.size W0 W) A N c xs W0 (Below.refl _ _) (fun j W hb => (hs0.below hb).more hb.size) (fun j z W hz hb => by
    refine (code_pgive1_nil w.heap.size W ((hb.cell (p := ⟨w.heap.size, 0, none⟩) (lt_of_cell htc)).trans htc) z (hx z (List.mem_of_getElem? hz))).mono ?_
    rintro e2 w' ⟨rfl, hb2⟩
    exact ⟨rfl, hb.trans (hb2.mono hb.size)⟩) (by omega)
  have HB0 := hidb hb0
  have HW0 := hidb hW0
  by_cases hn : 0 < N
  · rw [if_pos hn]
    have hany : (List.range N).any (fun _ => true) = true := List.any_eq_true.2 ⟨0, List.mem_range.2 hn, rfl⟩
    rw [hany] at c1
    clear hs hs0 htc hW0 hany hb0
    go_enter Tryz.func31, Tryz.ntmps31
    go_wp2_with (first
      | (go_at_call 65; rw [← HW0.out]; (with_reducible refine c1.mono ?_); rintro e w1 ⟨rfl, j, _, hb1⟩))
    go_ret
    exact ⟨rfl, HB0.out.trans (hb1.mono HB0.out.size)⟩
  · rw [if_neg hn]
    obtain rfl : N = 0 := by omega
    have hx0 : xs = [] := List.eq_nil_of_length_eq_zero hxl
    subst hx0
    rw [show (List.range 0).any (fun _ => true) = false from rfl] at c1
    have C2 : Hid (∀ W, Calls Tryz.prog 65 #[.slice A 0 c, .func (.func 67) #[] #[.pointer (some ⟨w.heap.size + 2, 0, none⟩), .pointer (some ⟨w.heap.size, 0, none⟩)]] W fun e w' => e = .returned (.bool false) ∧ w' = W) := hidb (fun W => (code_g2_has (s := w.heap.size + 2) (t := w.heap.size) (fun _ => true) (fun _ W' => W' = W) A 0 c [] W rfl (fun j W' _ => Sl.nil_) (fun j z W' hz _ => by simp at hz) (by omega)).mono fun e w' ⟨h1, _, _, h2⟩ => ⟨h1, h2⟩)
    have ct := fun W => code_ptrim_nil W
    unfold NilDone at ct
    have HTC : Hid (∀ W, Below W0.heap.size W0 W → W.cell? ⟨w.heap.size, 0, none⟩ = some (.pointer none)) := hidb (fun W hb => (hb.cell (p := ⟨w.heap.size, 0, none⟩) (lt_of_cell htc)).trans htc)
    clear hs hs0 htc hW0 hb0 hx
    go_enter Tryz.func31, Tryz.ntmps31
    go_wp2_with (first
      | (go_at_call 65; rw [← HW0.out]; (with_reducible refine c1.mono ?_); rintro e w1 ⟨rfl, j, _, hb1⟩; have tc := HTC.out w1 hb1; have HB1 := hidb hb1; clear hb1)
      | (go_at_call 65; (with_reducible refine (C2.out _).mono ?_); rintro e w2 ⟨rfl, rfl⟩))
    refine wp_loop_rounds 1 ?_
    rw [rounds_succ]
    go_wp2_with (first
      | (go_at_call 61; (with_reducible refine (ct _).mono ?_); rintro e w3 ⟨rfl, hb3⟩))
    go_ret
    exact ⟨rfl, HB0.out.trans ((HB1.out.trans (hb3.mono HB1.out.size)).mono HB0.out.size)⟩

end Go.Proofs.YthdjgmankcegpaaGreat

/- The walk of layer 7's statement on a nil heap. -/
import Derived.Test.YtdobmdhhgponpaaGreatHeapLaws0
import Derived.Test.YtdobmdhhgponpaaGreatHeapFreeNil
namespace Go.Proofs.YtdobmdhhgponpaaGreat
open Go.RowKit
set_option linter.unusedVariables false

/-- Numbers that came in. -/
theorem read_ids {H : Type} {enc : TypeId × Value → H} {W : World} {sp : Nat → Bool} {hd : Bool} {v : Value} {d : DataW H} {ps : List MemPlace} (h : DataW.Trod enc Tryz.prog W 0 sp hd 35 v d ps) :
    ∃ (A : Option Addr) (len cap : Nat) (l : List Int), v.cells.toList = [.slice A len cap] ∧ len ≤ maxLen ∧ Sl W W.heap.size A len (l.map iv) ∧ ∀ i ∈ l, in64 i := by
  obtain ⟨fuel, hf⟩ := h
  obtain ⟨A, len, cap, zs, e1, hlen, hsl, hwf⟩ := read_ints Tryz.underlying35 Tryz.underlying3 (by kernel_rfl) hf
  exact ⟨A, len, cap, zs, e1, hlen, hsl, fun x hx => wf_in64 (hwf x hx)⟩
theorem SpanBox (w1 : World) (s1 s2 s3 s4 : Int) : ∀ W, Below (w1.alloc (.cells #[.int .i64 s1, .int .i64 s2, .int .i64 s3, .int .i64 s4] 43)).heap.size (w1.alloc (.cells #[.int .i64 s1, .int .i64 s2, .int .i64 s3, .int .i64 s4] 43)) W →
    W.cell? ⟨w1.heap.size, 0, none⟩ = some (.int .i64 s1) ∧ W.cell? ⟨w1.heap.size, 1, none⟩ = some (.int .i64 s2) ∧ W.cell? ⟨w1.heap.size, 2, none⟩ = some (.int .i64 s3) ∧ W.cell? ⟨w1.heap.size, 3, none⟩ = some (.int .i64 s4) := fun W hb => by
  have h1 : W.heap[w1.heap.size]? = some (.cells #[.int .i64 s1, .int .i64 s2, .int .i64 s3, .int .i64 s4] 43 (0, 0)) := by
    rw [hb.block _ (by simp)]
    show (w1.heap.push _)[w1.heap.size]? = _
    simp
  obtain ⟨a, b, c, d, _⟩ := cells4 h1
  exact ⟨a, b, c, d⟩
set_option maxRecDepth 100000 in
set_option maxHeartbeats 4000000 in
theorem heapNil_any (pages order : Int) (A : Option Addr) (m c : Nat) (ids : List Int) (w : World) (h0 : in64 pages) (h1 : in64 order) (hm : m ≤ maxLen) (hs : Sl w w.heap.size A m (ids.map iv)) (hid : ∀ i ∈ ids, in64 i) :
    Calls Tryz.prog 4 #[.int .i64 pages, .int .i64 order, .slice A m c] w fun e w' => e = .returned (.bool true) ∧ Below w.heap.size w w' := by
  have cw := fun W => awake7 W
  unfold maxLen at hm
  by_cases g1 : 5 < m
  · have g2 : (5 : Int) < (m : Int) := by omega
    clear hs hid
    go_enter Tryz.func4, Tryz.ntmps4
    go_wp2_with (first | (go_at_call 5; (with_reducible refine (cw _).mono ?_); rintro e w1 ⟨rfl, hb1⟩))
    go_ret
    exact ⟨rfl, hb1⟩
  have g2 : ¬ (5 : Int) < (m : Int) := by omega
  have csp : ∀ W, Calls Tryz.prog 13 #[.pointer none, .int .i64 pages] W fun e w' => e = .returned (.tuple #[.agg #[.int .i64 0, .int .i64 0, .int .i64 0, .int .i64 0], .bool false]) ∧ Below W.heap.size W w' := fun W => code_hspan_nil pages h0 W
  have cat : ∀ W, Calls Tryz.prog 15 #[.pointer none, .int .i64 pages] W fun e w' => e = .returned (.tuple #[.agg #[.int .i64 0, .int .i64 0, .int .i64 0, .int .i64 0], .bool false]) ∧ Below W.heap.size W w' := fun W => code_hat_nil pages h0 W
  have css : ∀ W, Calls Tryz.prog 18 #[.pointer none] W fun e w' => ∃ A c, e = .returned (.slice A 0 c) ∧ Below W.heap.size W w' := fun W => (code_hspans_nil W).mono fun e w' ⟨A, c, e1, _, e3⟩ => ⟨A, c, e1, e3⟩
  have crs : ∀ W, Calls Tryz.prog 21 #[.pointer none] W fun e w' => ∃ A c, e = .returned (.slice A 0 c) ∧ Below W.heap.size W w' := fun W => (code_hruns_nil W).mono fun e w' ⟨A, c, e1, _, e3⟩ => ⟨A, c, e1, e3⟩
  have csz := fun W => code_hsize_nil W
  have q1 := eql_span 0 0 0 0 0 0 0 0
  have CF : Hid (∀ W, Below w.heap.size w W → Calls Tryz.prog 10 #[.pointer none, .slice A m c] W fun e w' => e = .returned (.int .i64 (if m = 0 then 0 else 6)) ∧ Below W.heap.size W w') := hidb (fun W hb => by
    by_cases c0 : m = 0
    · subst c0; exact code_hfree_nil0 A c W
    · rw [if_neg c0]; exact code_hfree_nil1 A m c ids W ((hs.below hb).more hb.size) (by omega) hid)
  have fin : ∀ (no : Int) (hno : no = 1 ∨ no = 3), True := fun _ _ => trivial
  clear hs hid fin
  by_cases c0 : m = 0
  · subst c0
    rw [if_pos rfl] at CF
    by_cases c1 : pages < 1
    · have cm : ∀ W, Calls Tryz.prog 12 #[.pointer none, .int .i64 pages, .int .i64 order] W fun e w' => e = .returned (.tuple #[.agg #[.int .i64 0, .int .i64 0, .int .i64 0, .int .i64 0], .int .i64 1]) ∧ Below W.heap.size W w' := fun W => code_hmake_arg none pages order W (Or.inl c1)
      go_enter Tryz.func4, Tryz.ntmps4
      go_wp2_with (first
        | (go_at_call 12; (with_reducible refine (cm _).mono ?_); rintro e w1 ⟨rfl, hb1⟩; have HQ := hidb (SpanBox w1 0 0 0 0); have hall := hb1.alloc hb1.size (.cells #[.int .i64 0, .int .i64 0, .int .i64 0, .int .i64 0] 43); have hin := Below.refl (w1.alloc (.cells #[.int .i64 0, .int .i64 0, .int .i64 0, .int .i64 0] 43)).heap.size (w1.alloc (.cells #[.int .i64 0, .int .i64 0, .int .i64 0, .int .i64 0] 43)))
        | (go_at_call 13; (with_reducible refine (csp _).mono ?_); rintro e w2 ⟨rfl, hb2⟩; replace hin := (hin.trans (hb2.mono hin.size)).alloc (Nat.le_trans hin.size hb2.size) (.cells #[.int .i64 0, .int .i64 0, .int .i64 0, .int .i64 0] 43); replace hall := (hall.trans (hb2.mono hall.size)).alloc (Nat.le_trans hall.size hb2.size) (.cells #[.int .i64 0, .int .i64 0, .int .i64 0, .int .i64 0] 43); clear hb2)
        | (go_at_call 15; (with_reducible refine (cat _).mono ?_); rintro e w3 ⟨rfl, hb3⟩; replace hin := (hin.trans (hb3.mono hin.size)).alloc (Nat.le_trans hin.size hb3.size) (.cells #[.int .i64 0, .int .i64 0, .int .i64 0, .int .i64 0] 43); replace hall := (hall.trans (hb3.mono hall.size)).alloc (Nat.le_trans hall.size hb3.size) (.cells #[.int .i64 0, .int .i64 0, .int .i64 0, .int .i64 0] 43); clear hb3; obtain ⟨y0, y1, y2, y3⟩ := HQ.out _ hin)
        | (go_at_call 10; (with_reducible refine (CF.out _ hall).mono ?_); rintro e w4 ⟨rfl, hb4⟩; replace hall := hall.trans (hb4.mono hall.size))
        | (go_at_call 18; (with_reducible refine (css _).mono ?_); rintro e w5 ⟨A5, c5, rfl, hb5⟩; replace hall := hall.trans (hb5.mono hall.size))
        | (go_at_call 21; (with_reducible refine (crs _).mono ?_); rintro e w6 ⟨A6, c6, rfl, hb6⟩; replace hall := hall.trans (hb6.mono hall.size))
        | (go_at_call 8; (with_reducible refine (csz _).mono ?_); rintro e w7 ⟨rfl, hb7⟩; replace hall := hall.trans (hb7.mono hall.size))
        | (go_at_call 5; (with_reducible refine (cw _).mono ?_); rintro e w8 ⟨rfl, hb8⟩))
      go_ret
      exact ⟨rfl, hall.trans (hb8.mono hall.size)⟩
    by_cases c2 : order < -1
    · have cm : ∀ W, Calls Tryz.prog 12 #[.pointer none, .int .i64 pages, .int .i64 order] W fun e w' => e = .returned (.tuple #[.agg #[.int .i64 0, .int .i64 0, .int .i64 0, .int .i64 0], .int .i64 1]) ∧ Below W.heap.size W w' := fun W => code_hmake_arg none pages order W (Or.inr (Or.inl c2))
      go_enter Tryz.func4, Tryz.ntmps4
      go_wp2_with (first
        | (go_at_call 12; (with_reducible refine (cm _).mono ?_); rintro e w1 ⟨rfl, hb1⟩; have HQ := hidb (SpanBox w1 0 0 0 0); have hall := hb1.alloc hb1.size (.cells #[.int .i64 0, .int .i64 0, .int .i64 0, .int .i64 0] 43); have hin := Below.refl (w1.alloc (.cells #[.int .i64 0, .int .i64 0, .int .i64 0, .int .i64 0] 43)).heap.size (w1.alloc (.cells #[.int .i64 0, .int .i64 0, .int .i64 0, .int .i64 0] 43)))
        | (go_at_call 13; (with_reducible refine (csp _).mono ?_); rintro e w2 ⟨rfl, hb2⟩; replace hin := (hin.trans (hb2.mono hin.size)).alloc (Nat.le_trans hin.size hb2.size) (.cells #[.int .i64 0, .int .i64 0, .int .i64 0, .int .i64 0] 43); replace hall := (hall.trans (hb2.mono hall.size)).alloc (Nat.le_trans hall.size hb2.size) (.cells #[.int .i64 0, .int .i64 0, .int .i64 0, .int .i64 0] 43); clear hb2)
        | (go_at_call 15; (with_reducible refine (cat _).mono ?_); rintro e w3 ⟨rfl, hb3⟩; replace hin := (hin.trans (hb3.mono hin.size)).alloc (Nat.le_trans hin.size hb3.size) (.cells #[.int .i64 0, .int .i64 0, .int .i64 0, .int .i64 0] 43); replace hall := (hall.trans (hb3.mono hall.size)).alloc (Nat.le_trans hall.size hb3.size) (.cells #[.int .i64 0, .int .i64 0, .int .i64 0, .int .i64 0] 43); clear hb3; obtain ⟨y0, y1, y2, y3⟩ := HQ.out _ hin)
        | (go_at_call 10; (with_reducible refine (CF.out _ hall).mono ?_); rintro e w4 ⟨rfl, hb4⟩; replace hall := hall.trans (hb4.mono hall.size))
        | (go_at_call 18; (with_reducible refine (css _).mono ?_); rintro e w5 ⟨A5, c5, rfl, hb5⟩; replace hall := hall.trans (hb5.mono hall.size))
        | (go_at_call 21; (with_reducible refine (crs _).mono ?_); rintro e w6 ⟨A6, c6, rfl, hb6⟩; replace hall := hall.trans (hb6.mono hall.size))
        | (go_at_call 8; (with_reducible refine (csz _).mono ?_); rintro e w7 ⟨rfl, hb7⟩; replace hall := hall.trans (hb7.mono hall.size))
        | (go_at_call 5; (with_reducible refine (cw _).mono ?_); rintro e w8 ⟨rfl, hb8⟩))
      go_ret
      exact ⟨rfl, hall.trans (hb8.mono hall.size)⟩
    by_cases c3 : 3 < order
    · have cm : ∀ W, Calls Tryz.prog 12 #[.pointer none, .int .i64 pages, .int .i64 order] W fun e w' => e = .returned (.tuple #[.agg #[.int .i64 0, .int .i64 0, .int .i64 0, .int .i64 0], .int .i64 1]) ∧ Below W.heap.size W w' := fun W => code_hmake_arg none pages order W (Or.inr (Or.inr c3))
      go_enter Tryz.func4, Tryz.ntmps4
      go_wp2_with (first
        | (go_at_call 12; (with_reducible refine (cm _).mono ?_); rintro e w1 ⟨rfl, hb1⟩; have HQ := hidb (SpanBox w1 0 0 0 0); have hall := hb1.alloc hb1.size (.cells #[.int .i64 0, .int .i64 0, .int .i64 0, .int .i64 0] 43); have hin := Below.refl (w1.alloc (.cells #[.int .i64 0, .int .i64 0, .int .i64 0, .int .i64 0] 43)).heap.size (w1.alloc (.cells #[.int .i64 0, .int .i64 0, .int .i64 0, .int .i64 0] 43)))
        | (go_at_call 13; (with_reducible refine (csp _).mono ?_); rintro e w2 ⟨rfl, hb2⟩; replace hin := (hin.trans (hb2.mono hin.size)).alloc (Nat.le_trans hin.size hb2.size) (.cells #[.int .i64 0, .int .i64 0, .int .i64 0, .int .i64 0] 43); replace hall := (hall.trans (hb2.mono hall.size)).alloc (Nat.le_trans hall.size hb2.size) (.cells #[.int .i64 0, .int .i64 0, .int .i64 0, .int .i64 0] 43); clear hb2)
        | (go_at_call 15; (with_reducible refine (cat _).mono ?_); rintro e w3 ⟨rfl, hb3⟩; replace hin := (hin.trans (hb3.mono hin.size)).alloc (Nat.le_trans hin.size hb3.size) (.cells #[.int .i64 0, .int .i64 0, .int .i64 0, .int .i64 0] 43); replace hall := (hall.trans (hb3.mono hall.size)).alloc (Nat.le_trans hall.size hb3.size) (.cells #[.int .i64 0, .int .i64 0, .int .i64 0, .int .i64 0] 43); clear hb3; obtain ⟨y0, y1, y2, y3⟩ := HQ.out _ hin)
        | (go_at_call 10; (with_reducible refine (CF.out _ hall).mono ?_); rintro e w4 ⟨rfl, hb4⟩; replace hall := hall.trans (hb4.mono hall.size))
        | (go_at_call 18; (with_reducible refine (css _).mono ?_); rintro e w5 ⟨A5, c5, rfl, hb5⟩; replace hall := hall.trans (hb5.mono hall.size))
        | (go_at_call 21; (with_reducible refine (crs _).mono ?_); rintro e w6 ⟨A6, c6, rfl, hb6⟩; replace hall := hall.trans (hb6.mono hall.size))
        | (go_at_call 8; (with_reducible refine (csz _).mono ?_); rintro e w7 ⟨rfl, hb7⟩; replace hall := hall.trans (hb7.mono hall.size))
        | (go_at_call 5; (with_reducible refine (cw _).mono ?_); rintro e w8 ⟨rfl, hb8⟩))
      go_ret
      exact ⟨rfl, hall.trans (hb8.mono hall.size)⟩
    · have cm : ∀ W, Calls Tryz.prog 12 #[.pointer none, .int .i64 pages, .int .i64 order] W fun e w' => e = .returned (.tuple #[.agg #[.int .i64 0, .int .i64 0, .int .i64 0, .int .i64 0], .int .i64 3]) ∧ Below W.heap.size W w' := fun W => code_hmake_nil pages order h0 (by omega) W
      go_enter Tryz.func4, Tryz.ntmps4
      go_wp2_with (first
        | (go_at_call 12; (with_reducible refine (cm _).mono ?_); rintro e w1 ⟨rfl, hb1⟩; have HQ := hidb (SpanBox w1 0 0 0 0); have hall := hb1.alloc hb1.size (.cells #[.int .i64 0, .int .i64 0, .int .i64 0, .int .i64 0] 43); have hin := Below.refl (w1.alloc (.cells #[.int .i64 0, .int .i64 0, .int .i64 0, .int .i64 0] 43)).heap.size (w1.alloc (.cells #[.int .i64 0, .int .i64 0, .int .i64 0, .int .i64 0] 43)))
        | (go_at_call 13; (with_reducible refine (csp _).mono ?_); rintro e w2 ⟨rfl, hb2⟩; replace hin := (hin.trans (hb2.mono hin.size)).alloc (Nat.le_trans hin.size hb2.size) (.cells #[.int .i64 0, .int .i64 0, .int .i64 0, .int .i64 0] 43); replace hall := (hall.trans (hb2.mono hall.size)).alloc (Nat.le_trans hall.size hb2.size) (.cells #[.int .i64 0, .int .i64 0, .int .i64 0, .int .i64 0] 43); clear hb2)
        | (go_at_call 15; (with_reducible refine (cat _).mono ?_); rintro e w3 ⟨rfl, hb3⟩; replace hin := (hin.trans (hb3.mono hin.size)).alloc (Nat.le_trans hin.size hb3.size) (.cells #[.int .i64 0, .int .i64 0, .int .i64 0, .int .i64 0] 43); replace hall := (hall.trans (hb3.mono hall.size)).alloc (Nat.le_trans hall.size hb3.size) (.cells #[.int .i64 0, .int .i64 0, .int .i64 0, .int .i64 0] 43); clear hb3; obtain ⟨y0, y1, y2, y3⟩ := HQ.out _ hin)
        | (go_at_call 10; (with_reducible refine (CF.out _ hall).mono ?_); rintro e w4 ⟨rfl, hb4⟩; replace hall := hall.trans (hb4.mono hall.size))
        | (go_at_call 18; (with_reducible refine (css _).mono ?_); rintro e w5 ⟨A5, c5, rfl, hb5⟩; replace hall := hall.trans (hb5.mono hall.size))
        | (go_at_call 21; (with_reducible refine (crs _).mono ?_); rintro e w6 ⟨A6, c6, rfl, hb6⟩; replace hall := hall.trans (hb6.mono hall.size))
        | (go_at_call 8; (with_reducible refine (csz _).mono ?_); rintro e w7 ⟨rfl, hb7⟩; replace hall := hall.trans (hb7.mono hall.size))
        | (go_at_call 5; (with_reducible refine (cw _).mono ?_); rintro e w8 ⟨rfl, hb8⟩))
      go_ret
      exact ⟨rfl, hall.trans (hb8.mono hall.size)⟩
  · rw [if_neg c0] at CF
    have g3 : (0 : Int) < (m : Int) := by omega
    clear c0
    by_cases c1 : pages < 1
    · have cm : ∀ W, Calls Tryz.prog 12 #[.pointer none, .int .i64 pages, .int .i64 order] W fun e w' => e = .returned (.tuple #[.agg #[.int .i64 0, .int .i64 0, .int .i64 0, .int .i64 0], .int .i64 1]) ∧ Below W.heap.size W w' := fun W => code_hmake_arg none pages order W (Or.inl c1)
      go_enter Tryz.func4, Tryz.ntmps4
      go_wp2_with (first
        | (go_at_call 12; (with_reducible refine (cm _).mono ?_); rintro e w1 ⟨rfl, hb1⟩; have HQ := hidb (SpanBox w1 0 0 0 0); have hall := hb1.alloc hb1.size (.cells #[.int .i64 0, .int .i64 0, .int .i64 0, .int .i64 0] 43); have hin := Below.refl (w1.alloc (.cells #[.int .i64 0, .int .i64 0, .int .i64 0, .int .i64 0] 43)).heap.size (w1.alloc (.cells #[.int .i64 0, .int .i64 0, .int .i64 0, .int .i64 0] 43)))
        | (go_at_call 13; (with_reducible refine (csp _).mono ?_); rintro e w2 ⟨rfl, hb2⟩; replace hin := (hin.trans (hb2.mono hin.size)).alloc (Nat.le_trans hin.size hb2.size) (.cells #[.int .i64 0, .int .i64 0, .int .i64 0, .int .i64 0] 43); replace hall := (hall.trans (hb2.mono hall.size)).alloc (Nat.le_trans hall.size hb2.size) (.cells #[.int .i64 0, .int .i64 0, .int .i64 0, .int .i64 0] 43); clear hb2)
        | (go_at_call 15; (with_reducible refine (cat _).mono ?_); rintro e w3 ⟨rfl, hb3⟩; replace hin := (hin.trans (hb3.mono hin.size)).alloc (Nat.le_trans hin.size hb3.size) (.cells #[.int .i64 0, .int .i64 0, .int .i64 0, .int .i64 0] 43); replace hall := (hall.trans (hb3.mono hall.size)).alloc (Nat.le_trans hall.size hb3.size) (.cells #[.int .i64 0, .int .i64 0, .int .i64 0, .int .i64 0] 43); clear hb3; obtain ⟨y0, y1, y2, y3⟩ := HQ.out _ hin)
        | (go_at_call 10; (with_reducible refine (CF.out _ hall).mono ?_); rintro e w4 ⟨rfl, hb4⟩; replace hall := hall.trans (hb4.mono hall.size))
        | (go_at_call 18; (with_reducible refine (css _).mono ?_); rintro e w5 ⟨A5, c5, rfl, hb5⟩; replace hall := hall.trans (hb5.mono hall.size))
        | (go_at_call 21; (with_reducible refine (crs _).mono ?_); rintro e w6 ⟨A6, c6, rfl, hb6⟩; replace hall := hall.trans (hb6.mono hall.size))
        | (go_at_call 8; (with_reducible refine (csz _).mono ?_); rintro e w7 ⟨rfl, hb7⟩; replace hall := hall.trans (hb7.mono hall.size))
        | (go_at_call 5; (with_reducible refine (cw _).mono ?_); rintro e w8 ⟨rfl, hb8⟩))
      go_ret
      exact ⟨rfl, hall.trans (hb8.mono hall.size)⟩
    by_cases c2 : order < -1
    · have cm : ∀ W, Calls Tryz.prog 12 #[.pointer none, .int .i64 pages, .int .i64 order] W fun e w' => e = .returned (.tuple #[.agg #[.int .i64 0, .int .i64 0, .int .i64 0, .int .i64 0], .int .i64 1]) ∧ Below W.heap.size W w' := fun W => code_hmake_arg none pages order W (Or.inr (Or.inl c2))
      go_enter Tryz.func4, Tryz.ntmps4
      go_wp2_with (first
        | (go_at_call 12; (with_reducible refine (cm _).mono ?_); rintro e w1 ⟨rfl, hb1⟩; have HQ := hidb (SpanBox w1 0 0 0 0); have hall := hb1.alloc hb1.size (.cells #[.int .i64 0, .int .i64 0, .int .i64 0, .int .i64 0] 43); have hin := Below.refl (w1.alloc (.cells #[.int .i64 0, .int .i64 0, .int .i64 0, .int .i64 0] 43)).heap.size (w1.alloc (.cells #[.int .i64 0, .int .i64 0, .int .i64 0, .int .i64 0] 43)))
        | (go_at_call 13; (with_reducible refine (csp _).mono ?_); rintro e w2 ⟨rfl, hb2⟩; replace hin := (hin.trans (hb2.mono hin.size)).alloc (Nat.le_trans hin.size hb2.size) (.cells #[.int .i64 0, .int .i64 0, .int .i64 0, .int .i64 0] 43); replace hall := (hall.trans (hb2.mono hall.size)).alloc (Nat.le_trans hall.size hb2.size) (.cells #[.int .i64 0, .int .i64 0, .int .i64 0, .int .i64 0] 43); clear hb2)
        | (go_at_call 15; (with_reducible refine (cat _).mono ?_); rintro e w3 ⟨rfl, hb3⟩; replace hin := (hin.trans (hb3.mono hin.size)).alloc (Nat.le_trans hin.size hb3.size) (.cells #[.int .i64 0, .int .i64 0, .int .i64 0, .int .i64 0] 43); replace hall := (hall.trans (hb3.mono hall.size)).alloc (Nat.le_trans hall.size hb3.size) (.cells #[.int .i64 0, .int .i64 0, .int .i64 0, .int .i64 0] 43); clear hb3; obtain ⟨y0, y1, y2, y3⟩ := HQ.out _ hin)
        | (go_at_call 10; (with_reducible refine (CF.out _ hall).mono ?_); rintro e w4 ⟨rfl, hb4⟩; replace hall := hall.trans (hb4.mono hall.size))
        | (go_at_call 18; (with_reducible refine (css _).mono ?_); rintro e w5 ⟨A5, c5, rfl, hb5⟩; replace hall := hall.trans (hb5.mono hall.size))
        | (go_at_call 21; (with_reducible refine (crs _).mono ?_); rintro e w6 ⟨A6, c6, rfl, hb6⟩; replace hall := hall.trans (hb6.mono hall.size))
        | (go_at_call 8; (with_reducible refine (csz _).mono ?_); rintro e w7 ⟨rfl, hb7⟩; replace hall := hall.trans (hb7.mono hall.size))
        | (go_at_call 5; (with_reducible refine (cw _).mono ?_); rintro e w8 ⟨rfl, hb8⟩))
      go_ret
      exact ⟨rfl, hall.trans (hb8.mono hall.size)⟩
    by_cases c3 : 3 < order
    · have cm : ∀ W, Calls Tryz.prog 12 #[.pointer none, .int .i64 pages, .int .i64 order] W fun e w' => e = .returned (.tuple #[.agg #[.int .i64 0, .int .i64 0, .int .i64 0, .int .i64 0], .int .i64 1]) ∧ Below W.heap.size W w' := fun W => code_hmake_arg none pages order W (Or.inr (Or.inr c3))
      go_enter Tryz.func4, Tryz.ntmps4
      go_wp2_with (first
        | (go_at_call 12; (with_reducible refine (cm _).mono ?_); rintro e w1 ⟨rfl, hb1⟩; have HQ := hidb (SpanBox w1 0 0 0 0); have hall := hb1.alloc hb1.size (.cells #[.int .i64 0, .int .i64 0, .int .i64 0, .int .i64 0] 43); have hin := Below.refl (w1.alloc (.cells #[.int .i64 0, .int .i64 0, .int .i64 0, .int .i64 0] 43)).heap.size (w1.alloc (.cells #[.int .i64 0, .int .i64 0, .int .i64 0, .int .i64 0] 43)))
        | (go_at_call 13; (with_reducible refine (csp _).mono ?_); rintro e w2 ⟨rfl, hb2⟩; replace hin := (hin.trans (hb2.mono hin.size)).alloc (Nat.le_trans hin.size hb2.size) (.cells #[.int .i64 0, .int .i64 0, .int .i64 0, .int .i64 0] 43); replace hall := (hall.trans (hb2.mono hall.size)).alloc (Nat.le_trans hall.size hb2.size) (.cells #[.int .i64 0, .int .i64 0, .int .i64 0, .int .i64 0] 43); clear hb2)
        | (go_at_call 15; (with_reducible refine (cat _).mono ?_); rintro e w3 ⟨rfl, hb3⟩; replace hin := (hin.trans (hb3.mono hin.size)).alloc (Nat.le_trans hin.size hb3.size) (.cells #[.int .i64 0, .int .i64 0, .int .i64 0, .int .i64 0] 43); replace hall := (hall.trans (hb3.mono hall.size)).alloc (Nat.le_trans hall.size hb3.size) (.cells #[.int .i64 0, .int .i64 0, .int .i64 0, .int .i64 0] 43); clear hb3; obtain ⟨y0, y1, y2, y3⟩ := HQ.out _ hin)
        | (go_at_call 10; (with_reducible refine (CF.out _ hall).mono ?_); rintro e w4 ⟨rfl, hb4⟩; replace hall := hall.trans (hb4.mono hall.size))
        | (go_at_call 18; (with_reducible refine (css _).mono ?_); rintro e w5 ⟨A5, c5, rfl, hb5⟩; replace hall := hall.trans (hb5.mono hall.size))
        | (go_at_call 21; (with_reducible refine (crs _).mono ?_); rintro e w6 ⟨A6, c6, rfl, hb6⟩; replace hall := hall.trans (hb6.mono hall.size))
        | (go_at_call 8; (with_reducible refine (csz _).mono ?_); rintro e w7 ⟨rfl, hb7⟩; replace hall := hall.trans (hb7.mono hall.size))
        | (go_at_call 5; (with_reducible refine (cw _).mono ?_); rintro e w8 ⟨rfl, hb8⟩))
      go_ret
      exact ⟨rfl, hall.trans (hb8.mono hall.size)⟩
    · have cm : ∀ W, Calls Tryz.prog 12 #[.pointer none, .int .i64 pages, .int .i64 order] W fun e w' => e = .returned (.tuple #[.agg #[.int .i64 0, .int .i64 0, .int .i64 0, .int .i64 0], .int .i64 3]) ∧ Below W.heap.size W w' := fun W => code_hmake_nil pages order h0 (by omega) W
      go_enter Tryz.func4, Tryz.ntmps4
      go_wp2_with (first
        | (go_at_call 12; (with_reducible refine (cm _).mono ?_); rintro e w1 ⟨rfl, hb1⟩; have HQ := hidb (SpanBox w1 0 0 0 0); have hall := hb1.alloc hb1.size (.cells #[.int .i64 0, .int .i64 0, .int .i64 0, .int .i64 0] 43); have hin := Below.refl (w1.alloc (.cells #[.int .i64 0, .int .i64 0, .int .i64 0, .int .i64 0] 43)).heap.size (w1.alloc (.cells #[.int .i64 0, .int .i64 0, .int .i64 0, .int .i64 0] 43)))
        | (go_at_call 13; (with_reducible refine (csp _).mono ?_); rintro e w2 ⟨rfl, hb2⟩; replace hin := (hin.trans (hb2.mono hin.size)).alloc (Nat.le_trans hin.size hb2.size) (.cells #[.int .i64 0, .int .i64 0, .int .i64 0, .int .i64 0] 43); replace hall := (hall.trans (hb2.mono hall.size)).alloc (Nat.le_trans hall.size hb2.size) (.cells #[.int .i64 0, .int .i64 0, .int .i64 0, .int .i64 0] 43); clear hb2)
        | (go_at_call 15; (with_reducible refine (cat _).mono ?_); rintro e w3 ⟨rfl, hb3⟩; replace hin := (hin.trans (hb3.mono hin.size)).alloc (Nat.le_trans hin.size hb3.size) (.cells #[.int .i64 0, .int .i64 0, .int .i64 0, .int .i64 0] 43); replace hall := (hall.trans (hb3.mono hall.size)).alloc (Nat.le_trans hall.size hb3.size) (.cells #[.int .i64 0, .int .i64 0, .int .i64 0, .int .i64 0] 43); clear hb3; obtain ⟨y0, y1, y2, y3⟩ := HQ.out _ hin)
        | (go_at_call 10; (with_reducible refine (CF.out _ hall).mono ?_); rintro e w4 ⟨rfl, hb4⟩; replace hall := hall.trans (hb4.mono hall.size))
        | (go_at_call 18; (with_reducible refine (css _).mono ?_); rintro e w5 ⟨A5, c5, rfl, hb5⟩; replace hall := hall.trans (hb5.mono hall.size))
        | (go_at_call 21; (with_reducible refine (crs _).mono ?_); rintro e w6 ⟨A6, c6, rfl, hb6⟩; replace hall := hall.trans (hb6.mono hall.size))
        | (go_at_call 8; (with_reducible refine (csz _).mono ?_); rintro e w7 ⟨rfl, hb7⟩; replace hall := hall.trans (hb7.mono hall.size))
        | (go_at_call 5; (with_reducible refine (cw _).mono ?_); rintro e w8 ⟨rfl, hb8⟩))
      go_ret
      exact ⟨rfl, hall.trans (hb8.mono hall.size)⟩

end Go.Proofs.YtdobmdhhgponpaaGreat

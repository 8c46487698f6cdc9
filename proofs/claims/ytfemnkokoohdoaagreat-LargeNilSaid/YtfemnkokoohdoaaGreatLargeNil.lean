/- Layer 10's statement on a keeper that isn't there. -/
import Derived.Test.YtfemnkokoohdoaaGreatLargeLaws0
import Derived.Test.YtfemnkokoohdoaaGreatLargeFits
namespace Go.Proofs.YtfemnkokoohdoaaGreat
open Go.RowKit Go.Maps
set_option linter.unusedVariables false

/-- Give of no keeper. -/
theorem code_kgive_nil0 (A : Option Addr) (c : Nat) (w : World) : Calls Tryz.prog 41 #[.pointer none, .slice A 0 c] w fun e w' => e = .returned (.int .i64 0) ∧ Below w.heap.size w w' := by
  have CH : Hid (Calls Tryz.prog 91 #[.pointer none] w fun e w' => ∃ t, e = .returned (.func (.func 139) #[] #[.pointer (some ⟨t, 0, none⟩)]) ∧ Hid (Calls Tryz.prog 90 #[.slice none 0 0, .func (.func 139) #[] #[.pointer (some ⟨t, 0, none⟩)]] w' fun e w'' => e = .returned (.bool false) ∧ Hid (Below w.heap.size w w''))) := hidb (by
    refine (code_khas (parts_nil w)).mono ?_
    rintro e w' ⟨t, A2, n2, c2, rfl, h1, h2, h3⟩
    refine ⟨t, rfl, hidb ?_⟩
    have := code_scont 139 #[.pointer (some ⟨t, 0, none⟩)] enters_has (fun s => true) none 0 0 [] w' RowOf.nil_ (by omega) (fun W hb x hx => by cases hx)
    refine this.mono ?_
    rintro e w'' ⟨rfl, hb⟩
    exact ⟨rfl, hidb (bel_tr2 h3 hb)⟩)
  go_enter Tryz.func41, Tryz.ntmps41
  go_wp2
  refine wp_loop_rounds 1 ?_
  rw [rounds_succ]
  go_wp2_with (first
    | (go_at_call 91; (with_reducible refine CH.out.mono ?_); rintro e w2 ⟨t, rfl, hc2⟩)
    | (go_at_call 90; (with_reducible refine hc2.out.mono ?_); rintro e w3 ⟨rfl, hb3⟩))
  refine wp_loop_rounds 1 ?_
  rw [rounds_succ]
  go_wp2
  go_ret
  exact ⟨rfl, hb3.out⟩
theorem code_kgive_nil1 (A : Option Addr) (N c : Nat) (ids : List Int) (w : World) (hs : Sl w w.heap.size A N (ids.map iv)) (hN : 0 < N) (hid : ∀ i ∈ ids, in64 i) :
    Calls Tryz.prog 41 #[.pointer none, .slice A N c] w fun e w' => e = .returned (.int .i64 6) ∧ Below w.heap.size w w' := by
  obtain ⟨b, off, u, rfl, _, hx, hc⟩ := hs.at_ hN
  obtain ⟨id, hx2, rfl⟩ : ∃ x, ids[0]? = some x ∧ iv x = u := by
    rw [List.getElem?_map] at hx
    exact Option.map_eq_some_iff.1 hx
  have cst : Calls Tryz.prog 89 #[.pointer none, .int .i64 id] w fun e w' => e = .returned (.tuple #[.agg #[.int .i64 0, .int .i64 0, .int .i64 0, .int .i64 0], .bool false]) ∧ Below w.heap.size w w' :=
    code_kstack (parts_nil w) id spanNone false none ⟨fun _ => rfl, fun h => by cases h⟩ ⟨by show (-9223372036854775808 : Int) ≤ 0; omega, by show (0 : Int) ≤ 9223372036854775807; omega⟩ (fun W _ => code_hspan_nil id (hid id (List.mem_of_getElem? hx2)) W)
  unfold iv at hc
  rw [Nat.add_zero] at hc
  have hi1 : (0 : Int) < (N : Int) := by omega
  clear hx hx2 hs hid
  go_enter Tryz.func41, Tryz.ntmps41
  go_wp2
  refine wp_loop_rounds 1 ?_
  rw [rounds_succ]
  go_wp2_with (go_at_call 89; (with_reducible refine cst.mono ?_); rintro e w2 ⟨rfl, hb2⟩)
  go_ret
  exact ⟨rfl, bel_al2 hb2 _⟩

set_option maxRecDepth 100000 in
set_option maxHeartbeats 2000000 in
theorem largeNil_any (pages : Int) (A : Option Addr) (m c : Nat) (l : List Int) (w : World) (h0 : in64 pages) (hm : m ≤ maxLen) (hs : Sl w w.heap.size A m (l.map iv)) (hid : ∀ i ∈ l, in64 i) :
    Calls Tryz.prog 8 #[.int .i64 pages, .slice A m c] w fun e w' => e = .returned (.bool true) ∧ Below w.heap.size w w' := by
  have cw := fun W => awake10 W
  unfold maxLen at hm
  by_cases g2 : 5 < m
  · have g3 : (5 : Int) < (m : Int) := by omega
    clear hs hid
    go_enter Tryz.func8, Tryz.ntmps8
    go_wp2_with (go_at_call 31; (with_reducible refine (cw _).mono ?_); rintro e w1 ⟨rfl, hb⟩)
    go_ret
    exact ⟨rfl, hb⟩
  have g3 : ¬ (5 : Int) < (m : Int) := by omega
  have cn := fun W => code_knew_nil W
  have cf := fun W => ref_fits pages W h0
  have ch1 := fun W => code_khold_nil true W
  have ch2 := fun W => code_khold_nil false W
  have cfl := fun W => code_kflush_nil W
  have ck : ∀ W, Calls Tryz.prog 35 #[.pointer none, .int .i64 pages] W fun e w' => (∃ A c, e = .returned (.slice A 0 c)) ∧ Below W.heap.size W w' := fun W => (code_kkept (parts_nil W) pages).mono fun e w' ⟨A, c, a, _, b⟩ => ⟨⟨A, c, a⟩, b⟩
  have cwt : ∀ W, Calls Tryz.prog 37 #[.pointer none] W fun e w' => (∃ A c, e = .returned (.slice A 0 c)) ∧ Below W.heap.size W w' := fun W => (code_kwaits (parts_nil W)).mono fun e w' ⟨A, c, a, _, b⟩ => ⟨⟨A, c, a⟩, b⟩
  have q1 := eqs_span 0 0 0 0 0 0 0 0
  have HT : Hid (∀ W, Calls Tryz.prog 39 #[.pointer none, .int .i64 pages] W fun e w' => e = .returned (.tuple #[.agg #[.int .i64 0, .int .i64 0, .int .i64 0, .int .i64 0], .int .i64 (if lFits pages then 3 else 1)]) ∧ Below W.heap.size W w') := hidb (fun W => by
    cases hf : lFits pages with
    | false => exact code_ktake_no none pages h0 hf W
    | true => exact code_ktake_nil pages h0 hf W)
  have HG : Hid (∀ W, Below w.heap.size w W → Calls Tryz.prog 41 #[.pointer none, .slice A m c] W fun e w' => e = .returned (.int .i64 (if m = 0 then 0 else 6)) ∧ Below W.heap.size W w') := hidb (fun W hb => by
    by_cases hm0 : m = 0
    · subst hm0
      exact code_kgive_nil0 A c W
    · rw [if_neg hm0]
      exact code_kgive_nil1 A m c l W ((hs.below hb).more hb.size) (by omega) hid)
  have B0 : Hid (Below w.heap.size w w) := hidb (Below.refl _ _)
  clear hs hid
  cases hf : lFits pages with
  | false =>
    rw [hf] at cf HT
    simp only [Bool.false_eq_true, if_false] at HT
    clear hf
    by_cases hm0 : m = 0
    · rw [if_pos hm0] at HG
      subst hm0
      go_enter Tryz.func8, Tryz.ntmps8
      go_wp2_with (first
        | (go_at_call 33; (with_reducible refine (cn _).mono ?_); rintro e w1 ⟨rfl, rfl⟩)
        | (go_at_call 43; (with_reducible refine (cf _).mono ?_); rintro e w1 ⟨rfl, rfl⟩)
        | (go_at_call 39; (with_reducible refine (HT.out _).mono ?_); rintro e w2 ⟨rfl, hb2⟩; have hbz := bel_al2 hb2 (.cells #[.int .i64 0, .int .i64 0, .int .i64 0, .int .i64 0] 49); obtain ⟨y0, y1, y2, y3⟩ := (SpAt.new_ w2 (0, 0, 0, 0) 49).cells)
        | (go_at_call 41; (with_reducible refine (HG.out _ hbz).mono ?_); rintro e w3 ⟨rfl, hb3⟩; replace hbz := bel_tr2 hbz hb3; clear hb3)
        | (go_at_call 40; (with_reducible refine (ch1 _).mono ?_); rintro e w4 ⟨rfl, rfl⟩)
        | (go_at_call 40; (with_reducible refine (ch2 _).mono ?_); rintro e w5 ⟨rfl, rfl⟩)
        | (go_at_call 42; (with_reducible refine (cfl _).mono ?_); rintro e w6 ⟨rfl, rfl⟩)
        | (go_at_call 35; (with_reducible refine (ck _).mono ?_); rintro e w7 ⟨⟨A7, c7, rfl⟩, hb7⟩; replace hbz := bel_tr2 hbz hb7; clear hb7)
        | (go_at_call 37; (with_reducible refine (cwt _).mono ?_); rintro e w8 ⟨⟨A8, c8, rfl⟩, hb8⟩; replace hbz := bel_tr2 hbz hb8; clear hb8)
        | (go_at_call 31; (with_reducible refine (cw _).mono ?_); rintro e w9 ⟨rfl, hb9⟩; replace hbz := bel_tr2 hbz hb9; clear hb9))
      go_ret
      exact ⟨rfl, hbz⟩
    · rw [if_neg hm0] at HG
      have g4 : (0 : Int) < (m : Int) := by omega
      clear hm0
      go_enter Tryz.func8, Tryz.ntmps8
      go_wp2_with (first
        | (go_at_call 33; (with_reducible refine (cn _).mono ?_); rintro e w1 ⟨rfl, rfl⟩)
        | (go_at_call 43; (with_reducible refine (cf _).mono ?_); rintro e w1 ⟨rfl, rfl⟩)
        | (go_at_call 39; (with_reducible refine (HT.out _).mono ?_); rintro e w2 ⟨rfl, hb2⟩; have hbz := bel_al2 hb2 (.cells #[.int .i64 0, .int .i64 0, .int .i64 0, .int .i64 0] 49); obtain ⟨y0, y1, y2, y3⟩ := (SpAt.new_ w2 (0, 0, 0, 0) 49).cells)
        | (go_at_call 41; (with_reducible refine (HG.out _ hbz).mono ?_); rintro e w3 ⟨rfl, hb3⟩; replace hbz := bel_tr2 hbz hb3; clear hb3)
        | (go_at_call 40; (with_reducible refine (ch1 _).mono ?_); rintro e w4 ⟨rfl, rfl⟩)
        | (go_at_call 40; (with_reducible refine (ch2 _).mono ?_); rintro e w5 ⟨rfl, rfl⟩)
        | (go_at_call 42; (with_reducible refine (cfl _).mono ?_); rintro e w6 ⟨rfl, rfl⟩)
        | (go_at_call 35; (with_reducible refine (ck _).mono ?_); rintro e w7 ⟨⟨A7, c7, rfl⟩, hb7⟩; replace hbz := bel_tr2 hbz hb7; clear hb7)
        | (go_at_call 37; (with_reducible refine (cwt _).mono ?_); rintro e w8 ⟨⟨A8, c8, rfl⟩, hb8⟩; replace hbz := bel_tr2 hbz hb8; clear hb8)
        | (go_at_call 31; (with_reducible refine (cw _).mono ?_); rintro e w9 ⟨rfl, hb9⟩; replace hbz := bel_tr2 hbz hb9; clear hb9))
      go_ret
      exact ⟨rfl, hbz⟩
  | true =>
    rw [hf] at cf HT
    simp only [if_true] at HT
    clear hf
    by_cases hm0 : m = 0
    · rw [if_pos hm0] at HG
      subst hm0
      go_enter Tryz.func8, Tryz.ntmps8
      go_wp2_with (first
        | (go_at_call 33; (with_reducible refine (cn _).mono ?_); rintro e w1 ⟨rfl, rfl⟩)
        | (go_at_call 43; (with_reducible refine (cf _).mono ?_); rintro e w1 ⟨rfl, rfl⟩)
        | (go_at_call 39; (with_reducible refine (HT.out _).mono ?_); rintro e w2 ⟨rfl, hb2⟩; have hbz := bel_al2 hb2 (.cells #[.int .i64 0, .int .i64 0, .int .i64 0, .int .i64 0] 49); obtain ⟨y0, y1, y2, y3⟩ := (SpAt.new_ w2 (0, 0, 0, 0) 49).cells)
        | (go_at_call 41; (with_reducible refine (HG.out _ hbz).mono ?_); rintro e w3 ⟨rfl, hb3⟩; replace hbz := bel_tr2 hbz hb3; clear hb3)
        | (go_at_call 40; (with_reducible refine (ch1 _).mono ?_); rintro e w4 ⟨rfl, rfl⟩)
        | (go_at_call 40; (with_reducible refine (ch2 _).mono ?_); rintro e w5 ⟨rfl, rfl⟩)
        | (go_at_call 42; (with_reducible refine (cfl _).mono ?_); rintro e w6 ⟨rfl, rfl⟩)
        | (go_at_call 35; (with_reducible refine (ck _).mono ?_); rintro e w7 ⟨⟨A7, c7, rfl⟩, hb7⟩; replace hbz := bel_tr2 hbz hb7; clear hb7)
        | (go_at_call 37; (with_reducible refine (cwt _).mono ?_); rintro e w8 ⟨⟨A8, c8, rfl⟩, hb8⟩; replace hbz := bel_tr2 hbz hb8; clear hb8)
        | (go_at_call 31; (with_reducible refine (cw _).mono ?_); rintro e w9 ⟨rfl, hb9⟩; replace hbz := bel_tr2 hbz hb9; clear hb9))
      go_ret
      exact ⟨rfl, hbz⟩
    · rw [if_neg hm0] at HG
      have g4 : (0 : Int) < (m : Int) := by omega
      clear hm0
      go_enter Tryz.func8, Tryz.ntmps8
      go_wp2_with (first
        | (go_at_call 33; (with_reducible refine (cn _).mono ?_); rintro e w1 ⟨rfl, rfl⟩)
        | (go_at_call 43; (with_reducible refine (cf _).mono ?_); rintro e w1 ⟨rfl, rfl⟩)
        | (go_at_call 39; (with_reducible refine (HT.out _).mono ?_); rintro e w2 ⟨rfl, hb2⟩; have hbz := bel_al2 hb2 (.cells #[.int .i64 0, .int .i64 0, .int .i64 0, .int .i64 0] 49); obtain ⟨y0, y1, y2, y3⟩ := (SpAt.new_ w2 (0, 0, 0, 0) 49).cells)
        | (go_at_call 41; (with_reducible refine (HG.out _ hbz).mono ?_); rintro e w3 ⟨rfl, hb3⟩; replace hbz := bel_tr2 hbz hb3; clear hb3)
        | (go_at_call 40; (with_reducible refine (ch1 _).mono ?_); rintro e w4 ⟨rfl, rfl⟩)
        | (go_at_call 40; (with_reducible refine (ch2 _).mono ?_); rintro e w5 ⟨rfl, rfl⟩)
        | (go_at_call 42; (with_reducible refine (cfl _).mono ?_); rintro e w6 ⟨rfl, rfl⟩)
        | (go_at_call 35; (with_reducible refine (ck _).mono ?_); rintro e w7 ⟨⟨A7, c7, rfl⟩, hb7⟩; replace hbz := bel_tr2 hbz hb7; clear hb7)
        | (go_at_call 37; (with_reducible refine (cwt _).mono ?_); rintro e w8 ⟨⟨A8, c8, rfl⟩, hb8⟩; replace hbz := bel_tr2 hbz hb8; clear hb8)
        | (go_at_call 31; (with_reducible refine (cw _).mono ?_); rintro e w9 ⟨rfl, hb9⟩; replace hbz := bel_tr2 hbz hb9; clear hb9))
      go_ret
      exact ⟨rfl, hbz⟩

end Go.Proofs.YtfemnkokoohdoaaGreat

/- Small calls of caches: their parts, a list's place, how many words a list has. -/
import Derived.Test.YtcgfmpegakpddaaGreatPoolObj
import Derived.Test.YtcgfmpegakpddaaGreatPoolWords
import Derived.Deep.Cut
import Derived.Deep.CutRange
import Derived.Deep.RegionLaw
import Derived.Test.YtcgfmpegakpddaaGreatYPoolKeep
namespace Go.Proofs.YtcgfmpegakpddaaGreat
open Go.RowKit Go.Maps
set_option linter.unusedVariables false

/-- parts: the three cells. -/
theorem cc_parts (q : Nat) (p a : Option Addr) (A : Option Addr) (n c : Nat) (w : World) (h0 : w.cell? ⟨q, 0, none⟩ = some (.pointer p)) (h1 : w.cell? ⟨q, 1, none⟩ = some (.pointer a)) (h2 : w.cell? ⟨q, 2, none⟩ = some (.slice A n c)) :
    Calls Tryz.prog 82 #[.pointer (some ⟨q, 0, none⟩)] w fun e w' => e = .returned (.agg #[.pointer p, .pointer a, .slice A n c]) ∧ Below w.heap.size w w' := by
  replace h0 := alloc_old (.cells #[.pointer none, .pointer none, .slice none 0 0] 148) h0
  replace h1 := alloc_old (.cells #[.pointer none, .pointer none, .slice none 0 0] 148) h1
  replace h2 := alloc_old (.cells #[.pointer none, .pointer none, .slice none 0 0] 148) h2
  go_enter Tryz.func82, Tryz.ntmps82
  go_wp2
  refine bodyPost_ret (v := .agg #[.pointer p, .pointer a, .slice A n c]) (by simp [results, Tryz.results82, go_sem]) rfl ?_
  exact ⟨rfl, (Below.refl _ _).alloc (Nat.le_refl _) _⟩
theorem cc_parts_nil (w : World) :
    Calls Tryz.prog 82 #[.pointer none] w fun e w' => e = .returned (.agg #[.pointer none, .pointer none, .slice none 0 0]) ∧ Below w.heap.size w w' := by
  go_enter Tryz.func82, Tryz.ntmps82
  go_wp2
  refine bodyPost_ret (v := .agg #[.pointer none, .pointer none, .slice none 0 0]) (by simp [results, Tryz.results82, go_sem]) rfl ?_
  exact ⟨rfl, (Below.refl _ _).alloc (Nat.le_refl _) _⟩

/-- How many words so many blocks of an order have. -/
theorem cc_words (h n order : Int) (w : World) (ho : 0 ≤ order ∧ order ≤ 3) (hn : 0 ≤ n ∧ n ≤ 65536) :
    Calls Tryz.prog 89 #[.agg #[.int .i64 h, .int .i64 n], .int .i64 order] w fun e w' => e = .returned (.int .i64 (n * pSize order)) ∧ Below w.heap.size w w' := by
  have hb : Below w.heap.size w (w.alloc (.cells #[.int .i64 h, .int .i64 n] 111)) := (Below.refl _ _).alloc (Nat.le_refl _) _
  obtain rfl | rfl | rfl | rfl : order = 0 ∨ order = 1 ∨ order = 2 ∨ order = 3 := by omega
  · rw [show ((pSize 0 : Nat) : Int) = 16 from rfl]
    go_enter Tryz.func89, Tryz.ntmps89
    go_wp2
    go_quiet (fail)
    go_wp2
    go_ret
    first
      | exact ⟨rfl, hb⟩
      | exact ⟨rfl, belowN hb _⟩
  · rw [show ((pSize 1 : Nat) : Int) = 32 from rfl]
    go_enter Tryz.func89, Tryz.ntmps89
    go_wp2
    go_quiet (fail)
    go_wp2
    go_ret
    first
      | exact ⟨rfl, hb⟩
      | exact ⟨rfl, belowN hb _⟩
  · rw [show ((pSize 2 : Nat) : Int) = 64 from rfl]
    go_enter Tryz.func89, Tryz.ntmps89
    go_wp2
    go_quiet (fail)
    go_wp2
    go_ret
    first
      | exact ⟨rfl, hb⟩
      | exact ⟨rfl, belowN hb _⟩
  · rw [show ((pSize 3 : Nat) : Int) = 128 from rfl]
    go_enter Tryz.func89, Tryz.ntmps89
    go_wp2
    go_quiet (fail)
    go_wp2
    go_ret
    first
      | exact ⟨rfl, hb⟩
      | exact ⟨rfl, belowN hb _⟩

/-- A list's place; nil, if there is none. -/
theorem cc_list_no (c : Option Addr) (proc order : Int) (N : Nat) (A : Option Addr) (w : World) (hp : Calls Tryz.prog 82 #[.pointer c] w fun e w' => (∃ p a m, e = .returned (.agg #[.pointer p, .pointer a, .slice A N m])) ∧ Below w.heap.size w w') (h : proc < 0 ∨ (N : Int) ≤ proc ∨ order < 0 ∨ 4 ≤ order) :
    Calls Tryz.prog 79 #[.pointer c, .int .i64 proc, .int .i64 order] w fun e w' => e = .returned (.pointer none) ∧ Below w.heap.size w w' := by
  by_cases h1 : proc < 0
  · have hd : decide (proc < 0) = true := decide_eq_true h1
    clear h
    go_enter Tryz.func79, Tryz.ntmps79
    go_wp2_with (go_at_call 82; (with_reducible refine hp.mono ?_); rintro e w1 ⟨⟨p, a, m, rfl⟩, hb⟩)
    go_ret
    exact ⟨rfl, hb.alloc hb.size _⟩
  have hd : decide (proc < 0) = false := decide_eq_false h1
  by_cases h2 : (N : Int) ≤ proc
  · have hd2 : decide ((N : Int) ≤ proc) = true := decide_eq_true h2
    clear h
    go_enter Tryz.func79, Tryz.ntmps79
    go_wp2_with (go_at_call 82; (with_reducible refine hp.mono ?_); rintro e w1 ⟨⟨p, a, m, rfl⟩, hb⟩)
    go_ret
    exact ⟨rfl, hb.alloc hb.size _⟩
  have hd2 : decide ((N : Int) ≤ proc) = false := decide_eq_false h2
  by_cases h3 : order < 0
  · have hd3 : decide (order < 0) = true := decide_eq_true h3
    clear h
    go_enter Tryz.func79, Tryz.ntmps79
    go_wp2_with (go_at_call 82; (with_reducible refine hp.mono ?_); rintro e w1 ⟨⟨p, a, m, rfl⟩, hb⟩)
    go_ret
    exact ⟨rfl, hb.alloc hb.size _⟩
  have h4 : 4 ≤ order := by omega
  have hd3 : decide (order < 0) = false := decide_eq_false h3
  have hd4 : decide (4 ≤ order) = true := decide_eq_true h4
  clear h
  go_enter Tryz.func79, Tryz.ntmps79
  go_wp2_with (go_at_call 82; (with_reducible refine hp.mono ?_); rintro e w1 ⟨⟨p, a, m, rfl⟩, hb⟩)
  go_ret
  exact ⟨rfl, hb.alloc hb.size _⟩
theorem cc_list_yes (q rb : Nat) (proc order : Nat) (N : Nat) (p a : Option Addr) (w : World) (hp : Calls Tryz.prog 82 #[.pointer (some ⟨q, 0, none⟩)] w fun e w' => e = .returned (.agg #[.pointer p, .pointer a, .slice (some ⟨rb, 0, none⟩) N N]) ∧ Below w.heap.size w w') (h1 : proc < N) (h2 : order < 4) (hN : N ≤ 16) :
    Calls Tryz.prog 79 #[.pointer (some ⟨q, 0, none⟩), .int .i64 proc, .int .i64 order] w fun e w' => e = .returned (.pointer (some ⟨rb, 2 * (4 * proc + order), none⟩)) ∧ Below w.heap.size w w' := by
  have e0 : ¬ (proc : Int) < 0 := by omega
  have e1 : ¬ (N : Int) ≤ (proc : Int) := by omega
  have e2 : ¬ (order : Int) < 0 := by omega
  have e3 : ¬ (4 : Int) ≤ (order : Int) := by omega
  have e4 : (0 : Int) ≤ (proc : Int) := by omega
  have e5 : (proc : Int) < (N : Int) := by omega
  have e6 : (0 : Int) ≤ (order : Int) := by omega
  have e7 : (order : Int) < 4 := by omega
  go_enter Tryz.func79, Tryz.ntmps79
  go_wp2_with (go_at_call 82; (with_reducible refine hp.mono ?_); rintro e w1 ⟨rfl, hb⟩)
  go_ret
  exact ⟨by rw [show proc * 8 + order * 2 = 2 * (4 * proc + order) by omega]; rfl, hb.alloc hb.size _⟩

end Go.Proofs.YtcgfmpegakpddaaGreat
/- What push and pop of caches do, once the chain's own call is told. -/
namespace Go.Proofs.YtcgfmpegakpddaaGreat
open Go.RowKit Go.Maps
set_option linter.unusedVariables false

/-- Behind such a call: words are turned, and a chain's two cells. -/
def CcTo (w : World) (rb o ap g n : Nat) (ws' : List Nat) (c1 c2 : Int) (w' : World) : Prop :=
  ∃ W2, w.grownBy W2 (some g) ∧ Ar W2 0 ap g n ws' ∧ Below W2.heap.size ((W2.setCell ⟨rb, o, none⟩ (.int .i64 c1)).setCell ⟨rb, o + 1, none⟩ (.int .i64 c2)) w'
theorem Ar.keepS {w w' : World} {ap g n : Nat} {xs : List Nat} (h : Ar w 0 ap g n xs) (hb : Below w.heap.size w w') : Ar w' 0 ap g n xs :=
  h.keepB (hb.block _ h.ltp) (hb.block _ h.lt)
theorem ccTo_a {w W' w7 : World} {rb o ap g n : Nat} {ws' : List Nat} {c1 c2 : Int} (hb : Below w.heap.size w W') (hg : W'.grownBy w7 (some g)) (ha : Ar w7 0 ap g n ws') (ob : Obj) : CcTo w rb o ap g n ws' c1 c2 (((w7.setCell ⟨rb, o, none⟩ (.int .i64 c1)).setCell ⟨rb, o + 1, none⟩ (.int .i64 c2)).alloc ob) :=
  ⟨w7, grownTrans ⟨hb.os, hb.tape, hb.output, hb.size, fun k h _ => hb.block k h⟩ hg, ha, (Below.refl _ _).alloc (by simp) _⟩
/-- .. where the new chain's block b was laid ahead. -/
theorem ccTo_b {w W' w7 : World} {rb o ap g n b : Nat} {ws' : List Nat} {c1 c2 : Int} (hb : Below w.heap.size w W') (hg : W'.grownBy w7 (some g)) (ha : Ar w7 0 ap g n ws') (h1 : w.heap.size ≤ b) (h2 : ap < w.heap.size) (h3 : g < w.heap.size) : CcTo w rb o ap g n ws' c1 c2 ((((w7.setCell ⟨b, 0, none⟩ (.int .i64 c1)).setCell ⟨b, 1, none⟩ (.int .i64 c2)).setCell ⟨rb, o, none⟩ (.int .i64 c1)).setCell ⟨rb, o + 1, none⟩ (.int .i64 c2)) := by
  have hg1 : w.grownBy w7 (some g) := grownTrans ⟨hb.os, hb.tape, hb.output, hb.size, fun k h _ => hb.block k h⟩ hg
  have hB : Below w.heap.size w7 ((w7.setCell ⟨b, 0, none⟩ (.int .i64 c1)).setCell ⟨b, 1, none⟩ (.int .i64 c2)) := ((Below.refl w.heap.size w7).setCell (p := ⟨b, 0, none⟩) h1 _).setCell (p := ⟨b, 1, none⟩) h1 _
  exact ⟨_, ⟨hB.os.trans hg1.os, hB.tape.trans hg1.tape, hB.output.trans hg1.output, Nat.le_trans hg1.size hB.size, fun k hk hne => (hB.block k hk).trans (hg1.block k hk hne)⟩, ha.keepB (hB.block _ h2) (hB.block _ h3), Below.refl _ _⟩
theorem cells2C {w : World} {b : Nat} {t : TypeId} {v0 v1 : Value} (h : w.heap[b]? = some (.cells #[v0, v1] t (0, 0))) :
    w.cell? ⟨b, 0, none⟩ = some v0 ∧ w.cell? ⟨b, 1, none⟩ = some v1 ∧ w.frozen? ⟨b, 0, none⟩ = false ∧ w.frozen? ⟨b, 1, none⟩ = false := by
  refine ⟨?_, ?_, ?_, ?_⟩ <;> simp [World.cell?, World.frozen?, h]
theorem heapC (W : World) (o : Obj) : (W.alloc o).heap[W.heap.size]? = some o := by show (W.heap.push o)[W.heap.size]? = _; simp
/-- A chain's block, laid ahead of the call. -/
theorem chain_old {W' w7 : World} {g b : Nat} {t : TypeId} (hg : W'.grownBy w7 (some g)) (h : W'.heap[b]? = some (.cells #[.int .i64 0, .int .i64 0] t (0, 0))) (hb : b < W'.heap.size) (hne : b ≠ g) : w7.heap[b]? = some (.cells #[.int .i64 0, .int .i64 0] t (0, 0)) :=
  (hg.block b hb (fun e => hne (by injection e))).trans h
/-- A chain's cells elsewhere, behind the call. -/
theorem cells_old {w W' w7 : World} {g b : Nat} {x y : Value} {o : Nat} (hb : Below w.heap.size w W') (hg : W'.grownBy w7 (some g)) (hbl : b < w.heap.size) (hne : b ≠ g) (h0 : w.cell? ⟨b, o, none⟩ = some x) (h1 : w.cell? ⟨b, o + 1, none⟩ = some y) (f0 : w.frozen? ⟨b, o, none⟩ = false) (f1 : w.frozen? ⟨b, o + 1, none⟩ = false) :
    w7.cell? ⟨b, o, none⟩ = some x ∧ w7.cell? ⟨b, o + 1, none⟩ = some y ∧ w7.frozen? ⟨b, o, none⟩ = false ∧ w7.frozen? ⟨b, o + 1, none⟩ = false := by
  have h : w7.heap[b]? = w.heap[b]? := (hg.block b (Nat.lt_of_lt_of_le hbl hb.size) (fun e => hne (by injection e))).trans (hb.block b hbl)
  exact ⟨(World.cell?_of_block (w := w) (a := ⟨b, o, none⟩) h).trans h0, (World.cell?_of_block (w := w) (a := ⟨b, o + 1, none⟩) h).trans h1, (World.frozen?_of_block (w := w) (a := ⟨b, o, none⟩) h).trans f0, (World.frozen?_of_block (w := w) (a := ⟨b, o + 1, none⟩) h).trans f1⟩

set_option maxRecDepth 100000 in
set_option maxHeartbeats 4000000 in
theorem cc_push_walk {w : World} {q rb o ap g n : Nat} {h1 h2 c1 c2 x : Int} {ws' : List Nat} (hq : w.cell? ⟨q, 1, none⟩ = some (.pointer (some ⟨ap, 0, none⟩))) (y0 : w.cell? ⟨rb, o, none⟩ = some (.int .i64 h1)) (y1 : w.cell? ⟨rb, o + 1, none⟩ = some (.int .i64 h2)) (f0 : w.frozen? ⟨rb, o, none⟩ = false) (f1 : w.frozen? ⟨rb, o + 1, none⟩ = false) (hg : g ≠ rb) (hgl : g < w.heap.size) (hal : ap < w.heap.size)
    (CP : ∀ W' b, Below w.heap.size w W' → w.heap.size ≤ b → W'.cell? ⟨b, 0, none⟩ = some (.int .i64 x) → b < W'.heap.size → Calls Tryz.prog 105 #[.pointer (some ⟨ap, 0, none⟩), .agg #[.int .i64 h1, .int .i64 h2], .slice (some ⟨b, 0, none⟩) 1 1] W' fun e w7 => e = .returned (.tuple #[.agg #[.int .i64 c1, .int .i64 c2], .int .i64 0]) ∧ W'.grownBy w7 (some g) ∧ Ar w7 0 ap g n ws') :
    Calls Tryz.prog 91 #[.pointer (some ⟨q, 0, none⟩), .pointer (some ⟨rb, o, none⟩), .int .i64 x] w fun e w' => e = .returned (.int .i64 0) ∧ CcTo w rb o ap g n ws' c1 c2 w' := by
  have hrl : rb < w.heap.size := lt_of_cell y0
  have a1 := alloc_old (.cells #[.int .i64 x] 3) hq
  have a2 := alloc_old (.cells #[.int .i64 x] 3) y0
  have a3 := alloc_old (.cells #[.int .i64 x] 3) y1
  have b1 := alloc_old (.cells #[.int .i64 0, .int .i64 0] 111) hq
  have b2 := alloc_old (.cells #[.int .i64 0, .int .i64 0] 111) y0
  have b3 := alloc_old (.cells #[.int .i64 0, .int .i64 0] 111) y1
  have ab1 := alloc_old (.cells #[.int .i64 0, .int .i64 0] 111) a1
  have ab2 := alloc_old (.cells #[.int .i64 0, .int .i64 0] 111) a2
  have ab3 := alloc_old (.cells #[.int .i64 0, .int .i64 0] 111) a3
  have ba1 := alloc_old (.cells #[.int .i64 x] 3) b1
  have ba2 := alloc_old (.cells #[.int .i64 x] 3) b2
  have ba3 := alloc_old (.cells #[.int .i64 x] 3) b3
  have HB1 := hidb ((((Below.refl w.heap.size w).alloc (Nat.le_refl _) (.cells #[.int .i64 x] 3)).drew))
  have HB2 := hidb ((((Below.refl w.heap.size w).alloc (Nat.le_refl _) (.cells #[.int .i64 0, .int .i64 0] 111)).alloc (by simp) (.cells #[.int .i64 x] 3)).drew)
  have HB3 := hidb ((((Below.refl w.heap.size w).alloc (Nat.le_refl _) (.cells #[.int .i64 x] 3)).alloc (by simp) (.cells #[.int .i64 0, .int .i64 0] 111)).drew)
  have k1 := CP _ w.heap.size HB1.out (Nat.le_refl _) (World.cell?_alloc_at _ _ _ 0 (by simp)) (by simp)
  have k2 := CP _ (w.heap.size + 1) HB2.out (by omega) (by simp [go_sem]) (by simp)
  have k3 := CP _ w.heap.size HB3.out (Nat.le_refl _) (alloc_old _ (World.cell?_alloc_at _ _ _ 0 (by simp))) (by simp; omega)
  have HF := hidb (fun (W' w7 : World) (hb : Below w.heap.size w W') (h : W'.grownBy w7 (some g)) => cells_old hb h hrl hg.symm y0 y1 f0 f1)
  have HA := hidb (fun (W' w7 : World) (hb : Below w.heap.size w W') (h : W'.grownBy w7 (some g)) (ha : Ar w7 0 ap g n ws') (ob : Obj) => ccTo_a (rb := rb) (o := o) (c1 := c1) (c2 := c2) hb h ha ob)
  have HC := hidb (fun (W' w7 : World) (b : Nat) (hb : Below w.heap.size w W') (h : W'.grownBy w7 (some g)) (ha : Ar w7 0 ap g n ws') (h1 : w.heap.size ≤ b) => ccTo_b (rb := rb) (o := o) (c1 := c1) (c2 := c2) hb h ha h1 hal hgl)
  have HH2 := hidb (show ((w.alloc (.cells #[.int .i64 0, .int .i64 0] 111)).alloc (.cells #[.int .i64 x] 3)).drew.heap[w.heap.size]? = some (.cells #[.int .i64 0, .int .i64 0] 111 (0, 0)) from (Below.heap_alloc _ _ _ (by simp)).trans (heapC w _))
  have HH3 := hidb (show ((w.alloc (.cells #[.int .i64 x] 3)).alloc (.cells #[.int .i64 0, .int .i64 0] 111)).drew.heap[w.heap.size + 1]? = some (.cells #[.int .i64 0, .int .i64 0] 111 (0, 0)) from by
    have := heapC (w.alloc (.cells #[.int .i64 x] 3)) (.cells #[.int .i64 0, .int .i64 0] 111)
    rw [World.size_alloc] at this
    exact this)
  have HL := hidb (fun (W' w7 : World) (hb : Below w.heap.size w W') (h : W'.grownBy w7 (some g)) => (show rb < w7.heap.size from Nat.lt_of_lt_of_le hrl (Nat.le_trans hb.size h.size)))
  clear CP
  go_enter Tryz.func91, Tryz.ntmps91
  go_wp2
  go_region_law (first
    | (go_simp; go_at_call 105; (with_reducible refine k1.mono ?_); rintro e w7 ⟨rfl, hg7, ha7⟩; obtain ⟨z0, z1, z2, z3⟩ := HF.out _ _ HB1.out hg7; have hl7 := HL.out _ _ HB1.out hg7; have nn7 : ¬ rb = w7.heap.size := (by omega); have nn8 : ¬ rb = w.heap.size := (by omega); have nn9 : ¬ rb = w.heap.size + 1 := (by omega); have z4 := alloc_old (.cells #[.int .i64 c1, .int .i64 c2] 111) z0; have z5 := alloc_old (.cells #[.int .i64 c1, .int .i64 c2] 111) z1; have P := hidb (HA.out _ _ HB1.out hg7 ha7 (.cells #[.int .i64 c1, .int .i64 c2] 111)); clear hg7 ha7)
    | (go_simp; go_at_call 105; (with_reducible refine k2.mono ?_); rintro e w7 ⟨rfl, hg7, ha7⟩; obtain ⟨z0, z1, z2, z3⟩ := HF.out _ _ HB2.out hg7; have hl7 := HL.out _ _ HB2.out hg7; have nn7 : ¬ rb = w7.heap.size := (by omega); have nn8 : ¬ rb = w.heap.size := (by omega); have nn9 : ¬ rb = w.heap.size + 1 := (by omega); obtain ⟨n0, n1, m0, m1⟩ := cells2C (chain_old (b := w.heap.size) (t := 111) hg7 HH2.out (by simp; omega) (by omega)); have P := hidb (HC.out _ _ w.heap.size HB2.out hg7 ha7 (Nat.le_refl _)); clear hg7 ha7)
    | (go_simp; go_at_call 105; (with_reducible refine k3.mono ?_); rintro e w7 ⟨rfl, hg7, ha7⟩; obtain ⟨z0, z1, z2, z3⟩ := HF.out _ _ HB3.out hg7; have hl7 := HL.out _ _ HB3.out hg7; have nn7 : ¬ rb = w7.heap.size := (by omega); have nn8 : ¬ rb = w.heap.size := (by omega); have nn9 : ¬ rb = w.heap.size + 1 := (by omega); obtain ⟨n0, n1, m0, m1⟩ := cells2C (chain_old (b := w.heap.size + 1) (t := 111) hg7 HH3.out (by simp) (by omega)); have P := hidb (HC.out _ _ (w.heap.size + 1) HB3.out hg7 ha7 (by omega)); clear hg7 ha7))
  all_goals clear k1 k2 k3 HF HA HC HH2 HH3 HL a1 a2 a3 b1 b2 b3 ab1 ab2 ab3 ba1 ba2 ba3 hq y0 y1 f0 f1
  all_goals go_wp2
  all_goals go_ret
  all_goals exact ⟨rfl, P.out⟩

end Go.Proofs.YtcgfmpegakpddaaGreat
/- What pop of caches does, once the chain's own call is told. -/
namespace Go.Proofs.YtcgfmpegakpddaaGreat
open Go.RowKit Go.Maps
set_option linter.unusedVariables false

set_option maxRecDepth 100000 in
set_option maxHeartbeats 4000000 in
theorem cc_pop_walk {w : World} {q rb o ap g n : Nat} {h1 h2 c1 c2 a : Int} {ws' : List Nat} (hq : w.cell? ⟨q, 1, none⟩ = some (.pointer (some ⟨ap, 0, none⟩))) (y0 : w.cell? ⟨rb, o, none⟩ = some (.int .i64 h1)) (y1 : w.cell? ⟨rb, o + 1, none⟩ = some (.int .i64 h2)) (f0 : w.frozen? ⟨rb, o, none⟩ = false) (f1 : w.frozen? ⟨rb, o + 1, none⟩ = false) (hg : g ≠ rb) (hgl : g < w.heap.size) (hal : ap < w.heap.size)
    (CP : ∀ W', Below w.heap.size w W' → Calls Tryz.prog 95 #[.pointer (some ⟨ap, 0, none⟩), .agg #[.int .i64 h1, .int .i64 h2]] W' fun e w7 => e = .returned (.tuple #[.agg #[.int .i64 c1, .int .i64 c2], .int .i64 a, .int .i64 0]) ∧ W'.grownBy w7 (some g) ∧ Ar w7 0 ap g n ws') :
    Calls Tryz.prog 85 #[.pointer (some ⟨q, 0, none⟩), .pointer (some ⟨rb, o, none⟩)] w fun e w' => e = .returned (.tuple #[.int .i64 a, .int .i64 0]) ∧ CcTo w rb o ap g n ws' c1 c2 w' := by
  have hrl : rb < w.heap.size := lt_of_cell y0
  have b1 := alloc_old (.cells #[.int .i64 0, .int .i64 0] 111) hq
  have b2 := alloc_old (.cells #[.int .i64 0, .int .i64 0] 111) y0
  have b3 := alloc_old (.cells #[.int .i64 0, .int .i64 0] 111) y1
  have HB1 := hidb ((Below.refl w.heap.size w).drew)
  have HB2 := hidb (((Below.refl w.heap.size w).alloc (Nat.le_refl _) (.cells #[.int .i64 0, .int .i64 0] 111)).drew)
  have k1 := CP _ HB1.out
  have k2 := CP _ HB2.out
  have HF := hidb (fun (W' w7 : World) (hb : Below w.heap.size w W') (h : W'.grownBy w7 (some g)) => cells_old hb h hrl hg.symm y0 y1 f0 f1)
  have HA := hidb (fun (W' w7 : World) (hb : Below w.heap.size w W') (h : W'.grownBy w7 (some g)) (ha : Ar w7 0 ap g n ws') (ob : Obj) => ccTo_a (rb := rb) (o := o) (c1 := c1) (c2 := c2) hb h ha ob)
  have HC := hidb (fun (W' w7 : World) (b : Nat) (hb : Below w.heap.size w W') (h : W'.grownBy w7 (some g)) (ha : Ar w7 0 ap g n ws') (h1 : w.heap.size ≤ b) => ccTo_b (rb := rb) (o := o) (c1 := c1) (c2 := c2) hb h ha h1 hal hgl)
  have HH2 := hidb (show (w.alloc (.cells #[.int .i64 0, .int .i64 0] 111)).drew.heap[w.heap.size]? = some (.cells #[.int .i64 0, .int .i64 0] 111 (0, 0)) from heapC w _)
  have HL := hidb (fun (W' w7 : World) (hb : Below w.heap.size w W') (h : W'.grownBy w7 (some g)) => (show rb < w7.heap.size from Nat.lt_of_lt_of_le hrl (Nat.le_trans hb.size h.size)))
  clear CP
  go_enter Tryz.func85, Tryz.ntmps85
  go_wp2
  go_region_law (first
    | (go_simp; go_at_call 95; (with_reducible refine k1.mono ?_); rintro e w7 ⟨rfl, hg7, ha7⟩; obtain ⟨z0, z1, z2, z3⟩ := HF.out _ _ HB1.out hg7; have hl7 := HL.out _ _ HB1.out hg7; have nn7 : ¬ rb = w7.heap.size := (by omega); have nn8 : ¬ rb = w.heap.size := (by omega); have nn9 : ¬ rb = w.heap.size + 1 := (by omega); have z4 := alloc_old (.cells #[.int .i64 c1, .int .i64 c2] 111) z0; have z5 := alloc_old (.cells #[.int .i64 c1, .int .i64 c2] 111) z1; have P := hidb (HA.out _ _ HB1.out hg7 ha7 (.cells #[.int .i64 c1, .int .i64 c2] 111)); clear hg7 ha7)
    | (go_simp; go_at_call 95; (with_reducible refine k2.mono ?_); rintro e w7 ⟨rfl, hg7, ha7⟩; obtain ⟨z0, z1, z2, z3⟩ := HF.out _ _ HB2.out hg7; have hl7 := HL.out _ _ HB2.out hg7; have nn7 : ¬ rb = w7.heap.size := (by omega); have nn8 : ¬ rb = w.heap.size := (by omega); have nn9 : ¬ rb = w.heap.size + 1 := (by omega); obtain ⟨n0, n1, m0, m1⟩ := cells2C (chain_old (b := w.heap.size) (t := 111) hg7 HH2.out (by simp) (by omega)); have P := hidb (HC.out _ _ w.heap.size HB2.out hg7 ha7 (Nat.le_refl _)); clear hg7 ha7))
  all_goals clear k1 k2 HF HA HC HH2 HL b1 b2 b3 hq y0 y1 f0 f1
  all_goals go_wp2
  all_goals go_ret2
  all_goals exact ⟨rfl, P.out⟩

end Go.Proofs.YtcgfmpegakpddaaGreat
/- Layer 11 plainly: caches' lists of blocks that are out of a pool. No program is named here. -/
namespace Go.Proofs.YtcgfmpegakpddaaGreat
set_option linter.unusedVariables false

/-- A block of this order is out. -/
def OutQ (l : PL) (x o : Int) : Prop := ∃ c ∈ l, x ∈ pBlocks c.1 ∧ x ∉ c.2 ∧ c.1.2.2.2 = o
theorem POk.out_order {p : PoolV} (k : POk p) {x a b : Int} (h1 : OutQ p.l x a) (h2 : OutQ p.l x b) : a = b := by
  obtain ⟨c, hc, hx, _, e⟩ := h1
  obtain ⟨d, hd, hy, _, f⟩ := h2
  rw [← e, ← f, k.one_span hc hd hx hy]
theorem out_set {l : PL} {i : Nat} {s : Int × Int × Int × Int} {r r' : List Int} (hi : l[i]? = some (s, r)) {x o : Int} (h : OutQ l x o) (hr : x ∈ r' → x ∈ r) : OutQ (l.set i (s, r')) x o := by
  obtain ⟨c, hc, h1, h2, h3⟩ := h
  obtain ⟨j, hj⟩ := List.getElem?_of_mem hc
  by_cases e : i = j
  · subst e
    rw [hi] at hj
    obtain rfl := Option.some.inj hj
    exact ⟨(s, r'), List.mem_of_getElem? (List.getElem?_set_self (List.getElem?_eq_some_iff.1 hi).1), h1, fun h => h2 (hr h), h3⟩
  · exact ⟨c, List.mem_of_getElem? (i := j) (by rw [List.getElem?_set_ne e]; exact hj), h1, h2, h3⟩
/-- What Take leaves: all that were out are, and the block is, that wasn't. -/
theorem take_out {p p' : PoolV} {order a : Int} (o : POk p) (o' : POk p') (h : pTake p order = (p', a, 0)) : (∀ x q, OutQ p.l x q → OutQ p'.l x q) ∧ OutQ p'.l a order ∧ (∀ q, ¬ OutQ p.l a q) ∧ p'.held = p.held := by
  unfold pTake at h
  split at h
  · injection h with _ h; injection h with _ h; cases h
  next ho =>
  cases hf : pFirst p.l order 0 true with
  | some i =>
    rw [hf] at h
    simp only at h
    rcases pFirst_spec p.l order 0 true with ⟨e, _⟩ | ⟨b, c, e, hc, hfc, _⟩
    · rw [hf] at e; cases e
    · rw [hf] at e
      obtain rfl := Option.some.inj e
      rw [hc] at h
      simp only at h
      injection h with h1 h2
      injection h2 with h2 _
      obtain ⟨s, l⟩ := c
      cases l with
      | nil => unfold pFits at hfc; simp at hfc
      | cons b r =>
        simp only [List.headD_cons, List.tail_cons] at h1 h2
        subst h2 h1
        have hcm := List.mem_of_getElem? hc
        have hab : b ∈ pBlocks s := o.sub _ hcm b (List.mem_cons_self ..)
        have hnr : b ∉ r := (List.nodup_cons.1 (o.nod _ hcm)).1
        have hso : s.2.2.2 = order := by
          unfold pFits at hfc
          simp only [Bool.and_eq_true, decide_eq_true_eq] at hfc
          exact hfc.1.1
        refine ⟨fun x q hx => out_set hc hx (fun h => List.mem_cons_of_mem _ h), ⟨(s, r), List.mem_of_getElem? (List.getElem?_set_self (List.getElem?_eq_some_iff.1 hc).1), hab, hnr, hso⟩, fun q hq => ?_, rfl⟩
        obtain ⟨d, hd, hx, hn, _⟩ := hq
        rw [o.one_span hd hcm hx hab] at hn
        exact hn (List.mem_cons_self ..)
  | none =>
    rw [hf] at h
    simp only at h
    split at h
    next he =>
      obtain ⟨⟨h', s, e0⟩, hm⟩ : ∃ r, hMake p.heap 4 order = r := ⟨_, rfl⟩
      rw [hm] at h he
      simp only at h he
      subst he
      injection h with h1 h2
      injection h2 with h2 _
      subst h1
      have hcm : (s, (pBlocks s).tail) ∈ p.l ++ [(s, (pBlocks s).tail)] := List.mem_append_right _ (List.mem_singleton_self _)
      obtain ⟨f1, f2, f3⟩ := o'.four _ hcm
      simp only at f1 f2 f3
      have hbl := pBlocks_length s
      rw [f1] at hbl
      have hm2 := (pMany_16 s.2.2.2 f2 f3).1
      have hnd := pBlocks_nodup s
      have hso : s.2.2.2 = order := by
        cases hbb : fBest p.heap.free 4 with
        | none => rw [hMake_full (by omega) hbb] at hm; injection hm with _ hm; injection hm with _ hm; cases hm
        | some q =>
          obtain ⟨g, _, _, _, e, _⟩ := hMake_yes o.hok (o := order) (by omega) hbb
          rw [e] at hm
          injection hm with _ hm
          injection hm with hm _
          rw [← hm]
      have hnin : ∀ x ∈ pBlocks s, ∀ d ∈ p.l, x ∉ pBlocks d.1 := fun x hx d hd hxd => by
        have e1 := o'.one_span (c := d) (d := (s, (pBlocks s).tail)) (List.mem_append_left _ hd) hcm hxd hx
        have hids : ((p.l ++ [(s, (pBlocks s).tail)]).map (·.1.1)).Nodup := o'.ids
        rw [List.map_append] at hids
        exact (List.nodup_append.1 hids).2.2 d.1.1 (List.mem_map.2 ⟨d, hd, rfl⟩) d.1.1 (by rw [e1]; simp) rfl
      cases hb : pBlocks s with
      | nil => rw [hb] at hbl; simp at hbl; omega
      | cons b r =>
        have hbm : b ∈ pBlocks s := by rw [hb]; exact List.mem_cons_self ..
        have hbr : pBlocks s = b :: r := hb
        rw [hb] at h2 hnd hcm
        simp only [List.headD_cons] at h2
        subst h2
        refine ⟨fun x q hx => ?_, ⟨_, hcm, hbm, (List.nodup_cons.1 hnd).1, hso⟩, fun q hq => ?_, rfl⟩
        · obtain ⟨d, hd, h3, h4, h5⟩ := hx
          exact ⟨d, List.mem_append_left _ hd, h3, h4, h5⟩
        · obtain ⟨d, hd, h3, _⟩ := hq
          exact hnin b hbm d hd h3
    next he =>
      injection h with _ h2
      injection h2 with _ h2
      exact absurd h2 he
/-- .. and if it doesn't answer a block, all is as it was. -/
theorem take_refused {p p' : PoolV} {order a e : Int} (h : pTake p order = (p', a, e)) (he : e ≠ 0) : p' = p := by
  unfold pTake at h
  split at h
  · injection h with h _; exact h.symm
  · split at h
    · split at h
      · injection h with _ h; injection h with _ h; exact absurd h.symm he
      · injection h with _ h; injection h with _ h; exact absurd h.symm he
    · split at h
      · injection h with _ h; injection h with _ h; exact absurd h.symm he
      · injection h with h _; exact h.symm
theorem not_whole {c : (Int × Int × Int × Int) × List Int} (h1 : c.2.Nodup) (h2 : ∀ y ∈ c.2, y ∈ pBlocks c.1) {x : Int} (hx : x ∈ pBlocks c.1) (hn : x ∉ c.2) : pWhole c = false := by
  have := sub_lenP (l := x :: c.2) (m := pBlocks c.1) (List.nodup_cons.2 ⟨hn, h1⟩) fun y hy => by
    rcases List.mem_cons.1 hy with rfl | hy
    · exact hx
    · exact h2 y hy
  rw [List.length_cons] at this
  unfold pWhole
  simp only [beq_eq_false_iff_ne]
  omega
theorem pSweep_out {p : PoolV} (hl : ∀ c ∈ p.l, c.2.Nodup ∧ ∀ y ∈ c.2, y ∈ pBlocks c.1) {x o : Int} (h : OutQ p.l x o) : OutQ (pSweep p).l x o := by
  unfold pSweep
  split
  · exact h
  · obtain ⟨c, hc, h1, h2, h3⟩ := h
    exact ⟨c, List.mem_filter.2 ⟨hc, by rw [not_whole (hl c hc).1 (hl c hc).2 h1 h2]; rfl⟩, h1, h2, h3⟩
/-- What Give of one block that is out leaves: all others that were out are. -/
theorem give_out {p : PoolV} (o : POk p) {x q : Int} (h : OutQ p.l x q) : ∃ p', gGive p [x] = (p', 0) ∧ p'.held = p.held ∧ ∀ y r, OutQ p.l y r → y ≠ x → OutQ p'.l y r := by
  obtain ⟨⟨s, l⟩, hc, h1, h2, h3⟩ := h
  obtain ⟨i, hi⟩ := List.getElem?_of_mem hc
  have hof := o.of_at hi h1
  have hp : pPuts p.l [x] = some (p.l.set i (s, x :: l)) := by
    show pPut p.l x = _
    unfold pPut
    rw [hof]
    simp only
    rw [hi]
    simp only
    rw [if_neg h2]
  have hcm := List.mem_of_getElem? hi
  refine ⟨_, gGive_yes (by simp [hof]) hp, pSweep_held _, fun y r hy hne => pSweep_out (fun c hc => ?_) (out_set hi hy (fun hm => ?_))⟩
  · rcases List.mem_or_eq_of_mem_set hc with h4 | rfl
    · exact ⟨o.nod c h4, o.sub c h4⟩
    · exact ⟨List.nodup_cons.2 ⟨h2, o.nod _ hcm⟩, fun z hz => by
        rcases List.mem_cons.1 hz with rfl | hz
        · exact h1
        · exact o.sub _ hcm z hz⟩
  · rcases List.mem_cons.1 hm with e | e
    · exact absurd e hne
    · exact e

end Go.Proofs.YtcgfmpegakpddaaGreat
/- Caches in memory: their block, their row of chains, the pool beneath them; what keeps them, and what turns a part of them. -/
namespace Go.Proofs.YtcgfmpegakpddaaGreat
open Go.RowKit Go.Maps
set_option linter.unusedVariables false

/-- Where caches lie: their block, their row of chains, the pool, its heap, the arena, its words, the pool's map; as many words, as many processors. -/
structure CaF where
  q : Nat
  rb : Nat
  p : Nat
  hp : Nat
  ap : Nat
  g : Nat
  mb : Nat
  n : Nat
  N : Nat
/-- A list: its chain, its blocks. -/
abbrev CL := (Int × Int) × List Int
/-- Each list is a chain of blocks of its order that are out, and none is in two. -/
structure CaOk (ws : List Nat) (l : PL) (cs : List CL) : Prop where
  lst : ∀ c ∈ cs, cList ws c.1 = some c.2
  out : ∀ (i : Nat) c, cs[i]? = some c → ∀ x ∈ c.2, OutQ l x ((i % 4 : Nat) : Int)
  apart : ∀ (i j : Nat) c d, cs[i]? = some c → cs[j]? = some d → i ≠ j → ∀ x ∈ c.2, x ∉ d.2
structure CaSt (F : CaF) (w W : World) (S : Nat → Prop) (v : PoolW) (cs : List CL) (k : Nat) (pages : Int) : Prop where
  pl : ∃ Sh m D, PlAt W Sh F.p F.hp F.ap F.g F.mb F.n m D v ∧ PlOk F.n m v ∧ ∀ b, PlS Sh F.p F.ap F.g F.mb v.ks b → S b ∧ b ≠ F.q ∧ b ≠ F.rb
  ok : CaOk v.ws v.plain.l cs
  c0 : W.cell? ⟨F.q, 0, none⟩ = some (.pointer (some ⟨F.p, 0, none⟩))
  c1 : W.cell? ⟨F.q, 1, none⟩ = some (.pointer (some ⟨F.ap, 0, none⟩))
  c2 : W.cell? ⟨F.q, 2, none⟩ = some (.slice (some ⟨F.rb, 0, none⟩) F.N F.N)
  row : ∀ (i : Nat) c, cs[i]? = some c → W.cell? ⟨F.rb, 2 * i, none⟩ = some (.int .i64 c.1.1) ∧ W.cell? ⟨F.rb, 2 * i + 1, none⟩ = some (.int .i64 c.1.2)
  fz : ∀ j, W.frozen? ⟨F.rb, j, none⟩ = false
  len : cs.length = 4 * F.N
  ne : F.q ≠ F.rb
  n1 : 1 ≤ F.N ∧ F.N ≤ 16
  sq : S F.q
  sr : S F.rb
  lt : ∀ b, S b → b < W.heap.size
  low : ∀ b, S b → w.heap.size ≤ b
  bel : Below w.heap.size w W
  la : v.h.last ≤ k
  pg : v.h.pages = pages
section
variable {F : CaF} {w W W' : World} {S T : Nat → Prop} {v : PoolW} {cs : List CL} {k : Nat} {pages : Int}
theorem CaSt.pool (s : CaSt F w W S v cs k pages) : PoolSt w W F.p F.hp S v k pages := by
  obtain ⟨Sh, m, D, q1, q2, q3⟩ := s.pl
  exact ⟨⟨Sh, F.ap, F.g, F.mb, F.n, m, D, q1, q2, fun b h => (q3 b h).1⟩, s.lt, s.low, s.bel, s.la, s.pg⟩
theorem CaSt.later (s : CaSt F w W S v cs k pages) {k' : Nat} (h : k ≤ k') : CaSt F w W S v cs k' pages :=
  ⟨s.pl, s.ok, s.c0, s.c1, s.c2, s.row, s.fz, s.len, s.ne, s.n1, s.sq, s.sr, s.lt, s.low, s.bel, by have := s.la; omega, s.pg⟩
theorem CaSt.kept (s : CaSt F w W S v cs k pages) (hK : Kept T W W') (hn : ∀ b, S b → ¬ T b) (hT : ∀ b, T b → w.heap.size ≤ b) : CaSt F w W' S v cs k pages := by
  obtain ⟨Sh, m, D, q1, q2, q3⟩ := s.pl
  have hq := hK.block F.q (s.lt _ s.sq) (hn _ s.sq)
  have hr := hK.block F.rb (s.lt _ s.sr) (hn _ s.sr)
  have cq : ∀ j, W'.cell? ⟨F.q, j, none⟩ = W.cell? ⟨F.q, j, none⟩ := fun j => World.cell?_of_block (w := W) (a := ⟨F.q, j, none⟩) hq
  have cr : ∀ j, W'.cell? ⟨F.rb, j, none⟩ = W.cell? ⟨F.rb, j, none⟩ := fun j => World.cell?_of_block (w := W) (a := ⟨F.rb, j, none⟩) hr
  exact ⟨⟨Sh, m, D, q1.keep hK fun b hb => hn b (q3 b hb).1, q2, q3⟩, s.ok, (cq 0).trans s.c0, (cq 1).trans s.c1, (cq 2).trans s.c2, fun i c h => ⟨(cr _).trans (s.row i c h).1, (cr _).trans (s.row i c h).2⟩, fun j => (World.frozen?_of_block (w := W) (a := ⟨F.rb, j, none⟩) hr).trans (s.fz j), s.len, s.ne, s.n1, s.sq, s.sr, fun b h => Nat.lt_of_lt_of_le (s.lt b h) hK.size, s.low, s.bel.trans (hK.below s.bel.size hT), s.la, s.pg⟩
theorem CaSt.below (s : CaSt F w W S v cs k pages) (hb : Below W.heap.size W W') : CaSt F w W' S v cs k pages := s.kept (Kept.of_below hb (fun _ => False)) (fun _ _ => id) (fun _ h => h.elim)
theorem CaSt.nodup (s : CaSt F w W S v cs k pages) {c : CL} (hc : c ∈ cs) : c.2.length ≤ 65536 ∧ in64 c.1.1 ∧ in64 c.1.2 ∧ (c.2.length : Int) = c.1.2 ∧ c.2.Nodup ∧ ∀ x ∈ c.2, 0 ≤ x ∧ x < (v.ws.length : Int) := by
  obtain ⟨Sh, m, D, q1, q2, q3⟩ := s.pl
  exact cList_len (s.ok.lst c hc) (by rw [q1.ar.hlen]; exact q1.ar.small)
/-- Other words, and another chain of one list. -/
theorem CaOk.chain {ws ws' : List Nat} {l : PL} (o : CaOk ws l cs) {i : Nat} {c : CL} (hi : cs[i]? = some c) {c' : Int × Int} {l' : List Int} {U : Int → Prop} (hl : cList ws' c' = some l') (hst : Stays ws ws' U) (hU : ∀ (j : Nat) d, cs[j]? = some d → i ≠ j → ∀ x ∈ d.2, ¬ U x) (ho : ∀ x ∈ l', OutQ l x ((i % 4 : Nat) : Int)) (ha : ∀ (j : Nat) d, cs[j]? = some d → i ≠ j → ∀ x ∈ d.2, x ∉ l') : CaOk ws' l (cs.set i (c', l')) := by
  have hil := (List.getElem?_eq_some_iff.1 hi).1
  have q : ∀ (j : Nat) d, (cs.set i (c', l'))[j]? = some d → (i = j ∧ d = (c', l')) ∨ (i ≠ j ∧ cs[j]? = some d) := fun j d h => by
    by_cases e : i = j
    · subst e
      rw [List.getElem?_set_self hil] at h
      exact Or.inl ⟨rfl, (Option.some.inj h).symm⟩
    · rw [List.getElem?_set_ne e] at h
      exact Or.inr ⟨e, h⟩
  refine ⟨fun d hd => ?_, fun j d hj x hx => ?_, fun j j' d d' hj hj' hne x hx => ?_⟩
  · obtain ⟨j, hj⟩ := List.getElem?_of_mem hd
    rcases q j d hj with ⟨_, rfl⟩ | ⟨h1, h2⟩
    · exact hl
    · exact hst _ _ (o.lst d (List.mem_of_getElem? h2)) (hU j d h2 h1)
  · rcases q j d hj with ⟨rfl, rfl⟩ | ⟨h1, h2⟩
    · exact ho x hx
    · exact o.out j d h2 x hx
  · rcases q j d hj with ⟨rfl, rfl⟩ | ⟨h1, h2⟩
    · rcases q j' d' hj' with ⟨h3, _⟩ | ⟨h3, h4⟩
      · exact absurd h3 hne
      · exact fun hxd => ha j' d' h4 h3 x hxd hx
    · rcases q j' d' hj' with ⟨rfl, rfl⟩ | ⟨h3, h4⟩
      · exact ha j d h2 h1 x hx
      · exact o.apart j j' d d' h2 h4 hne x hx
/-- A chain's two cells are written, behind a call that turned words alone. -/
theorem CaSt.chain {W1 : World} {ws' : List Nat} (s : CaSt F w W S v cs k pages) {i : Nat} {c : CL} (hi : cs[i]? = some c) {c' : Int × Int} {l' : List Int} {U : Int → Prop} (hw : Wide ws') (hl : cList ws' c' = some l') (hst : Stays v.ws ws' U) (hP : ∀ x, U x → ∃ o, OutQ v.plain.l x o) (hU : ∀ (j : Nat) d, cs[j]? = some d → i ≠ j → ∀ x ∈ d.2, ¬ U x) (ho : ∀ x ∈ l', OutQ v.plain.l x ((i % 4 : Nat) : Int)) (ha : ∀ (j : Nat) d, cs[j]? = some d → i ≠ j → ∀ x ∈ d.2, x ∉ l')
    (hg : W.grownBy W1 (some F.g)) (har : Ar W1 0 F.ap F.g F.n ws') {W2 : World} (hb2 : Below W1.heap.size W1 W2) :
    CaSt F w ((W2.setCell ⟨F.rb, 2 * i, none⟩ (.int .i64 c'.1)).setCell ⟨F.rb, 2 * i + 1, none⟩ (.int .i64 c'.2)) S { v with ws := ws' } (cs.set i (c', l')) k pages ∧ SideP S W S ((W2.setCell ⟨F.rb, 2 * i, none⟩ (.int .i64 c'.1)).setCell ⟨F.rb, 2 * i + 1, none⟩ (.int .i64 c'.2)) := by
  obtain ⟨Sh, m, D, q1, q2, q3⟩ := s.pl
  have hgS : S F.g := (q3 F.g (Or.inr (Or.inr (Or.inr (Or.inl rfl))))).1
  have hgq : F.g ≠ F.q ∧ F.g ≠ F.rb := (q3 F.g (Or.inr (Or.inr (Or.inr (Or.inl rfl))))).2
  have hil := (List.getElem?_eq_some_iff.1 hi).1
  have hP1 := (q1.words hg har).below hb2
  have hP2 : PlAt ((W2.setCell ⟨F.rb, 2 * i, none⟩ (.int .i64 c'.1)).setCell ⟨F.rb, 2 * i + 1, none⟩ (.int .i64 c'.2)) Sh F.p F.hp F.ap F.g F.mb F.n m D { v with ws := ws' } :=
    hP1.keep (((Kept.refl (fun b => b = F.rb) W2).set (a := ⟨F.rb, 2 * i, none⟩) (Or.inl rfl) _).set (a := ⟨F.rb, 2 * i + 1, none⟩) (Or.inl rfl) _) (fun b hb e => (q3 b hb).2.2 e)
  have hK1 : Kept S W W1 := (Kept.refl S W).grown hg (fun b e => by injection e with e; exact Or.inl (e ▸ hgS))
  have hK2 : Kept S W W2 := hK1.trans (S' := fun _ => False) (Kept.of_below hb2 _) (fun _ _ c => c.elim)
  have hK3 : Kept S W ((W2.setCell ⟨F.rb, 2 * i, none⟩ (.int .i64 c'.1)).setCell ⟨F.rb, 2 * i + 1, none⟩ (.int .i64 c'.2)) := (hK2.set (a := ⟨F.rb, 2 * i, none⟩) (Or.inl s.sr) _).set (a := ⟨F.rb, 2 * i + 1, none⟩) (Or.inl s.sr) _
  have hblk : ∀ b, b ≠ F.g → b < W.heap.size → W2.heap[b]? = W.heap[b]? := fun b h1 h2 => (hb2.block b (Nat.lt_of_lt_of_le h2 hg.size)).trans (hg.block b h2 (fun e => h1 (by injection e)))
  have hq2 := hblk F.q (Ne.symm hgq.1) (s.lt _ s.sq)
  have hr2 := hblk F.rb (Ne.symm hgq.2) (s.lt _ s.sr)
  have cq : ∀ j, ((W2.setCell ⟨F.rb, 2 * i, none⟩ (.int .i64 c'.1)).setCell ⟨F.rb, 2 * i + 1, none⟩ (.int .i64 c'.2)).cell? ⟨F.q, j, none⟩ = W.cell? ⟨F.q, j, none⟩ := fun j => by
    rw [World.cell?_setCell_other _ _ _ _ (fun e => s.ne (by injection e with e; exact e.symm)), World.cell?_setCell_other _ _ _ _ (fun e => s.ne (by injection e with e; exact e.symm))]
    exact World.cell?_of_block (w := W) (a := ⟨F.q, j, none⟩) hq2
  have cr : ∀ j, W2.cell? ⟨F.rb, j, none⟩ = W.cell? ⟨F.rb, j, none⟩ := fun j => World.cell?_of_block (w := W) (a := ⟨F.rb, j, none⟩) hr2
  have hoth : ∀ (X : World) (a b : Nat) (u : Value), a ≠ b → (X.setCell ⟨F.rb, a, none⟩ u).cell? ⟨F.rb, b, none⟩ = X.cell? ⟨F.rb, b, none⟩ := fun X a b u h => World.cell?_setCell_other X _ _ _ (fun e => h (by injection e))
  refine ⟨⟨⟨Sh, m, D, hP2, ⟨q2.len, hw, q2.mem, q2.four, fun kk hkk => hst _ _ (q2.lst kk hkk) fun x hx hu => ?_, q2.sub, q2.ids, q2.cnt⟩, q3⟩, s.ok.chain hi hl hst hU ho ha, (cq 0).trans s.c0, (cq 1).trans s.c1, (cq 2).trans s.c2, fun j d hj => ?_, fun j => ?_, by rw [List.length_set]; exact s.len, s.ne, s.n1, s.sq, s.sr, fun b hb => Nat.lt_of_lt_of_le (s.lt b hb) hK3.size, s.low, s.bel.trans (hK3.below s.bel.size s.low), s.la, s.pg⟩, ⟨hK3, fun b hb => Or.inl hb⟩⟩
  · obtain ⟨o, d, hd, h1, h2, _⟩ := hP x hu
    obtain ⟨d0, hd0, rfl⟩ := List.mem_map.1 (show d ∈ v.ks.map CutV.plain from hd)
    have e := q2.blocks_apart q1.hp_.ok hd0 hkk h1 (q2.sub kk hkk x hx)
    exact h2 (by rw [e]; exact hx)
  · by_cases e : i = j
    · subst e
      rw [List.getElem?_set_self hil] at hj
      obtain rfl := Option.some.inj hj
      refine ⟨?_, ?_⟩
      · rw [hoth _ _ _ _ (by omega)]
        exact World.cell?_setCell_same _ _ _ ((cr _).trans (s.row i c hi).1)
      · exact World.cell?_setCell_same _ _ _ (by rw [hoth _ _ _ _ (by omega)]; exact (cr _).trans (s.row i c hi).2)
    · rw [List.getElem?_set_ne e] at hj
      have := s.row j d hj
      exact ⟨by rw [hoth _ _ _ _ (by omega), hoth _ _ _ _ (by omega)]; exact (cr _).trans this.1, by rw [hoth _ _ _ _ (by omega), hoth _ _ _ _ (by omega)]; exact (cr _).trans this.2⟩
  · rw [World.frozen?_setCell, World.frozen?_setCell]
    exact (World.frozen?_of_block (w := W) (a := ⟨F.rb, j, none⟩) hr2).trans (s.fz j)
/-- The pool beneath them did something. -/
theorem CaSt.did {Sh : Nat → Prop} {v' : PoolW} {k' : Nat} {U : Int → Prop} (s : CaSt F w W S v cs k pages) (q3 : ∀ b, PlS Sh F.p F.ap F.g F.mb v.ks b → S b ∧ b ≠ F.q ∧ b ≠ F.rb) (h : Went W Sh F.p F.hp F.ap F.g F.mb F.n v.ks W' v') (hst : Stays v.ws v'.ws U) (hU : ∀ d ∈ cs, ∀ x ∈ d.2, ¬ U x) (ho : ∀ (i : Nat) d, cs[i]? = some d → ∀ x ∈ d.2, OutQ v'.plain.l x ((i % 4 : Nat) : Int)) (hl : v'.h.last ≤ k') (hg : v'.h.pages = v.h.pages) : CaSt F w W' (more S W W') v' cs k' pages ∧ SideP S W (more S W W') W' := by
  obtain ⟨S2, m2, D2, p1, p2, p3, p4⟩ := h
  have hK : Kept S W W' := ⟨p3.os, p3.tape, p3.output, p3.size, fun b hb hn => p3.block b hb (fun c => hn (q3 b c).1)⟩
  have hn : ∀ b, b = F.q ∨ b = F.rb → ¬ PlS Sh F.p F.ap F.g F.mb v.ks b := fun b hb c => by
    have := (q3 b c).2
    rcases hb with e | e
    · exact this.1 e
    · exact this.2 e
  have hq := p3.block F.q (s.lt _ s.sq) (hn _ (Or.inl rfl))
  have hr := p3.block F.rb (s.lt _ s.sr) (hn _ (Or.inr rfl))
  have cq : ∀ j, W'.cell? ⟨F.q, j, none⟩ = W.cell? ⟨F.q, j, none⟩ := fun j => World.cell?_of_block (w := W) (a := ⟨F.q, j, none⟩) hq
  have cr : ∀ j, W'.cell? ⟨F.rb, j, none⟩ = W.cell? ⟨F.rb, j, none⟩ := fun j => World.cell?_of_block (w := W) (a := ⟨F.rb, j, none⟩) hr
  have hsz := hK.size
  have hm : ∀ b, S b → more S W W' b := fun b hb => ⟨Or.inl hb, Nat.lt_of_lt_of_le (s.lt b hb) hsz⟩
  refine ⟨⟨⟨S2, m2, D2, p1, p2, fun b hb => ?_⟩, ⟨fun c hc => hst _ _ (s.ok.lst c hc) (hU c hc), ho, s.ok.apart⟩, (cq 0).trans s.c0, (cq 1).trans s.c1, (cq 2).trans s.c2, fun i c h => ⟨(cr _).trans (s.row i c h).1, (cr _).trans (s.row i c h).2⟩, fun j => (World.frozen?_of_block (w := W) (a := ⟨F.rb, j, none⟩) hr).trans (s.fz j), s.len, s.ne, s.n1, hm _ s.sq, hm _ s.sr, fun b hb => hb.2, more_low s.bel.size s.low, s.bel.trans (hK.below s.bel.size s.low), hl, hg.trans s.pg⟩, SideP.did hK⟩
  rcases p4 b hb with h4 | h4
  · have := q3 b h4
    exact ⟨hm b this.1, this.2⟩
  · have h5 := p1.lt b hb
    have h6 := s.lt _ s.sq
    have h7 := s.lt _ s.sr
    exact ⟨⟨Or.inr h4, h5⟩, by omega, by omega⟩
end

end Go.Proofs.YtcgfmpegakpddaaGreat
/- Caches' own steps: a block is pushed, popped; the pool beneath them takes, is given a block. -/
namespace Go.Proofs.YtcgfmpegakpddaaGreat
open Go.RowKit Go.Maps
set_option linter.unusedVariables false

section
variable {F : CaF} {w W : World} {S : Nat → Prop} {v : PoolW} {cs : List CL} {k : Nat} {pages : Int}
theorem outOf_q {ks : List CutV} {x o : Int} (h : OutQ (ks.map CutV.plain) x o) : OutOf ks x := by
  obtain ⟨c, hc, h1, h2, _⟩ := h
  obtain ⟨d, hd, rfl⟩ := List.mem_map.1 hc
  exact ⟨d, hd, h1, h2⟩
theorem CaSt.range (s : CaSt F w W S v cs k pages) {x o : Int} (h : OutQ v.plain.l x o) : 0 ≤ x ∧ x < (F.n : Int) ∧ F.n ≤ 65536 := by
  obtain ⟨Sh, m, D, q1, q2, q3⟩ := s.pl
  obtain ⟨c, hc, h1, _, _⟩ := h
  obtain ⟨d, hd, rfl⟩ := List.mem_map.1 (show c ∈ v.ks.map CutV.plain from hc)
  have := q2.block_range q1.hp_.ok hd h1
  have h2 := q1.ar.small
  exact ⟨this.1, this.2, h2⟩
theorem CaSt.gs (s : CaSt F w W S v cs k pages) : F.g ≠ F.rb ∧ F.g < W.heap.size ∧ F.ap < W.heap.size := by
  obtain ⟨Sh, m, D, q1, q2, q3⟩ := s.pl
  exact ⟨(q3 F.g (Or.inr (Or.inr (Or.inr (Or.inl rfl))))).2.2, q1.ar.lt, q1.ar.ltp⟩
/-- push. -/
theorem c_push (s : CaSt F w W S v cs k pages) {i : Nat} {c : CL} (hi : cs[i]? = some c) {x : Int} (hx : OutQ v.plain.l x ((i % 4 : Nat) : Int)) (hn : ∀ d ∈ cs, x ∉ d.2) :
    Calls Tryz.prog 91 #[.pointer (some ⟨F.q, 0, none⟩), .pointer (some ⟨F.rb, 2 * i, none⟩), .int .i64 x] W fun e w' => e = .returned (.int .i64 0) ∧ ∃ ws' c', CaSt F w w' S { v with ws := ws' } (cs.set i (c', x :: c.2)) k pages ∧ SideP S W S w' := by
  obtain ⟨g1, g2, g3⟩ := s.gs
  obtain ⟨r1, r2, r3⟩ := s.range hx
  have hcm := List.mem_of_getElem? hi
  obtain ⟨n1, n2, n3, n4, n5, n6⟩ := s.nodup hcm
  obtain ⟨Sh, m, D, q1, q2, q3⟩ := s.pl
  have hwl : v.ws.length = F.n := q1.ar.hlen
  obtain ⟨ws', c', p1, p2, p3, p4, p5⟩ := push_right (s.ok.lst c hcm) (m := [x]) (by
    rw [List.singleton_append]
    exact List.nodup_cons.2 ⟨hn c hcm, n5⟩) (fun y hy => by
    obtain rfl := List.mem_singleton.1 hy
    rw [hwl]; exact ⟨r1, r2⟩) q2.wide (by rw [hwl]; exact r3)
  obtain ⟨y0, y1⟩ := s.row i c hi
  refine (cc_push_walk (n := F.n) (ws' := ws') (c1 := c'.1) (c2 := c'.2) s.c1 y0 y1 (s.fz _) (s.fz _) g1 g2 g3 fun W' b hb hbl hc hbs => ?_).mono ?_
  · have cp := code_cpush (q1.below hb).ar c.1.1 c.1.2 n2 n3 q2.wide (some ⟨b, 0, none⟩) 1 1 [x] ⟨rfl, fun _ => ⟨b, 0, rfl, hbs, fun j hj => by
      obtain rfl : j = 0 := by omega
      exact hc⟩⟩ (fun _ a ha e => by
      injection ha with ha
      rw [← ha] at e
      have e2 : b = F.g := e
      omega) (by omega) (fun y hy => by
      obtain rfl := List.mem_singleton.1 hy
      exact ⟨by omega, by omega⟩)
    rw [show cPush v.ws (c.1.1, c.1.2) [x] = (ws', c', 0) from p1] at cp
    refine cp.mono ?_
    rintro e w7 ⟨rfl, ha, hg⟩
    exact ⟨rfl, hg, ha⟩
  · rintro e w' ⟨rfl, W2, hg, ha, hb⟩
    obtain ⟨h1, h2⟩ := s.chain (i := i) (c := c) hi (c' := c') (l' := x :: c.2) (U := (· = x)) p4 p2 (fun c9 l9 h9 hn9 => p5 c9 l9 h9 fun z hz hzl => hn9 z hzl (List.mem_singleton.1 hz)) (fun y hy => ⟨_, hy ▸ hx⟩) (fun j d hj hne y hy e => hn d (List.mem_of_getElem? hj) (e ▸ hy)) (fun y hy => by
      rcases List.mem_cons.1 hy with rfl | hy
      · exact hx
      · exact s.ok.out i c hi y hy) (fun j d hj hne y hy hm => by
      rcases List.mem_cons.1 hm with rfl | hm
      · exact hn d (List.mem_of_getElem? hj) hy
      · exact s.ok.apart j i d c hj hi (Ne.symm hne) y hy hm) hg ha (Below.refl _ _)
    have hsz : ((W2.setCell ⟨F.rb, 2 * i, none⟩ (.int .i64 c'.1)).setCell ⟨F.rb, 2 * i + 1, none⟩ (.int .i64 c'.2)).heap.size = W2.heap.size := by simp
    have hb' : Below ((W2.setCell ⟨F.rb, 2 * i, none⟩ (.int .i64 c'.1)).setCell ⟨F.rb, 2 * i + 1, none⟩ (.int .i64 c'.2)).heap.size ((W2.setCell ⟨F.rb, 2 * i, none⟩ (.int .i64 c'.1)).setCell ⟨F.rb, 2 * i + 1, none⟩ (.int .i64 c'.2)) w' := by rw [hsz]; exact hb
    exact ⟨rfl, ws', c', h1.below hb', h2.trans (SideP.below hb')⟩
/-- pop. -/
theorem c_pop (s : CaSt F w W S v cs k pages) {i : Nat} {c : Int × Int} {a : Int} {r : List Int} (hi : cs[i]? = some (c, a :: r)) :
    Calls Tryz.prog 85 #[.pointer (some ⟨F.q, 0, none⟩), .pointer (some ⟨F.rb, 2 * i, none⟩)] W fun e w' => e = .returned (.tuple #[.int .i64 a, .int .i64 0]) ∧ ∃ ws' c', CaSt F w w' S { v with ws := ws' } (cs.set i (c', r)) k pages ∧ SideP S W S w' := by
  obtain ⟨g1, g2, g3⟩ := s.gs
  have hcm := List.mem_of_getElem? hi
  obtain ⟨n1, n2, n3, n4, n5, n6⟩ := s.nodup hcm
  obtain ⟨Sh, m, D, q1, q2, q3⟩ := s.pl
  have hwl : v.ws.length = F.n := q1.ar.hlen
  obtain ⟨ws', c', p1, p2, p3, p4, p5⟩ := pop_right (s.ok.lst _ hcm) q2.wide (by rw [hwl]; exact q1.ar.small)
  obtain ⟨y0, y1⟩ := s.row i _ hi
  refine (cc_pop_walk (n := F.n) (ws' := ws') (c1 := c'.1) (c2 := c'.2) (a := a) s.c1 y0 y1 (s.fz _) (s.fz _) g1 g2 g3 fun W' hb => ?_).mono ?_
  · have cp := code_cpop (q1.below hb).ar c.1 c.2 n2 n3 q2.wide
    rw [show cPop v.ws (c.1, c.2) = (ws', c', a, 0) from p1] at cp
    refine cp.mono ?_
    rintro e w7 ⟨rfl, ha, hg⟩
    exact ⟨rfl, hg, ha⟩
  · rintro e w' ⟨rfl, W2, hg, ha, hb⟩
    obtain ⟨h1, h2⟩ := s.chain (i := i) (c := (c, a :: r)) hi (c' := c') (l' := r) (U := (· ∈ a :: r)) p4 p2 (fun c9 l9 h9 hn9 => p5 c9 l9 h9 fun z hz hzl => hn9 z hzl hz) (fun y hy => ⟨_, s.ok.out i _ hi y hy⟩) (fun j d hj hne y hy hm => s.ok.apart j i d _ hj hi (Ne.symm hne) y hy hm) (fun y hy => s.ok.out i _ hi y (List.mem_cons_of_mem _ hy)) (fun j d hj hne y hy hm => s.ok.apart j i d _ hj hi (Ne.symm hne) y hy (List.mem_cons_of_mem _ hm)) hg ha (Below.refl _ _)
    have hsz : ((W2.setCell ⟨F.rb, 2 * i, none⟩ (.int .i64 c'.1)).setCell ⟨F.rb, 2 * i + 1, none⟩ (.int .i64 c'.2)).heap.size = W2.heap.size := by simp
    have hb' : Below ((W2.setCell ⟨F.rb, 2 * i, none⟩ (.int .i64 c'.1)).setCell ⟨F.rb, 2 * i + 1, none⟩ (.int .i64 c'.2)).heap.size ((W2.setCell ⟨F.rb, 2 * i, none⟩ (.int .i64 c'.1)).setCell ⟨F.rb, 2 * i + 1, none⟩ (.int .i64 c'.2)) w' := by rw [hsz]; exact hb
    exact ⟨rfl, ws', c', h1.below hb', h2.trans (SideP.below hb')⟩
/-- The pool's Take. -/
theorem c_ptake (s : CaSt F w W S v cs k pages) (hk : k + 1 ≤ 1000000000) (order : Int) (ho : in64 order) (p' : PoolV) (at' no : Int) (e : pTake v.plain order = (p', at', no)) :
    Calls Tryz.prog 44 #[.pointer (some ⟨F.p, 0, none⟩), .int .i64 order] W fun e w' => e = .returned (.tuple #[.int .i64 at', .int .i64 no]) ∧ ∃ S' v', CaSt F w w' S' v' cs (k + 1) pages ∧ v'.plain = p' ∧ SideP S W S' w' := by
  by_cases c : order < 0 ∨ 3 < order
  · refine (code_ptake_arg (some ⟨F.p, 0, none⟩) order ho c W).mono ?_
    unfold pTake at e
    rw [if_pos c] at e
    injection e with e1 e2
    injection e2 with e2 e3
    subst e2 e3
    rintro e w' ⟨rfl, hb⟩
    exact ⟨rfl, S, v, (s.below hb).later (by omega), e1, SideP.below hb⟩
  · obtain ⟨Sh, m, D, q1, q2, q3⟩ := s.pl
    have hla := s.la
    refine (code_ptake q1 q2 order (by omega) (by omega)).mono ?_
    rintro e' w' ⟨at2, no2, v', rfl, hw, e2, hst⟩
    rw [e] at e2
    injection e2 with e3 e4
    injection e4 with e4 e5
    subst e4 e5
    have hh := pTake_heap (p := v.plain) q1.hp_.ok order
    rw [e, e3] at hh
    have hl : v'.h.last ≤ ((k + 1 : Nat) : Int) := by have h1 : v'.h.last ≤ v.h.last + 1 := hh.2; omega
    have hpk := (s.pool.did (fun b h => (q3 b h).1) hw hl hh.1).1.pok
    obtain ⟨h1, h2⟩ := s.did q3 hw hst (fun d hd x hx hn => by
      obtain ⟨i, hi⟩ := List.getElem?_of_mem hd
      exact hn (outOf_q (s.ok.out i d hi x hx))) (fun i d hi x hx => by
      by_cases hz : no = 0
      · subst hz
        rw [e3] at e
        exact (take_out s.pool.pok hpk e).1 x _ (s.ok.out i d hi x hx)
      · have := take_refused e hz
        rw [e3] at this
        rw [this]
        exact s.ok.out i d hi x hx) hl hh.1
    exact ⟨rfl, _, v', h1, e3.symm, h2⟩
/-- The pool's Give of one block that is out, and in no list. -/
theorem c_pgive (s : CaSt F w W S v cs k pages) {x q : Int} (hx : OutQ v.plain.l x q) (hn : ∀ d ∈ cs, x ∉ d.2) (A : Addr) (c : Nat) (hs : Sl W W.heap.size (some A) 1 ([x].map iv)) (hA : ¬ S A.block) (p' : PoolV) (no : Int) (e : gGive v.plain [x] = (p', no)) :
    Calls Tryz.prog 52 #[.pointer (some ⟨F.p, 0, none⟩), .slice (some A) 1 c] W fun e w' => e = .returned (.int .i64 no) ∧ ∃ S' v', CaSt F w w' S' v' cs k pages ∧ v'.plain = p' ∧ SideP S W S' w' := by
  obtain ⟨r1, r2, r3⟩ := s.range hx
  obtain ⟨Sh, m, D, q1, q2, q3⟩ := s.pl
  refine (code_pgive q1 q2 (some A) 1 c [x] hs (fun _ a ha h => by
    injection ha with ha
    exact hA (ha ▸ (q3 _ h).1)) (by omega) (fun y hy => by
    obtain rfl := List.mem_singleton.1 hy
    exact ⟨by omega, by omega⟩)).mono ?_
  rintro e' w' ⟨no2, v', rfl, hw, e2, hst⟩
  rw [e] at e2
  injection e2 with e3 e4
  subst e4
  have hh := gGive_heap (p := v.plain) q1.hp_.ok [x]
  rw [e, e3] at hh
  have hl : v'.h.last ≤ (k : Int) := by have h1 : v'.h.last = v.h.last := hh.2; have := s.la; omega
  obtain ⟨p2, g1, _, g2⟩ := give_out s.pool.pok hx
  rw [e] at g1
  injection g1 with g1 _
  obtain ⟨h1, h2⟩ := s.did q3 hw hst (fun d hd y hy hm => hn d hd (by rw [← List.mem_singleton.1 hm]; exact hy)) (fun i d hi y hy => by
    rw [← e3, g1]
    exact g2 y _ (s.ok.out i d hi y hy) (fun h => hn d (List.mem_of_getElem? hi) (h ▸ hy))) hl hh.1
  exact ⟨rfl, _, v', h1, e3.symm, h2⟩
/-- A list's place. -/
theorem c_list (s : CaSt F w W S v cs k pages) (proc order : Nat) (h1 : proc < F.N) (h2 : order < 4) :
    Calls Tryz.prog 79 #[.pointer (some ⟨F.q, 0, none⟩), .int .i64 proc, .int .i64 order] W fun e w' => e = .returned (.pointer (some ⟨F.rb, 2 * (4 * proc + order), none⟩)) ∧ Below W.heap.size W w' :=
  cc_list_yes F.q F.rb proc order F.N _ _ W (cc_parts F.q _ _ _ _ _ W s.c0 s.c1 s.c2) h1 h2 s.n1.2
theorem c_list_no (s : CaSt F w W S v cs k pages) (proc order : Int) (h : proc < 0 ∨ (F.N : Int) ≤ proc ∨ order < 0 ∨ 4 ≤ order) :
    Calls Tryz.prog 79 #[.pointer (some ⟨F.q, 0, none⟩), .int .i64 proc, .int .i64 order] W fun e w' => e = .returned (.pointer none) ∧ Below W.heap.size W w' :=
  cc_list_no (some ⟨F.q, 0, none⟩) proc order F.N (some ⟨F.rb, 0, none⟩) W ((cc_parts F.q _ _ _ _ _ W s.c0 s.c1 s.c2).mono fun e w' ⟨h1, h2⟩ => ⟨⟨_, _, _, h1⟩, h2⟩) h
end

end Go.Proofs.YtcgfmpegakpddaaGreat

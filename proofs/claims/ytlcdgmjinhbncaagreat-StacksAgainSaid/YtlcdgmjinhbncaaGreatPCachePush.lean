/- What push and pop of caches do, once the chain's own call is told. -/
import Derived.Test.YtlcdgmjinhbncaaGreatPCacheFns
import Derived.Test.YtlcdgmjinhbncaaGreatPPoolGiveP
import Derived.Deep.Cut
import Derived.Deep.CutRange
import Derived.Deep.RegionLaw
namespace Go.Proofs.YtlcdgmjinhbncaaGreat
open Go.RowKit Go.Maps
set_option linter.unusedVariables false

/-- Behind such a call: words are turned, and a chain's two cells. -/
def CcTo (w : World) (rb o ap g n : Nat) (ws' : List Nat) (c1 c2 : Int) (w' : World) : Prop :=
  ∃ W2, w.grownBy W2 (some g) ∧ Ar W2 0 ap g n ws' ∧ Below W2.heap.size ((W2.setCell ⟨rb, o, none⟩ (.int .i64 c1)).setCell ⟨rb, o + 1, none⟩ (.int .i64 c2)) w'
theorem ccTo_a {w W' w7 : World} {rb o ap g n : Nat} {ws' : List Nat} {c1 c2 : Int} (hb : Below w.heap.size w W') (hg : W'.grownBy w7 (some g)) (ha : Ar w7 0 ap g n ws') (ob : Obj) : CcTo w rb o ap g n ws' c1 c2 (((w7.setCell ⟨rb, o, none⟩ (.int .i64 c1)).setCell ⟨rb, o + 1, none⟩ (.int .i64 c2)).alloc ob) :=
  ⟨w7, grownTrans ⟨hb.os, hb.tape, hb.output, hb.size, fun k h _ => hb.block k h⟩ hg, ha, (Below.refl _ _).alloc (by simp) _⟩
/-- .. where the new chain's block b was laid ahead. -/
theorem ccTo_b {w W' w7 : World} {rb o ap g n b : Nat} {ws' : List Nat} {c1 c2 : Int} (hb : Below w.heap.size w W') (hg : W'.grownBy w7 (some g)) (ha : Ar w7 0 ap g n ws') (h1 : w.heap.size ≤ b) (h2 : ap < w.heap.size) (h3 : g < w.heap.size) : CcTo w rb o ap g n ws' c1 c2 ((((w7.setCell ⟨b, 0, none⟩ (.int .i64 c1)).setCell ⟨b, 1, none⟩ (.int .i64 c2)).setCell ⟨rb, o, none⟩ (.int .i64 c1)).setCell ⟨rb, o + 1, none⟩ (.int .i64 c2)) := by
  have hg1 : w.grownBy w7 (some g) := grownTrans ⟨hb.os, hb.tape, hb.output, hb.size, fun k h _ => hb.block k h⟩ hg
  have hB : Below w.heap.size w7 ((w7.setCell ⟨b, 0, none⟩ (.int .i64 c1)).setCell ⟨b, 1, none⟩ (.int .i64 c2)) := ((Below.refl w.heap.size w7).setCell (p := ⟨b, 0, none⟩) h1 _).setCell (p := ⟨b, 1, none⟩) h1 _
  exact ⟨_, ⟨hB.os.trans hg1.os, hB.tape.trans hg1.tape, hB.output.trans hg1.output, Nat.le_trans hg1.size hB.size, fun k hk hne => (hB.block k hk).trans (hg1.block k hk hne)⟩, ha.keepB (hB.block _ h2) (hB.block _ h3), Below.refl _ _⟩
theorem cells2C {w : World} {b : Nat} {t : TypeId} {v0 v1 : Value} (h : w.heap[b]? = some (.cells #[v0, v1] t (0, 0))) :
    w.cell? ⟨b, 0, none⟩ = some v0 ∧ w.cell? ⟨b, 1, none⟩ = some v1 ∧ w.frozen? ⟨b, 0, none⟩ = false ∧ w.frozen? ⟨b, 1, none⟩ = false := by
  refine ⟨?_, ?_, ?_, ?_⟩ <;> simp [World.cell?, World.frozen?, h]
theorem heapC (W : World) (o : Obj) : (W.alloc o).heap[W.heap.size]? = some o := by show (W.heap.push o)[W.heap.size]? = _; simp
/-- A chain's block, laid ahead of the call. -/
theorem chain_old {W' w7 : World} {g b : Nat} {t : TypeId} (hg : W'.grownBy w7 (some g)) (h : W'.heap[b]? = some (.cells #[.int .i64 0, .int .i64 0] t (0, 0))) (hb : b < W'.heap.size) (hne : b ≠ g) : w7.heap[b]? = some (.cells #[.int .i64 0, .int .i64 0] t (0, 0)) :=
  (hg.block b hb (fun e => hne (by injection e))).trans h
/-- A chain's cells elsewhere, behind the call. -/
theorem cells_old {w W' w7 : World} {g b : Nat} {x y : Value} {o : Nat} (hb : Below w.heap.size w W') (hg : W'.grownBy w7 (some g)) (hbl : b < w.heap.size) (hne : b ≠ g) (h0 : w.cell? ⟨b, o, none⟩ = some x) (h1 : w.cell? ⟨b, o + 1, none⟩ = some y) (f0 : w.frozen? ⟨b, o, none⟩ = false) (f1 : w.frozen? ⟨b, o + 1, none⟩ = false) :
    w7.cell? ⟨b, o, none⟩ = some x ∧ w7.cell? ⟨b, o + 1, none⟩ = some y ∧ w7.frozen? ⟨b, o, none⟩ = false ∧ w7.frozen? ⟨b, o + 1, none⟩ = false := by
  have h : w7.heap[b]? = w.heap[b]? := (hg.block b (Nat.lt_of_lt_of_le hbl hb.size) (fun e => hne (by injection e))).trans (hb.block b hbl)
  exact ⟨(World.cell?_of_block (w := w) (a := ⟨b, o, none⟩) h).trans h0, (World.cell?_of_block (w := w) (a := ⟨b, o + 1, none⟩) h).trans h1, (World.frozen?_of_block (w := w) (a := ⟨b, o, none⟩) h).trans f0, (World.frozen?_of_block (w := w) (a := ⟨b, o + 1, none⟩) h).trans f1⟩

set_option maxRecDepth 100000 in
set_option maxHeartbeats 4000000 in
theorem cc_push_walk {w : World} {q rb o ap g n : Nat} {h1 h2 c1 c2 x : Int} {ws' : List Nat} (hq : w.cell? ⟨q, 1, none⟩ = some (.pointer (some ⟨ap, 0, none⟩))) (y0 : w.cell? ⟨rb, o, none⟩ = some (.int .i64 h1)) (y1 : w.cell? ⟨rb, o + 1, none⟩ = some (.int .i64 h2)) (f0 : w.frozen? ⟨rb, o, none⟩ = false) (f1 : w.frozen? ⟨rb, o + 1, none⟩ = false) (hg : g ≠ rb) (hgl : g < w.heap.size) (hal : ap < w.heap.size)
    (CP : ∀ W' b, Below w.heap.size w W' → w.heap.size ≤ b → W'.cell? ⟨b, 0, none⟩ = some (.int .i64 x) → b < W'.heap.size → Calls Tryz.prog 143 #[.pointer (some ⟨ap, 0, none⟩), .agg #[.int .i64 h1, .int .i64 h2], .slice (some ⟨b, 0, none⟩) 1 1] W' fun e w7 => e = .returned (.tuple #[.agg #[.int .i64 c1, .int .i64 c2], .int .i64 0]) ∧ W'.grownBy w7 (some g) ∧ Ar w7 0 ap g n ws') :
    Calls Tryz.prog 108 #[.pointer (some ⟨q, 0, none⟩), .pointer (some ⟨rb, o, none⟩), .int .i64 x] w fun e w' => e = .returned (.int .i64 0) ∧ CcTo w rb o ap g n ws' c1 c2 w' := by
  have hrl : rb < w.heap.size := lt_of_cell y0
  have a1 := alloc_old (.cells #[.int .i64 x] 3) hq
  have a2 := alloc_old (.cells #[.int .i64 x] 3) y0
  have a3 := alloc_old (.cells #[.int .i64 x] 3) y1
  have b1 := alloc_old (.cells #[.int .i64 0, .int .i64 0] 137) hq
  have b2 := alloc_old (.cells #[.int .i64 0, .int .i64 0] 137) y0
  have b3 := alloc_old (.cells #[.int .i64 0, .int .i64 0] 137) y1
  have ab1 := alloc_old (.cells #[.int .i64 0, .int .i64 0] 137) a1
  have ab2 := alloc_old (.cells #[.int .i64 0, .int .i64 0] 137) a2
  have ab3 := alloc_old (.cells #[.int .i64 0, .int .i64 0] 137) a3
  have ba1 := alloc_old (.cells #[.int .i64 x] 3) b1
  have ba2 := alloc_old (.cells #[.int .i64 x] 3) b2
  have ba3 := alloc_old (.cells #[.int .i64 x] 3) b3
  have HB1 := hidb ((((Below.refl w.heap.size w).alloc (Nat.le_refl _) (.cells #[.int .i64 x] 3)).drew))
  have HB2 := hidb ((((Below.refl w.heap.size w).alloc (Nat.le_refl _) (.cells #[.int .i64 0, .int .i64 0] 137)).alloc (by simp) (.cells #[.int .i64 x] 3)).drew)
  have HB3 := hidb ((((Below.refl w.heap.size w).alloc (Nat.le_refl _) (.cells #[.int .i64 x] 3)).alloc (by simp) (.cells #[.int .i64 0, .int .i64 0] 137)).drew)
  have k1 := CP _ w.heap.size HB1.out (Nat.le_refl _) (World.cell?_alloc_at _ _ _ 0 (by simp)) (by simp)
  have k2 := CP _ (w.heap.size + 1) HB2.out (by omega) (by simp [go_sem]) (by simp)
  have k3 := CP _ w.heap.size HB3.out (Nat.le_refl _) (alloc_old _ (World.cell?_alloc_at _ _ _ 0 (by simp))) (by simp; omega)
  have HF := hidb (fun (W' w7 : World) (hb : Below w.heap.size w W') (h : W'.grownBy w7 (some g)) => cells_old hb h hrl hg.symm y0 y1 f0 f1)
  have HA := hidb (fun (W' w7 : World) (hb : Below w.heap.size w W') (h : W'.grownBy w7 (some g)) (ha : Ar w7 0 ap g n ws') (ob : Obj) => ccTo_a (rb := rb) (o := o) (c1 := c1) (c2 := c2) hb h ha ob)
  have HC := hidb (fun (W' w7 : World) (b : Nat) (hb : Below w.heap.size w W') (h : W'.grownBy w7 (some g)) (ha : Ar w7 0 ap g n ws') (h1 : w.heap.size ≤ b) => ccTo_b (rb := rb) (o := o) (c1 := c1) (c2 := c2) hb h ha h1 hal hgl)
  have HH2 := hidb (show ((w.alloc (.cells #[.int .i64 0, .int .i64 0] 137)).alloc (.cells #[.int .i64 x] 3)).drew.heap[w.heap.size]? = some (.cells #[.int .i64 0, .int .i64 0] 137 (0, 0)) from (Below.heap_alloc _ _ _ (by simp)).trans (heapC w _))
  have HH3 := hidb (show ((w.alloc (.cells #[.int .i64 x] 3)).alloc (.cells #[.int .i64 0, .int .i64 0] 137)).drew.heap[w.heap.size + 1]? = some (.cells #[.int .i64 0, .int .i64 0] 137 (0, 0)) from by
    have := heapC (w.alloc (.cells #[.int .i64 x] 3)) (.cells #[.int .i64 0, .int .i64 0] 137)
    rw [World.size_alloc] at this
    exact this)
  have HL := hidb (fun (W' w7 : World) (hb : Below w.heap.size w W') (h : W'.grownBy w7 (some g)) => (show rb < w7.heap.size from Nat.lt_of_lt_of_le hrl (Nat.le_trans hb.size h.size)))
  clear CP
  go_enter Tryz.func108, Tryz.ntmps108
  go_wp2
  go_region_law (first
    | (go_simp; go_at_call 143; (with_reducible refine k1.mono ?_); rintro e w7 ⟨rfl, hg7, ha7⟩; obtain ⟨z0, z1, z2, z3⟩ := HF.out _ _ HB1.out hg7; have hl7 := HL.out _ _ HB1.out hg7; have nn7 : ¬ rb = w7.heap.size := (by omega); have nn8 : ¬ rb = w.heap.size := (by omega); have nn9 : ¬ rb = w.heap.size + 1 := (by omega); have z4 := alloc_old (.cells #[.int .i64 c1, .int .i64 c2] 137) z0; have z5 := alloc_old (.cells #[.int .i64 c1, .int .i64 c2] 137) z1; have P := hidb (HA.out _ _ HB1.out hg7 ha7 (.cells #[.int .i64 c1, .int .i64 c2] 137)); clear hg7 ha7)
    | (go_simp; go_at_call 143; (with_reducible refine k2.mono ?_); rintro e w7 ⟨rfl, hg7, ha7⟩; obtain ⟨z0, z1, z2, z3⟩ := HF.out _ _ HB2.out hg7; have hl7 := HL.out _ _ HB2.out hg7; have nn7 : ¬ rb = w7.heap.size := (by omega); have nn8 : ¬ rb = w.heap.size := (by omega); have nn9 : ¬ rb = w.heap.size + 1 := (by omega); obtain ⟨n0, n1, m0, m1⟩ := cells2C (chain_old (b := w.heap.size) (t := 137) hg7 HH2.out (by simp; omega) (by omega)); have P := hidb (HC.out _ _ w.heap.size HB2.out hg7 ha7 (Nat.le_refl _)); clear hg7 ha7)
    | (go_simp; go_at_call 143; (with_reducible refine k3.mono ?_); rintro e w7 ⟨rfl, hg7, ha7⟩; obtain ⟨z0, z1, z2, z3⟩ := HF.out _ _ HB3.out hg7; have hl7 := HL.out _ _ HB3.out hg7; have nn7 : ¬ rb = w7.heap.size := (by omega); have nn8 : ¬ rb = w.heap.size := (by omega); have nn9 : ¬ rb = w.heap.size + 1 := (by omega); obtain ⟨n0, n1, m0, m1⟩ := cells2C (chain_old (b := w.heap.size + 1) (t := 137) hg7 HH3.out (by simp) (by omega)); have P := hidb (HC.out _ _ (w.heap.size + 1) HB3.out hg7 ha7 (by omega)); clear hg7 ha7))
  all_goals clear k1 k2 k3 HF HA HC HH2 HH3 HL a1 a2 a3 b1 b2 b3 ab1 ab2 ab3 ba1 ba2 ba3 hq y0 y1 f0 f1
  all_goals go_wp2
  all_goals go_ret
  all_goals exact ⟨rfl, P.out⟩

end Go.Proofs.YtlcdgmjinhbncaaGreat

/- A chain in a block of the call's own, a result's block, and an arena beside them; what cut of layer 8 (chain) does. -/
import Derived.Test.YtcngcibiibchiaaChainFollow
import Derived.Test.YtcngcibiibchiaaChainPush
import Derived.Test.YtcngcibiibchiaaChainCut
namespace Go.Proofs.Ytcngcibiibchiaa
open Go.RowKit
set_option linter.unusedVariables false

structure ChSt (w W : World) (B p g n q r : Nat) (ws : List Nat) (h l : Int) : Prop where
  ar : Ar W B p g n ws
  q0 : W.cell? ⟨q, 0, none⟩ = some (.int .i64 h)
  q1 : W.cell? ⟨q, 1, none⟩ = some (.int .i64 l)
  qf : ∀ j, W.frozen? ⟨q, j, none⟩ = false
  r0 : W.cell? ⟨r, 0, none⟩ = some (.int .i64 0)
  r1 : W.cell? ⟨r, 1, none⟩ = some (.int .i64 0)
  rf : ∀ j, W.frozen? ⟨r, j, none⟩ = false
  gr : w.grownBy W (some g)
  lq : w.heap.size ≤ q
  lr : w.heap.size ≤ r
  ne : q ≠ r
  gw : g < w.heap.size
  pw : p < w.heap.size
theorem wv_set (xs : List Nat) (a x : Nat) : aStore xs a [x] = xs.set a x ∨ xs.length ≤ a := by
  by_cases h : a < xs.length
  · left
    have := aStore_succ xs a [] x (by simpa using h)
    rw [aStore_nil] at this
    simpa using this
  · right; omega
theorem aStore_one {xs : List Nat} {a : Nat} (h : a < xs.length) (x : Nat) : aStore xs a [x] = xs.set a x := by
  rcases wv_set xs a x with e | e
  · exact e
  · omega
section
variable {w W W' : World} {B p g n q r : Nat} {ws ws' : List Nat} {h l h' l' : Int}
theorem ChSt.qlt (k : ChSt w W B p g n q r ws h l) : q < W.heap.size := lt_of_cell k.q0
theorem ChSt.rlt (k : ChSt w W B p g n q r ws h l) : r < W.heap.size := lt_of_cell k.r0
theorem ChSt.facts (k : ChSt w W B p g n q r ws h l) : W.cell? ⟨q, 0, none⟩ = some (.int .i64 h) ∧ W.cell? ⟨q, 1, none⟩ = some (.int .i64 l) ∧ W.cell? ⟨r, 0, none⟩ = some (.int .i64 0) ∧ W.cell? ⟨r, 1, none⟩ = some (.int .i64 0) ∧ W.frozen? ⟨r, 0, none⟩ = false ∧ W.frozen? ⟨r, 1, none⟩ = false ∧ W.frozen? ⟨q, 0, none⟩ = false ∧ W.frozen? ⟨q, 1, none⟩ = false :=
  ⟨k.q0, k.q1, k.r0, k.r1, k.rf 0, k.rf 1, k.qf 0, k.qf 1⟩
/-- Some other block g and new ones: the rest stands. -/
theorem ChSt.step (k : ChSt w W B p g n q r ws h l) (hg : W.grownBy W' (some g)) (ha : Ar W' B p g n ws') : ChSt w W' B p g n q r ws' h l := by
  have hq := hg.block q k.qlt (fun e => by injection e with e; have := k.lq; have := k.gw; omega)
  have hr := hg.block r k.rlt (fun e => by injection e with e; have := k.lr; have := k.gw; omega)
  exact ⟨ha, (World.cell?_of_block (w := W) (a := ⟨q, 0, none⟩) hq).trans k.q0, (World.cell?_of_block (w := W) (a := ⟨q, 1, none⟩) hq).trans k.q1, fun j => (World.frozen?_of_block (w := W) (a := ⟨q, j, none⟩) hq).trans (k.qf j),
    (World.cell?_of_block (w := W) (a := ⟨r, 0, none⟩) hr).trans k.r0, (World.cell?_of_block (w := W) (a := ⟨r, 1, none⟩) hr).trans k.r1, fun j => (World.frozen?_of_block (w := W) (a := ⟨r, j, none⟩) hr).trans (k.rf j), grown_trans k.gr hg, k.lq, k.lr, k.ne, k.gw, k.pw⟩
theorem ChSt.below (k : ChSt w W B p g n q r ws h l) (hb : Below W.heap.size W W') : ChSt w W' B p g n q r ws h l := k.step (below_to_grown hb _) (k.ar.below hb (Nat.le_refl _))
theorem ChSt.set0 (k : ChSt w W B p g n q r ws h l) (h' : Int) : ChSt w (W.setCell ⟨q, 0, none⟩ (.int .i64 h')) B p g n q r ws h' l := by
  have e1 := k.lq
  have e2 := k.gw
  have e3 := k.pw
  refine ⟨k.ar.setCell (by show q ≠ p; omega) (by show q ≠ g; omega) _, ?_, ?_, fun j => by rw [World.frozen?_setCell]; exact k.qf j, ?_, ?_, fun j => by rw [World.frozen?_setCell]; exact k.rf j, grown_setCell k.gr (by exact k.lq) _, k.lq, k.lr, k.ne, k.gw, k.pw⟩
  · rw [World.cell?_setCell_same _ _ _ (by rw [k.q0])]
  · rw [World.cell?_setCell_other _ _ _ _ (by simp)]; exact k.q1
  · rw [World.cell?_setCell_other _ _ _ _ (by have := k.ne; simp; try omega)]; exact k.r0
  · rw [World.cell?_setCell_other _ _ _ _ (by have := k.ne; simp; try omega)]; exact k.r1
theorem ChSt.set1 (k : ChSt w W B p g n q r ws h l) (l' : Int) : ChSt w (W.setCell ⟨q, 1, none⟩ (.int .i64 l')) B p g n q r ws h l' := by
  have e1 := k.lq
  have e2 := k.gw
  have e3 := k.pw
  refine ⟨k.ar.setCell (by show q ≠ p; omega) (by show q ≠ g; omega) _, ?_, ?_, fun j => by rw [World.frozen?_setCell]; exact k.qf j, ?_, ?_, fun j => by rw [World.frozen?_setCell]; exact k.rf j, grown_setCell k.gr (by exact k.lq) _, k.lq, k.lr, k.ne, k.gw, k.pw⟩
  · rw [World.cell?_setCell_other _ _ _ _ (by simp)]; exact k.q0
  · rw [World.cell?_setCell_same _ _ _ (by rw [k.q1])]
  · rw [World.cell?_setCell_other _ _ _ _ (by have := k.ne; simp; try omega)]; exact k.r0
  · rw [World.cell?_setCell_other _ _ _ _ (by have := k.ne; simp; try omega)]; exact k.r1
/-- The chain is answered. -/
theorem ChSt.fin (k : ChSt w W B p g n q r ws h l) (u v : Value) : Ar ((W.setCell ⟨r, 0, none⟩ u).setCell ⟨r, 1, none⟩ v) B p g n ws ∧ w.grownBy ((W.setCell ⟨r, 0, none⟩ u).setCell ⟨r, 1, none⟩ v) (some g) := by
  have e1 := k.lr
  have e2 := k.gw
  have e3 := k.pw
  exact ⟨(k.ar.setCell (by show r ≠ p; omega) (by show r ≠ g; omega) _).setCell (by show r ≠ p; omega) (by show r ≠ g; omega) _, grown_setCell (grown_setCell k.gr (by exact k.lr) _) (by exact k.lr) _⟩
theorem ChSt.start (ha : Ar w B p g n ws) (h l : Int) (t t2 : TypeId) : ChSt w ((w.alloc (.cells #[.int .i64 h, .int .i64 l] t)).alloc (.cells #[.int .i64 0, .int .i64 0] t2)) B p g n w.heap.size (w.heap.size + 1) ws h l := by
  have hb : Below w.heap.size w ((w.alloc (.cells #[.int .i64 h, .int .i64 l] t)).alloc (.cells #[.int .i64 0, .int .i64 0] t2)) := ((Below.refl _ _).alloc (Nat.le_refl _) _).alloc (by simp) _
  refine ⟨ha.below hb (Nat.le_refl _), ?_, ?_, fun j => ?_, ?_, ?_, fun j => ?_, below_to_grown hb _, Nat.le_refl _, by omega, by omega, ha.lt, ha.ltp⟩
  · rw [World.cell?_alloc_past _ _ _ (by simp), World.cell?_alloc_at _ _ _ _ rfl]; rfl
  · rw [World.cell?_alloc_past _ _ _ (by simp), World.cell?_alloc_at _ _ _ _ rfl]; rfl
  · rw [World.frozen?_alloc_past _ _ _ (by simp), World.frozen?_alloc_at _ _ _ _ rfl]
  · rw [World.cell?_alloc_at _ _ _ _ (by simp)]; rfl
  · rw [World.cell?_alloc_at _ _ _ _ (by simp)]; rfl
  · rw [World.frozen?_alloc_at _ _ _ _ (by simp)]
end
theorem Sl.beside {w w' : World} {A : Option Addr} {n g : Nat} {xs : List Value} (h : Sl w w.heap.size A n xs) (hg : w.grownBy w' (some g)) (ha : 0 < n → ∀ a, A = some a → a.block ≠ g) : Sl w' w.heap.size A n xs :=
  ⟨h.1, fun hn => by
    obtain ⟨b, off, e, hb, hc⟩ := h.2 hn
    refine ⟨b, off, e, hb, fun j hj => ?_⟩
    rw [World.cell?_of_block (w := w) (a := ⟨b, off + j, none⟩) (hg.block b hb (fun e2 => by injection e2 with e2; exact ha hn _ e e2))]
    exact hc j hj⟩

end Go.Proofs.Ytcngcibiibchiaa

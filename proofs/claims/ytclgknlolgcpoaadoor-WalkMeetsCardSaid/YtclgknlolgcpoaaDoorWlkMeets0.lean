/- Layer 15's statement WalkMeets: what is pushed so far, in plain words and in memory. -/
import Derived.Test.YtclgknlolgcpoaaDoorWlkIs
import Derived.Test.YtclgknlolgcpoaaDoorWlkAll
import Derived.Test.YtclgknlolgcpoaaDoorFrmAll
namespace Go.Proofs.YtclgknlolgcpoaaDoor
open Go.RowKit Go.ChangeShapes Go.WideShapes
set_option linter.unusedVariables false

/-- Its two blocks are what an arena hangs on. -/
theorem Ar.of_blocks {w w' : World} {B p g len : Nat} {xs : List Nat} (h : Ar w B p g len xs) (h1 : w'.heap[p]? = w.heap[p]?) (h2 : w'.heap[g]? = w.heap[g]?) : Ar w' B p g len xs :=
  ⟨(World.cell?_of_block (w := w) (a := ⟨p, 0, none⟩) h1).trans h.cell, h2.trans h.heap, h.hlen, h.ge, h.geg, h.ne, h.small⟩
/-- What is pushed: the words, the last frame's address, the frames. -/
structure Pushed (O : Fns) (xs : List Nat) (sp : Int) (L : List FrV) : Prop where
  len : xs.length = 256
  wd : Wd xs
  lo : 0 ≤ sp
  hi : sp ≤ 256
  go : wkGo xs O 256 (256 - sp).toNat sp [] = some L
/-- The next frame's link. -/
def pLink (sp : Int) : Int := if sp = 256 then -1 else sp
theorem frZ_pushed (O : Fns) : Pushed O frZ 256 [] := ⟨frZ_length, frZ_wd, by omega, by omega, (wkGo_end (by omega))⟩
theorem frPush_wd {xs ys : List Nat} {l : Fns} {lo sp f link at' : Int} (hl : ∀ x ∈ l, 0 ≤ x.1 ∧ x.1 ≤ 1000) (hx : Wd xs) (hn : xs.length = 256) (hll : l.length ≤ 1000) (h : frPush xs l lo sp f link = (ys, at', 0)) : Wd ys := by
  obtain ⟨n, s, u, v, h1, h2, h3, h4, h5, h6, h7, h8, h9⟩ := frPush_ok hl h
  rw [h9]
  refine aStore_wd hx (fun z hz => ?_) s
  rcases List.mem_cons.1 hz with rfl | hz
  · omega
  · rcases List.mem_cons.1 hz with rfl | hz
    · omega
    · rw [List.eq_of_mem_replicate hz]; omega
theorem Pushed.next {O : Fns} {xs ys : List Nat} {sp f at' : Int} {L : List FrV} (h : Pushed O xs sp L) (hO : ∀ x ∈ O, 0 ≤ x.1 ∧ x.1 ≤ 1000) (hn : O.length ≤ 1000) (hp : frPush xs O 0 sp f (pLink sp) = (ys, at', 0)) : Pushed O ys at' (L ++ [⟨at', f, pLink sp⟩]) ∧ at' < 256 := by
  obtain ⟨h1, h2, h3, h4⟩ := wkGo_push hO hp (hi := 256) (by rw [h.len]; omega) h.hi rfl h.go
  have := h.hi
  exact ⟨⟨by rw [h4]; exact h.len, frPush_wd hO h.wd h.len hn hp, h2, by omega, h1⟩, by omega⟩
theorem frPush_bad {xs ys : List Nat} {l : Fns} {lo sp f link at' no : Int} (h : frPush xs l lo sp f link = (ys, at', no)) (hn : no ≠ 0) : ys = xs := by
  unfold frPush at h
  split at h
  · injection h with h1 _; exact h1.symm
  · split at h
    · injection h with h1 _; exact h1.symm
    · injection h with _ h; injection h with _ h; exact absurd h.symm hn
theorem Pushed.frames {O : Fns} {xs : List Nat} {sp : Int} {L : List FrV} (h : Pushed O xs sp L) : wkFrames xs O ⟨0, 256, sp⟩ = (L, 0) := by
  have hlo := h.lo
  have hhi := h.hi
  have hb : stkSz 256 = true := by decide +kernel
  have hm : stMay ⟨0, 256, sp⟩ xs.length = true := by
    unfold stMay; simp only; rw [hb, Bool.true_and, h.len]; exact decide_eq_true (by omega)
  unfold wkFrames
  rw [hm, if_neg (by simp)]
  simp only
  rw [show (0 : Int) + 256 = 256 from rfl, h.go]
theorem Pushed.few {O : Fns} {xs : List Nat} {sp : Int} {L : List FrV} (h : Pushed O xs sp L) (hO : ∀ x ∈ O, 0 ≤ x.1 ∧ x.1 ≤ 1000) : L.length ≤ 256 := by
  have := wkFrames_len hO _ _ _ h.frames
  rw [h.len] at this
  exact this

/-- The law's world: an arena and a table, a stack's cells, the row of what was pushed. -/
structure MSt (w W : World) (p g qs : Nat) (xs : List Nat) (tp : Option Addr) (O : Fns) (sp : Int) (A : Option Addr) (m c : Nat) (L : List FrV) : Prop where
  bel : Below w.heap.size w W
  ar : Ar W w.heap.size p g 256 xs
  tb : ∃ lo hi, TbO W lo hi tp O ∧ hi ≤ g ∧ w.heap.size ≤ lo ∧ hi ≤ qs
  q0 : W.cell? ⟨qs, 0, none⟩ = some (.int .i64 0)
  q1 : W.cell? ⟨qs, 1, none⟩ = some (.int .i64 256)
  q2 : W.cell? ⟨qs, 2, none⟩ = some (.int .i64 sp)
  fz : W.frozen? ⟨qs, 2, none⟩ = false
  pq : p < qs
  gq : g < qs
  row : W.ownsRow (qs + 1) 50 3 (.slice A m c) m (cellsAll frcells L)
  len : L.length = m
section
variable {w W W' : World} {p g qs : Nat} {xs ys : List Nat} {tp : Option Addr} {O : Fns} {sp : Int} {A : Option Addr} {m c : Nat} {L : List FrV}
theorem MSt.lt (h : MSt w W p g qs xs tp O sp A m c L) : qs < W.heap.size := lt_of_cell' h.q0
theorem MSt.low (h : MSt w W p g qs xs tp O sp A m c L) : w.heap.size ≤ qs := by have := h.ar.geg; have := h.gq; omega
theorem MSt.at_ (h : MSt w W p g qs xs tp O sp A m c L) : AT w W p g 256 xs tp O := by
  obtain ⟨lo, hi, h1, h2, h3, h4⟩ := h.tb
  exact ⟨h.bel, h.ar, lo, hi, h1, by have := h.lt; omega, h3, Or.inr h2⟩
theorem MSt.step (h : MSt w W p g qs xs tp O sp A m c L) (hb : Below W.heap.size W W') : MSt w W' p g qs xs tp O sp A m c L := by
  obtain ⟨lo, hi, h1, h2, h3, h4⟩ := h.tb
  have hl := h.lt
  exact ⟨belF_tr h.bel hb, h.ar.below hb (Nat.le_refl _), ⟨lo, hi, h1.below (hb.mono (by omega)), h2, h3, h4⟩, (hb.cell (p := ⟨qs, 0, none⟩) hl).trans h.q0, (hb.cell (p := ⟨qs, 1, none⟩) hl).trans h.q1, (hb.cell (p := ⟨qs, 2, none⟩) hl).trans h.q2, (hb.frozen (p := ⟨qs, 2, none⟩) hl).trans h.fz, h.pq, h.gq, own_same h.row fun k hk => hb.block k (h.row.lt k hk).2, h.len⟩
/-- A store into the arena. -/
theorem MSt.wrote (h : MSt w W p g qs xs tp O sp A m c L) (ha : Ar W' w.heap.size p g 256 ys) (hg : W.grownBy W' (some g)) : MSt w W' p g qs ys tp O sp A m c L := by
  obtain ⟨lo, hi, h1, h2, h3, h4⟩ := h.tb
  have hl := h.lt
  have hgq := h.gq
  have hb : W'.heap[qs]? = W.heap[qs]? := hg.block qs hl (fun e => by injection e with e; omega)
  refine ⟨h.bel.grown hg h.bel.size (fun k hk => by cases hk; exact h.ar.geg), ha, ⟨lo, hi, h1.keep fun b b1 b2 => hg.block b (by omega) (fun e => by injection e with e; omega), h2, h3, h4⟩, (World.cell?_of_block (a := ⟨qs, 0, none⟩) hb).trans h.q0, (World.cell?_of_block (a := ⟨qs, 1, none⟩) hb).trans h.q1, (World.cell?_of_block (a := ⟨qs, 2, none⟩) hb).trans h.q2, ?_, h.pq, h.gq, own_same h.row fun k hk => hg.block k (h.row.lt k hk).2 (fun e => by injection e with e; have := (h.row.lt k hk).1; omega), h.len⟩
  have := h.fz
  unfold World.frozen? at this ⊢
  simp only at this ⊢
  rw [hb]; exact this
/-- SP is set. -/
theorem MSt.set (h : MSt w W p g qs xs tp O sp A m c L) (v : Int) : MSt w (W.setCell ⟨qs, 2, none⟩ (.int .i64 v)) p g qs xs tp O v A m c L := by
  obtain ⟨lo, hi, h1, h2, h3, h4⟩ := h.tb
  have hl := h.lt
  have hgq := h.gq
  have hpq := h.pq
  have o : ∀ k, k ≠ qs → (W.setCell ⟨qs, 2, none⟩ (.int .i64 v)).heap[k]? = W.heap[k]? := fun k hk => heap_setCell_other W ⟨qs, 2, none⟩ k _ hk
  refine ⟨h.bel.setCell h.low _, h.ar.of_blocks (o p (by omega)) (o g (by omega)), ⟨lo, hi, h1.keep fun b b1 b2 => o b (by omega), h2, h3, h4⟩, (World.cell?_setCell_other W _ _ _ (fun e => by injection e with _ e; cases e)).trans h.q0, (World.cell?_setCell_other W _ _ _ (fun e => by injection e with _ e; cases e)).trans h.q1, World.cell?_setCell_same W _ _ h.q2, ?_, h.pq, h.gq, own_same h.row fun k hk => o k (by have := (h.row.lt k hk).1; omega), h.len⟩
  rw [World.frozen?_setCell]; exact h.fz
/-- The row has one more. -/
theorem MSt.more (h : MSt w W p g qs xs tp O sp A m c L) {A' : Option Addr} {m' c' : Nat} {L' : List FrV} {W1 : World} (hb : Below W.heap.size W W1) (hg : W1.grownBy W' (Value.slice A m c).ownBlock) (hr : W'.ownsRow (qs + 1) 50 3 (.slice A' m' c') m' (cellsAll frcells L')) (hl' : L'.length = m') : MSt w W' p g qs xs tp O sp A' m' c' L' := by
  obtain ⟨lo, hi, h1, h2, h3, h4⟩ := h.tb
  have hl := h.lt
  have hgq := h.gq
  have hpq := h.pq
  have o : ∀ k, k ≤ qs → W'.heap[k]? = W.heap[k]? := fun k hk => (hg.block k (by have := hb.size; omega) (fun e => by have := (h.row.lt k e.symm).1; omega)).trans (hb.block k (by omega))
  have hq := o qs (Nat.le_refl _)
  refine ⟨(belF_tr h.bel hb).grown hg (belF_tr h.bel hb).size (fun k hk => by have := (h.row.lt k hk).1; have := h.low; omega), h.ar.of_blocks (o p (by omega)) (o g (by omega)), ⟨lo, hi, h1.keep fun b b1 b2 => o b (by omega), h2, h3, h4⟩, (World.cell?_of_block (a := ⟨qs, 0, none⟩) hq).trans h.q0, (World.cell?_of_block (a := ⟨qs, 1, none⟩) hq).trans h.q1, (World.cell?_of_block (a := ⟨qs, 2, none⟩) hq).trans h.q2, ?_, h.pq, h.gq, hr, hl'⟩
  have := h.fz
  unfold World.frozen? at this ⊢
  simp only at this ⊢
  rw [hq]; exact this
end
end Go.Proofs.YtclgknlolgcpoaaDoor

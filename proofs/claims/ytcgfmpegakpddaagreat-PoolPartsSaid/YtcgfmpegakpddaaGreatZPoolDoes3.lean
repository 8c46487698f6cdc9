/- Blocks of six cells and of four, that a law's call writes; the document's own pool stays while other blocks are written. -/
import Derived.Test.YtcgfmpegakpddaaGreatZPoolGiveR0
import Derived.Test.YtcgfmpegakpddaaGreatZPoolKeep
import Derived.Test.YtcgfmpegakpddaaGreatZPoolTakeN
import Derived.Test.YtcgfmpegakpddaaGreatZPoolTakeS
import Derived.Test.YtcgfmpegakpddaaGreatZPoolGiveR
import Derived.Test.YtcgfmpegakpddaaGreatZRowWords
import Derived.Deep.RegionHeld3
namespace Go.Proofs.YtcgfmpegakpddaaGreat
open Go.RowKit
set_option linter.unusedVariables false

/-- Six cells of a block are written. -/
def set6 (W : World) (b : Nat) (u0 u1 u2 u3 u4 u5 : Value) : World := (((((W.setCell ⟨b, 0, none⟩ u0).setCell ⟨b, 1, none⟩ u1).setCell ⟨b, 2, none⟩ u2).setCell ⟨b, 3, none⟩ u3).setCell ⟨b, 4, none⟩ u4).setCell ⟨b, 5, none⟩ u5
theorem kept_set6 {T : Nat → Prop} {w W : World} (h : Kept T w W) {b : Nat} (hb : T b ∨ w.heap.size ≤ b) (u0 u1 u2 u3 u4 u5 : Value) : Kept T w (set6 W b u0 u1 u2 u3 u4 u5) :=
  (((((h.set (a := ⟨b, 0, none⟩) hb u0).set (a := ⟨b, 1, none⟩) hb u1).set (a := ⟨b, 2, none⟩) hb u2).set (a := ⟨b, 3, none⟩) hb u3).set (a := ⟨b, 4, none⟩) hb u4).set (a := ⟨b, 5, none⟩) hb u5
/-- A block's six cells, none frozen. -/
def F6 (W : World) (b : Nat) (u0 u1 u2 u3 u4 u5 : Value) : Prop :=
  W.cell? ⟨b, 0, none⟩ = some u0 ∧ W.cell? ⟨b, 1, none⟩ = some u1 ∧ W.cell? ⟨b, 2, none⟩ = some u2 ∧ W.cell? ⟨b, 3, none⟩ = some u3 ∧ W.cell? ⟨b, 4, none⟩ = some u4 ∧ W.cell? ⟨b, 5, none⟩ = some u5 ∧ ∀ j, W.frozen? ⟨b, j, none⟩ = false
section
variable {W W' : World} {b b' : Nat} {x0 x1 x2 x3 x4 x5 : Value}
theorem F6.lt (h : F6 W b x0 x1 x2 x3 x4 x5) : b < W.heap.size := lt_of_cell h.1
theorem F6.same (h : F6 W b x0 x1 x2 x3 x4 x5) (hb : W'.heap[b]? = W.heap[b]?) : F6 W' b x0 x1 x2 x3 x4 x5 := by
  obtain ⟨h0, h1, h2, h3, h4, h5, hf⟩ := h
  have q : ∀ j, W'.cell? ⟨b, j, none⟩ = W.cell? ⟨b, j, none⟩ := fun j => World.cell?_of_block (w := W) (a := ⟨b, j, none⟩) hb
  exact ⟨(q 0).trans h0, (q 1).trans h1, (q 2).trans h2, (q 3).trans h3, (q 4).trans h4, (q 5).trans h5, fun j => (World.frozen?_of_block (w := W) (a := ⟨b, j, none⟩) hb).trans (hf j)⟩
theorem F6.kept {T : Nat → Prop} (h : F6 W b x0 x1 x2 x3 x4 x5) (hK : Kept T W W') (hn : ¬ T b) : F6 W' b x0 x1 x2 x3 x4 x5 := h.same (hK.block b h.lt hn)
theorem F6.below (h : F6 W b x0 x1 x2 x3 x4 x5) (hb : Below W.heap.size W W') : F6 W' b x0 x1 x2 x3 x4 x5 := h.same (hb.block b h.lt)
theorem F6.made (W : World) (u0 u1 u2 u3 u4 u5 : Value) (t : TypeId) : F6 (W.alloc (.cells #[u0, u1, u2, u3, u4, u5] t)) W.heap.size u0 u1 u2 u3 u4 u5 :=
  ⟨World.cell?_alloc_at _ _ _ 0 (by simp), World.cell?_alloc_at _ _ _ 1 (by simp), World.cell?_alloc_at _ _ _ 2 (by simp), World.cell?_alloc_at _ _ _ 3 (by simp), World.cell?_alloc_at _ _ _ 4 (by simp), World.cell?_alloc_at _ _ _ 5 (by simp), fun j => World.frozen?_alloc_at _ _ _ _ rfl⟩
theorem F6.put (h : F6 W b x0 x1 x2 x3 x4 x5) (u0 u1 u2 u3 u4 u5 : Value) : F6 (set6 W b u0 u1 u2 u3 u4 u5) b u0 u1 u2 u3 u4 u5 := by
  obtain ⟨h0, h1, h2, h3, h4, h5, hf⟩ := h
  have o : ∀ (X : World) (i j : Nat) (v : Value), i ≠ j → (X.setCell ⟨b, i, none⟩ v).cell? ⟨b, j, none⟩ = X.cell? ⟨b, j, none⟩ := fun X i j v hij => World.cell?_setCell_other X _ _ _ (fun e => hij (by injection e))
  have s : ∀ (X : World) (i : Nat) (u x : Value), X.cell? ⟨b, i, none⟩ = some x → (X.setCell ⟨b, i, none⟩ u).cell? ⟨b, i, none⟩ = some u := fun X i u x h => World.cell?_setCell_same _ _ _ h
  unfold set6
  refine ⟨?_, ?_, ?_, ?_, ?_, ?_, fun j => ?_⟩
  · rw [o _ _ _ _ (by decide), o _ _ _ _ (by decide), o _ _ _ _ (by decide), o _ _ _ _ (by decide), o _ _ _ _ (by decide)]
    exact s _ _ _ _ h0
  · rw [o _ _ _ _ (by decide), o _ _ _ _ (by decide), o _ _ _ _ (by decide), o _ _ _ _ (by decide)]
    exact s _ _ _ _ (by rw [o _ _ _ _ (by decide)]; exact h1)
  · rw [o _ _ _ _ (by decide), o _ _ _ _ (by decide), o _ _ _ _ (by decide)]
    exact s _ _ _ _ (by rw [o _ _ _ _ (by decide), o _ _ _ _ (by decide)]; exact h2)
  · rw [o _ _ _ _ (by decide), o _ _ _ _ (by decide)]
    exact s _ _ _ _ (by rw [o _ _ _ _ (by decide), o _ _ _ _ (by decide), o _ _ _ _ (by decide)]; exact h3)
  · rw [o _ _ _ _ (by decide)]
    exact s _ _ _ _ (by rw [o _ _ _ _ (by decide), o _ _ _ _ (by decide), o _ _ _ _ (by decide), o _ _ _ _ (by decide)]; exact h4)
  · exact s _ _ _ _ (by rw [o _ _ _ _ (by decide), o _ _ _ _ (by decide), o _ _ _ _ (by decide), o _ _ _ _ (by decide), o _ _ _ _ (by decide)]; exact h5)
  · simp only [World.frozen?_setCell]; exact hf j
theorem F6.al (h : F6 W b x0 x1 x2 x3 x4 x5) (o : Obj) : F6 (W.alloc o) b x0 x1 x2 x3 x4 x5 := h.below ((Below.refl _ _).alloc (Nat.le_refl _) o)
end
/-- Four cells. -/
def setG4 (W : World) (b : Nat) (u0 u1 u2 u3 : Value) : World := (((W.setCell ⟨b, 0, none⟩ u0).setCell ⟨b, 1, none⟩ u1).setCell ⟨b, 2, none⟩ u2).setCell ⟨b, 3, none⟩ u3
def G4 (W : World) (b : Nat) (u0 u1 u2 u3 : Value) : Prop :=
  W.cell? ⟨b, 0, none⟩ = some u0 ∧ W.cell? ⟨b, 1, none⟩ = some u1 ∧ W.cell? ⟨b, 2, none⟩ = some u2 ∧ W.cell? ⟨b, 3, none⟩ = some u3 ∧ ∀ j, W.frozen? ⟨b, j, none⟩ = false
theorem kept_setG4 {T : Nat → Prop} {w W : World} (h : Kept T w W) {b : Nat} (hb : T b ∨ w.heap.size ≤ b) (u0 u1 u2 u3 : Value) : Kept T w (setG4 W b u0 u1 u2 u3) :=
  (((h.set (a := ⟨b, 0, none⟩) hb u0).set (a := ⟨b, 1, none⟩) hb u1).set (a := ⟨b, 2, none⟩) hb u2).set (a := ⟨b, 3, none⟩) hb u3
section
variable {W W' : World} {b b' : Nat} {x0 x1 x2 x3 x4 x5 : Value}
theorem G4.lt (h : G4 W b x0 x1 x2 x3) : b < W.heap.size := lt_of_cell h.1
theorem G4.same (h : G4 W b x0 x1 x2 x3) (hb : W'.heap[b]? = W.heap[b]?) : G4 W' b x0 x1 x2 x3 := by
  obtain ⟨h0, h1, h2, h3, hf⟩ := h
  have q : ∀ j, W'.cell? ⟨b, j, none⟩ = W.cell? ⟨b, j, none⟩ := fun j => World.cell?_of_block (w := W) (a := ⟨b, j, none⟩) hb
  exact ⟨(q 0).trans h0, (q 1).trans h1, (q 2).trans h2, (q 3).trans h3, fun j => (World.frozen?_of_block (w := W) (a := ⟨b, j, none⟩) hb).trans (hf j)⟩
theorem G4.kept {T : Nat → Prop} (h : G4 W b x0 x1 x2 x3) (hK : Kept T W W') (hn : ¬ T b) : G4 W' b x0 x1 x2 x3 := h.same (hK.block b h.lt hn)
theorem G4.below (h : G4 W b x0 x1 x2 x3) (hb : Below W.heap.size W W') : G4 W' b x0 x1 x2 x3 := h.same (hb.block b h.lt)
theorem G4.made (W : World) (u0 u1 u2 u3 : Value) (t : TypeId) : G4 (W.alloc (.cells #[u0, u1, u2, u3] t)) W.heap.size u0 u1 u2 u3 :=
  ⟨World.cell?_alloc_at _ _ _ 0 (by simp), World.cell?_alloc_at _ _ _ 1 (by simp), World.cell?_alloc_at _ _ _ 2 (by simp), World.cell?_alloc_at _ _ _ 3 (by simp), fun j => World.frozen?_alloc_at _ _ _ _ rfl⟩
theorem G4.al (h : G4 W b x0 x1 x2 x3) (o : Obj) : G4 (W.alloc o) b x0 x1 x2 x3 := h.below ((Below.refl _ _).alloc (Nat.le_refl _) o)
/-- The first four of six cells are written. -/
theorem F6.setG4_ (h : F6 W b x0 x1 x2 x3 x4 x5) (u0 u1 u2 u3 : Value) : F6 (setG4 W b u0 u1 u2 u3) b u0 u1 u2 u3 x4 x5 := by
  obtain ⟨h0, h1, h2, h3, h4, h5, hf⟩ := h
  have o : ∀ (X : World) (i j : Nat) (v : Value), i ≠ j → (X.setCell ⟨b, i, none⟩ v).cell? ⟨b, j, none⟩ = X.cell? ⟨b, j, none⟩ := fun X i j v hij => World.cell?_setCell_other X _ _ _ (fun e => hij (by injection e))
  have s : ∀ (X : World) (i : Nat) (u x : Value), X.cell? ⟨b, i, none⟩ = some x → (X.setCell ⟨b, i, none⟩ u).cell? ⟨b, i, none⟩ = some u := fun X i u x h => World.cell?_setCell_same _ _ _ h
  unfold setG4
  refine ⟨?_, ?_, ?_, ?_, ?_, ?_, fun j => ?_⟩
  · rw [o _ _ _ _ (by decide), o _ _ _ _ (by decide), o _ _ _ _ (by decide)]
    exact s _ _ _ _ h0
  · rw [o _ _ _ _ (by decide), o _ _ _ _ (by decide)]
    exact s _ _ _ _ (by rw [o _ _ _ _ (by decide)]; exact h1)
  · rw [o _ _ _ _ (by decide)]
    exact s _ _ _ _ (by rw [o _ _ _ _ (by decide), o _ _ _ _ (by decide)]; exact h2)
  · exact s _ _ _ _ (by rw [o _ _ _ _ (by decide), o _ _ _ _ (by decide), o _ _ _ _ (by decide)]; exact h3)
  · rw [o _ _ _ _ (by decide), o _ _ _ _ (by decide), o _ _ _ _ (by decide), o _ _ _ _ (by decide)]; exact h4
  · rw [o _ _ _ _ (by decide), o _ _ _ _ (by decide), o _ _ _ _ (by decide), o _ _ _ _ (by decide)]; exact h5
  · simp only [World.frozen?_setCell]; exact hf j
end

section
variable {w w' : World} {P P' T : Nat → Prop}
theorem Sn.keptP {A : Option Addr} {n : Nat} {l : List (Int × Int × Int × Int)} (h : Sn w w.heap.size A n l) (hK : Kept T w w') (hn : ∀ a, A = some a → ¬ T a.block) : Sn w' w'.heap.size A n l := by
  refine ⟨h.1, fun hn' => ?_⟩
  obtain ⟨b, off, e, hb, hc⟩ := h.2 hn'
  refine ⟨b, off, e, Nat.lt_of_lt_of_le hb hK.size, fun j y hj => ?_⟩
  obtain ⟨cs, h1, h2, h3⟩ := hc j y hj
  exact ⟨cs, h1, fun k hk => (hK.cell (a := ⟨b, off + j * 4 + k, none⟩) hb (show ¬ T b from hn ⟨b, off, none⟩ e)).trans (h2 k hk), h3⟩
theorem HIs.keptP {h : HeapV} {v : Value} (hv : HIs w P h v) (hK : Kept T w w') (hn : ∀ b, P b → ¬ T b) : HIs w' P h v := by
  obtain ⟨A, c, A2, c2, e, h1, h2, h3, h4, h5, h6, h7, h8, h9, h10, h11⟩ := hv
  exact ⟨A, c, A2, c2, e, h1, h2, h3, Sl.kept (B := 0) h4 hK fun a e => hn _ (h9 a e), h5, h6, h7, Sn.keptP h8 hK fun a e => hn _ (h10 a e), h9, h10, fun a ha => Nat.lt_of_lt_of_le (h11 a ha) hK.size⟩
theorem Cn.kept {A : Option Addr} {n : Nat} {ys : List CV} (h : Cn w P A n ys) (hK : Kept T w w') (hn : ∀ b, P b → ¬ T b) : Cn w' P A n ys := by
  refine ⟨⟨h.row.1, fun hn' => ?_⟩, fun y hy => ?_, h.inp, h.ok⟩
  · obtain ⟨b, off, e, hb, hc⟩ := h.row.2 hn'
    refine ⟨b, off, e, Nat.lt_of_lt_of_le hb hK.size, fun j y hj => ?_⟩
    obtain ⟨cs, h1, h2, h3⟩ := hc j y hj
    exact ⟨cs, h1, fun k hk => (hK.cell (a := ⟨b, off + j * 5 + k, none⟩) hb (show ¬ T b from hn b (h.inp _ e))).trans (h2 k hk), h3⟩
  · obtain ⟨h1, h2, h3, h4, h5, h6⟩ := h.lists y hy
    exact ⟨Sl.kept (B := 0) h1 hK fun a e => hn _ (h5 a e), h2, h3, h4, h5, h6⟩
theorem PoIs.kept {q : PoolV} {v : Value} (h : PoIs w P q v) (hK : Kept T w w') (hn : ∀ b, P b → ¬ T b) : PoIs w' P q v := by
  obtain ⟨A, n, c, A2, n2, c2, A3, n3, c3, ys, e, h1, h2, h3, h4, h5, h6⟩ := h
  exact ⟨A, n, c, A2, n2, c2, A3, n3, c3, ys, e, h1.keptP hK hn, h2.kept hK hn, h3, h4, fun a ha => Nat.lt_of_lt_of_le (h5 a ha) hK.size, fun y hy a ha => Nat.lt_of_lt_of_le (h6 y hy a ha) hK.size⟩
end

end Go.Proofs.YtcgfmpegakpddaaGreat
/- What the walks of layer 9's acts lean on: both sides behind an act. -/
namespace Go.Proofs.YtcgfmpegakpddaaGreat
open Go.RowKit Go.Maps
set_option linter.unusedVariables false

/-- The pool behind an act. -/
def qStep (v : PoolV) (a : Act9) : PoolV :=
  if a.kind = 0 then (pTake v a.order).1 else if a.kind = 1 then (pGive v a.at').1 else if a.kind = 2 then pSweep { v with held := a.on } else { v with heap := (hMake v.heap a.order (-1)).1 }
section
variable {v : PoolV}
theorem qStep_0 {a : Act9} (h : a.kind = 0) : qStep v a = (pTake v a.order).1 := by unfold qStep; rw [if_pos h]
theorem qStep_1 {a : Act9} (h : a.kind = 1) : qStep v a = (pGive v a.at').1 := by unfold qStep; rw [if_neg (by omega), if_pos h]
theorem qStep_2 {a : Act9} (h : a.kind = 2) : qStep v a = pSweep { v with held := a.on } := by unfold qStep; rw [if_neg (by omega), if_neg (by omega), if_pos h]
theorem qStep_3 {a : Act9} (h0 : a.kind ≠ 0) (h1 : a.kind ≠ 1) (h2 : a.kind ≠ 2) : qStep v a = { v with heap := (hMake v.heap a.order (-1)).1 } := by unfold qStep; rw [if_neg h0, if_neg h1, if_neg h2]
theorem Calm.step (k : Calm v) (o : POk v) (a : Act9) : Calm (qStep v a) := by
  unfold qStep
  split
  · exact k.take o _
  · split
    · exact k.give _
    · split
      · exact Calm.sweep _
      · exact k
end

/-- What an act answers, and both sides behind it. -/
def DoesTo9 (w W : World) (p hp : Nat) (S D : Nat → Prop) (q' : PoolV) (k : Nat) (pages : Int) (e : Ending) (WF : World) : Prop :=
  ∃ mv, e = .returned (.tuple #[.bool true, mv]) ∧ ∃ S' u, PoolSt w WF p hp S' u k pages ∧ u.plain = q' ∧ PoIs WF (fun b => ¬ S' b ∧ D b) q' mv ∧ SideP S W S' WF
/-- Both sides ahead of an act's answer: the document's pool lies in W2, the code's in w3; the call's own blocks are of T. -/
theorem does_end9 {w W W2 w3 W4 WF : World} {p hp : Nat} {S S' T D : Nat → Prop} {u : PoolW} {k' : Nat} {pages : Int} {mv : Value} {q' : PoolV}
    (hB2 : Below W.heap.size W W2) (hT : ∀ b, T b → W.heap.size ≤ b ∧ b < W2.heap.size) (hS : ∀ b, S b → b < W.heap.size) (hw : w.heap.size ≤ W.heap.size) (d : PoIs W2 (fun b => (¬ S b ∧ D b) ∧ ¬ T b) q' mv) (h0 : 0 < q'.heap.free.length)
    (s3 : PoolSt w w3 p hp S' u k' pages) (e : u.plain = q') (hs : SideP S W2 S' w3) (hb4 : Below w3.heap.size w3 W4) (hK : Kept T W4 WF) :
    DoesTo9 w W p hp S D q' k' pages (.returned (.tuple #[.bool true, mv])) WF := by
  have h2 := hB2.size
  have hn : ∀ b, S' b → ¬ T b := fun b c e => by
    have h3 := hT b e
    rcases hs.2 _ c with h | h
    · have := hS _ h; omega
    · omega
  have d3 := ((d.apart h0).kept hs.1 (fun b hb => hb.1.1.1)).below hb4 |>.kept hK (fun b hb => hb.1.2)
  refine ⟨_, rfl, S', u, ((s3.below hb4).kept hK hn (fun b e => by have := hT b e; omega)), e, d3.weaken (fun b hb => ⟨fun c => ?_, hb.1.1.2⟩), ⟨?_, fun b hb => ?_⟩⟩
  · rcases hs.2 b c with h | h
    · exact hb.1.1.1 h
    · have := hb.2; omega
  · refine (((Kept.of_below hB2 S).trans hs.1 (fun b _ h => h)).trans (Kept.of_below hb4 S) (fun b _ h => h)).trans hK (fun b hb e => ?_)
    have := hT b e
    omega
  · rcases hs.2 b hb with h | h
    · exact Or.inl h
    · exact Or.inr (by omega)
theorem SideP.f6 {S S' : Nat → Prop} {W W' : World} {b : Nat} {x0 x1 x2 x3 x4 x5 : Value} (h : SideP S W S' W') (f : F6 W b x0 x1 x2 x3 x4 x5) (hn : ¬ S b) : F6 W' b x0 x1 x2 x3 x4 x5 := f.kept h.1 hn
theorem SideP.g4 {S S' : Nat → Prop} {W W' : World} {b : Nat} {x0 x1 x2 x3 : Value} (h : SideP S W S' W') (f : G4 W b x0 x1 x2 x3) (hn : ¬ S b) : G4 W' b x0 x1 x2 x3 := f.kept h.1 hn

/-- An act's three blocks: the document's pool, the act, the result. -/
structure ActSt9 (w W W0 : World) (p hp : Nat) (S D : Nat → Prop) (v : PoolW) (k : Nat) (pages : Int) (a : Act9) (A : Option Addr) (n c : Nat) (A2 : Option Addr) (n2 c2 : Nat) (A3 : Option Addr) (n3 c3 : Nat) : Prop where
  st : PoolSt w W p hp S v k pages
  po : PoIs W0 (fun b => (¬ S b ∧ D b) ∧ ¬ (W.heap.size ≤ b ∧ b < W.heap.size + 3)) v.plain (pval v.h.pages A n c A2 n2 c2 v.h.last A3 n3 c3 v.held)
  m6 : F6 W0 W.heap.size (.int .i64 v.h.pages) (.slice A n c) (.slice A2 n2 c2) (.int .i64 v.h.last) (.slice A3 n3 c3) (.bool v.held)
  a4 : ∀ W', Below W0.heap.size W0 W' → W'.cell? ⟨W.heap.size + 1, 0, none⟩ = some (.int .i64 a.kind) ∧ W'.cell? ⟨W.heap.size + 1, 1, none⟩ = some (.int .i64 a.order) ∧ W'.cell? ⟨W.heap.size + 1, 2, none⟩ = some (.bool a.on) ∧ W'.cell? ⟨W.heap.size + 1, 3, none⟩ = some (.slice a.A a.len a.cap)
  r6 : F6 W0 (W.heap.size + 2) (.int .i64 0) (.slice none 0 0) (.slice none 0 0) (.int .i64 0) (.slice none 0 0) (.bool false)
  bel : Below W.heap.size W W0
  sz : W0.heap.size = W.heap.size + 3
theorem ActSt9.start {w W : World} {p hp : Nat} {S D : Nat → Prop} {v : PoolW} {k : Nat} {pages : Int} (s : PoolSt w W p hp S v k pages) (a : Act9) {A A2 A3 : Option Addr} {n c n2 c2 n3 c3 : Nat} (d : PoIs W (fun b => ¬ S b ∧ D b) v.plain (pval v.h.pages A n c A2 n2 c2 v.h.last A3 n3 c3 v.held)) (t1 t2 t3 : TypeId) :
    ActSt9 w W (((W.alloc (.cells #[.int .i64 v.h.pages, .slice A n c, .slice A2 n2 c2, .int .i64 v.h.last, .slice A3 n3 c3, .bool v.held] t1)).alloc (.cells #[.int .i64 a.kind, .int .i64 a.order, .bool a.on, .slice a.A a.len a.cap] t2)).alloc (.cells #[.int .i64 0, .slice none 0 0, .slice none 0 0, .int .i64 0, .slice none 0 0, .bool false] t3)) p hp S D v k pages a A n c A2 n2 c2 A3 n3 c3 := by
  have hB : Below W.heap.size W (((W.alloc (.cells #[.int .i64 v.h.pages, .slice A n c, .slice A2 n2 c2, .int .i64 v.h.last, .slice A3 n3 c3, .bool v.held] t1)).alloc (.cells #[.int .i64 a.kind, .int .i64 a.order, .bool a.on, .slice a.A a.len a.cap] t2)).alloc (.cells #[.int .i64 0, .slice none 0 0, .slice none 0 0, .int .i64 0, .slice none 0 0, .bool false] t3)) :=
    (((Below.refl _ _).alloc (Nat.le_refl _) _).alloc (by simp) _).alloc (by simp; omega) _
  have e3 := F6.made ((W.alloc (.cells #[.int .i64 v.h.pages, .slice A n c, .slice A2 n2 c2, .int .i64 v.h.last, .slice A3 n3 c3, .bool v.held] t1)).alloc (.cells #[.int .i64 a.kind, .int .i64 a.order, .bool a.on, .slice a.A a.len a.cap] t2)) (.int .i64 0) (.slice none 0 0) (.slice none 0 0) (.int .i64 0) (.slice none 0 0) (.bool false) t3
  simp only [World.size_alloc] at e3
  refine ⟨s, ((d.apart (by have := s.pok.hok.fl; omega)).weaken (fun b h => ⟨h.1, fun e => by have := h.2; omega⟩)).below hB, ((F6.made W _ _ _ _ _ _ _).al _).al _, fun W' hb => ?_, e3, hB, by simp⟩
  have q : ∀ j, W'.cell? ⟨W.heap.size + 1, j, none⟩ = _ := fun j => hb.cell (p := ⟨W.heap.size + 1, j, none⟩) (by simp)
  rw [q, q, q, q]
  simp [go_sem]

end Go.Proofs.YtcgfmpegakpddaaGreat
/- What an act of layer 9's does: Take, Give, Hold. -/
namespace Go.Proofs.YtcgfmpegakpddaaGreat
open Go.RowKit Go.Maps
set_option linter.unusedVariables false

/-- Take of the document's own pool, in all cases. -/
theorem ref_ptake (P : Nat → Prop) (q : PoolV) (v : Value) (order : Int) (w : World) (hP : ∀ b, w.heap.size ≤ b → P b) (o : POk q) (hv : PoIs w P q v) (ho : in64 order) (hn : q.l.length ≤ 60000) (hl : q.heap.l.length ≤ 60000) (hla0 : q.heap.last ≤ 1000000000) :
    Calls Tryz.prog 50 #[v, .int .i64 order] w fun e w' => ∃ v', e = .returned (.tuple #[v', .int .i64 (pTake q order).2.1, .int .i64 (pTake q order).2.2]) ∧ PoIs w' P (pTake q order).1 v' ∧ Below w.heap.size w w' := by
  by_cases c : order < 0 ∨ 3 < order
  · have e : pTake q order = (q, 0, 1) := by unfold pTake; rw [if_pos c]
    rw [e]
    exact ref_ptake_arg P q v order w hv ho c
  · cases hf : pFirst q.l order 0 true with
    | some i => exact ref_ptake_some P q v order i w hP o hv (by omega) (by omega) hf
    | none => exact ref_ptake_none P q v order w hP o hv (by omega) hn hl hla0 hf

set_option maxRecDepth 100000 in
set_option maxHeartbeats 4000000 in
theorem does_take9 {w W : World} {p hp : Nat} {S D : Nat → Prop} {v : PoolW} {k : Nat} {pages : Int} {mv : Value} (hD : ∀ b, W.heap.size ≤ b → D b) (s : PoolSt w W p hp S v k pages) (hk : k + 1 ≤ 60000) (d : PoIs W (fun b => ¬ S b ∧ D b) v.plain mv) (a : Act9) (ha : a.kind = 0) (hor : in64 a.order) :
    Calls Tryz.prog 13 #[.pointer (some ⟨hp, 0, none⟩), .pointer (some ⟨p, 0, none⟩), mv, .agg #[.int .i64 a.kind, .int .i64 a.order, .bool a.on, .slice a.A a.len a.cap]] W (DoesTo9 w W p hp S D (qStep v.plain a) (k + 1) pages) := by
  obtain ⟨A, m, c, A2, m2, c2, A3, m3, c3, hmv, d⟩ : ∃ A m c A2 m2 c2 A3 m3 c3, mv = pval v.h.pages A m c A2 m2 c2 v.h.last A3 m3 c3 v.held ∧ PoIs W (fun b => ¬ S b ∧ D b) v.plain mv := by
    obtain ⟨A, n, c, A2, n2, c2, A3, n3, c3, ys, e, _⟩ := id d
    exact ⟨A, n, c, A2, n2, c2, A3, n3, c3, e, d⟩
  subst hmv
  obtain ⟨W0, hW0⟩ : ∃ W0, W0 = (((W.alloc (.cells #[.int .i64 v.h.pages, .slice A m c, .slice A2 m2 c2, .int .i64 v.h.last, .slice A3 m3 c3, .bool v.held] 35)).alloc (.cells #[.int .i64 a.kind, .int .i64 a.order, .bool a.on, .slice a.A a.len a.cap] 40)).alloc (.cells #[.int .i64 0, .slice none 0 0, .slice none 0 0, .int .i64 0, .slice none 0 0, .bool false] 35)) := ⟨_, rfl⟩
  have HA := ActSt9.start s a d 35 40 35
  rw [← hW0] at HA
  rw [qStep_0 ha]
  obtain ⟨⟨q', at', no⟩, hT⟩ : ∃ r, pTake v.plain a.order = r := ⟨_, rfl⟩
  rw [hT]
  obtain ⟨pg, hpg⟩ : ∃ x, v.h.pages = x := ⟨_, rfl⟩
  obtain ⟨la, hla⟩ : ∃ x, v.h.last = x := ⟨_, rfl⟩
  obtain ⟨hd, hhd⟩ : ∃ x, v.held = x := ⟨_, rfl⟩
  obtain ⟨pg', hpg'⟩ : ∃ x, q'.heap.pages = x := ⟨_, rfl⟩
  obtain ⟨la', hla'⟩ : ∃ x, q'.heap.last = x := ⟨_, rfl⟩
  obtain ⟨hd', hhd'⟩ : ∃ x, q'.held = x := ⟨_, rfl⟩
  have hSlt := s.lt
  have CT : Hid (Calls Tryz.prog 50 #[.agg #[.int .i64 pg, .slice A m c, .slice A2 m2 c2, .int .i64 la, .slice A3 m3 c3, .bool hd], .int .i64 a.order] W0 fun e w1 => ∃ B j1 d1 B2 j2 d2 B3 j3 d3, e = .returned (.tuple #[.agg #[.int .i64 pg', .slice B j1 d1, .slice B2 j2 d2, .int .i64 la', .slice B3 j3 d3, .bool hd'], .int .i64 at', .int .i64 no]) ∧ Hid (PoIs w1 (fun b => (¬ S b ∧ D b) ∧ ¬ (W.heap.size ≤ b ∧ b < W.heap.size + 3)) q' (.agg #[.int .i64 pg', .slice B j1 d1, .slice B2 j2 d2, .int .i64 la', .slice B3 j3 d3, .bool hd'])) ∧ Hid (Below W0.heap.size W0 w1)) := hidb (by
    obtain ⟨f1, f2, f3⟩ := s.few (by omega)
    have := ref_ptake (fun b => (¬ S b ∧ D b) ∧ ¬ (W.heap.size ≤ b ∧ b < W.heap.size + 3)) v.plain _ a.order W0 (fun b hb => ⟨⟨fun c => by have := hSlt b c; have := HA.sz; omega, hD b (by have := HA.sz; omega)⟩, by have := HA.sz; omega⟩) s.pok HA.po hor f2 f1 f3
    unfold pval at this
    rw [hT, hpg, hla, hhd] at this
    refine this.mono ?_
    rintro e w1 ⟨v'', rfl, k1, hb⟩
    obtain ⟨B, j1, d1, B2, j2, d2, B3, j3, d3, ys, e, _⟩ := id k1
    unfold pval at e
    rw [hpg', hla', hhd'] at e
    subst e
    exact ⟨B, j1, d1, B2, j2, d2, B3, j3, d3, rfl, hidb k1, hidb hb⟩)
  have CK : Hid (∀ W2, Below W.heap.size W W2 → Calls Tryz.prog 44 #[.pointer (some ⟨p, 0, none⟩), .int .i64 a.order] W2 fun e w3 => e = .returned (.tuple #[.int .i64 at', .int .i64 no]) ∧ ∃ S' u, Hid (PoolSt w w3 p hp S' u (k + 1) pages ∧ u.plain = q' ∧ SideP S W2 S' w3)) := hidb (fun W2 hb => (k_ptake (s.below hb) (by omega) a.order hor q' at' no hT).mono fun e w3 ⟨x, S', u, y, y2, z⟩ => ⟨x, S', u, hidb ⟨y, y2, z⟩⟩)
  have HA0 := HA
  clear HA
  have HA := hidb HA0
  clear HA0
  have HS := hidb hSlt
  have hwW := s.bel.size
  have HW0 := hidb hW0
  obtain ⟨a0, a1, a2, a3⟩ := HA.out.a4 W0 (Below.refl _ _)
  obtain ⟨c0, c1, c2', c3', c4', c5', _⟩ := HA.out.m6
  rw [hpg] at c0
  rw [hla] at c3'
  rw [hhd] at c5'
  rw [hpg, hla, hhd] at HW0
  unfold pval
  rw [hpg, hla, hhd]
  rw [ha] at HW0 a0 ⊢
  have hz := HA.out.sz
  clear hW0 s hT hSlt d hpg hla hhd hpg' hla' hhd' hor hk
  go_enter Tryz.func13, Tryz.ntmps13
  go_wp2_with (first
    | (go_at_call 50; go_loud (rw [← HW0.out]); (with_reducible refine CT.out.mono ?_); rintro e w1 ⟨B, j1, d1, B2, j2, d2, B3, j3, d3, rfl, HK1, HB1⟩; obtain ⟨a0, a1, a2, a3⟩ := HA.out.a4 w1 HB1.out; have hw1 := HB1.out.size; have hlt1 : W.heap.size + 1 < w1.heap.size := (by omega); have hlt0 : W.heap.size < w1.heap.size := (by omega))
    | (go_at_call 44; (with_reducible refine (CK.out _ (by repeat (first | exact HA.out.bel.trans (HB1.out.mono HA.out.bel.size) | refine Below.alloc ?_ (by first | omega | (simp; done) | (simp; omega)) _))).mono ?_); rintro e w3 ⟨rfl, S3, u3, HS3⟩))
  have hnS : ∀ b, W.heap.size ≤ b → ¬ S b := fun b hb c => by have := HS.out b c; omega
  obtain ⟨W2, hW2⟩ : ∃ W2, W2 = w1.alloc (.cells #[.int .i64 pg', .slice B j1 d1, .slice B2 j2 d2, .int .i64 la', .slice B3 j3 d3, .bool hd'] 35) := ⟨_, rfl⟩
  rw [← hW2] at HS3
  have hb12 : Below w1.heap.size w1 W2 := by rw [hW2]; exact (Below.refl _ _).alloc (Nat.le_refl _) _
  have hz2 : W2.heap.size = w1.heap.size + 1 := by rw [hW2]; simp
  have hB2 : Below W.heap.size W W2 := (HA.out.bel.trans (HB1.out.mono HA.out.bel.size)).trans (hb12.mono (by omega))
  have hz3 := HS3.out.2.2.1.size
  have f10 : F6 w3 w1.heap.size (.int .i64 pg') (.slice B j1 d1) (.slice B2 j2 d2) (.int .i64 la') (.slice B3 j3 d3) (.bool hd') := HS3.out.2.2.f6 (by rw [hW2]; exact F6.made w1 _ _ _ _ _ _ _) (hnS _ (by omega))
  have f9 : F6 w3 (W.heap.size + 1 + 1) (.int .i64 0) (.slice none 0 0) (.slice none 0 0) (.int .i64 0) (.slice none 0 0) (.bool false) := HS3.out.2.2.f6 ((HA.out.r6.below HB1.out).below hb12) (hnS _ (by omega))
  have HE9 := hidb (f9.put (.int .i64 pg') (.slice B j1 d1) (.slice B2 j2 d2) (.int .i64 la') (.slice B3 j3 d3) (.bool hd'))
  have HEND : Hid (∀ WF, Kept (fun b => W.heap.size + 2 = b) w3 WF → DoesTo9 w W p hp S D q' (k + 1) pages (.returned (.tuple #[.bool true, .agg #[.int .i64 pg', .slice B j1 d1, .slice B2 j2 d2, .int .i64 la', .slice B3 j3 d3, .bool hd']])) WF) := hidb (fun WF hK =>
    does_end9 (T := fun b => W.heap.size ≤ b ∧ b < W.heap.size + 3) hB2 (fun b hb => by omega) HS.out hwW (HK1.out.below hb12) (by have := HS3.out.1.pok.hok.fl; rw [HS3.out.2.1] at this; omega) HS3.out.1 HS3.out.2.1 HS3.out.2.2 (Below.refl _ _) (⟨hK.os, hK.tape, hK.output, hK.size, fun b hb hn => hK.block b hb (fun e => hn (by omega))⟩))
  obtain ⟨x0, x1, x2, x3, x4, x5, _⟩ := f10
  obtain ⟨r0, r1, r2, r3, r4, r5, rf⟩ := f9
  have rf0 := rf 0
  have rf1 := rf 1
  have rf2 := rf 2
  have rf3 := rf 3
  have rf4 := rf 4
  have rf5 := rf 5
  have nn1 : ¬ W.heap.size + 1 + 1 = w1.heap.size := by omega
  have nn4 : ¬ W.heap.size + 1 = w1.heap.size := by omega
  have nn5 : ¬ w1.heap.size = W.heap.size + 1 + 1 := by omega
  have nn6 : ¬ w1.heap.size = W.heap.size + 1 := by omega
  clear hW2 hb12 hz2 hB2 hz3 rf CT CK HS3 HK1 HB1 a0 a1 a2 a3 c0 c1 c2' c3' c4' c5' hnS
  go_region_held3 (fun W' => W'.cell? ⟨w1.heap.size, 0, none⟩ = some (.int .i64 pg') ∧ W'.cell? ⟨w1.heap.size, 1, none⟩ = some (.slice B j1 d1) ∧ W'.cell? ⟨w1.heap.size, 2, none⟩ = some (.slice B2 j2 d2) ∧ W'.cell? ⟨w1.heap.size, 3, none⟩ = some (.int .i64 la') ∧ W'.cell? ⟨w1.heap.size, 4, none⟩ = some (.slice B3 j3 d3) ∧ W'.cell? ⟨w1.heap.size, 5, none⟩ = some (.bool hd')) (go_keep) (fail)
  go_wp2
  obtain ⟨b0, b1, b2, b3, b4, b5, _⟩ := HE9.out
  unfold set6 at b0 b1 b2 b3 b4 b5
  refine bodyPost_ret (v := .tuple #[.bool true, .agg #[.int .i64 pg', .slice B j1 d1, .slice B2 j2 d2, .int .i64 la', .slice B3 j3 d3, .bool hd']]) (by simp [results, Tryz.results13, go_sem, b0, b1, b2, b3, b4, b5]) rfl ?_
  exact HEND.out _ (Kept.drew (kept_set6 (Kept.refl _ _) (Or.inl rfl) _ _ _ _ _ _))

end Go.Proofs.YtcgfmpegakpddaaGreat
/- What an act of layer 9's does: Give, Hold, a span that the heap makes. -/
namespace Go.Proofs.YtcgfmpegakpddaaGreat
open Go.RowKit Go.Maps
set_option linter.unusedVariables false

set_option maxRecDepth 100000 in
set_option maxHeartbeats 4000000 in
theorem does_give9 {w W : World} {p hp : Nat} {S D : Nat → Prop} {v : PoolW} {k : Nat} {pages : Int} {mv : Value} (hD : ∀ b, W.heap.size ≤ b → D b) (s : PoolSt w W p hp S v k pages) (hc : Calm v.plain) (hk : k + 1 ≤ 60000) (d : PoIs W (fun b => ¬ S b ∧ D b) v.plain mv) (a : Act9) (ha : a.kind = 1) (hsw : Sl w w.heap.size a.A a.len (a.at'.map iv)) (hN : a.len ≤ 60000) (hid : ∀ i ∈ a.at', in64 i) :
    Calls Tryz.prog 13 #[.pointer (some ⟨hp, 0, none⟩), .pointer (some ⟨p, 0, none⟩), mv, .agg #[.int .i64 a.kind, .int .i64 a.order, .bool a.on, .slice a.A a.len a.cap]] W (DoesTo9 w W p hp S D (qStep v.plain a) (k + 1) pages) := by
  obtain ⟨A, m, c, A2, m2, c2, A3, m3, c3, hmv, d⟩ : ∃ A m c A2 m2 c2 A3 m3 c3, mv = pval v.h.pages A m c A2 m2 c2 v.h.last A3 m3 c3 v.held ∧ PoIs W (fun b => ¬ S b ∧ D b) v.plain mv := by
    obtain ⟨A, n, c, A2, n2, c2, A3, n3, c3, ys, e, _⟩ := id d
    exact ⟨A, n, c, A2, n2, c2, A3, n3, c3, e, d⟩
  subst hmv
  obtain ⟨W0, hW0⟩ : ∃ W0, W0 = (((W.alloc (.cells #[.int .i64 v.h.pages, .slice A m c, .slice A2 m2 c2, .int .i64 v.h.last, .slice A3 m3 c3, .bool v.held] 35)).alloc (.cells #[.int .i64 a.kind, .int .i64 a.order, .bool a.on, .slice a.A a.len a.cap] 40)).alloc (.cells #[.int .i64 0, .slice none 0 0, .slice none 0 0, .int .i64 0, .slice none 0 0, .bool false] 35)) := ⟨_, rfl⟩
  have HA0 := ActSt9.start s a d 35 40 35
  rw [← hW0] at HA0
  rw [qStep_1 ha]
  obtain ⟨⟨q', no⟩, hT⟩ : ∃ r, pGive v.plain a.at' = r := ⟨_, rfl⟩
  have hT2 : gGive v.plain a.at' = (q', no) := by rw [gGive_eq hc]; exact hT
  rw [hT]
  have hs : Sl W W.heap.size a.A a.len (a.at'.map iv) := (hsw.below s.bel).more s.bel.size
  have hAS : 0 < a.len → ∀ x, a.A = some x → ¬ S x.block := fun h0 x hx hS => by
    obtain ⟨b, off, e, hb, _⟩ := hsw.2 h0
    rw [hx] at e
    injection e with e
    have := s.low _ hS
    rw [e] at this
    exact absurd this (by show ¬ w.heap.size ≤ b; omega)
  obtain ⟨pg, hpg⟩ : ∃ x, v.h.pages = x := ⟨_, rfl⟩
  obtain ⟨la, hla⟩ : ∃ x, v.h.last = x := ⟨_, rfl⟩
  obtain ⟨hd, hhd⟩ : ∃ x, v.held = x := ⟨_, rfl⟩
  obtain ⟨pg', hpg'⟩ : ∃ x, q'.heap.pages = x := ⟨_, rfl⟩
  obtain ⟨la', hla'⟩ : ∃ x, q'.heap.last = x := ⟨_, rfl⟩
  obtain ⟨hd', hhd'⟩ : ∃ x, q'.held = x := ⟨_, rfl⟩
  have hSlt := s.lt
  have CT : Hid (Calls Tryz.prog 51 #[.agg #[.int .i64 pg, .slice A m c, .slice A2 m2 c2, .int .i64 la, .slice A3 m3 c3, .bool hd], .slice a.A a.len a.cap] W0 fun e w1 => ∃ B j1 d1 B2 j2 d2 B3 j3 d3, e = .returned (.tuple #[.agg #[.int .i64 pg', .slice B j1 d1, .slice B2 j2 d2, .int .i64 la', .slice B3 j3 d3, .bool hd'], .int .i64 no]) ∧ Hid (PoIs w1 (fun b => (¬ S b ∧ D b) ∧ ¬ (W.heap.size ≤ b ∧ b < W.heap.size + 3)) q' (.agg #[.int .i64 pg', .slice B j1 d1, .slice B2 j2 d2, .int .i64 la', .slice B3 j3 d3, .bool hd'])) ∧ Hid (Below W0.heap.size W0 w1)) := hidb (by
    obtain ⟨f1, f2, f3⟩ := s.few (by omega)
    have := ref_pgive (fun b => (¬ S b ∧ D b) ∧ ¬ (W.heap.size ≤ b ∧ b < W.heap.size + 3)) v.plain _ a.A a.len a.cap a.at' W0 (fun b hb => ⟨⟨fun c => by have := hSlt b c; have := HA0.sz; omega, hD b (by have := HA0.sz; omega)⟩, by have := HA0.sz; omega⟩) s.pok HA0.po f2 f1 f3 ((hs.below HA0.bel).more HA0.bel.size) hN hid
    unfold pval at this
    rw [hT, hpg, hla, hhd] at this
    refine this.mono ?_
    rintro e w1 ⟨v'', rfl, k1, hb⟩
    obtain ⟨B, j1, d1, B2, j2, d2, B3, j3, d3, ys, e, _⟩ := id k1
    unfold pval at e
    rw [hpg', hla', hhd'] at e
    subst e
    exact ⟨B, j1, d1, B2, j2, d2, B3, j3, d3, rfl, hidb k1, hidb hb⟩)
  have CK : Hid (∀ W2, Below W.heap.size W W2 → Calls Tryz.prog 52 #[.pointer (some ⟨p, 0, none⟩), .slice a.A a.len a.cap] W2 fun e w3 => e = .returned (.int .i64 no) ∧ ∃ S' u, Hid (PoolSt w w3 p hp S' u (k + 1) pages ∧ u.plain = q' ∧ SideP S W2 S' w3)) := hidb (fun W2 hb => (k_pgive (s.below hb) a.A a.len a.cap a.at' ((hs.below hb).more hb.size) hAS (by omega) hid q' no hT2).mono fun e w3 ⟨x, S', u, y, y2, z⟩ => ⟨x, S', u, hidb ⟨y.later (by omega), y2, z⟩⟩)
  have HA := hidb HA0
  have HS := hidb hSlt
  have hwW := s.bel.size
  have HW0 := hidb hW0
  obtain ⟨a0, a1, a2, a3⟩ := HA.out.a4 W0 (Below.refl _ _)
  obtain ⟨c0, c1, c2', c3', c4', c5', _⟩ := HA.out.m6
  rw [hpg] at c0
  rw [hla] at c3'
  rw [hhd] at c5'
  rw [hpg, hla, hhd] at HW0
  unfold pval
  rw [hpg, hla, hhd]
  rw [ha] at HW0 a0 ⊢
  have hz := HA.out.sz
  clear HA0 hW0 s hT hT2 hSlt d hpg hla hhd hpg' hla' hhd' hk hs hsw hN hid hAS hc
  --@1
  go_enter Tryz.func13, Tryz.ntmps13
  go_wp2_with (first
    | (go_at_call 51; go_loud (rw [← HW0.out]); (with_reducible refine CT.out.mono ?_); rintro e w1 ⟨B, j1, d1, B2, j2, d2, B3, j3, d3, rfl, HK1, HB1⟩; have hw1 := HB1.out.size; clear a0 a1 a2 a3 c0 c1 c2' c3' c4' c5'))
  have hnS : ∀ b, W.heap.size ≤ b → ¬ S b := fun b hb c => by have := HS.out b c; omega
  obtain ⟨W2, hW2⟩ : ∃ W2, W2 = w1.alloc (.cells #[.int .i64 pg', .slice B j1 d1, .slice B2 j2 d2, .int .i64 la', .slice B3 j3 d3, .bool hd'] 35) := ⟨_, rfl⟩
  rw [← hW2]
  have hb12 : Below w1.heap.size w1 W2 := by rw [hW2]; exact (Below.refl _ _).alloc (Nat.le_refl _) _
  have hz2 : W2.heap.size = w1.heap.size + 1 := by rw [hW2]; simp
  have hB2 : Below W.heap.size W W2.drew := ((HA.out.bel.trans (HB1.out.mono HA.out.bel.size)).trans (hb12.mono (by omega))).drew
  have g10 : F6 W2 w1.heap.size (.int .i64 pg') (.slice B j1 d1) (.slice B2 j2 d2) (.int .i64 la') (.slice B3 j3 d3) (.bool hd') := by rw [hW2]; exact F6.made w1 _ _ _ _ _ _ _
  have g9 : F6 W2 (W.heap.size + 1 + 1) (.int .i64 0) (.slice none 0 0) (.slice none 0 0) (.int .i64 0) (.slice none 0 0) (.bool false) := (HA.out.r6.below HB1.out).below hb12
  have hb02 : Below W0.heap.size W0 W2 := HB1.out.trans (hb12.mono hw1)
  have CK2 : Hid (Calls Tryz.prog 52 #[.pointer (some ⟨p, 0, none⟩), .slice a.A a.len a.cap] W2.drew fun e w3 => e = .returned (.int .i64 no) ∧ F6 w3 w1.heap.size (.int .i64 pg') (.slice B j1 d1) (.slice B2 j2 d2) (.int .i64 la') (.slice B3 j3 d3) (.bool hd') ∧ F6 w3 (W.heap.size + 1 + 1) (.int .i64 0) (.slice none 0 0) (.slice none 0 0) (.int .i64 0) (.slice none 0 0) (.bool false) ∧ w3.cell? ⟨W.heap.size + 1, 3, none⟩ = some (.slice a.A a.len a.cap) ∧
      Hid (∀ WF, Kept (fun b => W.heap.size + 2 = b) w3 WF → DoesTo9 w W p hp S D q' (k + 1) pages (.returned (.tuple #[.bool true, .agg #[.int .i64 pg', .slice B j1 d1, .slice B2 j2 d2, .int .i64 la', .slice B3 j3 d3, .bool hd']])) WF)) := hidb ((CK.out _ hB2).mono (by
    rintro e w3 ⟨rfl, S3, u3, HS3⟩
    have hz3 := HS3.out.2.2.1.size
    refine ⟨rfl, HS3.out.2.2.f6 (g10.below (Below.refl _ _).drew) (hnS _ (by omega)), HS3.out.2.2.f6 (g9.below (Below.refl _ _).drew) (hnS _ (by omega)), (World.cell?_of_block (w := W2.drew) (a := ⟨W.heap.size + 1, 3, none⟩) (HS3.out.2.2.1.block (W.heap.size + 1) (by show _ < W2.heap.size; omega) (hnS _ (by omega)))).trans (by have := HA.out.a4 W2 hb02; exact this.2.2.2), hidb (fun WF hK => ?_)⟩
    exact does_end9 (T := fun b => W.heap.size ≤ b ∧ b < W.heap.size + 3) hB2 (fun b hb => by show _ ∧ b < W2.heap.size; omega) HS.out hwW ((HK1.out.below hb12).below (Below.refl _ _).drew) (by have := HS3.out.1.pok.hok.fl; rw [HS3.out.2.1] at this; omega) HS3.out.1 HS3.out.2.1 HS3.out.2.2 (Below.refl _ _) (⟨hK.os, hK.tape, hK.output, hK.size, fun b hb hn => hK.block b hb (fun e => hn (by omega))⟩)))
  obtain ⟨a0, a1, a2, a3⟩ := HA.out.a4 W2 hb02
  obtain ⟨x0, x1, x2, x3, x4, x5, _⟩ := g10
  obtain ⟨r0, r1, r2, r3, r4, r5, rf⟩ := g9
  have rf0 := rf 0
  have rf1 := rf 1
  have rf2 := rf 2
  have rf3 := rf 3
  have rf4 := rf 4
  have rf5 := rf 5
  have nn1 : ¬ W.heap.size + 1 + 1 = w1.heap.size := by omega
  have nn4 : ¬ W.heap.size + 1 = w1.heap.size := by omega
  have nn5 : ¬ w1.heap.size = W.heap.size + 1 + 1 := by omega
  have nn6 : ¬ w1.heap.size = W.heap.size + 1 := by omega
  clear hW2 hb12 hz2 hB2 rf CT CK HK1 HB1 hnS hb02
  go_region_held3 (fun W' => W'.cell? ⟨w1.heap.size, 0, none⟩ = some (.int .i64 pg') ∧ W'.cell? ⟨w1.heap.size, 1, none⟩ = some (.slice B j1 d1) ∧ W'.cell? ⟨w1.heap.size, 2, none⟩ = some (.slice B2 j2 d2) ∧ W'.cell? ⟨w1.heap.size, 3, none⟩ = some (.int .i64 la') ∧ W'.cell? ⟨w1.heap.size, 4, none⟩ = some (.slice B3 j3 d3) ∧ W'.cell? ⟨w1.heap.size, 5, none⟩ = some (.bool hd') ∧ W'.cell? ⟨W.heap.size + 1, 3, none⟩ = some (.slice a.A a.len a.cap)) (go_keep)
    (first | (go_at_call 52; (with_reducible refine CK2.out.mono ?_); rintro e w3 ⟨rfl, ⟨y0, y1, y2, y3, y4, y5, _⟩, t9, y7, HEND⟩; have HE9 := hidb (t9.put (.int .i64 pg') (.slice B j1 d1) (.slice B2 j2 d2) (.int .i64 la') (.slice B3 j3 d3) (.bool hd')); obtain ⟨u0, u1, u2, u3, u4, u5, uf⟩ := t9; have uf0 := uf 0; have uf1 := uf 1; have uf2 := uf 2; have uf3 := uf 3; have uf4 := uf 4; have uf5 := uf 5; clear uf))
  go_wp2
  obtain ⟨b0, b1, b2, b3, b4, b5, _⟩ := HE9.out
  unfold set6 at b0 b1 b2 b3 b4 b5
  refine bodyPost_ret (v := .tuple #[.bool true, .agg #[.int .i64 pg', .slice B j1 d1, .slice B2 j2 d2, .int .i64 la', .slice B3 j3 d3, .bool hd']]) (by simp [results, Tryz.results13, go_sem, b0, b1, b2, b3, b4, b5]) rfl ?_
  first
    | exact HEND.out _ (kept_set6 (Kept.refl _ _) (Or.inl rfl) _ _ _ _ _ _)
    | exact HEND.out _ (Kept.drew (kept_set6 (Kept.refl _ _) (Or.inl rfl) _ _ _ _ _ _))

set_option maxRecDepth 100000 in
set_option maxHeartbeats 4000000 in
theorem does_hold9 {w W : World} {p hp : Nat} {S D : Nat → Prop} {v : PoolW} {k : Nat} {pages : Int} {mv : Value} (hD : ∀ b, W.heap.size ≤ b → D b) (s : PoolSt w W p hp S v k pages) (hk : k + 1 ≤ 60000) (d : PoIs W (fun b => ¬ S b ∧ D b) v.plain mv) (a : Act9) (ha : a.kind = 2) :
    Calls Tryz.prog 13 #[.pointer (some ⟨hp, 0, none⟩), .pointer (some ⟨p, 0, none⟩), mv, .agg #[.int .i64 a.kind, .int .i64 a.order, .bool a.on, .slice a.A a.len a.cap]] W (DoesTo9 w W p hp S D (qStep v.plain a) (k + 1) pages) := by
  obtain ⟨A, m, c, A2, m2, c2, A3, m3, c3, hmv, d⟩ : ∃ A m c A2 m2 c2 A3 m3 c3, mv = pval v.h.pages A m c A2 m2 c2 v.h.last A3 m3 c3 v.held ∧ PoIs W (fun b => ¬ S b ∧ D b) v.plain mv := by
    obtain ⟨A, n, c, A2, n2, c2, A3, n3, c3, ys, e, _⟩ := id d
    exact ⟨A, n, c, A2, n2, c2, A3, n3, c3, e, d⟩
  subst hmv
  obtain ⟨W0, hW0⟩ : ∃ W0, W0 = (((W.alloc (.cells #[.int .i64 v.h.pages, .slice A m c, .slice A2 m2 c2, .int .i64 v.h.last, .slice A3 m3 c3, .bool v.held] 35)).alloc (.cells #[.int .i64 a.kind, .int .i64 a.order, .bool a.on, .slice a.A a.len a.cap] 40)).alloc (.cells #[.int .i64 0, .slice none 0 0, .slice none 0 0, .int .i64 0, .slice none 0 0, .bool false] 35)) := ⟨_, rfl⟩
  have HA0 := ActSt9.start s a d 35 40 35
  rw [← hW0] at HA0
  rw [qStep_2 ha]
  obtain ⟨q', hT⟩ : ∃ r, pSweep { v.plain with held := a.on } = r := ⟨_, rfl⟩
  rw [hT]
  obtain ⟨pg, hpg⟩ : ∃ x, v.h.pages = x := ⟨_, rfl⟩
  obtain ⟨la, hla⟩ : ∃ x, v.h.last = x := ⟨_, rfl⟩
  obtain ⟨hd, hhd⟩ : ∃ x, v.held = x := ⟨_, rfl⟩
  obtain ⟨pg', hpg'⟩ : ∃ x, q'.heap.pages = x := ⟨_, rfl⟩
  obtain ⟨la', hla'⟩ : ∃ x, q'.heap.last = x := ⟨_, rfl⟩
  obtain ⟨hd', hhd'⟩ : ∃ x, q'.held = x := ⟨_, rfl⟩
  have hSlt := s.lt
  have CT : Hid (Calls Tryz.prog 53 #[.agg #[.int .i64 pg, .slice A m c, .slice A2 m2 c2, .int .i64 la, .slice A3 m3 c3, .bool hd], .bool a.on] W0 fun e w1 => ∃ B j1 d1 B2 j2 d2 B3 j3 d3, e = .returned (.tuple #[.agg #[.int .i64 pg', .slice B j1 d1, .slice B2 j2 d2, .int .i64 la', .slice B3 j3 d3, .bool hd'], .bool hd]) ∧ Hid (PoIs w1 (fun b => (¬ S b ∧ D b) ∧ ¬ (W.heap.size ≤ b ∧ b < W.heap.size + 3)) q' (.agg #[.int .i64 pg', .slice B j1 d1, .slice B2 j2 d2, .int .i64 la', .slice B3 j3 d3, .bool hd'])) ∧ Hid (Below W0.heap.size W0 w1)) := hidb (by
    obtain ⟨f1, f2, f3⟩ := s.few (by omega)
    have := ref_phold (fun b => (¬ S b ∧ D b) ∧ ¬ (W.heap.size ≤ b ∧ b < W.heap.size + 3)) v.plain _ a.on W0 (fun b hb => ⟨⟨fun c => by have := hSlt b c; have := HA0.sz; omega, hD b (by have := HA0.sz; omega)⟩, by have := HA0.sz; omega⟩) s.pok HA0.po (by omega) (by omega) f3
    unfold pval at this
    rw [hT, hpg, hla, show v.plain.held = hd from hhd, hhd] at this
    refine this.mono ?_
    rintro e w1 ⟨v'', rfl, k1, hb⟩
    obtain ⟨B, j1, d1, B2, j2, d2, B3, j3, d3, ys, e, _⟩ := id k1
    unfold pval at e
    rw [hpg', hla', hhd'] at e
    subst e
    exact ⟨B, j1, d1, B2, j2, d2, B3, j3, d3, rfl, hidb k1, hidb hb⟩)
  have CK : Hid (∀ W2, Below W.heap.size W W2 → Calls Tryz.prog 54 #[.pointer (some ⟨p, 0, none⟩), .bool a.on] W2 fun e w3 => e = .returned (.bool hd) ∧ ∃ S' u, Hid (PoolSt w w3 p hp S' u (k + 1) pages ∧ u.plain = q' ∧ SideP S W2 S' w3)) := hidb (fun W2 hb => (k_phold (s.below hb) a.on q' hd hT hhd).mono fun e w3 ⟨x, S', u, y, y2, z⟩ => ⟨x, S', u, hidb ⟨y.later (by omega), y2, z⟩⟩)
  have HA := hidb HA0
  have HS := hidb hSlt
  have hwW := s.bel.size
  have HW0 := hidb hW0
  obtain ⟨a0, a1, a2, a3⟩ := HA.out.a4 W0 (Below.refl _ _)
  obtain ⟨c0, c1, c2', c3', c4', c5', _⟩ := HA.out.m6
  rw [hpg] at c0
  rw [hla] at c3'
  rw [hhd] at c5'
  rw [hpg, hla, hhd] at HW0
  unfold pval
  rw [hpg, hla, hhd]
  rw [ha] at HW0 a0 ⊢
  have hz := HA.out.sz
  clear HA0 hW0 s hT hSlt d hpg hla hhd hpg' hla' hhd' hk
  --@2
  go_enter Tryz.func13, Tryz.ntmps13
  go_wp2_with (first
    | (go_at_call 53; go_loud (rw [← HW0.out]); (with_reducible refine CT.out.mono ?_); rintro e w1 ⟨B, j1, d1, B2, j2, d2, B3, j3, d3, rfl, HK1, HB1⟩; have hw1 := HB1.out.size; clear a0 a1 a2 a3 c0 c1 c2' c3' c4' c5'))
  have hnS : ∀ b, W.heap.size ≤ b → ¬ S b := fun b hb c => by have := HS.out b c; omega
  obtain ⟨W2, hW2⟩ : ∃ W2, W2 = w1.alloc (.cells #[.int .i64 pg', .slice B j1 d1, .slice B2 j2 d2, .int .i64 la', .slice B3 j3 d3, .bool hd'] 35) := ⟨_, rfl⟩
  rw [← hW2]
  have hb12 : Below w1.heap.size w1 W2 := by rw [hW2]; exact (Below.refl _ _).alloc (Nat.le_refl _) _
  have hz2 : W2.heap.size = w1.heap.size + 1 := by rw [hW2]; simp
  have hB2 : Below W.heap.size W W2.drew := ((HA.out.bel.trans (HB1.out.mono HA.out.bel.size)).trans (hb12.mono (by omega))).drew
  have g10 : F6 W2 w1.heap.size (.int .i64 pg') (.slice B j1 d1) (.slice B2 j2 d2) (.int .i64 la') (.slice B3 j3 d3) (.bool hd') := by rw [hW2]; exact F6.made w1 _ _ _ _ _ _ _
  have g9 : F6 W2 (W.heap.size + 1 + 1) (.int .i64 0) (.slice none 0 0) (.slice none 0 0) (.int .i64 0) (.slice none 0 0) (.bool false) := (HA.out.r6.below HB1.out).below hb12
  have hb02 : Below W0.heap.size W0 W2 := HB1.out.trans (hb12.mono hw1)
  have CK2 : Hid (Calls Tryz.prog 54 #[.pointer (some ⟨p, 0, none⟩), .bool a.on] W2.drew fun e w3 => e = .returned (.bool hd) ∧ F6 w3 w1.heap.size (.int .i64 pg') (.slice B j1 d1) (.slice B2 j2 d2) (.int .i64 la') (.slice B3 j3 d3) (.bool hd') ∧ F6 w3 (W.heap.size + 1 + 1) (.int .i64 0) (.slice none 0 0) (.slice none 0 0) (.int .i64 0) (.slice none 0 0) (.bool false) ∧ w3.cell? ⟨W.heap.size + 1, 2, none⟩ = some (.bool a.on) ∧
      Hid (∀ WF, Kept (fun b => W.heap.size + 2 = b) w3 WF → DoesTo9 w W p hp S D q' (k + 1) pages (.returned (.tuple #[.bool true, .agg #[.int .i64 pg', .slice B j1 d1, .slice B2 j2 d2, .int .i64 la', .slice B3 j3 d3, .bool hd']])) WF)) := hidb ((CK.out _ hB2).mono (by
    rintro e w3 ⟨rfl, S3, u3, HS3⟩
    have hz3 := HS3.out.2.2.1.size
    refine ⟨rfl, HS3.out.2.2.f6 (g10.below (Below.refl _ _).drew) (hnS _ (by omega)), HS3.out.2.2.f6 (g9.below (Below.refl _ _).drew) (hnS _ (by omega)), (World.cell?_of_block (w := W2.drew) (a := ⟨W.heap.size + 1, 2, none⟩) (HS3.out.2.2.1.block (W.heap.size + 1) (by show _ < W2.heap.size; omega) (hnS _ (by omega)))).trans (by have := HA.out.a4 W2 hb02; exact this.2.2.1), hidb (fun WF hK => ?_)⟩
    exact does_end9 (T := fun b => W.heap.size ≤ b ∧ b < W.heap.size + 3) hB2 (fun b hb => by show _ ∧ b < W2.heap.size; omega) HS.out hwW ((HK1.out.below hb12).below (Below.refl _ _).drew) (by have := HS3.out.1.pok.hok.fl; rw [HS3.out.2.1] at this; omega) HS3.out.1 HS3.out.2.1 HS3.out.2.2 (Below.refl _ _) (⟨hK.os, hK.tape, hK.output, hK.size, fun b hb hn => hK.block b hb (fun e => hn (by omega))⟩)))
  obtain ⟨a0, a1, a2, a3⟩ := HA.out.a4 W2 hb02
  obtain ⟨x0, x1, x2, x3, x4, x5, _⟩ := g10
  obtain ⟨r0, r1, r2, r3, r4, r5, rf⟩ := g9
  have rf0 := rf 0
  have rf1 := rf 1
  have rf2 := rf 2
  have rf3 := rf 3
  have rf4 := rf 4
  have rf5 := rf 5
  have nn1 : ¬ W.heap.size + 1 + 1 = w1.heap.size := by omega
  have nn4 : ¬ W.heap.size + 1 = w1.heap.size := by omega
  have nn5 : ¬ w1.heap.size = W.heap.size + 1 + 1 := by omega
  have nn6 : ¬ w1.heap.size = W.heap.size + 1 := by omega
  clear hW2 hb12 hz2 hB2 rf CT CK HK1 HB1 hnS hb02
  go_region_held3 (fun W' => W'.cell? ⟨w1.heap.size, 0, none⟩ = some (.int .i64 pg') ∧ W'.cell? ⟨w1.heap.size, 1, none⟩ = some (.slice B j1 d1) ∧ W'.cell? ⟨w1.heap.size, 2, none⟩ = some (.slice B2 j2 d2) ∧ W'.cell? ⟨w1.heap.size, 3, none⟩ = some (.int .i64 la') ∧ W'.cell? ⟨w1.heap.size, 4, none⟩ = some (.slice B3 j3 d3) ∧ W'.cell? ⟨w1.heap.size, 5, none⟩ = some (.bool hd') ∧ W'.cell? ⟨W.heap.size + 1, 2, none⟩ = some (.bool a.on)) (go_keep)
    (first | (go_at_call 54; (with_reducible refine CK2.out.mono ?_); rintro e w3 ⟨rfl, ⟨y0, y1, y2, y3, y4, y5, _⟩, t9, y7, HEND⟩; have HE9 := hidb (t9.put (.int .i64 pg') (.slice B j1 d1) (.slice B2 j2 d2) (.int .i64 la') (.slice B3 j3 d3) (.bool hd')); obtain ⟨u0, u1, u2, u3, u4, u5, uf⟩ := t9; have uf0 := uf 0; have uf1 := uf 1; have uf2 := uf 2; have uf3 := uf 3; have uf4 := uf 4; have uf5 := uf 5; clear uf))
  go_wp2
  obtain ⟨b0, b1, b2, b3, b4, b5, _⟩ := HE9.out
  unfold set6 at b0 b1 b2 b3 b4 b5
  refine bodyPost_ret (v := .tuple #[.bool true, .agg #[.int .i64 pg', .slice B j1 d1, .slice B2 j2 d2, .int .i64 la', .slice B3 j3 d3, .bool hd']]) (by simp [results, Tryz.results13, go_sem, b0, b1, b2, b3, b4, b5]) rfl ?_
  first
    | exact HEND.out _ (kept_set6 (Kept.refl _ _) (Or.inl rfl) _ _ _ _ _ _)
    | exact HEND.out _ (Kept.drew (kept_set6 (Kept.refl _ _) (Or.inl rfl) _ _ _ _ _ _))

end Go.Proofs.YtcgfmpegakpddaaGreat
/- What an act of layer 9's does: a span that the heap makes. -/
namespace Go.Proofs.YtcgfmpegakpddaaGreat
open Go.RowKit Go.Maps
set_option linter.unusedVariables false

theorem kept_alP {T : Nat → Prop} {w W : World} (h : Kept T w W) (o : Obj) : Kept T w (W.alloc o) :=
  h.trans (S' := fun _ => False) (Kept.of_below ((Below.refl _ W).alloc (Nat.le_refl _) o) _) (fun _ _ => False.elim)
theorem F6.asideG {W : World} {b b' : Nat} {x0 x1 x2 x3 x4 x5 : Value} (h : F6 W b x0 x1 x2 x3 x4 x5) (hne : b' ≠ b) (u0 u1 u2 u3 : Value) : F6 (setG4 W b' u0 u1 u2 u3) b x0 x1 x2 x3 x4 x5 :=
  h.kept (kept_setG4 (Kept.refl (fun x => x = b') W) (Or.inl rfl) u0 u1 u2 u3) fun e => hne e.symm
theorem G4.asideG {W : World} {b b' : Nat} {x0 x1 x2 x3 : Value} (h : G4 W b x0 x1 x2 x3) (hne : b' ≠ b) (u0 u1 u2 u3 : Value) : G4 (setG4 W b' u0 u1 u2 u3) b x0 x1 x2 x3 :=
  h.kept (kept_setG4 (Kept.refl (fun x => x = b') W) (Or.inl rfl) u0 u1 u2 u3) fun e => hne e.symm

set_option maxRecDepth 100000 in
set_option maxHeartbeats 4000000 in
theorem does_make9 {w W : World} {p hp : Nat} {S D : Nat → Prop} {v : PoolW} {k : Nat} {pages : Int} {mv : Value} (hD : ∀ b, W.heap.size ≤ b → D b) (s : PoolSt w W p hp S v k pages) (hk : k + 1 ≤ 60000) (d : PoIs W (fun b => ¬ S b ∧ D b) v.plain mv) (a : Act9) (ha0 : a.kind ≠ 0) (ha1 : a.kind ≠ 1) (ha2 : a.kind ≠ 2) (hn : in64 a.order) :
    Calls Tryz.prog 13 #[.pointer (some ⟨hp, 0, none⟩), .pointer (some ⟨p, 0, none⟩), mv, .agg #[.int .i64 a.kind, .int .i64 a.order, .bool a.on, .slice a.A a.len a.cap]] W (DoesTo9 w W p hp S D (qStep v.plain a) (k + 1) pages) := by
  obtain ⟨A, m, c, A2, m2, c2, A3, m3, c3, hmv, d⟩ : ∃ A m c A2 m2 c2 A3 m3 c3, mv = pval v.h.pages A m c A2 m2 c2 v.h.last A3 m3 c3 v.held ∧ PoIs W (fun b => ¬ S b ∧ D b) v.plain mv := by
    obtain ⟨A, n, c, A2, n2, c2, A3, n3, c3, ys, e, _⟩ := id d
    exact ⟨A, n, c, A2, n2, c2, A3, n3, c3, e, d⟩
  subst hmv
  obtain ⟨W0, hW0⟩ : ∃ W0, W0 = (((W.alloc (.cells #[.int .i64 v.h.pages, .slice A m c, .slice A2 m2 c2, .int .i64 v.h.last, .slice A3 m3 c3, .bool v.held] 35)).alloc (.cells #[.int .i64 a.kind, .int .i64 a.order, .bool a.on, .slice a.A a.len a.cap] 40)).alloc (.cells #[.int .i64 0, .slice none 0 0, .slice none 0 0, .int .i64 0, .slice none 0 0, .bool false] 35)) := ⟨_, rfl⟩
  have HA := ActSt9.start s a d 35 40 35
  rw [← hW0] at HA
  rw [qStep_3 ha0 ha1 ha2]
  obtain ⟨⟨g, ⟨s1, s2, s3, s4⟩, no⟩, hT⟩ : ∃ r, hMake v.plain.heap a.order (-1) = r := ⟨_, rfl⟩
  rw [hT]
  obtain ⟨T, hTd⟩ : ∃ T : Nat → Prop, T = fun b => W.heap.size ≤ b ∧ b < W.heap.size + 3 := ⟨_, rfl⟩
  have hpo : PoIs W0 (fun b => (¬ S b ∧ D b) ∧ ¬ T b) v.plain (pval v.h.pages A m c A2 m2 c2 v.h.last A3 m3 c3 v.held) := by rw [hTd]; exact HA.po
  obtain ⟨pg, hpg⟩ : ∃ x, v.h.pages = x := ⟨_, rfl⟩
  obtain ⟨la, hla⟩ : ∃ x, v.h.last = x := ⟨_, rfl⟩
  obtain ⟨hd, hhd⟩ : ∃ x, v.held = x := ⟨_, rfl⟩
  obtain ⟨pg', hpg'⟩ : ∃ x, g.pages = x := ⟨_, rfl⟩
  obtain ⟨la', hla'⟩ : ∃ x, g.last = x := ⟨_, rfl⟩
  have hSlt := s.lt
  have CT : Hid (Calls Tryz.prog 55 #[.agg #[.int .i64 pg, .slice A m c, .slice A2 m2 c2, .int .i64 la], .int .i64 a.order, .int .i64 (-1)] W0 fun e w1 => ∃ B j1 d1 B2 j2 d2, e = .returned (.tuple #[.agg #[.int .i64 pg', .slice B j1 d1, .slice B2 j2 d2, .int .i64 la'], .agg #[.int .i64 s1, .int .i64 s2, .int .i64 s3, .int .i64 s4], .int .i64 no]) ∧ Hid (PoIs w1 (fun b => (¬ S b ∧ D b) ∧ ¬ T b) ⟨g, v.plain.l, v.plain.held⟩ (.agg #[.int .i64 pg', .slice B j1 d1, .slice B2 j2 d2, .int .i64 la', .slice A3 m3 c3, .bool hd])) ∧ Hid (Below W0.heap.size W0 w1)) := hidb (by
    obtain ⟨f1, f2, f3⟩ := s.few (by omega)
    obtain ⟨A', n', c', A2', n2', c2', A3', n3', c3', ys, e, hi, q2, q3, q4, q5, q6⟩ := id hpo
    unfold pval at e
    simp only [Value.agg.injEq, Array.mk.injEq, List.cons.injEq, Value.slice.injEq, and_true] at e
    obtain ⟨_, ⟨rfl, rfl, rfl⟩, ⟨rfl, rfl, rfl⟩, _, ⟨rfl, rfl, rfl⟩, _⟩ := e
    have hfl : v.plain.heap.free.length = 1024 := s.pok.hok.fl
    have hll : v.plain.heap.last ≤ 1000000000 := f3
    have := ref_hmake (fun b => (¬ S b ∧ D b) ∧ ¬ T b) v.plain.heap _ a.order (-1) W0 (fun b hb => ⟨⟨fun c => by have := hSlt b c; have := HA.sz; omega, hD b (by have := HA.sz; omega)⟩, fun e => by rw [hTd] at e; have := HA.sz; omega⟩) hi hn ⟨by omega, by omega⟩ hfl (by omega) ⟨s.pok.hok.la, by omega⟩
    unfold hval at this
    rw [hT, show v.plain.heap.pages = pg from hpg, show v.plain.heap.last = la from hla] at this
    refine this.mono ?_
    rintro e w1 ⟨⟨v'', rfl, hv'⟩, hb⟩
    obtain ⟨B, d1, B2, d2, ev, hrest⟩ := hv'
    have hbz := hb.size
    refine ⟨B, g.free.length, d1, B2, g.l.length, d2, ?_, hidb ⟨B, g.free.length, d1, B2, g.l.length, d2, A3, m3, c3, ys, ?_, ⟨B, d1, B2, d2, rfl, hrest⟩, q2.below hb, q3, q4, fun x hx => Nat.lt_of_lt_of_le (q5 x hx) hbz, fun y hy x hx => Nat.lt_of_lt_of_le (q6 y hy x hx) hbz⟩, hidb hb⟩
    · rw [ev, ← hpg', ← hla']; rfl
    · unfold pval; rw [← hpg', ← hla', ← hhd]; rfl)
  have CK : Hid (∀ W2, Below W.heap.size W W2 → Calls Tryz.prog 56 #[.pointer (some ⟨hp, 0, none⟩), .int .i64 a.order, .int .i64 (-1)] W2 fun e w3 => e = .returned (.tuple #[.agg #[.int .i64 s1, .int .i64 s2, .int .i64 s3, .int .i64 s4], .int .i64 no]) ∧ ∃ S' u, Hid (PoolSt w w3 p hp S' u (k + 1) pages ∧ u.plain = ⟨g, v.plain.l, v.plain.held⟩ ∧ SideP S W2 S' w3)) := hidb (fun W2 hb => (k_pmake (s.below hb) (by omega) a.order (-1) hn ⟨by omega, by omega⟩ g s1 s2 s3 s4 no hT).mono fun e w3 ⟨x, S', u, y, y2, z⟩ => ⟨x, S', u, hidb ⟨y, y2, z⟩⟩)
  have HA0 := HA
  clear HA
  have HA := hidb HA0
  clear HA0
  have HS := hidb hSlt
  have hwW := s.bel.size
  have HW0 := hidb hW0
  have HE := hidb (hhd : v.held = hd)
  obtain ⟨a0, a1, a2, a3⟩ := HA.out.a4 W0 (Below.refl _ _)
  obtain ⟨c0, c1, c2', c3', c4', c5', _⟩ := HA.out.m6
  rw [hpg] at c0
  rw [hla] at c3'
  rw [hhd] at c5'
  rw [hpg, hla, hhd] at HW0
  have HPL := hidb (⟨hpg, hla⟩ : v.h.pages = pg ∧ v.h.last = la)
  unfold pval
  rw [hpg, hla, hhd]
  have hz := HA.out.sz
  have q1 := eql_span s1 s2 s3 s4 s1 s2 s3 s4
  simp only [decide_true] at q1
  have hd0 : decide (a.kind = 0) = false := decide_eq_false ha0
  have hd1 : decide (a.kind = 1) = false := decide_eq_false ha1
  have hd2 : decide (a.kind = 2) = false := decide_eq_false ha2
  clear hW0 s hT hSlt d hpg hla hhd hpg' hla' hn hk hpo
  go_enter Tryz.func13, Tryz.ntmps13
  go_wp2_with (first
    | (go_at_call 55; go_loud (rw [← HW0.out]); (with_reducible refine CT.out.mono ?_); rintro e w1 ⟨B, j1, d1, B2, j2, d2, rfl, HK1, HB1⟩; obtain ⟨a0, a1, a2, a3⟩ := HA.out.a4 w1 HB1.out; have hw1 := HB1.out.size; have hlt1 : W.heap.size + 1 < w1.heap.size := (by omega); have hlt0 : W.heap.size < w1.heap.size := (by omega))
    | (go_at_call 56; (with_reducible refine (CK.out _ (by repeat (first | exact HA.out.bel.trans (HB1.out.mono HA.out.bel.size) | refine Below.alloc ?_ (by first | omega | (simp; done) | (simp; omega)) _))).mono ?_); rintro e w3 ⟨rfl, S3, u3, HS3⟩; obtain ⟨W2, hW2⟩ : ∃ W2, W2 = (w1.alloc (.cells #[.int .i64 pg', .slice B j1 d1, .slice B2 j2 d2, .int .i64 la'] 32)).alloc (.cells #[.int .i64 s1, .int .i64 s2, .int .i64 s3, .int .i64 s4] 49) := ⟨_, rfl⟩; rw [← hW2] at HS3; have hz2 : W2.heap.size = w1.heap.size + 2 := (by rw [hW2]; simp); have hb12 : Below w1.heap.size w1 W2 := (by rw [hW2]; exact ((Below.refl _ _).alloc (Nat.le_refl _) _).alloc (by simp) _); have hnS : ∀ b, W.heap.size ≤ b → ¬ S b := (fun b hb c => by have := HS.out b c; omega);
        have h3m := HS3.out.2.2.f6 ((HA.out.m6.below HB1.out).below hb12) (hnS _ (Nat.le_refl _)); have h3h := HS3.out.2.2.g4 (b := w1.heap.size) (by rw [hW2]; exact (G4.made w1 _ _ _ _ _).al _) (hnS _ (by omega)); obtain ⟨m0, m1, m2', m3', m4', m5, mf⟩ := h3m; obtain ⟨k0, k1, k2, k3, _⟩ := h3h; have mf0 := mf 0; have mf1 := mf 1; have mf2 := mf 2; have mf3 := mf 3; have hz3 := HS3.out.2.2.1.size; have hlt3 : W.heap.size < w3.heap.size := (by omega); have hlt4 : w1.heap.size < w3.heap.size := (by omega); clear mf))
  have hB2 : Below W.heap.size W W2 := (HA.out.bel.trans (HB1.out.mono HA.out.bel.size)).trans (hb12.mono (by omega))
  obtain ⟨W4, hW4⟩ : ∃ W4, W4 = (setG4 w3 W.heap.size (.int .i64 pg') (.slice B j1 d1) (.slice B2 j2 d2) (.int .i64 la')).alloc (.cells #[.int .i64 s1, .int .i64 s2, .int .i64 s3, .int .i64 s4] 49) := ⟨_, rfl⟩
  have hW5 := hW4
  unfold setG4 at hW5
  rw [← hW5]
  clear hW5
  have hs5 : (setG4 w3 W.heap.size (.int .i64 pg') (.slice B j1 d1) (.slice B2 j2 d2) (.int .i64 la')).heap.size = w3.heap.size := by unfold setG4; simp
  have f10 : F6 W4 W.heap.size (.int .i64 pg') (.slice B j1 d1) (.slice B2 j2 d2) (.int .i64 la') (.slice A3 m3 c3) (.bool hd) := by
    have := (((HS3.out.2.2.f6 ((HA.out.m6.below HB1.out).below hb12) (hnS _ (Nat.le_refl _))).setG4_ (.int .i64 pg') (.slice B j1 d1) (.slice B2 j2 d2) (.int .i64 la')).al (.cells #[.int .i64 s1, .int .i64 s2, .int .i64 s3, .int .i64 s4] 49))
    rw [HE.out, ← hW4] at this
    exact this
  have f11 : G4 W4 (w1.heap.size + 1) (.int .i64 s1) (.int .i64 s2) (.int .i64 s3) (.int .i64 s4) := by
    have h1 := G4.made (w1.alloc (.cells #[.int .i64 pg', .slice B j1 d1, .slice B2 j2 d2, .int .i64 la'] 32)) (.int .i64 s1) (.int .i64 s2) (.int .i64 s3) (.int .i64 s4) 49
    rw [World.size_alloc, ← hW2] at h1
    have := ((HS3.out.2.2.g4 h1 (hnS _ (by omega))).asideG (b' := W.heap.size) (by omega) (.int .i64 pg') (.slice B j1 d1) (.slice B2 j2 d2) (.int .i64 la')).al (.cells #[.int .i64 s1, .int .i64 s2, .int .i64 s3, .int .i64 s4] 49)
    rw [← hW4] at this
    exact this
  have f13 : G4 W4 w3.heap.size (.int .i64 s1) (.int .i64 s2) (.int .i64 s3) (.int .i64 s4) := by
    have := G4.made (setG4 w3 W.heap.size (.int .i64 pg') (.slice B j1 d1) (.slice B2 j2 d2) (.int .i64 la')) (.int .i64 s1) (.int .i64 s2) (.int .i64 s3) (.int .i64 s4) 49
    rw [hs5, ← hW4] at this
    exact this
  have f9 : F6 W4 (W.heap.size + 1 + 1) (.int .i64 0) (.slice none 0 0) (.slice none 0 0) (.int .i64 0) (.slice none 0 0) (.bool false) := by
    have := ((HS3.out.2.2.f6 ((HA.out.r6.below HB1.out).below hb12) (hnS _ (by omega))).asideG (b' := W.heap.size) (by omega) (.int .i64 pg') (.slice B j1 d1) (.slice B2 j2 d2) (.int .i64 la')).al (.cells #[.int .i64 s1, .int .i64 s2, .int .i64 s3, .int .i64 s4] 49)
    rw [← hW4] at this
    exact this
  have HE9 := hidb (f9.put (.int .i64 pg') (.slice B j1 d1) (.slice B2 j2 d2) (.int .i64 la') (.slice A3 m3 c3) (.bool hd))
  have HEND : Hid (DoesTo9 w W p hp S D ⟨g, v.plain.l, v.plain.held⟩ (k + 1) pages (.returned (.tuple #[.bool true, .agg #[.int .i64 pg', .slice B j1 d1, .slice B2 j2 d2, .int .i64 la', .slice A3 m3 c3, .bool hd]])) (set6 W4 (W.heap.size + 1 + 1) (.int .i64 pg') (.slice B j1 d1) (.slice B2 j2 d2) (.int .i64 la') (.slice A3 m3 c3) (.bool hd)).drew) := hidb (by
    have hK : Kept T w3 (set6 W4 (W.heap.size + 1 + 1) (.int .i64 pg') (.slice B j1 d1) (.slice B2 j2 d2) (.int .i64 la') (.slice A3 m3 c3) (.bool hd)).drew := by
      rw [hW4]
      exact Kept.drew (kept_set6 (kept_alP (kept_setG4 (Kept.refl _ _) (Or.inl (by rw [hTd]; exact ⟨by omega, by omega⟩)) _ _ _ _) _) (Or.inl (by rw [hTd]; exact ⟨by omega, by omega⟩)) _ _ _ _ _ _)
    exact does_end9 (T := T) hB2 (fun b hb => by rw [hTd] at hb; omega) HS.out hwW (HK1.out.below hb12) (by have := HS3.out.1.pok.hok.fl; rw [HS3.out.2.1] at this; omega) HS3.out.1 HS3.out.2.1 HS3.out.2.2 (Below.refl _ _) hK)
  obtain ⟨x0, x1, x2, x3, x4, x5, _⟩ := f10
  obtain ⟨y0, y1, y2, y3, _⟩ := f11
  obtain ⟨z0, z1, z2, z3, _⟩ := f13
  obtain ⟨r0, r1, r2, r3, r4, r5, rf⟩ := f9
  have rf0 := rf 0
  have rf1 := rf 1
  have rf2 := rf 2
  have rf3 := rf 3
  have rf4 := rf 4
  have rf5 := rf 5
  have nn1 : ¬ W.heap.size + 1 + 1 = w1.heap.size := by omega
  have nn2 : ¬ W.heap.size + 1 + 1 = w1.heap.size + 1 := by omega
  have nn3 : ¬ W.heap.size + 1 + 1 = w3.heap.size := by omega
  have nn4 : ¬ W.heap.size + 1 = w1.heap.size := by omega
  have nn5 : ¬ w1.heap.size = W.heap.size + 1 + 1 := by omega
  have nn6 : ¬ w1.heap.size = W.heap.size + 1 := by omega
  have nn8 : ¬ W.heap.size + 1 + 1 = W.heap.size := by omega
  have nn9 : ¬ W.heap.size = W.heap.size + 1 + 1 := by omega
  have nn7 : ¬ w3.heap.size = W.heap.size + 1 + 1 := by omega
  clear hW2 hW4 hb12 hz2 hB2 hz3 hs5 rf CT CK HS3 HK1 HB1 a0 a1 a2 a3 c0 c1 c2' c3' c4' c5' hnS m0 m1 m2' m3' m4' m5 k0 k1 k2 k3 mf0 mf1 mf2 mf3 hd0 hd1 hd2
  go_region_held3 (fun W' => W'.cell? ⟨W.heap.size, 0, none⟩ = some (.int .i64 pg') ∧ W'.cell? ⟨W.heap.size, 1, none⟩ = some (.slice B j1 d1) ∧ W'.cell? ⟨W.heap.size, 2, none⟩ = some (.slice B2 j2 d2) ∧ W'.cell? ⟨W.heap.size, 3, none⟩ = some (.int .i64 la') ∧ W'.cell? ⟨W.heap.size, 4, none⟩ = some (.slice A3 m3 c3) ∧ W'.cell? ⟨W.heap.size, 5, none⟩ = some (.bool hd) ∧ W'.cell? ⟨(w1.heap.size + 1), 0, none⟩ = some (.int .i64 s1) ∧ W'.cell? ⟨(w1.heap.size + 1), 1, none⟩ = some (.int .i64 s2) ∧ W'.cell? ⟨(w1.heap.size + 1), 2, none⟩ = some (.int .i64 s3) ∧ W'.cell? ⟨(w1.heap.size + 1), 3, none⟩ = some (.int .i64 s4) ∧ W'.cell? ⟨w3.heap.size, 0, none⟩ = some (.int .i64 s1) ∧ W'.cell? ⟨w3.heap.size, 1, none⟩ = some (.int .i64 s2) ∧ W'.cell? ⟨w3.heap.size, 2, none⟩ = some (.int .i64 s3) ∧ W'.cell? ⟨w3.heap.size, 3, none⟩ = some (.int .i64 s4)) (go_keep) (fail)
  go_wp2
  obtain ⟨b0, b1, b2, b3, b4, b5, _⟩ := HE9.out
  unfold set6 at b0 b1 b2 b3 b4 b5
  refine bodyPost_ret (v := .tuple #[.bool true, .agg #[.int .i64 pg', .slice B j1 d1, .slice B2 j2 d2, .int .i64 la', .slice A3 m3 c3, .bool hd]]) (by simp [results, Tryz.results13, go_sem, b0, b1, b2, b3, b4, b5]) rfl ?_
  exact HEND.out

end Go.Proofs.YtcgfmpegakpddaaGreat

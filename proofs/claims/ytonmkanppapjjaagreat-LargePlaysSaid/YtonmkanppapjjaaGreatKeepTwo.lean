/- What a call leaves that answers a new keeper of the document's own (and a span): the blocks that hold the answer, laid ahead of the call or behind it. -/
import Derived.Test.YtonmkanppapjjaaGreatKeepVal
namespace Go.Proofs.YtonmkanppapjjaaGreat
open Go.RowKit
set_option linter.unusedVariables false

/-- A block's four cells, none frozen. -/
def F4 (W : World) (b : Nat) (u0 u1 u2 u3 : Value) : Prop :=
  W.cell? ⟨b, 0, none⟩ = some u0 ∧ W.cell? ⟨b, 1, none⟩ = some u1 ∧ W.cell? ⟨b, 2, none⟩ = some u2 ∧ W.cell? ⟨b, 3, none⟩ = some u3 ∧ ∀ j, W.frozen? ⟨b, j, none⟩ = false
def set4 (W : World) (b : Nat) (u0 u1 u2 u3 : Value) : World := (((W.setCell ⟨b, 0, none⟩ u0).setCell ⟨b, 1, none⟩ u1).setCell ⟨b, 2, none⟩ u2).setCell ⟨b, 3, none⟩ u3
theorem kept_put4 {T : Nat → Prop} {w W : World} (h : Kept T w W) {b : Nat} (hb : T b ∨ w.heap.size ≤ b) (u0 u1 u2 u3 : Value) : Kept T w (set4 W b u0 u1 u2 u3) :=
  (((h.set (a := ⟨b, 0, none⟩) hb u0).set (a := ⟨b, 1, none⟩) hb u1).set (a := ⟨b, 2, none⟩) hb u2).set (a := ⟨b, 3, none⟩) hb u3
theorem kept_al {T : Nat → Prop} {w W : World} (h : Kept T w W) (o : Obj) : Kept T w (W.alloc o) :=
  h.trans (S' := fun _ => False) (Kept.of_below ((Below.refl _ W).alloc (Nat.le_refl _) o) _) (fun _ _ => False.elim)
section
variable {W W' : World} {b b' : Nat} {x0 x1 x2 x3 x4 x5 x6 : Value}
theorem F4.lt (h : F4 W b x0 x1 x2 x3) : b < W.heap.size := lt_of_cell h.1
theorem F4.same (h : F4 W b x0 x1 x2 x3) (hb : W'.heap[b]? = W.heap[b]?) : F4 W' b x0 x1 x2 x3 := by
  obtain ⟨h0, h1, h2, h3, hf⟩ := h
  have q : ∀ j, W'.cell? ⟨b, j, none⟩ = W.cell? ⟨b, j, none⟩ := fun j => World.cell?_of_block (w := W) (a := ⟨b, j, none⟩) hb
  exact ⟨(q 0).trans h0, (q 1).trans h1, (q 2).trans h2, (q 3).trans h3, fun j => (World.frozen?_of_block (w := W) (a := ⟨b, j, none⟩) hb).trans (hf j)⟩
theorem F4.kept {T : Nat → Prop} (h : F4 W b x0 x1 x2 x3) (hK : Kept T W W') (hn : ¬ T b) : F4 W' b x0 x1 x2 x3 := h.same (hK.block b h.lt hn)
theorem F4.below (h : F4 W b x0 x1 x2 x3) (hb : Below W.heap.size W W') : F4 W' b x0 x1 x2 x3 := h.same (hb.block b h.lt)
theorem F4.made (W : World) (u0 u1 u2 u3 : Value) (t : TypeId) : F4 (W.alloc (.cells #[u0, u1, u2, u3] t)) W.heap.size u0 u1 u2 u3 :=
  ⟨World.cell?_alloc_at _ _ _ 0 (by simp), World.cell?_alloc_at _ _ _ 1 (by simp), World.cell?_alloc_at _ _ _ 2 (by simp), World.cell?_alloc_at _ _ _ 3 (by simp), fun j => frozen_new _ _ _ j⟩
theorem F4.put (h : F4 W b x0 x1 x2 x3) (u0 u1 u2 u3 : Value) : F4 (set4 W b u0 u1 u2 u3) b u0 u1 u2 u3 := by
  obtain ⟨h0, h1, h2, h3, hf⟩ := h
  obtain ⟨c0, c1, c2, c3⟩ := four_cells W b u0 u1 u2 u3 _ _ _ _ h0 h1 h2 h3
  exact ⟨c0, c1, c2, c3, fun j => by unfold set4; simp only [World.frozen?_setCell]; exact hf j⟩
theorem F4.aside4 (h : F4 W b x0 x1 x2 x3) (hne : b' ≠ b) (u0 u1 u2 u3 : Value) : F4 (set4 W b' u0 u1 u2 u3) b x0 x1 x2 x3 :=
  h.kept (kept_put4 (Kept.refl (fun x => x = b') W) (Or.inl rfl) u0 u1 u2 u3) fun e => hne e.symm
theorem F4.aside7 (h : F4 W b x0 x1 x2 x3) (hne : b' ≠ b) (u0 u1 u2 u3 u4 u5 u6 : Value) : F4 (set7 W b' u0 u1 u2 u3 u4 u5 u6) b x0 x1 x2 x3 :=
  h.kept (kept_set7 (Kept.refl (fun x => x = b') W) (Or.inl rfl) u0 u1 u2 u3 u4 u5 u6) fun e => hne e.symm
theorem F7.aside4 (h : F7 W b x0 x1 x2 x3 x4 x5 x6) (hne : b' ≠ b) (u0 u1 u2 u3 : Value) : F7 (set4 W b' u0 u1 u2 u3) b x0 x1 x2 x3 x4 x5 x6 :=
  h.kept (kept_put4 (Kept.refl (fun x => x = b') W) (Or.inl rfl) u0 u1 u2 u3) fun e => hne e.symm
theorem F7.aside7 (h : F7 W b x0 x1 x2 x3 x4 x5 x6) (hne : b' ≠ b) (u0 u1 u2 u3 u4 u5 u6 : Value) : F7 (set7 W b' u0 u1 u2 u3 u4 u5 u6) b x0 x1 x2 x3 x4 x5 x6 :=
  h.kept (kept_set7 (Kept.refl (fun x => x = b') W) (Or.inl rfl) u0 u1 u2 u3 u4 u5 u6) fun e => hne e.symm
theorem F4.al (h : F4 W b x0 x1 x2 x3) (o : Obj) : F4 (W.alloc o) b x0 x1 x2 x3 := h.below ((Below.refl _ _).alloc (Nat.le_refl _) o)
theorem F7.al (h : F7 W b x0 x1 x2 x3 x4 x5 x6) (o : Obj) : F7 (W.alloc o) b x0 x1 x2 x3 x4 x5 x6 := h.below ((Below.refl _ _).alloc (Nat.le_refl _) o)
end
/-- A call's blocks: old ones of this kind, or those that came since. -/
def OldD (a x : Nat) (D : Nat → Prop) (b : Nat) : Prop := (b < a ∧ D b) ∨ x ≤ b
/-- An answer's rows: the blocks written meanwhile are none of theirs. -/
theorem KoIs.fin {w5 WF : World} {a x : Nat} {D : Nat → Prop} {q : LargeV} {v : Value} (k : KoIs w5 (OldD a x D) q v) (h0 : 0 < q.h.free.length) (hK : Kept (fun b => a ≤ b ∧ b < x) w5 WF) : KoIs WF (fun b => OldD a x D b ∧ b < w5.heap.size) q v := by
  refine (k.apart h0).kept hK fun b hb hc => ?_
  rcases hb.1 with h | h <;> omega
theorem Ko.open_ {w W0 : World} {P : Nat → Prop} {q : LargeV} {A A2 A3 A4 : Option Addr} {n c n2 c2 n3 c3 n4 c4 : Nat} (k : Ko w P q A n c A2 n2 c2 A3 n3 c3 A4 n4 c4) (h0 : 0 < q.h.free.length) (hb : Below w.heap.size w W0) : Ko W0 (OldD w.heap.size W0.heap.size P) q A n c A2 n2 c2 A3 n3 c3 A4 n4 c4 :=
  ((k.apart h0).weaken fun b h => Or.inl ⟨h.2, h.1⟩).below hb
/-- The end of a call: what it wrote are its own blocks. -/
theorem KoIs.close {w W0 w5 WF : World} {P : Nat → Prop} {q : LargeV} {v : Value} (hP : ∀ b, w.heap.size ≤ b → P b) (h5 : Below w.heap.size w w5) (hz : w.heap.size ≤ W0.heap.size) (k : KoIs w5 (OldD w.heap.size W0.heap.size P) q v) (h0 : 0 < q.h.free.length) (hK : Kept (fun b => w.heap.size ≤ b ∧ b < W0.heap.size) w5 WF) : KoIs WF P q v ∧ Below w.heap.size w WF :=
  ⟨(k.fin h0 hK).weaken fun b hb => by
    rcases hb.1 with h | h
    · exact h.2
    · exact hP b (by omega), h5.trans (hK.below h5.size fun b hb => hb.1)⟩
section
variable {W : World} {b : Nat} {x0 x1 x2 x3 x4 x5 x6 : Value}
theorem F7.other (h : F7 W b x0 x1 x2 x3 x4 x5 x6) {b' : Nat} (hne : b' ≠ b) (j : Nat) (u : Value) : F7 (W.setCell ⟨b', j, none⟩ u) b x0 x1 x2 x3 x4 x5 x6 :=
  h.kept ((Kept.refl (fun x => x = b') W).set (a := ⟨b', j, none⟩) (Or.inl rfl) u) fun e => hne e.symm
theorem F4.other (h : F4 W b x0 x1 x2 x3) {b' : Nat} (hne : b' ≠ b) (j : Nat) (u : Value) : F4 (W.setCell ⟨b', j, none⟩ u) b x0 x1 x2 x3 :=
  h.kept ((Kept.refl (fun x => x = b') W).set (a := ⟨b', j, none⟩) (Or.inl rfl) u) fun e => hne e.symm
/-- One of its cells is written. -/
theorem F7.set_ (h : F7 W b x0 x1 x2 x3 x4 x5 x6) (u : Value) : F7 (W.setCell ⟨b, 4, none⟩ u) b x0 x1 x2 x3 u x5 x6 ∧ F7 (W.setCell ⟨b, 5, none⟩ u) b x0 x1 x2 x3 x4 u x6 ∧ F7 (W.setCell ⟨b, 6, none⟩ u) b x0 x1 x2 x3 x4 x5 u := by
  obtain ⟨h0, h1, h2, h3, h4, h5, h6, hf⟩ := h
  have o : ∀ (i j : Nat), i ≠ j → (W.setCell ⟨b, i, none⟩ u).cell? ⟨b, j, none⟩ = W.cell? ⟨b, j, none⟩ := fun i j hij => World.cell?_setCell_other W _ _ _ (fun e => hij (by injection e))
  have f : ∀ i j, (W.setCell ⟨b, i, none⟩ u).frozen? ⟨b, j, none⟩ = false := fun i j => (World.frozen?_setCell _ _ _ _).trans (hf j)
  exact ⟨⟨(o _ _ (by decide)).trans h0, (o _ _ (by decide)).trans h1, (o _ _ (by decide)).trans h2, (o _ _ (by decide)).trans h3, World.cell?_setCell_same _ _ _ h4, (o _ _ (by decide)).trans h5, (o _ _ (by decide)).trans h6, f _⟩,
    ⟨(o _ _ (by decide)).trans h0, (o _ _ (by decide)).trans h1, (o _ _ (by decide)).trans h2, (o _ _ (by decide)).trans h3, (o _ _ (by decide)).trans h4, World.cell?_setCell_same _ _ _ h5, (o _ _ (by decide)).trans h6, f _⟩,
    ⟨(o _ _ (by decide)).trans h0, (o _ _ (by decide)).trans h1, (o _ _ (by decide)).trans h2, (o _ _ (by decide)).trans h3, (o _ _ (by decide)).trans h4, (o _ _ (by decide)).trans h5, World.cell?_setCell_same _ _ _ h6, f _⟩⟩
/-- Its first four cells are written. -/
theorem F7.set4_ (h : F7 W b x0 x1 x2 x3 x4 x5 x6) (u0 u1 u2 u3 : Value) : F7 (set4 W b u0 u1 u2 u3) b u0 u1 u2 u3 x4 x5 x6 := by
  obtain ⟨h0, h1, h2, h3, h4, h5, h6, hf⟩ := h
  obtain ⟨c0, c1, c2, c3⟩ := four_cells W b u0 u1 u2 u3 _ _ _ _ h0 h1 h2 h3
  have o : ∀ (X : World) (i j : Nat) (u : Value), i ≠ j → (X.setCell ⟨b, i, none⟩ u).cell? ⟨b, j, none⟩ = X.cell? ⟨b, j, none⟩ := fun X i j u hij => World.cell?_setCell_other X _ _ _ (fun e => hij (by injection e))
  refine ⟨c0, c1, c2, c3, ?_, ?_, ?_, fun j => ?_⟩
  · unfold set4; rw [o _ _ _ _ (by decide), o _ _ _ _ (by decide), o _ _ _ _ (by decide), o _ _ _ _ (by decide)]; exact h4
  · unfold set4; rw [o _ _ _ _ (by decide), o _ _ _ _ (by decide), o _ _ _ _ (by decide), o _ _ _ _ (by decide)]; exact h5
  · unfold set4; rw [o _ _ _ _ (by decide), o _ _ _ _ (by decide), o _ _ _ _ (by decide), o _ _ _ _ (by decide)]; exact h6
  · unfold set4; simp only [World.frozen?_setCell]; exact hf j
end
/-- The blocks that Take lays ahead. -/
theorem took_made (w : World) (u0 u1 u2 u3 u4 u5 u6 : Value) (z0 z1 z2 z3 z4 z5 z6 y0 y1 y2 y3 : Value) (t t1 t2 : TypeId) :
    F7 (((w.alloc (.cells #[u0, u1, u2, u3, u4, u5, u6] t)).alloc (.cells #[z0, z1, z2, z3, z4, z5, z6] t1)).alloc (.cells #[y0, y1, y2, y3] t2)) w.heap.size u0 u1 u2 u3 u4 u5 u6 ∧
    F7 (((w.alloc (.cells #[u0, u1, u2, u3, u4, u5, u6] t)).alloc (.cells #[z0, z1, z2, z3, z4, z5, z6] t1)).alloc (.cells #[y0, y1, y2, y3] t2)) (w.heap.size + 1) z0 z1 z2 z3 z4 z5 z6 ∧
    F4 (((w.alloc (.cells #[u0, u1, u2, u3, u4, u5, u6] t)).alloc (.cells #[z0, z1, z2, z3, z4, z5, z6] t1)).alloc (.cells #[y0, y1, y2, y3] t2)) (w.heap.size + 1 + 1) y0 y1 y2 y3 ∧
    Below w.heap.size w (((w.alloc (.cells #[u0, u1, u2, u3, u4, u5, u6] t)).alloc (.cells #[z0, z1, z2, z3, z4, z5, z6] t1)).alloc (.cells #[y0, y1, y2, y3] t2)) ∧
    (((w.alloc (.cells #[u0, u1, u2, u3, u4, u5, u6] t)).alloc (.cells #[z0, z1, z2, z3, z4, z5, z6] t1)).alloc (.cells #[y0, y1, y2, y3] t2)).heap.size = w.heap.size + 3 := by
  have e1 := F7.made (w.alloc (.cells #[u0, u1, u2, u3, u4, u5, u6] t)) z0 z1 z2 z3 z4 z5 z6 t1
  have e2 := F4.made ((w.alloc (.cells #[u0, u1, u2, u3, u4, u5, u6] t)).alloc (.cells #[z0, z1, z2, z3, z4, z5, z6] t1)) y0 y1 y2 y3 t2
  simp only [World.size_alloc] at e1 e2
  exact ⟨((F7.made w _ _ _ _ _ _ _ _).al _).al _, e1.al _, e2, (((Below.refl _ _).alloc (Nat.le_refl _) _).alloc (by simp) _).alloc (by simp; omega) _, by simp⟩
/-- The blocks that a call lays ahead that answers a keeper. -/
theorem held_made (w : World) (u0 u1 u2 u3 u4 u5 u6 : Value) (z0 z1 z2 z3 z4 z5 z6 : Value) (t t1 : TypeId) :
    F7 ((w.alloc (.cells #[u0, u1, u2, u3, u4, u5, u6] t)).alloc (.cells #[z0, z1, z2, z3, z4, z5, z6] t1)) w.heap.size u0 u1 u2 u3 u4 u5 u6 ∧
    F7 ((w.alloc (.cells #[u0, u1, u2, u3, u4, u5, u6] t)).alloc (.cells #[z0, z1, z2, z3, z4, z5, z6] t1)) (w.heap.size + 1) z0 z1 z2 z3 z4 z5 z6 ∧
    Below w.heap.size w ((w.alloc (.cells #[u0, u1, u2, u3, u4, u5, u6] t)).alloc (.cells #[z0, z1, z2, z3, z4, z5, z6] t1)) ∧
    ((w.alloc (.cells #[u0, u1, u2, u3, u4, u5, u6] t)).alloc (.cells #[z0, z1, z2, z3, z4, z5, z6] t1)).heap.size = w.heap.size + 2 := by
  have e1 := F7.made (w.alloc (.cells #[u0, u1, u2, u3, u4, u5, u6] t)) z0 z1 z2 z3 z4 z5 z6 t1
  simp only [World.size_alloc] at e1
  exact ⟨(F7.made w _ _ _ _ _ _ _ _).al _, e1, ((Below.refl _ _).alloc (Nat.le_refl _) _).alloc (by simp) _, by simp⟩

end Go.Proofs.YtonmkanppapjjaaGreat

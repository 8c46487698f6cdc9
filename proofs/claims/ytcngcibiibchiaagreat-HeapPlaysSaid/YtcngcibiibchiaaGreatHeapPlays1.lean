/- The orders in which the law of layer 7's acts may lay the two blocks that a ref call's answer goes to: each leaves both sides as they are to be. -/
import Derived.Test.YtcngcibiibchiaaGreatHeapPlays0
namespace Go.Proofs.YtcngcibiibchiaaGreat
open Go.RowKit
set_option linter.unusedVariables false

/-- A block's four cells, none frozen. -/
def F4 (W : World) (r : Nat) (a b c d : Value) : Prop :=
  W.cell? ⟨r, 0, none⟩ = some a ∧ W.cell? ⟨r, 1, none⟩ = some b ∧ W.cell? ⟨r, 2, none⟩ = some c ∧ W.cell? ⟨r, 3, none⟩ = some d ∧ ∀ j, W.frozen? ⟨r, j, none⟩ = false
/-- Four cells are written. -/
def set4 (W : World) (r : Nat) (u0 u1 u2 u3 : Value) : World := (((W.setCell ⟨r, 0, none⟩ u0).setCell ⟨r, 1, none⟩ u1).setCell ⟨r, 2, none⟩ u2).setCell ⟨r, 3, none⟩ u3
section
variable {W : World} {r r2 : Nat} {a b c d u0 u1 u2 u3 : Value} {S : Nat → Prop}
theorem F4.alloc (h : F4 W r a b c d) (o : Obj) : F4 (W.alloc o) r a b c d := by
  obtain ⟨h0, h1, h2, h3, hf⟩ := h
  have hb : (W.alloc o).heap[r]? = W.heap[r]? := Below.heap_alloc _ _ _ (lt_of_cell h0)
  exact ⟨(World.cell?_of_block (w := W) (a := ⟨r, 0, none⟩) hb).trans h0, (World.cell?_of_block (w := W) (a := ⟨r, 1, none⟩) hb).trans h1, (World.cell?_of_block (w := W) (a := ⟨r, 2, none⟩) hb).trans h2, (World.cell?_of_block (w := W) (a := ⟨r, 3, none⟩) hb).trans h3, fun j => (World.frozen?_of_block (w := W) (a := ⟨r, j, none⟩) hb).trans (hf j)⟩
theorem F4.made (W : World) (a b c d : Value) (t : TypeId) : F4 (W.alloc (.cells #[a, b, c, d] t)) W.heap.size a b c d :=
  ⟨by rw [World.cell?_alloc_at _ _ _ _ rfl]; rfl, by rw [World.cell?_alloc_at _ _ _ _ rfl]; rfl, by rw [World.cell?_alloc_at _ _ _ _ rfl]; rfl, by rw [World.cell?_alloc_at _ _ _ _ rfl]; rfl, fun j => by rw [World.frozen?_alloc_at _ _ _ _ rfl]⟩
theorem F4.aside (h : F4 W r a b c d) (hne : r2 ≠ r) (u0 u1 u2 u3 : Value) : F4 (set4 W r2 u0 u1 u2 u3) r a b c d := by
  obtain ⟨h0, h1, h2, h3, hf⟩ := h
  have o : ∀ (X : World) (i j : Nat) (v : Value), (X.setCell ⟨r2, i, none⟩ v).cell? ⟨r, j, none⟩ = X.cell? ⟨r, j, none⟩ := fun X i j v => World.cell?_setCell_other X _ _ _ (fun e => hne (by injection e))
  unfold set4
  refine ⟨?_, ?_, ?_, ?_, fun j => ?_⟩
  · rw [o, o, o, o]; exact h0
  · rw [o, o, o, o]; exact h1
  · rw [o, o, o, o]; exact h2
  · rw [o, o, o, o]; exact h3
  · rw [World.frozen?_setCell, World.frozen?_setCell, World.frozen?_setCell, World.frozen?_setCell]; exact hf j
theorem F4.put (h : F4 W r a b c d) (u0 u1 u2 u3 : Value) : F4 (set4 W r u0 u1 u2 u3) r u0 u1 u2 u3 := by
  obtain ⟨h0, h1, h2, h3, hf⟩ := h
  obtain ⟨c0, c1, c2, c3⟩ := four_cells W r u0 u1 u2 u3 _ _ _ _ h0 h1 h2 h3
  exact ⟨c0, c1, c2, c3, fun j => by unfold set4; rw [World.frozen?_setCell, World.frozen?_setCell, World.frozen?_setCell, World.frozen?_setCell]; exact hf j⟩
theorem F4.keeps (h : F4 W r a b c d) (hn : ¬ S r) : Keeps S W r [a, b, c, d] := by
  obtain ⟨h0, h1, h2, h3, hf⟩ := h
  refine ⟨lt_of_cell h0, hn, fun j v hj => ?_, hf⟩
  match j, hj with
  | 0, hj => obtain rfl : a = v := by simpa using hj
             exact h0
  | 1, hj => obtain rfl : b = v := by simpa using hj
             exact h1
  | 2, hj => obtain rfl : c = v := by simpa using hj
             exact h2
  | 3, hj => obtain rfl : d = v := by simpa using hj
             exact h3
  | j + 4, hj => simp at hj
theorem kept4_set {T : Nat → Prop} {w W : World} (h : Kept T w W) (hr : T r ∨ w.heap.size ≤ r) (u0 u1 u2 u3 : Value) : Kept T w (set4 W r u0 u1 u2 u3) :=
  (((h.set (a := ⟨r, 0, none⟩) hr u0).set (a := ⟨r, 1, none⟩) hr u1).set (a := ⟨r, 2, none⟩) hr u2).set (a := ⟨r, 3, none⟩) hr u3
theorem kept4_alloc {T : Nat → Prop} {w W : World} (h : Kept T w W) (o : Obj) : Kept T w (W.alloc o) :=
  h.trans (S' := fun _ => False) (Kept.of_below ((Below.refl _ W).alloc (Nat.le_refl _) o) _) (fun _ _ => False.elim)
end
section
variable {w wr X w5 WF : World} {p q k r r2 : Nat} {S : Nat → Prop} {h h' : HeapV} {pg : Int} {A A' : Option Addr} {c c' : Nat} {A2 A2' : Option Addr} {n2 c2 n2' c2' : Nat} {la la' : Int} {y0 y1 y2 y3 : Value}
/-- What the region leaves: the new value in r, the span in r2. -/
def Both7 (w WF : World) (p q r r2 : Nat) (S : Nat → Prop) (h : HeapV) (k : Nat) (h' : HeapV) (pg : Int) (A : Option Addr) (c : Nat) (A2 : Option Addr) (n2 c2 : Nat) (la : Int) (x0 x1 x2 x3 y0 y1 y2 y3 : Value) : Prop :=
  Mid w WF p q r S h k h' pg A c A2 n2 c2 la x0 x1 x2 x3 ∧ Keeps S WF r2 [y0, y1, y2, y3] ∧ r2 ≠ q
/-- Only blocks that were laid ahead of the call are written, and those laid since. -/
theorem Both7.gen (s : St7 w wr p q S h k pg A c A2 n2 c2 la) (hb : Below wr.heap.size wr w5) (a : Ans S q wr X w5 h' pg A' c' A2' n2' c2' la') (hK : Kept (fun b => wr.heap.size ≤ b ∧ b < X.heap.size) w5 WF) (hr : wr.heap.size ≤ r) (hr2 : wr.heap.size ≤ r2)
    (f : F4 WF r (.int .i64 pg) (.slice A' 1024 c') (.slice A2' n2' c2') (.int .i64 la')) (f2 : F4 WF r2 y0 y1 y2 y3) :
    Both7 w WF p q r r2 S h k h' pg A' c' A2' n2' c2' la' (.int .i64 pg) (.slice A 1024 c) (.slice A2 n2 c2) (.int .i64 la) y0 y1 y2 y3 := by
  have s5 := s.below hb
  have hq := s.kq.1
  have hS := s.st.hp.lt
  have hwr := s.st.bel.size
  have row : ∀ {B : Option Addr}, InP (OldNew S q wr.heap.size X.heap.size) B → ∀ a, B = some a → ¬ (wr.heap.size ≤ a.block ∧ a.block < X.heap.size) := fun hB a e hc => by
    rcases hB a e with h1 | h1
    · omega
    · omega
  refine ⟨⟨s5.st.kept hK (fun b hb => ⟨fun hc => by have := hS b hc; omega, by omega⟩), s5.kq.kept hK (fun hc => by omega), f.keeps (fun hc => by have := hS r hc; omega), a.rh.kept hK (row a.o1) (row a.o2), s.ql, by omega⟩, f2.keeps (fun hc => by have := hS r2 hc; omega), by omega⟩
/-- The call, the value's block, the span's. -/
theorem Both7.o1 (s : St7 w wr p q S h k pg A c A2 n2 c2 la) (hb : Below wr.heap.size wr w5) (a : Ans S q wr X w5 h' pg A' c' A2' n2' c2' la') (t t2 : TypeId) (y0 y1 y2 y3 : Value) :
    Both7 w ((w5.alloc (.cells #[.int .i64 pg, .slice A' 1024 c', .slice A2' n2' c2', .int .i64 la'] t)).alloc (.cells #[y0, y1, y2, y3] t2)) p q w5.heap.size (w5.heap.size + 1) S h k h' pg A' c' A2' n2' c2' la' (.int .i64 pg) (.slice A 1024 c) (.slice A2 n2 c2) (.int .i64 la) y0 y1 y2 y3 :=
  Both7.gen s hb a (kept4_alloc (kept4_alloc (Kept.refl _ _) _) _) hb.size (Nat.le_succ_of_le hb.size) ((F4.made _ _ _ _ _ _).alloc _) (by have := F4.made (w5.alloc (.cells #[.int .i64 pg, .slice A' 1024 c', .slice A2' n2' c2', .int .i64 la'] t)) y0 y1 y2 y3 t2; simpa using this)
/-- The call, the span's block, the value's. -/
theorem Both7.o2 (s : St7 w wr p q S h k pg A c A2 n2 c2 la) (hb : Below wr.heap.size wr w5) (a : Ans S q wr X w5 h' pg A' c' A2' n2' c2' la') (t t2 : TypeId) (y0 y1 y2 y3 : Value) :
    Both7 w ((w5.alloc (.cells #[y0, y1, y2, y3] t2)).alloc (.cells #[.int .i64 pg, .slice A' 1024 c', .slice A2' n2' c2', .int .i64 la'] t)) p q (w5.heap.size + 1) w5.heap.size S h k h' pg A' c' A2' n2' c2' la' (.int .i64 pg) (.slice A 1024 c) (.slice A2 n2 c2) (.int .i64 la) y0 y1 y2 y3 :=
  Both7.gen s hb a (kept4_alloc (kept4_alloc (Kept.refl _ _) _) _) (Nat.le_succ_of_le hb.size) hb.size (by have := F4.made (w5.alloc (.cells #[y0, y1, y2, y3] t2)) (.int .i64 pg) (.slice A' 1024 c') (.slice A2' n2' c2') (.int .i64 la') t; simpa using this) ((F4.made _ _ _ _ _ _).alloc _)
/-- The value's block, the call, the span's block; the value is written ahead of the span's block or behind it. -/
theorem Both7.o3 {x0 x1 x2 x3 z0 z1 z2 z3 : Value} (s : St7 w wr p q S h k pg A c A2 n2 c2 la) (hb : Below wr.heap.size wr w5) (a : Ans S q wr X w5 h' pg A' c' A2' n2' c2' la') (hX : wr.heap.size < X.heap.size) (hw : wr.heap.size < w5.heap.size) (z : F4 w5 wr.heap.size x0 x1 x2 x3) (t2 : TypeId) (y0 y1 y2 y3 : Value) :
    Both7 w (set4 (set4 (w5.alloc (.cells #[z0, z1, z2, z3] t2)) wr.heap.size (.int .i64 pg) (.slice A' 1024 c') (.slice A2' n2' c2') (.int .i64 la')) w5.heap.size y0 y1 y2 y3) p q wr.heap.size w5.heap.size S h k h' pg A' c' A2' n2' c2' la' (.int .i64 pg) (.slice A 1024 c) (.slice A2 n2 c2) (.int .i64 la) y0 y1 y2 y3 :=
  Both7.gen s hb a (kept4_set (kept4_set (kept4_alloc (Kept.refl _ _) _) (Or.inl ⟨Nat.le_refl _, hX⟩) _ _ _ _) (Or.inr (Nat.le_refl _)) _ _ _ _) (Nat.le_refl _) hb.size (((z.alloc _).put _ _ _ _).aside (by omega) _ _ _ _) (((F4.made w5 z0 z1 z2 z3 t2).aside (by omega) _ _ _ _).put _ _ _ _)
theorem Both7.o4 {x0 x1 x2 x3 : Value} (s : St7 w wr p q S h k pg A c A2 n2 c2 la) (hb : Below wr.heap.size wr w5) (a : Ans S q wr X w5 h' pg A' c' A2' n2' c2' la') (hX : wr.heap.size < X.heap.size) (z : F4 w5 wr.heap.size x0 x1 x2 x3) (t2 : TypeId) (y0 y1 y2 y3 : Value) :
    Both7 w ((set4 w5 wr.heap.size (.int .i64 pg) (.slice A' 1024 c') (.slice A2' n2' c2') (.int .i64 la')).alloc (.cells #[y0, y1, y2, y3] t2)) p q wr.heap.size w5.heap.size S h k h' pg A' c' A2' n2' c2' la' (.int .i64 pg) (.slice A 1024 c) (.slice A2 n2 c2) (.int .i64 la) y0 y1 y2 y3 :=
  Both7.gen s hb a (kept4_alloc (kept4_set (Kept.refl _ _) (Or.inl ⟨Nat.le_refl _, hX⟩) _ _ _ _) _) (Nat.le_refl _) hb.size ((z.put _ _ _ _).alloc _) (by
    have := F4.made (set4 w5 wr.heap.size (.int .i64 pg) (.slice A' 1024 c') (.slice A2' n2' c2') (.int .i64 la')) y0 y1 y2 y3 t2
    have e : (set4 w5 wr.heap.size (.int .i64 pg) (.slice A' 1024 c') (.slice A2' n2' c2') (.int .i64 la')).heap.size = w5.heap.size := by unfold set4; simp
    rw [e] at this
    exact this)
/-- The span's block, the call, the value's block. -/
theorem Both7.o5 {x0 x1 x2 x3 : Value} (s : St7 w wr p q S h k pg A c A2 n2 c2 la) (hb : Below wr.heap.size wr w5) (a : Ans S q wr X w5 h' pg A' c' A2' n2' c2' la') (hX : wr.heap.size < X.heap.size) (hw : wr.heap.size < w5.heap.size) (z : F4 w5 wr.heap.size x0 x1 x2 x3) (t : TypeId) (y0 y1 y2 y3 : Value) :
    Both7 w (set4 (w5.alloc (.cells #[.int .i64 pg, .slice A' 1024 c', .slice A2' n2' c2', .int .i64 la'] t)) wr.heap.size y0 y1 y2 y3) p q w5.heap.size wr.heap.size S h k h' pg A' c' A2' n2' c2' la' (.int .i64 pg) (.slice A 1024 c) (.slice A2 n2 c2) (.int .i64 la) y0 y1 y2 y3 :=
  Both7.gen s hb a (kept4_set (kept4_alloc (Kept.refl _ _) _) (Or.inl ⟨Nat.le_refl _, hX⟩) _ _ _ _) hb.size (Nat.le_refl _) ((F4.made _ _ _ _ _ _).aside (by omega) _ _ _ _) ((z.alloc _).put _ _ _ _)
/-- Both blocks, the call. -/
theorem Both7.o6 {x0 x1 x2 x3 z0 z1 z2 z3 : Value} (s : St7 w wr p q S h k pg A c A2 n2 c2 la) (hb : Below wr.heap.size wr w5) (a : Ans S q wr X w5 h' pg A' c' A2' n2' c2' la') (h1 : wr.heap.size ≤ r) (h2 : r < X.heap.size) (h3 : wr.heap.size ≤ r2) (h4 : r2 < X.heap.size) (h5 : r ≠ r2) (z : F4 w5 r x0 x1 x2 x3) (z2 : F4 w5 r2 z0 z1 z2 z3) (y0 y1 y2 y3 : Value) :
    Both7 w (set4 (set4 w5 r (.int .i64 pg) (.slice A' 1024 c') (.slice A2' n2' c2') (.int .i64 la')) r2 y0 y1 y2 y3) p q r r2 S h k h' pg A' c' A2' n2' c2' la' (.int .i64 pg) (.slice A 1024 c) (.slice A2 n2 c2) (.int .i64 la) y0 y1 y2 y3 :=
  Both7.gen s hb a (kept4_set (kept4_set (Kept.refl _ _) (Or.inl ⟨h1, h2⟩) _ _ _ _) (Or.inl ⟨h3, h4⟩) _ _ _ _) h1 h3 ((z.put _ _ _ _).aside (fun e => h5 e.symm) _ _ _ _) ((z2.aside h5 _ _ _ _).put _ _ _ _)
end

theorem alloc_lt1 {W : World} {o : Obj} : W.heap.size < (W.alloc o).drew.heap.size := by show W.heap.size < (W.alloc o).heap.size; simp
theorem alloc_more2 {W : World} {o o2 : Obj} : W.heap.size < ((W.alloc o).alloc o2).drew.heap.size ∧ W.heap.size + 1 < ((W.alloc o).alloc o2).drew.heap.size := by
  show W.heap.size < ((W.alloc o).alloc o2).heap.size ∧ W.heap.size + 1 < ((W.alloc o).alloc o2).heap.size
  simp
  omega
section
variable {w W W' : World} {p q k r : Nat} {S : Nat → Prop} {h : HeapV} {pg : Int} {A : Option Addr} {c : Nat} {A2 : Option Addr} {n2 c2 : Nat} {la : Int} {y0 y1 y2 y3 : Value}
/-- A block beside both sides is written. -/
theorem St7.aside (s : St7 w W p q S h k pg A c A2 n2 c2 la) (hn : ¬ S r) (hq : r ≠ q) (hw : w.heap.size ≤ r) (hA : ∀ a, A = some a → a.block ≠ r) (hA2 : ∀ a, A2 = some a → a.block ≠ r) (u0 u1 u2 u3 : Value) : St7 w (set4 W r u0 u1 u2 u3) p q S h k pg A c A2 n2 c2 la := by
  have hK : Kept (fun b => b = r) W (set4 W r u0 u1 u2 u3) := kept4_set (T := fun b => b = r) (Kept.refl _ W) (Or.inl rfl) u0 u1 u2 u3
  exact ⟨s.st.kept hK (fun b hb => by subst hb; exact ⟨hn, hw⟩), s.kq.kept hK (fun e => hq e.symm), s.rh.kept hK hA hA2, s.ql⟩
/-- The call, then the span's block. -/
theorem St7.made (s : St7 w W p q S h k pg A c A2 n2 c2 la) (y0 y1 y2 y3 : Value) (t : TypeId) : St7 w (W.alloc (.cells #[y0, y1, y2, y3] t)) p q S h k pg A c A2 n2 c2 la ∧ Keeps S (W.alloc (.cells #[y0, y1, y2, y3] t)) W.heap.size [y0, y1, y2, y3] ∧ W.heap.size ≠ q := by
  refine ⟨s.below ((Below.refl _ _).alloc (Nat.le_refl _) _), Keeps.made W s.st.hp.lt [y0, y1, y2, y3] t, fun e => ?_⟩
  have := s.kq.1
  omega
end

end Go.Proofs.YtcngcibiibchiaaGreat

/- Objects that own blocks: which ones (a set of numbers), and worlds in which all others are as they were. No program is named here. -/
import Derived.Test.YtbihliaeidpfaaaRowLaws
namespace Go.Proofs.Ytbihliaeidpfaaa
open Go.RowKit
set_option linter.unusedVariables false

/-- All blocks are as they were, but those of S, and new ones. -/
structure Kept (S : Nat → Prop) (w w' : World) : Prop where
  os : w'.os = w.os
  tape : w'.tape = w.tape
  output : w'.output = w.output
  size : w.heap.size ≤ w'.heap.size
  block : ∀ b, b < w.heap.size → ¬ S b → w'.heap[b]? = w.heap[b]?
/-- S, and all that has come since. -/
def more (S : Nat → Prop) (w w' : World) (b : Nat) : Prop := (S b ∨ w.heap.size ≤ b) ∧ b < w'.heap.size
section
variable {S S' : Nat → Prop} {w w' w'' : World}
theorem Kept.refl (S : Nat → Prop) (w : World) : Kept S w w := ⟨rfl, rfl, rfl, Nat.le_refl _, fun _ _ _ => rfl⟩
theorem Kept.of_below (h : Below w.heap.size w w') (S : Nat → Prop) : Kept S w w' := ⟨h.os, h.tape, h.output, h.size, fun b hb _ => h.block b hb⟩
theorem Kept.trans (h : Kept S w w') (k : Kept S' w' w'') (hs : ∀ b, b < w.heap.size → S' b → S b) : Kept S w w'' :=
  ⟨k.os.trans h.os, k.tape.trans h.tape, k.output.trans h.output, Nat.le_trans h.size k.size, fun b hb hn => (k.block b (Nat.lt_of_lt_of_le hb h.size) (fun c => hn (hs b hb c))).trans (h.block b hb hn)⟩
theorem Kept.set (h : Kept S w w') {a : Addr} (ha : S a.block ∨ w.heap.size ≤ a.block) (u : Value) : Kept S w (w'.setCell a u) :=
  ⟨h.os, h.tape, h.output, by simpa using h.size, fun b hb hn => (heap_setCell_other w' a b u (fun e => by
    subst e
    rcases ha with ha | ha
    · exact hn ha
    · omega)).trans (h.block b hb hn)⟩
theorem Kept.grown {r : Option Nat} (h : Kept S w w') (hg : w'.grownBy w'' r) (hr : ∀ k, r = some k → S k ∨ w.heap.size ≤ k) : Kept S w w'' :=
  ⟨hg.os.trans h.os, hg.tape.trans h.tape, hg.output.trans h.output, Nat.le_trans h.size hg.size, fun b hb hn => (hg.block b (Nat.lt_of_lt_of_le hb h.size) (fun e => by
    rcases hr b e.symm with c | c
    · exact hn c
    · omega)).trans (h.block b hb hn)⟩
theorem Kept.drew (h : Kept S w w') : Kept S w w'.drew := ⟨h.os, h.tape, h.output, h.size, h.block⟩
theorem Kept.drewN (h : Kept S w w') (q : Nat) : Kept S w (w'.drewN q) := ⟨h.os, h.tape, h.output, h.size, h.block⟩
/-- What is below all of S is as it was. -/
theorem Kept.below {B : Nat} (h : Kept S w w') (hB : B ≤ w.heap.size) (hs : ∀ b, S b → B ≤ b) : Below B w w' :=
  ⟨h.os, h.tape, h.output, h.size, fun b hb => h.block b (by omega) (fun c => by have := hs b c; omega)⟩
theorem Kept.cell (h : Kept S w w') {a : Addr} (ha : a.block < w.heap.size) (hn : ¬ S a.block) : w'.cell? a = w.cell? a := World.cell?_of_block (w := w) (h.block _ ha hn)
theorem more_old {b : Nat} (hb : b < w.heap.size) (h : more S w w' b) : S b := by
  rcases h.1 with h | h
  · exact h
  · omega
theorem more_lt {b : Nat} (h : more S w w' b) : b < w'.heap.size := h.2
theorem more_low {B : Nat} (hB : B ≤ w.heap.size) (hs : ∀ b, S b → B ≤ b) : ∀ b, more S w w' b → B ≤ b := fun b h => by
  rcases h.1 with h | h
  · exact hs b h
  · omega
/-- A row of which no block is of S. -/
theorem Sl.kept {B n : Nat} {A : Option Addr} {xs : List Value} (h : Sl w w.heap.size A n xs) (hk : Kept S w w') (ha : ∀ a, A = some a → ¬ S a.block) : Sl w' w'.heap.size A n xs :=
  ⟨h.1, fun hn => by
    obtain ⟨b, off, e, hb, hc⟩ := h.2 hn
    exact ⟨b, off, e, Nat.lt_of_lt_of_le hb hk.size, fun j hj => (hk.cell (a := ⟨b, off + j, none⟩) hb (show ¬ S b from ha ⟨b, off, none⟩ e)).trans (hc j hj)⟩⟩
end
theorem own_kept {S : Nat → Prop} {w w' : World} {base size n : Nat} {e : TypeId} {v : Value} {xs : List Value} (h : w.ownsRow base e size v n xs) (hk : Kept S w w') (ha : ∀ k, v.ownBlock = some k → ¬ S k) : w'.ownsRow base e size v n xs := by
  refine ⟨h.1, ?_⟩
  rcases h.2 with h2 | ⟨g, cap, cur, hv, hb, hg, r⟩
  · exact Or.inl h2
  · have hlt : g < w.heap.size := (Array.getElem?_eq_some_iff.1 hg).1
    exact Or.inr ⟨g, cap, cur, hv, hb, (hk.block g hlt (ha g (by rw [hv]; rfl))).trans hg, r⟩
theorem own_capsK {w : World} {base size n c : Nat} {A : Option Addr} {e : TypeId} {xs : List Value} (h : w.ownsRow base e size (.slice A n c) n xs) : n ≤ c ∧ c ≤ 9223372036854775807 ∧ (A = none → c = 0) := by
  rcases h.2 with ⟨h1, h2⟩ | ⟨g, cap, cur, h1, _, _, h4, h5, _⟩
  · injection h1 with e1 e2 e3
    subst e3
    exact ⟨by omega, by omega, fun _ => rfl⟩
  · injection h1 with e1 e2 e3
    subst e3
    unfold maxLen at h5
    exact ⟨h4, by omega, fun e => by rw [e] at e1; cases e1⟩
theorem own_lower {w : World} {base base' size n : Nat} {e : TypeId} {v : Value} {xs : List Value} (h : w.ownsRow base e size v n xs) (hb : base' ≤ base) : w.ownsRow base' e size v n xs := by
  refine ⟨h.1, ?_⟩
  rcases h.2 with h2 | ⟨g, cap, cur, hv, hg, r⟩
  · exact Or.inl h2
  · exact Or.inr ⟨g, cap, cur, hv, by omega, r⟩

end Go.Proofs.Ytbihliaeidpfaaa

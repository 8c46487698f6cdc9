/- What the document's own Lay of layer 15 (walk) returns: frames of functions, laid one in front of the other. -/
import Derived.Test.YtlniakcoikhilaaDoorLayRef
import Derived.Test.YtlniakcoikhilaaDoorFrmAll
import Derived.Deep.RegionHeld3
namespace Go.Proofs.YtlniakcoikhilaaDoor
open Go.RowKit
set_option linter.unusedVariables false

/-- Words with frames laid; where the last one stands; whether all have been laid. -/
def layGo (l : Fns) (lo : Int) : List Int → List Nat → Int → Int → List Nat × Int × Bool
  | [], xs, sp, _ => (xs, sp, true)
  | f :: r, xs, sp, link => if (frPush xs l lo sp f link).2.2 = 0 then layGo l lo r (frPush xs l lo sp f link).1 (frPush xs l lo sp f link).2.1 (frPush xs l lo sp f link).2.1 else (xs, sp, false)
theorem layGo_at {l : Fns} {lo sp link : Int} {xs : List Nat} {fs : List Int} {j : Nat} {f : Int} (h : fs[j]? = some f) : layGo l lo (fs.drop j) xs sp link = if (frPush xs l lo sp f link).2.2 = 0 then layGo l lo (fs.drop (j + 1)) (frPush xs l lo sp f link).1 (frPush xs l lo sp f link).2.1 (frPush xs l lo sp f link).2.1 else (xs, sp, false) := by
  obtain ⟨hj, rfl⟩ := List.getElem?_eq_some_iff.1 h
  rw [List.drop_eq_getElem_cons hj]; rfl
theorem frPush_len (xs : List Nat) (l : Fns) (lo sp f link : Int) (hl : ∀ x ∈ l, 0 ≤ x.1 ∧ x.1 ≤ 1000) : (frPush xs l lo sp f link).1.length = xs.length := by
  have hr := fWords_cases l hl f
  unfold frPush
  split; · rfl
  split; · rfl
  rw [aStore_length _ _ _ (by rw [frRow_length _ (by omega)]; omega)]
theorem frPush_good {xs ys : List Nat} {l : Fns} {lo sp f link bs : Int} (h : frPush xs l lo sp f link = (ys, bs, 0)) : 0 ≤ lo ∧ lo ≤ bs ∧ bs ≤ sp ∧ sp ≤ xs.length := by
  unfold frPush at h
  split at h
  · injection h with _ h; injection h with _ h; omega
  · split at h
    · injection h with _ h; injection h with _ h; omega
    · injection h with h1 h; injection h with h2 _; omega
/-- The result's block and the stack's own: six cells. -/
structure L6 (W : World) (b : Nat) (lo size sp : Int) : Prop where
  r0 : W.cell? ⟨b, 0, none⟩ = some (.int .i64 0)
  r1 : W.cell? ⟨b, 1, none⟩ = some (.int .i64 0)
  r2 : W.cell? ⟨b, 2, none⟩ = some (.int .i64 0)
  s0 : W.cell? ⟨b + 1, 0, none⟩ = some (.int .i64 lo)
  s1 : W.cell? ⟨b + 1, 1, none⟩ = some (.int .i64 size)
  s2 : W.cell? ⟨b + 1, 2, none⟩ = some (.int .i64 sp)
  fr : ∀ i, W.frozen? ⟨b, i, none⟩ = false
  fs : ∀ i, W.frozen? ⟨b + 1, i, none⟩ = false
theorem L6.step {W W' : World} {b : Nat} {lo size sp : Int} (h : L6 W b lo size sp) (hb : Below W.heap.size W W') : L6 W' b lo size sp := by
  have h0 : b < W.heap.size := lt_of_cell' h.r0
  have h1 : b + 1 < W.heap.size := lt_of_cell' h.s0
  exact ⟨(hb.cell (p := ⟨b, 0, none⟩) h0).trans h.r0, (hb.cell (p := ⟨b, 1, none⟩) h0).trans h.r1, (hb.cell (p := ⟨b, 2, none⟩) h0).trans h.r2, (hb.cell (p := ⟨b + 1, 0, none⟩) h1).trans h.s0, (hb.cell (p := ⟨b + 1, 1, none⟩) h1).trans h.s1, (hb.cell (p := ⟨b + 1, 2, none⟩) h1).trans h.s2, fun i => (hb.frozen (p := ⟨b, i, none⟩) h0).trans (h.fr i), fun i => (hb.frozen (p := ⟨b + 1, i, none⟩) h1).trans (h.fs i)⟩
theorem L6.set {W : World} {b : Nat} {lo size sp : Int} (h : L6 W b lo size sp) (sp' : Int) : L6 (W.setCell ⟨b + 1, 2, none⟩ (.int .i64 sp')) b lo size sp' := by
  have o : ∀ (x y i : Nat), ¬ (b + 1 = x ∧ 2 = i) → (W.setCell ⟨b + 1, 2, none⟩ (.int .i64 sp')).cell? ⟨x, i, none⟩ = W.cell? ⟨x, i, none⟩ := fun x y i hne => World.cell?_setCell_other W _ _ _ (fun e => hne (by injection e with e1 e2; exact ⟨e1, e2⟩))
  exact ⟨(o b 0 0 (by omega)).trans h.r0, (o b 0 1 (by omega)).trans h.r1, (o b 0 2 (by omega)).trans h.r2, (o (b + 1) 0 0 (by omega)).trans h.s0, (o (b + 1) 0 1 (by omega)).trans h.s1, World.cell?_setCell_same W _ _ h.s2, fun i => (World.frozen?_setCell _ _ _ _).trans (h.fr i), fun i => (World.frozen?_setCell _ _ _ _).trans (h.fs i)⟩
theorem Sl.asideL {w : World} {B n : Nat} {A : Option Addr} {xs : List Value} (h : Sl w B A n xs) {p : Addr} (hp : ∀ a, A = some a → a.block ≠ p.block) (u : Value) : Sl (w.setCell p u) B A n xs :=
  ⟨h.1, fun hn => by
    obtain ⟨b, off, e, hb, hc⟩ := h.2 hn
    exact ⟨b, off, e, hb, fun j hj => (World.cell?_setCell_other w p ⟨b, off + j, none⟩ u (fun e2 => hp _ e (by rw [e2]))).trans (hc j hj)⟩⟩
/-- What Lay answers. -/
def ResL (w : World) (n : Nat) (r : List Nat × Int × Bool) (lo size : Int) (e : Ending) (w' : World) : Prop := ∃ B k, e = .returned (.tuple #[.slice B n k, .agg #[.int .i64 lo, .int .i64 size, .int .i64 r.2.1], .bool r.2.2]) ∧ Sl w' w'.heap.size B n (r.1.map wv) ∧ (B = none → k = 0) ∧ Below w.heap.size w w'

end Go.Proofs.YtlniakcoikhilaaDoor

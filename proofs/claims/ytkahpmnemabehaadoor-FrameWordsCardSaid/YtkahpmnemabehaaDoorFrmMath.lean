/- Frames that stand in an arena (layer 14): plain functions, an arena beside a table, three cells of a block. -/
import Derived.Test.YtkahpmnemabehaaDoorFnsTells
import Derived.Test.YtkahpmnemabehaaDoorArenaRef
namespace Go.Proofs.YtkahpmnemabehaaDoor
open Go.RowKit
set_option linter.unusedVariables false

/-- The number that a word in a frame's head stands for. -/
def frNum (x : Nat) : Int := if x = 0 then -1 else if x ≤ 9223372036854775808 then (x : Int) - 1 else (x : Int) - 1 - 18446744073709551616
/-- A frame: its base, its function, its link. -/
structure FrV where
  at_ : Int
  fn : Int
  link : Int
deriving DecidableEq
def frC (x : FrV) : Value := .agg #[.int .i64 x.at_, .int .i64 x.fn, .int .i64 x.link]
def fr0 : FrV := ⟨0, 0, 0⟩
/-- Are a frame's words there? -/
def frOk (xs : List Nat) (l : Fns) (a : Nat) : Bool := decide (xs.getD a 0 ≤ xs.length ∧ 1 ≤ xs.getD (a + 1) 0 ∧ xs.getD (a + 1) 0 ≤ l.length ∧ (a : Int) + fWords l ((xs.getD (a + 1) 0 : Nat) - 1 : Int) ≤ xs.length)
/-- The frame that stands at an address; the error's number. -/
def frRead (xs : List Nat) (l : Fns) (a : Int) : FrV × Int :=
  if aIn xs.length a 2 = false then (fr0, 2)
  else if frOk xs l a.toNat then (⟨a, (xs.getD (a.toNat + 1) 0 : Nat) - 1, (xs.getD a.toNat 0 : Nat) - 1⟩, 0) else (fr0, 9)
theorem frRead_out {xs : List Nat} {l : Fns} {a : Int} (h : aIn xs.length a 2 = false) : frRead xs l a = (fr0, 2) := by unfold frRead; rw [if_pos h]
theorem frRead_no {xs : List Nat} {l : Fns} {a : Nat} (h : aIn xs.length a 2 = true) (k : frOk xs l a = false) : frRead xs l a = (fr0, 9) := by
  unfold frRead; rw [if_neg (by rw [h]; simp), Int.toNat_natCast, k]; rfl
theorem frRead_yes {xs : List Nat} {l : Fns} {a : Nat} (h : aIn xs.length a 2 = true) (k : frOk xs l a = true) : frRead xs l a = (⟨a, (xs.getD (a + 1) 0 : Nat) - 1, (xs.getD a 0 : Nat) - 1⟩, 0) := by
  unfold frRead; rw [if_neg (by rw [h]; simp), Int.toNat_natCast, k]; rfl
theorem fWords_cases (l : Fns) (hl : ∀ x ∈ l, 0 ≤ x.1 ∧ x.1 ≤ 1000) (f : Int) : ((f < 0 ∨ (l.length : Int) ≤ f) ∧ fWords l f = -1) ∨ (0 ≤ f ∧ f < l.length ∧ 2 ≤ fWords l f ∧ fWords l f ≤ 1002) := by
  by_cases h : f < 0 ∨ (l.length : Int) ≤ f
  · left
    refine ⟨h, ?_⟩
    unfold fWords fSize; rw [if_pos h]; rfl
  · right
    have hr : 0 ≤ fSize l f ∧ fSize l f ≤ 1000 := by
      unfold fSize
      rw [if_neg h, List.getD_eq_getElem?_getD, List.getElem?_eq_getElem (by omega)]
      exact hl _ (List.getElem_mem (l := l) (n := f.toNat) (by omega))
    refine ⟨by omega, by omega, ?_, ?_⟩ <;> (unfold fWords; rw [if_neg (by omega)]; omega)
/-- What the code asks of a frame's words. -/
theorem frOk_code (xs : List Nat) (l : Fns) (hl : ∀ x ∈ l, 0 ≤ x.1 ∧ x.1 ≤ 1000) (hn : l.length ≤ 1000) (a : Nat) (k f : Nat) (hk : xs.getD a 0 = k) (hf : xs.getD (a + 1) 0 = f) (hf2 : f < 18446744073709551616) (hka : k ≤ xs.length) :
    frOk xs l a = aIn xs.length (a : Int) (fWords l (frNum f)) := by
  unfold frOk aIn
  rw [hk, hf, Bool.eq_iff_iff, decide_eq_true_iff, decide_eq_true_iff]
  by_cases h : 1 ≤ f ∧ f ≤ l.length
  · have e : frNum f = (f : Int) - 1 := by unfold frNum; rw [if_neg (by omega), if_pos (by omega)]
    rw [e]
    rcases fWords_cases l hl ((f : Int) - 1) with h1 | h1 <;> omega
  · have e : fWords l (frNum f) = -1 := by
      rcases fWords_cases l hl (frNum f) with h1 | h1
      · exact h1.2
      · exfalso; unfold frNum at h1; split at h1
        · omega
        · split at h1 <;> omega
    rw [e]; omega
theorem frOk_far {xs : List Nat} {l : Fns} {a : Nat} {k : Nat} (hk : xs.getD a 0 = k) (h : xs.length < k) : frOk xs l a = false := by
  unfold frOk; exact decide_eq_false (by omega)

theorem three_cells (w : World) (b : Nat) (u0 u1 u2 x0 x1 x2 : Value) (h0 : w.cell? ⟨b, 0, none⟩ = some x0) (h1 : w.cell? ⟨b, 1, none⟩ = some x1) (h2 : w.cell? ⟨b, 2, none⟩ = some x2) :
    (((w.setCell ⟨b, 0, none⟩ u0).setCell ⟨b, 1, none⟩ u1).setCell ⟨b, 2, none⟩ u2).cell? ⟨b, 0, none⟩ = some u0 ∧ (((w.setCell ⟨b, 0, none⟩ u0).setCell ⟨b, 1, none⟩ u1).setCell ⟨b, 2, none⟩ u2).cell? ⟨b, 1, none⟩ = some u1 ∧
    (((w.setCell ⟨b, 0, none⟩ u0).setCell ⟨b, 1, none⟩ u1).setCell ⟨b, 2, none⟩ u2).cell? ⟨b, 2, none⟩ = some u2 := by
  have o : ∀ (w : World) (i j : Nat) (v : Value), i ≠ j → (w.setCell ⟨b, i, none⟩ v).cell? ⟨b, j, none⟩ = w.cell? ⟨b, j, none⟩ := fun w i j v h => World.cell?_setCell_other w _ _ _ (fun e => h (by injection e))
  have s : ∀ (w : World) (i : Nat) (v x : Value), w.cell? ⟨b, i, none⟩ = some x → (w.setCell ⟨b, i, none⟩ v).cell? ⟨b, i, none⟩ = some v := fun w i v x h => World.cell?_setCell_same w _ _ h
  refine ⟨?_, ?_, ?_⟩
  · rw [o _ 2 0 _ (by decide), o _ 1 0 _ (by decide), s _ 0 _ x0 h0]
  · rw [o _ 2 1 _ (by decide), s _ 1 _ x1 (by rw [o _ 0 1 _ (by decide)]; exact h1)]
  · rw [s _ 2 _ x2 (by rw [o _ 1 2 _ (by decide), o _ 0 2 _ (by decide)]; exact h2)]

/-- The table stays where its blocks do. -/
theorem TbO.keep {w w' : World} {lo hi : Nat} {p : Option Addr} {l : Fns} (h : TbO w lo hi p l) (hk : ∀ b, lo ≤ b → b < hi → w'.heap[b]? = w.heap[b]?) : TbO w' lo hi p l := h.imp id fun ⟨b, e, h⟩ => ⟨b, e, h.keep hk⟩
theorem TbO.few {w : World} {lo hi : Nat} {p : Option Addr} {l : Fns} (h : TbO w lo hi p l) : l.length ≤ 100 := by
  rcases h with ⟨_, rfl⟩ | ⟨b, _, _, _, A, n, c, ys, _, h4, rfl, h6, _⟩
  · simp
  · rw [vals_length, h4.len]; exact h6
/-- An arena and a table, both made since the world w. -/
structure AT (w W : World) (p g len : Nat) (xs : List Nat) (tp : Option Addr) (l : Fns) : Prop where
  bel : Below w.heap.size w W
  ar : Ar W w.heap.size p g len xs
  tb : ∃ lo hi, TbO W lo hi tp l ∧ hi ≤ W.heap.size ∧ w.heap.size ≤ lo ∧ (g < lo ∨ hi ≤ g)
section
variable {w W W' : World} {p g len : Nat} {xs ys : List Nat} {tp : Option Addr} {l : Fns}
theorem AT.step (h : AT w W p g len xs tp l) (hb : Below W.heap.size W W') : AT w W' p g len xs tp l := by
  obtain ⟨lo, hi, h2, h3, h4, h5⟩ := h.tb
  exact ⟨h.bel.trans (hb.mono h.bel.size), h.ar.below hb (Nat.le_refl _), lo, hi, h2.below (hb.mono h3), Nat.le_trans h3 hb.size, h4, h5⟩
theorem AT.drewN (h : AT w W p g len xs tp l) (q : Nat) : AT w (W.drewN q) p g len xs tp l := h.step (belowN (Below.refl _ _) q)
theorem AT.alloc (h : AT w W p g len xs tp l) (o : Obj) : AT w (W.alloc o) p g len xs tp l := h.step (belF_al (Below.refl _ _) o)
theorem AT.wrote (h : AT w W p g len xs tp l) (ha : Ar W' w.heap.size p g len ys) (hg : W.grownBy W' (some g)) : AT w W' p g len ys tp l := by
  obtain ⟨lo, hi, h2, h3, h4, h5⟩ := h.tb
  refine ⟨h.bel.grown hg h.bel.size (fun k hk => by cases hk; exact h.ar.geg), ha, lo, hi, h2.keep fun b hb1 hb2 => hg.block b (by omega) (fun e => ?_), Nat.le_trans h3 hg.size, h4, h5⟩
  injection e with e
  omega
theorem AT.few (h : AT w W p g len xs tp l) : l.length ≤ 100 := by obtain ⟨lo, hi, h2, _⟩ := h.tb; exact h2.few
end
end Go.Proofs.YtkahpmnemabehaaDoor

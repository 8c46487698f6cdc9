/- Stacks that are moved (layer 17): plain functions; what the document's own Fits returns. -/
import Derived.Test.YtlniakcoikhilaaDoorLayRef2
import Derived.Test.YtlniakcoikhilaaDoorSlsAll
namespace Go.Proofs.YtlniakcoikhilaaDoor
open Go.RowKit
set_option linter.unusedVariables false

/-- Do two share no word? -/
def mvFits (s x : StV) : Bool := decide (s.lo + s.size ≤ x.lo ∨ x.lo + x.size ≤ s.lo)
/-- All values of a frame, and of all frames, put into slots. -/
def mvRow (l : Fns) (L : List FrV) (d : Nat) : Nat → List VlV → List Nat → List Nat
  | _, [], xs => xs
  | i, v :: r, xs => mvRow l L d (i + 1) r (slPut xs l L d i v).1
def mvRows (l : Fns) (L : List FrV) : Nat → List (List VlV) → List Nat → List Nat
  | _, [], xs => xs
  | d, r :: q, xs => mvRows l L (d + 1) q (mvRow l L d 0 r xs)
def st0 : StV := ⟨0, 0, 0⟩
/-- The words behind it, the stack, the error's number. -/
def mvTo (xs : List Nat) (l : Fns) (s : StV) (lo size : Int) : List Nat × StV × Int :=
  if stMay s xs.length = false ∨ stkSz size = false ∨ stMay ⟨lo, size, lo⟩ xs.length = false then (xs, st0, 1)
  else if (wkFrames xs l s).2 ≠ 0 then (xs, st0, 9)
  else if (slAll xs l (wkFrames xs l s).1).2 ≠ 0 then (xs, st0, 9)
  else if size < s.lo + s.size - s.sp ∨ mvFits s ⟨lo, size, 0⟩ = false then (xs, st0, 2)
  else if (layGo l lo ((wkFrames xs l s).1.map FrV.fn) xs (lo + size) (-1)).2.2 = false then (xs, st0, 9)
  else
    let r := layGo l lo ((wkFrames xs l s).1.map FrV.fn) xs (lo + size) (-1)
    (mvRows l (wkFrames r.1 l ⟨lo, size, r.2.1⟩).1 0 (slAll xs l (wkFrames xs l s).1).1 r.1, ⟨lo, size, r.2.1⟩, 0)
theorem mvRow_at {l : Fns} {L : List FrV} {d i : Nat} {vs : List VlV} {v : VlV} {xs : List Nat} (h : vs[i]? = some v) : mvRow l L d i (vs.drop i) xs = mvRow l L d (i + 1) (vs.drop (i + 1)) (slPut xs l L d i v).1 := by
  obtain ⟨hj, rfl⟩ := List.getElem?_eq_some_iff.1 h
  rw [List.drop_eq_getElem_cons hj]; rfl
theorem mvRows_at {l : Fns} {L : List FrV} {d : Nat} {rs : List (List VlV)} {r : List VlV} {xs : List Nat} (h : rs[d]? = some r) : mvRows l L d (rs.drop d) xs = mvRows l L (d + 1) (rs.drop (d + 1)) (mvRow l L d 0 r xs) := by
  obtain ⟨hj, rfl⟩ := List.getElem?_eq_some_iff.1 h
  rw [List.drop_eq_getElem_cons hj]; rfl
theorem mvRow_length (l : Fns) (L : List FrV) (d : Nat) : ∀ (vs : List VlV) (i : Nat) (xs : List Nat), (mvRow l L d i vs xs).length = xs.length
  | [], _, _ => rfl
  | v :: r, i, xs => by unfold mvRow; rw [mvRow_length l L d r, slPut_length]
theorem layGo_length (l : Fns) (lo : Int) (hl : ∀ x ∈ l, 0 ≤ x.1 ∧ x.1 ≤ 1000) : ∀ (fs : List Int) (xs : List Nat) (sp link : Int), (layGo l lo fs xs sp link).1.length = xs.length
  | [], _, _, _ => rfl
  | f :: r, xs, sp, link => by
    unfold layGo
    split
    · rw [layGo_length l lo hl r, frPush_len _ _ _ _ _ _ hl]
    · rfl
end Go.Proofs.YtlniakcoikhilaaDoor

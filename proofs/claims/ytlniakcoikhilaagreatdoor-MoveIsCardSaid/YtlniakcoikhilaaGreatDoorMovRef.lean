/- Stacks that are moved (layer 17): plain functions; what the document's own Fits returns. -/
import Derived.Test.YtlniakcoikhilaaGreatDoorLayRef2
import Derived.Test.YtlniakcoikhilaaGreatDoorSlsAll
namespace Go.Proofs.YtlniakcoikhilaaGreatDoor
open Go.RowKit
set_option linter.unusedVariables false

/-- Do two share no word? -/
def mvFits (s x : StV) : Bool := decide (s.lo + s.size ≤ x.lo ∨ x.lo + x.size ≤ s.lo)
/-- All values of a frame, and of all frames, put into slots. -/
def mvRow (l : Fns) (L : List FrV) (d : Nat) : Nat → List VlV → List Nat → List Nat
  | _, [], xs => xs
  | i, v :: r, xs => mvRow l L d (i + 1) r (slPut xs l L d i v).1
def mvRows (l : Fns) (L : List FrV) : Nat → List (List VlV) → List Nat → List Nat
  | _, [], xs => xs
  | d, r :: q, xs => mvRows l L (d + 1) q (mvRow l L d 0 r xs)
def st0 : StV := ⟨0, 0, 0⟩
/-- The words behind it, the stack, the error's number. -/
def mvTo (xs : List Nat) (l : Fns) (s : StV) (lo size : Int) : List Nat × StV × Int :=
  if stMay s xs.length = false ∨ stkSz size = false ∨ stMay ⟨lo, size, lo⟩ xs.length = false then (xs, st0, 1)
  else if (wkFrames xs l s).2 ≠ 0 then (xs, st0, 9)
  else if (slAll xs l (wkFrames xs l s).1).2 ≠ 0 then (xs, st0, 9)
  else if size < s.lo + s.size - s.sp ∨ mvFits s ⟨lo, size, 0⟩ = false then (xs, st0, 2)
  else if (layGo l lo ((wkFrames xs l s).1.map FrV.fn) xs (lo + size) (-1)).2.2 = false then (xs, st0, 9)
  else
    let r := layGo l lo ((wkFrames xs l s).1.map FrV.fn) xs (lo + size) (-1)
    (mvRows l (wkFrames r.1 l ⟨lo, size, r.2.1⟩).1 0 (slAll xs l (wkFrames xs l s).1).1 r.1, ⟨lo, size, r.2.1⟩, 0)
theorem mvRow_at {l : Fns} {L : List FrV} {d i : Nat} {vs : List VlV} {v : VlV} {xs : List Nat} (h : vs[i]? = some v) : mvRow l L d i (vs.drop i) xs = mvRow l L d (i + 1) (vs.drop (i + 1)) (slPut xs l L d i v).1 := by
  obtain ⟨hj, rfl⟩ := List.getElem?_eq_some_iff.1 h
  rw [List.drop_eq_getElem_cons hj]; rfl
theorem mvRows_at {l : Fns} {L : List FrV} {d : Nat} {rs : List (List VlV)} {r : List VlV} {xs : List Nat} (h : rs[d]? = some r) : mvRows l L d (rs.drop d) xs = mvRows l L (d + 1) (rs.drop (d + 1)) (mvRow l L d 0 r xs) := by
  obtain ⟨hj, rfl⟩ := List.getElem?_eq_some_iff.1 h
  rw [List.drop_eq_getElem_cons hj]; rfl
theorem mvRow_length (l : Fns) (L : List FrV) (d : Nat) : ∀ (vs : List VlV) (i : Nat) (xs : List Nat), (mvRow l L d i vs xs).length = xs.length
  | [], _, _ => rfl
  | v :: r, i, xs => by unfold mvRow; rw [mvRow_length l L d r, slPut_length]
theorem layGo_length (l : Fns) (lo : Int) (hl : ∀ x ∈ l, 0 ≤ x.1 ∧ x.1 ≤ 1000) : ∀ (fs : List Int) (xs : List Nat) (sp link : Int), (layGo l lo fs xs sp link).1.length = xs.length
  | [], _, _, _ => rfl
  | f :: r, xs, sp, link => by
    unfold layGo
    split
    · rw [layGo_length l lo hl r, frPush_len _ _ _ _ _ _ hl]
    · rfl
theorem ref_plain (x : Int) (w : World) (h : 0 ≤ x ∧ x ≤ 1000000) : Calls Tryz.prog 53 #[.int .i64 x] w fun e w' => e = .returned (.bool true) ∧ w = w' := by
  obtain ⟨h0, h1⟩ := h
  have h2 : x ≤ 1099511627776 := by omega
  go_enter Tryz.func53, Tryz.ntmps53
  go_wp2
  go_ret
  exact ⟨by (first | rfl | simp [h0, h2]), rfl⟩
theorem ref_mvfits (s x : StV) (w : World) (h0 : 0 ≤ s.lo ∧ s.lo ≤ 1000000) (h1 : 16 ≤ s.size ∧ s.size ≤ 1000000) (h2 : 0 ≤ x.lo ∧ x.lo ≤ 1000000) (h3 : 16 ≤ x.size ∧ x.size ≤ 1000000) (b : Bool) (hb : mvFits s x = b) :
    Calls Tryz.prog 24 #[stC s, stC x] w fun e w' => e = .returned (.bool b) ∧ Below w.heap.size w w' := by
  obtain ⟨lo, size, sp⟩ := s
  obtain ⟨lo2, size2, sp2⟩ := x
  simp only at h0 h1 h2 h3
  have p0 := fun W => ref_plain lo W h0
  have p1 := fun W => ref_plain size W (by omega)
  have p2 := fun W => ref_plain lo2 W h2
  have p3 := fun W => ref_plain size2 W (by omega)
  unfold mvFits at hb
  simp only at hb
  unfold stC
  simp only
  have hbW := hidb (belF_al (belF_al (Below.refl w.heap.size w) (.cells #[.int .i64 lo, .int .i64 size, .int .i64 sp] 25)) (.cells #[.int .i64 lo2, .int .i64 size2, .int .i64 sp2] 25))
  have e1 : (size == 0) = false := by simp; omega
  have e2 : (size2 == 0) = false := by simp; omega
  by_cases c1 : lo + size ≤ lo2
  · rw [decide_eq_true (Or.inl c1)] at hb
    subst hb
    --@1
    go_enter Tryz.func24, Tryz.ntmps24
    go_wp2_with (first
      | (go_at_call 53; (with_reducible refine (p0 _).mono ?_); rintro e w1 ⟨rfl, rfl⟩)
      | (go_at_call 53; (with_reducible refine (p1 _).mono ?_); rintro e w1 ⟨rfl, rfl⟩)
      | (go_at_call 53; (with_reducible refine (p2 _).mono ?_); rintro e w1 ⟨rfl, rfl⟩)
      | (go_at_call 53; (with_reducible refine (p3 _).mono ?_); rintro e w1 ⟨rfl, rfl⟩))
    go_ret
    exact ⟨by (first | rfl | simp [c1]), hbW.out⟩
  · have hb2 : decide (lo2 + size2 ≤ lo) = b := by rw [← hb, decide_eq_decide]; omega
    clear hb
    --@2
    go_enter Tryz.func24, Tryz.ntmps24
    go_wp2_with (first
      | (go_at_call 53; (with_reducible refine (p0 _).mono ?_); rintro e w1 ⟨rfl, rfl⟩)
      | (go_at_call 53; (with_reducible refine (p1 _).mono ?_); rintro e w1 ⟨rfl, rfl⟩)
      | (go_at_call 53; (with_reducible refine (p2 _).mono ?_); rintro e w1 ⟨rfl, rfl⟩)
      | (go_at_call 53; (with_reducible refine (p3 _).mono ?_); rintro e w1 ⟨rfl, rfl⟩))
    go_ret
    exact ⟨by
      rw [← hb2]
      show Ending.returned (.bool (decide (lo + size ≤ lo2) || decide (lo2 + size2 ≤ lo))) = _
      rw [decide_eq_false (show ¬ (lo + size ≤ lo2) by omega), Bool.false_or], hbW.out⟩
end Go.Proofs.YtlniakcoikhilaaGreatDoor

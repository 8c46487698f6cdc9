/- What the document's own 'edge' (layer 2) returns: where it answers, just what the operation comes to. Written by wip/tools/gen_fedge.py. -/
import Derived.Test.YtdcnpaodcjfdbaaGreatDoorFloatRef
namespace Go.Proofs.YtdcnpaodcjfdbaaGreatDoor
open Go.RowKit
set_option linter.unusedVariables false

set_option maxRecDepth 100000 in
set_option maxHeartbeats 4000000 in
theorem ref_edge1 (a b : Nat) (w : World) (ha : a < 18446744073709551616) (hb : b < 18446744073709551616) :
    Calls Tryz.prog 90 #[.int .u8 1, .int .u64 (a : Int), .int .u64 (b : Int)] w fun e w' => EdgeOf 1 a b e ∧ w = w' := by
  have ca := fun W => ref_fclass a W ha
  have cb := fun W => ref_fclass b W hb
  have na := fun W => ref_fbelow a W ha
  have nb := fun W => ref_fbelow b W hb
  have l1 := fun W => ref_fless a b W ha hb
  have l2 := fun W => ref_fless b a W hb ha
  have ra := fCls_range a
  have rb := fCls_range b
  obtain ⟨m, hm⟩ : ∃ m : Int, (fCls a : Int) = m := ⟨_, rfl⟩
  obtain ⟨k, hk⟩ : ∃ k : Int, (fCls b : Int) = k := ⟨_, rfl⟩
  obtain ⟨x, hx⟩ : ∃ x : Int, (a : Int) = x := ⟨_, rfl⟩
  obtain ⟨y, hy⟩ : ∃ y : Int, (b : Int) = y := ⟨_, rfl⟩
  have s9 := fun s W => ref_fsigned a s W ha
  have s2 := fun s W => ref_fsigned b s W hb
  rw [hm, hx] at ca; rw [hk, hy] at cb; rw [hx] at na s9; rw [hy] at nb s2; rw [hx, hy] at l1 l2; rw [hx, hy]
  have HX := hidf hx; clear hx
  have HY := hidf hy; clear hy
  have HM := hidf hm; clear hm
  have HK := hidf hk; clear hk
  by_cases m1 : m = 1
  · subst m1
    go_enter Tryz.func90, Tryz.ntmps90
    go_wp2_with (first
      | (go_at_call 113; first | ((with_reducible refine (ca _).mono ?_); rintro e w' ⟨rfl, rfl⟩) | ((with_reducible refine (cb _).mono ?_); rintro e w' ⟨rfl, rfl⟩))
      | (go_at_call 116; refine (ref_fnan _).mono ?_; rintro e w' ⟨rfl, rfl⟩))
    go_ret2
    exact ⟨edge_is 1 a b (fNaN) _ (rfl) (by decide) (calc_nan 1 a b ha hb (by omega) (Or.inl (by have := HM.out; omega))), rfl⟩
  have m1' : (m == 1) = false := by simpa using m1
  by_cases k1 : k = 1
  · subst k1
    go_enter Tryz.func90, Tryz.ntmps90
    go_wp2_with (first
      | (go_at_call 113; first | ((with_reducible refine (ca _).mono ?_); rintro e w' ⟨rfl, rfl⟩) | ((with_reducible refine (cb _).mono ?_); rintro e w' ⟨rfl, rfl⟩))
      | (go_at_call 116; refine (ref_fnan _).mono ?_; rintro e w' ⟨rfl, rfl⟩))
    go_ret2
    exact ⟨edge_is 1 a b (fNaN) _ (rfl) (by decide) (calc_nan 1 a b ha hb (by omega) (Or.inr (by have := HK.out; omega))), rfl⟩
  have k1' : (k == 1) = false := by simpa using k1
  by_cases m2 : m = 2
  · subst m2
    by_cases k2 : k = 2
    · subst k2
      have E := add_inf_inf a b ha hb (by have := HM.out; omega) (by have := HK.out; omega)
      cases g1 : fNeg a <;> rw [g1] at na E <;> cases g2 : fNeg b <;> rw [g2] at nb E <;> clear g1 g2
      · have E := hidf E
        go_enter Tryz.func90, Tryz.ntmps90
        go_wp2_with (first
          | (go_at_call 113; first | ((with_reducible refine (ca _).mono ?_); rintro e w' ⟨rfl, rfl⟩) | ((with_reducible refine (cb _).mono ?_); rintro e w' ⟨rfl, rfl⟩))
          | (go_at_call 117; first | ((with_reducible refine (na _).mono ?_); rintro e w' ⟨rfl, rfl⟩) | ((with_reducible refine (nb _).mono ?_); rintro e w' ⟨rfl, rfl⟩))
          | (go_at_call 116; refine (ref_fnan _).mono ?_; rintro e w' ⟨rfl, rfl⟩))
        go_ret2
        exact ⟨edge_is 1 a b (a) _ (HX.out.symm) (ha) (by rw [calc1, E.out]; exact (canon_of (by rw [show fCls a = 2 from (by have := HM.out; omega)]; decide)).symm), rfl⟩
      · have E := hidf E
        go_enter Tryz.func90, Tryz.ntmps90
        go_wp2_with (first
          | (go_at_call 113; first | ((with_reducible refine (ca _).mono ?_); rintro e w' ⟨rfl, rfl⟩) | ((with_reducible refine (cb _).mono ?_); rintro e w' ⟨rfl, rfl⟩))
          | (go_at_call 117; first | ((with_reducible refine (na _).mono ?_); rintro e w' ⟨rfl, rfl⟩) | ((with_reducible refine (nb _).mono ?_); rintro e w' ⟨rfl, rfl⟩))
          | (go_at_call 116; refine (ref_fnan _).mono ?_; rintro e w' ⟨rfl, rfl⟩))
        go_ret2
        exact ⟨edge_is 1 a b (fNaN) _ (rfl) (by decide) (by rw [calc1, E.out]; rfl), rfl⟩
      · have E := hidf E
        go_enter Tryz.func90, Tryz.ntmps90
        go_wp2_with (first
          | (go_at_call 113; first | ((with_reducible refine (ca _).mono ?_); rintro e w' ⟨rfl, rfl⟩) | ((with_reducible refine (cb _).mono ?_); rintro e w' ⟨rfl, rfl⟩))
          | (go_at_call 117; first | ((with_reducible refine (na _).mono ?_); rintro e w' ⟨rfl, rfl⟩) | ((with_reducible refine (nb _).mono ?_); rintro e w' ⟨rfl, rfl⟩))
          | (go_at_call 116; refine (ref_fnan _).mono ?_; rintro e w' ⟨rfl, rfl⟩))
        go_ret2
        exact ⟨edge_is 1 a b (fNaN) _ (rfl) (by decide) (by rw [calc1, E.out]; rfl), rfl⟩
      · have E := hidf E
        go_enter Tryz.func90, Tryz.ntmps90
        go_wp2_with (first
          | (go_at_call 113; first | ((with_reducible refine (ca _).mono ?_); rintro e w' ⟨rfl, rfl⟩) | ((with_reducible refine (cb _).mono ?_); rintro e w' ⟨rfl, rfl⟩))
          | (go_at_call 117; first | ((with_reducible refine (na _).mono ?_); rintro e w' ⟨rfl, rfl⟩) | ((with_reducible refine (nb _).mono ?_); rintro e w' ⟨rfl, rfl⟩))
          | (go_at_call 116; refine (ref_fnan _).mono ?_; rintro e w' ⟨rfl, rfl⟩))
        go_ret2
        exact ⟨edge_is 1 a b (a) _ (HX.out.symm) (ha) (by rw [calc1, E.out]; exact (canon_of (by rw [show fCls a = 2 from (by have := HM.out; omega)]; decide)).symm), rfl⟩
    · have k2' : (k == 2) = false := by simpa using k2
      go_enter Tryz.func90, Tryz.ntmps90
      go_wp2_with (first
        | (go_at_call 113; first | ((with_reducible refine (ca _).mono ?_); rintro e w' ⟨rfl, rfl⟩) | ((with_reducible refine (cb _).mono ?_); rintro e w' ⟨rfl, rfl⟩))
        | (go_at_call 117; first | ((with_reducible refine (na _).mono ?_); rintro e w' ⟨rfl, rfl⟩) | ((with_reducible refine (nb _).mono ?_); rintro e w' ⟨rfl, rfl⟩)))
      go_ret2
      exact ⟨edge_is 1 a b (a) _ (HX.out.symm) (ha) (by rw [calc1, add_inf_fin a b ha hb (by have := HM.out; omega) (by have := HK.out; omega)]; exact (canon_of (by rw [show fCls a = 2 from (by have := HM.out; omega)]; decide)).symm), rfl⟩
  have m2' : (m == 2) = false := by simpa using m2
  by_cases k2 : k = 2
  · subst k2
    go_enter Tryz.func90, Tryz.ntmps90
    go_wp2_with (first
      | (go_at_call 113; first | ((with_reducible refine (ca _).mono ?_); rintro e w' ⟨rfl, rfl⟩) | ((with_reducible refine (cb _).mono ?_); rintro e w' ⟨rfl, rfl⟩))
      | (go_at_call 117; first | ((with_reducible refine (na _).mono ?_); rintro e w' ⟨rfl, rfl⟩) | ((with_reducible refine (nb _).mono ?_); rintro e w' ⟨rfl, rfl⟩)))
    go_ret2
    exact ⟨edge_is 1 a b (b) _ (HY.out.symm) (hb) (by rw [calc1, add_fin_inf a b ha hb (by have := HM.out; omega) (by have := HK.out; omega)]; exact (canon_of (by rw [show fCls b = 2 from (by have := HK.out; omega)]; decide)).symm), rfl⟩
  have k2' : (k == 2) = false := by simpa using k2
  by_cases m3 : m = 3
  · subst m3
    by_cases k3 : k = 3
    · subst k3
      have E := add_zero_zero a b ha hb (by have := HM.out; omega) (by have := HK.out; omega)
      cases g1 : fNeg a <;> rw [g1] at na E <;> cases g2 : fNeg b <;> rw [g2] at nb E <;> clear g1 g2
      · have E := hidf E
        go_enter Tryz.func90, Tryz.ntmps90
        go_wp2_with (first
          | (go_at_call 113; first | ((with_reducible refine (ca _).mono ?_); rintro e w' ⟨rfl, rfl⟩) | ((with_reducible refine (cb _).mono ?_); rintro e w' ⟨rfl, rfl⟩))
          | (go_at_call 117; first | ((with_reducible refine (na _).mono ?_); rintro e w' ⟨rfl, rfl⟩) | ((with_reducible refine (nb _).mono ?_); rintro e w' ⟨rfl, rfl⟩))
          | (go_at_call 118; refine (ref_fsigned 0 _ _ (by omega)).mono ?_; rintro e w' ⟨rfl, rfl⟩))
        go_ret2
        exact ⟨edge_is 1 a b (fSigned 0 false) _ (rfl) (by decide) (by rw [calc1, E.out]; rfl), rfl⟩
      · have E := hidf E
        go_enter Tryz.func90, Tryz.ntmps90
        go_wp2_with (first
          | (go_at_call 113; first | ((with_reducible refine (ca _).mono ?_); rintro e w' ⟨rfl, rfl⟩) | ((with_reducible refine (cb _).mono ?_); rintro e w' ⟨rfl, rfl⟩))
          | (go_at_call 117; first | ((with_reducible refine (na _).mono ?_); rintro e w' ⟨rfl, rfl⟩) | ((with_reducible refine (nb _).mono ?_); rintro e w' ⟨rfl, rfl⟩))
          | (go_at_call 118; refine (ref_fsigned 0 _ _ (by omega)).mono ?_; rintro e w' ⟨rfl, rfl⟩))
        go_ret2
        exact ⟨edge_is 1 a b (fSigned 0 false) _ (rfl) (by decide) (by rw [calc1, E.out]; rfl), rfl⟩
      · have E := hidf E
        go_enter Tryz.func90, Tryz.ntmps90
        go_wp2_with (first
          | (go_at_call 113; first | ((with_reducible refine (ca _).mono ?_); rintro e w' ⟨rfl, rfl⟩) | ((with_reducible refine (cb _).mono ?_); rintro e w' ⟨rfl, rfl⟩))
          | (go_at_call 117; first | ((with_reducible refine (na _).mono ?_); rintro e w' ⟨rfl, rfl⟩) | ((with_reducible refine (nb _).mono ?_); rintro e w' ⟨rfl, rfl⟩))
          | (go_at_call 118; refine (ref_fsigned 0 _ _ (by omega)).mono ?_; rintro e w' ⟨rfl, rfl⟩))
        go_ret2
        exact ⟨edge_is 1 a b (fSigned 0 false) _ (rfl) (by decide) (by rw [calc1, E.out]; rfl), rfl⟩
      · have E := hidf E
        go_enter Tryz.func90, Tryz.ntmps90
        go_wp2_with (first
          | (go_at_call 113; first | ((with_reducible refine (ca _).mono ?_); rintro e w' ⟨rfl, rfl⟩) | ((with_reducible refine (cb _).mono ?_); rintro e w' ⟨rfl, rfl⟩))
          | (go_at_call 117; first | ((with_reducible refine (na _).mono ?_); rintro e w' ⟨rfl, rfl⟩) | ((with_reducible refine (nb _).mono ?_); rintro e w' ⟨rfl, rfl⟩))
          | (go_at_call 118; refine (ref_fsigned 0 _ _ (by omega)).mono ?_; rintro e w' ⟨rfl, rfl⟩))
        go_ret2
        exact ⟨edge_is 1 a b (fSigned 0 true) _ (rfl) (by decide) (by rw [calc1, E.out]; rfl), rfl⟩
    · have k3' : (k == 3) = false := by simpa using k3
      go_enter Tryz.func90, Tryz.ntmps90
      go_wp2_with (first
        | (go_at_call 113; first | ((with_reducible refine (ca _).mono ?_); rintro e w' ⟨rfl, rfl⟩) | ((with_reducible refine (cb _).mono ?_); rintro e w' ⟨rfl, rfl⟩))
        | (go_at_call 117; first | ((with_reducible refine (na _).mono ?_); rintro e w' ⟨rfl, rfl⟩) | ((with_reducible refine (nb _).mono ?_); rintro e w' ⟨rfl, rfl⟩)))
      go_ret2
      exact ⟨edge_no 1 a b (by omega), rfl⟩
  · have m3' : (m == 3) = false := by simpa using m3
    go_enter Tryz.func90, Tryz.ntmps90
    go_wp2_with (first
      | (go_at_call 113; first | ((with_reducible refine (ca _).mono ?_); rintro e w' ⟨rfl, rfl⟩) | ((with_reducible refine (cb _).mono ?_); rintro e w' ⟨rfl, rfl⟩))
      | (go_at_call 117; first | ((with_reducible refine (na _).mono ?_); rintro e w' ⟨rfl, rfl⟩) | ((with_reducible refine (nb _).mono ?_); rintro e w' ⟨rfl, rfl⟩)))
    go_ret2
    exact ⟨edge_no 1 a b (by omega), rfl⟩

set_option maxRecDepth 100000 in
set_option maxHeartbeats 4000000 in
theorem ref_edge2 (a b : Nat) (w : World) (ha : a < 18446744073709551616) (hb : b < 18446744073709551616) :
    Calls Tryz.prog 90 #[.int .u8 2, .int .u64 (a : Int), .int .u64 (b : Int)] w fun e w' => EdgeOf 2 a b e ∧ w = w' := by
  have ca := fun W => ref_fclass a W ha
  have cb := fun W => ref_fclass b W hb
  have na := fun W => ref_fbelow a W ha
  have nb := fun W => ref_fbelow b W hb
  have l1 := fun W => ref_fless a b W ha hb
  have l2 := fun W => ref_fless b a W hb ha
  have ra := fCls_range a
  have rb := fCls_range b
  obtain ⟨m, hm⟩ : ∃ m : Int, (fCls a : Int) = m := ⟨_, rfl⟩
  obtain ⟨k, hk⟩ : ∃ k : Int, (fCls b : Int) = k := ⟨_, rfl⟩
  obtain ⟨x, hx⟩ : ∃ x : Int, (a : Int) = x := ⟨_, rfl⟩
  obtain ⟨y, hy⟩ : ∃ y : Int, (b : Int) = y := ⟨_, rfl⟩
  have s9 := fun s W => ref_fsigned a s W ha
  have s2 := fun s W => ref_fsigned b s W hb
  rw [hm, hx] at ca; rw [hk, hy] at cb; rw [hx] at na s9; rw [hy] at nb s2; rw [hx, hy] at l1 l2; rw [hx, hy]
  have HX := hidf hx; clear hx
  have HY := hidf hy; clear hy
  have HM := hidf hm; clear hm
  have HK := hidf hk; clear hk
  by_cases m1 : m = 1
  · subst m1
    go_enter Tryz.func90, Tryz.ntmps90
    go_wp2_with (first
      | (go_at_call 113; first | ((with_reducible refine (ca _).mono ?_); rintro e w' ⟨rfl, rfl⟩) | ((with_reducible refine (cb _).mono ?_); rintro e w' ⟨rfl, rfl⟩))
      | (go_at_call 116; refine (ref_fnan _).mono ?_; rintro e w' ⟨rfl, rfl⟩))
    go_ret2
    exact ⟨edge_is 2 a b (fNaN) _ (rfl) (by decide) (calc_nan 2 a b ha hb (by omega) (Or.inl (by have := HM.out; omega))), rfl⟩
  have m1' : (m == 1) = false := by simpa using m1
  by_cases k1 : k = 1
  · subst k1
    go_enter Tryz.func90, Tryz.ntmps90
    go_wp2_with (first
      | (go_at_call 113; first | ((with_reducible refine (ca _).mono ?_); rintro e w' ⟨rfl, rfl⟩) | ((with_reducible refine (cb _).mono ?_); rintro e w' ⟨rfl, rfl⟩))
      | (go_at_call 116; refine (ref_fnan _).mono ?_; rintro e w' ⟨rfl, rfl⟩))
    go_ret2
    exact ⟨edge_is 2 a b (fNaN) _ (rfl) (by decide) (calc_nan 2 a b ha hb (by omega) (Or.inr (by have := HK.out; omega))), rfl⟩
  have k1' : (k == 1) = false := by simpa using k1
  have c1 := fun W => ref_edge1 a (fFlip b) W ha (flip_lt b)
  rw [HX.out, ← signed_flip b] at c1
  go_enter Tryz.func90, Tryz.ntmps90
  go_wp2_with (first
    | (go_at_call 113; first | ((with_reducible refine (ca _).mono ?_); rintro e w' ⟨rfl, rfl⟩) | ((with_reducible refine (cb _).mono ?_); rintro e w' ⟨rfl, rfl⟩))
    | (go_at_call 117; first | ((with_reducible refine (na _).mono ?_); rintro e w' ⟨rfl, rfl⟩) | ((with_reducible refine (nb _).mono ?_); rintro e w' ⟨rfl, rfl⟩))
    | (go_at_call 118; (with_reducible refine (s2 _ _).mono ?_); rintro e w' ⟨rfl, rfl⟩)
    | (go_at_call 90; (with_reducible refine (c1 _).mono ?_); rintro e w' ⟨⟨r, ok, rfl, h1, h2, h3⟩, rfl⟩))
  go_ret2
  exact ⟨⟨r, ok, rfl, h1, fun h => by rw [h2 h, calc1, calc2, sub_flip a b hb, signed_flip], fun h => by omega⟩, rfl⟩

set_option maxRecDepth 100000 in
set_option maxHeartbeats 4000000 in
theorem ref_edge3 (a b : Nat) (w : World) (ha : a < 18446744073709551616) (hb : b < 18446744073709551616) :
    Calls Tryz.prog 90 #[.int .u8 3, .int .u64 (a : Int), .int .u64 (b : Int)] w fun e w' => EdgeOf 3 a b e ∧ w = w' := by
  have ca := fun W => ref_fclass a W ha
  have cb := fun W => ref_fclass b W hb
  have na := fun W => ref_fbelow a W ha
  have nb := fun W => ref_fbelow b W hb
  have l1 := fun W => ref_fless a b W ha hb
  have l2 := fun W => ref_fless b a W hb ha
  have ra := fCls_range a
  have rb := fCls_range b
  obtain ⟨m, hm⟩ : ∃ m : Int, (fCls a : Int) = m := ⟨_, rfl⟩
  obtain ⟨k, hk⟩ : ∃ k : Int, (fCls b : Int) = k := ⟨_, rfl⟩
  obtain ⟨x, hx⟩ : ∃ x : Int, (a : Int) = x := ⟨_, rfl⟩
  obtain ⟨y, hy⟩ : ∃ y : Int, (b : Int) = y := ⟨_, rfl⟩
  have s9 := fun s W => ref_fsigned a s W ha
  have s2 := fun s W => ref_fsigned b s W hb
  rw [hm, hx] at ca; rw [hk, hy] at cb; rw [hx] at na s9; rw [hy] at nb s2; rw [hx, hy] at l1 l2; rw [hx, hy]
  have HX := hidf hx; clear hx
  have HY := hidf hy; clear hy
  have HM := hidf hm; clear hm
  have HK := hidf hk; clear hk
  by_cases m1 : m = 1
  · subst m1
    go_enter Tryz.func90, Tryz.ntmps90
    go_wp2_with (first
      | (go_at_call 113; first | ((with_reducible refine (ca _).mono ?_); rintro e w' ⟨rfl, rfl⟩) | ((with_reducible refine (cb _).mono ?_); rintro e w' ⟨rfl, rfl⟩))
      | (go_at_call 116; refine (ref_fnan _).mono ?_; rintro e w' ⟨rfl, rfl⟩))
    go_ret2
    exact ⟨edge_is 3 a b (fNaN) _ (rfl) (by decide) (calc_nan 3 a b ha hb (by omega) (Or.inl (by have := HM.out; omega))), rfl⟩
  have m1' : (m == 1) = false := by simpa using m1
  by_cases k1 : k = 1
  · subst k1
    go_enter Tryz.func90, Tryz.ntmps90
    go_wp2_with (first
      | (go_at_call 113; first | ((with_reducible refine (ca _).mono ?_); rintro e w' ⟨rfl, rfl⟩) | ((with_reducible refine (cb _).mono ?_); rintro e w' ⟨rfl, rfl⟩))
      | (go_at_call 116; refine (ref_fnan _).mono ?_; rintro e w' ⟨rfl, rfl⟩))
    go_ret2
    exact ⟨edge_is 3 a b (fNaN) _ (rfl) (by decide) (calc_nan 3 a b ha hb (by omega) (Or.inr (by have := HK.out; omega))), rfl⟩
  have k1' : (k == 1) = false := by simpa using k1
  by_cases m2 : m = 2
  · subst m2
    by_cases k3 : k = 3
    · subst k3
      go_enter Tryz.func90, Tryz.ntmps90
      go_wp2_with (first
        | (go_at_call 113; first | ((with_reducible refine (ca _).mono ?_); rintro e w' ⟨rfl, rfl⟩) | ((with_reducible refine (cb _).mono ?_); rintro e w' ⟨rfl, rfl⟩))
        | (go_at_call 117; first | ((with_reducible refine (na _).mono ?_); rintro e w' ⟨rfl, rfl⟩) | ((with_reducible refine (nb _).mono ?_); rintro e w' ⟨rfl, rfl⟩))
        | (go_at_call 116; refine (ref_fnan _).mono ?_; rintro e w' ⟨rfl, rfl⟩))
      go_ret2
      exact ⟨edge_is 3 a b (fNaN) _ (rfl) (by decide) (by rw [calc3, mul_inf_zero a b ha hb (by have := HM.out; have := HK.out; omega)]; rfl), rfl⟩
    · have k3' : (k == 3) = false := by simpa using k3
      go_enter Tryz.func90, Tryz.ntmps90
      go_wp2_with (first
        | (go_at_call 113; first | ((with_reducible refine (ca _).mono ?_); rintro e w' ⟨rfl, rfl⟩) | ((with_reducible refine (cb _).mono ?_); rintro e w' ⟨rfl, rfl⟩))
        | (go_at_call 117; first | ((with_reducible refine (na _).mono ?_); rintro e w' ⟨rfl, rfl⟩) | ((with_reducible refine (nb _).mono ?_); rintro e w' ⟨rfl, rfl⟩))
        | (go_at_call 118; refine (ref_fsigned 9218868437227405312 _ _ (by omega)).mono ?_; rintro e w' ⟨rfl, rfl⟩))
      go_ret2
      exact ⟨edge_is 3 a b (fSigned 9218868437227405312 (fNeg a != fNeg b)) _ (rfl) (signed_lt _ _) (by rw [calc3, mul_inf a b ha hb (by have := HM.out; have := HK.out; omega) (by have := HM.out; have := HK.out; omega) (by have := HM.out; have := HK.out; omega) (by have := HM.out; have := HK.out; omega) (by have := HM.out; have := HK.out; omega)]; cases fNeg a <;> cases fNeg b <;> rfl), rfl⟩
  have m2' : (m == 2) = false := by simpa using m2
  by_cases m3 : m = 3
  · subst m3
    by_cases k2 : k = 2
    · subst k2
      go_enter Tryz.func90, Tryz.ntmps90
      go_wp2_with (first
        | (go_at_call 113; first | ((with_reducible refine (ca _).mono ?_); rintro e w' ⟨rfl, rfl⟩) | ((with_reducible refine (cb _).mono ?_); rintro e w' ⟨rfl, rfl⟩))
        | (go_at_call 117; first | ((with_reducible refine (na _).mono ?_); rintro e w' ⟨rfl, rfl⟩) | ((with_reducible refine (nb _).mono ?_); rintro e w' ⟨rfl, rfl⟩))
        | (go_at_call 116; refine (ref_fnan _).mono ?_; rintro e w' ⟨rfl, rfl⟩))
      go_ret2
      exact ⟨edge_is 3 a b (fNaN) _ (rfl) (by decide) (by rw [calc3, mul_inf_zero a b ha hb (by have := HM.out; have := HK.out; omega)]; rfl), rfl⟩
    · have k2' : (k == 2) = false := by simpa using k2
      go_enter Tryz.func90, Tryz.ntmps90
      go_wp2_with (first
        | (go_at_call 113; first | ((with_reducible refine (ca _).mono ?_); rintro e w' ⟨rfl, rfl⟩) | ((with_reducible refine (cb _).mono ?_); rintro e w' ⟨rfl, rfl⟩))
        | (go_at_call 117; first | ((with_reducible refine (na _).mono ?_); rintro e w' ⟨rfl, rfl⟩) | ((with_reducible refine (nb _).mono ?_); rintro e w' ⟨rfl, rfl⟩))
        | (go_at_call 118; refine (ref_fsigned 0 _ _ (by omega)).mono ?_; rintro e w' ⟨rfl, rfl⟩))
      go_ret2
      exact ⟨edge_is 3 a b (fSigned 0 (fNeg a != fNeg b)) _ (rfl) (signed_lt _ _) (by rw [calc3, mul_zero a b ha hb (by have := HM.out; have := HK.out; omega) (by have := HM.out; have := HK.out; omega) (by have := HM.out; have := HK.out; omega)]; cases fNeg a <;> cases fNeg b <;> rfl), rfl⟩
  have m3' : (m == 3) = false := by simpa using m3
  by_cases k2 : k = 2
  · subst k2
    go_enter Tryz.func90, Tryz.ntmps90
    go_wp2_with (first
      | (go_at_call 113; first | ((with_reducible refine (ca _).mono ?_); rintro e w' ⟨rfl, rfl⟩) | ((with_reducible refine (cb _).mono ?_); rintro e w' ⟨rfl, rfl⟩))
      | (go_at_call 117; first | ((with_reducible refine (na _).mono ?_); rintro e w' ⟨rfl, rfl⟩) | ((with_reducible refine (nb _).mono ?_); rintro e w' ⟨rfl, rfl⟩))
      | (go_at_call 118; refine (ref_fsigned 9218868437227405312 _ _ (by omega)).mono ?_; rintro e w' ⟨rfl, rfl⟩))
    go_ret2
    exact ⟨edge_is 3 a b (fSigned 9218868437227405312 (fNeg a != fNeg b)) _ (rfl) (signed_lt _ _) (by rw [calc3, mul_inf a b ha hb (by have := HM.out; have := HK.out; omega) (by have := HM.out; have := HK.out; omega) (by have := HM.out; have := HK.out; omega) (by have := HM.out; have := HK.out; omega) (by have := HM.out; have := HK.out; omega)]; cases fNeg a <;> cases fNeg b <;> rfl), rfl⟩
  have k2' : (k == 2) = false := by simpa using k2
  by_cases k3 : k = 3
  · subst k3
    go_enter Tryz.func90, Tryz.ntmps90
    go_wp2_with (first
      | (go_at_call 113; first | ((with_reducible refine (ca _).mono ?_); rintro e w' ⟨rfl, rfl⟩) | ((with_reducible refine (cb _).mono ?_); rintro e w' ⟨rfl, rfl⟩))
      | (go_at_call 117; first | ((with_reducible refine (na _).mono ?_); rintro e w' ⟨rfl, rfl⟩) | ((with_reducible refine (nb _).mono ?_); rintro e w' ⟨rfl, rfl⟩))
      | (go_at_call 118; refine (ref_fsigned 0 _ _ (by omega)).mono ?_; rintro e w' ⟨rfl, rfl⟩))
    go_ret2
    exact ⟨edge_is 3 a b (fSigned 0 (fNeg a != fNeg b)) _ (rfl) (signed_lt _ _) (by rw [calc3, mul_zero a b ha hb (by have := HM.out; have := HK.out; omega) (by have := HM.out; have := HK.out; omega) (by have := HM.out; have := HK.out; omega)]; cases fNeg a <;> cases fNeg b <;> rfl), rfl⟩
  · have k3' : (k == 3) = false := by simpa using k3
    go_enter Tryz.func90, Tryz.ntmps90
    go_wp2_with (first
      | (go_at_call 113; first | ((with_reducible refine (ca _).mono ?_); rintro e w' ⟨rfl, rfl⟩) | ((with_reducible refine (cb _).mono ?_); rintro e w' ⟨rfl, rfl⟩))
      | (go_at_call 117; first | ((with_reducible refine (na _).mono ?_); rintro e w' ⟨rfl, rfl⟩) | ((with_reducible refine (nb _).mono ?_); rintro e w' ⟨rfl, rfl⟩)))
    go_ret2
    exact ⟨edge_no 3 a b (by omega), rfl⟩

set_option maxRecDepth 100000 in
set_option maxHeartbeats 4000000 in
theorem ref_edge4 (a b : Nat) (w : World) (ha : a < 18446744073709551616) (hb : b < 18446744073709551616) :
    Calls Tryz.prog 90 #[.int .u8 4, .int .u64 (a : Int), .int .u64 (b : Int)] w fun e w' => EdgeOf 4 a b e ∧ w = w' := by
  have ca := fun W => ref_fclass a W ha
  have cb := fun W => ref_fclass b W hb
  have na := fun W => ref_fbelow a W ha
  have nb := fun W => ref_fbelow b W hb
  have l1 := fun W => ref_fless a b W ha hb
  have l2 := fun W => ref_fless b a W hb ha
  have ra := fCls_range a
  have rb := fCls_range b
  obtain ⟨m, hm⟩ : ∃ m : Int, (fCls a : Int) = m := ⟨_, rfl⟩
  obtain ⟨k, hk⟩ : ∃ k : Int, (fCls b : Int) = k := ⟨_, rfl⟩
  obtain ⟨x, hx⟩ : ∃ x : Int, (a : Int) = x := ⟨_, rfl⟩
  obtain ⟨y, hy⟩ : ∃ y : Int, (b : Int) = y := ⟨_, rfl⟩
  have s9 := fun s W => ref_fsigned a s W ha
  have s2 := fun s W => ref_fsigned b s W hb
  rw [hm, hx] at ca; rw [hk, hy] at cb; rw [hx] at na s9; rw [hy] at nb s2; rw [hx, hy] at l1 l2; rw [hx, hy]
  have HX := hidf hx; clear hx
  have HY := hidf hy; clear hy
  have HM := hidf hm; clear hm
  have HK := hidf hk; clear hk
  by_cases m1 : m = 1
  · subst m1
    go_enter Tryz.func90, Tryz.ntmps90
    go_wp2_with (first
      | (go_at_call 113; first | ((with_reducible refine (ca _).mono ?_); rintro e w' ⟨rfl, rfl⟩) | ((with_reducible refine (cb _).mono ?_); rintro e w' ⟨rfl, rfl⟩))
      | (go_at_call 116; refine (ref_fnan _).mono ?_; rintro e w' ⟨rfl, rfl⟩))
    go_ret2
    exact ⟨edge_is 4 a b (fNaN) _ (rfl) (by decide) (calc_nan 4 a b ha hb (by omega) (Or.inl (by have := HM.out; omega))), rfl⟩
  have m1' : (m == 1) = false := by simpa using m1
  by_cases k1 : k = 1
  · subst k1
    go_enter Tryz.func90, Tryz.ntmps90
    go_wp2_with (first
      | (go_at_call 113; first | ((with_reducible refine (ca _).mono ?_); rintro e w' ⟨rfl, rfl⟩) | ((with_reducible refine (cb _).mono ?_); rintro e w' ⟨rfl, rfl⟩))
      | (go_at_call 116; refine (ref_fnan _).mono ?_; rintro e w' ⟨rfl, rfl⟩))
    go_ret2
    exact ⟨edge_is 4 a b (fNaN) _ (rfl) (by decide) (calc_nan 4 a b ha hb (by omega) (Or.inr (by have := HK.out; omega))), rfl⟩
  have k1' : (k == 1) = false := by simpa using k1
  by_cases m2 : m = 2
  · subst m2
    by_cases k2 : k = 2
    · subst k2
      go_enter Tryz.func90, Tryz.ntmps90
      go_wp2_with (first
        | (go_at_call 113; first | ((with_reducible refine (ca _).mono ?_); rintro e w' ⟨rfl, rfl⟩) | ((with_reducible refine (cb _).mono ?_); rintro e w' ⟨rfl, rfl⟩))
        | (go_at_call 117; first | ((with_reducible refine (na _).mono ?_); rintro e w' ⟨rfl, rfl⟩) | ((with_reducible refine (nb _).mono ?_); rintro e w' ⟨rfl, rfl⟩))
        | (go_at_call 116; refine (ref_fnan _).mono ?_; rintro e w' ⟨rfl, rfl⟩))
      go_ret2
      exact ⟨edge_is 4 a b (fNaN) _ (rfl) (by decide) (by rw [calc4, div_none a b ha hb (by have := HM.out; have := HK.out; omega)]; rfl), rfl⟩
    · have k2' : (k == 2) = false := by simpa using k2
      go_enter Tryz.func90, Tryz.ntmps90
      go_wp2_with (first
        | (go_at_call 113; first | ((with_reducible refine (ca _).mono ?_); rintro e w' ⟨rfl, rfl⟩) | ((with_reducible refine (cb _).mono ?_); rintro e w' ⟨rfl, rfl⟩))
        | (go_at_call 117; first | ((with_reducible refine (na _).mono ?_); rintro e w' ⟨rfl, rfl⟩) | ((with_reducible refine (nb _).mono ?_); rintro e w' ⟨rfl, rfl⟩))
        | (go_at_call 118; refine (ref_fsigned 9218868437227405312 _ _ (by omega)).mono ?_; rintro e w' ⟨rfl, rfl⟩))
      go_ret2
      exact ⟨edge_is 4 a b (fSigned 9218868437227405312 (fNeg a != fNeg b)) _ (rfl) (signed_lt _ _) (by rw [calc4, div_inf a b ha hb (by have := HM.out; have := HK.out; omega) (by have := HM.out; have := HK.out; omega) (by have := HM.out; have := HK.out; omega)]; cases fNeg a <;> cases fNeg b <;> rfl), rfl⟩
  have m2' : (m == 2) = false := by simpa using m2
  by_cases m3 : m = 3
  · subst m3
    by_cases k3 : k = 3
    · subst k3
      go_enter Tryz.func90, Tryz.ntmps90
      go_wp2_with (first
        | (go_at_call 113; first | ((with_reducible refine (ca _).mono ?_); rintro e w' ⟨rfl, rfl⟩) | ((with_reducible refine (cb _).mono ?_); rintro e w' ⟨rfl, rfl⟩))
        | (go_at_call 117; first | ((with_reducible refine (na _).mono ?_); rintro e w' ⟨rfl, rfl⟩) | ((with_reducible refine (nb _).mono ?_); rintro e w' ⟨rfl, rfl⟩))
        | (go_at_call 116; refine (ref_fnan _).mono ?_; rintro e w' ⟨rfl, rfl⟩))
      go_ret2
      exact ⟨edge_is 4 a b (fNaN) _ (rfl) (by decide) (by rw [calc4, div_none a b ha hb (by have := HM.out; have := HK.out; omega)]; rfl), rfl⟩
    · have k3' : (k == 3) = false := by simpa using k3
      go_enter Tryz.func90, Tryz.ntmps90
      go_wp2_with (first
        | (go_at_call 113; first | ((with_reducible refine (ca _).mono ?_); rintro e w' ⟨rfl, rfl⟩) | ((with_reducible refine (cb _).mono ?_); rintro e w' ⟨rfl, rfl⟩))
        | (go_at_call 117; first | ((with_reducible refine (na _).mono ?_); rintro e w' ⟨rfl, rfl⟩) | ((with_reducible refine (nb _).mono ?_); rintro e w' ⟨rfl, rfl⟩))
        | (go_at_call 118; refine (ref_fsigned 0 _ _ (by omega)).mono ?_; rintro e w' ⟨rfl, rfl⟩))
      go_ret2
      exact ⟨edge_is 4 a b (fSigned 0 (fNeg a != fNeg b)) _ (rfl) (signed_lt _ _) (by rw [calc4, div_zero a b ha hb (by have := HM.out; have := HK.out; omega) (by have := HM.out; have := HK.out; omega) (by have := HM.out; have := HK.out; omega)]; cases fNeg a <;> cases fNeg b <;> rfl), rfl⟩
  have m3' : (m == 3) = false := by simpa using m3
  by_cases k3 : k = 3
  · subst k3
    go_enter Tryz.func90, Tryz.ntmps90
    go_wp2_with (first
      | (go_at_call 113; first | ((with_reducible refine (ca _).mono ?_); rintro e w' ⟨rfl, rfl⟩) | ((with_reducible refine (cb _).mono ?_); rintro e w' ⟨rfl, rfl⟩))
      | (go_at_call 117; first | ((with_reducible refine (na _).mono ?_); rintro e w' ⟨rfl, rfl⟩) | ((with_reducible refine (nb _).mono ?_); rintro e w' ⟨rfl, rfl⟩))
      | (go_at_call 118; refine (ref_fsigned 9218868437227405312 _ _ (by omega)).mono ?_; rintro e w' ⟨rfl, rfl⟩))
    go_ret2
    exact ⟨edge_is 4 a b (fSigned 9218868437227405312 (fNeg a != fNeg b)) _ (rfl) (signed_lt _ _) (by rw [calc4, div_inf a b ha hb (by have := HM.out; have := HK.out; omega) (by have := HM.out; have := HK.out; omega) (by have := HM.out; have := HK.out; omega)]; cases fNeg a <;> cases fNeg b <;> rfl), rfl⟩
  have k3' : (k == 3) = false := by simpa using k3
  by_cases k2 : k = 2
  · subst k2
    go_enter Tryz.func90, Tryz.ntmps90
    go_wp2_with (first
      | (go_at_call 113; first | ((with_reducible refine (ca _).mono ?_); rintro e w' ⟨rfl, rfl⟩) | ((with_reducible refine (cb _).mono ?_); rintro e w' ⟨rfl, rfl⟩))
      | (go_at_call 117; first | ((with_reducible refine (na _).mono ?_); rintro e w' ⟨rfl, rfl⟩) | ((with_reducible refine (nb _).mono ?_); rintro e w' ⟨rfl, rfl⟩))
      | (go_at_call 118; refine (ref_fsigned 0 _ _ (by omega)).mono ?_; rintro e w' ⟨rfl, rfl⟩))
    go_ret2
    exact ⟨edge_is 4 a b (fSigned 0 (fNeg a != fNeg b)) _ (rfl) (signed_lt _ _) (by rw [calc4, div_zero a b ha hb (by have := HM.out; have := HK.out; omega) (by have := HM.out; have := HK.out; omega) (by have := HM.out; have := HK.out; omega)]; cases fNeg a <;> cases fNeg b <;> rfl), rfl⟩
  · have k2' : (k == 2) = false := by simpa using k2
    go_enter Tryz.func90, Tryz.ntmps90
    go_wp2_with (first
      | (go_at_call 113; first | ((with_reducible refine (ca _).mono ?_); rintro e w' ⟨rfl, rfl⟩) | ((with_reducible refine (cb _).mono ?_); rintro e w' ⟨rfl, rfl⟩))
      | (go_at_call 117; first | ((with_reducible refine (na _).mono ?_); rintro e w' ⟨rfl, rfl⟩) | ((with_reducible refine (nb _).mono ?_); rintro e w' ⟨rfl, rfl⟩)))
    go_ret2
    exact ⟨edge_no 4 a b (by omega), rfl⟩

set_option maxRecDepth 100000 in
set_option maxHeartbeats 4000000 in
theorem ref_edge5 (a b : Nat) (w : World) (ha : a < 18446744073709551616) (hb : b < 18446744073709551616) :
    Calls Tryz.prog 90 #[.int .u8 5, .int .u64 (a : Int), .int .u64 (b : Int)] w fun e w' => EdgeOf 5 a b e ∧ w = w' := by
  have ca := fun W => ref_fclass a W ha
  have cb := fun W => ref_fclass b W hb
  have na := fun W => ref_fbelow a W ha
  have nb := fun W => ref_fbelow b W hb
  have l1 := fun W => ref_fless a b W ha hb
  have l2 := fun W => ref_fless b a W hb ha
  have ra := fCls_range a
  have rb := fCls_range b
  obtain ⟨m, hm⟩ : ∃ m : Int, (fCls a : Int) = m := ⟨_, rfl⟩
  obtain ⟨k, hk⟩ : ∃ k : Int, (fCls b : Int) = k := ⟨_, rfl⟩
  obtain ⟨x, hx⟩ : ∃ x : Int, (a : Int) = x := ⟨_, rfl⟩
  obtain ⟨y, hy⟩ : ∃ y : Int, (b : Int) = y := ⟨_, rfl⟩
  have s9 := fun s W => ref_fsigned a s W ha
  have s2 := fun s W => ref_fsigned b s W hb
  rw [hm, hx] at ca; rw [hk, hy] at cb; rw [hx] at na s9; rw [hy] at nb s2; rw [hx, hy] at l1 l2; rw [hx, hy]
  have HX := hidf hx; clear hx
  have HY := hidf hy; clear hy
  have HM := hidf hm; clear hm
  have HK := hidf hk; clear hk
  by_cases m1 : m = 1
  · subst m1
    go_enter Tryz.func90, Tryz.ntmps90
    go_wp2_with (first
      | (go_at_call 113; first | ((with_reducible refine (ca _).mono ?_); rintro e w' ⟨rfl, rfl⟩) | ((with_reducible refine (cb _).mono ?_); rintro e w' ⟨rfl, rfl⟩)))
    go_ret2
    exact ⟨edge_is 5 a b (0) _ (rfl) (by decide) (calc_nan5 a b ha hb (Or.inl (by have := HM.out; omega))), rfl⟩
  have m1' : (m == 1) = false := by simpa using m1
  by_cases k1 : k = 1
  · subst k1
    go_enter Tryz.func90, Tryz.ntmps90
    go_wp2_with (first
      | (go_at_call 113; first | ((with_reducible refine (ca _).mono ?_); rintro e w' ⟨rfl, rfl⟩) | ((with_reducible refine (cb _).mono ?_); rintro e w' ⟨rfl, rfl⟩)))
    go_ret2
    exact ⟨edge_is 5 a b (0) _ (rfl) (by decide) (calc_nan5 a b ha hb (Or.inr (by have := HK.out; omega))), rfl⟩
  have k1' : (k == 1) = false := by simpa using k1
  cases g : fLess a b <;> rw [g] at l1 <;> have G := hidf g <;> clear g
  · go_enter Tryz.func90, Tryz.ntmps90
    go_wp2_with (first
      | (go_at_call 113; first | ((with_reducible refine (ca _).mono ?_); rintro e w' ⟨rfl, rfl⟩) | ((with_reducible refine (cb _).mono ?_); rintro e w' ⟨rfl, rfl⟩))
      | (go_at_call 115; first | ((with_reducible refine (l1 _).mono ?_); rintro e w' ⟨rfl, rfl⟩) | ((with_reducible refine (l2 _).mono ?_); rintro e w' ⟨rfl, rfl⟩))
      | (go_at_call 114; refine (ref_ftruth _ _).mono ?_; rintro e w' ⟨rfl, rfl⟩))
    go_ret2
    exact ⟨edge_is 5 a b (fTruth false) _ (rfl) (truth_lt _) ((congrArg fTruth G.out).symm.trans (calc5 a b ha hb (by have := HM.out; have := HK.out; omega) (by have := HM.out; have := HK.out; omega))), rfl⟩
  · go_enter Tryz.func90, Tryz.ntmps90
    go_wp2_with (first
      | (go_at_call 113; first | ((with_reducible refine (ca _).mono ?_); rintro e w' ⟨rfl, rfl⟩) | ((with_reducible refine (cb _).mono ?_); rintro e w' ⟨rfl, rfl⟩))
      | (go_at_call 115; first | ((with_reducible refine (l1 _).mono ?_); rintro e w' ⟨rfl, rfl⟩) | ((with_reducible refine (l2 _).mono ?_); rintro e w' ⟨rfl, rfl⟩))
      | (go_at_call 114; refine (ref_ftruth _ _).mono ?_; rintro e w' ⟨rfl, rfl⟩))
    go_ret2
    exact ⟨edge_is 5 a b (fTruth true) _ (rfl) (truth_lt _) ((congrArg fTruth G.out).symm.trans (calc5 a b ha hb (by have := HM.out; have := HK.out; omega) (by have := HM.out; have := HK.out; omega))), rfl⟩

set_option maxRecDepth 100000 in
set_option maxHeartbeats 4000000 in
theorem ref_edge6 (a b : Nat) (w : World) (ha : a < 18446744073709551616) (hb : b < 18446744073709551616) :
    Calls Tryz.prog 90 #[.int .u8 6, .int .u64 (a : Int), .int .u64 (b : Int)] w fun e w' => EdgeOf 6 a b e ∧ w = w' := by
  have ca := fun W => ref_fclass a W ha
  have cb := fun W => ref_fclass b W hb
  have na := fun W => ref_fbelow a W ha
  have nb := fun W => ref_fbelow b W hb
  have l1 := fun W => ref_fless a b W ha hb
  have l2 := fun W => ref_fless b a W hb ha
  have ra := fCls_range a
  have rb := fCls_range b
  obtain ⟨m, hm⟩ : ∃ m : Int, (fCls a : Int) = m := ⟨_, rfl⟩
  obtain ⟨k, hk⟩ : ∃ k : Int, (fCls b : Int) = k := ⟨_, rfl⟩
  obtain ⟨x, hx⟩ : ∃ x : Int, (a : Int) = x := ⟨_, rfl⟩
  obtain ⟨y, hy⟩ : ∃ y : Int, (b : Int) = y := ⟨_, rfl⟩
  have s9 := fun s W => ref_fsigned a s W ha
  have s2 := fun s W => ref_fsigned b s W hb
  rw [hm, hx] at ca; rw [hk, hy] at cb; rw [hx] at na s9; rw [hy] at nb s2; rw [hx, hy] at l1 l2; rw [hx, hy]
  have HX := hidf hx; clear hx
  have HY := hidf hy; clear hy
  have HM := hidf hm; clear hm
  have HK := hidf hk; clear hk
  by_cases m1 : m = 1
  · subst m1
    go_enter Tryz.func90, Tryz.ntmps90
    go_wp2_with (first
      | (go_at_call 113; first | ((with_reducible refine (ca _).mono ?_); rintro e w' ⟨rfl, rfl⟩) | ((with_reducible refine (cb _).mono ?_); rintro e w' ⟨rfl, rfl⟩)))
    go_ret2
    exact ⟨edge_is 6 a b (0) _ (rfl) (by decide) (calc_nan6 a b ha hb (Or.inl (by have := HM.out; omega))), rfl⟩
  have m1' : (m == 1) = false := by simpa using m1
  by_cases k1 : k = 1
  · subst k1
    go_enter Tryz.func90, Tryz.ntmps90
    go_wp2_with (first
      | (go_at_call 113; first | ((with_reducible refine (ca _).mono ?_); rintro e w' ⟨rfl, rfl⟩) | ((with_reducible refine (cb _).mono ?_); rintro e w' ⟨rfl, rfl⟩)))
    go_ret2
    exact ⟨edge_is 6 a b (0) _ (rfl) (by decide) (calc_nan6 a b ha hb (Or.inr (by have := HK.out; omega))), rfl⟩
  have k1' : (k == 1) = false := by simpa using k1
  by_cases xy : x = y
  · have xy' : (x == y) = true := by simpa using xy
    have HXY := hidf xy; clear xy
    go_enter Tryz.func90, Tryz.ntmps90
    go_wp2_with (first
      | (go_at_call 113; first | ((with_reducible refine (ca _).mono ?_); rintro e w' ⟨rfl, rfl⟩) | ((with_reducible refine (cb _).mono ?_); rintro e w' ⟨rfl, rfl⟩))
      | (go_at_call 114; refine (ref_ftruth _ _).mono ?_; rintro e w' ⟨rfl, rfl⟩))
    go_ret2
    exact ⟨edge_is 6 a b (fTruth true) _ (rfl) (truth_lt _) (calc6 a b true ha hb (by have := HM.out; have := HK.out; omega) (by have := HM.out; have := HK.out; omega) (iff_of_true rfl (Or.inl (by have := HX.out; have := HY.out; have := HXY.out; omega)))), rfl⟩
  have xy' : (x == y) = false := by simpa using xy
  have HXY := hidf xy; clear xy
  by_cases m3 : m = 3
  · subst m3
    by_cases k3 : k = 3
    · subst k3
      go_enter Tryz.func90, Tryz.ntmps90
      go_wp2_with (first
        | (go_at_call 113; first | ((with_reducible refine (ca _).mono ?_); rintro e w' ⟨rfl, rfl⟩) | ((with_reducible refine (cb _).mono ?_); rintro e w' ⟨rfl, rfl⟩))
        | (go_at_call 114; refine (ref_ftruth _ _).mono ?_; rintro e w' ⟨rfl, rfl⟩))
      go_ret2
      exact ⟨edge_is 6 a b (fTruth true) _ (rfl) (truth_lt _) (calc6 a b true ha hb (by have := HM.out; have := HK.out; omega) (by have := HM.out; have := HK.out; omega) (iff_of_true rfl (Or.inr (by have := HM.out; have := HK.out; omega)))), rfl⟩
    · have k3' : (k == 3) = false := by simpa using k3
      go_enter Tryz.func90, Tryz.ntmps90
      go_wp2_with (first
        | (go_at_call 113; first | ((with_reducible refine (ca _).mono ?_); rintro e w' ⟨rfl, rfl⟩) | ((with_reducible refine (cb _).mono ?_); rintro e w' ⟨rfl, rfl⟩))
        | (go_at_call 114; refine (ref_ftruth _ _).mono ?_; rintro e w' ⟨rfl, rfl⟩))
      go_ret2
      exact ⟨edge_is 6 a b (fTruth false) _ (rfl) (truth_lt _) (calc6 a b false ha hb (by have := HM.out; have := HK.out; omega) (by have := HM.out; have := HK.out; omega) (iff_of_false (by decide) (by have := HX.out; have := HY.out; have := HXY.out; have := HM.out; have := HK.out; omega))), rfl⟩
  · have m3' : (m == 3) = false := by simpa using m3
    go_enter Tryz.func90, Tryz.ntmps90
    go_wp2_with (first
      | (go_at_call 113; first | ((with_reducible refine (ca _).mono ?_); rintro e w' ⟨rfl, rfl⟩) | ((with_reducible refine (cb _).mono ?_); rintro e w' ⟨rfl, rfl⟩))
      | (go_at_call 114; refine (ref_ftruth _ _).mono ?_; rintro e w' ⟨rfl, rfl⟩))
    go_ret2
    exact ⟨edge_is 6 a b (fTruth false) _ (rfl) (truth_lt _) (calc6 a b false ha hb (by have := HM.out; have := HK.out; omega) (by have := HM.out; have := HK.out; omega) (iff_of_false (by decide) (by have := HX.out; have := HY.out; have := HXY.out; have := HM.out; have := HK.out; omega))), rfl⟩

set_option maxRecDepth 100000 in
set_option maxHeartbeats 4000000 in
theorem ref_edge7 (a b : Nat) (w : World) (ha : a < 18446744073709551616) (hb : b < 18446744073709551616) :
    Calls Tryz.prog 90 #[.int .u8 7, .int .u64 (a : Int), .int .u64 (b : Int)] w fun e w' => EdgeOf 7 a b e ∧ w = w' := by
  have ca := fun W => ref_fclass a W ha
  have cb := fun W => ref_fclass b W hb
  have na := fun W => ref_fbelow a W ha
  have nb := fun W => ref_fbelow b W hb
  have l1 := fun W => ref_fless a b W ha hb
  have l2 := fun W => ref_fless b a W hb ha
  have ra := fCls_range a
  have rb := fCls_range b
  obtain ⟨m, hm⟩ : ∃ m : Int, (fCls a : Int) = m := ⟨_, rfl⟩
  obtain ⟨k, hk⟩ : ∃ k : Int, (fCls b : Int) = k := ⟨_, rfl⟩
  obtain ⟨x, hx⟩ : ∃ x : Int, (a : Int) = x := ⟨_, rfl⟩
  obtain ⟨y, hy⟩ : ∃ y : Int, (b : Int) = y := ⟨_, rfl⟩
  have s9 := fun s W => ref_fsigned a s W ha
  have s2 := fun s W => ref_fsigned b s W hb
  rw [hm, hx] at ca; rw [hk, hy] at cb; rw [hx] at na s9; rw [hy] at nb s2; rw [hx, hy] at l1 l2; rw [hx, hy]
  have HX := hidf hx; clear hx
  have HY := hidf hy; clear hy
  have HM := hidf hm; clear hm
  have HK := hidf hk; clear hk
  by_cases m1 : m = 1
  · subst m1
    go_enter Tryz.func90, Tryz.ntmps90
    go_wp2_with (first
      | (go_at_call 113; first | ((with_reducible refine (ca _).mono ?_); rintro e w' ⟨rfl, rfl⟩) | ((with_reducible refine (cb _).mono ?_); rintro e w' ⟨rfl, rfl⟩))
      | (go_at_call 116; refine (ref_fnan _).mono ?_; rintro e w' ⟨rfl, rfl⟩))
    go_ret2
    exact ⟨edge_is 7 a b (fNaN) _ (rfl) (by decide) (calc_nan 7 a b ha hb (by omega) (Or.inl (by have := HM.out; omega))), rfl⟩
  have m1' : (m == 1) = false := by simpa using m1
  by_cases k1 : k = 1
  · subst k1
    go_enter Tryz.func90, Tryz.ntmps90
    go_wp2_with (first
      | (go_at_call 113; first | ((with_reducible refine (ca _).mono ?_); rintro e w' ⟨rfl, rfl⟩) | ((with_reducible refine (cb _).mono ?_); rintro e w' ⟨rfl, rfl⟩))
      | (go_at_call 116; refine (ref_fnan _).mono ?_; rintro e w' ⟨rfl, rfl⟩))
    go_ret2
    exact ⟨edge_is 7 a b (fNaN) _ (rfl) (by decide) (calc_nan 7 a b ha hb (by omega) (Or.inr (by have := HK.out; omega))), rfl⟩
  have k1' : (k == 1) = false := by simpa using k1
  cases g : fLess b a <;> rw [g] at l2 <;> have G := hidf g <;> clear g
  · by_cases m3 : m = 3
    · subst m3
      by_cases k3 : k = 3
      · subst k3
        cases h : fNeg b <;> rw [h] at nb <;> have H := hidf h <;> clear h
        · go_enter Tryz.func90, Tryz.ntmps90
          go_wp2_with (first
            | (go_at_call 113; first | ((with_reducible refine (ca _).mono ?_); rintro e w' ⟨rfl, rfl⟩) | ((with_reducible refine (cb _).mono ?_); rintro e w' ⟨rfl, rfl⟩))
            | (go_at_call 117; first | ((with_reducible refine (na _).mono ?_); rintro e w' ⟨rfl, rfl⟩) | ((with_reducible refine (nb _).mono ?_); rintro e w' ⟨rfl, rfl⟩))
            | (go_at_call 115; first | ((with_reducible refine (l1 _).mono ?_); rintro e w' ⟨rfl, rfl⟩) | ((with_reducible refine (l2 _).mono ?_); rintro e w' ⟨rfl, rfl⟩)))
          go_ret2
          exact ⟨edge_is 7 a b (a) _ (HX.out.symm) (ha) (calc7a a b ha hb (by have := HM.out; have := HK.out; omega) (by have := HM.out; have := HK.out; omega) (Or.inl ⟨G.out, Or.inl H.out⟩)), rfl⟩
        · go_enter Tryz.func90, Tryz.ntmps90
          go_wp2_with (first
            | (go_at_call 113; first | ((with_reducible refine (ca _).mono ?_); rintro e w' ⟨rfl, rfl⟩) | ((with_reducible refine (cb _).mono ?_); rintro e w' ⟨rfl, rfl⟩))
            | (go_at_call 117; first | ((with_reducible refine (na _).mono ?_); rintro e w' ⟨rfl, rfl⟩) | ((with_reducible refine (nb _).mono ?_); rintro e w' ⟨rfl, rfl⟩))
            | (go_at_call 115; first | ((with_reducible refine (l1 _).mono ?_); rintro e w' ⟨rfl, rfl⟩) | ((with_reducible refine (l2 _).mono ?_); rintro e w' ⟨rfl, rfl⟩)))
          go_ret2
          exact ⟨edge_is 7 a b (b) _ (HY.out.symm) (hb) (calc7b a b ha hb (by have := HM.out; have := HK.out; omega) (by have := HM.out; have := HK.out; omega) (Or.inr ⟨by have := HM.out; omega, by have := HK.out; omega, H.out⟩)), rfl⟩
      · have k3' : (k == 3) = false := by simpa using k3
        go_enter Tryz.func90, Tryz.ntmps90
        go_wp2_with (first
          | (go_at_call 113; first | ((with_reducible refine (ca _).mono ?_); rintro e w' ⟨rfl, rfl⟩) | ((with_reducible refine (cb _).mono ?_); rintro e w' ⟨rfl, rfl⟩))
          | (go_at_call 117; first | ((with_reducible refine (na _).mono ?_); rintro e w' ⟨rfl, rfl⟩) | ((with_reducible refine (nb _).mono ?_); rintro e w' ⟨rfl, rfl⟩))
          | (go_at_call 115; first | ((with_reducible refine (l1 _).mono ?_); rintro e w' ⟨rfl, rfl⟩) | ((with_reducible refine (l2 _).mono ?_); rintro e w' ⟨rfl, rfl⟩)))
        go_ret2
        exact ⟨edge_is 7 a b (a) _ (HX.out.symm) (ha) (calc7a a b ha hb (by have := HM.out; have := HK.out; omega) (by have := HM.out; have := HK.out; omega) (Or.inl ⟨G.out, Or.inr (Or.inr (by have := HM.out; have := HK.out; omega))⟩)), rfl⟩
    · have m3' : (m == 3) = false := by simpa using m3
      go_enter Tryz.func90, Tryz.ntmps90
      go_wp2_with (first
        | (go_at_call 113; first | ((with_reducible refine (ca _).mono ?_); rintro e w' ⟨rfl, rfl⟩) | ((with_reducible refine (cb _).mono ?_); rintro e w' ⟨rfl, rfl⟩))
        | (go_at_call 117; first | ((with_reducible refine (na _).mono ?_); rintro e w' ⟨rfl, rfl⟩) | ((with_reducible refine (nb _).mono ?_); rintro e w' ⟨rfl, rfl⟩))
        | (go_at_call 115; first | ((with_reducible refine (l1 _).mono ?_); rintro e w' ⟨rfl, rfl⟩) | ((with_reducible refine (l2 _).mono ?_); rintro e w' ⟨rfl, rfl⟩)))
      go_ret2
      exact ⟨edge_is 7 a b (a) _ (HX.out.symm) (ha) (calc7a a b ha hb (by have := HM.out; have := HK.out; omega) (by have := HM.out; have := HK.out; omega) (Or.inl ⟨G.out, Or.inr (Or.inl (by have := HM.out; have := HK.out; omega))⟩)), rfl⟩
  · go_enter Tryz.func90, Tryz.ntmps90
    go_wp2_with (first
      | (go_at_call 113; first | ((with_reducible refine (ca _).mono ?_); rintro e w' ⟨rfl, rfl⟩) | ((with_reducible refine (cb _).mono ?_); rintro e w' ⟨rfl, rfl⟩))
      | (go_at_call 117; first | ((with_reducible refine (na _).mono ?_); rintro e w' ⟨rfl, rfl⟩) | ((with_reducible refine (nb _).mono ?_); rintro e w' ⟨rfl, rfl⟩))
      | (go_at_call 115; first | ((with_reducible refine (l1 _).mono ?_); rintro e w' ⟨rfl, rfl⟩) | ((with_reducible refine (l2 _).mono ?_); rintro e w' ⟨rfl, rfl⟩)))
    go_ret2
    exact ⟨edge_is 7 a b (b) _ (HY.out.symm) (hb) (calc7b a b ha hb (by have := HM.out; have := HK.out; omega) (by have := HM.out; have := HK.out; omega) (Or.inl G.out)), rfl⟩

set_option maxRecDepth 100000 in
set_option maxHeartbeats 4000000 in
theorem ref_edge8 (a b : Nat) (w : World) (ha : a < 18446744073709551616) (hb : b < 18446744073709551616) :
    Calls Tryz.prog 90 #[.int .u8 8, .int .u64 (a : Int), .int .u64 (b : Int)] w fun e w' => EdgeOf 8 a b e ∧ w = w' := by
  have ca := fun W => ref_fclass a W ha
  have cb := fun W => ref_fclass b W hb
  have na := fun W => ref_fbelow a W ha
  have nb := fun W => ref_fbelow b W hb
  have l1 := fun W => ref_fless a b W ha hb
  have l2 := fun W => ref_fless b a W hb ha
  have ra := fCls_range a
  have rb := fCls_range b
  obtain ⟨m, hm⟩ : ∃ m : Int, (fCls a : Int) = m := ⟨_, rfl⟩
  obtain ⟨k, hk⟩ : ∃ k : Int, (fCls b : Int) = k := ⟨_, rfl⟩
  obtain ⟨x, hx⟩ : ∃ x : Int, (a : Int) = x := ⟨_, rfl⟩
  obtain ⟨y, hy⟩ : ∃ y : Int, (b : Int) = y := ⟨_, rfl⟩
  have s9 := fun s W => ref_fsigned a s W ha
  have s2 := fun s W => ref_fsigned b s W hb
  rw [hm, hx] at ca; rw [hk, hy] at cb; rw [hx] at na s9; rw [hy] at nb s2; rw [hx, hy] at l1 l2; rw [hx, hy]
  have HX := hidf hx; clear hx
  have HY := hidf hy; clear hy
  have HM := hidf hm; clear hm
  have HK := hidf hk; clear hk
  by_cases m1 : m = 1
  · subst m1
    go_enter Tryz.func90, Tryz.ntmps90
    go_wp2_with (first
      | (go_at_call 113; first | ((with_reducible refine (ca _).mono ?_); rintro e w' ⟨rfl, rfl⟩) | ((with_reducible refine (cb _).mono ?_); rintro e w' ⟨rfl, rfl⟩))
      | (go_at_call 116; refine (ref_fnan _).mono ?_; rintro e w' ⟨rfl, rfl⟩))
    go_ret2
    exact ⟨edge_is 8 a b (fNaN) _ (rfl) (by decide) (calc_nan 8 a b ha hb (by omega) (Or.inl (by have := HM.out; omega))), rfl⟩
  have m1' : (m == 1) = false := by simpa using m1
  by_cases k1 : k = 1
  · subst k1
    go_enter Tryz.func90, Tryz.ntmps90
    go_wp2_with (first
      | (go_at_call 113; first | ((with_reducible refine (ca _).mono ?_); rintro e w' ⟨rfl, rfl⟩) | ((with_reducible refine (cb _).mono ?_); rintro e w' ⟨rfl, rfl⟩))
      | (go_at_call 116; refine (ref_fnan _).mono ?_; rintro e w' ⟨rfl, rfl⟩))
    go_ret2
    exact ⟨edge_is 8 a b (fNaN) _ (rfl) (by decide) (calc_nan 8 a b ha hb (by omega) (Or.inr (by have := HK.out; omega))), rfl⟩
  have k1' : (k == 1) = false := by simpa using k1
  cases g : fLess a b <;> rw [g] at l1 <;> have G := hidf g <;> clear g
  · by_cases m3 : m = 3
    · subst m3
      by_cases k3 : k = 3
      · subst k3
        cases h : fNeg a <;> rw [h] at na <;> have H := hidf h <;> clear h
        · go_enter Tryz.func90, Tryz.ntmps90
          go_wp2_with (first
            | (go_at_call 113; first | ((with_reducible refine (ca _).mono ?_); rintro e w' ⟨rfl, rfl⟩) | ((with_reducible refine (cb _).mono ?_); rintro e w' ⟨rfl, rfl⟩))
            | (go_at_call 117; first | ((with_reducible refine (na _).mono ?_); rintro e w' ⟨rfl, rfl⟩) | ((with_reducible refine (nb _).mono ?_); rintro e w' ⟨rfl, rfl⟩))
            | (go_at_call 115; first | ((with_reducible refine (l1 _).mono ?_); rintro e w' ⟨rfl, rfl⟩) | ((with_reducible refine (l2 _).mono ?_); rintro e w' ⟨rfl, rfl⟩)))
          go_ret2
          exact ⟨edge_is 8 a b (a) _ (HX.out.symm) (ha) (calc8a a b ha hb (by have := HM.out; have := HK.out; omega) (by have := HM.out; have := HK.out; omega) (Or.inl ⟨G.out, Or.inl H.out⟩)), rfl⟩
        · go_enter Tryz.func90, Tryz.ntmps90
          go_wp2_with (first
            | (go_at_call 113; first | ((with_reducible refine (ca _).mono ?_); rintro e w' ⟨rfl, rfl⟩) | ((with_reducible refine (cb _).mono ?_); rintro e w' ⟨rfl, rfl⟩))
            | (go_at_call 117; first | ((with_reducible refine (na _).mono ?_); rintro e w' ⟨rfl, rfl⟩) | ((with_reducible refine (nb _).mono ?_); rintro e w' ⟨rfl, rfl⟩))
            | (go_at_call 115; first | ((with_reducible refine (l1 _).mono ?_); rintro e w' ⟨rfl, rfl⟩) | ((with_reducible refine (l2 _).mono ?_); rintro e w' ⟨rfl, rfl⟩)))
          go_ret2
          exact ⟨edge_is 8 a b (b) _ (HY.out.symm) (hb) (calc8b a b ha hb (by have := HM.out; have := HK.out; omega) (by have := HM.out; have := HK.out; omega) (Or.inr ⟨by have := HM.out; omega, by have := HK.out; omega, H.out⟩)), rfl⟩
      · have k3' : (k == 3) = false := by simpa using k3
        go_enter Tryz.func90, Tryz.ntmps90
        go_wp2_with (first
          | (go_at_call 113; first | ((with_reducible refine (ca _).mono ?_); rintro e w' ⟨rfl, rfl⟩) | ((with_reducible refine (cb _).mono ?_); rintro e w' ⟨rfl, rfl⟩))
          | (go_at_call 117; first | ((with_reducible refine (na _).mono ?_); rintro e w' ⟨rfl, rfl⟩) | ((with_reducible refine (nb _).mono ?_); rintro e w' ⟨rfl, rfl⟩))
          | (go_at_call 115; first | ((with_reducible refine (l1 _).mono ?_); rintro e w' ⟨rfl, rfl⟩) | ((with_reducible refine (l2 _).mono ?_); rintro e w' ⟨rfl, rfl⟩)))
        go_ret2
        exact ⟨edge_is 8 a b (a) _ (HX.out.symm) (ha) (calc8a a b ha hb (by have := HM.out; have := HK.out; omega) (by have := HM.out; have := HK.out; omega) (Or.inl ⟨G.out, Or.inr (Or.inr (by have := HM.out; have := HK.out; omega))⟩)), rfl⟩
    · have m3' : (m == 3) = false := by simpa using m3
      go_enter Tryz.func90, Tryz.ntmps90
      go_wp2_with (first
        | (go_at_call 113; first | ((with_reducible refine (ca _).mono ?_); rintro e w' ⟨rfl, rfl⟩) | ((with_reducible refine (cb _).mono ?_); rintro e w' ⟨rfl, rfl⟩))
        | (go_at_call 117; first | ((with_reducible refine (na _).mono ?_); rintro e w' ⟨rfl, rfl⟩) | ((with_reducible refine (nb _).mono ?_); rintro e w' ⟨rfl, rfl⟩))
        | (go_at_call 115; first | ((with_reducible refine (l1 _).mono ?_); rintro e w' ⟨rfl, rfl⟩) | ((with_reducible refine (l2 _).mono ?_); rintro e w' ⟨rfl, rfl⟩)))
      go_ret2
      exact ⟨edge_is 8 a b (a) _ (HX.out.symm) (ha) (calc8a a b ha hb (by have := HM.out; have := HK.out; omega) (by have := HM.out; have := HK.out; omega) (Or.inl ⟨G.out, Or.inr (Or.inl (by have := HM.out; have := HK.out; omega))⟩)), rfl⟩
  · go_enter Tryz.func90, Tryz.ntmps90
    go_wp2_with (first
      | (go_at_call 113; first | ((with_reducible refine (ca _).mono ?_); rintro e w' ⟨rfl, rfl⟩) | ((with_reducible refine (cb _).mono ?_); rintro e w' ⟨rfl, rfl⟩))
      | (go_at_call 117; first | ((with_reducible refine (na _).mono ?_); rintro e w' ⟨rfl, rfl⟩) | ((with_reducible refine (nb _).mono ?_); rintro e w' ⟨rfl, rfl⟩))
      | (go_at_call 115; first | ((with_reducible refine (l1 _).mono ?_); rintro e w' ⟨rfl, rfl⟩) | ((with_reducible refine (l2 _).mono ?_); rintro e w' ⟨rfl, rfl⟩)))
    go_ret2
    exact ⟨edge_is 8 a b (b) _ (HY.out.symm) (hb) (calc8b a b ha hb (by have := HM.out; have := HK.out; omega) (by have := HM.out; have := HK.out; omega) (Or.inl G.out)), rfl⟩

set_option maxRecDepth 100000 in
set_option maxHeartbeats 4000000 in
theorem ref_edge9 (a b : Nat) (w : World) (ha : a < 18446744073709551616) (hb : b < 18446744073709551616) :
    Calls Tryz.prog 90 #[.int .u8 9, .int .u64 (a : Int), .int .u64 (b : Int)] w fun e w' => EdgeOf 9 a b e ∧ w = w' := by
  have ca := fun W => ref_fclass a W ha
  have cb := fun W => ref_fclass b W hb
  have na := fun W => ref_fbelow a W ha
  have nb := fun W => ref_fbelow b W hb
  have l1 := fun W => ref_fless a b W ha hb
  have l2 := fun W => ref_fless b a W hb ha
  have ra := fCls_range a
  have rb := fCls_range b
  obtain ⟨m, hm⟩ : ∃ m : Int, (fCls a : Int) = m := ⟨_, rfl⟩
  obtain ⟨k, hk⟩ : ∃ k : Int, (fCls b : Int) = k := ⟨_, rfl⟩
  obtain ⟨x, hx⟩ : ∃ x : Int, (a : Int) = x := ⟨_, rfl⟩
  obtain ⟨y, hy⟩ : ∃ y : Int, (b : Int) = y := ⟨_, rfl⟩
  have s9 := fun s W => ref_fsigned a s W ha
  have s2 := fun s W => ref_fsigned b s W hb
  rw [hm, hx] at ca; rw [hk, hy] at cb; rw [hx] at na s9; rw [hy] at nb s2; rw [hx, hy] at l1 l2; rw [hx, hy]
  have HX := hidf hx; clear hx
  have HY := hidf hy; clear hy
  have HM := hidf hm; clear hm
  have HK := hidf hk; clear hk
  by_cases m1 : m = 1
  · subst m1
    go_enter Tryz.func90, Tryz.ntmps90
    go_wp2_with (first
      | (go_at_call 113; first | ((with_reducible refine (ca _).mono ?_); rintro e w' ⟨rfl, rfl⟩) | ((with_reducible refine (cb _).mono ?_); rintro e w' ⟨rfl, rfl⟩))
      | (go_at_call 116; refine (ref_fnan _).mono ?_; rintro e w' ⟨rfl, rfl⟩))
    go_ret2
    exact ⟨edge_is 9 a b (fNaN) _ (rfl) (by decide) (by rw [calc9]; unfold fOne; rw [flip_cls, if_pos (by have := HM.out; omega)]), rfl⟩
  have m1' : (m == 1) = false := by simpa using m1
  go_enter Tryz.func90, Tryz.ntmps90
  go_wp2_with (first
    | (go_at_call 113; first | ((with_reducible refine (ca _).mono ?_); rintro e w' ⟨rfl, rfl⟩) | ((with_reducible refine (cb _).mono ?_); rintro e w' ⟨rfl, rfl⟩))
    | (go_at_call 117; first | ((with_reducible refine (na _).mono ?_); rintro e w' ⟨rfl, rfl⟩) | ((with_reducible refine (nb _).mono ?_); rintro e w' ⟨rfl, rfl⟩))
    | (go_at_call 118; refine (s9 _ _).mono ?_; rintro e w' ⟨rfl, rfl⟩))
  go_ret2
  exact ⟨edge_is 9 a b (fSigned a (!fNeg a)) _ (rfl) (signed_lt _ _) (by rw [calc9]; unfold fOne; rw [flip_cls, if_neg (by have := HM.out; omega)]; exact signed_flip a), rfl⟩

set_option maxRecDepth 100000 in
set_option maxHeartbeats 4000000 in
theorem ref_edge10 (a b : Nat) (w : World) (ha : a < 18446744073709551616) (hb : b < 18446744073709551616) :
    Calls Tryz.prog 90 #[.int .u8 10, .int .u64 (a : Int), .int .u64 (b : Int)] w fun e w' => EdgeOf 10 a b e ∧ w = w' := by
  have ca := fun W => ref_fclass a W ha
  have cb := fun W => ref_fclass b W hb
  have na := fun W => ref_fbelow a W ha
  have nb := fun W => ref_fbelow b W hb
  have l1 := fun W => ref_fless a b W ha hb
  have l2 := fun W => ref_fless b a W hb ha
  have ra := fCls_range a
  have rb := fCls_range b
  obtain ⟨m, hm⟩ : ∃ m : Int, (fCls a : Int) = m := ⟨_, rfl⟩
  obtain ⟨k, hk⟩ : ∃ k : Int, (fCls b : Int) = k := ⟨_, rfl⟩
  obtain ⟨x, hx⟩ : ∃ x : Int, (a : Int) = x := ⟨_, rfl⟩
  obtain ⟨y, hy⟩ : ∃ y : Int, (b : Int) = y := ⟨_, rfl⟩
  have s9 := fun s W => ref_fsigned a s W ha
  have s2 := fun s W => ref_fsigned b s W hb
  rw [hm, hx] at ca; rw [hk, hy] at cb; rw [hx] at na s9; rw [hy] at nb s2; rw [hx, hy] at l1 l2; rw [hx, hy]
  have HX := hidf hx; clear hx
  have HY := hidf hy; clear hy
  have HM := hidf hm; clear hm
  have HK := hidf hk; clear hk
  by_cases m1 : m = 1
  · subst m1
    go_enter Tryz.func90, Tryz.ntmps90
    go_wp2_with (first
      | (go_at_call 113; first | ((with_reducible refine (ca _).mono ?_); rintro e w' ⟨rfl, rfl⟩) | ((with_reducible refine (cb _).mono ?_); rintro e w' ⟨rfl, rfl⟩))
      | (go_at_call 116; refine (ref_fnan _).mono ?_; rintro e w' ⟨rfl, rfl⟩))
    go_ret2
    exact ⟨edge_is 10 a b (fNaN) _ (rfl) (by decide) (by rw [calc10, sqrt_nan a ha (by have := HM.out; omega)]; rfl), rfl⟩
  have m1' : (m == 1) = false := by simpa using m1
  by_cases m3 : m = 3
  · subst m3
    go_enter Tryz.func90, Tryz.ntmps90
    go_wp2_with (first
      | (go_at_call 113; first | ((with_reducible refine (ca _).mono ?_); rintro e w' ⟨rfl, rfl⟩) | ((with_reducible refine (cb _).mono ?_); rintro e w' ⟨rfl, rfl⟩))
      | (go_at_call 117; first | ((with_reducible refine (na _).mono ?_); rintro e w' ⟨rfl, rfl⟩) | ((with_reducible refine (nb _).mono ?_); rintro e w' ⟨rfl, rfl⟩)))
    go_ret2
    exact ⟨edge_is 10 a b (a) _ (HX.out.symm) (ha) (by rw [calc10, sqrt_same a ha (Or.inl (by have := HM.out; omega))]; exact (canon_of (by rw [show fCls a = 3 from (by have := HM.out; omega)]; decide)).symm), rfl⟩
  have m3' : (m == 3) = false := by simpa using m3
  cases g : fNeg a <;> rw [g] at na <;> have G := hidf g <;> clear g
  · by_cases m2 : m = 2
    · subst m2
      go_enter Tryz.func90, Tryz.ntmps90
      go_wp2_with (first
        | (go_at_call 113; first | ((with_reducible refine (ca _).mono ?_); rintro e w' ⟨rfl, rfl⟩) | ((with_reducible refine (cb _).mono ?_); rintro e w' ⟨rfl, rfl⟩))
        | (go_at_call 117; first | ((with_reducible refine (na _).mono ?_); rintro e w' ⟨rfl, rfl⟩) | ((with_reducible refine (nb _).mono ?_); rintro e w' ⟨rfl, rfl⟩)))
      go_ret2
      exact ⟨edge_is 10 a b (a) _ (HX.out.symm) (ha) (by rw [calc10, sqrt_same a ha (Or.inr ⟨by have := HM.out; omega, G.out⟩)]; exact (canon_of (by rw [show fCls a = 2 from (by have := HM.out; omega)]; decide)).symm), rfl⟩
    · have m2' : (m == 2) = false := by simpa using m2
      go_enter Tryz.func90, Tryz.ntmps90
      go_wp2_with (first
        | (go_at_call 113; first | ((with_reducible refine (ca _).mono ?_); rintro e w' ⟨rfl, rfl⟩) | ((with_reducible refine (cb _).mono ?_); rintro e w' ⟨rfl, rfl⟩))
        | (go_at_call 117; first | ((with_reducible refine (na _).mono ?_); rintro e w' ⟨rfl, rfl⟩) | ((with_reducible refine (nb _).mono ?_); rintro e w' ⟨rfl, rfl⟩)))
      go_ret2
      exact ⟨edge_no 10 a b (by omega), rfl⟩
  · by_cases m2 : m = 2
    · subst m2
      go_enter Tryz.func90, Tryz.ntmps90
      go_wp2_with (first
        | (go_at_call 113; first | ((with_reducible refine (ca _).mono ?_); rintro e w' ⟨rfl, rfl⟩) | ((with_reducible refine (cb _).mono ?_); rintro e w' ⟨rfl, rfl⟩))
        | (go_at_call 117; first | ((with_reducible refine (na _).mono ?_); rintro e w' ⟨rfl, rfl⟩) | ((with_reducible refine (nb _).mono ?_); rintro e w' ⟨rfl, rfl⟩))
        | (go_at_call 116; refine (ref_fnan _).mono ?_; rintro e w' ⟨rfl, rfl⟩))
      go_ret2
      exact ⟨edge_is 10 a b (fNaN) _ (rfl) (by decide) (by rw [calc10, sqrt_none a ha (by have := HM.out; have := HK.out; omega) G.out]; rfl), rfl⟩
    · have m2' : (m == 2) = false := by simpa using m2
      go_enter Tryz.func90, Tryz.ntmps90
      go_wp2_with (first
        | (go_at_call 113; first | ((with_reducible refine (ca _).mono ?_); rintro e w' ⟨rfl, rfl⟩) | ((with_reducible refine (cb _).mono ?_); rintro e w' ⟨rfl, rfl⟩))
        | (go_at_call 117; first | ((with_reducible refine (na _).mono ?_); rintro e w' ⟨rfl, rfl⟩) | ((with_reducible refine (nb _).mono ?_); rintro e w' ⟨rfl, rfl⟩))
        | (go_at_call 116; refine (ref_fnan _).mono ?_; rintro e w' ⟨rfl, rfl⟩))
      go_ret2
      exact ⟨edge_is 10 a b (fNaN) _ (rfl) (by decide) (by rw [calc10, sqrt_none a ha (by have := HM.out; have := HK.out; omega) G.out]; rfl), rfl⟩


end Go.Proofs.YtdcnpaodcjfdbaaGreatDoor

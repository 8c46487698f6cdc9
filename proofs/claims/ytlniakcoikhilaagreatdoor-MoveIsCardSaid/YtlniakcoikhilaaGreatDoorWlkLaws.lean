/- The walks of layer 15's statements: an arena and a table in either order; the document's example. -/
import Derived.Test.YtlniakcoikhilaaGreatDoorWlkAll
import Derived.Test.YtlniakcoikhilaaGreatDoorFrmAll
namespace Go.Proofs.YtlniakcoikhilaaGreatDoor
open Go.RowKit Go.ChangeShapes Go.WideShapes
set_option linter.unusedVariables false

/-- Beside a table an arena is made. -/
theorem AT.made2 {w W W' : World} {p g : Nat} {xs : List Nat} {tp : Option Addr} {l : Fns} (h : S13 w W tp l) (ha : Ar W' W.heap.size p g 256 xs) (hb : Below W.heap.size W W') : AT w W' p g 256 xs tp l := by
  obtain ⟨h1, lo, hi, h2, h3, h4⟩ := h
  exact ⟨h1.trans (hb.mono h1.size), ha.more h1.size, lo, hi, h2.below (hb.mono h3), Nat.le_trans h3 hb.size, h4, Or.inr (by have := ha.geg; omega)⟩
theorem AT.s13 {w W : World} {p g len : Nat} {xs : List Nat} {tp : Option Addr} {l : Fns} (h : AT w W p g len xs tp l) : S13 w W tp l := by
  obtain ⟨lo, hi, h2, h3, h4, _⟩ := h.tb
  exact ⟨h.bel, lo, hi, h2, h3, h4⟩
section
variable {w : World} {p g : Nat} {xs : List Nat} {tp : Option Addr} {l : Fns}
theorem t_wframes {W : World} (s : Hid (AT w W p g 256 xs tp l)) (hl : ∀ x ∈ l, 0 ≤ x.1 ∧ x.1 ≤ 1000) (hx : Wd xs) (v : StV) (h0 : in64 v.lo) (h1 : in64 v.size) (h2 : in64 v.sp) (L : List FrV) (no : Int) (hv : wkFrames xs l v = (L, no)) :
    Calls Tryz.prog 59 #[.pointer (some ⟨p, 0, none⟩), .pointer tp, stC v] W fun e w' => ∃ A c, e = .returned (.tuple #[.slice A L.length c, .int .i64 no]) ∧ Hid (AT w w' p g 256 xs tp l) ∧ Hid (FrRow w' w'.heap.size A L.length L) ∧ Hid (Below W.heap.size W w') := by
  obtain ⟨lo, hi, hh2, h3, _⟩ := s.out.tb
  have c := code_wframes v s.out.ar hh2 h3 hl hx h0 h1 h2
  rw [hv] at c
  refine c.mono ?_
  rintro e w' ⟨A, c, e1, e2, e3⟩
  exact ⟨A, c, e1, hidb (s.out.step e3), hidb e2, hidb e3⟩
end

theorem aw15_tab : fTab [((0 : Int), ([] : List Nat))] = true := by decide
theorem aw15_own : fOwns [((0 : Int), ([] : List Nat))] = [(0, [])] := by decide
theorem aw15_frames : wkFrames frZ [(0, [])] ⟨0, 16, 16⟩ = ([], 0) := by decide +kernel

end Go.Proofs.YtlniakcoikhilaaGreatDoor

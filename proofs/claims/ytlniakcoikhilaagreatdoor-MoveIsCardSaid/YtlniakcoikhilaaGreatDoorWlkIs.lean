/- Layer 15's statement WalkIs. -/
import Derived.Test.YtlniakcoikhilaaGreatDoorWlkLaws
import Derived.Test.YtlniakcoikhilaaGreatDoorFrmAll
namespace Go.Proofs.YtlniakcoikhilaaGreatDoor
open Go.RowKit Go.ChangeShapes Go.WideShapes
set_option linter.unusedVariables false

section
variable {H : Type} {enc : TypeId × Value → H} {W : World} {sp : Nat → Bool} {hd : Bool}
theorem st_cells : Tryz.prog.cellsOf 25 = 3 := by kernel_rfl
theorem st_int : Tryz.prog.cellsOf 3 = 1 := by kernel_rfl
def StCells (cs : List Value) (x : StV) : Prop := cs = [.int .i64 x.lo, .int .i64 x.size, .int .i64 x.sp] ∧ in64 x.lo ∧ in64 x.size ∧ in64 x.sp
theorem read_stackF (fuel : Nat) (cs : List Value) (x : DataW H × List MemPlace) (h : DataW.trod enc Tryz.prog W 0 sp hd fuel 25 cs = some x) : ∃ r, StCells cs r := by
  obtain ⟨hl, hf⟩ := read_field Tryz.underlying25 h
  rw [st_cells] at hl
  obtain ⟨c0, n0, y0, g0, t0⟩ := hf 0 _ rfl st_int (by rw [hl]; decide)
  obtain ⟨c1, n1, y1, g1, t1⟩ := hf 1 _ rfl st_int (by rw [hl]; decide)
  obtain ⟨c2, n2, y2, g2, t2⟩ := hf 2 _ rfl st_int (by rw [hl]; decide)
  obtain ⟨z0, e0, _, w0⟩ := DataW.trod_int Tryz.underlying3 t0
  obtain ⟨z1, e1, _, w1⟩ := DataW.trod_int Tryz.underlying3 t1
  obtain ⟨z2, e2, _, w2⟩ := DataW.trod_int Tryz.underlying3 t2
  simp only [List.cons.injEq, and_true] at e0 e1 e2
  subst e0 e1 e2
  refine ⟨⟨z0, z1, z2⟩, ?_, wf_in64 w0, wf_in64 w1, wf_in64 w2⟩
  match cs, hl with
  | [a0, a1, a2], _ => simp_all
theorem read_stack {v : Value} {d : DataW H} {ps : List MemPlace} (h : DataW.Trod enc Tryz.prog W 0 sp hd 25 v d ps) : ∃ r : StV, v.cells.toList = [.int .i64 r.lo, .int .i64 r.size, .int .i64 r.sp] ∧ in64 r.lo ∧ in64 r.size ∧ in64 r.sp := by
  obtain ⟨fuel, hf⟩ := h
  obtain ⟨r, h1, h2⟩ := read_stackF fuel _ _ hf
  exact ⟨r, h1, h2⟩
end

/-- The law's world: an arena and a table, made since the stack's cells; the words once more. -/
theorem a_rframes {w : World} {p g : Nat} {xs : List Nat} {tp D A2 : Option Addr} {l : Fns} {n2 c2 d : Nat} {ys : List FnV} (h : In13 w A2 n2 ys) {W : World} (s : Hid (AW w p g xs tp l D W)) (hl : ∀ x ∈ vals ys, 0 ≤ x.1 ∧ x.1 ≤ 1000) (hx : Wd xs) (v : StV) (h0 : in64 v.lo) (h1 : in64 v.size) (h2 : in64 v.sp) (L : List FrV) (no : Int) (hv : wkFrames xs (vals ys) v = (L, no)) :
    Calls Tryz.prog 22 #[.slice D 256 d, .slice A2 n2 c2, stC v] W fun e w' => ∃ A c, e = .returned (.tuple #[.slice A L.length c, .int .i64 no]) ∧ Hid (AW w p g xs tp l D w') ∧ Hid (FrRow w' w'.heap.size A L.length L) ∧ Hid (Below W.heap.size W w') := by
  have c := ref_frames (c := d) (c2 := c2) s.out.2 (by omega) hx (h.at_ s.out.1.bel) (Nat.le_refl _) (by have := h.few; omega) hl v h0 h1 h2
  rw [hv] at c
  refine c.mono ?_
  rintro e w' ⟨A, k, e1, e2, e3⟩
  exact ⟨A, k, e1, hidb (s.out.step e3), hidb e2, hidb e3⟩
theorem wkOne_owns (xs : List Nat) (l : Fns) (hi a : Int) : wkOne xs (fOwns l) hi a = wkOne xs l hi a := by
  unfold wkOne; rw [frRead_owns]; simp only [fWords_owns]
theorem wkGo_owns (xs : List Nat) (l : Fns) (hi : Int) : ∀ (n : Nat) (a : Int) (acc : List FrV), wkGo xs (fOwns l) hi n a acc = wkGo xs l hi n a acc
  | 0, a, acc => rfl
  | n + 1, a, acc => by
    unfold wkGo
    rw [wkOne_owns]
    split
    · cases wkOne xs l hi a with
      | none => rfl
      | some xe => exact wkGo_owns xs l hi n xe.2 (xe.1 :: acc)
    · rfl
theorem wkFrames_owns (xs : List Nat) (l : Fns) (s : StV) : wkFrames xs (fOwns l) s = wkFrames xs l s := by
  unfold wkFrames; rw [wkGo_owns]
/-- No more frames than words. -/
theorem wkGo_len {xs : List Nat} {l : Fns} (hl : ∀ x ∈ l, 0 ≤ x.1 ∧ x.1 ≤ 1000) {hi : Int} : ∀ (n : Nat) (a : Int) (acc L : List FrV), wkGo xs l hi n a acc = some L → a ≤ hi → (L.length : Int) ≤ acc.length + (hi - a)
  | 0, a, acc, L, h, ha => by
    unfold wkGo at h
    split at h
    · cases h
    · injection h with h; subst h; omega
  | n + 1, a, acc, L, h, ha => by
    unfold wkGo at h
    split at h
    · cases hw : wkOne xs l hi a with
      | none => rw [hw] at h; cases h
      | some xe =>
        rw [hw] at h
        have hg := wkOne_good hl (x := xe.1) (e := xe.2) hw
        have := wkGo_len hl n xe.2 (xe.1 :: acc) L h hg.2.2.2.2.1
        rw [List.length_cons] at this
        omega
    · injection h with h; subst h; omega
theorem wkFrames_len {xs : List Nat} {l : Fns} (hl : ∀ x ∈ l, 0 ≤ x.1 ∧ x.1 ≤ 1000) (s : StV) (L : List FrV) (no : Int) (h : wkFrames xs l s = (L, no)) : L.length ≤ xs.length := by
  unfold wkFrames at h
  split at h
  · injection h with h; subst h; simp
  · rename_i hm
    have hf := wkGo_few (l := l) (xs := xs) (s := s) (by simpa using hm)
    split at h
    · injection h with h; subst h; simp
    · rename_i f hf2
      injection h with h
      subst h
      have := wkGo_len hl _ _ _ _ hf2 hf.2.2.2.1
      simp at this
      omega

end Go.Proofs.YtlniakcoikhilaaGreatDoor

/- Layer 15's statement WalkIs. -/
import Derived.Test.YtdcnpaodcjfdbaaGreatDoorWlkLaws
import Derived.Test.YtdcnpaodcjfdbaaGreatDoorFrmAll
namespace Go.Proofs.YtdcnpaodcjfdbaaGreatDoor
open Go.RowKit Go.ChangeShapes Go.WideShapes
set_option linter.unusedVariables false

section
variable {H : Type} {enc : TypeId × Value → H} {W : World} {sp : Nat → Bool} {hd : Bool}
theorem st_int : Tryz.prog.cellsOf 3 = 1 := by kernel_rfl
def StCells (cs : List Value) (x : StV) : Prop := cs = [.int .i64 x.lo, .int .i64 x.size, .int .i64 x.sp] ∧ in64 x.lo ∧ in64 x.size ∧ in64 x.sp
end

theorem wkOne_owns (xs : List Nat) (l : Fns) (hi a : Int) : wkOne xs (fOwns l) hi a = wkOne xs l hi a := by
  unfold wkOne; rw [frRead_owns]; simp only [fWords_owns]
theorem wkGo_owns (xs : List Nat) (l : Fns) (hi : Int) : ∀ (n : Nat) (a : Int) (acc : List FrV), wkGo xs (fOwns l) hi n a acc = wkGo xs l hi n a acc
  | 0, a, acc => rfl
  | n + 1, a, acc => by
    unfold wkGo
    rw [wkOne_owns]
    split
    · cases wkOne xs l hi a with
      | none => rfl
      | some xe => exact wkGo_owns xs l hi n xe.2 (xe.1 :: acc)
    · rfl
theorem wkFrames_owns (xs : List Nat) (l : Fns) (s : StV) : wkFrames xs (fOwns l) s = wkFrames xs l s := by
  unfold wkFrames; rw [wkGo_owns]
/-- No more frames than words. -/
theorem wkGo_len {xs : List Nat} {l : Fns} (hl : ∀ x ∈ l, 0 ≤ x.1 ∧ x.1 ≤ 1000) {hi : Int} : ∀ (n : Nat) (a : Int) (acc L : List FrV), wkGo xs l hi n a acc = some L → a ≤ hi → (L.length : Int) ≤ acc.length + (hi - a)
  | 0, a, acc, L, h, ha => by
    unfold wkGo at h
    split at h
    · cases h
    · injection h with h; subst h; omega
  | n + 1, a, acc, L, h, ha => by
    unfold wkGo at h
    split at h
    · cases hw : wkOne xs l hi a with
      | none => rw [hw] at h; cases h
      | some xe =>
        rw [hw] at h
        have hg := wkOne_good hl (x := xe.1) (e := xe.2) hw
        have := wkGo_len hl n xe.2 (xe.1 :: acc) L h hg.2.2.2.2.1
        rw [List.length_cons] at this
        omega
    · injection h with h; subst h; omega
theorem wkFrames_len {xs : List Nat} {l : Fns} (hl : ∀ x ∈ l, 0 ≤ x.1 ∧ x.1 ≤ 1000) (s : StV) (L : List FrV) (no : Int) (h : wkFrames xs l s = (L, no)) : L.length ≤ xs.length := by
  unfold wkFrames at h
  split at h
  · injection h with h; subst h; simp
  · rename_i hm
    have hf := wkGo_few (l := l) (xs := xs) (s := s) (by simpa using hm)
    split at h
    · injection h with h; subst h; simp
    · rename_i f hf2
      injection h with h
      subst h
      have := wkGo_len hl _ _ _ _ hf2 hf.2.2.2.1
      simp at this
      omega

end Go.Proofs.YtdcnpaodcjfdbaaGreatDoor

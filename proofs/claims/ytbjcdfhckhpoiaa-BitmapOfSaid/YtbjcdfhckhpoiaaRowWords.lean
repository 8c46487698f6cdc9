/- Words for rows of words and of numbers, that came in or that a call made. -/
import Derived.Test.YtbjcdfhckhpoiaaWords
import Derived.Test.YtbjcdfhckhpoiaaProg
import Derived.WalkKit
import Derived.ProofKit
import Derived.WalkLawsBesides
import Derived.WalkSpells
import Derived.Deep.QuietTactic
import Derived.BigQuiet
namespace Go.Proofs.Ytbjcdfhckhpoiaa
open Go.RowKit
set_option linter.unusedVariables false

theorem hidb {p : Prop} (h : p) : Hid p := h
/-- A word of 64 bits. -/
def wv (x : Nat) : Value := .int .u64 (x : Int)
def iv (x : Int) : Value := .int .i64 x
/-- How many elements a slice has. -/
def lenOf : Value → Nat
  | .slice _ n _ => n
  | _ => 0

/-- An element of a row of words, and the cell that holds it. -/
theorem Sl.word {w : World} {B n : Nat} {A : Option Addr} {ws : List Nat} {j : Nat} (h : Sl w B A n (ws.map wv)) (hj : j < n) : ∃ b off x, A = some ⟨b, off, none⟩ ∧ ws[j]? = some x ∧ w.cell? ⟨b, off + j, none⟩ = some (.int .u64 (x : Int)) := by
  obtain ⟨b, off, u, e, _, hu, hcell⟩ := h.at_ hj
  rw [List.getElem?_map] at hu
  cases hx : ws[j]? with
  | none => rw [hx] at hu; cases hu
  | some x =>
    rw [hx] at hu
    obtain rfl : u = wv x := by simpa using hu.symm
    exact ⟨b, off, x, e, rfl, hcell⟩
theorem Sl.int_ {w : World} {B n : Nat} {A : Option Addr} {zs : List Int} {j : Nat} (h : Sl w B A n (zs.map iv)) (hj : j < n) : ∃ b off x, A = some ⟨b, off, none⟩ ∧ zs[j]? = some x ∧ w.cell? ⟨b, off + j, none⟩ = some (.int .i64 x) := by
  obtain ⟨b, off, u, e, _, hu, hcell⟩ := h.at_ hj
  rw [List.getElem?_map] at hu
  cases hx : zs[j]? with
  | none => rw [hx] at hu; cases hu
  | some x =>
    rw [hx] at hu
    obtain rfl : u = iv x := by simpa using hu.symm
    exact ⟨b, off, x, e, rfl, hcell⟩

theorem info_int : (Try.prog.info? 3).map (fun i => (i.zero, i.size, i.bytes)) = some (some (.int .i64 0), 1, 8) := by kernel_rfl

/-- A slice that a call made: its elements. -/
def OwnInts (w : World) (l : List Int) (e : Ending) (w' : World) : Prop := ∃ A c, e = .returned (.slice A l.length c) ∧ w'.ownsRow w.heap.size 3 1 (.slice A l.length c) l.length (l.map iv) ∧ Below w.heap.size w w'

theorem info_u64 : (Try.prog.info? 38).map (fun i => (i.zero, i.size, i.bytes)) = some (some (.int .u64 0), 1, 8) := by kernel_rfl

/-- A slice of words that a call made. -/
def OwnWords (w : World) (l : List Nat) (e : Ending) (w' : World) : Prop := ∃ A c, e = .returned (.slice A l.length c) ∧ w'.ownsRow w.heap.size 38 1 (.slice A l.length c) l.length (l.map wv) ∧ Below w.heap.size w w'
/-- A slice of numbers that a call made, and an error's number. -/
def OwnRead (w : World) (l : List Int) (no : Int) (e : Ending) (w' : World) : Prop := ∃ A c, e = .returned (.tuple #[.slice A l.length c, .int .i64 no]) ∧ w'.ownsRow w.heap.size 3 1 (.slice A l.length c) l.length (l.map iv) ∧ Below w.heap.size w w'

theorem own_form {w : World} {base : Nat} {e : TypeId} {v : Value} {n : Nat} {xs : List Value} (h : w.ownsRow base e 1 v n xs) : ∃ A c, v = .slice A n c := by
  rcases h.2 with ⟨rfl, h0⟩ | ⟨g, cap, cur, rfl, _⟩
  · exact ⟨none, 0, by rw [h0]⟩
  · exact ⟨_, _, rfl⟩
theorem ownsRow_empty (w : World) (e : TypeId) : (w.alloc (.cells #[] e)).ownsRow w.heap.size e 1 (.slice (some ⟨w.heap.size, 0, none⟩) 0 0) 0 [] :=
  World.ownsRow_made w #[] 0 (Nat.le_refl _) (by unfold maxLen; omega) rfl

/-- A slice of words that a call made, and an error's number. -/
def OwnWNo (w : World) (l : List Nat) (no : Int) (e : Ending) (w' : World) : Prop := ∃ A c, e = .returned (.tuple #[.slice A l.length c, .int .i64 no]) ∧ w'.ownsRow w.heap.size 38 1 (.slice A l.length c) l.length (l.map wv) ∧ Below w.heap.size w w'

/-- A slice of words that a call answers: its elements. -/
def ResWords (w : World) (l : List Nat) (e : Ending) (w' : World) : Prop := ∃ A c, e = .returned (.slice A l.length c) ∧ l.length ≤ c ∧ c ≤ 9223372036854775807 ∧ (A = none → c = 0) ∧ Sl w' w'.heap.size A l.length (l.map wv) ∧ Below w.heap.size w w'
/-- How much a row of the call's own has room for. -/
theorem own_caps {w : World} {base : Nat} {e : TypeId} {A : Option Addr} {n c : Nat} {xs : List Value} (h : w.ownsRow base e 1 (.slice A n c) n xs) : n ≤ c ∧ c ≤ 9223372036854775807 ∧ (A = none → c = 0) := by
  rcases h.2 with ⟨h1, h0⟩ | ⟨g, cap, cur, h1, _, _, hnc, hcm, _⟩
  · injection h1 with h2 h3 h4
    exact ⟨by omega, by omega, fun _ => h4⟩
  · injection h1 with h2 h3 h4
    subst h4
    exact ⟨hnc, by unfold maxLen at hcm; omega, fun h => by rw [h] at h2; cases h2⟩

end Go.Proofs.Ytbjcdfhckhpoiaa

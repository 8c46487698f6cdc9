/- What each function of the document's own answers to layer 6 (runs) returns. -/
import Derived.Test.YtdobmdhhgponpaaRows7
import Derived.Test.YtdobmdhhgponpaaPlain7
import Derived.WalkKit
import Derived.ProofKit
import Derived.WalkLawsBesides
import Derived.WalkSpells
import Derived.Deep.QuietTactic
import Derived.BigQuiet
import Derived.Laws.OwnMore
import Derived.Laws.StructEq
namespace Go.Proofs.Ytdobmdhhgponpaa
open Go.RowKit
set_option linter.unusedVariables false

def bv (b : Bool) : Value := .bool b
theorem info_bool : (Try.prog.info? 4).map (fun i => (i.zero, i.size, i.bytes)) = some (some (.bool false), 1, 1) := by kernel_rfl
theorem Sl.bool_ {w : World} {B n : Nat} {A : Option Addr} {zs : List Bool} {j : Nat} (h : Sl w B A n (zs.map bv)) (hj : j < n) : ∃ b off x, A = some ⟨b, off, none⟩ ∧ zs[j]? = some x ∧ w.cell? ⟨b, off + j, none⟩ = some (.bool x) := by
  obtain ⟨b, off, u, e, _, hu, hcell⟩ := h.at_ hj
  rw [List.getElem?_map] at hu
  cases hx : zs[j]? with
  | none => rw [hx] at hu; cases hu
  | some x =>
    rw [hx] at hu
    obtain rfl : u = bv x := by simpa using hu.symm
    exact ⟨b, off, x, e, rfl, hcell⟩
/-- A row of bools that a call made. -/
def OwnBools (w : World) (l : List Bool) (e : Ending) (w' : World) : Prop := ∃ A c, e = .returned (.slice A l.length c) ∧ w'.ownsRow w.heap.size 4 1 (.slice A l.length c) l.length (l.map bv) ∧ Below w.heap.size w w'
/-- A row of bools that a call answers (the one that came in, or one of its own), and an error's number. -/
def ResBoolsNo (Aa : Option Addr) (w : World) (l : List Bool) (no : Int) (e : Ending) (w' : World) : Prop := ∃ A c, e = .returned (.tuple #[.slice A l.length c, .int .i64 no]) ∧ l.length ≤ c ∧ c ≤ 9223372036854775807 ∧ (A = none → c = 0) ∧ Sl w' w'.heap.size A l.length (l.map bv) ∧ Below w.heap.size w w' ∧ (A = Aa ∨ ∀ a, A = some a → w.heap.size ≤ a.block)

theorem made_bools (n : Nat) : (madeCells (Value.bool false).cells (n * 1)).toList = (List.replicate n false).map bv := by
  rw [Nat.mul_one]
  exact (toList_madeCells_one _ n).trans (by simp [bv])

/-- A run and whether there is one. -/
def RunIs (w : World) (r : Option (Int × Int)) (e : Ending) (w' : World) : Prop := e = .returned (.tuple #[.agg #[.int .i64 (r.getD (0, 0)).1, .int .i64 (r.getD (0, 0)).2], .bool r.isSome]) ∧ Below w.heap.size w w'

end Go.Proofs.Ytdobmdhhgponpaa

/-
  No cell of these rows narrows 'for every input' (looked for: loops, veiled, ifaces, maps, wideKeys, modest, calm, conditions, laid).
  DERIVED. THE GIVEN ROWS OF THIS SEAT. 3 by the template 'for every input the law returns true; each argument reads behind the call as it read before'; 0 by the template 'total and deterministic' (their statements: YtbjcdfhckhpoiaaTotals.lean).
  GIVEN WITH THE SEED: the statements are not yours to turn. If you find one false, say at which input.
  Laid BY PROGRAM, IN A SANDBOX (cutbox-rows.mjs): the forced cells as the released guide's own fill.sh prints them over the translation 853b155225084ce7… (all of the seat's roots in one cut). By AI agents, Wed Nov 11 2026. No macro, syntax, notation, axiom, sorry.
-/
import Derived.Test.YtbjcdfhckhpoiaaChecked
import GoSem.Claim
import GoSem.ClaimJoined
import GoSem.ClaimMapViews
import Derived.JoinedTies
import Derived.KernelRfl
namespace Go.Proofs.Ytbjcdfhckhpoiaa
/- THE CELL 'sum', in the pinned program and in every row, IS THE sha256 OF THE DUMP (.gsa) THAT YtbjcdfhckhpoiaaProg.lean LOADS. Nothing in Lean hashes anything: it is a label: what it is worth is what the hold of that sum in a sandbox is worth. -/
noncomputable def Try.pinned : Pinned := { name := "ytbjcdfhckhpoiaa", sum := "853b155225084ce7d19250d2f586c2a3e186ca479522d3cb0a3b7967fddb9123", checked := Try.checked }
namespace Rows
def none {H : Type} : Left H := { results := [], args := [] }

/-- 'shoringlaw03.BitmapOf': WHATEVER THE INPUT: true; the input reads as it did. -/
def bitmapOfSpec : ChangeSpec := { name := "bitmapOf", fn := fun _ => fun
  | [d1, d2] => { results := [.lit (.bool true)], args := [d1, d2] }
  | _ => none }
def bitmapOfRow : OpenClaim := { program := "ytbjcdfhckhpoiaa", sum := "853b155225084ce7d19250d2f586c2a3e186ca479522d3cb0a3b7967fddb9123", func := "shoring/shoringlaw03.BitmapOf", spec := "bitmapOf", inPlace := ["internal/abi.NoEscape"], unfollowed := true, recurses := true, apart := false }
def BitmapOfSaid : Prop := bitmapOfRow.holds Try.pinned (OpenSpec.ofChange bitmapOfSpec)

/-- ITS FALSE NEIGHBOUR: 'it returns false'. Refute it at one input. -/
def bitmapOfWrong : ChangeSpec := { name := "bitmapOf", fn := fun _ => fun
  | [d1, d2] => { results := [.lit (.bool false)], args := [d1, d2] }
  | _ => none }
def BitmapOfWrongFalsely : Prop := bitmapOfRow.holds Try.pinned (OpenSpec.ofChange bitmapOfWrong)

/-- 'shoringlaw03.BitmapWith': WHATEVER THE INPUT: true; the input reads as it did. -/
def bitmapWithSpec : ChangeSpec := { name := "bitmapWith", fn := fun _ => fun
  | [d1, d2, d3, d4] => { results := [.lit (.bool true)], args := [d1, d2, d3, d4] }
  | _ => none }
def bitmapWithRow : OpenClaim := { program := "ytbjcdfhckhpoiaa", sum := "853b155225084ce7d19250d2f586c2a3e186ca479522d3cb0a3b7967fddb9123", func := "shoring/shoringlaw03.BitmapWith", spec := "bitmapWith", inPlace := ["internal/abi.NoEscape"], unfollowed := true, recurses := true, apart := false }
def BitmapWithSaid : Prop := bitmapWithRow.holds Try.pinned (OpenSpec.ofChange bitmapWithSpec)

/-- ITS FALSE NEIGHBOUR: 'it returns false'. Refute it at one input. -/
def bitmapWithWrong : ChangeSpec := { name := "bitmapWith", fn := fun _ => fun
  | [d1, d2, d3, d4] => { results := [.lit (.bool false)], args := [d1, d2, d3, d4] }
  | _ => none }
def BitmapWithWrongFalsely : Prop := bitmapWithRow.holds Try.pinned (OpenSpec.ofChange bitmapWithWrong)

/-- 'shoringlaw03.BitmapTwice': WHATEVER THE INPUT: true; the input reads as it did. -/
def bitmapTwiceSpec : ChangeSpec := { name := "bitmapTwice", fn := fun _ => fun
  | [d1, d2, d3, d4, d5] => { results := [.lit (.bool true)], args := [d1, d2, d3, d4, d5] }
  | _ => none }
def bitmapTwiceRow : OpenClaim := { program := "ytbjcdfhckhpoiaa", sum := "853b155225084ce7d19250d2f586c2a3e186ca479522d3cb0a3b7967fddb9123", func := "shoring/shoringlaw03.BitmapTwice", spec := "bitmapTwice", inPlace := ["internal/abi.NoEscape"], unfollowed := true, recurses := true, apart := false }
def BitmapTwiceSaid : Prop := bitmapTwiceRow.holds Try.pinned (OpenSpec.ofChange bitmapTwiceSpec)

/-- ITS FALSE NEIGHBOUR: 'it returns false'. Refute it at one input. -/
def bitmapTwiceWrong : ChangeSpec := { name := "bitmapTwice", fn := fun _ => fun
  | [d1, d2, d3, d4, d5] => { results := [.lit (.bool false)], args := [d1, d2, d3, d4, d5] }
  | _ => none }
def BitmapTwiceWrongFalsely : Prop := bitmapTwiceRow.holds Try.pinned (OpenSpec.ofChange bitmapTwiceWrong)

/- THE SECOND FORM. 'bulk': how many values and letters a reading holds, each counted each time it is reached (what is shared counts as often as it is met; a slice's spare places count too). A statement '..UptoSaid' is the law's where the arguments, and the package variables that the reading takes, are together of bulk at most 1048576: NARROWER than '..Said'. Prove '..Said' where nothing that the law and all that it calls make is longer than what came in: it says more and counts as full. Else prove '..UptoSaid'. A law counts once. -/
mutual
def uptoBulk {H : Type} : DataW H → Nat
  | .lit (.string bytes) => bytes.length + 1
  | .lit _ => 1
  | .nil => 1
  | .ptr d => uptoBulk d + 1
  | .slice elems spare => uptoBulkAll elems + uptoBulkAll spare + 1
  | .agg parts => uptoBulkAll parts + 1
  | .iface _ d => uptoBulk d + 1
  | .map entries => uptoBulkEntries entries + 1
  | .held _ => 1
def uptoBulkAll {H : Type} : List (DataW H) → Nat
  | [] => 0
  | d :: r => uptoBulk d + uptoBulkAll r
def uptoBulkEntries {H : Type} : List (Lit × DataW H) → Nat
  | [] => 0
  | x :: r => uptoBulkEntry x + uptoBulkEntries r
def uptoBulkEntry {H : Type} : Lit × DataW H → Nat
  | (.string bytes, d) => bytes.length + uptoBulk d + 1
  | (_, d) => uptoBulk d + 1
 end
def uptoSmall : (H : Type) → List (DataW H) → Bool := fun _ ds => decide (uptoBulkAll ds ≤ 1048576)
def OpenSpec.upto (s : _root_.Go.ChangeSpec) : _root_.Go.OpenSpec := { _root_.Go.OpenSpec.ofChange s with cond := some uptoSmall }

/-- 'shoringlaw03.BitmapOf', WHERE WHAT IT READS IS OF BULK AT MOST 1048576: true; the input reads as it did. -/
def bitmapOfUptoRow : OpenClaim := { program := "ytbjcdfhckhpoiaa", sum := "853b155225084ce7d19250d2f586c2a3e186ca479522d3cb0a3b7967fddb9123", func := "shoring/shoringlaw03.BitmapOf", spec := "bitmapOf", inPlace := ["internal/abi.NoEscape"], unfollowed := true, recurses := true, apart := false, narrowed := true }
def BitmapOfUptoSaid : Prop := bitmapOfUptoRow.holds Try.pinned (OpenSpec.upto bitmapOfSpec)

/-- 'shoringlaw03.BitmapWith', WHERE WHAT IT READS IS OF BULK AT MOST 1048576: true; the input reads as it did. -/
def bitmapWithUptoRow : OpenClaim := { program := "ytbjcdfhckhpoiaa", sum := "853b155225084ce7d19250d2f586c2a3e186ca479522d3cb0a3b7967fddb9123", func := "shoring/shoringlaw03.BitmapWith", spec := "bitmapWith", inPlace := ["internal/abi.NoEscape"], unfollowed := true, recurses := true, apart := false, narrowed := true }
def BitmapWithUptoSaid : Prop := bitmapWithUptoRow.holds Try.pinned (OpenSpec.upto bitmapWithSpec)

/-- 'shoringlaw03.BitmapTwice', WHERE WHAT IT READS IS OF BULK AT MOST 1048576: true; the input reads as it did. -/
def bitmapTwiceUptoRow : OpenClaim := { program := "ytbjcdfhckhpoiaa", sum := "853b155225084ce7d19250d2f586c2a3e186ca479522d3cb0a3b7967fddb9123", func := "shoring/shoringlaw03.BitmapTwice", spec := "bitmapTwice", inPlace := ["internal/abi.NoEscape"], unfollowed := true, recurses := true, apart := false, narrowed := true }
def BitmapTwiceUptoSaid : Prop := bitmapTwiceUptoRow.holds Try.pinned (OpenSpec.upto bitmapTwiceSpec)

end Rows
end Go.Proofs.Ytbjcdfhckhpoiaa

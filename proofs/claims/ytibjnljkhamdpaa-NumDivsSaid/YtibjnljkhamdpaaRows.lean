/-
  No cell of these rows narrows 'for every input' (looked for: loops, veiled, ifaces, maps, wideKeys, modest, calm, conditions, laid).
  DERIVED. THE GIVEN ROWS OF THIS SEAT. 5 by the template 'for every input the law returns true; each argument reads behind the call as it read before'; 0 by the template 'total and deterministic' (their statements: YtibjnljkhamdpaaTotals.lean).
  GIVEN WITH THE SEED: the statements are not yours to turn. If you find one false, say at which input.
  Laid BY PROGRAM, IN A SANDBOX (cutbox-rows.mjs): the forced cells as the released guide's own fill.sh prints them over the translation 118b5ddcab82eb9f… (all of the seat's roots in one cut). By AI agents, Wed Nov 11 2026. No macro, syntax, notation, axiom, sorry.
-/
import Derived.Test.YtibjnljkhamdpaaChecked
import GoSem.Claim
import GoSem.ClaimJoined
import GoSem.ClaimMapViews
import Derived.JoinedTies
import Derived.KernelRfl
namespace Go.Proofs.Ytibjnljkhamdpaa
/- THE CELL 'sum', in the pinned program and in every row, IS THE sha256 OF THE DUMP (.gsa) THAT YtibjnljkhamdpaaProg.lean LOADS. Nothing in Lean hashes anything: it is a label: what it is worth is what the hold of that sum in a sandbox is worth. -/
noncomputable def Try.pinned : Pinned := { name := "ytibjnljkhamdpaa", sum := "118b5ddcab82eb9fe33346d671149a9ac731a0c0238c26066326b5680524a22b", checked := Try.checked }
namespace Rows
def none {H : Type} : Left H := { results := [], args := [] }

/-- 'shoringlaw01.NumIs': WHATEVER THE INPUT: true; the input reads as it did. -/
def numIsSpec : ChangeSpec := { name := "numIs", fn := fun _ => fun
  | [d1, d2] => { results := [.lit (.bool true)], args := [d1, d2] }
  | _ => none }
def numIsRow : OpenClaim := { program := "ytibjnljkhamdpaa", sum := "118b5ddcab82eb9fe33346d671149a9ac731a0c0238c26066326b5680524a22b", func := "shoring/shoringlaw01.NumIs", spec := "numIs", unfollowed := true, recurses := true, apart := false }
def NumIsSaid : Prop := numIsRow.holds Try.pinned (OpenSpec.ofChange numIsSpec)

/-- ITS FALSE NEIGHBOUR: 'it returns false'. Refute it at one input. -/
def numIsWrong : ChangeSpec := { name := "numIs", fn := fun _ => fun
  | [d1, d2] => { results := [.lit (.bool false)], args := [d1, d2] }
  | _ => none }
def NumIsWrongFalsely : Prop := numIsRow.holds Try.pinned (OpenSpec.ofChange numIsWrong)

/-- 'shoringlaw01.NumUps': WHATEVER THE INPUT: true; the input reads as it did. -/
def numUpsSpec : ChangeSpec := { name := "numUps", fn := fun _ => fun
  | [d] => { results := [.lit (.bool true)], args := [d] }
  | _ => none }
def numUpsRow : OpenClaim := { program := "ytibjnljkhamdpaa", sum := "118b5ddcab82eb9fe33346d671149a9ac731a0c0238c26066326b5680524a22b", func := "shoring/shoringlaw01.NumUps", spec := "numUps", unfollowed := true, recurses := true, apart := false }
def NumUpsSaid : Prop := numUpsRow.holds Try.pinned (OpenSpec.ofChange numUpsSpec)

/-- ITS FALSE NEIGHBOUR: 'it returns false'. Refute it at one input. -/
def numUpsWrong : ChangeSpec := { name := "numUps", fn := fun _ => fun
  | [d] => { results := [.lit (.bool false)], args := [d] }
  | _ => none }
def NumUpsWrongFalsely : Prop := numUpsRow.holds Try.pinned (OpenSpec.ofChange numUpsWrong)

/-- 'shoringlaw01.NumAll': WHATEVER THE INPUT: true; the input reads as it did. -/
def numAllSpec : ChangeSpec := { name := "numAll", fn := fun _ => fun
  | [d] => { results := [.lit (.bool true)], args := [d] }
  | _ => none }
def numAllRow : OpenClaim := { program := "ytibjnljkhamdpaa", sum := "118b5ddcab82eb9fe33346d671149a9ac731a0c0238c26066326b5680524a22b", func := "shoring/shoringlaw01.NumAll", spec := "numAll", unfollowed := true, recurses := true, apart := false }
def NumAllSaid : Prop := numAllRow.holds Try.pinned (OpenSpec.ofChange numAllSpec)

/-- ITS FALSE NEIGHBOUR: 'it returns false'. Refute it at one input. -/
def numAllWrong : ChangeSpec := { name := "numAll", fn := fun _ => fun
  | [d] => { results := [.lit (.bool false)], args := [d] }
  | _ => none }
def NumAllWrongFalsely : Prop := numAllRow.holds Try.pinned (OpenSpec.ofChange numAllWrong)

/-- 'shoringlaw01.NumDivs': WHATEVER THE INPUT: true; the input reads as it did. -/
def numDivsSpec : ChangeSpec := { name := "numDivs", fn := fun _ => fun
  | [d1, d2] => { results := [.lit (.bool true)], args := [d1, d2] }
  | _ => none }
def numDivsRow : OpenClaim := { program := "ytibjnljkhamdpaa", sum := "118b5ddcab82eb9fe33346d671149a9ac731a0c0238c26066326b5680524a22b", func := "shoring/shoringlaw01.NumDivs", spec := "numDivs", unfollowed := true, recurses := true, apart := false }
def NumDivsSaid : Prop := numDivsRow.holds Try.pinned (OpenSpec.ofChange numDivsSpec)

/-- ITS FALSE NEIGHBOUR: 'it returns false'. Refute it at one input. -/
def numDivsWrong : ChangeSpec := { name := "numDivs", fn := fun _ => fun
  | [d1, d2] => { results := [.lit (.bool false)], args := [d1, d2] }
  | _ => none }
def NumDivsWrongFalsely : Prop := numDivsRow.holds Try.pinned (OpenSpec.ofChange numDivsWrong)

/-- 'shoringlaw01.NumOrders': WHATEVER THE INPUT: true; the input reads as it did. -/
def numOrdersSpec : ChangeSpec := { name := "numOrders", fn := fun _ => fun
  | [d] => { results := [.lit (.bool true)], args := [d] }
  | _ => none }
def numOrdersRow : OpenClaim := { program := "ytibjnljkhamdpaa", sum := "118b5ddcab82eb9fe33346d671149a9ac731a0c0238c26066326b5680524a22b", func := "shoring/shoringlaw01.NumOrders", spec := "numOrders", unfollowed := true, recurses := true, apart := false }
def NumOrdersSaid : Prop := numOrdersRow.holds Try.pinned (OpenSpec.ofChange numOrdersSpec)

/-- ITS FALSE NEIGHBOUR: 'it returns false'. Refute it at one input. -/
def numOrdersWrong : ChangeSpec := { name := "numOrders", fn := fun _ => fun
  | [d] => { results := [.lit (.bool false)], args := [d] }
  | _ => none }
def NumOrdersWrongFalsely : Prop := numOrdersRow.holds Try.pinned (OpenSpec.ofChange numOrdersWrong)

/- THE SECOND FORM. 'bulk': how many values and letters a reading holds, each counted each time it is reached (what is shared counts as often as it is met; a slice's spare places count too). A statement '..UptoSaid' is the law's where the arguments, and the package variables that the reading takes, are together of bulk at most 1048576: NARROWER than '..Said'. Prove '..Said' where nothing that the law and all that it calls make is longer than what came in: it says more and counts as full. Else prove '..UptoSaid'. A law counts once. -/
mutual
def uptoBulk {H : Type} : DataW H → Nat
  | .lit (.string bytes) => bytes.length + 1
  | .lit _ => 1
  | .nil => 1
  | .ptr d => uptoBulk d + 1
  | .slice elems spare => uptoBulkAll elems + uptoBulkAll spare + 1
  | .agg parts => uptoBulkAll parts + 1
  | .iface _ d => uptoBulk d + 1
  | .map entries => uptoBulkEntries entries + 1
  | .held _ => 1
def uptoBulkAll {H : Type} : List (DataW H) → Nat
  | [] => 0
  | d :: r => uptoBulk d + uptoBulkAll r
def uptoBulkEntries {H : Type} : List (Lit × DataW H) → Nat
  | [] => 0
  | x :: r => uptoBulkEntry x + uptoBulkEntries r
def uptoBulkEntry {H : Type} : Lit × DataW H → Nat
  | (.string bytes, d) => bytes.length + uptoBulk d + 1
  | (_, d) => uptoBulk d + 1
 end
def uptoSmall : (H : Type) → List (DataW H) → Bool := fun _ ds => decide (uptoBulkAll ds ≤ 1048576)
def OpenSpec.upto (s : _root_.Go.ChangeSpec) : _root_.Go.OpenSpec := { _root_.Go.OpenSpec.ofChange s with cond := some uptoSmall }

/-- 'shoringlaw01.NumIs', WHERE WHAT IT READS IS OF BULK AT MOST 1048576: true; the input reads as it did. -/
def numIsUptoRow : OpenClaim := { program := "ytibjnljkhamdpaa", sum := "118b5ddcab82eb9fe33346d671149a9ac731a0c0238c26066326b5680524a22b", func := "shoring/shoringlaw01.NumIs", spec := "numIs", unfollowed := true, recurses := true, apart := false, narrowed := true }
def NumIsUptoSaid : Prop := numIsUptoRow.holds Try.pinned (OpenSpec.upto numIsSpec)

/-- 'shoringlaw01.NumUps', WHERE WHAT IT READS IS OF BULK AT MOST 1048576: true; the input reads as it did. -/
def numUpsUptoRow : OpenClaim := { program := "ytibjnljkhamdpaa", sum := "118b5ddcab82eb9fe33346d671149a9ac731a0c0238c26066326b5680524a22b", func := "shoring/shoringlaw01.NumUps", spec := "numUps", unfollowed := true, recurses := true, apart := false, narrowed := true }
def NumUpsUptoSaid : Prop := numUpsUptoRow.holds Try.pinned (OpenSpec.upto numUpsSpec)

/-- 'shoringlaw01.NumAll', WHERE WHAT IT READS IS OF BULK AT MOST 1048576: true; the input reads as it did. -/
def numAllUptoRow : OpenClaim := { program := "ytibjnljkhamdpaa", sum := "118b5ddcab82eb9fe33346d671149a9ac731a0c0238c26066326b5680524a22b", func := "shoring/shoringlaw01.NumAll", spec := "numAll", unfollowed := true, recurses := true, apart := false, narrowed := true }
def NumAllUptoSaid : Prop := numAllUptoRow.holds Try.pinned (OpenSpec.upto numAllSpec)

/-- 'shoringlaw01.NumDivs', WHERE WHAT IT READS IS OF BULK AT MOST 1048576: true; the input reads as it did. -/
def numDivsUptoRow : OpenClaim := { program := "ytibjnljkhamdpaa", sum := "118b5ddcab82eb9fe33346d671149a9ac731a0c0238c26066326b5680524a22b", func := "shoring/shoringlaw01.NumDivs", spec := "numDivs", unfollowed := true, recurses := true, apart := false, narrowed := true }
def NumDivsUptoSaid : Prop := numDivsUptoRow.holds Try.pinned (OpenSpec.upto numDivsSpec)

/-- 'shoringlaw01.NumOrders', WHERE WHAT IT READS IS OF BULK AT MOST 1048576: true; the input reads as it did. -/
def numOrdersUptoRow : OpenClaim := { program := "ytibjnljkhamdpaa", sum := "118b5ddcab82eb9fe33346d671149a9ac731a0c0238c26066326b5680524a22b", func := "shoring/shoringlaw01.NumOrders", spec := "numOrders", unfollowed := true, recurses := true, apart := false, narrowed := true }
def NumOrdersUptoSaid : Prop := numOrdersUptoRow.holds Try.pinned (OpenSpec.upto numOrdersSpec)

end Rows
end Go.Proofs.Ytibjnljkhamdpaa

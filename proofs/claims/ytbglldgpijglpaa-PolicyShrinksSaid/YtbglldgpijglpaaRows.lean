/-
  No cell of these rows narrows 'for every input' (looked for: loops, veiled, ifaces, maps, wideKeys, modest, calm, conditions, laid).
  DERIVED. THE GIVEN ROWS OF THIS SEAT. 5 by the template 'for every input the law returns true; each argument reads behind the call as it read before'; 0 by the template 'total and deterministic' (their statements: YtbglldgpijglpaaTotals.lean).
  GIVEN WITH THE SEED: the statements are not yours to turn. If you find one false, say at which input.
  Laid BY PROGRAM, IN A SANDBOX (cutbox-rows.mjs): the forced cells as the released guide's own fill.sh prints them over the translation 882a04f8c3c3858a… (all of the seat's roots in one cut). By AI agents, Wed Nov 11 2026. No macro, syntax, notation, axiom, sorry.
-/
import Derived.Test.YtbglldgpijglpaaChecked
import GoSem.Claim
import GoSem.ClaimJoined
import GoSem.ClaimMapViews
import Derived.JoinedTies
import Derived.KernelRfl
namespace Go.Proofs.Ytbglldgpijglpaa
/- THE CELL 'sum', in the pinned program and in every row, IS THE sha256 OF THE DUMP (.gsa) THAT YtbglldgpijglpaaProg.lean LOADS. Nothing in Lean hashes anything: it is a label: what it is worth is what the hold of that sum in a sandbox is worth. -/
noncomputable def Try.pinned : Pinned := { name := "ytbglldgpijglpaa", sum := "882a04f8c3c3858ab3ab8d8e7f8768303e284b3ca9c1ce9193850588df2b407c", checked := Try.checked }
namespace Rows
def none {H : Type} : Left H := { results := [], args := [] }

/-- 'shoringlaw18.PolicyFirst': WHATEVER THE INPUT: true; the input reads as it did. -/
def policyFirstSpec : ChangeSpec := { name := "policyFirst", fn := fun _ => fun
  | [d1, d2] => { results := [.lit (.bool true)], args := [d1, d2] }
  | _ => none }
def policyFirstRow : OpenClaim := { program := "ytbglldgpijglpaa", sum := "882a04f8c3c3858ab3ab8d8e7f8768303e284b3ca9c1ce9193850588df2b407c", func := "shoring/shoringlaw18.PolicyFirst", spec := "policyFirst", unfollowed := true, recurses := true, apart := false }
def PolicyFirstSaid : Prop := policyFirstRow.holds Try.pinned (OpenSpec.ofChange policyFirstSpec)

/-- ITS FALSE NEIGHBOUR: 'it returns false'. Refute it at one input. -/
def policyFirstWrong : ChangeSpec := { name := "policyFirst", fn := fun _ => fun
  | [d1, d2] => { results := [.lit (.bool false)], args := [d1, d2] }
  | _ => none }
def PolicyFirstWrongFalsely : Prop := policyFirstRow.holds Try.pinned (OpenSpec.ofChange policyFirstWrong)

/-- 'shoringlaw18.PolicyGrows': WHATEVER THE INPUT: true; the input reads as it did. -/
def policyGrowsSpec : ChangeSpec := { name := "policyGrows", fn := fun _ => fun
  | [d1, d2, d3, d4] => { results := [.lit (.bool true)], args := [d1, d2, d3, d4] }
  | _ => none }
def policyGrowsRow : OpenClaim := { program := "ytbglldgpijglpaa", sum := "882a04f8c3c3858ab3ab8d8e7f8768303e284b3ca9c1ce9193850588df2b407c", func := "shoring/shoringlaw18.PolicyGrows", spec := "policyGrows", unfollowed := true, recurses := true, apart := false }
def PolicyGrowsSaid : Prop := policyGrowsRow.holds Try.pinned (OpenSpec.ofChange policyGrowsSpec)

/-- ITS FALSE NEIGHBOUR: 'it returns false'. Refute it at one input. -/
def policyGrowsWrong : ChangeSpec := { name := "policyGrows", fn := fun _ => fun
  | [d1, d2, d3, d4] => { results := [.lit (.bool false)], args := [d1, d2, d3, d4] }
  | _ => none }
def PolicyGrowsWrongFalsely : Prop := policyGrowsRow.holds Try.pinned (OpenSpec.ofChange policyGrowsWrong)

/-- 'shoringlaw18.PolicyShrinks': WHATEVER THE INPUT: true; the input reads as it did. -/
def policyShrinksSpec : ChangeSpec := { name := "policyShrinks", fn := fun _ => fun
  | [d1, d2] => { results := [.lit (.bool true)], args := [d1, d2] }
  | _ => none }
def policyShrinksRow : OpenClaim := { program := "ytbglldgpijglpaa", sum := "882a04f8c3c3858ab3ab8d8e7f8768303e284b3ca9c1ce9193850588df2b407c", func := "shoring/shoringlaw18.PolicyShrinks", spec := "policyShrinks", unfollowed := true, recurses := true, apart := false }
def PolicyShrinksSaid : Prop := policyShrinksRow.holds Try.pinned (OpenSpec.ofChange policyShrinksSpec)

/-- ITS FALSE NEIGHBOUR: 'it returns false'. Refute it at one input. -/
def policyShrinksWrong : ChangeSpec := { name := "policyShrinks", fn := fun _ => fun
  | [d1, d2] => { results := [.lit (.bool false)], args := [d1, d2] }
  | _ => none }
def PolicyShrinksWrongFalsely : Prop := policyShrinksRow.holds Try.pinned (OpenSpec.ofChange policyShrinksWrong)

/-- 'shoringlaw18.PolicyLimits': WHATEVER THE INPUT: true; the input reads as it did. -/
def policyLimitsSpec : ChangeSpec := { name := "policyLimits", fn := fun _ => fun
  | [d] => { results := [.lit (.bool true)], args := [d] }
  | _ => none }
def policyLimitsRow : OpenClaim := { program := "ytbglldgpijglpaa", sum := "882a04f8c3c3858ab3ab8d8e7f8768303e284b3ca9c1ce9193850588df2b407c", func := "shoring/shoringlaw18.PolicyLimits", spec := "policyLimits", unfollowed := true, recurses := true, apart := false }
def PolicyLimitsSaid : Prop := policyLimitsRow.holds Try.pinned (OpenSpec.ofChange policyLimitsSpec)

/-- ITS FALSE NEIGHBOUR: 'it returns false'. Refute it at one input. -/
def policyLimitsWrong : ChangeSpec := { name := "policyLimits", fn := fun _ => fun
  | [d] => { results := [.lit (.bool false)], args := [d] }
  | _ => none }
def PolicyLimitsWrongFalsely : Prop := policyLimitsRow.holds Try.pinned (OpenSpec.ofChange policyLimitsWrong)

/-- 'shoringlaw18.PolicyCalms': WHATEVER THE INPUT: true; the input reads as it did. -/
def policyCalmsSpec : ChangeSpec := { name := "policyCalms", fn := fun _ => fun
  | [d1, d2, d3, d4] => { results := [.lit (.bool true)], args := [d1, d2, d3, d4] }
  | _ => none }
def policyCalmsRow : OpenClaim := { program := "ytbglldgpijglpaa", sum := "882a04f8c3c3858ab3ab8d8e7f8768303e284b3ca9c1ce9193850588df2b407c", func := "shoring/shoringlaw18.PolicyCalms", spec := "policyCalms", unfollowed := true, recurses := true, apart := false }
def PolicyCalmsSaid : Prop := policyCalmsRow.holds Try.pinned (OpenSpec.ofChange policyCalmsSpec)

/-- ITS FALSE NEIGHBOUR: 'it returns false'. Refute it at one input. -/
def policyCalmsWrong : ChangeSpec := { name := "policyCalms", fn := fun _ => fun
  | [d1, d2, d3, d4] => { results := [.lit (.bool false)], args := [d1, d2, d3, d4] }
  | _ => none }
def PolicyCalmsWrongFalsely : Prop := policyCalmsRow.holds Try.pinned (OpenSpec.ofChange policyCalmsWrong)

/- THE SECOND FORM. 'bulk': how many values and letters a reading holds, each counted each time it is reached (what is shared counts as often as it is met; a slice's spare places count too). A statement '..UptoSaid' is the law's where the arguments, and the package variables that the reading takes, are together of bulk at most 1048576: NARROWER than '..Said'. Prove '..Said' where nothing that the law and all that it calls make is longer than what came in: it says more and counts as full. Else prove '..UptoSaid'. A law counts once. -/
mutual
def uptoBulk {H : Type} : DataW H → Nat
  | .lit (.string bytes) => bytes.length + 1
  | .lit _ => 1
  | .nil => 1
  | .ptr d => uptoBulk d + 1
  | .slice elems spare => uptoBulkAll elems + uptoBulkAll spare + 1
  | .agg parts => uptoBulkAll parts + 1
  | .iface _ d => uptoBulk d + 1
  | .map entries => uptoBulkEntries entries + 1
  | .held _ => 1
def uptoBulkAll {H : Type} : List (DataW H) → Nat
  | [] => 0
  | d :: r => uptoBulk d + uptoBulkAll r
def uptoBulkEntries {H : Type} : List (Lit × DataW H) → Nat
  | [] => 0
  | x :: r => uptoBulkEntry x + uptoBulkEntries r
def uptoBulkEntry {H : Type} : Lit × DataW H → Nat
  | (.string bytes, d) => bytes.length + uptoBulk d + 1
  | (_, d) => uptoBulk d + 1
 end
def uptoSmall : (H : Type) → List (DataW H) → Bool := fun _ ds => decide (uptoBulkAll ds ≤ 1048576)
def OpenSpec.upto (s : _root_.Go.ChangeSpec) : _root_.Go.OpenSpec := { _root_.Go.OpenSpec.ofChange s with cond := some uptoSmall }

/-- 'shoringlaw18.PolicyFirst', WHERE WHAT IT READS IS OF BULK AT MOST 1048576: true; the input reads as it did. -/
def policyFirstUptoRow : OpenClaim := { program := "ytbglldgpijglpaa", sum := "882a04f8c3c3858ab3ab8d8e7f8768303e284b3ca9c1ce9193850588df2b407c", func := "shoring/shoringlaw18.PolicyFirst", spec := "policyFirst", unfollowed := true, recurses := true, apart := false, narrowed := true }
def PolicyFirstUptoSaid : Prop := policyFirstUptoRow.holds Try.pinned (OpenSpec.upto policyFirstSpec)

/-- 'shoringlaw18.PolicyGrows', WHERE WHAT IT READS IS OF BULK AT MOST 1048576: true; the input reads as it did. -/
def policyGrowsUptoRow : OpenClaim := { program := "ytbglldgpijglpaa", sum := "882a04f8c3c3858ab3ab8d8e7f8768303e284b3ca9c1ce9193850588df2b407c", func := "shoring/shoringlaw18.PolicyGrows", spec := "policyGrows", unfollowed := true, recurses := true, apart := false, narrowed := true }
def PolicyGrowsUptoSaid : Prop := policyGrowsUptoRow.holds Try.pinned (OpenSpec.upto policyGrowsSpec)

/-- 'shoringlaw18.PolicyShrinks', WHERE WHAT IT READS IS OF BULK AT MOST 1048576: true; the input reads as it did. -/
def policyShrinksUptoRow : OpenClaim := { program := "ytbglldgpijglpaa", sum := "882a04f8c3c3858ab3ab8d8e7f8768303e284b3ca9c1ce9193850588df2b407c", func := "shoring/shoringlaw18.PolicyShrinks", spec := "policyShrinks", unfollowed := true, recurses := true, apart := false, narrowed := true }
def PolicyShrinksUptoSaid : Prop := policyShrinksUptoRow.holds Try.pinned (OpenSpec.upto policyShrinksSpec)

/-- 'shoringlaw18.PolicyLimits', WHERE WHAT IT READS IS OF BULK AT MOST 1048576: true; the input reads as it did. -/
def policyLimitsUptoRow : OpenClaim := { program := "ytbglldgpijglpaa", sum := "882a04f8c3c3858ab3ab8d8e7f8768303e284b3ca9c1ce9193850588df2b407c", func := "shoring/shoringlaw18.PolicyLimits", spec := "policyLimits", unfollowed := true, recurses := true, apart := false, narrowed := true }
def PolicyLimitsUptoSaid : Prop := policyLimitsUptoRow.holds Try.pinned (OpenSpec.upto policyLimitsSpec)

/-- 'shoringlaw18.PolicyCalms', WHERE WHAT IT READS IS OF BULK AT MOST 1048576: true; the input reads as it did. -/
def policyCalmsUptoRow : OpenClaim := { program := "ytbglldgpijglpaa", sum := "882a04f8c3c3858ab3ab8d8e7f8768303e284b3ca9c1ce9193850588df2b407c", func := "shoring/shoringlaw18.PolicyCalms", spec := "policyCalms", unfollowed := true, recurses := true, apart := false, narrowed := true }
def PolicyCalmsUptoSaid : Prop := policyCalmsUptoRow.holds Try.pinned (OpenSpec.upto policyCalmsSpec)

end Rows
end Go.Proofs.Ytbglldgpijglpaa

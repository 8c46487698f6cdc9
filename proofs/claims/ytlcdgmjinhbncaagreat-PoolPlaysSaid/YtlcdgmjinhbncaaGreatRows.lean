/-
  No cell of these rows narrows 'for every input' (looked for: loops, veiled, ifaces, maps, wideKeys, modest, calm, conditions, laid).
  DERIVED. THE GIVEN ROWS OF THIS SEAT. 8 by the template 'for every input the law returns true; each argument reads behind the call as it read before'; 0 by the template 'total and deterministic' (their statements: YtlcdgmjinhbncaaGreatTotals.lean).
  GIVEN WITH THE SEED: the statements are not yours to turn. If you find one false, say at which input.
  Laid BY PROGRAM, IN A SANDBOX (cutbox-rows.mjs): the forced cells as the released guide's own fill.sh prints them over the translation 64a90f00f1f523d9… (all of the seat's roots in one cut). By AI agents, Wed Nov 11 2026. No macro, syntax, notation, axiom, sorry.
-/
import Derived.Test.YtlcdgmjinhbncaaGreatChecked
import GoSem.Claim
import GoSem.ClaimJoined
import GoSem.ClaimMapViews
import Derived.JoinedTies
import Derived.KernelRfl
namespace Go.Proofs.YtlcdgmjinhbncaaGreat
/- THE CELL 'sum', in the pinned program and in every row, IS THE sha256 OF THE DUMP (.gsa) THAT YtlcdgmjinhbncaaGreatProg.lean LOADS. Nothing in Lean hashes anything: it is a label: what it is worth is what the hold of that sum in a sandbox is worth. -/
noncomputable def Tryz.pinned : Pinned := { name := "ytlcdgmjinhbncaagreat", sum := "64a90f00f1f523d984ca1b65c521dda3d88ca099303fd76915a9aa331b62203c", checked := Tryz.checked }
namespace Rows
def none {H : Type} : Left H := { results := [], args := [] }

/-- 'shoringlaw09.PoolPlays': WHATEVER THE INPUT: true; the input reads as it did. -/
def poolPlaysSpec : ChangeSpec := { name := "poolPlays", fn := fun _ => fun
  | [d1, d2] => { results := [.lit (.bool true)], args := [d1, d2] }
  | _ => none }
def poolPlaysRow : OpenClaim := { program := "ytlcdgmjinhbncaagreat", sum := "64a90f00f1f523d984ca1b65c521dda3d88ca099303fd76915a9aa331b62203c", func := "shoring/shoringlaw09.PoolPlays", spec := "poolPlays", inPlace := ["slices.overlaps[shoring/api.Run]"], unfollowed := true, recurses := true, apart := false }
def PoolPlaysSaid : Prop := poolPlaysRow.holds Tryz.pinned (OpenSpec.ofChange poolPlaysSpec)

/-- ITS FALSE NEIGHBOUR: 'it returns false'. Refute it at one input. -/
def poolPlaysWrong : ChangeSpec := { name := "poolPlays", fn := fun _ => fun
  | [d1, d2] => { results := [.lit (.bool false)], args := [d1, d2] }
  | _ => none }
def PoolPlaysWrongFalsely : Prop := poolPlaysRow.holds Tryz.pinned (OpenSpec.ofChange poolPlaysWrong)

/-- 'shoringlaw11.CachePlays': WHATEVER THE INPUT: true; the input reads as it did. -/
def cachePlaysSpec : ChangeSpec := { name := "cachePlays", fn := fun _ => fun
  | [d1, d2, d3, d4] => { results := [.lit (.bool true)], args := [d1, d2, d3, d4] }
  | _ => none }
def cachePlaysRow : OpenClaim := { program := "ytlcdgmjinhbncaagreat", sum := "64a90f00f1f523d984ca1b65c521dda3d88ca099303fd76915a9aa331b62203c", func := "shoring/shoringlaw11.CachePlays", spec := "cachePlays", inPlace := ["slices.overlaps[shoring/api.Run]"], unfollowed := true, recurses := true, apart := false }
def CachePlaysSaid : Prop := cachePlaysRow.holds Tryz.pinned (OpenSpec.ofChange cachePlaysSpec)

/-- ITS FALSE NEIGHBOUR: 'it returns false'. Refute it at one input. -/
def cachePlaysWrong : ChangeSpec := { name := "cachePlays", fn := fun _ => fun
  | [d1, d2, d3, d4] => { results := [.lit (.bool false)], args := [d1, d2, d3, d4] }
  | _ => none }
def CachePlaysWrongFalsely : Prop := cachePlaysRow.holds Tryz.pinned (OpenSpec.ofChange cachePlaysWrong)

/-- 'shoringlaw11.CacheBounds': WHATEVER THE INPUT: true; the input reads as it did. -/
def cacheBoundsSpec : ChangeSpec := { name := "cacheBounds", fn := fun _ => fun
  | [d1, d2, d3] => { results := [.lit (.bool true)], args := [d1, d2, d3] }
  | _ => none }
def cacheBoundsRow : OpenClaim := { program := "ytlcdgmjinhbncaagreat", sum := "64a90f00f1f523d984ca1b65c521dda3d88ca099303fd76915a9aa331b62203c", func := "shoring/shoringlaw11.CacheBounds", spec := "cacheBounds", inPlace := ["slices.overlaps[shoring/api.Run]"], unfollowed := true, recurses := true, apart := false }
def CacheBoundsSaid : Prop := cacheBoundsRow.holds Tryz.pinned (OpenSpec.ofChange cacheBoundsSpec)

/-- ITS FALSE NEIGHBOUR: 'it returns false'. Refute it at one input. -/
def cacheBoundsWrong : ChangeSpec := { name := "cacheBounds", fn := fun _ => fun
  | [d1, d2, d3] => { results := [.lit (.bool false)], args := [d1, d2, d3] }
  | _ => none }
def CacheBoundsWrongFalsely : Prop := cacheBoundsRow.holds Tryz.pinned (OpenSpec.ofChange cacheBoundsWrong)

/-- 'shoringlaw11.CacheEnds': WHATEVER THE INPUT: true; the input reads as it did. -/
def cacheEndsSpec : ChangeSpec := { name := "cacheEnds", fn := fun _ => fun
  | [d1, d2, d3] => { results := [.lit (.bool true)], args := [d1, d2, d3] }
  | _ => none }
def cacheEndsRow : OpenClaim := { program := "ytlcdgmjinhbncaagreat", sum := "64a90f00f1f523d984ca1b65c521dda3d88ca099303fd76915a9aa331b62203c", func := "shoring/shoringlaw11.CacheEnds", spec := "cacheEnds", inPlace := ["slices.overlaps[shoring/api.Run]"], unfollowed := true, recurses := true, apart := false }
def CacheEndsSaid : Prop := cacheEndsRow.holds Tryz.pinned (OpenSpec.ofChange cacheEndsSpec)

/-- ITS FALSE NEIGHBOUR: 'it returns false'. Refute it at one input. -/
def cacheEndsWrong : ChangeSpec := { name := "cacheEnds", fn := fun _ => fun
  | [d1, d2, d3] => { results := [.lit (.bool false)], args := [d1, d2, d3] }
  | _ => none }
def CacheEndsWrongFalsely : Prop := cacheEndsRow.holds Tryz.pinned (OpenSpec.ofChange cacheEndsWrong)

/-- 'shoringlaw12.StacksApart': WHATEVER THE INPUT: true; the input reads as it did. -/
def stacksApartSpec : ChangeSpec := { name := "stacksApart", fn := fun _ => fun
  | [d1, d2, d3] => { results := [.lit (.bool true)], args := [d1, d2, d3] }
  | _ => none }
def stacksApartRow : OpenClaim := { program := "ytlcdgmjinhbncaagreat", sum := "64a90f00f1f523d984ca1b65c521dda3d88ca099303fd76915a9aa331b62203c", func := "shoring/shoringlaw12.StacksApart", spec := "stacksApart", inPlace := ["slices.overlaps[shoring/api.Run]"], unfollowed := true, recurses := true, apart := false }
def StacksApartSaid : Prop := stacksApartRow.holds Tryz.pinned (OpenSpec.ofChange stacksApartSpec)

/-- ITS FALSE NEIGHBOUR: 'it returns false'. Refute it at one input. -/
def stacksApartWrong : ChangeSpec := { name := "stacksApart", fn := fun _ => fun
  | [d1, d2, d3] => { results := [.lit (.bool false)], args := [d1, d2, d3] }
  | _ => none }
def StacksApartWrongFalsely : Prop := stacksApartRow.holds Tryz.pinned (OpenSpec.ofChange stacksApartWrong)

/-- 'shoringlaw12.StacksEnds': WHATEVER THE INPUT: true; the input reads as it did. -/
def stacksEndsSpec : ChangeSpec := { name := "stacksEnds", fn := fun _ => fun
  | [d1, d2, d3, d4] => { results := [.lit (.bool true)], args := [d1, d2, d3, d4] }
  | _ => none }
def stacksEndsRow : OpenClaim := { program := "ytlcdgmjinhbncaagreat", sum := "64a90f00f1f523d984ca1b65c521dda3d88ca099303fd76915a9aa331b62203c", func := "shoring/shoringlaw12.StacksEnds", spec := "stacksEnds", inPlace := ["slices.overlaps[shoring/api.Run]"], unfollowed := true, recurses := true, apart := false }
def StacksEndsSaid : Prop := stacksEndsRow.holds Tryz.pinned (OpenSpec.ofChange stacksEndsSpec)

/-- ITS FALSE NEIGHBOUR: 'it returns false'. Refute it at one input. -/
def stacksEndsWrong : ChangeSpec := { name := "stacksEnds", fn := fun _ => fun
  | [d1, d2, d3, d4] => { results := [.lit (.bool false)], args := [d1, d2, d3, d4] }
  | _ => none }
def StacksEndsWrongFalsely : Prop := stacksEndsRow.holds Tryz.pinned (OpenSpec.ofChange stacksEndsWrong)

/-- 'shoringlaw12.StacksNil': WHATEVER THE INPUT: true; the input reads as it did. -/
def stacksNilSpec : ChangeSpec := { name := "stacksNil", fn := fun _ => fun
  | [d1, d2, d3, d4] => { results := [.lit (.bool true)], args := [d1, d2, d3, d4] }
  | _ => none }
def stacksNilRow : OpenClaim := { program := "ytlcdgmjinhbncaagreat", sum := "64a90f00f1f523d984ca1b65c521dda3d88ca099303fd76915a9aa331b62203c", func := "shoring/shoringlaw12.StacksNil", spec := "stacksNil", inPlace := ["slices.overlaps[shoring/api.Run]"], unfollowed := true, recurses := true, apart := false }
def StacksNilSaid : Prop := stacksNilRow.holds Tryz.pinned (OpenSpec.ofChange stacksNilSpec)

/-- ITS FALSE NEIGHBOUR: 'it returns false'. Refute it at one input. -/
def stacksNilWrong : ChangeSpec := { name := "stacksNil", fn := fun _ => fun
  | [d1, d2, d3, d4] => { results := [.lit (.bool false)], args := [d1, d2, d3, d4] }
  | _ => none }
def StacksNilWrongFalsely : Prop := stacksNilRow.holds Tryz.pinned (OpenSpec.ofChange stacksNilWrong)

/-- 'shoringlaw12.StacksAgain': WHATEVER THE INPUT: true; the input reads as it did. -/
def stacksAgainSpec : ChangeSpec := { name := "stacksAgain", fn := fun _ => fun
  | [d1, d2, d3, d4] => { results := [.lit (.bool true)], args := [d1, d2, d3, d4] }
  | _ => none }
def stacksAgainRow : OpenClaim := { program := "ytlcdgmjinhbncaagreat", sum := "64a90f00f1f523d984ca1b65c521dda3d88ca099303fd76915a9aa331b62203c", func := "shoring/shoringlaw12.StacksAgain", spec := "stacksAgain", inPlace := ["slices.overlaps[shoring/api.Run]"], unfollowed := true, recurses := true, apart := false }
def StacksAgainSaid : Prop := stacksAgainRow.holds Tryz.pinned (OpenSpec.ofChange stacksAgainSpec)

/-- ITS FALSE NEIGHBOUR: 'it returns false'. Refute it at one input. -/
def stacksAgainWrong : ChangeSpec := { name := "stacksAgain", fn := fun _ => fun
  | [d1, d2, d3, d4] => { results := [.lit (.bool false)], args := [d1, d2, d3, d4] }
  | _ => none }
def StacksAgainWrongFalsely : Prop := stacksAgainRow.holds Tryz.pinned (OpenSpec.ofChange stacksAgainWrong)

/- THE SECOND FORM. 'bulk': how many values and letters a reading holds, each counted each time it is reached (what is shared counts as often as it is met; a slice's spare places count too). A statement '..UptoSaid' is the law's where the arguments, and the package variables that the reading takes, are together of bulk at most 1048576: NARROWER than '..Said'. Prove '..Said' where nothing that the law and all that it calls make is longer than what came in: it says more and counts as full. Else prove '..UptoSaid'. A law counts once. -/
mutual
def uptoBulk {H : Type} : DataW H → Nat
  | .lit (.string bytes) => bytes.length + 1
  | .lit _ => 1
  | .nil => 1
  | .ptr d => uptoBulk d + 1
  | .slice elems spare => uptoBulkAll elems + uptoBulkAll spare + 1
  | .agg parts => uptoBulkAll parts + 1
  | .iface _ d => uptoBulk d + 1
  | .map entries => uptoBulkEntries entries + 1
  | .held _ => 1
def uptoBulkAll {H : Type} : List (DataW H) → Nat
  | [] => 0
  | d :: r => uptoBulk d + uptoBulkAll r
def uptoBulkEntries {H : Type} : List (Lit × DataW H) → Nat
  | [] => 0
  | x :: r => uptoBulkEntry x + uptoBulkEntries r
def uptoBulkEntry {H : Type} : Lit × DataW H → Nat
  | (.string bytes, d) => bytes.length + uptoBulk d + 1
  | (_, d) => uptoBulk d + 1
 end
def uptoSmall : (H : Type) → List (DataW H) → Bool := fun _ ds => decide (uptoBulkAll ds ≤ 1048576)
def OpenSpec.upto (s : _root_.Go.ChangeSpec) : _root_.Go.OpenSpec := { _root_.Go.OpenSpec.ofChange s with cond := some uptoSmall }

/-- 'shoringlaw09.PoolPlays', WHERE WHAT IT READS IS OF BULK AT MOST 1048576: true; the input reads as it did. -/
def poolPlaysUptoRow : OpenClaim := { program := "ytlcdgmjinhbncaagreat", sum := "64a90f00f1f523d984ca1b65c521dda3d88ca099303fd76915a9aa331b62203c", func := "shoring/shoringlaw09.PoolPlays", spec := "poolPlays", inPlace := ["slices.overlaps[shoring/api.Run]"], unfollowed := true, recurses := true, apart := false, narrowed := true }
def PoolPlaysUptoSaid : Prop := poolPlaysUptoRow.holds Tryz.pinned (OpenSpec.upto poolPlaysSpec)

/-- 'shoringlaw11.CachePlays', WHERE WHAT IT READS IS OF BULK AT MOST 1048576: true; the input reads as it did. -/
def cachePlaysUptoRow : OpenClaim := { program := "ytlcdgmjinhbncaagreat", sum := "64a90f00f1f523d984ca1b65c521dda3d88ca099303fd76915a9aa331b62203c", func := "shoring/shoringlaw11.CachePlays", spec := "cachePlays", inPlace := ["slices.overlaps[shoring/api.Run]"], unfollowed := true, recurses := true, apart := false, narrowed := true }
def CachePlaysUptoSaid : Prop := cachePlaysUptoRow.holds Tryz.pinned (OpenSpec.upto cachePlaysSpec)

/-- 'shoringlaw11.CacheBounds', WHERE WHAT IT READS IS OF BULK AT MOST 1048576: true; the input reads as it did. -/
def cacheBoundsUptoRow : OpenClaim := { program := "ytlcdgmjinhbncaagreat", sum := "64a90f00f1f523d984ca1b65c521dda3d88ca099303fd76915a9aa331b62203c", func := "shoring/shoringlaw11.CacheBounds", spec := "cacheBounds", inPlace := ["slices.overlaps[shoring/api.Run]"], unfollowed := true, recurses := true, apart := false, narrowed := true }
def CacheBoundsUptoSaid : Prop := cacheBoundsUptoRow.holds Tryz.pinned (OpenSpec.upto cacheBoundsSpec)

/-- 'shoringlaw11.CacheEnds', WHERE WHAT IT READS IS OF BULK AT MOST 1048576: true; the input reads as it did. -/
def cacheEndsUptoRow : OpenClaim := { program := "ytlcdgmjinhbncaagreat", sum := "64a90f00f1f523d984ca1b65c521dda3d88ca099303fd76915a9aa331b62203c", func := "shoring/shoringlaw11.CacheEnds", spec := "cacheEnds", inPlace := ["slices.overlaps[shoring/api.Run]"], unfollowed := true, recurses := true, apart := false, narrowed := true }
def CacheEndsUptoSaid : Prop := cacheEndsUptoRow.holds Tryz.pinned (OpenSpec.upto cacheEndsSpec)

/-- 'shoringlaw12.StacksApart', WHERE WHAT IT READS IS OF BULK AT MOST 1048576: true; the input reads as it did. -/
def stacksApartUptoRow : OpenClaim := { program := "ytlcdgmjinhbncaagreat", sum := "64a90f00f1f523d984ca1b65c521dda3d88ca099303fd76915a9aa331b62203c", func := "shoring/shoringlaw12.StacksApart", spec := "stacksApart", inPlace := ["slices.overlaps[shoring/api.Run]"], unfollowed := true, recurses := true, apart := false, narrowed := true }
def StacksApartUptoSaid : Prop := stacksApartUptoRow.holds Tryz.pinned (OpenSpec.upto stacksApartSpec)

/-- 'shoringlaw12.StacksEnds', WHERE WHAT IT READS IS OF BULK AT MOST 1048576: true; the input reads as it did. -/
def stacksEndsUptoRow : OpenClaim := { program := "ytlcdgmjinhbncaagreat", sum := "64a90f00f1f523d984ca1b65c521dda3d88ca099303fd76915a9aa331b62203c", func := "shoring/shoringlaw12.StacksEnds", spec := "stacksEnds", inPlace := ["slices.overlaps[shoring/api.Run]"], unfollowed := true, recurses := true, apart := false, narrowed := true }
def StacksEndsUptoSaid : Prop := stacksEndsUptoRow.holds Tryz.pinned (OpenSpec.upto stacksEndsSpec)

/-- 'shoringlaw12.StacksNil', WHERE WHAT IT READS IS OF BULK AT MOST 1048576: true; the input reads as it did. -/
def stacksNilUptoRow : OpenClaim := { program := "ytlcdgmjinhbncaagreat", sum := "64a90f00f1f523d984ca1b65c521dda3d88ca099303fd76915a9aa331b62203c", func := "shoring/shoringlaw12.StacksNil", spec := "stacksNil", inPlace := ["slices.overlaps[shoring/api.Run]"], unfollowed := true, recurses := true, apart := false, narrowed := true }
def StacksNilUptoSaid : Prop := stacksNilUptoRow.holds Tryz.pinned (OpenSpec.upto stacksNilSpec)

/-- 'shoringlaw12.StacksAgain', WHERE WHAT IT READS IS OF BULK AT MOST 1048576: true; the input reads as it did. -/
def stacksAgainUptoRow : OpenClaim := { program := "ytlcdgmjinhbncaagreat", sum := "64a90f00f1f523d984ca1b65c521dda3d88ca099303fd76915a9aa331b62203c", func := "shoring/shoringlaw12.StacksAgain", spec := "stacksAgain", inPlace := ["slices.overlaps[shoring/api.Run]"], unfollowed := true, recurses := true, apart := false, narrowed := true }
def StacksAgainUptoSaid : Prop := stacksAgainUptoRow.holds Tryz.pinned (OpenSpec.upto stacksAgainSpec)

end Rows
end Go.Proofs.YtlcdgmjinhbncaaGreat

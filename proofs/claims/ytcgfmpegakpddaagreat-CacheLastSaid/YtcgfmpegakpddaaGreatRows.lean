/-
  No cell of these rows narrows 'for every input' (looked for: loops, veiled, ifaces, maps, wideKeys, modest, calm, conditions, laid).
  DERIVED. THE GIVEN ROWS OF THIS SEAT. 7 by the template 'for every input the law returns true; each argument reads behind the call as it read before'; 0 by the template 'total and deterministic' (their statements: YtcgfmpegakpddaaGreatTotals.lean).
  GIVEN WITH THE SEED: the statements are not yours to turn. If you find one false, say at which input.
  Laid BY PROGRAM, IN A SANDBOX (cutbox-rows.mjs): the forced cells as the released guide's own fill.sh prints them over the translation afded4db73f8fede… (all of the seat's roots in one cut). By AI agents, Wed Nov 11 2026. No macro, syntax, notation, axiom, sorry.
-/
import Derived.Test.YtcgfmpegakpddaaGreatChecked
import GoSem.Claim
import GoSem.ClaimJoined
import GoSem.ClaimMapViews
import Derived.JoinedTies
import Derived.KernelRfl
namespace Go.Proofs.YtcgfmpegakpddaaGreat
/- THE CELL 'sum', in the pinned program and in every row, IS THE sha256 OF THE DUMP (.gsa) THAT YtcgfmpegakpddaaGreatProg.lean LOADS. Nothing in Lean hashes anything: it is a label: what it is worth is what the hold of that sum in a sandbox is worth. -/
noncomputable def Tryz.pinned : Pinned := { name := "ytcgfmpegakpddaagreat", sum := "afded4db73f8fede0a2b72421bafa0a6fb2d93819b52badb09e240c712441f86", checked := Tryz.checked }
namespace Rows
def none {H : Type} : Left H := { results := [], args := [] }

/-- 'shoringlaw09.PoolPlays': WHATEVER THE INPUT: true; the input reads as it did. -/
def poolPlaysSpec : ChangeSpec := { name := "poolPlays", fn := fun _ => fun
  | [d1, d2] => { results := [.lit (.bool true)], args := [d1, d2] }
  | _ => none }
def poolPlaysRow : OpenClaim := { program := "ytcgfmpegakpddaagreat", sum := "afded4db73f8fede0a2b72421bafa0a6fb2d93819b52badb09e240c712441f86", func := "shoring/shoringlaw09.PoolPlays", spec := "poolPlays", inPlace := ["slices.overlaps[shoring/api.Run]"], unfollowed := true, recurses := true, apart := false }
def PoolPlaysSaid : Prop := poolPlaysRow.holds Tryz.pinned (OpenSpec.ofChange poolPlaysSpec)

/-- ITS FALSE NEIGHBOUR: 'it returns false'. Refute it at one input. -/
def poolPlaysWrong : ChangeSpec := { name := "poolPlays", fn := fun _ => fun
  | [d1, d2] => { results := [.lit (.bool false)], args := [d1, d2] }
  | _ => none }
def PoolPlaysWrongFalsely : Prop := poolPlaysRow.holds Tryz.pinned (OpenSpec.ofChange poolPlaysWrong)

/-- 'shoringlaw09.PoolParts': WHATEVER THE INPUT: true; the input reads as it did. -/
def poolPartsSpec : ChangeSpec := { name := "poolParts", fn := fun _ => fun
  | [d1, d2] => { results := [.lit (.bool true)], args := [d1, d2] }
  | _ => none }
def poolPartsRow : OpenClaim := { program := "ytcgfmpegakpddaagreat", sum := "afded4db73f8fede0a2b72421bafa0a6fb2d93819b52badb09e240c712441f86", func := "shoring/shoringlaw09.PoolParts", spec := "poolParts", inPlace := ["slices.overlaps[shoring/api.Run]"], unfollowed := true, recurses := true, apart := false }
def PoolPartsSaid : Prop := poolPartsRow.holds Tryz.pinned (OpenSpec.ofChange poolPartsSpec)

/-- ITS FALSE NEIGHBOUR: 'it returns false'. Refute it at one input. -/
def poolPartsWrong : ChangeSpec := { name := "poolParts", fn := fun _ => fun
  | [d1, d2] => { results := [.lit (.bool false)], args := [d1, d2] }
  | _ => none }
def PoolPartsWrongFalsely : Prop := poolPartsRow.holds Tryz.pinned (OpenSpec.ofChange poolPartsWrong)

/-- 'shoringlaw11.CachePlays': WHATEVER THE INPUT: true; the input reads as it did. -/
def cachePlaysSpec : ChangeSpec := { name := "cachePlays", fn := fun _ => fun
  | [d1, d2, d3, d4] => { results := [.lit (.bool true)], args := [d1, d2, d3, d4] }
  | _ => none }
def cachePlaysRow : OpenClaim := { program := "ytcgfmpegakpddaagreat", sum := "afded4db73f8fede0a2b72421bafa0a6fb2d93819b52badb09e240c712441f86", func := "shoring/shoringlaw11.CachePlays", spec := "cachePlays", inPlace := ["slices.overlaps[shoring/api.Run]"], unfollowed := true, recurses := true, apart := false }
def CachePlaysSaid : Prop := cachePlaysRow.holds Tryz.pinned (OpenSpec.ofChange cachePlaysSpec)

/-- ITS FALSE NEIGHBOUR: 'it returns false'. Refute it at one input. -/
def cachePlaysWrong : ChangeSpec := { name := "cachePlays", fn := fun _ => fun
  | [d1, d2, d3, d4] => { results := [.lit (.bool false)], args := [d1, d2, d3, d4] }
  | _ => none }
def CachePlaysWrongFalsely : Prop := cachePlaysRow.holds Tryz.pinned (OpenSpec.ofChange cachePlaysWrong)

/-- 'shoringlaw11.CacheBounds': WHATEVER THE INPUT: true; the input reads as it did. -/
def cacheBoundsSpec : ChangeSpec := { name := "cacheBounds", fn := fun _ => fun
  | [d1, d2, d3] => { results := [.lit (.bool true)], args := [d1, d2, d3] }
  | _ => none }
def cacheBoundsRow : OpenClaim := { program := "ytcgfmpegakpddaagreat", sum := "afded4db73f8fede0a2b72421bafa0a6fb2d93819b52badb09e240c712441f86", func := "shoring/shoringlaw11.CacheBounds", spec := "cacheBounds", inPlace := ["slices.overlaps[shoring/api.Run]"], unfollowed := true, recurses := true, apart := false }
def CacheBoundsSaid : Prop := cacheBoundsRow.holds Tryz.pinned (OpenSpec.ofChange cacheBoundsSpec)

/-- ITS FALSE NEIGHBOUR: 'it returns false'. Refute it at one input. -/
def cacheBoundsWrong : ChangeSpec := { name := "cacheBounds", fn := fun _ => fun
  | [d1, d2, d3] => { results := [.lit (.bool false)], args := [d1, d2, d3] }
  | _ => none }
def CacheBoundsWrongFalsely : Prop := cacheBoundsRow.holds Tryz.pinned (OpenSpec.ofChange cacheBoundsWrong)

/-- 'shoringlaw11.CacheEnds': WHATEVER THE INPUT: true; the input reads as it did. -/
def cacheEndsSpec : ChangeSpec := { name := "cacheEnds", fn := fun _ => fun
  | [d1, d2, d3] => { results := [.lit (.bool true)], args := [d1, d2, d3] }
  | _ => none }
def cacheEndsRow : OpenClaim := { program := "ytcgfmpegakpddaagreat", sum := "afded4db73f8fede0a2b72421bafa0a6fb2d93819b52badb09e240c712441f86", func := "shoring/shoringlaw11.CacheEnds", spec := "cacheEnds", inPlace := ["slices.overlaps[shoring/api.Run]"], unfollowed := true, recurses := true, apart := false }
def CacheEndsSaid : Prop := cacheEndsRow.holds Tryz.pinned (OpenSpec.ofChange cacheEndsSpec)

/-- ITS FALSE NEIGHBOUR: 'it returns false'. Refute it at one input. -/
def cacheEndsWrong : ChangeSpec := { name := "cacheEnds", fn := fun _ => fun
  | [d1, d2, d3] => { results := [.lit (.bool false)], args := [d1, d2, d3] }
  | _ => none }
def CacheEndsWrongFalsely : Prop := cacheEndsRow.holds Tryz.pinned (OpenSpec.ofChange cacheEndsWrong)

/-- 'shoringlaw11.CacheNil': WHATEVER THE INPUT: true; the input reads as it did. -/
def cacheNilSpec : ChangeSpec := { name := "cacheNil", fn := fun _ => fun
  | [d1, d2, d3] => { results := [.lit (.bool true)], args := [d1, d2, d3] }
  | _ => none }
def cacheNilRow : OpenClaim := { program := "ytcgfmpegakpddaagreat", sum := "afded4db73f8fede0a2b72421bafa0a6fb2d93819b52badb09e240c712441f86", func := "shoring/shoringlaw11.CacheNil", spec := "cacheNil", inPlace := ["slices.overlaps[shoring/api.Run]"], unfollowed := true, recurses := true, apart := false }
def CacheNilSaid : Prop := cacheNilRow.holds Tryz.pinned (OpenSpec.ofChange cacheNilSpec)

/-- ITS FALSE NEIGHBOUR: 'it returns false'. Refute it at one input. -/
def cacheNilWrong : ChangeSpec := { name := "cacheNil", fn := fun _ => fun
  | [d1, d2, d3] => { results := [.lit (.bool false)], args := [d1, d2, d3] }
  | _ => none }
def CacheNilWrongFalsely : Prop := cacheNilRow.holds Tryz.pinned (OpenSpec.ofChange cacheNilWrong)

/-- 'shoringlaw11.CacheLast': WHATEVER THE INPUT: true; the input reads as it did. -/
def cacheLastSpec : ChangeSpec := { name := "cacheLast", fn := fun _ => fun
  | [d1, d2, d3, d4] => { results := [.lit (.bool true)], args := [d1, d2, d3, d4] }
  | _ => none }
def cacheLastRow : OpenClaim := { program := "ytcgfmpegakpddaagreat", sum := "afded4db73f8fede0a2b72421bafa0a6fb2d93819b52badb09e240c712441f86", func := "shoring/shoringlaw11.CacheLast", spec := "cacheLast", inPlace := ["slices.overlaps[shoring/api.Run]"], unfollowed := true, recurses := true, apart := false }
def CacheLastSaid : Prop := cacheLastRow.holds Tryz.pinned (OpenSpec.ofChange cacheLastSpec)

/-- ITS FALSE NEIGHBOUR: 'it returns false'. Refute it at one input. -/
def cacheLastWrong : ChangeSpec := { name := "cacheLast", fn := fun _ => fun
  | [d1, d2, d3, d4] => { results := [.lit (.bool false)], args := [d1, d2, d3, d4] }
  | _ => none }
def CacheLastWrongFalsely : Prop := cacheLastRow.holds Tryz.pinned (OpenSpec.ofChange cacheLastWrong)

/- THE SECOND FORM. 'bulk': how many values and letters a reading holds, each counted each time it is reached (what is shared counts as often as it is met; a slice's spare places count too). A statement '..UptoSaid' is the law's where the arguments, and the package variables that the reading takes, are together of bulk at most 1048576: NARROWER than '..Said'. Prove '..Said' where nothing that the law and all that it calls make is longer than what came in: it says more and counts as full. Else prove '..UptoSaid'. A law counts once. -/
mutual
def uptoBulk {H : Type} : DataW H → Nat
  | .lit (.string bytes) => bytes.length + 1
  | .lit _ => 1
  | .nil => 1
  | .ptr d => uptoBulk d + 1
  | .slice elems spare => uptoBulkAll elems + uptoBulkAll spare + 1
  | .agg parts => uptoBulkAll parts + 1
  | .iface _ d => uptoBulk d + 1
  | .map entries => uptoBulkEntries entries + 1
  | .held _ => 1
def uptoBulkAll {H : Type} : List (DataW H) → Nat
  | [] => 0
  | d :: r => uptoBulk d + uptoBulkAll r
def uptoBulkEntries {H : Type} : List (Lit × DataW H) → Nat
  | [] => 0
  | x :: r => uptoBulkEntry x + uptoBulkEntries r
def uptoBulkEntry {H : Type} : Lit × DataW H → Nat
  | (.string bytes, d) => bytes.length + uptoBulk d + 1
  | (_, d) => uptoBulk d + 1
 end
def uptoSmall : (H : Type) → List (DataW H) → Bool := fun _ ds => decide (uptoBulkAll ds ≤ 1048576)
def OpenSpec.upto (s : _root_.Go.ChangeSpec) : _root_.Go.OpenSpec := { _root_.Go.OpenSpec.ofChange s with cond := some uptoSmall }

/-- 'shoringlaw09.PoolPlays', WHERE WHAT IT READS IS OF BULK AT MOST 1048576: true; the input reads as it did. -/
def poolPlaysUptoRow : OpenClaim := { program := "ytcgfmpegakpddaagreat", sum := "afded4db73f8fede0a2b72421bafa0a6fb2d93819b52badb09e240c712441f86", func := "shoring/shoringlaw09.PoolPlays", spec := "poolPlays", inPlace := ["slices.overlaps[shoring/api.Run]"], unfollowed := true, recurses := true, apart := false, narrowed := true }
def PoolPlaysUptoSaid : Prop := poolPlaysUptoRow.holds Tryz.pinned (OpenSpec.upto poolPlaysSpec)

/-- 'shoringlaw09.PoolParts', WHERE WHAT IT READS IS OF BULK AT MOST 1048576: true; the input reads as it did. -/
def poolPartsUptoRow : OpenClaim := { program := "ytcgfmpegakpddaagreat", sum := "afded4db73f8fede0a2b72421bafa0a6fb2d93819b52badb09e240c712441f86", func := "shoring/shoringlaw09.PoolParts", spec := "poolParts", inPlace := ["slices.overlaps[shoring/api.Run]"], unfollowed := true, recurses := true, apart := false, narrowed := true }
def PoolPartsUptoSaid : Prop := poolPartsUptoRow.holds Tryz.pinned (OpenSpec.upto poolPartsSpec)

/-- 'shoringlaw11.CachePlays', WHERE WHAT IT READS IS OF BULK AT MOST 1048576: true; the input reads as it did. -/
def cachePlaysUptoRow : OpenClaim := { program := "ytcgfmpegakpddaagreat", sum := "afded4db73f8fede0a2b72421bafa0a6fb2d93819b52badb09e240c712441f86", func := "shoring/shoringlaw11.CachePlays", spec := "cachePlays", inPlace := ["slices.overlaps[shoring/api.Run]"], unfollowed := true, recurses := true, apart := false, narrowed := true }
def CachePlaysUptoSaid : Prop := cachePlaysUptoRow.holds Tryz.pinned (OpenSpec.upto cachePlaysSpec)

/-- 'shoringlaw11.CacheBounds', WHERE WHAT IT READS IS OF BULK AT MOST 1048576: true; the input reads as it did. -/
def cacheBoundsUptoRow : OpenClaim := { program := "ytcgfmpegakpddaagreat", sum := "afded4db73f8fede0a2b72421bafa0a6fb2d93819b52badb09e240c712441f86", func := "shoring/shoringlaw11.CacheBounds", spec := "cacheBounds", inPlace := ["slices.overlaps[shoring/api.Run]"], unfollowed := true, recurses := true, apart := false, narrowed := true }
def CacheBoundsUptoSaid : Prop := cacheBoundsUptoRow.holds Tryz.pinned (OpenSpec.upto cacheBoundsSpec)

/-- 'shoringlaw11.CacheEnds', WHERE WHAT IT READS IS OF BULK AT MOST 1048576: true; the input reads as it did. -/
def cacheEndsUptoRow : OpenClaim := { program := "ytcgfmpegakpddaagreat", sum := "afded4db73f8fede0a2b72421bafa0a6fb2d93819b52badb09e240c712441f86", func := "shoring/shoringlaw11.CacheEnds", spec := "cacheEnds", inPlace := ["slices.overlaps[shoring/api.Run]"], unfollowed := true, recurses := true, apart := false, narrowed := true }
def CacheEndsUptoSaid : Prop := cacheEndsUptoRow.holds Tryz.pinned (OpenSpec.upto cacheEndsSpec)

/-- 'shoringlaw11.CacheNil', WHERE WHAT IT READS IS OF BULK AT MOST 1048576: true; the input reads as it did. -/
def cacheNilUptoRow : OpenClaim := { program := "ytcgfmpegakpddaagreat", sum := "afded4db73f8fede0a2b72421bafa0a6fb2d93819b52badb09e240c712441f86", func := "shoring/shoringlaw11.CacheNil", spec := "cacheNil", inPlace := ["slices.overlaps[shoring/api.Run]"], unfollowed := true, recurses := true, apart := false, narrowed := true }
def CacheNilUptoSaid : Prop := cacheNilUptoRow.holds Tryz.pinned (OpenSpec.upto cacheNilSpec)

/-- 'shoringlaw11.CacheLast', WHERE WHAT IT READS IS OF BULK AT MOST 1048576: true; the input reads as it did. -/
def cacheLastUptoRow : OpenClaim := { program := "ytcgfmpegakpddaagreat", sum := "afded4db73f8fede0a2b72421bafa0a6fb2d93819b52badb09e240c712441f86", func := "shoring/shoringlaw11.CacheLast", spec := "cacheLast", inPlace := ["slices.overlaps[shoring/api.Run]"], unfollowed := true, recurses := true, apart := false, narrowed := true }
def CacheLastUptoSaid : Prop := cacheLastUptoRow.holds Tryz.pinned (OpenSpec.upto cacheLastSpec)

end Rows
end Go.Proofs.YtcgfmpegakpddaaGreat

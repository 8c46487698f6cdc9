/-
  DERIVED. GIVEN WITH THE SEED: THE CARDS: each row of YtbjcdfhckhpoiaaDoorRows.lean that lists a variable, with what it lists TIED to the program's text (the seventh form; the later family's looks); each row that meets fmt, with fmt's text TOLD by the authors' own Lean function (tested against real Go, not proved from fmt's source: count such statements apart). THE CARD IS WHAT COUNTS. Prove the row's statement (the work); the ties are given (YtbjcdfhckhpoiaaDoorTie.lean); close each card by the builder's one call (the guide's Derived/Test/ToyasCard.lean, 'card_holds'). Laid BY PROGRAM, IN A SANDBOX (cutbox-door.mjs). By AI agents, Wed Nov 11 2026. No macro, syntax, notation, axiom, sorry.
-/
import Derived.Test.YtbjcdfhckhpoiaaDoorRows
import GoSem.ClaimSeven
namespace Go.Proofs.YtbjcdfhckhpoiaaDoor
namespace Rows

/-- THE TIED CARD OF 'shoringlaw03.BitmapTells'. -/
def bitmapTellsCard : Claim7 := { stood := { row := bitmapTellsRow, standIns := [], harness := (true, "2d98b2d977d167648f2ae0526c3801af9c38ea7f350191d24f70c7e983662641"), looks := false }, kinds := [], alts := [], laidByText := true, laidKinds := [.data], laidTests := true, laidLooks := .later }
def BitmapTellsCardSaid : Prop := Claim7.holds Tryd.pinned (.plain (OpenSpec.ofChange bitmapTellsSpec)) bitmapTellsCard

/-- THE TIED CARD OF 'shoringlaw03.BitmapReads'. -/
def bitmapReadsCard : Claim7 := { stood := { row := bitmapReadsRow, standIns := [], harness := (true, "2d98b2d977d167648f2ae0526c3801af9c38ea7f350191d24f70c7e983662641"), looks := false }, kinds := [], alts := [], laidByText := true, laidKinds := [.data, .pinned], laidTests := true, laidLooks := .later }
def BitmapReadsCardSaid : Prop := Claim7.holds Tryd.pinned (.plain (OpenSpec.ofChange bitmapReadsSpec)) bitmapReadsCard

/-- THE SECOND FORM's CARD OF 'shoringlaw03.BitmapTells'. -/
def bitmapTellsUptoCard : Claim7 := { stood := { row := bitmapTellsUptoRow, standIns := [], harness := (true, "2d98b2d977d167648f2ae0526c3801af9c38ea7f350191d24f70c7e983662641"), looks := false }, kinds := [], alts := [], laidByText := true, laidKinds := [.data], laidTests := true, laidLooks := .later }
def BitmapTellsUptoCardSaid : Prop := Claim7.holds Tryd.pinned (.plain (OpenSpec.upto bitmapTellsSpec)) bitmapTellsUptoCard

/-- THE SECOND FORM's CARD OF 'shoringlaw03.BitmapReads'. -/
def bitmapReadsUptoCard : Claim7 := { stood := { row := bitmapReadsUptoRow, standIns := [], harness := (true, "2d98b2d977d167648f2ae0526c3801af9c38ea7f350191d24f70c7e983662641"), looks := false }, kinds := [], alts := [], laidByText := true, laidKinds := [.data, .pinned], laidTests := true, laidLooks := .later }
def BitmapReadsUptoCardSaid : Prop := Claim7.holds Tryd.pinned (.plain (OpenSpec.upto bitmapReadsSpec)) bitmapReadsUptoCard
end Rows
end Go.Proofs.YtbjcdfhckhpoiaaDoor

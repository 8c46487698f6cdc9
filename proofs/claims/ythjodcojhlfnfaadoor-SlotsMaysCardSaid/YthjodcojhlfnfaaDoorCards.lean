/-
  DERIVED. GIVEN WITH THE SEED: THE CARDS: each row of YthjodcojhlfnfaaDoorRows.lean that lists a variable, with what it lists TIED to the program's text (the seventh form; the later family's looks); each row that meets fmt, with fmt's text TOLD by the authors' own Lean function (tested against real Go, not proved from fmt's source: count such statements apart). THE CARD IS WHAT COUNTS. Prove the row's statement (the work); the ties are given (YthjodcojhlfnfaaDoorTie.lean); close each card by the builder's one call (the guide's Derived/Test/ToyasCard.lean, 'card_holds'). Laid BY PROGRAM, IN A SANDBOX (cutbox-door.mjs). By AI agents, Wed Nov 11 2026. No macro, syntax, notation, axiom, sorry.
-/
import Derived.Test.YthjodcojhlfnfaaDoorRows
import GoSem.ClaimSeven
namespace Go.Proofs.YthjodcojhlfnfaaDoor
namespace Rows

/-- THE TIED CARD OF 'shoringlaw16.SlotsFind'. -/
def slotsFindCard : Claim7 := { stood := { row := slotsFindRow, standIns := [], harness := (true, "f1ee21ac252113aaf66fa8dd02d4b6198b2ec37b6a31bbc3a2ba11579a40851d"), looks := true }, kinds := [], alts := [], laidByText := true, laidKinds := [.data], laidTests := true, laidLooks := .later }
def SlotsFindCardSaid : Prop := Claim7.holds Tryd.pinned (.plain (OpenSpec.ofChange slotsFindSpec)) slotsFindCard

/-- THE TIED CARD OF 'shoringlaw16.SlotsMays'. -/
def slotsMaysCard : Claim7 := { stood := { row := slotsMaysRow, standIns := [], harness := (true, "f1ee21ac252113aaf66fa8dd02d4b6198b2ec37b6a31bbc3a2ba11579a40851d"), looks := true }, kinds := [], alts := [], laidByText := true, laidKinds := [.data], laidTests := true, laidLooks := .later }
def SlotsMaysCardSaid : Prop := Claim7.holds Tryd.pinned (.plain (OpenSpec.ofChange slotsMaysSpec)) slotsMaysCard

/-- THE TIED CARD OF 'shoringlaw16.SlotsOne'. -/
def slotsOneCard : Claim7 := { stood := { row := slotsOneRow, standIns := [], harness := (true, "f1ee21ac252113aaf66fa8dd02d4b6198b2ec37b6a31bbc3a2ba11579a40851d"), looks := true }, kinds := [], alts := [], laidByText := true, laidKinds := [.data], laidTests := true, laidLooks := .later }
def SlotsOneCardSaid : Prop := Claim7.holds Tryd.pinned (.plain (OpenSpec.ofChange slotsOneSpec)) slotsOneCard

/-- THE SECOND FORM's CARD OF 'shoringlaw16.SlotsFind'. -/
def slotsFindUptoCard : Claim7 := { stood := { row := slotsFindUptoRow, standIns := [], harness := (true, "f1ee21ac252113aaf66fa8dd02d4b6198b2ec37b6a31bbc3a2ba11579a40851d"), looks := true }, kinds := [], alts := [], laidByText := true, laidKinds := [.data], laidTests := true, laidLooks := .later }
def SlotsFindUptoCardSaid : Prop := Claim7.holds Tryd.pinned (.plain (OpenSpec.upto slotsFindSpec)) slotsFindUptoCard

/-- THE SECOND FORM's CARD OF 'shoringlaw16.SlotsMays'. -/
def slotsMaysUptoCard : Claim7 := { stood := { row := slotsMaysUptoRow, standIns := [], harness := (true, "f1ee21ac252113aaf66fa8dd02d4b6198b2ec37b6a31bbc3a2ba11579a40851d"), looks := true }, kinds := [], alts := [], laidByText := true, laidKinds := [.data], laidTests := true, laidLooks := .later }
def SlotsMaysUptoCardSaid : Prop := Claim7.holds Tryd.pinned (.plain (OpenSpec.upto slotsMaysSpec)) slotsMaysUptoCard

/-- THE SECOND FORM's CARD OF 'shoringlaw16.SlotsOne'. -/
def slotsOneUptoCard : Claim7 := { stood := { row := slotsOneUptoRow, standIns := [], harness := (true, "f1ee21ac252113aaf66fa8dd02d4b6198b2ec37b6a31bbc3a2ba11579a40851d"), looks := true }, kinds := [], alts := [], laidByText := true, laidKinds := [.data], laidTests := true, laidLooks := .later }
def SlotsOneUptoCardSaid : Prop := Claim7.holds Tryd.pinned (.plain (OpenSpec.upto slotsOneSpec)) slotsOneUptoCard
end Rows
end Go.Proofs.YthjodcojhlfnfaaDoor

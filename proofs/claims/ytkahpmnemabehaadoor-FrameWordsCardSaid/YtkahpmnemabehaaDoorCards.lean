/-
  DERIVED. GIVEN WITH THE SEED: THE CARDS: each row of YtkahpmnemabehaaDoorRows.lean that lists a variable, with what it lists TIED to the program's text (the seventh form; the later family's looks); each row that meets fmt, with fmt's text TOLD by the authors' own Lean function (tested against real Go, not proved from fmt's source: count such statements apart). THE CARD IS WHAT COUNTS. Prove the row's statement (the work); the ties are given (YtkahpmnemabehaaDoorTie.lean); close each card by the builder's one call (the guide's Derived/Test/ToyasCard.lean, 'card_holds'). Laid BY PROGRAM, IN A SANDBOX (cutbox-door.mjs). By AI agents, Wed Nov 11 2026. No macro, syntax, notation, axiom, sorry.
-/
import Derived.Test.YtkahpmnemabehaaDoorRows
import GoSem.ClaimSeven
namespace Go.Proofs.YtkahpmnemabehaaDoor
namespace Rows

/-- THE TIED CARD OF 'shoringlaw14.FrameReads'. -/
def frameReadsCard : Claim7 := { stood := { row := frameReadsRow, standIns := [], harness := (true, "6f64788a7678f2d122ae119530ae4af3614045035d12927479320ec358683e31"), looks := true }, kinds := [], alts := [], laidByText := true, laidKinds := [.data], laidTests := true, laidLooks := .later }
def FrameReadsCardSaid : Prop := Claim7.holds Tryd.pinned (.plain (OpenSpec.ofChange frameReadsSpec)) frameReadsCard

/-- THE TIED CARD OF 'shoringlaw14.FrameSlots'. -/
def frameSlotsCard : Claim7 := { stood := { row := frameSlotsRow, standIns := [], harness := (true, "6f64788a7678f2d122ae119530ae4af3614045035d12927479320ec358683e31"), looks := true }, kinds := [], alts := [], laidByText := true, laidKinds := [.data], laidTests := true, laidLooks := .later }
def FrameSlotsCardSaid : Prop := Claim7.holds Tryd.pinned (.plain (OpenSpec.ofChange frameSlotsSpec)) frameSlotsCard

/-- THE TIED CARD OF 'shoringlaw14.FrameWords'. -/
def frameWordsCard : Claim7 := { stood := { row := frameWordsRow, standIns := [], harness := (true, "6f64788a7678f2d122ae119530ae4af3614045035d12927479320ec358683e31"), looks := true }, kinds := [], alts := [], laidByText := true, laidKinds := [.data], laidTests := true, laidLooks := .later }
def FrameWordsCardSaid : Prop := Claim7.holds Tryd.pinned (.plain (OpenSpec.ofChange frameWordsSpec)) frameWordsCard

/-- THE SECOND FORM's CARD OF 'shoringlaw14.FrameReads'. -/
def frameReadsUptoCard : Claim7 := { stood := { row := frameReadsUptoRow, standIns := [], harness := (true, "6f64788a7678f2d122ae119530ae4af3614045035d12927479320ec358683e31"), looks := true }, kinds := [], alts := [], laidByText := true, laidKinds := [.data], laidTests := true, laidLooks := .later }
def FrameReadsUptoCardSaid : Prop := Claim7.holds Tryd.pinned (.plain (OpenSpec.upto frameReadsSpec)) frameReadsUptoCard

/-- THE SECOND FORM's CARD OF 'shoringlaw14.FrameSlots'. -/
def frameSlotsUptoCard : Claim7 := { stood := { row := frameSlotsUptoRow, standIns := [], harness := (true, "6f64788a7678f2d122ae119530ae4af3614045035d12927479320ec358683e31"), looks := true }, kinds := [], alts := [], laidByText := true, laidKinds := [.data], laidTests := true, laidLooks := .later }
def FrameSlotsUptoCardSaid : Prop := Claim7.holds Tryd.pinned (.plain (OpenSpec.upto frameSlotsSpec)) frameSlotsUptoCard

/-- THE SECOND FORM's CARD OF 'shoringlaw14.FrameWords'. -/
def frameWordsUptoCard : Claim7 := { stood := { row := frameWordsUptoRow, standIns := [], harness := (true, "6f64788a7678f2d122ae119530ae4af3614045035d12927479320ec358683e31"), looks := true }, kinds := [], alts := [], laidByText := true, laidKinds := [.data], laidTests := true, laidLooks := .later }
def FrameWordsUptoCardSaid : Prop := Claim7.holds Tryd.pinned (.plain (OpenSpec.upto frameWordsSpec)) frameWordsUptoCard
end Rows
end Go.Proofs.YtkahpmnemabehaaDoor

/-
  DERIVED. GIVEN WITH THE SEED: THE CARDS: each row of YtlniakcoikhilaaGreatDoorRows.lean that lists a variable, with what it lists TIED to the program's text (the seventh form; the later family's looks); each row that meets fmt, with fmt's text TOLD by the authors' own Lean function (tested against real Go, not proved from fmt's source: count such statements apart). THE CARD IS WHAT COUNTS. Prove the row's statement (the work); the ties are given (YtlniakcoikhilaaGreatDoorTie.lean); close each card by the builder's one call (the guide's Derived/Test/ToyasCard.lean, 'card_holds'). Laid BY PROGRAM, IN A SANDBOX (cutbox-door.mjs). By AI agents, Wed Nov 11 2026. No macro, syntax, notation, axiom, sorry.
-/
import Derived.Test.YtlniakcoikhilaaGreatDoorRows
import GoSem.ClaimSeven
namespace Go.Proofs.YtlniakcoikhilaaGreatDoor
namespace Rows

/-- THE TIED CARD OF 'shoringlaw17.MoveIs'. -/
def moveIsCard : Claim7 := { stood := { row := moveIsRow, standIns := [], harness := (true, "4e8ff220dfdc385bee90b96d70b2cf4308ed2b07933c7e276efcfb90d89e19d4"), looks := true }, kinds := [], alts := [], laidByText := true, laidKinds := [.data], laidTests := true, laidLooks := .later }
def MoveIsCardSaid : Prop := Claim7.holds Tryz.pinned (.plain (OpenSpec.ofChange moveIsSpec)) moveIsCard

/-- THE SECOND FORM's CARD OF 'shoringlaw17.MoveIs'. -/
def moveIsUptoCard : Claim7 := { stood := { row := moveIsUptoRow, standIns := [], harness := (true, "4e8ff220dfdc385bee90b96d70b2cf4308ed2b07933c7e276efcfb90d89e19d4"), looks := true }, kinds := [], alts := [], laidByText := true, laidKinds := [.data], laidTests := true, laidLooks := .later }
def MoveIsUptoCardSaid : Prop := Claim7.holds Tryz.pinned (.plain (OpenSpec.upto moveIsSpec)) moveIsUptoCard
end Rows
end Go.Proofs.YtlniakcoikhilaaGreatDoor

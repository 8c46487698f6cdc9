/-
  DERIVED. GIVEN WITH THE SEED: THE CARDS: each row of YtclgknlolgcpoaaDoorRows.lean that lists a variable, with what it lists TIED to the program's text (the seventh form; the later family's looks); each row that meets fmt, with fmt's text TOLD by the authors' own Lean function (tested against real Go, not proved from fmt's source: count such statements apart). THE CARD IS WHAT COUNTS. Prove the row's statement (the work); the ties are given (YtclgknlolgcpoaaDoorTie.lean); close each card by the builder's one call (the guide's Derived/Test/ToyasCard.lean, 'card_holds'). Laid BY PROGRAM, IN A SANDBOX (cutbox-door.mjs). By AI agents, Wed Nov 11 2026. No macro, syntax, notation, axiom, sorry.
-/
import Derived.Test.YtclgknlolgcpoaaDoorRows
import GoSem.ClaimSeven
namespace Go.Proofs.YtclgknlolgcpoaaDoor
namespace Rows

/-- THE TIED CARD OF 'shoringlaw15.WalkIs'. -/
def walkIsCard : Claim7 := { stood := { row := walkIsRow, standIns := [], harness := (true, "9a58983577039889c5b9ce93fe5ca7fa1a027011ac0c5090c30adb1a9801c9cb"), looks := true }, kinds := [], alts := [], laidByText := true, laidKinds := [.data], laidTests := true, laidLooks := .later }
def WalkIsCardSaid : Prop := Claim7.holds Tryd.pinned (.plain (OpenSpec.ofChange walkIsSpec)) walkIsCard

/-- THE TIED CARD OF 'shoringlaw15.WalkMeets'. -/
def walkMeetsCard : Claim7 := { stood := { row := walkMeetsRow, standIns := [], harness := (true, "9a58983577039889c5b9ce93fe5ca7fa1a027011ac0c5090c30adb1a9801c9cb"), looks := true }, kinds := [], alts := [], laidByText := true, laidKinds := [.data], laidTests := true, laidLooks := .later }
def WalkMeetsCardSaid : Prop := Claim7.holds Tryd.pinned (.plain (OpenSpec.ofChange walkMeetsSpec)) walkMeetsCard

/-- THE TIED CARD OF 'shoringlaw15.WalkTop'. -/
def walkTopCard : Claim7 := { stood := { row := walkTopRow, standIns := [], harness := (true, "9a58983577039889c5b9ce93fe5ca7fa1a027011ac0c5090c30adb1a9801c9cb"), looks := true }, kinds := [], alts := [], laidByText := true, laidKinds := [.data], laidTests := true, laidLooks := .later }
def WalkTopCardSaid : Prop := Claim7.holds Tryd.pinned (.plain (OpenSpec.ofChange walkTopSpec)) walkTopCard

/-- THE SECOND FORM's CARD OF 'shoringlaw15.WalkIs'. -/
def walkIsUptoCard : Claim7 := { stood := { row := walkIsUptoRow, standIns := [], harness := (true, "9a58983577039889c5b9ce93fe5ca7fa1a027011ac0c5090c30adb1a9801c9cb"), looks := true }, kinds := [], alts := [], laidByText := true, laidKinds := [.data], laidTests := true, laidLooks := .later }
def WalkIsUptoCardSaid : Prop := Claim7.holds Tryd.pinned (.plain (OpenSpec.upto walkIsSpec)) walkIsUptoCard

/-- THE SECOND FORM's CARD OF 'shoringlaw15.WalkMeets'. -/
def walkMeetsUptoCard : Claim7 := { stood := { row := walkMeetsUptoRow, standIns := [], harness := (true, "9a58983577039889c5b9ce93fe5ca7fa1a027011ac0c5090c30adb1a9801c9cb"), looks := true }, kinds := [], alts := [], laidByText := true, laidKinds := [.data], laidTests := true, laidLooks := .later }
def WalkMeetsUptoCardSaid : Prop := Claim7.holds Tryd.pinned (.plain (OpenSpec.upto walkMeetsSpec)) walkMeetsUptoCard

/-- THE SECOND FORM's CARD OF 'shoringlaw15.WalkTop'. -/
def walkTopUptoCard : Claim7 := { stood := { row := walkTopUptoRow, standIns := [], harness := (true, "9a58983577039889c5b9ce93fe5ca7fa1a027011ac0c5090c30adb1a9801c9cb"), looks := true }, kinds := [], alts := [], laidByText := true, laidKinds := [.data], laidTests := true, laidLooks := .later }
def WalkTopUptoCardSaid : Prop := Claim7.holds Tryd.pinned (.plain (OpenSpec.upto walkTopSpec)) walkTopUptoCard
end Rows
end Go.Proofs.YtclgknlolgcpoaaDoor

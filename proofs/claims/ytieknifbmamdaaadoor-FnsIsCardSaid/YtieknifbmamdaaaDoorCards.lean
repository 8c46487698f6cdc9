/-
  DERIVED. GIVEN WITH THE SEED: THE CARDS: each row of YtieknifbmamdaaaDoorRows.lean that lists a variable, with what it lists TIED to the program's text (the seventh form; the later family's looks); each row that meets fmt, with fmt's text TOLD by the authors' own Lean function (tested against real Go, not proved from fmt's source: count such statements apart). THE CARD IS WHAT COUNTS. Prove the row's statement (the work); the ties are given (YtieknifbmamdaaaDoorTie.lean); close each card by the builder's one call (the guide's Derived/Test/ToyasCard.lean, 'card_holds'). Laid BY PROGRAM, IN A SANDBOX (cutbox-door.mjs). By AI agents, Wed Nov 11 2026. No macro, syntax, notation, axiom, sorry.
-/
import Derived.Test.YtieknifbmamdaaaDoorRows
import GoSem.ClaimSeven
namespace Go.Proofs.YtieknifbmamdaaaDoor
namespace Rows

/-- THE TIED CARD OF 'shoringlaw13.FnsIs'. -/
def fnsIsCard : Claim7 := { stood := { row := fnsIsRow, standIns := [], harness := (true, "7696b27b29aeddb531bf74bf51ec8ecdb71ccf3d6a2ffa08ecc29509971b323b"), looks := false }, kinds := [], alts := [], laidByText := true, laidKinds := [.data], laidTests := true, laidLooks := .later }
def FnsIsCardSaid : Prop := Claim7.holds Tryd.pinned (.plain (OpenSpec.ofChange fnsIsSpec)) fnsIsCard

/-- THE TIED CARD OF 'shoringlaw13.FnsTells'. -/
def fnsTellsCard : Claim7 := { stood := { row := fnsTellsRow, standIns := [], harness := (true, "7696b27b29aeddb531bf74bf51ec8ecdb71ccf3d6a2ffa08ecc29509971b323b"), looks := false }, kinds := [], alts := [], laidByText := true, laidKinds := [.data], laidTests := true, laidLooks := .later }
def FnsTellsCardSaid : Prop := Claim7.holds Tryd.pinned (.plain (OpenSpec.ofChange fnsTellsSpec)) fnsTellsCard

/-- THE TIED CARD OF 'shoringlaw13.FnsOwn'. -/
def fnsOwnCard : Claim7 := { stood := { row := fnsOwnRow, standIns := [], harness := (true, "7696b27b29aeddb531bf74bf51ec8ecdb71ccf3d6a2ffa08ecc29509971b323b"), looks := false }, kinds := [], alts := [], laidByText := true, laidKinds := [.data], laidTests := true, laidLooks := .later }
def FnsOwnCardSaid : Prop := Claim7.holds Tryd.pinned (.plain (OpenSpec.ofChange fnsOwnSpec)) fnsOwnCard

/-- THE TIED CARD OF 'shoringlaw13.FnsJoins'. -/
def fnsJoinsCard : Claim7 := { stood := { row := fnsJoinsRow, standIns := [], harness := (true, "7696b27b29aeddb531bf74bf51ec8ecdb71ccf3d6a2ffa08ecc29509971b323b"), looks := false }, kinds := [], alts := [], laidByText := true, laidKinds := [.data], laidTests := true, laidLooks := .later }
def FnsJoinsCardSaid : Prop := Claim7.holds Tryd.pinned (.plain (OpenSpec.ofChange fnsJoinsSpec)) fnsJoinsCard

/-- THE SECOND FORM's CARD OF 'shoringlaw13.FnsIs'. -/
def fnsIsUptoCard : Claim7 := { stood := { row := fnsIsUptoRow, standIns := [], harness := (true, "7696b27b29aeddb531bf74bf51ec8ecdb71ccf3d6a2ffa08ecc29509971b323b"), looks := false }, kinds := [], alts := [], laidByText := true, laidKinds := [.data], laidTests := true, laidLooks := .later }
def FnsIsUptoCardSaid : Prop := Claim7.holds Tryd.pinned (.plain (OpenSpec.upto fnsIsSpec)) fnsIsUptoCard

/-- THE SECOND FORM's CARD OF 'shoringlaw13.FnsTells'. -/
def fnsTellsUptoCard : Claim7 := { stood := { row := fnsTellsUptoRow, standIns := [], harness := (true, "7696b27b29aeddb531bf74bf51ec8ecdb71ccf3d6a2ffa08ecc29509971b323b"), looks := false }, kinds := [], alts := [], laidByText := true, laidKinds := [.data], laidTests := true, laidLooks := .later }
def FnsTellsUptoCardSaid : Prop := Claim7.holds Tryd.pinned (.plain (OpenSpec.upto fnsTellsSpec)) fnsTellsUptoCard

/-- THE SECOND FORM's CARD OF 'shoringlaw13.FnsOwn'. -/
def fnsOwnUptoCard : Claim7 := { stood := { row := fnsOwnUptoRow, standIns := [], harness := (true, "7696b27b29aeddb531bf74bf51ec8ecdb71ccf3d6a2ffa08ecc29509971b323b"), looks := false }, kinds := [], alts := [], laidByText := true, laidKinds := [.data], laidTests := true, laidLooks := .later }
def FnsOwnUptoCardSaid : Prop := Claim7.holds Tryd.pinned (.plain (OpenSpec.upto fnsOwnSpec)) fnsOwnUptoCard

/-- THE SECOND FORM's CARD OF 'shoringlaw13.FnsJoins'. -/
def fnsJoinsUptoCard : Claim7 := { stood := { row := fnsJoinsUptoRow, standIns := [], harness := (true, "7696b27b29aeddb531bf74bf51ec8ecdb71ccf3d6a2ffa08ecc29509971b323b"), looks := false }, kinds := [], alts := [], laidByText := true, laidKinds := [.data], laidTests := true, laidLooks := .later }
def FnsJoinsUptoCardSaid : Prop := Claim7.holds Tryd.pinned (.plain (OpenSpec.upto fnsJoinsSpec)) fnsJoinsUptoCard
end Rows
end Go.Proofs.YtieknifbmamdaaaDoor

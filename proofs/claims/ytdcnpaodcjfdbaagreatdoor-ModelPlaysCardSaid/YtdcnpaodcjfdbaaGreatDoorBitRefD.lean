/- What each function of the document's own answers to layer 3 (bitmap) returns. -/
import Derived.Test.YtdcnpaodcjfdbaaGreatDoorRowWords
import Derived.Test.YtdcnpaodcjfdbaaGreatDoorBitMath
import Derived.Test.YtdcnpaodcjfdbaaGreatDoorBitRef
import Derived.WalkKit
import Derived.ProofKit
import Derived.WalkLawsBesides
import Derived.WalkSpells
import Derived.Deep.QuietTactic
import Derived.BigQuiet
namespace Go.Proofs.YtdcnpaodcjfdbaaGreatDoor
open Go.RowKit
set_option linter.unusedVariables false

end Go.Proofs.YtdcnpaodcjfdbaaGreatDoor

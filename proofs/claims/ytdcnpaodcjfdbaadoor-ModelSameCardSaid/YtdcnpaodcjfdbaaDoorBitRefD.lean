/- What each function of the document's own answers to layer 3 (bitmap) returns. -/
import Derived.Test.YtdcnpaodcjfdbaaDoorRowWords
import Derived.Test.YtdcnpaodcjfdbaaDoorBitMath
import Derived.Test.YtdcnpaodcjfdbaaDoorBitRef
import Derived.WalkKit
import Derived.ProofKit
import Derived.WalkLawsBesides
import Derived.WalkSpells
import Derived.Deep.QuietTactic
import Derived.BigQuiet
namespace Go.Proofs.YtdcnpaodcjfdbaaDoor
open Go.RowKit
set_option linter.unusedVariables false

end Go.Proofs.YtdcnpaodcjfdbaaDoor

/- What the other functions of the document's own answers to layer 2 (float) return; memory is as it was, but for draws. -/
import Derived.Test.YtdcnpaodcjfdbaaDoorFloatPlain
namespace Go.Proofs.YtdcnpaodcjfdbaaDoor
open Go.RowKit
set_option linter.unusedVariables false

end Go.Proofs.YtdcnpaodcjfdbaaDoor

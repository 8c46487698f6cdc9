/- What the document's own 'edge' (layer 2) returns: where it answers, just what the operation comes to. Written by wip/tools/gen_fedge.py. -/
import Derived.Test.YtdcnpaodcjfdbaaDoorFloatRef
namespace Go.Proofs.YtdcnpaodcjfdbaaDoor
open Go.RowKit
set_option linter.unusedVariables false

end Go.Proofs.YtdcnpaodcjfdbaaDoor

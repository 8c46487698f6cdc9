/- What the document's own 'Calc', 'Order', 'Text', 'Read' and 'Sum' (layer 2) return; memory is as it was, but for draws. -/
import Derived.Test.YtdcnpaodcjfdbaaDoorFloatEdge
import Derived.Test.YtdcnpaodcjfdbaaDoorFloatLib
namespace Go.Proofs.YtdcnpaodcjfdbaaDoor
open Go.RowKit
set_option linter.unusedVariables false

end Go.Proofs.YtdcnpaodcjfdbaaDoor

/- What each function of the document's own answers to layer 2 (float) returns: for every argument of its type; memory is as it was, but for draws. -/
import Derived.Test.YtdcnpaodcjfdbaaDoorFloatMath
import Derived.Test.YtdcnpaodcjfdbaaDoorProg
import Derived.WalkKit
import Derived.ProofKit
import Derived.WalkLawsBesides
namespace Go.Proofs.YtdcnpaodcjfdbaaDoor
open Go.RowKit
set_option linter.unusedVariables false

/-- A fact that the walk doesn't take for a rule. -/
theorem hidf {p : Prop} (h : p) : Hid p := h

end Go.Proofs.YtdcnpaodcjfdbaaDoor

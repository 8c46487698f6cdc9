/- The library's own contracts that this seat's texts want: none. -/
import Derived.ProofKit
namespace Go.Proofs.YthjodcojhlfnfaaDoor
end Go.Proofs.YthjodcojhlfnfaaDoor

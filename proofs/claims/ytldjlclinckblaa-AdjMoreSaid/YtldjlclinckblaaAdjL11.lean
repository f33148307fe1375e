/- The landed layer 4 beside the walk of AdjMore. -/
import Derived.Test.YtldjlclinckblaaAdjL10
import Derived.Test.YtldjlclinckblaaAdjJ
import Derived.Test.YtldjlclinckblaaAdjK
namespace Go.Proofs.Ytldjlclinckblaa.Adj
end Go.Proofs.Ytldjlclinckblaa.Adj

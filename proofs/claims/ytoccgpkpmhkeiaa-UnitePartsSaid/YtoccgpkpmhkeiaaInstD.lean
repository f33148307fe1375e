/- Contracts of the document's answers for layer 3: the same instances. -/
import Derived.Test.YtoccgpkpmhkeiaaInstC
namespace Go.Proofs.Ytoccgpkpmhkeiaa.Inst
open Go.RowKit

end Go.Proofs.Ytoccgpkpmhkeiaa.Inst

/- Contracts: shares added, the walk. -/
import Derived.Test.YtginbgclifdfiaaC
namespace Go.Proofs.Ytginbgclifdfiaa
open Go.RowKit

end Go.Proofs.Ytginbgclifdfiaa

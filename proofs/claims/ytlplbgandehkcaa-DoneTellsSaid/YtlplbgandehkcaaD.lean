/- Contracts: shares added, the walk. -/
import Derived.Test.YtlplbgandehkcaaC
namespace Go.Proofs.Ytlplbgandehkcaa
open Go.RowKit

end Go.Proofs.Ytlplbgandehkcaa

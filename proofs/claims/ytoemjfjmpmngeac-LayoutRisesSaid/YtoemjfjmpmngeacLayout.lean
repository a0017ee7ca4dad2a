/- The reference's functions of layer 5: contracts only. -/
import Derived.Test.YtoemjfjmpmngeacRows
import Derived.Test.YtoemjfjmpmngeacInts
import Derived.Test.YtoemjfjmpmngeacBase
import Derived.Test.YtoemjfjmpmngeacLayoutPlain
import Derived.WalkKit
import Derived.ProofKit
import Derived.Lib.Hide
namespace Go.Proofs.Ytoemjfjmpmngeac
open Go.RowKit
set_option linter.unusedVariables false

end Go.Proofs.Ytoemjfjmpmngeac

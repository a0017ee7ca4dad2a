/- The reference's functions of layer 10: contracts only. -/
import Derived.Test.YtejhbamlnkhfcaaPickPlain
import Derived.Test.YtejhbamlnkhfcaaScanRef
namespace Go.Proofs.Ytejhbamlnkhfcaa
open Go.RowKit
set_option linter.unusedVariables false
set_option linter.unusedSimpArgs false

end Go.Proofs.Ytejhbamlnkhfcaa

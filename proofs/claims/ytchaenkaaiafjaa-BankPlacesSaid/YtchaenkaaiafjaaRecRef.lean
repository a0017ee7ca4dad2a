/- The reference's functions of layer 7: contracts only. -/
import Derived.Test.YtchaenkaaiafjaaFieldRef
import Derived.Test.YtchaenkaaiafjaaRecPlain
import Derived.Test.YtchaenkaaiafjaaCrcRef
import Derived.Test.YtchaenkaaiafjaaBox
import Derived.Deep.RegionHeld3
namespace Go.Proofs.Ytchaenkaaiafjaa
open Go.RowKit
set_option linter.unusedVariables false
set_option linter.unusedSimpArgs false

end Go.Proofs.Ytchaenkaaiafjaa

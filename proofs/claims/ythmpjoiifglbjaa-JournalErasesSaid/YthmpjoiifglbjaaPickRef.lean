/- The reference's functions of layer 10: contracts only. -/
import Derived.Test.YthmpjoiifglbjaaBankPlain
import Derived.Test.YthmpjoiifglbjaaRecDecode
import Derived.Test.YthmpjoiifglbjaaLayout
import Derived.Test.YthmpjoiifglbjaaBox
import Derived.WalkKit
import Derived.ProofKit
import Derived.Lib.Hide
import Derived.WalkLawsBesides
import Derived.WalkSpells
import Derived.IntWalk
import Derived.Test.YthmpjoiifglbjaaScanPlain
import Derived.Test.YthmpjoiifglbjaaBs
import Derived.Deep.RegionHeld3
import Derived.Test.YthmpjoiifglbjaaPickPlain
namespace Go.Proofs.Ythmpjoiifglbjaa
open Go.RowKit
set_option linter.unusedVariables false
set_option linter.unusedSimpArgs false

end Go.Proofs.Ythmpjoiifglbjaa
namespace Go.Proofs.Ythmpjoiifglbjaa
open Go.RowKit
set_option linter.unusedVariables false
set_option linter.unusedSimpArgs false

end Go.Proofs.Ythmpjoiifglbjaa
namespace Go.Proofs.Ythmpjoiifglbjaa
open Go.RowKit
set_option linter.unusedVariables false
set_option linter.unusedSimpArgs false

end Go.Proofs.Ythmpjoiifglbjaa

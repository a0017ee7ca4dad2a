/- How many cells a type's value has; closed facts of the program: no statement is proved here. -/
import Derived.Test.YtokfglgghdeakaaRows
import Derived.ProofKit
import Derived.OpenShut
import Derived.ChangeMaps5
import Derived.Carry
namespace Go.Proofs.Ytokfglgghdeakaa
open Go.ChangeShapes Go.WideShapes Go.ChangeAt Go.RowKit Go.ChangeMaps

theorem Try.laidOut : laidOutB Try.prog = true := by kernel_rfl

theorem Try.cellsS : Try.prog.cellsOf 9 = 1 := by kernel_rfl

theorem Try.cellsI : Try.prog.cellsOf 3 = 1 := by kernel_rfl

end Go.Proofs.Ytokfglgghdeakaa

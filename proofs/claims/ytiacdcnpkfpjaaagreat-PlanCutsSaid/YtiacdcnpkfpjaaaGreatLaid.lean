/- How many cells a type's value has; closed facts of the program: no statement is proved here. -/
import Derived.Test.YtiacdcnpkfpjaaaGreatRows
import Derived.ProofKit
import Derived.OpenShut
import Derived.ChangeMaps5
import Derived.Carry
namespace Go.Proofs.YtiacdcnpkfpjaaaGreat
open Go.ChangeShapes Go.WideShapes Go.ChangeAt Go.RowKit Go.ChangeMaps

theorem Tryz.laidOut : laidOutB Tryz.prog = true := by kernel_rfl

theorem Tryz.cellsS : Tryz.prog.cellsOf 9 = 1 := by kernel_rfl

theorem Tryz.cellsI : Tryz.prog.cellsOf 3 = 1 := by kernel_rfl

theorem Tryz.cellsU64 : Tryz.prog.cellsOf 26 = 1 := by kernel_rfl
end Go.Proofs.YtiacdcnpkfpjaaaGreat

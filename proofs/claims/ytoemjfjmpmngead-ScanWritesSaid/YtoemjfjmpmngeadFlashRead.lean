/- The program's own Read of layer 3, which throws what is out of bounds and catches it: contracts only. -/
import Derived.Test.YtoemjfjmpmngeadRows
import Derived.Test.YtoemjfjmpmngeadFlash
import Derived.Test.YtoemjfjmpmngeadInts
import Derived.WalkKit
import Derived.ProofKit
import Derived.Lib.Hide
import Derived.Tactics
import Derived.Tactics2
import Derived.Defers
import Derived.Recover
import Derived.Laws.Pointers
import Derived.WalkLawsBesides
import Derived.Test.YtoemjfjmpmngeadBox
namespace Go.Proofs.Ytoemjfjmpmngead
open Go.RowKit
set_option linter.unusedVariables false

/-- A flash whose banks are no greater than a text in memory may be. -/
structure Fl.fit (f : Fl) : Prop where
  ok : f.ok
  z0 : f.b0.size ≤ 140737488351232
  z1 : f.b1.size ≤ 140737488351232

/-- What api.Errno n is when it is thrown. -/
def thrown (n : Int) (r : Bool) : PanicEntry := { v := .iface 32 (.int .i64 n), recovered := r }

theorem taYes (W : World) (v : Value) : (Instr.typeAssert (.iface 32 v) 20 32 true).run Try.prog W = .ok (.tuple #[v, .bool true]) W := by kernel_rfl

theorem taNil (W : World) : (Instr.typeAssert .nilIface 20 32 true).run Try.prog W = .ok (.tuple #[.int .i64 0, .bool false]) W := by kernel_rfl

end Go.Proofs.Ytoemjfjmpmngead

/- The reference's functions of layer 5: contracts only. -/
import Derived.Test.YthmpjoiifglbjaaRows
import Derived.Test.YthmpjoiifglbjaaInts
import Derived.Test.YthmpjoiifglbjaaBase
import Derived.Test.YthmpjoiifglbjaaLayoutPlain
import Derived.WalkKit
import Derived.ProofKit
import Derived.Lib.Hide
namespace Go.Proofs.Ythmpjoiifglbjaa
open Go.RowKit
set_option linter.unusedVariables false

set_option maxRecDepth 100000 in
theorem ref05Size (n : Int) (W : World) :
    Calls Try.prog 9 #[.int .i64 n] W fun e W' => e = .returned (.int .i64 (sizeF n)) ∧ W' = W := by
  by_cases h1 : n < 1
  · have H := Lib.hid (sizeF_out (n := n) (by omega))
    go_enter Try.func9, Try.ntmps9
    go_wp2
    go_ret
    exact ⟨ret_int H.out.symm, rfl⟩
  · by_cases h2 : 12 < n
    · have H := Lib.hid (sizeF_out (n := n) (by omega))
      go_enter Try.func9, Try.ntmps9
      go_wp2
      go_ret
      exact ⟨ret_int H.out.symm, rfl⟩
    · have H := Lib.hid (sizeF_in (n := n) (by omega))
      go_enter Try.func9, Try.ntmps9
      go_wp2
      go_ret
      exact ⟨ret_int H.out.symm, rfl⟩

end Go.Proofs.Ythmpjoiifglbjaa

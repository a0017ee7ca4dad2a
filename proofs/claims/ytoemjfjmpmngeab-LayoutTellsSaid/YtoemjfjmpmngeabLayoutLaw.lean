/- The laws' own helper of layer 5: a contract only. -/
import Derived.Test.YtoemjfjmpmngeabLayoutOwn
namespace Go.Proofs.Ytoemjfjmpmngeab
open Go.RowKit
set_option linter.unusedVariables false

set_option maxRecDepth 100000 in
set_option maxHeartbeats 2000000 in
theorem shown05 (W : World) : Calls Try.prog 41 #[] W fun e W' => e = .returned (.bool true) ∧ Below W.heap.size W W' := by
  have T1 := Lib.hid (show sizeF 2 = 72 from rfl)
  have T2 := Lib.hid (show slotsF 72 = 2 from rfl)
  have T3 := Lib.hid (show slotsF 71 = 0 from rfl)
  have T4 := Lib.hid (show atF 1 = 24 from rfl)
  have T5 := Lib.hid (show markF 1 = 46 from rfl)
  have T6 := Lib.hid (show evenB 12 = true from rfl)
  have T7 := Lib.hid (show evenB 13 = false from rfl)
  have T8 := Lib.hid (show atF 13 = -1 from rfl)
  go_enter Try.func41, Try.ntmps41
  go_wp2_with fail
  refine (calls_as (own05Size _ _) (val_int T1.out)).mono ?_
  rintro e W1 ⟨rfl, hB⟩
  go_wp2_with fail
  refine (calls_as (own05Slots _ _) (val_int T2.out)).mono ?_
  rintro e W2 ⟨rfl, h2⟩
  replace hB := below_seq hB h2
  clear h2
  go_wp2_with fail
  refine (calls_as (own05Slots _ _) (val_int T3.out)).mono ?_
  rintro e W3 ⟨rfl, h3⟩
  replace hB := below_seq hB h3
  clear h3
  go_wp2_with fail
  refine (calls_as (own05At _ _) (val_int T4.out)).mono ?_
  rintro e W4 ⟨rfl, h4⟩
  replace hB := below_seq hB h4
  clear h4
  go_wp2_with fail
  refine (calls_as (own05Mark _ _) (val_int T5.out)).mono ?_
  rintro e W5 ⟨rfl, h5⟩
  replace hB := below_seq hB h5
  clear h5
  go_wp2_with fail
  refine (calls_as (own05Even _ _) (val_bool T6.out)).mono ?_
  rintro e W6 ⟨rfl, h6⟩
  replace hB := below_seq hB h6
  clear h6
  go_wp2_with fail
  refine (calls_as (own05Even _ _) (val_bool T7.out)).mono ?_
  rintro e W7 ⟨rfl, h7⟩
  replace hB := below_seq hB h7
  clear h7
  go_wp2_with fail
  refine (calls_as (own05At _ _) (val_int T8.out)).mono ?_
  rintro e W8 ⟨rfl, h8⟩
  replace hB := below_seq hB h8
  clear h8
  go_wp2
  go_ret
  exact ⟨rfl, hB⟩
end Go.Proofs.Ytoemjfjmpmngeab

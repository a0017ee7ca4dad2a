/- A number fits in so many bytes just if it lies in their range; then it comes back (FieldSigns); no condition. -/
import Derived.Test.YtoemjfjmpmngeacFieldLaw
import Derived.Lib.Hide
import Derived.WalkLawsBesides
import Derived.ProofKit
import Derived.OpenShut
import Derived.ChangeMaps5
import Derived.Test.YtoemjfjmpmngeacInts
namespace Go.Proofs.Ytoemjfjmpmngeac.FieldSigns
open Go.ChangeShapes Go.WideShapes Go.ChangeAt Go.RowKit Go.ChangeMaps
set_option linter.unusedVariables false

set_option maxRecDepth 100000 in
set_option maxHeartbeats 16000000 in
theorem walk (n : Int) (w : Int) (W : World) (hn : -9223372036854775808 ≤ n ∧ n ≤ 9223372036854775807) (hw : -9223372036854775808 ≤ w ∧ w ≤ 9223372036854775807) :
    Calls Try.prog 5 #[.int .i64 n, .int .i64 w] W fun e W' => e = .returned (.bool true) ∧ Below W.heap.size W W' := by
  by_cases c2 : w < 1
  · go_enter Try.func5, Try.ntmps5
    go_wp2_with fail
    refine (shown06 _).mono ?_
    rintro e W1 ⟨rfl, hB⟩
    go_wp2
    go_ret
    exact ⟨rfl, hB⟩
  · skip
    by_cases c4 : 7 < w
    · go_enter Try.func5, Try.ntmps5
      go_wp2_with fail
      refine (shown06 _).mono ?_
      rintro e W1 ⟨rfl, hB⟩
      go_wp2
      go_ret
      exact ⟨rfl, hB⟩
    · skip
      rcases (show w = 1 ∨ w = 2 ∨ w = 3 ∨ w = 4 ∨ w = 5 ∨ w = 6 ∨ w = 7 from by omega) with rfl | rfl | rfl | rfl | rfl | rfl | rfl
      · have hw := wide_of (n := n) (w := 1) (by decide) (by decide)
        have hu := u64N_cast n
        have hzm : (putB (u64N n) 1).size ≤ maxLen := by rw [putB_size]; decide
        have hgl : getB (putB (u64N n) 1) < 18446744073709551616 := Nat.mod_lt _ (by decide)
        rw [show (((1 : Nat) : Int)) = 1 from rfl, show (256 : Nat) ^ 1 = 256 from rfl] at hw
        have hq : wideB n 1 = (signedI (getB (putB (u64N n) 1)) 1 == n) := rfl
        by_cases d8 : n < -128
        · have hr : (signedI (getB (putB (u64N n) 1)) 1 == n) = false := by
            rw [hw]; apply beq_eq_false_iff_ne.2; split <;> omega
          have HW := Lib.hid (show wideB n 1 = false from hq.trans hr)
          clear hw hq hu
          have d2 : ¬ -128 ≤ n := by omega
          go_enter Try.func5, Try.ntmps5
          go_wp2_with fail
          refine (shown06 _).mono ?_
          rintro e W1 ⟨rfl, hB⟩
          go_wp2_with fail
          refine (calls_as (own06Wide _ _ _) (val_bool HW.out)).mono ?_
          rintro e W2 ⟨rfl, h2⟩
          replace hB := below_seq hB h2
          clear h2
          go_wp2_with fail
          refine (own06PutI _ _ _).mono ?_
          rintro e W3 ⟨rfl, h3⟩
          replace hB := below_seq hB h3
          clear h3
          go_wp2_with fail
          refine (own06Get _ _ hzm).mono ?_
          rintro e W4 ⟨rfl, h4⟩
          replace hB := below_seq hB h4
          clear h4
          go_wp2_with fail
          refine (calls_as (own06SignedN _ hgl _ _) (val_int rfl)).mono ?_
          rintro e W5 ⟨rfl, h5⟩
          replace hB := below_seq hB h5
          clear h5
          go_wp2
          go_ret
          exact ⟨rfl, hB⟩
        · skip
          by_cases d10 : 128 ≤ n
          · have hr : (signedI (getB (putB (u64N n) 1)) 1 == n) = false := by
              rw [hw]; apply beq_eq_false_iff_ne.2; split <;> omega
            have HW := Lib.hid (show wideB n 1 = false from hq.trans hr)
            clear hw hq hu
            have d1 : decide (n < 128) = false := by simp; omega
            have d2 : -128 ≤ n := by omega
            go_enter Try.func5, Try.ntmps5
            go_wp2_with fail
            refine (shown06 _).mono ?_
            rintro e W1 ⟨rfl, hB⟩
            go_wp2_with fail
            refine (calls_as (own06Wide _ _ _) (val_bool HW.out)).mono ?_
            rintro e W2 ⟨rfl, h2⟩
            replace hB := below_seq hB h2
            clear h2
            go_wp2_with fail
            refine (own06PutJ _ (by omega) (by omega) _ _).mono ?_
            rintro e W3 ⟨rfl, h3⟩
            replace hB := below_seq hB h3
            clear h3
            go_wp2_with fail
            refine (own06Get _ _ hzm).mono ?_
            rintro e W4 ⟨rfl, h4⟩
            replace hB := below_seq hB h4
            clear h4
            go_wp2_with fail
            refine (calls_as (own06SignedN _ hgl _ _) (val_int rfl)).mono ?_
            rintro e W5 ⟨rfl, h5⟩
            replace hB := below_seq hB h5
            clear h5
            go_wp2
            go_ret
            exact ⟨rfl, hB⟩
          · skip
            have hr : (signedI (getB (putB (u64N n) 1)) 1 == n) = true := by
              rw [hw]; apply beq_iff_eq.2; split <;> omega
            have HW := Lib.hid (show wideB n 1 = true from hq.trans hr)
            have HR := Lib.hid (show signedI (getB (putB (u64N n) 1)) 1 = n from beq_iff_eq.1 hr)
            clear hr
            clear hw hq hu
            have d1 : n < 128 := by omega
            have d2 : -128 ≤ n := by omega
            go_enter Try.func5, Try.ntmps5
            go_wp2_with fail
            refine (shown06 _).mono ?_
            rintro e W1 ⟨rfl, hB⟩
            go_wp2_with fail
            refine (calls_as (own06Wide _ _ _) (val_bool HW.out)).mono ?_
            rintro e W2 ⟨rfl, h2⟩
            replace hB := below_seq hB h2
            clear h2
            go_wp2_with fail
            refine (own06PutI _ _ _).mono ?_
            rintro e W3 ⟨rfl, h3⟩
            replace hB := below_seq hB h3
            clear h3
            go_wp2_with fail
            refine (own06Get _ _ hzm).mono ?_
            rintro e W4 ⟨rfl, h4⟩
            replace hB := below_seq hB h4
            clear h4
            go_wp2_with fail
            refine (calls_as (own06SignedN _ hgl _ _) (val_int HR.out)).mono ?_
            rintro e W5 ⟨rfl, h5⟩
            replace hB := below_seq hB h5
            clear h5
            go_wp2
            go_ret
            exact ⟨rfl, hB⟩
      · have hw := wide_of (n := n) (w := 2) (by decide) (by decide)
        have hu := u64N_cast n
        have hzm : (putB (u64N n) 2).size ≤ maxLen := by rw [putB_size]; decide
        have hgl : getB (putB (u64N n) 2) < 18446744073709551616 := Nat.mod_lt _ (by decide)
        rw [show (((2 : Nat) : Int)) = 2 from rfl, show (256 : Nat) ^ 2 = 65536 from rfl] at hw
        have hq : wideB n 2 = (signedI (getB (putB (u64N n) 2)) 2 == n) := rfl
        by_cases d8 : n < -32768
        · have hr : (signedI (getB (putB (u64N n) 2)) 2 == n) = false := by
            rw [hw]; apply beq_eq_false_iff_ne.2; split <;> omega
          have HW := Lib.hid (show wideB n 2 = false from hq.trans hr)
          clear hw hq hu
          have d2 : ¬ -32768 ≤ n := by omega
          go_enter Try.func5, Try.ntmps5
          go_wp2_with fail
          refine (shown06 _).mono ?_
          rintro e W1 ⟨rfl, hB⟩
          go_wp2_with fail
          refine (calls_as (own06Wide _ _ _) (val_bool HW.out)).mono ?_
          rintro e W2 ⟨rfl, h2⟩
          replace hB := below_seq hB h2
          clear h2
          go_wp2_with fail
          refine (own06PutI _ _ _).mono ?_
          rintro e W3 ⟨rfl, h3⟩
          replace hB := below_seq hB h3
          clear h3
          go_wp2_with fail
          refine (own06Get _ _ hzm).mono ?_
          rintro e W4 ⟨rfl, h4⟩
          replace hB := below_seq hB h4
          clear h4
          go_wp2_with fail
          refine (calls_as (own06SignedN _ hgl _ _) (val_int rfl)).mono ?_
          rintro e W5 ⟨rfl, h5⟩
          replace hB := below_seq hB h5
          clear h5
          go_wp2
          go_ret
          exact ⟨rfl, hB⟩
        · skip
          by_cases d10 : 32768 ≤ n
          · have hr : (signedI (getB (putB (u64N n) 2)) 2 == n) = false := by
              rw [hw]; apply beq_eq_false_iff_ne.2; split <;> omega
            have HW := Lib.hid (show wideB n 2 = false from hq.trans hr)
            clear hw hq hu
            have d1 : decide (n < 32768) = false := by simp; omega
            have d2 : -32768 ≤ n := by omega
            go_enter Try.func5, Try.ntmps5
            go_wp2_with fail
            refine (shown06 _).mono ?_
            rintro e W1 ⟨rfl, hB⟩
            go_wp2_with fail
            refine (calls_as (own06Wide _ _ _) (val_bool HW.out)).mono ?_
            rintro e W2 ⟨rfl, h2⟩
            replace hB := below_seq hB h2
            clear h2
            go_wp2_with fail
            refine (own06PutJ _ (by omega) (by omega) _ _).mono ?_
            rintro e W3 ⟨rfl, h3⟩
            replace hB := below_seq hB h3
            clear h3
            go_wp2_with fail
            refine (own06Get _ _ hzm).mono ?_
            rintro e W4 ⟨rfl, h4⟩
            replace hB := below_seq hB h4
            clear h4
            go_wp2_with fail
            refine (calls_as (own06SignedN _ hgl _ _) (val_int rfl)).mono ?_
            rintro e W5 ⟨rfl, h5⟩
            replace hB := below_seq hB h5
            clear h5
            go_wp2
            go_ret
            exact ⟨rfl, hB⟩
          · skip
            have hr : (signedI (getB (putB (u64N n) 2)) 2 == n) = true := by
              rw [hw]; apply beq_iff_eq.2; split <;> omega
            have HW := Lib.hid (show wideB n 2 = true from hq.trans hr)
            have HR := Lib.hid (show signedI (getB (putB (u64N n) 2)) 2 = n from beq_iff_eq.1 hr)
            clear hr
            clear hw hq hu
            have d1 : n < 32768 := by omega
            have d2 : -32768 ≤ n := by omega
            go_enter Try.func5, Try.ntmps5
            go_wp2_with fail
            refine (shown06 _).mono ?_
            rintro e W1 ⟨rfl, hB⟩
            go_wp2_with fail
            refine (calls_as (own06Wide _ _ _) (val_bool HW.out)).mono ?_
            rintro e W2 ⟨rfl, h2⟩
            replace hB := below_seq hB h2
            clear h2
            go_wp2_with fail
            refine (own06PutI _ _ _).mono ?_
            rintro e W3 ⟨rfl, h3⟩
            replace hB := below_seq hB h3
            clear h3
            go_wp2_with fail
            refine (own06Get _ _ hzm).mono ?_
            rintro e W4 ⟨rfl, h4⟩
            replace hB := below_seq hB h4
            clear h4
            go_wp2_with fail
            refine (calls_as (own06SignedN _ hgl _ _) (val_int HR.out)).mono ?_
            rintro e W5 ⟨rfl, h5⟩
            replace hB := below_seq hB h5
            clear h5
            go_wp2
            go_ret
            exact ⟨rfl, hB⟩
      · have hw := wide_of (n := n) (w := 3) (by decide) (by decide)
        have hu := u64N_cast n
        have hzm : (putB (u64N n) 3).size ≤ maxLen := by rw [putB_size]; decide
        have hgl : getB (putB (u64N n) 3) < 18446744073709551616 := Nat.mod_lt _ (by decide)
        rw [show (((3 : Nat) : Int)) = 3 from rfl, show (256 : Nat) ^ 3 = 16777216 from rfl] at hw
        have hq : wideB n 3 = (signedI (getB (putB (u64N n) 3)) 3 == n) := rfl
        by_cases d8 : n < -8388608
        · have hr : (signedI (getB (putB (u64N n) 3)) 3 == n) = false := by
            rw [hw]; apply beq_eq_false_iff_ne.2; split <;> omega
          have HW := Lib.hid (show wideB n 3 = false from hq.trans hr)
          clear hw hq hu
          have d2 : ¬ -8388608 ≤ n := by omega
          go_enter Try.func5, Try.ntmps5
          go_wp2_with fail
          refine (shown06 _).mono ?_
          rintro e W1 ⟨rfl, hB⟩
          go_wp2_with fail
          refine (calls_as (own06Wide _ _ _) (val_bool HW.out)).mono ?_
          rintro e W2 ⟨rfl, h2⟩
          replace hB := below_seq hB h2
          clear h2
          go_wp2_with fail
          refine (own06PutI _ _ _).mono ?_
          rintro e W3 ⟨rfl, h3⟩
          replace hB := below_seq hB h3
          clear h3
          go_wp2_with fail
          refine (own06Get _ _ hzm).mono ?_
          rintro e W4 ⟨rfl, h4⟩
          replace hB := below_seq hB h4
          clear h4
          go_wp2_with fail
          refine (calls_as (own06SignedN _ hgl _ _) (val_int rfl)).mono ?_
          rintro e W5 ⟨rfl, h5⟩
          replace hB := below_seq hB h5
          clear h5
          go_wp2
          go_ret
          exact ⟨rfl, hB⟩
        · skip
          by_cases d10 : 8388608 ≤ n
          · have hr : (signedI (getB (putB (u64N n) 3)) 3 == n) = false := by
              rw [hw]; apply beq_eq_false_iff_ne.2; split <;> omega
            have HW := Lib.hid (show wideB n 3 = false from hq.trans hr)
            clear hw hq hu
            have d1 : decide (n < 8388608) = false := by simp; omega
            have d2 : -8388608 ≤ n := by omega
            go_enter Try.func5, Try.ntmps5
            go_wp2_with fail
            refine (shown06 _).mono ?_
            rintro e W1 ⟨rfl, hB⟩
            go_wp2_with fail
            refine (calls_as (own06Wide _ _ _) (val_bool HW.out)).mono ?_
            rintro e W2 ⟨rfl, h2⟩
            replace hB := below_seq hB h2
            clear h2
            go_wp2_with fail
            refine (own06PutJ _ (by omega) (by omega) _ _).mono ?_
            rintro e W3 ⟨rfl, h3⟩
            replace hB := below_seq hB h3
            clear h3
            go_wp2_with fail
            refine (own06Get _ _ hzm).mono ?_
            rintro e W4 ⟨rfl, h4⟩
            replace hB := below_seq hB h4
            clear h4
            go_wp2_with fail
            refine (calls_as (own06SignedN _ hgl _ _) (val_int rfl)).mono ?_
            rintro e W5 ⟨rfl, h5⟩
            replace hB := below_seq hB h5
            clear h5
            go_wp2
            go_ret
            exact ⟨rfl, hB⟩
          · skip
            have hr : (signedI (getB (putB (u64N n) 3)) 3 == n) = true := by
              rw [hw]; apply beq_iff_eq.2; split <;> omega
            have HW := Lib.hid (show wideB n 3 = true from hq.trans hr)
            have HR := Lib.hid (show signedI (getB (putB (u64N n) 3)) 3 = n from beq_iff_eq.1 hr)
            clear hr
            clear hw hq hu
            have d1 : n < 8388608 := by omega
            have d2 : -8388608 ≤ n := by omega
            go_enter Try.func5, Try.ntmps5
            go_wp2_with fail
            refine (shown06 _).mono ?_
            rintro e W1 ⟨rfl, hB⟩
            go_wp2_with fail
            refine (calls_as (own06Wide _ _ _) (val_bool HW.out)).mono ?_
            rintro e W2 ⟨rfl, h2⟩
            replace hB := below_seq hB h2
            clear h2
            go_wp2_with fail
            refine (own06PutI _ _ _).mono ?_
            rintro e W3 ⟨rfl, h3⟩
            replace hB := below_seq hB h3
            clear h3
            go_wp2_with fail
            refine (own06Get _ _ hzm).mono ?_
            rintro e W4 ⟨rfl, h4⟩
            replace hB := below_seq hB h4
            clear h4
            go_wp2_with fail
            refine (calls_as (own06SignedN _ hgl _ _) (val_int HR.out)).mono ?_
            rintro e W5 ⟨rfl, h5⟩
            replace hB := below_seq hB h5
            clear h5
            go_wp2
            go_ret
            exact ⟨rfl, hB⟩
      · have hw := wide_of (n := n) (w := 4) (by decide) (by decide)
        have hu := u64N_cast n
        have hzm : (putB (u64N n) 4).size ≤ maxLen := by rw [putB_size]; decide
        have hgl : getB (putB (u64N n) 4) < 18446744073709551616 := Nat.mod_lt _ (by decide)
        rw [show (((4 : Nat) : Int)) = 4 from rfl, show (256 : Nat) ^ 4 = 4294967296 from rfl] at hw
        have hq : wideB n 4 = (signedI (getB (putB (u64N n) 4)) 4 == n) := rfl
        by_cases d8 : n < -2147483648
        · have hr : (signedI (getB (putB (u64N n) 4)) 4 == n) = false := by
            rw [hw]; apply beq_eq_false_iff_ne.2; split <;> omega
          have HW := Lib.hid (show wideB n 4 = false from hq.trans hr)
          clear hw hq hu
          have d2 : ¬ -2147483648 ≤ n := by omega
          go_enter Try.func5, Try.ntmps5
          go_wp2_with fail
          refine (shown06 _).mono ?_
          rintro e W1 ⟨rfl, hB⟩
          go_wp2_with fail
          refine (calls_as (own06Wide _ _ _) (val_bool HW.out)).mono ?_
          rintro e W2 ⟨rfl, h2⟩
          replace hB := below_seq hB h2
          clear h2
          go_wp2_with fail
          refine (own06PutI _ _ _).mono ?_
          rintro e W3 ⟨rfl, h3⟩
          replace hB := below_seq hB h3
          clear h3
          go_wp2_with fail
          refine (own06Get _ _ hzm).mono ?_
          rintro e W4 ⟨rfl, h4⟩
          replace hB := below_seq hB h4
          clear h4
          go_wp2_with fail
          refine (calls_as (own06SignedN _ hgl _ _) (val_int rfl)).mono ?_
          rintro e W5 ⟨rfl, h5⟩
          replace hB := below_seq hB h5
          clear h5
          go_wp2
          go_ret
          exact ⟨rfl, hB⟩
        · skip
          by_cases d10 : 2147483648 ≤ n
          · have hr : (signedI (getB (putB (u64N n) 4)) 4 == n) = false := by
              rw [hw]; apply beq_eq_false_iff_ne.2; split <;> omega
            have HW := Lib.hid (show wideB n 4 = false from hq.trans hr)
            clear hw hq hu
            have d1 : decide (n < 2147483648) = false := by simp; omega
            have d2 : -2147483648 ≤ n := by omega
            go_enter Try.func5, Try.ntmps5
            go_wp2_with fail
            refine (shown06 _).mono ?_
            rintro e W1 ⟨rfl, hB⟩
            go_wp2_with fail
            refine (calls_as (own06Wide _ _ _) (val_bool HW.out)).mono ?_
            rintro e W2 ⟨rfl, h2⟩
            replace hB := below_seq hB h2
            clear h2
            go_wp2_with fail
            refine (own06PutJ _ (by omega) (by omega) _ _).mono ?_
            rintro e W3 ⟨rfl, h3⟩
            replace hB := below_seq hB h3
            clear h3
            go_wp2_with fail
            refine (own06Get _ _ hzm).mono ?_
            rintro e W4 ⟨rfl, h4⟩
            replace hB := below_seq hB h4
            clear h4
            go_wp2_with fail
            refine (calls_as (own06SignedN _ hgl _ _) (val_int rfl)).mono ?_
            rintro e W5 ⟨rfl, h5⟩
            replace hB := below_seq hB h5
            clear h5
            go_wp2
            go_ret
            exact ⟨rfl, hB⟩
          · skip
            have hr : (signedI (getB (putB (u64N n) 4)) 4 == n) = true := by
              rw [hw]; apply beq_iff_eq.2; split <;> omega
            have HW := Lib.hid (show wideB n 4 = true from hq.trans hr)
            have HR := Lib.hid (show signedI (getB (putB (u64N n) 4)) 4 = n from beq_iff_eq.1 hr)
            clear hr
            clear hw hq hu
            have d1 : n < 2147483648 := by omega
            have d2 : -2147483648 ≤ n := by omega
            go_enter Try.func5, Try.ntmps5
            go_wp2_with fail
            refine (shown06 _).mono ?_
            rintro e W1 ⟨rfl, hB⟩
            go_wp2_with fail
            refine (calls_as (own06Wide _ _ _) (val_bool HW.out)).mono ?_
            rintro e W2 ⟨rfl, h2⟩
            replace hB := below_seq hB h2
            clear h2
            go_wp2_with fail
            refine (own06PutI _ _ _).mono ?_
            rintro e W3 ⟨rfl, h3⟩
            replace hB := below_seq hB h3
            clear h3
            go_wp2_with fail
            refine (own06Get _ _ hzm).mono ?_
            rintro e W4 ⟨rfl, h4⟩
            replace hB := below_seq hB h4
            clear h4
            go_wp2_with fail
            refine (calls_as (own06SignedN _ hgl _ _) (val_int HR.out)).mono ?_
            rintro e W5 ⟨rfl, h5⟩
            replace hB := below_seq hB h5
            clear h5
            go_wp2
            go_ret
            exact ⟨rfl, hB⟩
      · have hw := wide_of (n := n) (w := 5) (by decide) (by decide)
        have hu := u64N_cast n
        have hzm : (putB (u64N n) 5).size ≤ maxLen := by rw [putB_size]; decide
        have hgl : getB (putB (u64N n) 5) < 18446744073709551616 := Nat.mod_lt _ (by decide)
        rw [show (((5 : Nat) : Int)) = 5 from rfl, show (256 : Nat) ^ 5 = 1099511627776 from rfl] at hw
        have hq : wideB n 5 = (signedI (getB (putB (u64N n) 5)) 5 == n) := rfl
        by_cases d8 : n < -549755813888
        · have hr : (signedI (getB (putB (u64N n) 5)) 5 == n) = false := by
            rw [hw]; apply beq_eq_false_iff_ne.2; split <;> omega
          have HW := Lib.hid (show wideB n 5 = false from hq.trans hr)
          clear hw hq hu
          have d2 : ¬ -549755813888 ≤ n := by omega
          go_enter Try.func5, Try.ntmps5
          go_wp2_with fail
          refine (shown06 _).mono ?_
          rintro e W1 ⟨rfl, hB⟩
          go_wp2_with fail
          refine (calls_as (own06Wide _ _ _) (val_bool HW.out)).mono ?_
          rintro e W2 ⟨rfl, h2⟩
          replace hB := below_seq hB h2
          clear h2
          go_wp2_with fail
          refine (own06PutI _ _ _).mono ?_
          rintro e W3 ⟨rfl, h3⟩
          replace hB := below_seq hB h3
          clear h3
          go_wp2_with fail
          refine (own06Get _ _ hzm).mono ?_
          rintro e W4 ⟨rfl, h4⟩
          replace hB := below_seq hB h4
          clear h4
          go_wp2_with fail
          refine (calls_as (own06SignedN _ hgl _ _) (val_int rfl)).mono ?_
          rintro e W5 ⟨rfl, h5⟩
          replace hB := below_seq hB h5
          clear h5
          go_wp2
          go_ret
          exact ⟨rfl, hB⟩
        · skip
          by_cases d10 : 549755813888 ≤ n
          · have hr : (signedI (getB (putB (u64N n) 5)) 5 == n) = false := by
              rw [hw]; apply beq_eq_false_iff_ne.2; split <;> omega
            have HW := Lib.hid (show wideB n 5 = false from hq.trans hr)
            clear hw hq hu
            have d1 : decide (n < 549755813888) = false := by simp; omega
            have d2 : -549755813888 ≤ n := by omega
            go_enter Try.func5, Try.ntmps5
            go_wp2_with fail
            refine (shown06 _).mono ?_
            rintro e W1 ⟨rfl, hB⟩
            go_wp2_with fail
            refine (calls_as (own06Wide _ _ _) (val_bool HW.out)).mono ?_
            rintro e W2 ⟨rfl, h2⟩
            replace hB := below_seq hB h2
            clear h2
            go_wp2_with fail
            refine (own06PutJ _ (by omega) (by omega) _ _).mono ?_
            rintro e W3 ⟨rfl, h3⟩
            replace hB := below_seq hB h3
            clear h3
            go_wp2_with fail
            refine (own06Get _ _ hzm).mono ?_
            rintro e W4 ⟨rfl, h4⟩
            replace hB := below_seq hB h4
            clear h4
            go_wp2_with fail
            refine (calls_as (own06SignedN _ hgl _ _) (val_int rfl)).mono ?_
            rintro e W5 ⟨rfl, h5⟩
            replace hB := below_seq hB h5
            clear h5
            go_wp2
            go_ret
            exact ⟨rfl, hB⟩
          · skip
            have hr : (signedI (getB (putB (u64N n) 5)) 5 == n) = true := by
              rw [hw]; apply beq_iff_eq.2; split <;> omega
            have HW := Lib.hid (show wideB n 5 = true from hq.trans hr)
            have HR := Lib.hid (show signedI (getB (putB (u64N n) 5)) 5 = n from beq_iff_eq.1 hr)
            clear hr
            clear hw hq hu
            have d1 : n < 549755813888 := by omega
            have d2 : -549755813888 ≤ n := by omega
            go_enter Try.func5, Try.ntmps5
            go_wp2_with fail
            refine (shown06 _).mono ?_
            rintro e W1 ⟨rfl, hB⟩
            go_wp2_with fail
            refine (calls_as (own06Wide _ _ _) (val_bool HW.out)).mono ?_
            rintro e W2 ⟨rfl, h2⟩
            replace hB := below_seq hB h2
            clear h2
            go_wp2_with fail
            refine (own06PutI _ _ _).mono ?_
            rintro e W3 ⟨rfl, h3⟩
            replace hB := below_seq hB h3
            clear h3
            go_wp2_with fail
            refine (own06Get _ _ hzm).mono ?_
            rintro e W4 ⟨rfl, h4⟩
            replace hB := below_seq hB h4
            clear h4
            go_wp2_with fail
            refine (calls_as (own06SignedN _ hgl _ _) (val_int HR.out)).mono ?_
            rintro e W5 ⟨rfl, h5⟩
            replace hB := below_seq hB h5
            clear h5
            go_wp2
            go_ret
            exact ⟨rfl, hB⟩
      · have hw := wide_of (n := n) (w := 6) (by decide) (by decide)
        have hu := u64N_cast n
        have hzm : (putB (u64N n) 6).size ≤ maxLen := by rw [putB_size]; decide
        have hgl : getB (putB (u64N n) 6) < 18446744073709551616 := Nat.mod_lt _ (by decide)
        rw [show (((6 : Nat) : Int)) = 6 from rfl, show (256 : Nat) ^ 6 = 281474976710656 from rfl] at hw
        have hq : wideB n 6 = (signedI (getB (putB (u64N n) 6)) 6 == n) := rfl
        by_cases d8 : n < -140737488355328
        · have hr : (signedI (getB (putB (u64N n) 6)) 6 == n) = false := by
            rw [hw]; apply beq_eq_false_iff_ne.2; split <;> omega
          have HW := Lib.hid (show wideB n 6 = false from hq.trans hr)
          clear hw hq hu
          have d2 : ¬ -140737488355328 ≤ n := by omega
          go_enter Try.func5, Try.ntmps5
          go_wp2_with fail
          refine (shown06 _).mono ?_
          rintro e W1 ⟨rfl, hB⟩
          go_wp2_with fail
          refine (calls_as (own06Wide _ _ _) (val_bool HW.out)).mono ?_
          rintro e W2 ⟨rfl, h2⟩
          replace hB := below_seq hB h2
          clear h2
          go_wp2_with fail
          refine (own06PutI _ _ _).mono ?_
          rintro e W3 ⟨rfl, h3⟩
          replace hB := below_seq hB h3
          clear h3
          go_wp2_with fail
          refine (own06Get _ _ hzm).mono ?_
          rintro e W4 ⟨rfl, h4⟩
          replace hB := below_seq hB h4
          clear h4
          go_wp2_with fail
          refine (calls_as (own06SignedN _ hgl _ _) (val_int rfl)).mono ?_
          rintro e W5 ⟨rfl, h5⟩
          replace hB := below_seq hB h5
          clear h5
          go_wp2
          go_ret
          exact ⟨rfl, hB⟩
        · skip
          by_cases d10 : 140737488355328 ≤ n
          · have hr : (signedI (getB (putB (u64N n) 6)) 6 == n) = false := by
              rw [hw]; apply beq_eq_false_iff_ne.2; split <;> omega
            have HW := Lib.hid (show wideB n 6 = false from hq.trans hr)
            clear hw hq hu
            have d1 : decide (n < 140737488355328) = false := by simp; omega
            have d2 : -140737488355328 ≤ n := by omega
            go_enter Try.func5, Try.ntmps5
            go_wp2_with fail
            refine (shown06 _).mono ?_
            rintro e W1 ⟨rfl, hB⟩
            go_wp2_with fail
            refine (calls_as (own06Wide _ _ _) (val_bool HW.out)).mono ?_
            rintro e W2 ⟨rfl, h2⟩
            replace hB := below_seq hB h2
            clear h2
            go_wp2_with fail
            refine (own06PutJ _ (by omega) (by omega) _ _).mono ?_
            rintro e W3 ⟨rfl, h3⟩
            replace hB := below_seq hB h3
            clear h3
            go_wp2_with fail
            refine (own06Get _ _ hzm).mono ?_
            rintro e W4 ⟨rfl, h4⟩
            replace hB := below_seq hB h4
            clear h4
            go_wp2_with fail
            refine (calls_as (own06SignedN _ hgl _ _) (val_int rfl)).mono ?_
            rintro e W5 ⟨rfl, h5⟩
            replace hB := below_seq hB h5
            clear h5
            go_wp2
            go_ret
            exact ⟨rfl, hB⟩
          · skip
            have hr : (signedI (getB (putB (u64N n) 6)) 6 == n) = true := by
              rw [hw]; apply beq_iff_eq.2; split <;> omega
            have HW := Lib.hid (show wideB n 6 = true from hq.trans hr)
            have HR := Lib.hid (show signedI (getB (putB (u64N n) 6)) 6 = n from beq_iff_eq.1 hr)
            clear hr
            clear hw hq hu
            have d1 : n < 140737488355328 := by omega
            have d2 : -140737488355328 ≤ n := by omega
            go_enter Try.func5, Try.ntmps5
            go_wp2_with fail
            refine (shown06 _).mono ?_
            rintro e W1 ⟨rfl, hB⟩
            go_wp2_with fail
            refine (calls_as (own06Wide _ _ _) (val_bool HW.out)).mono ?_
            rintro e W2 ⟨rfl, h2⟩
            replace hB := below_seq hB h2
            clear h2
            go_wp2_with fail
            refine (own06PutI _ _ _).mono ?_
            rintro e W3 ⟨rfl, h3⟩
            replace hB := below_seq hB h3
            clear h3
            go_wp2_with fail
            refine (own06Get _ _ hzm).mono ?_
            rintro e W4 ⟨rfl, h4⟩
            replace hB := below_seq hB h4
            clear h4
            go_wp2_with fail
            refine (calls_as (own06SignedN _ hgl _ _) (val_int HR.out)).mono ?_
            rintro e W5 ⟨rfl, h5⟩
            replace hB := below_seq hB h5
            clear h5
            go_wp2
            go_ret
            exact ⟨rfl, hB⟩
      · have hw := wide_of (n := n) (w := 7) (by decide) (by decide)
        have hu := u64N_cast n
        have hzm : (putB (u64N n) 7).size ≤ maxLen := by rw [putB_size]; decide
        have hgl : getB (putB (u64N n) 7) < 18446744073709551616 := Nat.mod_lt _ (by decide)
        rw [show (((7 : Nat) : Int)) = 7 from rfl, show (256 : Nat) ^ 7 = 72057594037927936 from rfl] at hw
        have hq : wideB n 7 = (signedI (getB (putB (u64N n) 7)) 7 == n) := rfl
        by_cases d8 : n < -36028797018963968
        · have hr : (signedI (getB (putB (u64N n) 7)) 7 == n) = false := by
            rw [hw]; apply beq_eq_false_iff_ne.2; split <;> omega
          have HW := Lib.hid (show wideB n 7 = false from hq.trans hr)
          clear hw hq hu
          have d2 : ¬ -36028797018963968 ≤ n := by omega
          go_enter Try.func5, Try.ntmps5
          go_wp2_with fail
          refine (shown06 _).mono ?_
          rintro e W1 ⟨rfl, hB⟩
          go_wp2_with fail
          refine (calls_as (own06Wide _ _ _) (val_bool HW.out)).mono ?_
          rintro e W2 ⟨rfl, h2⟩
          replace hB := below_seq hB h2
          clear h2
          go_wp2_with fail
          refine (own06PutI _ _ _).mono ?_
          rintro e W3 ⟨rfl, h3⟩
          replace hB := below_seq hB h3
          clear h3
          go_wp2_with fail
          refine (own06Get _ _ hzm).mono ?_
          rintro e W4 ⟨rfl, h4⟩
          replace hB := below_seq hB h4
          clear h4
          go_wp2_with fail
          refine (calls_as (own06SignedN _ hgl _ _) (val_int rfl)).mono ?_
          rintro e W5 ⟨rfl, h5⟩
          replace hB := below_seq hB h5
          clear h5
          go_wp2
          go_ret
          exact ⟨rfl, hB⟩
        · skip
          by_cases d10 : 36028797018963968 ≤ n
          · have hr : (signedI (getB (putB (u64N n) 7)) 7 == n) = false := by
              rw [hw]; apply beq_eq_false_iff_ne.2; split <;> omega
            have HW := Lib.hid (show wideB n 7 = false from hq.trans hr)
            clear hw hq hu
            have d1 : decide (n < 36028797018963968) = false := by simp; omega
            have d2 : -36028797018963968 ≤ n := by omega
            go_enter Try.func5, Try.ntmps5
            go_wp2_with fail
            refine (shown06 _).mono ?_
            rintro e W1 ⟨rfl, hB⟩
            go_wp2_with fail
            refine (calls_as (own06Wide _ _ _) (val_bool HW.out)).mono ?_
            rintro e W2 ⟨rfl, h2⟩
            replace hB := below_seq hB h2
            clear h2
            go_wp2_with fail
            refine (own06PutJ _ (by omega) (by omega) _ _).mono ?_
            rintro e W3 ⟨rfl, h3⟩
            replace hB := below_seq hB h3
            clear h3
            go_wp2_with fail
            refine (own06Get _ _ hzm).mono ?_
            rintro e W4 ⟨rfl, h4⟩
            replace hB := below_seq hB h4
            clear h4
            go_wp2_with fail
            refine (calls_as (own06SignedN _ hgl _ _) (val_int rfl)).mono ?_
            rintro e W5 ⟨rfl, h5⟩
            replace hB := below_seq hB h5
            clear h5
            go_wp2
            go_ret
            exact ⟨rfl, hB⟩
          · skip
            have hr : (signedI (getB (putB (u64N n) 7)) 7 == n) = true := by
              rw [hw]; apply beq_iff_eq.2; split <;> omega
            have HW := Lib.hid (show wideB n 7 = true from hq.trans hr)
            have HR := Lib.hid (show signedI (getB (putB (u64N n) 7)) 7 = n from beq_iff_eq.1 hr)
            clear hr
            clear hw hq hu
            have d1 : n < 36028797018963968 := by omega
            have d2 : -36028797018963968 ≤ n := by omega
            go_enter Try.func5, Try.ntmps5
            go_wp2_with fail
            refine (shown06 _).mono ?_
            rintro e W1 ⟨rfl, hB⟩
            go_wp2_with fail
            refine (calls_as (own06Wide _ _ _) (val_bool HW.out)).mono ?_
            rintro e W2 ⟨rfl, h2⟩
            replace hB := below_seq hB h2
            clear h2
            go_wp2_with fail
            refine (own06PutI _ _ _).mono ?_
            rintro e W3 ⟨rfl, h3⟩
            replace hB := below_seq hB h3
            clear h3
            go_wp2_with fail
            refine (own06Get _ _ hzm).mono ?_
            rintro e W4 ⟨rfl, h4⟩
            replace hB := below_seq hB h4
            clear h4
            go_wp2_with fail
            refine (calls_as (own06SignedN _ hgl _ _) (val_int HR.out)).mono ?_
            rintro e W5 ⟨rfl, h5⟩
            replace hB := below_seq hB h5
            clear h5
            go_wp2
            go_ret
            exact ⟨rfl, hB⟩

theorem own : ownKnob Try.prog.godebug = none := by kernel_rfl

set_option maxRecDepth 100000 in
theorem lifted (os : Os) (started : os.Started) (H : Type) (enc : TypeId × Value → H) :
    ReturnsInHanded {} Try.checked os 5 .any (Rows.fieldSignsSpec.pre6 enc Try.prog Try.f5 Rows.fieldSignsRow.domain false) (Rows.fieldSignsSpec.post enc Try.prog Try.f5 false true false false) := by
  refine returnsInHanded_of_change (C := Try.checked) own started (by kernel_rfl) Try.func5
    (ChangeSpec.witness6 (enc := enc) (C := Try.checked) false ⟨#[], #[.int .i64 0, .int .i64 0], []⟩ 8 (by kernel_rfl) (by kernel_rfl) (by kernel_rfl) (by kernel_rfl)) ?_
  intro W base args ds gs before hval hW _ _
  have hW' := hW
  obtain ⟨p, q, hA0, hV, rfl, hfz, hnd⟩ := hW
  have hA : DataW.TrodAll enc Try.prog W 0 (fun _ => true) true Try.f5.params.toList args.toList ds p := hA0
  rw [Try.params5] at hA hval
  obtain ⟨v0, vs0, d0, ds0, p0, q0, hargs, rfl, rfl, h0, r0⟩ := trodAll_cons hA
  obtain ⟨v1, vs1, d1, ds1, p1, q1, rfl, rfl, rfl, h1, r1⟩ := trodAll_cons r0
  obtain ⟨rfl, rfl, rfl⟩ := trodAll_nil r1
  obtain rfl : args = #[v0, v1] := by cases args; simp_all
  obtain ⟨rfl, rfl⟩ := trodVars_none hV
  obtain ⟨a0, rfl, rfl, rfl, w0⟩ := open_int Try.underlying3 (hval 0 3 v0 rfl rfl) h0
  obtain ⟨a1, rfl, rfl, rfl, w1⟩ := open_int Try.underlying3 (hval 1 3 v1 rfl rfl) h1
  clear hA0
  simp only [List.append_nil] at hW'
  refine (walk a0 a1 W (int_i64 w0) (int_i64 w1)).mono fun e W' ⟨he, hB⟩ => ?_
  subst he
  exact ⟨_, rfl, ⟨_, _, _, [], _, [], hW', trodAll_cons_mk (shut_bool Try.underlying4 _) trodAll_mk0, (trodAll_cons_mk (shut_int Try.underlying3 w0) (trodAll_cons_mk (shut_int Try.underlying3 w1) trodAll_mk0)), rfl, hB.frame _, fun h => by cases h⟩⟩

theorem holds : Rows.FieldSignsSaid :=
  OpenClaim.holds_of_wide 5 Try.f5 rfl rfl rfl rfl rfl rfl rfl ⟨rfl, rfl, rfl, rfl, rfl⟩ rfl rfl rfl rfl rfl (by kernel_rfl) Try.func5 (by kernel_rfl)
    (of_decide_eq_true (by kernel_rfl)) (by unfold Func.isWrapper; first | (rw [if_pos (by decide +kernel)]; kernel_rfl) | (rw [if_neg (by decide +kernel)]; exact ⟨rfl, rfl⟩))
    (fun os started H enc _ => lifted os started H enc)
end Go.Proofs.Ytoemjfjmpmngeac.FieldSigns

/- What is put is got, as far as it fits, and what is got is put (FieldBack); no condition. -/
import Derived.Test.YtoemjfjmpmngeacFieldLaw
import Derived.Lib.Hide
import Derived.WalkLawsBesides
import Derived.ProofKit
import Derived.OpenShut
import Derived.ChangeMaps5
import Derived.Test.YtoemjfjmpmngeacInts
namespace Go.Proofs.Ytoemjfjmpmngeac.FieldBack
open Go.ChangeShapes Go.WideShapes Go.ChangeAt Go.RowKit Go.ChangeMaps
set_option linter.unusedVariables false

set_option maxRecDepth 100000 in
set_option maxHeartbeats 16000000 in
theorem walk (n : BitVec 64) (w : Int) (s : ByteArray) (W : World) (hw : -9223372036854775808 ≤ w ∧ w ≤ 9223372036854775807) (hs : s.size ≤ maxLen) :
    Calls Try.prog 4 #[.int .u64 (n.toNat : Int), .int .i64 w, .string s] W fun e W' => e = .returned (.bool true) ∧ Below W.heap.size W W' := by
  unfold maxLen at hs
  have hn := n.isLt
  by_cases c2 : w < 0
  · go_enter Try.func4, Try.ntmps4
    go_wp2_with fail
    refine (shown06 _).mono ?_
    rintro e W1 ⟨rfl, hB⟩
    go_wp2
    go_ret
    exact ⟨rfl, hB⟩
  · skip
    by_cases c4 : 8 < w
    · go_enter Try.func4, Try.ntmps4
      go_wp2_with fail
      refine (shown06 _).mono ?_
      rintro e W1 ⟨rfl, hB⟩
      go_wp2
      go_ret
      exact ⟨rfl, hB⟩
    · skip
      by_cases c6 : 8 < s.size
      · go_enter Try.func4, Try.ntmps4
        go_wp2_with fail
        refine (shown06 _).mono ?_
        rintro e W1 ⟨rfl, hB⟩
        go_wp2
        go_ret
        exact ⟨rfl, hB⟩
      · skip
        have hs8 : s.size ≤ 8 := by omega
        have HS := Lib.hid (putB_getB hs8)
        have hg : getB s < 18446744073709551616 := Nat.mod_lt _ (by decide)
        rcases (show w = 0 ∨ w = 1 ∨ w = 2 ∨ w = 3 ∨ w = 4 ∨ w = 5 ∨ w = 6 ∨ w = 7 ∨ w = 8 from by omega) with rfl | rfl | rfl | rfl | rfl | rfl | rfl | rfl | rfl
        · have hz : ((putB n.toNat 0).size : Int) = 0 := by rw [putB_size]; rfl
          have hzm : (putB n.toNat 0).size ≤ maxLen := by unfold maxLen; omega
          have HG := Lib.hid (show getB (putB n.toNat 0) = n.toNat % 1 from getB_putB (n := n.toNat) (w := 0) (by decide))
          generalize hx : putB n.toNat 0 = x at *
          have HX := Lib.hid hx
          clear hx
          have f0 : ((x.size : Int) == 0) = true := beq_iff_eq.2 hz
          clear hz c2 c4
          by_cases hv : n.toNat < 1
          · have HE := Lib.hid (show ((getB x : Nat) : Int) = (n.toNat : Int) from by rw [HG.out]; omega)
            have f3 : ((n.toNat : Int) == (n.toNat : Int)) = true := beq_self_eq_true _
            have f4 : ((n.toNat : Int) == 0) = true := beq_iff_eq.2 (by omega)
            clear hn hv
            go_enter Try.func4, Try.ntmps4
            go_wp2_with fail
            refine (shown06 _).mono ?_
            rintro e W1 ⟨rfl, hB⟩
            go_wp2_with fail
            refine (calls_as (own06Put _ _ _) (val_str HX.out)).mono ?_
            rintro e W2 ⟨rfl, h2⟩
            replace hB := below_seq hB h2
            clear h2
            go_wp2_with fail
            refine (calls_as (own06Get _ _ hzm) (val_int HE.out)).mono ?_
            rintro e W3 ⟨rfl, h3⟩
            replace hB := below_seq hB h3
            clear h3
            go_wp2_with fail
            refine (own06Get _ _ (by unfold maxLen; omega)).mono ?_
            rintro e W4 ⟨rfl, h4⟩
            replace hB := below_seq hB h4
            clear h4
            go_wp2_with fail
            refine (calls_as (own06PutN _ hg _ _) (val_str HS.out)).mono ?_
            rintro e W5 ⟨rfl, h5⟩
            replace hB := below_seq hB h5
            clear h5
            go_wp2
            go_ret
            exact ⟨rfl, hB⟩
          · have f3 : ((n.toNat % 1 : Nat) : Int) ≠ (n.toNat : Int) := by omega
            rw [← HG.out] at f3
            replace f3 : (((getB x : Nat) : Int) == (n.toNat : Int)) = false := beq_eq_false_iff_ne.2 f3
            have f4 : ((n.toNat : Int) == 0) = false := beq_eq_false_iff_ne.2 (by omega)
            clear hn hv HG
            go_enter Try.func4, Try.ntmps4
            go_wp2_with fail
            refine (shown06 _).mono ?_
            rintro e W1 ⟨rfl, hB⟩
            go_wp2_with fail
            refine (calls_as (own06Put _ _ _) (val_str HX.out)).mono ?_
            rintro e W2 ⟨rfl, h2⟩
            replace hB := below_seq hB h2
            clear h2
            go_wp2_with fail
            refine (calls_as (own06Get _ _ hzm) (val_int rfl)).mono ?_
            rintro e W3 ⟨rfl, h3⟩
            replace hB := below_seq hB h3
            clear h3
            go_wp2_with fail
            refine (own06Get _ _ (by unfold maxLen; omega)).mono ?_
            rintro e W4 ⟨rfl, h4⟩
            replace hB := below_seq hB h4
            clear h4
            go_wp2_with fail
            refine (calls_as (own06PutN _ hg _ _) (val_str HS.out)).mono ?_
            rintro e W5 ⟨rfl, h5⟩
            replace hB := below_seq hB h5
            clear h5
            go_wp2
            go_ret
            exact ⟨rfl, hB⟩
        · have hz : ((putB n.toNat 1).size : Int) = 1 := by rw [putB_size]; rfl
          have hzm : (putB n.toNat 1).size ≤ maxLen := by unfold maxLen; omega
          have HG := Lib.hid (show getB (putB n.toNat 1) = n.toNat % 256 from getB_putB (n := n.toNat) (w := 1) (by decide))
          generalize hx : putB n.toNat 1 = x at *
          have HX := Lib.hid hx
          clear hx
          have f0 : ((x.size : Int) == 1) = true := beq_iff_eq.2 hz
          clear hz c2 c4
          by_cases hv : n.toNat < 256
          · have HE := Lib.hid (show ((getB x : Nat) : Int) = (n.toNat : Int) from by rw [HG.out]; omega)
            have f3 : ((n.toNat : Int) == (n.toNat : Int)) = true := beq_self_eq_true _
            have f4 : ((n.toNat : Int) / 256 == 0) = true := beq_iff_eq.2 (by omega)
            clear hn hv
            go_enter Try.func4, Try.ntmps4
            go_wp2_with fail
            refine (shown06 _).mono ?_
            rintro e W1 ⟨rfl, hB⟩
            go_wp2_with fail
            refine (calls_as (own06Put _ _ _) (val_str HX.out)).mono ?_
            rintro e W2 ⟨rfl, h2⟩
            replace hB := below_seq hB h2
            clear h2
            go_wp2_with fail
            refine (calls_as (own06Get _ _ hzm) (val_int HE.out)).mono ?_
            rintro e W3 ⟨rfl, h3⟩
            replace hB := below_seq hB h3
            clear h3
            go_wp2_with fail
            refine (own06Get _ _ (by unfold maxLen; omega)).mono ?_
            rintro e W4 ⟨rfl, h4⟩
            replace hB := below_seq hB h4
            clear h4
            go_wp2_with fail
            refine (calls_as (own06PutN _ hg _ _) (val_str HS.out)).mono ?_
            rintro e W5 ⟨rfl, h5⟩
            replace hB := below_seq hB h5
            clear h5
            go_wp2
            go_ret
            exact ⟨rfl, hB⟩
          · have f3 : ((n.toNat % 256 : Nat) : Int) ≠ (n.toNat : Int) := by omega
            rw [← HG.out] at f3
            replace f3 : (((getB x : Nat) : Int) == (n.toNat : Int)) = false := beq_eq_false_iff_ne.2 f3
            have f4 : ((n.toNat : Int) / 256 == 0) = false := beq_eq_false_iff_ne.2 (by omega)
            clear hn hv HG
            go_enter Try.func4, Try.ntmps4
            go_wp2_with fail
            refine (shown06 _).mono ?_
            rintro e W1 ⟨rfl, hB⟩
            go_wp2_with fail
            refine (calls_as (own06Put _ _ _) (val_str HX.out)).mono ?_
            rintro e W2 ⟨rfl, h2⟩
            replace hB := below_seq hB h2
            clear h2
            go_wp2_with fail
            refine (calls_as (own06Get _ _ hzm) (val_int rfl)).mono ?_
            rintro e W3 ⟨rfl, h3⟩
            replace hB := below_seq hB h3
            clear h3
            go_wp2_with fail
            refine (own06Get _ _ (by unfold maxLen; omega)).mono ?_
            rintro e W4 ⟨rfl, h4⟩
            replace hB := below_seq hB h4
            clear h4
            go_wp2_with fail
            refine (calls_as (own06PutN _ hg _ _) (val_str HS.out)).mono ?_
            rintro e W5 ⟨rfl, h5⟩
            replace hB := below_seq hB h5
            clear h5
            go_wp2
            go_ret
            exact ⟨rfl, hB⟩
        · have hz : ((putB n.toNat 2).size : Int) = 2 := by rw [putB_size]; rfl
          have hzm : (putB n.toNat 2).size ≤ maxLen := by unfold maxLen; omega
          have HG := Lib.hid (show getB (putB n.toNat 2) = n.toNat % 65536 from getB_putB (n := n.toNat) (w := 2) (by decide))
          generalize hx : putB n.toNat 2 = x at *
          have HX := Lib.hid hx
          clear hx
          have f0 : ((x.size : Int) == 2) = true := beq_iff_eq.2 hz
          clear hz c2 c4
          by_cases hv : n.toNat < 65536
          · have HE := Lib.hid (show ((getB x : Nat) : Int) = (n.toNat : Int) from by rw [HG.out]; omega)
            have f3 : ((n.toNat : Int) == (n.toNat : Int)) = true := beq_self_eq_true _
            have f4 : ((n.toNat : Int) / 65536 == 0) = true := beq_iff_eq.2 (by omega)
            clear hn hv
            go_enter Try.func4, Try.ntmps4
            go_wp2_with fail
            refine (shown06 _).mono ?_
            rintro e W1 ⟨rfl, hB⟩
            go_wp2_with fail
            refine (calls_as (own06Put _ _ _) (val_str HX.out)).mono ?_
            rintro e W2 ⟨rfl, h2⟩
            replace hB := below_seq hB h2
            clear h2
            go_wp2_with fail
            refine (calls_as (own06Get _ _ hzm) (val_int HE.out)).mono ?_
            rintro e W3 ⟨rfl, h3⟩
            replace hB := below_seq hB h3
            clear h3
            go_wp2_with fail
            refine (own06Get _ _ (by unfold maxLen; omega)).mono ?_
            rintro e W4 ⟨rfl, h4⟩
            replace hB := below_seq hB h4
            clear h4
            go_wp2_with fail
            refine (calls_as (own06PutN _ hg _ _) (val_str HS.out)).mono ?_
            rintro e W5 ⟨rfl, h5⟩
            replace hB := below_seq hB h5
            clear h5
            go_wp2
            go_ret
            exact ⟨rfl, hB⟩
          · have f3 : ((n.toNat % 65536 : Nat) : Int) ≠ (n.toNat : Int) := by omega
            rw [← HG.out] at f3
            replace f3 : (((getB x : Nat) : Int) == (n.toNat : Int)) = false := beq_eq_false_iff_ne.2 f3
            have f4 : ((n.toNat : Int) / 65536 == 0) = false := beq_eq_false_iff_ne.2 (by omega)
            clear hn hv HG
            go_enter Try.func4, Try.ntmps4
            go_wp2_with fail
            refine (shown06 _).mono ?_
            rintro e W1 ⟨rfl, hB⟩
            go_wp2_with fail
            refine (calls_as (own06Put _ _ _) (val_str HX.out)).mono ?_
            rintro e W2 ⟨rfl, h2⟩
            replace hB := below_seq hB h2
            clear h2
            go_wp2_with fail
            refine (calls_as (own06Get _ _ hzm) (val_int rfl)).mono ?_
            rintro e W3 ⟨rfl, h3⟩
            replace hB := below_seq hB h3
            clear h3
            go_wp2_with fail
            refine (own06Get _ _ (by unfold maxLen; omega)).mono ?_
            rintro e W4 ⟨rfl, h4⟩
            replace hB := below_seq hB h4
            clear h4
            go_wp2_with fail
            refine (calls_as (own06PutN _ hg _ _) (val_str HS.out)).mono ?_
            rintro e W5 ⟨rfl, h5⟩
            replace hB := below_seq hB h5
            clear h5
            go_wp2
            go_ret
            exact ⟨rfl, hB⟩
        · have hz : ((putB n.toNat 3).size : Int) = 3 := by rw [putB_size]; rfl
          have hzm : (putB n.toNat 3).size ≤ maxLen := by unfold maxLen; omega
          have HG := Lib.hid (show getB (putB n.toNat 3) = n.toNat % 16777216 from getB_putB (n := n.toNat) (w := 3) (by decide))
          generalize hx : putB n.toNat 3 = x at *
          have HX := Lib.hid hx
          clear hx
          have f0 : ((x.size : Int) == 3) = true := beq_iff_eq.2 hz
          clear hz c2 c4
          by_cases hv : n.toNat < 16777216
          · have HE := Lib.hid (show ((getB x : Nat) : Int) = (n.toNat : Int) from by rw [HG.out]; omega)
            have f3 : ((n.toNat : Int) == (n.toNat : Int)) = true := beq_self_eq_true _
            have f4 : ((n.toNat : Int) / 16777216 == 0) = true := beq_iff_eq.2 (by omega)
            clear hn hv
            go_enter Try.func4, Try.ntmps4
            go_wp2_with fail
            refine (shown06 _).mono ?_
            rintro e W1 ⟨rfl, hB⟩
            go_wp2_with fail
            refine (calls_as (own06Put _ _ _) (val_str HX.out)).mono ?_
            rintro e W2 ⟨rfl, h2⟩
            replace hB := below_seq hB h2
            clear h2
            go_wp2_with fail
            refine (calls_as (own06Get _ _ hzm) (val_int HE.out)).mono ?_
            rintro e W3 ⟨rfl, h3⟩
            replace hB := below_seq hB h3
            clear h3
            go_wp2_with fail
            refine (own06Get _ _ (by unfold maxLen; omega)).mono ?_
            rintro e W4 ⟨rfl, h4⟩
            replace hB := below_seq hB h4
            clear h4
            go_wp2_with fail
            refine (calls_as (own06PutN _ hg _ _) (val_str HS.out)).mono ?_
            rintro e W5 ⟨rfl, h5⟩
            replace hB := below_seq hB h5
            clear h5
            go_wp2
            go_ret
            exact ⟨rfl, hB⟩
          · have f3 : ((n.toNat % 16777216 : Nat) : Int) ≠ (n.toNat : Int) := by omega
            rw [← HG.out] at f3
            replace f3 : (((getB x : Nat) : Int) == (n.toNat : Int)) = false := beq_eq_false_iff_ne.2 f3
            have f4 : ((n.toNat : Int) / 16777216 == 0) = false := beq_eq_false_iff_ne.2 (by omega)
            clear hn hv HG
            go_enter Try.func4, Try.ntmps4
            go_wp2_with fail
            refine (shown06 _).mono ?_
            rintro e W1 ⟨rfl, hB⟩
            go_wp2_with fail
            refine (calls_as (own06Put _ _ _) (val_str HX.out)).mono ?_
            rintro e W2 ⟨rfl, h2⟩
            replace hB := below_seq hB h2
            clear h2
            go_wp2_with fail
            refine (calls_as (own06Get _ _ hzm) (val_int rfl)).mono ?_
            rintro e W3 ⟨rfl, h3⟩
            replace hB := below_seq hB h3
            clear h3
            go_wp2_with fail
            refine (own06Get _ _ (by unfold maxLen; omega)).mono ?_
            rintro e W4 ⟨rfl, h4⟩
            replace hB := below_seq hB h4
            clear h4
            go_wp2_with fail
            refine (calls_as (own06PutN _ hg _ _) (val_str HS.out)).mono ?_
            rintro e W5 ⟨rfl, h5⟩
            replace hB := below_seq hB h5
            clear h5
            go_wp2
            go_ret
            exact ⟨rfl, hB⟩
        · have hz : ((putB n.toNat 4).size : Int) = 4 := by rw [putB_size]; rfl
          have hzm : (putB n.toNat 4).size ≤ maxLen := by unfold maxLen; omega
          have HG := Lib.hid (show getB (putB n.toNat 4) = n.toNat % 4294967296 from getB_putB (n := n.toNat) (w := 4) (by decide))
          generalize hx : putB n.toNat 4 = x at *
          have HX := Lib.hid hx
          clear hx
          have f0 : ((x.size : Int) == 4) = true := beq_iff_eq.2 hz
          clear hz c2 c4
          by_cases hv : n.toNat < 4294967296
          · have HE := Lib.hid (show ((getB x : Nat) : Int) = (n.toNat : Int) from by rw [HG.out]; omega)
            have f3 : ((n.toNat : Int) == (n.toNat : Int)) = true := beq_self_eq_true _
            have f4 : ((n.toNat : Int) / 4294967296 == 0) = true := beq_iff_eq.2 (by omega)
            clear hn hv
            go_enter Try.func4, Try.ntmps4
            go_wp2_with fail
            refine (shown06 _).mono ?_
            rintro e W1 ⟨rfl, hB⟩
            go_wp2_with fail
            refine (calls_as (own06Put _ _ _) (val_str HX.out)).mono ?_
            rintro e W2 ⟨rfl, h2⟩
            replace hB := below_seq hB h2
            clear h2
            go_wp2_with fail
            refine (calls_as (own06Get _ _ hzm) (val_int HE.out)).mono ?_
            rintro e W3 ⟨rfl, h3⟩
            replace hB := below_seq hB h3
            clear h3
            go_wp2_with fail
            refine (own06Get _ _ (by unfold maxLen; omega)).mono ?_
            rintro e W4 ⟨rfl, h4⟩
            replace hB := below_seq hB h4
            clear h4
            go_wp2_with fail
            refine (calls_as (own06PutN _ hg _ _) (val_str HS.out)).mono ?_
            rintro e W5 ⟨rfl, h5⟩
            replace hB := below_seq hB h5
            clear h5
            go_wp2
            go_ret
            exact ⟨rfl, hB⟩
          · have f3 : ((n.toNat % 4294967296 : Nat) : Int) ≠ (n.toNat : Int) := by omega
            rw [← HG.out] at f3
            replace f3 : (((getB x : Nat) : Int) == (n.toNat : Int)) = false := beq_eq_false_iff_ne.2 f3
            have f4 : ((n.toNat : Int) / 4294967296 == 0) = false := beq_eq_false_iff_ne.2 (by omega)
            clear hn hv HG
            go_enter Try.func4, Try.ntmps4
            go_wp2_with fail
            refine (shown06 _).mono ?_
            rintro e W1 ⟨rfl, hB⟩
            go_wp2_with fail
            refine (calls_as (own06Put _ _ _) (val_str HX.out)).mono ?_
            rintro e W2 ⟨rfl, h2⟩
            replace hB := below_seq hB h2
            clear h2
            go_wp2_with fail
            refine (calls_as (own06Get _ _ hzm) (val_int rfl)).mono ?_
            rintro e W3 ⟨rfl, h3⟩
            replace hB := below_seq hB h3
            clear h3
            go_wp2_with fail
            refine (own06Get _ _ (by unfold maxLen; omega)).mono ?_
            rintro e W4 ⟨rfl, h4⟩
            replace hB := below_seq hB h4
            clear h4
            go_wp2_with fail
            refine (calls_as (own06PutN _ hg _ _) (val_str HS.out)).mono ?_
            rintro e W5 ⟨rfl, h5⟩
            replace hB := below_seq hB h5
            clear h5
            go_wp2
            go_ret
            exact ⟨rfl, hB⟩
        · have hz : ((putB n.toNat 5).size : Int) = 5 := by rw [putB_size]; rfl
          have hzm : (putB n.toNat 5).size ≤ maxLen := by unfold maxLen; omega
          have HG := Lib.hid (show getB (putB n.toNat 5) = n.toNat % 1099511627776 from getB_putB (n := n.toNat) (w := 5) (by decide))
          generalize hx : putB n.toNat 5 = x at *
          have HX := Lib.hid hx
          clear hx
          have f0 : ((x.size : Int) == 5) = true := beq_iff_eq.2 hz
          clear hz c2 c4
          by_cases hv : n.toNat < 1099511627776
          · have HE := Lib.hid (show ((getB x : Nat) : Int) = (n.toNat : Int) from by rw [HG.out]; omega)
            have f3 : ((n.toNat : Int) == (n.toNat : Int)) = true := beq_self_eq_true _
            have f4 : ((n.toNat : Int) / 1099511627776 == 0) = true := beq_iff_eq.2 (by omega)
            clear hn hv
            go_enter Try.func4, Try.ntmps4
            go_wp2_with fail
            refine (shown06 _).mono ?_
            rintro e W1 ⟨rfl, hB⟩
            go_wp2_with fail
            refine (calls_as (own06Put _ _ _) (val_str HX.out)).mono ?_
            rintro e W2 ⟨rfl, h2⟩
            replace hB := below_seq hB h2
            clear h2
            go_wp2_with fail
            refine (calls_as (own06Get _ _ hzm) (val_int HE.out)).mono ?_
            rintro e W3 ⟨rfl, h3⟩
            replace hB := below_seq hB h3
            clear h3
            go_wp2_with fail
            refine (own06Get _ _ (by unfold maxLen; omega)).mono ?_
            rintro e W4 ⟨rfl, h4⟩
            replace hB := below_seq hB h4
            clear h4
            go_wp2_with fail
            refine (calls_as (own06PutN _ hg _ _) (val_str HS.out)).mono ?_
            rintro e W5 ⟨rfl, h5⟩
            replace hB := below_seq hB h5
            clear h5
            go_wp2
            go_ret
            exact ⟨rfl, hB⟩
          · have f3 : ((n.toNat % 1099511627776 : Nat) : Int) ≠ (n.toNat : Int) := by omega
            rw [← HG.out] at f3
            replace f3 : (((getB x : Nat) : Int) == (n.toNat : Int)) = false := beq_eq_false_iff_ne.2 f3
            have f4 : ((n.toNat : Int) / 1099511627776 == 0) = false := beq_eq_false_iff_ne.2 (by omega)
            clear hn hv HG
            go_enter Try.func4, Try.ntmps4
            go_wp2_with fail
            refine (shown06 _).mono ?_
            rintro e W1 ⟨rfl, hB⟩
            go_wp2_with fail
            refine (calls_as (own06Put _ _ _) (val_str HX.out)).mono ?_
            rintro e W2 ⟨rfl, h2⟩
            replace hB := below_seq hB h2
            clear h2
            go_wp2_with fail
            refine (calls_as (own06Get _ _ hzm) (val_int rfl)).mono ?_
            rintro e W3 ⟨rfl, h3⟩
            replace hB := below_seq hB h3
            clear h3
            go_wp2_with fail
            refine (own06Get _ _ (by unfold maxLen; omega)).mono ?_
            rintro e W4 ⟨rfl, h4⟩
            replace hB := below_seq hB h4
            clear h4
            go_wp2_with fail
            refine (calls_as (own06PutN _ hg _ _) (val_str HS.out)).mono ?_
            rintro e W5 ⟨rfl, h5⟩
            replace hB := below_seq hB h5
            clear h5
            go_wp2
            go_ret
            exact ⟨rfl, hB⟩
        · have hz : ((putB n.toNat 6).size : Int) = 6 := by rw [putB_size]; rfl
          have hzm : (putB n.toNat 6).size ≤ maxLen := by unfold maxLen; omega
          have HG := Lib.hid (show getB (putB n.toNat 6) = n.toNat % 281474976710656 from getB_putB (n := n.toNat) (w := 6) (by decide))
          generalize hx : putB n.toNat 6 = x at *
          have HX := Lib.hid hx
          clear hx
          have f0 : ((x.size : Int) == 6) = true := beq_iff_eq.2 hz
          clear hz c2 c4
          by_cases hv : n.toNat < 281474976710656
          · have HE := Lib.hid (show ((getB x : Nat) : Int) = (n.toNat : Int) from by rw [HG.out]; omega)
            have f3 : ((n.toNat : Int) == (n.toNat : Int)) = true := beq_self_eq_true _
            have f4 : ((n.toNat : Int) / 281474976710656 == 0) = true := beq_iff_eq.2 (by omega)
            clear hn hv
            go_enter Try.func4, Try.ntmps4
            go_wp2_with fail
            refine (shown06 _).mono ?_
            rintro e W1 ⟨rfl, hB⟩
            go_wp2_with fail
            refine (calls_as (own06Put _ _ _) (val_str HX.out)).mono ?_
            rintro e W2 ⟨rfl, h2⟩
            replace hB := below_seq hB h2
            clear h2
            go_wp2_with fail
            refine (calls_as (own06Get _ _ hzm) (val_int HE.out)).mono ?_
            rintro e W3 ⟨rfl, h3⟩
            replace hB := below_seq hB h3
            clear h3
            go_wp2_with fail
            refine (own06Get _ _ (by unfold maxLen; omega)).mono ?_
            rintro e W4 ⟨rfl, h4⟩
            replace hB := below_seq hB h4
            clear h4
            go_wp2_with fail
            refine (calls_as (own06PutN _ hg _ _) (val_str HS.out)).mono ?_
            rintro e W5 ⟨rfl, h5⟩
            replace hB := below_seq hB h5
            clear h5
            go_wp2
            go_ret
            exact ⟨rfl, hB⟩
          · have f3 : ((n.toNat % 281474976710656 : Nat) : Int) ≠ (n.toNat : Int) := by omega
            rw [← HG.out] at f3
            replace f3 : (((getB x : Nat) : Int) == (n.toNat : Int)) = false := beq_eq_false_iff_ne.2 f3
            have f4 : ((n.toNat : Int) / 281474976710656 == 0) = false := beq_eq_false_iff_ne.2 (by omega)
            clear hn hv HG
            go_enter Try.func4, Try.ntmps4
            go_wp2_with fail
            refine (shown06 _).mono ?_
            rintro e W1 ⟨rfl, hB⟩
            go_wp2_with fail
            refine (calls_as (own06Put _ _ _) (val_str HX.out)).mono ?_
            rintro e W2 ⟨rfl, h2⟩
            replace hB := below_seq hB h2
            clear h2
            go_wp2_with fail
            refine (calls_as (own06Get _ _ hzm) (val_int rfl)).mono ?_
            rintro e W3 ⟨rfl, h3⟩
            replace hB := below_seq hB h3
            clear h3
            go_wp2_with fail
            refine (own06Get _ _ (by unfold maxLen; omega)).mono ?_
            rintro e W4 ⟨rfl, h4⟩
            replace hB := below_seq hB h4
            clear h4
            go_wp2_with fail
            refine (calls_as (own06PutN _ hg _ _) (val_str HS.out)).mono ?_
            rintro e W5 ⟨rfl, h5⟩
            replace hB := below_seq hB h5
            clear h5
            go_wp2
            go_ret
            exact ⟨rfl, hB⟩
        · have hz : ((putB n.toNat 7).size : Int) = 7 := by rw [putB_size]; rfl
          have hzm : (putB n.toNat 7).size ≤ maxLen := by unfold maxLen; omega
          have HG := Lib.hid (show getB (putB n.toNat 7) = n.toNat % 72057594037927936 from getB_putB (n := n.toNat) (w := 7) (by decide))
          generalize hx : putB n.toNat 7 = x at *
          have HX := Lib.hid hx
          clear hx
          have f0 : ((x.size : Int) == 7) = true := beq_iff_eq.2 hz
          clear hz c2 c4
          by_cases hv : n.toNat < 72057594037927936
          · have HE := Lib.hid (show ((getB x : Nat) : Int) = (n.toNat : Int) from by rw [HG.out]; omega)
            have f3 : ((n.toNat : Int) == (n.toNat : Int)) = true := beq_self_eq_true _
            have f4 : ((n.toNat : Int) / 72057594037927936 == 0) = true := beq_iff_eq.2 (by omega)
            clear hn hv
            go_enter Try.func4, Try.ntmps4
            go_wp2_with fail
            refine (shown06 _).mono ?_
            rintro e W1 ⟨rfl, hB⟩
            go_wp2_with fail
            refine (calls_as (own06Put _ _ _) (val_str HX.out)).mono ?_
            rintro e W2 ⟨rfl, h2⟩
            replace hB := below_seq hB h2
            clear h2
            go_wp2_with fail
            refine (calls_as (own06Get _ _ hzm) (val_int HE.out)).mono ?_
            rintro e W3 ⟨rfl, h3⟩
            replace hB := below_seq hB h3
            clear h3
            go_wp2_with fail
            refine (own06Get _ _ (by unfold maxLen; omega)).mono ?_
            rintro e W4 ⟨rfl, h4⟩
            replace hB := below_seq hB h4
            clear h4
            go_wp2_with fail
            refine (calls_as (own06PutN _ hg _ _) (val_str HS.out)).mono ?_
            rintro e W5 ⟨rfl, h5⟩
            replace hB := below_seq hB h5
            clear h5
            go_wp2
            go_ret
            exact ⟨rfl, hB⟩
          · have f3 : ((n.toNat % 72057594037927936 : Nat) : Int) ≠ (n.toNat : Int) := by omega
            rw [← HG.out] at f3
            replace f3 : (((getB x : Nat) : Int) == (n.toNat : Int)) = false := beq_eq_false_iff_ne.2 f3
            have f4 : ((n.toNat : Int) / 72057594037927936 == 0) = false := beq_eq_false_iff_ne.2 (by omega)
            clear hn hv HG
            go_enter Try.func4, Try.ntmps4
            go_wp2_with fail
            refine (shown06 _).mono ?_
            rintro e W1 ⟨rfl, hB⟩
            go_wp2_with fail
            refine (calls_as (own06Put _ _ _) (val_str HX.out)).mono ?_
            rintro e W2 ⟨rfl, h2⟩
            replace hB := below_seq hB h2
            clear h2
            go_wp2_with fail
            refine (calls_as (own06Get _ _ hzm) (val_int rfl)).mono ?_
            rintro e W3 ⟨rfl, h3⟩
            replace hB := below_seq hB h3
            clear h3
            go_wp2_with fail
            refine (own06Get _ _ (by unfold maxLen; omega)).mono ?_
            rintro e W4 ⟨rfl, h4⟩
            replace hB := below_seq hB h4
            clear h4
            go_wp2_with fail
            refine (calls_as (own06PutN _ hg _ _) (val_str HS.out)).mono ?_
            rintro e W5 ⟨rfl, h5⟩
            replace hB := below_seq hB h5
            clear h5
            go_wp2
            go_ret
            exact ⟨rfl, hB⟩
        · have hz : ((putB n.toNat 8).size : Int) = 8 := by rw [putB_size]; rfl
          have hzm : (putB n.toNat 8).size ≤ maxLen := by unfold maxLen; omega
          have HG := Lib.hid (show getB (putB n.toNat 8) = n.toNat % 18446744073709551616 from getB_putB (n := n.toNat) (w := 8) (by decide))
          generalize hx : putB n.toNat 8 = x at *
          have HX := Lib.hid hx
          clear hx
          have f0 : ((x.size : Int) == 8) = true := beq_iff_eq.2 hz
          clear hz c2 c4
          have HE := Lib.hid (show ((getB x : Nat) : Int) = (n.toNat : Int) from by rw [HG.out]; omega)
          have f3 : ((n.toNat : Int) == (n.toNat : Int)) = true := beq_self_eq_true _
          clear hn
          go_enter Try.func4, Try.ntmps4
          go_wp2_with fail
          refine (shown06 _).mono ?_
          rintro e W1 ⟨rfl, hB⟩
          go_wp2_with fail
          refine (calls_as (own06Put _ _ _) (val_str HX.out)).mono ?_
          rintro e W2 ⟨rfl, h2⟩
          replace hB := below_seq hB h2
          clear h2
          go_wp2_with fail
          refine (calls_as (own06Get _ _ hzm) (val_int HE.out)).mono ?_
          rintro e W3 ⟨rfl, h3⟩
          replace hB := below_seq hB h3
          clear h3
          go_wp2_with fail
          refine (own06Get _ _ (by unfold maxLen; omega)).mono ?_
          rintro e W4 ⟨rfl, h4⟩
          replace hB := below_seq hB h4
          clear h4
          go_wp2_with fail
          refine (calls_as (own06PutN _ hg _ _) (val_str HS.out)).mono ?_
          rintro e W5 ⟨rfl, h5⟩
          replace hB := below_seq hB h5
          clear h5
          go_wp2
          go_ret
          exact ⟨rfl, hB⟩

theorem own : ownKnob Try.prog.godebug = none := by kernel_rfl

set_option maxRecDepth 100000 in
theorem lifted (os : Os) (started : os.Started) (H : Type) (enc : TypeId × Value → H) :
    ReturnsInHanded {} Try.checked os 4 .any (Rows.fieldBackSpec.pre6 enc Try.prog Try.f4 Rows.fieldBackRow.domain false) (Rows.fieldBackSpec.post enc Try.prog Try.f4 false true false false) := by
  refine returnsInHanded_of_change (C := Try.checked) own started (by kernel_rfl) Try.func4
    (ChangeSpec.witness6 (enc := enc) (C := Try.checked) false ⟨#[], #[.int .u64 0, .int .i64 0, .string ⟨#[]⟩], []⟩ 8 (by kernel_rfl) (by kernel_rfl) (by kernel_rfl) (by kernel_rfl)) ?_
  intro W base args ds gs before hval hW _ _
  have hW' := hW
  obtain ⟨p, q, hA0, hV, rfl, hfz, hnd⟩ := hW
  have hA : DataW.TrodAll enc Try.prog W 0 (fun _ => true) true Try.f4.params.toList args.toList ds p := hA0
  rw [Try.params4] at hA hval
  obtain ⟨v0, vs0, d0, ds0, p0, q0, hargs, rfl, rfl, h0, r0⟩ := trodAll_cons hA
  obtain ⟨v1, vs1, d1, ds1, p1, q1, rfl, rfl, rfl, h1, r1⟩ := trodAll_cons r0
  obtain ⟨v2, vs2, d2, ds2, p2, q2, rfl, rfl, rfl, h2, r2⟩ := trodAll_cons r1
  obtain ⟨rfl, rfl, rfl⟩ := trodAll_nil r2
  obtain rfl : args = #[v0, v1, v2] := by cases args; simp_all
  obtain ⟨rfl, rfl⟩ := trodVars_none hV
  obtain ⟨a0, rfl, rfl, rfl, w0⟩ := open_int Try.underlying26 (hval 0 26 v0 rfl rfl) h0
  obtain ⟨c0, rfl⟩ := int_u64 w0
  obtain ⟨a1, rfl, rfl, rfl, w1⟩ := open_int Try.underlying3 (hval 1 3 v1 rfl rfl) h1
  obtain ⟨s2, rfl, rfl, rfl, hs2⟩ := open_string Try.underlying9 (hval 2 9 v2 rfl rfl) h2
  clear hA0
  simp only [List.append_nil] at hW'
  refine (walk c0 a1 s2 W (int_i64 w1) hs2).mono fun e W' ⟨he, hB⟩ => ?_
  subst he
  exact ⟨_, rfl, ⟨_, _, _, [], _, [], hW', trodAll_cons_mk (shut_bool Try.underlying4 _) trodAll_mk0, (trodAll_cons_mk (shut_int Try.underlying26 w0) (trodAll_cons_mk (shut_int Try.underlying3 w1) (trodAll_cons_mk (shut_string Try.underlying9 hs2) trodAll_mk0))), rfl, hB.frame _, fun h => by cases h⟩⟩

theorem holds : Rows.FieldBackSaid :=
  OpenClaim.holds_of_wide 4 Try.f4 rfl rfl rfl rfl rfl rfl rfl ⟨rfl, rfl, rfl, rfl, rfl⟩ rfl rfl rfl rfl rfl (by kernel_rfl) Try.func4 (by kernel_rfl)
    (of_decide_eq_true (by kernel_rfl)) (by unfold Func.isWrapper; first | (rw [if_pos (by decide +kernel)]; kernel_rfl) | (rw [if_neg (by decide +kernel)]; exact ⟨rfl, rfl⟩))
    (fun os started H enc _ => lifted os started H enc)
end Go.Proofs.Ytoemjfjmpmngeac.FieldBack

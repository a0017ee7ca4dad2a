/- The laws' own helper of layer 6: a contract only. -/
import Derived.Test.YtoemjfjmpmngeacFieldOwn
namespace Go.Proofs.Ytoemjfjmpmngeac
open Go.RowKit
set_option linter.unusedVariables false

theorem own06PutN (n : Nat) (hn : n < 18446744073709551616) (w : Int) (W : World) : Calls Try.prog 19 #[.int .u64 (n : Int), .int .i64 w] W fun e W' => e = .returned (.string (putB n w)) ∧ Below W.heap.size W W' := by
  have h := own06Put (BitVec.ofNat 64 n) w W
  rwa [BitVec.toNat_ofNat, Nat.mod_eq_of_lt hn] at h

theorem own06SignedN (n : Nat) (hn : n < 18446744073709551616) (w : Int) (W : World) : Calls Try.prog 22 #[.int .u64 (n : Int), .int .i64 w] W fun e W' => e = .returned (.int .i64 (signedI n w)) ∧ Below W.heap.size W W' := by
  have h := own06Signed (BitVec.ofNat 64 n) w W
  rwa [BitVec.toNat_ofNat, Nat.mod_eq_of_lt hn] at h

theorem own06PutI (n : Int) (w : Int) (W : World) : Calls Try.prog 19 #[.int .u64 (n % 18446744073709551616), .int .i64 w] W fun e W' => e = .returned (.string (putB (u64N n) w)) ∧ Below W.heap.size W W' := by
  have h := own06PutN (u64N n) (u64N_lt n) w W
  rwa [u64N_cast] at h

theorem own06PutJ (n : Int) (h0 : 0 ≤ n) (h1 : n < 18446744073709551616) (w : Int) (W : World) : Calls Try.prog 19 #[.int .u64 n, .int .i64 w] W fun e W' => e = .returned (.string (putB (u64N n) w)) ∧ Below W.heap.size W W' := by
  have h := own06PutN (u64N n) (u64N_lt n) w W
  rwa [u64N_cast, Int.emod_eq_of_lt h0 h1] at h

set_option maxRecDepth 100000 in
set_option maxHeartbeats 2000000 in
theorem shown06 (W : World) : Calls Try.prog 18 #[] W fun e W' => e = .returned (.bool true) ∧ Below W.heap.size W W' := by
  have T1 := Lib.hid (show putB 258 3 = ⟨#[0, 1, 2]⟩ from by kernel_rfl)
  have T2 := Lib.hid (show ((getB ⟨#[1, 2]⟩ : Nat) : Int) = 258 from by kernel_rfl)
  have T3 := Lib.hid (show ((fAt ⟨#[120, 1, 2]⟩ 1 2 : Nat) : Int) = 258 from by kernel_rfl)
  have T4 := Lib.hid (show signedI 255 1 = -1 from by kernel_rfl)
  have T5 := Lib.hid (show wideB (-128) 1 = true from by kernel_rfl)
  have T6 := Lib.hid (show wideB 128 1 = false from by kernel_rfl)
  have T7 := Lib.hid (show ((fAt ⟨#[120]⟩ 1 1 : Nat) : Int) = 0 from by kernel_rfl)
  go_enter Try.func18, Try.ntmps18
  go_wp2_with fail
  refine (calls_as (own06PutN 258 (by decide) 3 _) (val_str T1.out)).mono ?_
  rintro e W1 ⟨rfl, hB⟩
  go_wp2_with fail
  refine (calls_as (own06Get _ _ (by decide)) (val_int T2.out)).mono ?_
  rintro e W2 ⟨rfl, h2⟩
  replace hB := below_seq hB h2
  clear h2
  go_wp2_with fail
  refine (calls_as (own06At _ _ _ _ (by decide)) (val_int T3.out)).mono ?_
  rintro e W3 ⟨rfl, h3⟩
  replace hB := below_seq hB h3
  clear h3
  go_wp2_with fail
  refine (calls_as (own06SignedN 255 (by decide) 1 _) (val_int T4.out)).mono ?_
  rintro e W4 ⟨rfl, h4⟩
  replace hB := below_seq hB h4
  clear h4
  go_wp2_with fail
  refine (calls_as (own06Wide _ _ _) (val_bool T5.out)).mono ?_
  rintro e W5 ⟨rfl, h5⟩
  replace hB := below_seq hB h5
  clear h5
  go_wp2_with fail
  refine (calls_as (own06Wide _ _ _) (val_bool T6.out)).mono ?_
  rintro e W6 ⟨rfl, h6⟩
  replace hB := below_seq hB h6
  clear h6
  go_wp2_with fail
  refine (calls_as (own06At _ _ _ _ (by decide)) (val_int T7.out)).mono ?_
  rintro e W7 ⟨rfl, h7⟩
  replace hB := below_seq hB h7
  clear h7
  go_wp2
  go_ret
  exact ⟨rfl, hB⟩
end Go.Proofs.Ytoemjfjmpmngeac

/- The program's Unpack and Sound: contracts only. -/
import Derived.Test.YtdfacpppmfoiiaaStateOwnB
import Derived.WalkKit
import Derived.ProofKit
import Derived.OpenShut
import Derived.ChangeMaps5
import Derived.Carry
import Derived.OwnWalk
import Derived.Lib.Hide
import Derived.Deep.RegionHeld3
import Derived.BigQuiet
import Derived.Deep.QuietTactic
import Derived.Deep.CutRange
import Derived.WalkLawsBesides
import Derived.WalkSpells
import Derived.IntWalk
namespace Go.Proofs.Ytdfacpppmfoiiaa
open Go.RowKit
set_option linter.unusedVariables false
set_option linter.unusedSimpArgs false

theorem u64_andk (x k m : Nat) (hx : x < 18446744073709551616) (hk : m = 2 ^ k - 1) (hm : m < 18446744073709551616) : bits .and .u64 (x : Int) (m : Int) = ((x % 2 ^ k : Nat) : Int) := by
  rw [u64_and_nat x m hx hm, hk, Nat.and_two_pow_sub_one_eq_mod]

theorem signed3 (n : Nat) : signedI n 3 = ext24 (n % 16777216) := by
  unfold signedI ext24
  rw [if_neg (by decide), show clampW 3 = 3 from rfl, show (256 : Nat) ^ 3 = 16777216 from rfl]
  by_cases c : n % 16777216 < 8388608
  · rw [if_pos c, if_pos (by omega)]
  · rw [if_neg c, if_neg (by omega)]; rfl

set_option maxRecDepth 100000 in
set_option maxHeartbeats 8000000 in
theorem ones64_0 (W : World) : Calls Try.prog 49 #[.int .u64 0] W fun e W' => e = .returned (.int .i64 0) ∧ W' = W := by
  have m0 : bits .and .u64 0 6148914691236517205 = 0 := by decide
  have m1 : IntKind.u64.wrap 0 = 0 := by decide
  have m2 : bits .and .u64 0 3689348814741910323 = 0 := by decide
  have m3 : bits .and .u64 0 1085102592571150095 = 0 := by decide
  have m4 : IntKind.i64.wrap 0 = 0 := by decide
  have m5 : bits .and .i64 0 127 = 0 := by decide
  go_enter Try.func49, Try.ntmps49
  go_wp2
  go_ret
  exact ⟨rfl, rfl⟩

set_option maxRecDepth 100000 in
set_option maxHeartbeats 8000000 in
theorem ones64_1 (W : World) : Calls Try.prog 49 #[.int .u64 1] W fun e W' => e = .returned (.int .i64 1) ∧ W' = W := by
  have m0 : bits .and .u64 0 6148914691236517205 = 0 := by decide
  have m1 : bits .and .u64 1 6148914691236517205 = 1 := by decide
  have m2 : IntKind.u64.wrap 1 = 1 := by decide
  have m3 : bits .and .u64 0 3689348814741910323 = 0 := by decide
  have m4 : bits .and .u64 1 3689348814741910323 = 1 := by decide
  have m5 : bits .and .u64 1 1085102592571150095 = 1 := by decide
  have m6 : IntKind.i64.wrap 1 = 1 := by decide
  have m7 : bits .and .i64 1 127 = 1 := by decide
  go_enter Try.func49, Try.ntmps49
  go_wp2
  go_ret
  exact ⟨rfl, rfl⟩

set_option maxRecDepth 100000 in
set_option maxHeartbeats 8000000 in
theorem ones64_2 (W : World) : Calls Try.prog 49 #[.int .u64 2] W fun e W' => e = .returned (.int .i64 1) ∧ W' = W := by
  have m0 : bits .and .u64 1 6148914691236517205 = 1 := by decide
  have m1 : bits .and .u64 2 6148914691236517205 = 0 := by decide
  have m2 : IntKind.u64.wrap 1 = 1 := by decide
  have m3 : bits .and .u64 0 3689348814741910323 = 0 := by decide
  have m4 : bits .and .u64 1 3689348814741910323 = 1 := by decide
  have m5 : bits .and .u64 1 1085102592571150095 = 1 := by decide
  have m6 : IntKind.i64.wrap 1 = 1 := by decide
  have m7 : bits .and .i64 1 127 = 1 := by decide
  go_enter Try.func49, Try.ntmps49
  go_wp2
  go_ret
  exact ⟨rfl, rfl⟩

set_option maxRecDepth 100000 in
set_option maxHeartbeats 8000000 in
theorem ones64_3 (W : World) : Calls Try.prog 49 #[.int .u64 3] W fun e W' => e = .returned (.int .i64 2) ∧ W' = W := by
  have m0 : bits .and .u64 1 6148914691236517205 = 1 := by decide
  have m1 : bits .and .u64 3 6148914691236517205 = 1 := by decide
  have m2 : IntKind.u64.wrap 2 = 2 := by decide
  have m3 : bits .and .u64 0 3689348814741910323 = 0 := by decide
  have m4 : bits .and .u64 2 3689348814741910323 = 2 := by decide
  have m5 : bits .and .u64 2 1085102592571150095 = 2 := by decide
  have m6 : IntKind.i64.wrap 2 = 2 := by decide
  have m7 : bits .and .i64 2 127 = 2 := by decide
  go_enter Try.func49, Try.ntmps49
  go_wp2
  go_ret
  exact ⟨rfl, rfl⟩

set_option maxRecDepth 100000 in
set_option maxHeartbeats 8000000 in
theorem ones64_4 (W : World) : Calls Try.prog 49 #[.int .u64 4] W fun e W' => e = .returned (.int .i64 1) ∧ W' = W := by
  have m0 : bits .and .u64 2 6148914691236517205 = 0 := by decide
  have m1 : bits .and .u64 4 6148914691236517205 = 4 := by decide
  have m2 : IntKind.u64.wrap 4 = 4 := by decide
  have m3 : bits .and .u64 1 3689348814741910323 = 1 := by decide
  have m4 : bits .and .u64 4 3689348814741910323 = 0 := by decide
  have m5 : IntKind.u64.wrap 1 = 1 := by decide
  have m6 : bits .and .u64 1 1085102592571150095 = 1 := by decide
  have m7 : IntKind.i64.wrap 1 = 1 := by decide
  have m8 : bits .and .i64 1 127 = 1 := by decide
  go_enter Try.func49, Try.ntmps49
  go_wp2
  go_ret
  exact ⟨rfl, rfl⟩

set_option maxRecDepth 100000 in
set_option maxHeartbeats 8000000 in
theorem ones64_5 (W : World) : Calls Try.prog 49 #[.int .u64 5] W fun e W' => e = .returned (.int .i64 2) ∧ W' = W := by
  have m0 : bits .and .u64 2 6148914691236517205 = 0 := by decide
  have m1 : bits .and .u64 5 6148914691236517205 = 5 := by decide
  have m2 : IntKind.u64.wrap 5 = 5 := by decide
  have m3 : bits .and .u64 1 3689348814741910323 = 1 := by decide
  have m4 : bits .and .u64 5 3689348814741910323 = 1 := by decide
  have m5 : IntKind.u64.wrap 2 = 2 := by decide
  have m6 : bits .and .u64 2 1085102592571150095 = 2 := by decide
  have m7 : IntKind.i64.wrap 2 = 2 := by decide
  have m8 : bits .and .i64 2 127 = 2 := by decide
  go_enter Try.func49, Try.ntmps49
  go_wp2
  go_ret
  exact ⟨rfl, rfl⟩

set_option maxRecDepth 100000 in
set_option maxHeartbeats 8000000 in
theorem ones64_6 (W : World) : Calls Try.prog 49 #[.int .u64 6] W fun e W' => e = .returned (.int .i64 2) ∧ W' = W := by
  have m0 : bits .and .u64 3 6148914691236517205 = 1 := by decide
  have m1 : bits .and .u64 6 6148914691236517205 = 4 := by decide
  have m2 : IntKind.u64.wrap 5 = 5 := by decide
  have m3 : bits .and .u64 1 3689348814741910323 = 1 := by decide
  have m4 : bits .and .u64 5 3689348814741910323 = 1 := by decide
  have m5 : IntKind.u64.wrap 2 = 2 := by decide
  have m6 : bits .and .u64 2 1085102592571150095 = 2 := by decide
  have m7 : IntKind.i64.wrap 2 = 2 := by decide
  have m8 : bits .and .i64 2 127 = 2 := by decide
  go_enter Try.func49, Try.ntmps49
  go_wp2
  go_ret
  exact ⟨rfl, rfl⟩

set_option maxRecDepth 100000 in
set_option maxHeartbeats 8000000 in
theorem ones64_7 (W : World) : Calls Try.prog 49 #[.int .u64 7] W fun e W' => e = .returned (.int .i64 3) ∧ W' = W := by
  have m0 : bits .and .u64 3 6148914691236517205 = 1 := by decide
  have m1 : bits .and .u64 7 6148914691236517205 = 5 := by decide
  have m2 : IntKind.u64.wrap 6 = 6 := by decide
  have m3 : bits .and .u64 1 3689348814741910323 = 1 := by decide
  have m4 : bits .and .u64 6 3689348814741910323 = 2 := by decide
  have m5 : IntKind.u64.wrap 3 = 3 := by decide
  have m6 : bits .and .u64 3 1085102592571150095 = 3 := by decide
  have m7 : IntKind.i64.wrap 3 = 3 := by decide
  have m8 : bits .and .i64 3 127 = 3 := by decide
  go_enter Try.func49, Try.ntmps49
  go_wp2
  go_ret
  exact ⟨rfl, rfl⟩

set_option maxRecDepth 100000 in
set_option maxHeartbeats 8000000 in
theorem ones64_8 (W : World) : Calls Try.prog 49 #[.int .u64 8] W fun e W' => e = .returned (.int .i64 1) ∧ W' = W := by
  have m0 : bits .and .u64 4 6148914691236517205 = 4 := by decide
  have m1 : bits .and .u64 8 6148914691236517205 = 0 := by decide
  have m2 : IntKind.u64.wrap 4 = 4 := by decide
  have m3 : bits .and .u64 1 3689348814741910323 = 1 := by decide
  have m4 : bits .and .u64 4 3689348814741910323 = 0 := by decide
  have m5 : IntKind.u64.wrap 1 = 1 := by decide
  have m6 : bits .and .u64 1 1085102592571150095 = 1 := by decide
  have m7 : IntKind.i64.wrap 1 = 1 := by decide
  have m8 : bits .and .i64 1 127 = 1 := by decide
  go_enter Try.func49, Try.ntmps49
  go_wp2
  go_ret
  exact ⟨rfl, rfl⟩

set_option maxRecDepth 100000 in
set_option maxHeartbeats 8000000 in
theorem ones64_9 (W : World) : Calls Try.prog 49 #[.int .u64 9] W fun e W' => e = .returned (.int .i64 2) ∧ W' = W := by
  have m0 : bits .and .u64 4 6148914691236517205 = 4 := by decide
  have m1 : bits .and .u64 9 6148914691236517205 = 1 := by decide
  have m2 : IntKind.u64.wrap 5 = 5 := by decide
  have m3 : bits .and .u64 1 3689348814741910323 = 1 := by decide
  have m4 : bits .and .u64 5 3689348814741910323 = 1 := by decide
  have m5 : IntKind.u64.wrap 2 = 2 := by decide
  have m6 : bits .and .u64 2 1085102592571150095 = 2 := by decide
  have m7 : IntKind.i64.wrap 2 = 2 := by decide
  have m8 : bits .and .i64 2 127 = 2 := by decide
  go_enter Try.func49, Try.ntmps49
  go_wp2
  go_ret
  exact ⟨rfl, rfl⟩

set_option maxRecDepth 100000 in
set_option maxHeartbeats 8000000 in
theorem ones64_10 (W : World) : Calls Try.prog 49 #[.int .u64 10] W fun e W' => e = .returned (.int .i64 2) ∧ W' = W := by
  have m0 : bits .and .u64 5 6148914691236517205 = 5 := by decide
  have m1 : bits .and .u64 10 6148914691236517205 = 0 := by decide
  have m2 : IntKind.u64.wrap 5 = 5 := by decide
  have m3 : bits .and .u64 1 3689348814741910323 = 1 := by decide
  have m4 : bits .and .u64 5 3689348814741910323 = 1 := by decide
  have m5 : IntKind.u64.wrap 2 = 2 := by decide
  have m6 : bits .and .u64 2 1085102592571150095 = 2 := by decide
  have m7 : IntKind.i64.wrap 2 = 2 := by decide
  have m8 : bits .and .i64 2 127 = 2 := by decide
  go_enter Try.func49, Try.ntmps49
  go_wp2
  go_ret
  exact ⟨rfl, rfl⟩

set_option maxRecDepth 100000 in
set_option maxHeartbeats 8000000 in
theorem ones64_11 (W : World) : Calls Try.prog 49 #[.int .u64 11] W fun e W' => e = .returned (.int .i64 3) ∧ W' = W := by
  have m0 : bits .and .u64 5 6148914691236517205 = 5 := by decide
  have m1 : bits .and .u64 11 6148914691236517205 = 1 := by decide
  have m2 : IntKind.u64.wrap 6 = 6 := by decide
  have m3 : bits .and .u64 1 3689348814741910323 = 1 := by decide
  have m4 : bits .and .u64 6 3689348814741910323 = 2 := by decide
  have m5 : IntKind.u64.wrap 3 = 3 := by decide
  have m6 : bits .and .u64 3 1085102592571150095 = 3 := by decide
  have m7 : IntKind.i64.wrap 3 = 3 := by decide
  have m8 : bits .and .i64 3 127 = 3 := by decide
  go_enter Try.func49, Try.ntmps49
  go_wp2
  go_ret
  exact ⟨rfl, rfl⟩

set_option maxRecDepth 100000 in
set_option maxHeartbeats 8000000 in
theorem ones64_12 (W : World) : Calls Try.prog 49 #[.int .u64 12] W fun e W' => e = .returned (.int .i64 2) ∧ W' = W := by
  have m0 : bits .and .u64 6 6148914691236517205 = 4 := by decide
  have m1 : bits .and .u64 12 6148914691236517205 = 4 := by decide
  have m2 : IntKind.u64.wrap 8 = 8 := by decide
  have m3 : bits .and .u64 2 3689348814741910323 = 2 := by decide
  have m4 : bits .and .u64 8 3689348814741910323 = 0 := by decide
  have m5 : IntKind.u64.wrap 2 = 2 := by decide
  have m6 : bits .and .u64 2 1085102592571150095 = 2 := by decide
  have m7 : IntKind.i64.wrap 2 = 2 := by decide
  have m8 : bits .and .i64 2 127 = 2 := by decide
  go_enter Try.func49, Try.ntmps49
  go_wp2
  go_ret
  exact ⟨rfl, rfl⟩

set_option maxRecDepth 100000 in
set_option maxHeartbeats 8000000 in
theorem ones64_13 (W : World) : Calls Try.prog 49 #[.int .u64 13] W fun e W' => e = .returned (.int .i64 3) ∧ W' = W := by
  have m0 : bits .and .u64 6 6148914691236517205 = 4 := by decide
  have m1 : bits .and .u64 13 6148914691236517205 = 5 := by decide
  have m2 : IntKind.u64.wrap 9 = 9 := by decide
  have m3 : bits .and .u64 2 3689348814741910323 = 2 := by decide
  have m4 : bits .and .u64 9 3689348814741910323 = 1 := by decide
  have m5 : IntKind.u64.wrap 3 = 3 := by decide
  have m6 : bits .and .u64 3 1085102592571150095 = 3 := by decide
  have m7 : IntKind.i64.wrap 3 = 3 := by decide
  have m8 : bits .and .i64 3 127 = 3 := by decide
  go_enter Try.func49, Try.ntmps49
  go_wp2
  go_ret
  exact ⟨rfl, rfl⟩

set_option maxRecDepth 100000 in
set_option maxHeartbeats 8000000 in
theorem ones64_14 (W : World) : Calls Try.prog 49 #[.int .u64 14] W fun e W' => e = .returned (.int .i64 3) ∧ W' = W := by
  have m0 : bits .and .u64 7 6148914691236517205 = 5 := by decide
  have m1 : bits .and .u64 14 6148914691236517205 = 4 := by decide
  have m2 : IntKind.u64.wrap 9 = 9 := by decide
  have m3 : bits .and .u64 2 3689348814741910323 = 2 := by decide
  have m4 : bits .and .u64 9 3689348814741910323 = 1 := by decide
  have m5 : IntKind.u64.wrap 3 = 3 := by decide
  have m6 : bits .and .u64 3 1085102592571150095 = 3 := by decide
  have m7 : IntKind.i64.wrap 3 = 3 := by decide
  have m8 : bits .and .i64 3 127 = 3 := by decide
  go_enter Try.func49, Try.ntmps49
  go_wp2
  go_ret
  exact ⟨rfl, rfl⟩

set_option maxRecDepth 100000 in
set_option maxHeartbeats 8000000 in
theorem ones64_15 (W : World) : Calls Try.prog 49 #[.int .u64 15] W fun e W' => e = .returned (.int .i64 4) ∧ W' = W := by
  have m0 : bits .and .u64 7 6148914691236517205 = 5 := by decide
  have m1 : bits .and .u64 15 6148914691236517205 = 5 := by decide
  have m2 : IntKind.u64.wrap 10 = 10 := by decide
  have m3 : bits .and .u64 2 3689348814741910323 = 2 := by decide
  have m4 : bits .and .u64 10 3689348814741910323 = 2 := by decide
  have m5 : IntKind.u64.wrap 4 = 4 := by decide
  have m6 : bits .and .u64 4 1085102592571150095 = 4 := by decide
  have m7 : IntKind.i64.wrap 4 = 4 := by decide
  have m8 : bits .and .i64 4 127 = 4 := by decide
  go_enter Try.func49, Try.ntmps49
  go_wp2
  go_ret
  exact ⟨rfl, rfl⟩

def onesN (k : Nat) : Nat := k % 2 + k / 2 % 2 + k / 4 % 2 + k / 8 % 2
theorem own64 (k : Nat) (hk : k < 16) (W : World) : Calls Try.prog 49 #[.int .u64 (k : Int)] W fun e W' => e = .returned (.int .i64 ((onesN k : Nat) : Int)) ∧ W' = W :=
  match k, hk with
  | 0, _ => ones64_0 W
  | 1, _ => ones64_1 W
  | 2, _ => ones64_2 W
  | 3, _ => ones64_3 W
  | 4, _ => ones64_4 W
  | 5, _ => ones64_5 W
  | 6, _ => ones64_6 W
  | 7, _ => ones64_7 W
  | 8, _ => ones64_8 W
  | 9, _ => ones64_9 W
  | 10, _ => ones64_10 W
  | 11, _ => ones64_11 W
  | 12, _ => ones64_12 W
  | 13, _ => ones64_13 W
  | 14, _ => ones64_14 W
  | 15, _ => ones64_15 W
  | k + 16, h => absurd h (by omega)

set_option maxRecDepth 100000 in
set_option maxHeartbeats 8000000 in
theorem ownOnes (k : Nat) (hk : k < 16) (W : World) : Calls Try.prog 44 #[.int .u64 (k : Int)] W fun e W' => e = .returned (.int .i64 ((onesN k : Nat) : Int)) ∧ W' = W := by
  have T := Lib.hid (fun (V : World) => own64 k hk V)
  clear hk
  go_enter Try.func44, Try.ntmps44
  go_wp2_with fail
  refine callQ (T.out _) ?_
  go_wp2
  go_ret
  exact ⟨rfl, rfl⟩

theorem sound_ones (v : Int) : ((soundN v : Nat) : Int) = 4 - ((onesN (v % 16).toNat : Nat) : Int) := by
  have e : ∀ k, bitZ v k = if v / 2 ^ k % 2 = 0 then 1 else 0 := fun k => rfl
  unfold soundN onesN
  rw [e, e, e, e]
  have e0 : v / 2 ^ 0 = v := by simp
  rw [e0]
  have h2 : (2 : Int) ^ 1 = 2 := rfl
  have h4 : (2 : Int) ^ 2 = 4 := rfl
  have h8 : (2 : Int) ^ 3 = 8 := rfl
  rw [h2, h4, h8]
  split <;> split <;> split <;> split <;> omega
theorem and15 (v : Int) : bits .and .u64 (IntKind.u64.wrap v) 15 = (((v % 16).toNat : Nat) : Int) := by
  have h1 := u64_andk (u64N v) 4 15 (u64N_lt v) rfl (by decide)
  rw [show u64N v % 2 ^ 4 = (v % 16).toNat from by unfold u64N; omega] at h1
  rw [u64_wrapO, ← u64N_cast]; exact h1

set_option maxRecDepth 100000 in
set_option maxHeartbeats 8000000 in
theorem own14Sound (s : St) (W : World) (hs : s.ok) : Gives Try.prog 37 #[.agg #[.int .i64 s.mode, .bool s.armed, .bool s.home, .int .i64 s.lat, .int .i64 s.lon, .int .i64 s.iso]] W (.int .i64 ((soundN s.iso : Nat) : Int)) := by
  have HS := sound_ones s.iso
  have h5 := sound_le s.iso
  have a1 := and15 s.iso
  have T := Lib.hid (fun (V : World) => ownOnes (s.iso % 16).toNat (by omega) V)
  rw [HS]
  generalize (s.iso % 16).toNat = x at *
  have w1 : IntKind.i64.wrap (4 - (onesN x : Int)) = 4 - (onesN x : Int) := IntWalk.i64_in _ (by omega)
  generalize onesN x = y at *
  clear HS h5 hs
  have st := Bs.in1 W 23 [.int .i64 s.mode, .bool s.armed, .bool s.home, .int .i64 s.lat, .int .i64 s.lon, .int .i64 s.iso]
  go_enter Try.func37, Try.ntmps37
  have fc0 := (st.box 0 rfl).f6
  go_wp2_with fail; refine callQ (T.out _) ?_
  clear fc0
  go_wp2; go_ret; exact ⟨rfl, st.lo⟩

end Go.Proofs.Ytdfacpppmfoiiaa

/- The laws' own helpers of layer 8: contracts only. -/
import Derived.Test.YtoemjfjmpmngeadRows
import Derived.Test.YtoemjfjmpmngeadBankPlain
import Derived.Test.YtoemjfjmpmngeadBox
import Derived.Test.YtoemjfjmpmngeadIntsAt
import Derived.WalkKit
import Derived.ProofKit
import Derived.Lib.Hide
import Derived.Test.YtoemjfjmpmngeadBankOwn
import Derived.Test.YtoemjfjmpmngeadRecLaw
import Derived.Deep.RegionHeld3
import Derived.WalkLawsBesides
import Derived.WalkSpells
import Derived.IntWalk
namespace Go.Proofs.Ytoemjfjmpmngead
open Go.RowKit
set_option linter.unusedVariables false
set_option linter.unusedSimpArgs false

theorem blankT_step (n : Nat) : blankT n ++ ⟨#[255]⟩ = blankT (n + 1) := by
  apply bl_inj; rw [bl_append, bl_blank, bl_blank, List.replicate_succ']; rfl

set_option maxRecDepth 100000 in
theorem lawBlank08 (n : Int) (W : World) (hn : n ≤ 140737488351232) : Calls Try.prog 17 #[.int .i64 n] W fun e W' => e = .returned (.string (blankT n.toNat)) ∧ W' = W := by
  go_enter Try.func17, Try.ntmps17
  go_wp2
  go_loop [3, 4] (fun v i => ∃ k : Nat, k ≤ n.toNat ∧ i = .int .i64 k ∧ v = .string (blankT k))
    (fun _ i => n.toNat - (intOf i).toNat)
  case atStart => exact ⟨0, Nat.zero_le _, rfl, rfl⟩
  case round =>
    obtain ⟨k, hk, rfl, rfl⟩ := hrel
    have hz := blankT_len k
    have hz2 : (blankT k).size ≤ 140737488351232 := by omega
    clear hz
    by_cases hlt : (k : Int) < n
    · have HP := Lib.hid (blankT_step k)
      go_wp2
      go_round
      case rel => exact ⟨k + 1, by omega, by go_num, by rw [← HP.out]⟩
      case measure => simp [intOf]; omega
    · have hkn := Lib.hid (show n.toNat = k from by omega)
      go_wp2
      go_ret
      exact ⟨by rw [hkn.out]; rfl, rfl⟩

def bank8 : ByteArray := ⟨#[165, 1, 0, 0, 0, 0, 0, 0, 0, 4, 0, 0, 0, 0, 0, 0, 0, 0, 84, 106, 134, 170, 90, 60, 165, 2, 0, 0, 0, 0, 0, 0, 0, 9, 0, 0, 0, 0, 0, 0, 0, 1, 17, 230, 84, 127, 90, 60, 255, 255, 255, 255, 255, 255, 255, 255, 255, 255, 255, 255, 255, 255, 255, 255, 255, 255, 255, 255, 255, 255, 255, 255]⟩
theorem bank8_size : bank8.size = 72 := by kernel_rfl
theorem bank8_is : ((⟨#[165, 1, 0, 0, 0, 0, 0, 0, 0, 4, 0, 0, 0, 0, 0, 0, 0, 0, 84, 106, 134, 170, 90, 60]⟩ : ByteArray) ++ ⟨#[165, 2, 0, 0, 0, 0, 0, 0, 0, 9, 0, 0, 0, 0, 0, 0, 0, 1, 17, 230, 84, 127, 90, 60]⟩) ++ blankT 24 = bank8 := by kernel_rfl
theorem bank8_gen : genE bank8 = 0 ∧ genN bank8 = 4 := ⟨by kernel_rfl, by kernel_rfl⟩
theorem bank8_states : statesL bank8 = [2, 0] := by kernel_rfl
theorem bank8_rec : decE (bl (slotT bank8 1)) = 0 ∧ decR (bl (slotT bank8 1)) = ⟨2, 9, 1⟩ := ⟨by kernel_rfl, by kernel_rfl⟩
theorem bank8_slot : slotT bank8 3 = ⟨#[]⟩ := by kernel_rfl
theorem bank8_state : stateF bank8 0 = 2 := by kernel_rfl
theorem bank8_none : genE (blankT 72) = 10 ∧ genN (blankT 72) = 0 := ⟨by kernel_rfl, by kernel_rfl⟩

set_option maxRecDepth 100000 in
set_option maxHeartbeats 4000000 in
theorem shown08 (W : World) : Calls Try.prog 16 #[] W fun e W' => e = .returned (.bool true) ∧ Below W.heap.size W W' := by
  have T1 := Lib.hid (fun (W : World) => (show Calls Try.prog 14 #[.agg #[.int .i64 1, .int .u64 4, .int .u64 0]] W fun e W' => e = .returned (.string ⟨#[165, 1, 0, 0, 0, 0, 0, 0, 0, 4, 0, 0, 0, 0, 0, 0, 0, 0, 84, 106, 134, 170, 90, 60]⟩) ∧ Below W.heap.size W W' from by
    have h := own07Encode ⟨1, 4, 0⟩ W ⟨by decide, by decide, by decide⟩
    rw [show bs (encL ⟨1, 4, 0⟩) = ⟨#[165, 1, 0, 0, 0, 0, 0, 0, 0, 4, 0, 0, 0, 0, 0, 0, 0, 0, 84, 106, 134, 170, 90, 60]⟩ from by kernel_rfl] at h; exact h))
  have T2 := Lib.hid (fun (W : World) => (show Calls Try.prog 14 #[.agg #[.int .i64 2, .int .u64 9, .int .u64 1]] W fun e W' => e = .returned (.string ⟨#[165, 2, 0, 0, 0, 0, 0, 0, 0, 9, 0, 0, 0, 0, 0, 0, 0, 1, 17, 230, 84, 127, 90, 60]⟩) ∧ Below W.heap.size W W' from by
    have h := own07Encode ⟨2, 9, 1⟩ W ⟨by decide, by decide, by decide⟩
    rw [show bs (encL ⟨2, 9, 1⟩) = ⟨#[165, 2, 0, 0, 0, 0, 0, 0, 0, 9, 0, 0, 0, 0, 0, 0, 0, 1, 17, 230, 84, 127, 90, 60]⟩ from by kernel_rfl] at h; exact h))
  have z1 : bank8.size ≤ maxLen := by rw [bank8_size]; decide
  have z2 : (blankT 72).size ≤ maxLen := by rw [blankT_len]; decide
  have T4 := Lib.hid (fun (W : World) => (show Calls Try.prog 20 #[.string bank8] W fun e W' => e = .returned (.tuple #[.int .u64 4, .int .i64 0]) ∧ Below W.heap.size W W' from by
    have h := own08Generation bank8 W z1
    rw [bank8_gen.1, bank8_gen.2] at h; exact h))
  have T5 := Lib.hid (fun (W : World) => (show Calls Try.prog 19 #[.string bank8] W fun e W' => ∃ A c, e = .returned (.slice A ([2, 0]).length c) ∧ IntsAt W' A ([2, 0]) ∧ Below W.heap.size W W' from by
    have h := own08States bank8 W z1
    rw [bank8_states] at h; exact h))
  have T6 := Lib.hid (fun (W : World) => (show Calls Try.prog 20 #[.string (blankT 72)] W fun e W' => e = .returned (.tuple #[.int .u64 0, .int .i64 10]) ∧ Below W.heap.size W W' from by
    have h := own08Generation (blankT 72) W z2
    rw [bank8_none.1, bank8_none.2] at h; exact h))
  have T7 := Lib.hid (fun (W : World) => (show Calls Try.prog 37 #[.string bank8, .int .i64 1] W fun e W' => e = .returned (.tuple #[.agg #[.int .i64 2, .int .u64 9, .int .u64 1], .int .i64 0]) ∧ Below W.heap.size W W' from by
    have h := own08Record bank8 1 W z1 ⟨by decide, by decide⟩
    rw [bank8_rec.1, bank8_rec.2] at h; exact h))
  have T8 := Lib.hid (fun (W : World) => (show Calls Try.prog 23 #[.string bank8, .int .i64 3] W fun e W' => e = .returned (.string ⟨#[]⟩) ∧ Below W.heap.size W W' from by
    have h := own08Slot bank8 3 W z1 ⟨by decide, by decide⟩
    rw [bank8_slot] at h; exact h))
  have T9 := Lib.hid (fun (W : World) => (show Calls Try.prog 22 #[.string bank8, .int .i64 0] W fun e W' => e = .returned (.int .i64 2) ∧ Below W.heap.size W W' from by
    have h := own08State bank8 0 W z1 ⟨by decide, by decide⟩
    rw [bank8_state] at h; exact h))
  have HS := bank8_is
  have LB24 := Lib.hid (fun (V : World) => (show Calls Try.prog 17 #[.int .i64 24] V fun e W' => e = .returned (.string (blankT 24)) ∧ W' = V from lawBlank08 24 V (by decide)))
  have LB72 := Lib.hid (fun (V : World) => (show Calls Try.prog 17 #[.int .i64 72] V fun e W' => e = .returned (.string (blankT 72)) ∧ W' = V from lawBlank08 72 V (by decide)))
  have q1 : (blankT 24).size = 24 := blankT_len 24
  clear z1 z2
  generalize bank8 = S at *
  have hB : Below W.heap.size W W := Below.refl _ _
  go_enter Try.func16, Try.ntmps16
  go_wp2_with fail
  refine (T1.out _).mono ?_
  rintro e V1 ⟨rfl, hk⟩
  replace hB := below_seq hB hk
  clear hk
  go_wp2_with fail
  refine (T2.out _).mono ?_
  rintro e V2 ⟨rfl, hk⟩
  replace hB := below_seq hB hk
  clear hk
  go_wp2_with fail
  refine (LB24.out _).mono ?_
  rintro e w' ⟨rfl, hw⟩
  rw [hw]
  clear hw w'
  go_wp2_with fail
  refine (T4.out _).mono ?_
  rintro e V3 ⟨rfl, hk⟩
  replace hB := below_seq hB hk
  clear hk
  go_wp2_with fail
  refine (T5.out _).mono ?_
  rintro e V9 ⟨A, c, rfl, hA, hk⟩
  replace hB := below_seq hB hk
  clear hk
  go_wp2_with fail
  refine (LB72.out _).mono ?_
  rintro e w' ⟨rfl, hw⟩
  rw [hw]
  clear hw w'
  go_wp2_with fail
  refine (T6.out _).mono ?_
  rintro e V4 ⟨rfl, hk⟩
  replace hB := below_seq hB hk
  replace hA := hA.seq hk
  clear hk
  go_wp2_with fail
  refine (T7.out _).mono ?_
  rintro e V5 ⟨rfl, hk⟩
  replace hB := below_seq hB hk
  replace hA := hA.seq hk
  clear hk
  have xr := Box.new 24 V5 [.int .i64 2, .int .u64 9, .int .u64 1]
  have le_xr : W.heap.size ≤ V5.heap.size := hB.size
  replace hA := hA.alloc (.cells #[.int .i64 2, .int .u64 9, .int .u64 1] 24)
  replace hB := hB.alloc hB.size (.cells #[.int .i64 2, .int .u64 9, .int .u64 1] 24)
  have xr0 := xr.cell 0 rfl
  have xrz0 := xr.frozen 0
  have xr1 := xr.cell 1 rfl
  have xrz1 := xr.frozen 1
  have xr2 := xr.cell 2 rfl
  have xrz2 := xr.frozen 2
  obtain ⟨g, off, rfl, y0⟩ := hA.at (k := 0) (v := 2) rfl
  obtain ⟨g2, off2, hgg, y1⟩ := hA.at (k := 1) (v := 0) rfl
  cases hgg
  simp only [Nat.add_zero] at y0
  go_wp2_with fail
  refine (T8.out _).mono ?_
  rintro e V6 ⟨rfl, hk⟩
  clear xr0 xrz0 xr1 xrz1 xr2 xrz2
  replace hB := below_seq hB hk
  replace xr := xr.seq hk
  replace hA := hA.seq hk
  clear hk
  have xr0 := xr.cell 0 rfl
  have xrz0 := xr.frozen 0
  have xr1 := xr.cell 1 rfl
  have xrz1 := xr.frozen 1
  have xr2 := xr.cell 2 rfl
  have xrz2 := xr.frozen 2
  have y2 := hA
  go_wp2_with fail
  refine (T9.out _).mono ?_
  rintro e V7 ⟨rfl, hk⟩
  clear xr0 xrz0 xr1 xrz1 xr2 xrz2
  replace hB := below_seq hB hk
  replace xr := xr.seq hk
  replace hA := hA.seq hk
  clear hk
  have xr0 := xr.cell 0 rfl
  have xrz0 := xr.frozen 0
  have xr1 := xr.cell 1 rfl
  have xrz1 := xr.frozen 1
  have xr2 := xr.cell 2 rfl
  have xrz2 := xr.frozen 2
  go_wp2
  go_ret
  exact ⟨rfl, hB⟩
end Go.Proofs.Ytoemjfjmpmngead

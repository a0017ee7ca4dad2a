/- The laws' own helpers of layer 9: contracts only. -/
import Derived.Test.YtoemjfjmpmngeadRows
import Derived.Test.YtoemjfjmpmngeadScanPlain
import Derived.Test.YtoemjfjmpmngeadBox
import Derived.Test.YtoemjfjmpmngeadIntsAt
import Derived.WalkKit
import Derived.ProofKit
import Derived.Lib.Hide
import Derived.Test.YtoemjfjmpmngeadScanOwn
import Derived.Test.YtoemjfjmpmngeadBankOwn
import Derived.Test.YtoemjfjmpmngeadRecLaw
import Derived.Deep.RegionHeld3
import Derived.WalkLawsBesides
import Derived.WalkSpells
import Derived.IntWalk
namespace Go.Proofs.Ytoemjfjmpmngead
open Go.RowKit
set_option linter.unusedVariables false
set_option linter.unusedSimpArgs false

theorem blankT_step (n : Nat) : blankT n ++ ⟨#[255]⟩ = blankT (n + 1) := by
  apply bl_inj; rw [bl_append, bl_blank, bl_blank, List.replicate_succ']; rfl

set_option maxRecDepth 100000 in
theorem lawBlank09 (n : Int) (W : World) (hn : n ≤ 140737488351232) : Calls Try.prog 30 #[.int .i64 n] W fun e W' => e = .returned (.string (blankT n.toNat)) ∧ W' = W := by
  go_enter Try.func30, Try.ntmps30
  go_wp2
  go_loop [3, 4] (fun v i => ∃ k : Nat, k ≤ n.toNat ∧ i = .int .i64 k ∧ v = .string (blankT k))
    (fun _ i => n.toNat - (intOf i).toNat)
  case atStart => exact ⟨0, Nat.zero_le _, rfl, rfl⟩
  case round =>
    obtain ⟨k, hk, rfl, rfl⟩ := hrel
    have hz := blankT_len k
    have hz2 : (blankT k).size ≤ 140737488351232 := by omega
    clear hz
    by_cases hlt : (k : Int) < n
    · have HP := Lib.hid (blankT_step k)
      go_wp2
      go_round
      case rel => exact ⟨k + 1, by omega, by go_num, by rw [← HP.out]⟩
      case measure => simp [intOf]; omega
    · have hkn := Lib.hid (show n.toNat = k from by omega)
      go_wp2
      go_ret
      exact ⟨by rw [hkn.out]; rfl, rfl⟩

def sc1 : ByteArray := ⟨#[165, 1, 0, 0, 0, 0, 0, 0, 0, 4, 0, 0, 0, 0, 0, 0, 0, 0, 84, 106, 134, 170, 90, 60, 165, 3, 0, 0, 0, 0, 0, 0, 0, 9, 0, 0, 0, 0, 0, 0, 0, 1, 82, 45, 242, 248, 90, 60, 0, 255, 255, 255, 255, 255, 255, 255, 255, 255, 255, 255, 255, 255, 255, 255, 255, 255, 255, 255, 255, 255, 255, 255]⟩
def sc2 : ByteArray := ⟨#[165, 1, 0, 0, 0, 0, 0, 0, 0, 4, 0, 0, 0, 0, 0, 0, 0, 0, 84, 106, 134, 170, 90, 60, 165, 3, 0, 0, 0, 0, 0, 0, 0, 9, 0, 0, 0, 0, 0, 0, 0, 1, 82, 45, 242, 248, 90, 60, 0, 255, 255, 255, 255, 255, 255, 255, 255, 255, 255, 255, 255, 255, 255, 255, 255, 255, 255, 255, 255, 255, 255, 255, 255, 255, 255, 255, 255, 255, 255, 255, 255, 255, 255, 255, 255, 255, 255, 255, 255, 255, 255, 255, 255, 255, 255, 255]⟩
theorem sc1_is : ((⟨#[165, 1, 0, 0, 0, 0, 0, 0, 0, 4, 0, 0, 0, 0, 0, 0, 0, 0, 84, 106, 134, 170, 90, 60]⟩ : ByteArray) ++ ⟨#[165, 3, 0, 0, 0, 0, 0, 0, 0, 9, 0, 0, 0, 0, 0, 0, 0, 1, 82, 45, 242, 248, 90, 60]⟩) ++ ⟨#[0]⟩ ++ blankT 23 = sc1 := by kernel_rfl
theorem sc2_is : sc1 ++ blankT 24 = sc2 := by kernel_rfl
theorem sc_z : sc1.size = 72 ∧ sc2.size = 96 := ⟨by kernel_rfl, by kernel_rfl⟩
theorem sc2_last : lastE sc2 = 0 ∧ lastR sc2 = ⟨3, 9, 1⟩ := ⟨by kernel_rfl, by kernel_rfl⟩
theorem sc_none : lastE (blankT 72) = 10 ∧ lastR (blankT 72) = ⟨0, 0, 0⟩ := ⟨by kernel_rfl, by kernel_rfl⟩
theorem sc_next : nextF sc2 = 3 ∧ nextF sc1 = 0 ∧ nextF (blankT 72) = 1 := ⟨by kernel_rfl, by kernel_rfl, by kernel_rfl⟩
theorem sc_good : goodN sc1 = 1 := by kernel_rfl
theorem sc_sound : soundB sc1 = true ∧ soundB (blankT 72) = false := ⟨by kernel_rfl, by kernel_rfl⟩

set_option maxRecDepth 100000 in
set_option maxHeartbeats 4000000 in
theorem shown09 (W : World) : Calls Try.prog 24 #[] W fun e W' => e = .returned (.bool true) ∧ Below W.heap.size W W' := by
  have T1 := Lib.hid (fun (W : World) => (show Calls Try.prog 14 #[.agg #[.int .i64 1, .int .u64 4, .int .u64 0]] W fun e W' => e = .returned (.string ⟨#[165, 1, 0, 0, 0, 0, 0, 0, 0, 4, 0, 0, 0, 0, 0, 0, 0, 0, 84, 106, 134, 170, 90, 60]⟩) ∧ Below W.heap.size W W' from by
    have h := own07Encode ⟨1, 4, 0⟩ W ⟨by decide, by decide, by decide⟩
    rw [show bs (encL ⟨1, 4, 0⟩) = ⟨#[165, 1, 0, 0, 0, 0, 0, 0, 0, 4, 0, 0, 0, 0, 0, 0, 0, 0, 84, 106, 134, 170, 90, 60]⟩ from by kernel_rfl] at h; exact h))
  have T2 := Lib.hid (fun (W : World) => (show Calls Try.prog 14 #[.agg #[.int .i64 3, .int .u64 9, .int .u64 1]] W fun e W' => e = .returned (.string ⟨#[165, 3, 0, 0, 0, 0, 0, 0, 0, 9, 0, 0, 0, 0, 0, 0, 0, 1, 82, 45, 242, 248, 90, 60]⟩) ∧ Below W.heap.size W W' from by
    have h := own07Encode ⟨3, 9, 1⟩ W ⟨by decide, by decide, by decide⟩
    rw [show bs (encL ⟨3, 9, 1⟩) = ⟨#[165, 3, 0, 0, 0, 0, 0, 0, 0, 9, 0, 0, 0, 0, 0, 0, 0, 1, 82, 45, 242, 248, 90, 60]⟩ from by kernel_rfl] at h; exact h))
  have z1 : sc1.size ≤ maxLen := by rw [sc_z.1]; decide
  have z2 : sc2.size ≤ maxLen := by rw [sc_z.2]; decide
  have z3 : (blankT 72).size ≤ maxLen := by rw [blankT_len]; decide
  have L2 := Lib.hid (fun (W : World) => (show Calls Try.prog 25 #[.string sc2] W fun e W' => e = .returned (.tuple #[.agg #[.int .i64 3, .int .u64 9, .int .u64 1], .int .i64 0]) ∧ Below W.heap.size W W' from by
    have h := own09Last sc2 W z2
    rw [sc2_last.1, sc2_last.2] at h; exact h))
  have L0 := Lib.hid (fun (W : World) => (show Calls Try.prog 25 #[.string (blankT 72)] W fun e W' => e = .returned (.tuple #[.agg #[.int .i64 0, .int .u64 0, .int .u64 0], .int .i64 10]) ∧ Below W.heap.size W W' from by
    have h := own09Last (blankT 72) W z3
    rw [sc_none.1, sc_none.2] at h; exact h))
  have N2 := Lib.hid (fun (W : World) => (show Calls Try.prog 29 #[.string sc2] W fun e W' => e = .returned (.int .i64 3) ∧ Below W.heap.size W W' from by
    have h := own09Next sc2 W z2
    rw [sc_next.1] at h; exact h))
  have N1 := Lib.hid (fun (W : World) => (show Calls Try.prog 29 #[.string sc1] W fun e W' => e = .returned (.int .i64 0) ∧ Below W.heap.size W W' from by
    have h := own09Next sc1 W z1
    rw [sc_next.2.1] at h; exact h))
  have N0 := Lib.hid (fun (W : World) => (show Calls Try.prog 29 #[.string (blankT 72)] W fun e W' => e = .returned (.int .i64 1) ∧ Below W.heap.size W W' from by
    have h := own09Next (blankT 72) W z3
    rw [sc_next.2.2] at h; exact h))
  have G1 := Lib.hid (fun (W : World) => (show Calls Try.prog 28 #[.string sc1] W fun e W' => e = .returned (.int .i64 1) ∧ Below W.heap.size W W' from by
    have h := own09Good sc1 W z1
    rw [sc_good] at h; exact h))
  have U1 := Lib.hid (fun (W : World) => (show Calls Try.prog 31 #[.string sc1] W fun e W' => e = .returned (.bool true) ∧ Below W.heap.size W W' from by
    have h := own09Sound sc1 W z1
    rw [sc_sound.1] at h; exact h))
  have U0 := Lib.hid (fun (W : World) => (show Calls Try.prog 31 #[.string (blankT 72)] W fun e W' => e = .returned (.bool false) ∧ Below W.heap.size W W' from by
    have h := own09Sound (blankT 72) W z3
    rw [sc_sound.2] at h; exact h))
  have B23 := Lib.hid (fun (V : World) => (show Calls Try.prog 30 #[.int .i64 23] V fun e W' => e = .returned (.string (blankT 23)) ∧ W' = V from lawBlank09 23 V (by decide)))
  have B24 := Lib.hid (fun (V : World) => (show Calls Try.prog 30 #[.int .i64 24] V fun e W' => e = .returned (.string (blankT 24)) ∧ W' = V from lawBlank09 24 V (by decide)))
  have B72 := Lib.hid (fun (V : World) => (show Calls Try.prog 30 #[.int .i64 72] V fun e W' => e = .returned (.string (blankT 72)) ∧ W' = V from lawBlank09 72 V (by decide)))
  have HS1 := sc1_is
  have HS2 := sc2_is
  have q1 : (blankT 24).size = 24 := blankT_len 24
  have q2 : (blankT 23).size = 23 := blankT_len 23
  have q3 := sc_z.1
  clear z1 z2 z3
  generalize sc2 = S2 at *
  generalize sc1 = S1 at *
  have hB : Below W.heap.size W W := Below.refl _ _
  go_enter Try.func24, Try.ntmps24
  go_wp2_with fail
  refine (T1.out _).mono ?_
  rintro e V1 ⟨rfl, hk⟩
  replace hB := below_seq hB hk
  clear hk
  go_wp2_with fail
  refine (T2.out _).mono ?_
  rintro e V2 ⟨rfl, hk⟩
  replace hB := below_seq hB hk
  clear hk
  go_wp2_with fail
  refine (B23.out _).mono ?_
  rintro e w' ⟨rfl, hw⟩
  rw [hw]
  clear hw w'
  go_wp2_with fail
  refine (B24.out _).mono ?_
  rintro e w' ⟨rfl, hw⟩
  rw [hw]
  clear hw w'
  go_wp2_with fail
  refine (L2.out _).mono ?_
  rintro e V3 ⟨rfl, hk⟩
  replace hB := below_seq hB hk
  clear hk
  have xr := Box.new 24 V3 [.int .i64 3, .int .u64 9, .int .u64 1]
  have le_xr : W.heap.size ≤ V3.heap.size := hB.size
  replace hB := hB.alloc hB.size (.cells #[.int .i64 3, .int .u64 9, .int .u64 1] 24)
  have xr0 := xr.cell 0 rfl
  have xrz0 := xr.frozen 0
  have xr1 := xr.cell 1 rfl
  have xrz1 := xr.frozen 1
  have xr2 := xr.cell 2 rfl
  have xrz2 := xr.frozen 2
  go_wp2_with fail
  refine (B72.out _).mono ?_
  rintro e w' ⟨rfl, hw⟩
  rw [hw]
  clear hw w'
  go_wp2_with fail
  refine (L0.out _).mono ?_
  rintro e V4 ⟨rfl, hk⟩
  clear xr0 xrz0 xr1 xrz1 xr2 xrz2
  replace hB := below_seq hB hk
  replace xr := xr.seq hk
  clear hk
  have xz := Box.new 24 V4 [.int .i64 0, .int .u64 0, .int .u64 0]
  have ne_xz_xr : V4.heap.size ≠ V3.heap.size := Nat.ne_of_gt xr.lt
  have le_xz : W.heap.size ≤ V4.heap.size := hB.size
  replace xr := xr.alloc (.cells #[.int .i64 0, .int .u64 0, .int .u64 0] 24)
  replace hB := hB.alloc hB.size (.cells #[.int .i64 0, .int .u64 0, .int .u64 0] 24)
  have xr0 := xr.cell 0 rfl
  have xrz0 := xr.frozen 0
  have xr1 := xr.cell 1 rfl
  have xrz1 := xr.frozen 1
  have xr2 := xr.cell 2 rfl
  have xrz2 := xr.frozen 2
  have xz0 := xz.cell 0 rfl
  have xzz0 := xz.frozen 0
  have xz1 := xz.cell 1 rfl
  have xzz1 := xz.frozen 1
  have xz2 := xz.cell 2 rfl
  have xzz2 := xz.frozen 2
  go_wp2_with fail
  refine (B24.out _).mono ?_
  rintro e w' ⟨rfl, hw⟩
  rw [hw]
  clear hw w'
  go_wp2_with fail
  refine (N2.out _).mono ?_
  rintro e V5 ⟨rfl, hk⟩
  clear xr0 xrz0 xr1 xrz1 xr2 xrz2 xz0 xzz0 xz1 xzz1 xz2 xzz2
  replace hB := below_seq hB hk
  replace xr := xr.seq hk
  replace xz := xz.seq hk
  clear hk
  have xr0 := xr.cell 0 rfl
  have xrz0 := xr.frozen 0
  have xr1 := xr.cell 1 rfl
  have xrz1 := xr.frozen 1
  have xr2 := xr.cell 2 rfl
  have xrz2 := xr.frozen 2
  have xz0 := xz.cell 0 rfl
  have xzz0 := xz.frozen 0
  have xz1 := xz.cell 1 rfl
  have xzz1 := xz.frozen 1
  have xz2 := xz.cell 2 rfl
  have xzz2 := xz.frozen 2
  go_wp2_with fail
  refine (N1.out _).mono ?_
  rintro e V6 ⟨rfl, hk⟩
  clear xr0 xrz0 xr1 xrz1 xr2 xrz2 xz0 xzz0 xz1 xzz1 xz2 xzz2
  replace hB := below_seq hB hk
  replace xr := xr.seq hk
  replace xz := xz.seq hk
  clear hk
  have xr0 := xr.cell 0 rfl
  have xrz0 := xr.frozen 0
  have xr1 := xr.cell 1 rfl
  have xrz1 := xr.frozen 1
  have xr2 := xr.cell 2 rfl
  have xrz2 := xr.frozen 2
  have xz0 := xz.cell 0 rfl
  have xzz0 := xz.frozen 0
  have xz1 := xz.cell 1 rfl
  have xzz1 := xz.frozen 1
  have xz2 := xz.cell 2 rfl
  have xzz2 := xz.frozen 2
  go_wp2_with fail
  refine (B72.out _).mono ?_
  rintro e w' ⟨rfl, hw⟩
  rw [hw]
  clear hw w'
  go_wp2_with fail
  refine (N0.out _).mono ?_
  rintro e V7 ⟨rfl, hk⟩
  clear xr0 xrz0 xr1 xrz1 xr2 xrz2 xz0 xzz0 xz1 xzz1 xz2 xzz2
  replace hB := below_seq hB hk
  replace xr := xr.seq hk
  replace xz := xz.seq hk
  clear hk
  have xr0 := xr.cell 0 rfl
  have xrz0 := xr.frozen 0
  have xr1 := xr.cell 1 rfl
  have xrz1 := xr.frozen 1
  have xr2 := xr.cell 2 rfl
  have xrz2 := xr.frozen 2
  have xz0 := xz.cell 0 rfl
  have xzz0 := xz.frozen 0
  have xz1 := xz.cell 1 rfl
  have xzz1 := xz.frozen 1
  have xz2 := xz.cell 2 rfl
  have xzz2 := xz.frozen 2
  go_wp2_with fail
  refine (G1.out _).mono ?_
  rintro e V8 ⟨rfl, hk⟩
  clear xr0 xrz0 xr1 xrz1 xr2 xrz2 xz0 xzz0 xz1 xzz1 xz2 xzz2
  replace hB := below_seq hB hk
  replace xr := xr.seq hk
  replace xz := xz.seq hk
  clear hk
  have xr0 := xr.cell 0 rfl
  have xrz0 := xr.frozen 0
  have xr1 := xr.cell 1 rfl
  have xrz1 := xr.frozen 1
  have xr2 := xr.cell 2 rfl
  have xrz2 := xr.frozen 2
  have xz0 := xz.cell 0 rfl
  have xzz0 := xz.frozen 0
  have xz1 := xz.cell 1 rfl
  have xzz1 := xz.frozen 1
  have xz2 := xz.cell 2 rfl
  have xzz2 := xz.frozen 2
  go_wp2_with fail
  refine (U1.out _).mono ?_
  rintro e V9 ⟨rfl, hk⟩
  clear xr0 xrz0 xr1 xrz1 xr2 xrz2 xz0 xzz0 xz1 xzz1 xz2 xzz2
  replace hB := below_seq hB hk
  replace xr := xr.seq hk
  replace xz := xz.seq hk
  clear hk
  have xr0 := xr.cell 0 rfl
  have xrz0 := xr.frozen 0
  have xr1 := xr.cell 1 rfl
  have xrz1 := xr.frozen 1
  have xr2 := xr.cell 2 rfl
  have xrz2 := xr.frozen 2
  have xz0 := xz.cell 0 rfl
  have xzz0 := xz.frozen 0
  have xz1 := xz.cell 1 rfl
  have xzz1 := xz.frozen 1
  have xz2 := xz.cell 2 rfl
  have xzz2 := xz.frozen 2
  go_wp2_with fail
  refine (B72.out _).mono ?_
  rintro e w' ⟨rfl, hw⟩
  rw [hw]
  clear hw w'
  go_wp2_with fail
  refine (U0.out _).mono ?_
  rintro e V10 ⟨rfl, hk⟩
  clear xr0 xrz0 xr1 xrz1 xr2 xrz2 xz0 xzz0 xz1 xzz1 xz2 xzz2
  replace hB := below_seq hB hk
  replace xr := xr.seq hk
  replace xz := xz.seq hk
  clear hk
  have xr0 := xr.cell 0 rfl
  have xrz0 := xr.frozen 0
  have xr1 := xr.cell 1 rfl
  have xrz1 := xr.frozen 1
  have xr2 := xr.cell 2 rfl
  have xrz2 := xr.frozen 2
  have xz0 := xz.cell 0 rfl
  have xzz0 := xz.frozen 0
  have xz1 := xz.cell 1 rfl
  have xzz1 := xz.frozen 1
  have xz2 := xz.cell 2 rfl
  have xzz2 := xz.frozen 2
  go_wp2
  go_ret
  exact ⟨rfl, hB⟩
end Go.Proofs.Ytoemjfjmpmngead

/- From each mode that flies there is a way to Manual, and to Land; what asks for a home flies, and asks for two sensors at least; Idle asks for nothing (TableSafe); no condition. -/
import Derived.Test.YtphhpjkbigmlfaaTableLaw
import Derived.Test.YtphhpjkbigmlfaaTableRef
import Derived.Deep.RegionHeld3
import Derived.WalkLawsBesides
import Derived.WalkSpells
import Derived.IntWalk
import Derived.Lib.Hide
import Derived.Test.YtphhpjkbigmlfaaBox
import Derived.ProofKit
import Derived.OpenShut
import Derived.ChangeMaps5
import Derived.Test.YtphhpjkbigmlfaaInts
namespace Go.Proofs.Ytphhpjkbigmlfaa.TableSafe
open Go.ChangeShapes Go.WideShapes Go.ChangeAt Go.RowKit Go.ChangeMaps
set_option linter.unusedVariables false
set_option linter.unusedSimpArgs false

set_option maxRecDepth 100000 in
set_option maxHeartbeats 4000000 in
theorem walk (mode : UInt8) (W : World)  :
    Calls Try.prog 6 #[.int .u8 (mode.toNat : Int)] W fun e W' => e = .returned (.bool true) ∧ Below W.heap.size W W' := by
  have hlt := Nat.mod_lt mode.toNat (show 6 > 0 by decide)
  obtain ⟨j, hj⟩ : ∃ j, mode.toNat % 6 = j := ⟨_, rfl⟩
  have hb : (wrap64 (mode.toNat : Int)).tmod 6 = (j : Int) := by rw [w64_u8, Int.tmod_eq_emod_of_nonneg (by omega)]; omega
  have hj6 : j < 6 := by omega
  clear hlt hj
  match j, hj6 with
  | 0, _ =>
    have hb : (wrap64 (mode.toNat : Int)).tmod 6 = 0 := hb
    have TF := Lib.hid (fun (V : World) => (show Calls Try.prog 14 #[.int .i64 0] V fun e W' => e = .returned (.bool false) ∧ Below V.heap.size V W' from own15Flying 0 V (by decide)))
    have TN := Lib.hid (fun (V : World) => (show Calls Try.prog 10 #[.int .i64 0] V fun e W' => e = .returned (.int .i64 0) ∧ Below V.heap.size V W' from own15Needs 0 V (by decide)))
    have TH := Lib.hid (fun (V : World) => (show Calls Try.prog 12 #[.int .i64 0] V fun e W' => e = .returned (.bool false) ∧ Below V.heap.size V W' from own15Home 0 V (by decide)))
    have hB : Below W.heap.size W W := Below.refl _ _
    go_enter Try.func6, Try.ntmps6
    go_wp2_with fail
    refine (TF.out _).mono ?_
    rintro e V1 ⟨rfl, hk⟩
    replace hB := below_seq hB hk
    clear hk
    go_wp2_with fail
    refine (TH.out _).mono ?_
    rintro e V2 ⟨rfl, hk⟩
    replace hB := below_seq hB hk
    clear hk
    go_wp2_with fail
    refine (TN.out _).mono ?_
    rintro e V3 ⟨rfl, hk⟩
    replace hB := below_seq hB hk
    clear hk
    go_wp2_with fail
    refine (shown15 _).mono ?_
    rintro e V4 ⟨rfl, hk⟩
    replace hB := below_seq hB hk
    clear hk
    go_wp2
    go_ret
    exact ⟨rfl, hB⟩
  | 1, _ =>
    have hb : (wrap64 (mode.toNat : Int)).tmod 6 = 1 := hb
    have TF := Lib.hid (fun (V : World) => (show Calls Try.prog 14 #[.int .i64 1] V fun e W' => e = .returned (.bool true) ∧ Below V.heap.size V W' from own15Flying 1 V (by decide)))
    have TN := Lib.hid (fun (V : World) => (show Calls Try.prog 10 #[.int .i64 1] V fun e W' => e = .returned (.int .i64 1) ∧ Below V.heap.size V W' from own15Needs 1 V (by decide)))
    have TH := Lib.hid (fun (V : World) => (show Calls Try.prog 12 #[.int .i64 1] V fun e W' => e = .returned (.bool false) ∧ Below V.heap.size V W' from own15Home 1 V (by decide)))
    have T1 := Lib.hid (fun (V : World) => (show Calls Try.prog 8 #[.int .i64 1, .int .i64 1] V fun e W' => e = .returned (.bool true) ∧ Below V.heap.size V W' from own15Way 1 1 V (by decide) (by decide)))
    have T5 := Lib.hid (fun (V : World) => (show Calls Try.prog 8 #[.int .i64 1, .int .i64 5] V fun e W' => e = .returned (.bool true) ∧ Below V.heap.size V W' from own15Way 1 5 V (by decide) (by decide)))
    have hB : Below W.heap.size W W := Below.refl _ _
    go_enter Try.func6, Try.ntmps6
    go_wp2_with fail
    refine (TF.out _).mono ?_
    rintro e V1 ⟨rfl, hk⟩
    replace hB := below_seq hB hk
    clear hk
    go_wp2_with fail
    refine (T1.out _).mono ?_
    rintro e V2 ⟨rfl, hk⟩
    replace hB := below_seq hB hk
    clear hk
    go_wp2_with fail
    refine (T5.out _).mono ?_
    rintro e V3 ⟨rfl, hk⟩
    replace hB := below_seq hB hk
    clear hk
    go_wp2_with fail
    refine (TH.out _).mono ?_
    rintro e V4 ⟨rfl, hk⟩
    replace hB := below_seq hB hk
    clear hk
    go_wp2_with fail
    refine (shown15 _).mono ?_
    rintro e V5 ⟨rfl, hk⟩
    replace hB := below_seq hB hk
    clear hk
    go_wp2
    go_ret
    exact ⟨rfl, hB⟩
  | 2, _ =>
    have hb : (wrap64 (mode.toNat : Int)).tmod 6 = 2 := hb
    have TF := Lib.hid (fun (V : World) => (show Calls Try.prog 14 #[.int .i64 2] V fun e W' => e = .returned (.bool true) ∧ Below V.heap.size V W' from own15Flying 2 V (by decide)))
    have TN := Lib.hid (fun (V : World) => (show Calls Try.prog 10 #[.int .i64 2] V fun e W' => e = .returned (.int .i64 2) ∧ Below V.heap.size V W' from own15Needs 2 V (by decide)))
    have TH := Lib.hid (fun (V : World) => (show Calls Try.prog 12 #[.int .i64 2] V fun e W' => e = .returned (.bool false) ∧ Below V.heap.size V W' from own15Home 2 V (by decide)))
    have T1 := Lib.hid (fun (V : World) => (show Calls Try.prog 8 #[.int .i64 2, .int .i64 1] V fun e W' => e = .returned (.bool true) ∧ Below V.heap.size V W' from own15Way 2 1 V (by decide) (by decide)))
    have T5 := Lib.hid (fun (V : World) => (show Calls Try.prog 8 #[.int .i64 2, .int .i64 5] V fun e W' => e = .returned (.bool true) ∧ Below V.heap.size V W' from own15Way 2 5 V (by decide) (by decide)))
    have hB : Below W.heap.size W W := Below.refl _ _
    go_enter Try.func6, Try.ntmps6
    go_wp2_with fail
    refine (TF.out _).mono ?_
    rintro e V1 ⟨rfl, hk⟩
    replace hB := below_seq hB hk
    clear hk
    go_wp2_with fail
    refine (T1.out _).mono ?_
    rintro e V2 ⟨rfl, hk⟩
    replace hB := below_seq hB hk
    clear hk
    go_wp2_with fail
    refine (T5.out _).mono ?_
    rintro e V3 ⟨rfl, hk⟩
    replace hB := below_seq hB hk
    clear hk
    go_wp2_with fail
    refine (TH.out _).mono ?_
    rintro e V4 ⟨rfl, hk⟩
    replace hB := below_seq hB hk
    clear hk
    go_wp2_with fail
    refine (shown15 _).mono ?_
    rintro e V5 ⟨rfl, hk⟩
    replace hB := below_seq hB hk
    clear hk
    go_wp2
    go_ret
    exact ⟨rfl, hB⟩
  | 3, _ =>
    have hb : (wrap64 (mode.toNat : Int)).tmod 6 = 3 := hb
    have TF := Lib.hid (fun (V : World) => (show Calls Try.prog 14 #[.int .i64 3] V fun e W' => e = .returned (.bool true) ∧ Below V.heap.size V W' from own15Flying 3 V (by decide)))
    have TN := Lib.hid (fun (V : World) => (show Calls Try.prog 10 #[.int .i64 3] V fun e W' => e = .returned (.int .i64 3) ∧ Below V.heap.size V W' from own15Needs 3 V (by decide)))
    have TH := Lib.hid (fun (V : World) => (show Calls Try.prog 12 #[.int .i64 3] V fun e W' => e = .returned (.bool true) ∧ Below V.heap.size V W' from own15Home 3 V (by decide)))
    have T1 := Lib.hid (fun (V : World) => (show Calls Try.prog 8 #[.int .i64 3, .int .i64 1] V fun e W' => e = .returned (.bool true) ∧ Below V.heap.size V W' from own15Way 3 1 V (by decide) (by decide)))
    have T5 := Lib.hid (fun (V : World) => (show Calls Try.prog 8 #[.int .i64 3, .int .i64 5] V fun e W' => e = .returned (.bool true) ∧ Below V.heap.size V W' from own15Way 3 5 V (by decide) (by decide)))
    have hB : Below W.heap.size W W := Below.refl _ _
    go_enter Try.func6, Try.ntmps6
    go_wp2_with fail
    refine (TF.out _).mono ?_
    rintro e V1 ⟨rfl, hk⟩
    replace hB := below_seq hB hk
    clear hk
    go_wp2_with fail
    refine (T1.out _).mono ?_
    rintro e V2 ⟨rfl, hk⟩
    replace hB := below_seq hB hk
    clear hk
    go_wp2_with fail
    refine (T5.out _).mono ?_
    rintro e V3 ⟨rfl, hk⟩
    replace hB := below_seq hB hk
    clear hk
    go_wp2_with fail
    refine (TH.out _).mono ?_
    rintro e V4 ⟨rfl, hk⟩
    replace hB := below_seq hB hk
    clear hk
    go_wp2_with fail
    refine (TN.out _).mono ?_
    rintro e V5 ⟨rfl, hk⟩
    replace hB := below_seq hB hk
    clear hk
    go_wp2_with fail
    refine (shown15 _).mono ?_
    rintro e V6 ⟨rfl, hk⟩
    replace hB := below_seq hB hk
    clear hk
    go_wp2
    go_ret
    exact ⟨rfl, hB⟩
  | 4, _ =>
    have hb : (wrap64 (mode.toNat : Int)).tmod 6 = 4 := hb
    have TF := Lib.hid (fun (V : World) => (show Calls Try.prog 14 #[.int .i64 4] V fun e W' => e = .returned (.bool true) ∧ Below V.heap.size V W' from own15Flying 4 V (by decide)))
    have TN := Lib.hid (fun (V : World) => (show Calls Try.prog 10 #[.int .i64 4] V fun e W' => e = .returned (.int .i64 2) ∧ Below V.heap.size V W' from own15Needs 4 V (by decide)))
    have TH := Lib.hid (fun (V : World) => (show Calls Try.prog 12 #[.int .i64 4] V fun e W' => e = .returned (.bool true) ∧ Below V.heap.size V W' from own15Home 4 V (by decide)))
    have T1 := Lib.hid (fun (V : World) => (show Calls Try.prog 8 #[.int .i64 4, .int .i64 1] V fun e W' => e = .returned (.bool true) ∧ Below V.heap.size V W' from own15Way 4 1 V (by decide) (by decide)))
    have T5 := Lib.hid (fun (V : World) => (show Calls Try.prog 8 #[.int .i64 4, .int .i64 5] V fun e W' => e = .returned (.bool true) ∧ Below V.heap.size V W' from own15Way 4 5 V (by decide) (by decide)))
    have hB : Below W.heap.size W W := Below.refl _ _
    go_enter Try.func6, Try.ntmps6
    go_wp2_with fail
    refine (TF.out _).mono ?_
    rintro e V1 ⟨rfl, hk⟩
    replace hB := below_seq hB hk
    clear hk
    go_wp2_with fail
    refine (T1.out _).mono ?_
    rintro e V2 ⟨rfl, hk⟩
    replace hB := below_seq hB hk
    clear hk
    go_wp2_with fail
    refine (T5.out _).mono ?_
    rintro e V3 ⟨rfl, hk⟩
    replace hB := below_seq hB hk
    clear hk
    go_wp2_with fail
    refine (TH.out _).mono ?_
    rintro e V4 ⟨rfl, hk⟩
    replace hB := below_seq hB hk
    clear hk
    go_wp2_with fail
    refine (TN.out _).mono ?_
    rintro e V5 ⟨rfl, hk⟩
    replace hB := below_seq hB hk
    clear hk
    go_wp2_with fail
    refine (shown15 _).mono ?_
    rintro e V6 ⟨rfl, hk⟩
    replace hB := below_seq hB hk
    clear hk
    go_wp2
    go_ret
    exact ⟨rfl, hB⟩
  | 5, _ =>
    have hb : (wrap64 (mode.toNat : Int)).tmod 6 = 5 := hb
    have TF := Lib.hid (fun (V : World) => (show Calls Try.prog 14 #[.int .i64 5] V fun e W' => e = .returned (.bool true) ∧ Below V.heap.size V W' from own15Flying 5 V (by decide)))
    have TN := Lib.hid (fun (V : World) => (show Calls Try.prog 10 #[.int .i64 5] V fun e W' => e = .returned (.int .i64 1) ∧ Below V.heap.size V W' from own15Needs 5 V (by decide)))
    have TH := Lib.hid (fun (V : World) => (show Calls Try.prog 12 #[.int .i64 5] V fun e W' => e = .returned (.bool false) ∧ Below V.heap.size V W' from own15Home 5 V (by decide)))
    have T1 := Lib.hid (fun (V : World) => (show Calls Try.prog 8 #[.int .i64 5, .int .i64 1] V fun e W' => e = .returned (.bool true) ∧ Below V.heap.size V W' from own15Way 5 1 V (by decide) (by decide)))
    have T5 := Lib.hid (fun (V : World) => (show Calls Try.prog 8 #[.int .i64 5, .int .i64 5] V fun e W' => e = .returned (.bool true) ∧ Below V.heap.size V W' from own15Way 5 5 V (by decide) (by decide)))
    have hB : Below W.heap.size W W := Below.refl _ _
    go_enter Try.func6, Try.ntmps6
    go_wp2_with fail
    refine (TF.out _).mono ?_
    rintro e V1 ⟨rfl, hk⟩
    replace hB := below_seq hB hk
    clear hk
    go_wp2_with fail
    refine (T1.out _).mono ?_
    rintro e V2 ⟨rfl, hk⟩
    replace hB := below_seq hB hk
    clear hk
    go_wp2_with fail
    refine (T5.out _).mono ?_
    rintro e V3 ⟨rfl, hk⟩
    replace hB := below_seq hB hk
    clear hk
    go_wp2_with fail
    refine (TH.out _).mono ?_
    rintro e V4 ⟨rfl, hk⟩
    replace hB := below_seq hB hk
    clear hk
    go_wp2_with fail
    refine (shown15 _).mono ?_
    rintro e V5 ⟨rfl, hk⟩
    replace hB := below_seq hB hk
    clear hk
    go_wp2
    go_ret
    exact ⟨rfl, hB⟩

theorem own : ownKnob Try.prog.godebug = none := by kernel_rfl

set_option maxRecDepth 100000 in
theorem lifted (os : Os) (started : os.Started) (H : Type) (enc : TypeId × Value → H) :
    ReturnsInHanded {} Try.checked os 6 .any (Rows.tableSafeSpec.pre6 enc Try.prog Try.f6 Rows.tableSafeRow.domain false) (Rows.tableSafeSpec.post enc Try.prog Try.f6 false true false false) := by
  refine returnsInHanded_of_change (C := Try.checked) own started (by kernel_rfl) Try.func6
    (ChangeSpec.witness6 (enc := enc) (C := Try.checked) false ⟨#[], #[.int .u8 0], []⟩ 8 (by kernel_rfl) (by kernel_rfl) (by kernel_rfl) (by kernel_rfl)) ?_
  intro W base args ds gs before hval hW _ _
  have hW' := hW
  obtain ⟨p, q, hA0, hV, rfl, hfz, hnd⟩ := hW
  have hA : DataW.TrodAll enc Try.prog W 0 (fun _ => true) true Try.f6.params.toList args.toList ds p := hA0
  rw [Try.params6] at hA hval
  obtain ⟨v0, vs0, d0, ds0, p0, q0, hargs, rfl, rfl, h0, r0⟩ := trodAll_cons hA
  obtain ⟨rfl, rfl, rfl⟩ := trodAll_nil r0
  obtain rfl : args = #[v0] := by cases args; simp_all
  obtain ⟨rfl, rfl⟩ := trodVars_none hV
  obtain ⟨a0, rfl, rfl, rfl, w0⟩ := open_int Try.underlying5 (hval 0 5 v0 rfl rfl) h0
  obtain ⟨c0, rfl⟩ := int_u8 w0
  clear hA0
  simp only [List.append_nil] at hW'
  refine (walk c0 W ).mono fun e W' ⟨he, hB⟩ => ?_
  subst he
  exact ⟨_, rfl, ⟨_, _, _, [], _, [], hW', trodAll_cons_mk (shut_bool Try.underlying4 _) trodAll_mk0, (trodAll_cons_mk (shut_int Try.underlying5 w0) trodAll_mk0), rfl, hB.frame _, fun h => by cases h⟩⟩

theorem holds : Rows.TableSafeSaid :=
  OpenClaim.holds_of_wide 6 Try.f6 rfl rfl rfl rfl rfl rfl rfl ⟨rfl, rfl, rfl, rfl, rfl⟩ rfl rfl rfl rfl rfl (by kernel_rfl) Try.func6 (by kernel_rfl)
    (of_decide_eq_true (by kernel_rfl)) (by unfold Func.isWrapper; first | (rw [if_pos (by decide +kernel)]; kernel_rfl) | (rw [if_neg (by decide +kernel)]; exact ⟨rfl, rfl⟩))
    (fun os started H enc _ => lifted os started H enc)
end Go.Proofs.Ytphhpjkbigmlfaa.TableSafe

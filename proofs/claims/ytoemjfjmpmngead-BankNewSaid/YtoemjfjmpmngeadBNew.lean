/- A bank that is blank has no generation, and no state but blank; as many states as slots (BankNew); no condition. -/
import Derived.Test.YtoemjfjmpmngeadBankLaw
import Derived.Deep.RegionHeld3
import Derived.WalkLawsBesides
import Derived.WalkSpells
import Derived.IntWalk
import Derived.Lib.Hide
import Derived.Test.YtoemjfjmpmngeadBox
import Derived.Test.YtoemjfjmpmngeadLayout
import Derived.ProofKit
import Derived.OpenShut
import Derived.ChangeMaps5
import Derived.Test.YtoemjfjmpmngeadInts
namespace Go.Proofs.Ytoemjfjmpmngead.BankNew
open Go.ChangeShapes Go.WideShapes Go.ChangeAt Go.RowKit Go.ChangeMaps
set_option linter.unusedVariables false
set_option linter.unusedSimpArgs false

set_option maxRecDepth 100000 in
set_option maxHeartbeats 16000000 in
theorem walk (n : Int) (W : World) (hn : -9223372036854775808 ≤ n ∧ n ≤ 9223372036854775807) :
    Calls Try.prog 4 #[.int .i64 n] W fun e W' => e = .returned (.bool true) ∧ Below W.heap.size W W' := by
  by_cases hn : 1 ≤ n ∧ n ≤ 12
  · obtain ⟨m, rfl⟩ := Int.eq_ofNat_of_zero_le (by omega : 0 ≤ n)
    have hm : 1 ≤ m ∧ m ≤ 12 := by omega
    have hz : (blankT (24 * m + 24)).size = 24 * m + 24 := blankT_len _
    have hs : slotsF ((blankT (24 * m + 24)).size : Int) = m := by rw [hz, show ((24 * m + 24 : Nat) : Int) = 24 * (m : Int) + 24 from by omega]; exact slotsF_size (by omega)
    have hll : (statesL (blankT (24 * m + 24))).length = m := by rw [statesL_length, hs]; omega
    have HL := Lib.hid (fun (k : Nat) (hk : k < m) => (show (statesL (blankT (24 * m + 24)))[k]? = some 0 from by rw [statesL_get _ k (by rw [hs]; omega)]; exact congrArg some (state_blank (k := k + 1) hm (by omega))))
    have h0 : stateF (blankT (24 * m + 24)) 0 = 0 := state_blank (k := 0) hm (Nat.zero_le _)
    have hg : genE (blankT (24 * m + 24)) = 10 ∧ genN (blankT (24 * m + 24)) = 0 := by unfold genE genN; rw [h0]; exact ⟨rfl, rfl⟩
    have z1 : (blankT (24 * m + 24)).size ≤ maxLen := by unfold maxLen; omega
    have TZ := Lib.hid (fun (V : World) => (show Calls Try.prog 18 #[.int .i64 (m : Int)] V fun e W' => e = .returned (.int .i64 (24 * (m : Int) + 24)) ∧ W' = V from by have h := ref05Size (m : Int) V; rwa [sizeF_in hn] at h))
    have TB := Lib.hid (fun (V : World) => (show Calls Try.prog 17 #[.int .i64 (24 * (m : Int) + 24)] V fun e W' => e = .returned (.string (blankT (24 * m + 24))) ∧ W' = V from by have h := lawBlank08 (24 * (m : Int) + 24) V (by omega); rwa [show (24 * (m : Int) + 24).toNat = 24 * m + 24 from by omega] at h))
    have TS := Lib.hid (fun (V : World) => (show Calls Try.prog 19 #[.string (blankT (24 * m + 24))] V fun e W' => ∃ A c, e = .returned (.slice A m c) ∧ IntsAt W' A (statesL (blankT (24 * m + 24))) ∧ Below V.heap.size V W' from by have h := own08States _ V z1; rwa [hll] at h))
    have TG := Lib.hid (fun (V : World) => (show Calls Try.prog 20 #[.string (blankT (24 * m + 24))] V fun e W' => e = .returned (.tuple #[.int .u64 0, .int .i64 10]) ∧ Below V.heap.size V W' from by have h := own08Generation _ V z1; rwa [hg.1, hg.2] at h))
    have TL := Lib.hid (fun (V : World) => (show Calls Try.prog 21 #[.int .i64 ((24 * m + 24 : Nat) : Int)] V fun e W' => e = .returned (.int .i64 (m : Int)) ∧ W' = V from by have h := ref05Slots ((blankT (24 * m + 24)).size : Int) V; rwa [hs, hz] at h))
    have TT := Lib.hid (fun (V : World) => (show Calls Try.prog 22 #[.string (blankT (24 * m + 24)), .int .i64 0] V fun e W' => e = .returned (.int .i64 0) ∧ Below V.heap.size V W' from by have h := own08State _ 0 V z1 ⟨by decide, by decide⟩; rwa [h0] at h))
    clear hn hs hll h0 hg z1
    generalize statesL (blankT (24 * m + 24)) = L at *
    generalize hZZ : 24 * m + 24 = zz at *
    generalize blankT zz = S at *
    have n1 : (((zz : Nat) : Int) == 0) = false := beq_eq_false_iff_ne.2 (by omega)
    have e1 : 24 * (m : Int) + 24 = (zz : Int) := by omega
    rw [e1] at TZ TB
    clear e1 hZZ hm
    have hB : Below W.heap.size W W := Below.refl _ _
    go_enter Try.func4, Try.ntmps4
    go_wp2_with fail
    refine (shown08 _).mono ?_
    rintro e V1 ⟨rfl, hk⟩
    replace hB := below_seq hB hk
    clear hk
    go_wp2_with fail
    refine (TZ.out _).mono ?_
    rintro e w' ⟨rfl, hw⟩
    rw [hw]
    clear hw w'
    go_wp2_with fail
    refine (TB.out _).mono ?_
    rintro e w' ⟨rfl, hw⟩
    rw [hw]
    clear hw w'
    go_wp2_with fail
    refine (TS.out _).mono ?_
    rintro e V2 ⟨AV2, cV2, rfl, hA, hk⟩
    replace hB := below_seq hB hk
    clear hk
    go_wp2
    go_loopw [5] (fun i w => ∃ k : Nat, k ≤ m ∧ i = .int .i64 k ∧ IntsAt w AV2 L ∧ Below W.heap.size W w) (fun i _ => m - (intOf i).toNat)
    case atStart => exact ⟨0, by omega, rfl, hA, hB⟩
    case round =>
      clear hA hB
      obtain ⟨k, hk, rfl, hA, hB⟩ := hrel
      by_cases hlt : k < m
      · obtain ⟨g, off, rfl, y0⟩ := hA.at (k := k) (v := 0) (HL.out k hlt)
        have i0 : (0 : Int) ≤ (k : Int) := by omega
        have i1 : (k : Int) < (m : Int) := by omega
        go_wp2
        go_roundw
        case rel => exact ⟨k + 1, by omega, by go_num, hA, hB⟩
        case measure => simp [intOf]; omega
      · obtain rfl : k = m := by omega
        go_wp2_with fail
        refine (TG.out _).mono ?_
        rintro e V3 ⟨rfl, hk⟩
        replace hB := below_seq hB hk
        clear hk
        go_wp2_with fail
        refine (TL.out _).mono ?_
        rintro e w' ⟨rfl, hw⟩
        rw [hw]
        clear hw w'
        go_wp2_with fail
        refine (TT.out _).mono ?_
        rintro e V4 ⟨rfl, hk⟩
        replace hB := below_seq hB hk
        clear hk
        go_wp2
        go_ret
        exact ⟨rfl, hB⟩
  · have hs : slotsF ((blankT 0).size : Int) = 0 := rfl
    have hll : statesL (blankT 0) = [] := rfl
    have hg : genE (blankT 0) = 10 ∧ genN (blankT 0) = 0 := ⟨by kernel_rfl, by kernel_rfl⟩
    have z1 : (blankT 0).size ≤ maxLen := Nat.zero_le _
    have hz : (blankT 0).size = 0 := rfl
    have TZ := Lib.hid (fun (V : World) => (show Calls Try.prog 18 #[.int .i64 n] V fun e W' => e = .returned (.int .i64 0) ∧ W' = V from by have h := ref05Size n V; rwa [sizeF_out hn] at h))
    have TB := Lib.hid (fun (V : World) => (show Calls Try.prog 17 #[.int .i64 0] V fun e W' => e = .returned (.string (blankT 0)) ∧ W' = V from lawBlank08 0 V (by decide)))
    have TS := Lib.hid (fun (V : World) => (show Calls Try.prog 19 #[.string (blankT 0)] V fun e W' => ∃ A c, e = .returned (.slice A 0 c) ∧ IntsAt W' A [] ∧ Below V.heap.size V W' from by have h := own08States _ V z1; rwa [hll] at h))
    have TG := Lib.hid (fun (V : World) => (show Calls Try.prog 20 #[.string (blankT 0)] V fun e W' => e = .returned (.tuple #[.int .u64 0, .int .i64 10]) ∧ Below V.heap.size V W' from by have h := own08Generation _ V z1; rwa [hg.1, hg.2] at h))
    have TL := Lib.hid (fun (V : World) => (show Calls Try.prog 21 #[.int .i64 0] V fun e W' => e = .returned (.int .i64 0) ∧ W' = V from ref05Slots 0 V))
    clear hn hs hll hg z1
    generalize blankT 0 = S at *
    have n1 : ((S.size : Int) == 0) = true := by rw [hz]; rfl
    have hB : Below W.heap.size W W := Below.refl _ _
    go_enter Try.func4, Try.ntmps4
    go_wp2_with fail
    refine (shown08 _).mono ?_
    rintro e V1 ⟨rfl, hk⟩
    replace hB := below_seq hB hk
    clear hk
    go_wp2_with fail
    refine (TZ.out _).mono ?_
    rintro e w' ⟨rfl, hw⟩
    rw [hw]
    clear hw w'
    go_wp2_with fail
    refine (TB.out _).mono ?_
    rintro e w' ⟨rfl, hw⟩
    rw [hw]
    clear hw w'
    go_wp2_with fail
    refine (TS.out _).mono ?_
    rintro e V2 ⟨AV2, cV2, rfl, hA, hk⟩
    replace hB := below_seq hB hk
    clear hk
    go_wp2
    go_loopw [5] (fun i w => i = .int .i64 0 ∧ Below W.heap.size W w) (fun i _ => 0)
    case atStart => exact ⟨rfl, hB⟩
    case round =>
      clear hA hB
      obtain ⟨rfl, hB⟩ := hrel
      go_wp2_with fail
      refine (TG.out _).mono ?_
      rintro e V3 ⟨rfl, hk⟩
      replace hB := below_seq hB hk
      clear hk
      go_wp2_with fail
      refine (TL.out _).mono ?_
      rintro e w' ⟨rfl, hw⟩
      rw [hw]
      clear hw w'
      go_wp2
      go_ret
      exact ⟨rfl, hB⟩

theorem own : ownKnob Try.prog.godebug = none := by kernel_rfl

set_option maxRecDepth 100000 in
theorem lifted (os : Os) (started : os.Started) (H : Type) (enc : TypeId × Value → H) :
    ReturnsInHanded {} Try.checked os 4 .any (Rows.bankNewSpec.pre6 enc Try.prog Try.f4 Rows.bankNewRow.domain false) (Rows.bankNewSpec.post enc Try.prog Try.f4 false true false false) := by
  refine returnsInHanded_of_change (C := Try.checked) own started (by kernel_rfl) Try.func4
    (ChangeSpec.witness6 (enc := enc) (C := Try.checked) false ⟨#[], #[.int .i64 0], []⟩ 8 (by kernel_rfl) (by kernel_rfl) (by kernel_rfl) (by kernel_rfl)) ?_
  intro W base args ds gs before hval hW _ _
  have hW' := hW
  obtain ⟨p, q, hA0, hV, rfl, hfz, hnd⟩ := hW
  have hA : DataW.TrodAll enc Try.prog W 0 (fun _ => true) true Try.f4.params.toList args.toList ds p := hA0
  rw [Try.params4] at hA hval
  obtain ⟨v0, vs0, d0, ds0, p0, q0, hargs, rfl, rfl, h0, r0⟩ := trodAll_cons hA
  obtain ⟨rfl, rfl, rfl⟩ := trodAll_nil r0
  obtain rfl : args = #[v0] := by cases args; simp_all
  obtain ⟨rfl, rfl⟩ := trodVars_none hV
  obtain ⟨a0, rfl, rfl, rfl, w0⟩ := open_int Try.underlying3 (hval 0 3 v0 rfl rfl) h0
  clear hA0
  simp only [List.append_nil] at hW'
  refine (walk a0 W (int_i64 w0)).mono fun e W' ⟨he, hB⟩ => ?_
  subst he
  exact ⟨_, rfl, ⟨_, _, _, [], _, [], hW', trodAll_cons_mk (shut_bool Try.underlying4 _) trodAll_mk0, (trodAll_cons_mk (shut_int Try.underlying3 w0) trodAll_mk0), rfl, hB.frame _, fun h => by cases h⟩⟩

theorem holds : Rows.BankNewSaid :=
  OpenClaim.holds_of_wide 4 Try.f4 rfl rfl rfl rfl rfl rfl rfl ⟨rfl, rfl, rfl, rfl, rfl⟩ rfl rfl rfl rfl rfl (by kernel_rfl) Try.func4 (by kernel_rfl)
    (of_decide_eq_true (by kernel_rfl)) (by unfold Func.isWrapper; first | (rw [if_pos (by decide +kernel)]; kernel_rfl) | (rw [if_neg (by decide +kernel)]; exact ⟨rfl, rfl⟩))
    (fun os started H enc _ => lifted os started H enc)
end Go.Proofs.Ytoemjfjmpmngead.BankNew

/- All places of a bank, one behind the other, are its bytes (BankPlaces); no condition. -/
import Derived.Test.YtoemjfjmpmngeadBankLaw
import Derived.Deep.RegionHeld3
import Derived.WalkLawsBesides
import Derived.WalkSpells
import Derived.IntWalk
import Derived.Lib.Hide
import Derived.Test.YtoemjfjmpmngeadBox
import Derived.Test.YtoemjfjmpmngeadLayout
import Derived.ProofKit
import Derived.OpenShut
import Derived.ChangeMaps5
import Derived.Test.YtoemjfjmpmngeadInts
namespace Go.Proofs.Ytoemjfjmpmngead.BankPlaces
open Go.ChangeShapes Go.WideShapes Go.ChangeAt Go.RowKit Go.ChangeMaps
set_option linter.unusedVariables false
set_option linter.unusedSimpArgs false

set_option maxRecDepth 100000 in
set_option maxHeartbeats 16000000 in
theorem walk (s : ByteArray) (W : World) (hs : s.size ≤ maxLen) :
    Calls Try.prog 5 #[.string s] W fun e W' => e = .returned (.bool true) ∧ Below W.heap.size W W' := by
  by_cases hbig : 400 < s.size
  · have b1 : (s.size : Int) > 400 := by omega
    have hB : Below W.heap.size W W := Below.refl _ _
    go_enter Try.func5, Try.ntmps5
    go_wp2_with fail
    refine (shown08 _).mono ?_
    rintro e V1 ⟨rfl, hk⟩
    replace hB := below_seq hB hk
    clear hk
    go_wp2
    go_ret
    exact ⟨rfl, hB⟩
  · have b1 : ¬ (s.size : Int) > 400 := by omega
    have z1 : s.size ≤ maxLen := by unfold maxLen; omega
    have TI := Lib.hid (fun (k : Nat) (V : World) (hk : k ≤ 13) => own08Slot s (k : Int) V z1 ⟨by omega, by omega⟩)
    have HC := Lib.hid (fun k => catT_size s k)
    have HK := Lib.hid (fun k => (show catT s k ++ slotT s (k : Int) = catT s (k + 1) from rfl))
    have HS := Lib.hid (fun k => slotT_small s k)
    by_cases hn : slotsF s.size = 0
    · have HA := Lib.hid (catT_none hn 14)
      have TL := Lib.hid (fun (V : World) => (show Calls Try.prog 21 #[.int .i64 (s.size : Int)] V fun e W' => e = .returned (.int .i64 0) ∧ W' = V from by have h := ref05Slots (s.size : Int) V; rwa [hn] at h))
      have TS := Lib.hid (fun (V : World) => (show Calls Try.prog 19 #[.string s] V fun e W' => ∃ A c, e = .returned (.slice A 0 c) ∧ IntsAt W' A [] ∧ Below V.heap.size V W' from by have h := own08States s V z1; rwa [show statesL s = [] from by unfold statesL; rw [hn]; rfl] at h))
      clear hn z1
      have hB : Below W.heap.size W W := Below.refl _ _
      go_enter Try.func5, Try.ntmps5
      go_wp2_with fail
      refine (shown08 _).mono ?_
      rintro e V1 ⟨rfl, hk⟩
      replace hB := below_seq hB hk
      clear hk
      go_wp2
      go_loopw [3, 4] (fun v i w => ∃ k : Nat, k ≤ 14 ∧ i = .int .i64 k ∧ v = .string (catT s k) ∧ Below W.heap.size W w) (fun _ i _ => 14 - (intOf i).toNat)
      case atStart => exact ⟨0, by omega, rfl, rfl, hB⟩
      case round =>
        clear hB
        obtain ⟨k, hk, rfl, rfl, hB⟩ := hrel
        by_cases hlt : k ≤ 13
        · have hc := HC.out k
          have hs2 := HS.out (k : Int)
          have hP := Lib.hid (HK.out k)
          have i1 : (k : Int) ≤ 13 := by omega
          have o1 : ¬ 9223372036854775807 < (catT s k).size + (slotT s (k : Int)).size := by omega
          clear hc hs2
          go_wp2_with fail
          refine (TI.out k _ hlt).mono ?_
          rintro e V2 ⟨rfl, hk⟩
          replace hB := below_seq hB hk
          clear hk
          go_wp2
          go_roundw
          case rel => exact ⟨k + 1, by omega, by go_num, by rw [← hP.out], hB⟩
          case measure => simp [intOf]; omega
        · obtain rfl : k = 14 := by omega
          have hA := HA.out
          generalize catT s 14 = C at *
          rw [hA]
          clear hA HA
          go_wp2_with fail
          refine (TL.out _).mono ?_
          rintro e w' ⟨rfl, hw⟩
          rw [hw]
          clear hw w'
          go_wp2_with fail
          refine (TS.out _).mono ?_
          rintro e V9 ⟨A, c, rfl, hAA, hk9⟩
          replace hB := below_seq hB hk9
          clear hk9
          go_wp2
          go_ret
          exact ⟨rfl, hB⟩
    · have hp := slots_size hn
      obtain ⟨n, hnn⟩ := Int.eq_ofNat_of_zero_le (by omega : 0 ≤ slotsF s.size)
      have HA := Lib.hid (catT_all hnn (by omega))
      have n1 : ((n : Int) == 0) = false := beq_eq_false_iff_ne.2 (by omega)
      have TL := Lib.hid (fun (V : World) => (show Calls Try.prog 21 #[.int .i64 (s.size : Int)] V fun e W' => e = .returned (.int .i64 (n : Int)) ∧ W' = V from by have h := ref05Slots (s.size : Int) V; rwa [hnn] at h))
      have TM := Lib.hid (fun (V : World) => (show Calls Try.prog 23 #[.string s, .int .i64 (-1)] V fun e W' => e = .returned (.string ⟨#[]⟩) ∧ Below V.heap.size V W' from by have h := own08Slot s (-1) V z1 ⟨by decide, by decide⟩; rwa [slotT_out (by omega)] at h))
      clear hn hp hnn z1
      have hB : Below W.heap.size W W := Below.refl _ _
      go_enter Try.func5, Try.ntmps5
      go_wp2_with fail
      refine (shown08 _).mono ?_
      rintro e V1 ⟨rfl, hk⟩
      replace hB := below_seq hB hk
      clear hk
      go_wp2
      go_loopw [3, 4] (fun v i w => ∃ k : Nat, k ≤ 14 ∧ i = .int .i64 k ∧ v = .string (catT s k) ∧ Below W.heap.size W w) (fun _ i _ => 14 - (intOf i).toNat)
      case atStart => exact ⟨0, by omega, rfl, rfl, hB⟩
      case round =>
        clear hB
        obtain ⟨k, hk, rfl, rfl, hB⟩ := hrel
        by_cases hlt : k ≤ 13
        · have hc := HC.out k
          have hs2 := HS.out (k : Int)
          have hP := Lib.hid (HK.out k)
          have i1 : (k : Int) ≤ 13 := by omega
          have o1 : ¬ 9223372036854775807 < (catT s k).size + (slotT s (k : Int)).size := by omega
          clear hc hs2
          go_wp2_with fail
          refine (TI.out k _ hlt).mono ?_
          rintro e V2 ⟨rfl, hk⟩
          replace hB := below_seq hB hk
          clear hk
          go_wp2
          go_roundw
          case rel => exact ⟨k + 1, by omega, by go_num, by rw [← hP.out], hB⟩
          case measure => simp [intOf]; omega
        · obtain rfl : k = 14 := by omega
          have hA := HA.out
          generalize catT s 14 = C at *
          rw [hA]
          clear hA HA
          go_wp2_with fail
          refine (TL.out _).mono ?_
          rintro e w' ⟨rfl, hw⟩
          rw [hw]
          clear hw w'
          go_wp2_with fail
          refine (TM.out _).mono ?_
          rintro e V3 ⟨rfl, hk⟩
          replace hB := below_seq hB hk
          clear hk
          go_wp2
          go_ret
          exact ⟨rfl, hB⟩

theorem own : ownKnob Try.prog.godebug = none := by kernel_rfl

set_option maxRecDepth 100000 in
theorem lifted (os : Os) (started : os.Started) (H : Type) (enc : TypeId × Value → H) :
    ReturnsInHanded {} Try.checked os 5 .any (Rows.bankPlacesSpec.pre6 enc Try.prog Try.f5 Rows.bankPlacesRow.domain false) (Rows.bankPlacesSpec.post enc Try.prog Try.f5 false true false false) := by
  refine returnsInHanded_of_change (C := Try.checked) own started (by kernel_rfl) Try.func5
    (ChangeSpec.witness6 (enc := enc) (C := Try.checked) false ⟨#[], #[.string ⟨#[]⟩], []⟩ 8 (by kernel_rfl) (by kernel_rfl) (by kernel_rfl) (by kernel_rfl)) ?_
  intro W base args ds gs before hval hW _ _
  have hW' := hW
  obtain ⟨p, q, hA0, hV, rfl, hfz, hnd⟩ := hW
  have hA : DataW.TrodAll enc Try.prog W 0 (fun _ => true) true Try.f5.params.toList args.toList ds p := hA0
  rw [Try.params5] at hA hval
  obtain ⟨v0, vs0, d0, ds0, p0, q0, hargs, rfl, rfl, h0, r0⟩ := trodAll_cons hA
  obtain ⟨rfl, rfl, rfl⟩ := trodAll_nil r0
  obtain rfl : args = #[v0] := by cases args; simp_all
  obtain ⟨rfl, rfl⟩ := trodVars_none hV
  obtain ⟨s0, rfl, rfl, rfl, hs0⟩ := open_string Try.underlying9 (hval 0 9 v0 rfl rfl) h0
  clear hA0
  simp only [List.append_nil] at hW'
  refine (walk s0 W hs0).mono fun e W' ⟨he, hB⟩ => ?_
  subst he
  exact ⟨_, rfl, ⟨_, _, _, [], _, [], hW', trodAll_cons_mk (shut_bool Try.underlying4 _) trodAll_mk0, (trodAll_cons_mk (shut_string Try.underlying9 hs0) trodAll_mk0), rfl, hB.frame _, fun h => by cases h⟩⟩

theorem holds : Rows.BankPlacesSaid :=
  OpenClaim.holds_of_wide 5 Try.f5 rfl rfl rfl rfl rfl rfl rfl ⟨rfl, rfl, rfl, rfl, rfl⟩ rfl rfl rfl rfl rfl (by kernel_rfl) Try.func5 (by kernel_rfl)
    (of_decide_eq_true (by kernel_rfl)) (by unfold Func.isWrapper; first | (rw [if_pos (by decide +kernel)]; kernel_rfl) | (rw [if_neg (by decide +kernel)]; exact ⟨rfl, rfl⟩))
    (fun os started H enc _ => lifted os started H enc)
end Go.Proofs.Ytoemjfjmpmngead.BankPlaces

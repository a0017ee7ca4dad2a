/- The next slot, and all behind it, are blank, and the one ahead of it is not, or there is none (ScanNext); no condition. -/
import Derived.Test.YtoemjfjmpmngeadScanLaw
import Derived.Test.YtoemjfjmpmngeadBankRef
import Derived.Deep.RegionHeld3
import Derived.WalkLawsBesides
import Derived.WalkSpells
import Derived.IntWalk
import Derived.Lib.Hide
import Derived.Test.YtoemjfjmpmngeadBox
import Derived.Test.YtoemjfjmpmngeadLayout
import Derived.ProofKit
import Derived.OpenShut
import Derived.ChangeMaps5
import Derived.Test.YtoemjfjmpmngeadInts
namespace Go.Proofs.Ytoemjfjmpmngead.ScanNext
open Go.ChangeShapes Go.WideShapes Go.ChangeAt Go.RowKit Go.ChangeMaps
set_option linter.unusedVariables false
set_option linter.unusedSimpArgs false

set_option maxRecDepth 100000 in
set_option maxHeartbeats 16000000 in
theorem walk (s : ByteArray) (W : World) (hs : s.size ≤ maxLen) :
    Calls Try.prog 9 #[.string s] W fun e W' => e = .returned (.bool true) ∧ Below W.heap.size W W' := by
  by_cases hbig : 400 < s.size
  · have b1 : (s.size : Int) > 400 := by omega
    have hB : Below W.heap.size W W := Below.refl _ _
    go_enter Try.func9, Try.ntmps9
    go_wp2_with fail
    refine (shown09 _).mono ?_
    rintro e V1 ⟨rfl, hk⟩
    replace hB := below_seq hB hk
    clear hk
    go_wp2
    go_ret
    exact ⟨rfl, hB⟩
  · have b1 : ¬ (s.size : Int) > 400 := by omega
    have z1 : s.size ≤ maxLen := by unfold maxLen; omega
    have TL := Lib.hid (fun (V : World) => (show Calls Try.prog 21 #[.int .i64 (s.size : Int)] V fun e W' => e = .returned (.int .i64 (slotsN s : Int)) ∧ W' = V from by have h := ref05Slots (s.size : Int) V; rwa [← slotsN_eq] at h))
    have TK := Lib.hid (fun (V : World) => own09Next s V z1)
    have TS := Lib.hid (fun (i : Nat) (V : World) (h : i ≤ 12) => ref08State s (i : Int) V z1 ⟨by omega, by omega⟩)
    have hN := slotsN_le s
    have hK := nextF_le s
    by_cases hk : nextF s = 0
    · rw [hk] at TK
      by_cases hn : slotsN s = 0
      · rw [hn] at TL
        clear hk hn hN hK z1
        have hB : Below W.heap.size W W := Below.refl _ _
        go_enter Try.func9, Try.ntmps9
        go_wp2_with fail
        refine (shown09 _).mono ?_
        rintro e V1 ⟨rfl, hk⟩
        replace hB := below_seq hB hk
        clear hk
        go_wp2_with fail
        refine (TL.out _).mono ?_
        rintro e w' ⟨rfl, hw⟩
        rw [hw]
        clear hw w'
        go_wp2_with fail
        refine (TK.out _).mono ?_
        rintro e V2 ⟨rfl, hk⟩
        replace hB := below_seq hB hk
        clear hk
        go_wp2
        go_ret
        exact ⟨rfl, hB⟩
      · have hne : stateF s (slotsN s : Int) ≠ 0 := by
          have hg : nextG s (slotsN s) = slotsN s + 1 := by unfold nextF at hk; have := nextG_le s (slotsN s); split at hk <;> omega
          have h := nextG_ahead s (slotsN s) (by omega)
          rwa [hg, show ((slotsN s + 1 : Nat) : Int) - 1 = (slotsN s : Int) from by omega] at h
        have n1 : (stateF s (slotsN s : Int) != 0) = true := bne_iff_ne.2 hne
        have n2 : ((slotsN s : Int) == 0) = false := beq_eq_false_iff_ne.2 (by omega)
        have TN := Lib.hid (fun (V : World) => TS.out (slotsN s) V hN)
        clear hk hn hK hne z1 TS
        generalize stateF s (slotsN s : Int) = x at *
        generalize slotsN s = n at *
        have hB : Below W.heap.size W W := Below.refl _ _
        go_enter Try.func9, Try.ntmps9
        go_wp2_with fail
        refine (shown09 _).mono ?_
        rintro e V1 ⟨rfl, hk⟩
        replace hB := below_seq hB hk
        clear hk
        go_wp2_with fail
        refine (TL.out _).mono ?_
        rintro e w' ⟨rfl, hw⟩
        rw [hw]
        clear hw w'
        go_wp2_with fail
        refine (TK.out _).mono ?_
        rintro e V2 ⟨rfl, hk⟩
        replace hB := below_seq hB hk
        clear hk
        go_wp2_with fail
        refine (TN.out _).mono ?_
        rintro e V3 ⟨rfl, hk⟩
        replace hB := below_seq hB hk
        clear hk
        go_wp2
        go_ret
        exact ⟨rfl, hB⟩
    · obtain ⟨k, hk1⟩ : ∃ k, nextF s = k + 1 := ⟨nextF s - 1, by omega⟩
      obtain ⟨q1, q2, q3⟩ := next_all hk1
      have hz := Lib.hid (fun (j : Nat) (h1 : k < j) (h2 : j ≤ slotsN s) => (show stateF s (j : Int) = 0 from by have := q2 (j - 1) (by omega) (by omega); rwa [show ((j - 1 : Nat) : Int) + 1 = (j : Int) from by omega] at this))
      have ha := Lib.hid (show k ≠ 0 → (stateF s (k : Int) != 0) = true from fun h => bne_iff_ne.2 (by have h2 := nextG_ahead s k (by omega); rwa [q3, show ((k + 1 : Nat) : Int) - 1 = (k : Int) from by omega] at h2))
      rw [hk1] at TK
      have TZ := Lib.hid (fun (j : Nat) (V : World) (h1 : k < j) (h2 : j ≤ slotsN s) => (show Calls Try.prog 26 #[.string s, .int .i64 (j : Int)] V fun e W' => e = .returned (.int .i64 0) ∧ Below V.heap.size V W' from by have h := TS.out j V (by omega); rwa [hz.out j h1 h2] at h))
      have TA := Lib.hid (fun (V : World) => TS.out k V (by omega))
      generalize stateF s (k : Int) = x at *
      clear hk hk1 q2 q3 z1 TS hz hK
      generalize slotsN s = n at *
      have q := Lib.hid (q1)
      have n1 : (((k + 1 : Nat) : Int) == 0) = false := beq_eq_false_iff_ne.2 (by omega)
      have n2 : ¬ ((k + 1 : Nat) : Int) < 1 := by omega
      have n3 : ¬ ((k + 1 : Nat) : Int) > (n : Int) := by omega
      have hB : Below W.heap.size W W := Below.refl _ _
      go_enter Try.func9, Try.ntmps9
      go_wp2_with fail
      refine (shown09 _).mono ?_
      rintro e V1 ⟨rfl, hk⟩
      replace hB := below_seq hB hk
      clear hk
      go_wp2_with fail
      refine (TL.out _).mono ?_
      rintro e w' ⟨rfl, hw⟩
      rw [hw]
      clear hw w'
      go_wp2_with fail
      refine (TK.out _).mono ?_
      rintro e V2 ⟨rfl, hk⟩
      replace hB := below_seq hB hk
      clear hk
      go_wp2
      go_loopw [5] (fun i w => ∃ j : Nat, k < j ∧ j ≤ n + 1 ∧ i = .int .i64 j ∧ Below W.heap.size W w) (fun i _ => n + 1 - (intOf i).toNat)
      case atStart => exact ⟨k + 1, by omega, by have := q.out; omega, by go_num, hB⟩
      case round =>
        clear hB
        obtain ⟨j, hj, hjn, rfl, hB⟩ := hrel
        by_cases hlt : j ≤ n
        · have i1 : (j : Int) ≤ (n : Int) := by omega
          go_wp2_with fail
          refine (TZ.out j _ hj hlt).mono ?_
          rintro e V3 ⟨rfl, hk⟩
          replace hB := below_seq hB hk
          clear hk
          go_wp2
          go_roundw
          case rel => exact ⟨j + 1, by omega, by omega, by go_num, hB⟩
          case measure => simp [intOf]; omega
        · obtain rfl : j = n + 1 := by omega
          have i1 : ¬ ((n + 1 : Nat) : Int) ≤ (n : Int) := by omega
          by_cases h0 : k = 0
          · subst h0
            go_wp2
            go_ret
            exact ⟨rfl, hB⟩
          · have n4 := ha.out h0
            have n5 : ((k : Int) + 1 == 1) = false := beq_eq_false_iff_ne.2 (by omega)
            have n6 : ¬ (k : Int) = 0 := by omega
            have n7 : (k : Int) + 1 - 1 = (k : Int) := by omega
            go_wp2_with fail
            refine (TA.out _).mono ?_
            rintro e V4 ⟨rfl, hk⟩
            replace hB := below_seq hB hk
            clear hk
            go_wp2
            go_ret
            exact ⟨rfl, hB⟩

theorem own : ownKnob Try.prog.godebug = none := by kernel_rfl

set_option maxRecDepth 100000 in
theorem lifted (os : Os) (started : os.Started) (H : Type) (enc : TypeId × Value → H) :
    ReturnsInHanded {} Try.checked os 9 .any (Rows.scanNextSpec.pre6 enc Try.prog Try.f9 Rows.scanNextRow.domain false) (Rows.scanNextSpec.post enc Try.prog Try.f9 false true false false) := by
  refine returnsInHanded_of_change (C := Try.checked) own started (by kernel_rfl) Try.func9
    (ChangeSpec.witness6 (enc := enc) (C := Try.checked) false ⟨#[], #[.string ⟨#[]⟩], []⟩ 8 (by kernel_rfl) (by kernel_rfl) (by kernel_rfl) (by kernel_rfl)) ?_
  intro W base args ds gs before hval hW _ _
  have hW' := hW
  obtain ⟨p, q, hA0, hV, rfl, hfz, hnd⟩ := hW
  have hA : DataW.TrodAll enc Try.prog W 0 (fun _ => true) true Try.f9.params.toList args.toList ds p := hA0
  rw [Try.params9] at hA hval
  obtain ⟨v0, vs0, d0, ds0, p0, q0, hargs, rfl, rfl, h0, r0⟩ := trodAll_cons hA
  obtain ⟨rfl, rfl, rfl⟩ := trodAll_nil r0
  obtain rfl : args = #[v0] := by cases args; simp_all
  obtain ⟨rfl, rfl⟩ := trodVars_none hV
  obtain ⟨s0, rfl, rfl, rfl, hs0⟩ := open_string Try.underlying9 (hval 0 9 v0 rfl rfl) h0
  clear hA0
  simp only [List.append_nil] at hW'
  refine (walk s0 W hs0).mono fun e W' ⟨he, hB⟩ => ?_
  subst he
  exact ⟨_, rfl, ⟨_, _, _, [], _, [], hW', trodAll_cons_mk (shut_bool Try.underlying4 _) trodAll_mk0, (trodAll_cons_mk (shut_string Try.underlying9 hs0) trodAll_mk0), rfl, hB.frame _, fun h => by cases h⟩⟩

theorem holds : Rows.ScanNextSaid :=
  OpenClaim.holds_of_wide 9 Try.f9 rfl rfl rfl rfl rfl rfl rfl ⟨rfl, rfl, rfl, rfl, rfl⟩ rfl rfl rfl rfl rfl (by kernel_rfl) Try.func9 (by kernel_rfl)
    (of_decide_eq_true (by kernel_rfl)) (by unfold Func.isWrapper; first | (rw [if_pos (by decide +kernel)]; kernel_rfl) | (rw [if_neg (by decide +kernel)]; exact ⟨rfl, rfl⟩))
    (fun os started H enc _ => lifted os started H enc)
end Go.Proofs.Ytoemjfjmpmngead.ScanNext

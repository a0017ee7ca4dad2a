/- What is back is fixed as it was (FixedBack); no condition. -/
import Derived.Test.YthebafhbcblmhaaFixedLaw
import Derived.Deep.RegionHeld3
import Derived.WalkLawsBesides
import Derived.WalkSpells
import Derived.IntWalk
import Derived.Lib.Hide
import Derived.Test.YthebafhbcblmhaaBox
import Derived.ProofKit
import Derived.OpenShut
import Derived.ChangeMaps5
import Derived.Test.YthebafhbcblmhaaInts
namespace Go.Proofs.Ythebafhbcblmhaa.FixedBack
open Go.ChangeShapes Go.WideShapes Go.ChangeAt Go.RowKit Go.ChangeMaps
set_option linter.unusedVariables false
set_option linter.unusedSimpArgs false
attribute [local go_sem] unary_negF

set_option maxRecDepth 100000 in
set_option maxHeartbeats 4000000 in
theorem walk (n : Int) (W : World) (hn : -9223372036854775808 ≤ n ∧ n ≤ 9223372036854775807) :
    Calls Try.prog 6 #[.int .i64 n] W fun e W' => e = .returned (.bool true) ∧ Below W.heap.size W W' := by
  by_cases l1 : -1474560 ≤ n
  · by_cases l2 : n ≤ 1474560
    · have q1 : ¬ n < -1474560 := by omega
      have q2 : ¬ n > 1474560 := by omega
      by_cases z : n = 0
      · skip
        subst z
        have z : (0 : Int) = 0 := rfl
        have hB : Below W.heap.size W W := Below.refl _ _
        go_enter Try.func6, Try.ntmps6
        go_wp2_with fail
        refine (shown13 _).mono ?_
        rintro e V1 ⟨rfl, hk⟩
        replace hB := below_seq hB hk
        clear hk
        go_wp2_with fail
        refine (own13Back (0 : Int) _ hn).mono ?_
        rintro e V2 ⟨⟨w1, rfl, hb1⟩, hk⟩
        replace hB := below_seq hB hk
        clear hk
        obtain ⟨x1, x2, x3⟩ := back_fix hb1 l1 l2
        have TF := fun (V : World) => own13Fix w1 180 V hb1.2.1 (by decide)
        simp only [x1, x2] at TF
        replace TF := Lib.hid TF
        clear x1 x2 x3 hb1
        go_wp2_with fail
        refine (TF.out _).mono ?_
        rintro e V3 ⟨rfl, hk⟩
        replace hB := below_seq hB hk
        clear hk
        go_wp2_with fail
        refine (own13Back (0 : Int) _ hn).mono ?_
        rintro e V4 ⟨⟨w2, rfl, hb2⟩, hk⟩
        replace hB := below_seq hB hk
        clear hk
        have TC := fun (V : World) => own13Class w2 V hb2.2.1
        simp only [(back_fix hb2 l1 l2).2.2, if_pos z] at TC
        replace TC := Lib.hid TC
        clear hb2
        go_wp2_with fail
        refine (TC.out _).mono ?_
        rintro e V5 ⟨rfl, hk⟩
        replace hB := below_seq hB hk
        clear hk
        clear TC
        go_wp2_with fail
        refine (own13Back (0 : Int) _ hn).mono ?_
        rintro e V6 ⟨⟨w3, rfl, hb3⟩, hk⟩
        replace hB := below_seq hB hk
        clear hk
        have TC := fun (V : World) => own13Class w3 V hb3.2.1
        simp only [(back_fix hb3 l1 l2).2.2, if_pos z] at TC
        replace TC := Lib.hid TC
        clear hb3
        go_wp2_with fail
        refine (TC.out _).mono ?_
        rintro e V7 ⟨rfl, hk⟩
        replace hB := below_seq hB hk
        clear hk
        clear TC
        go_wp2
        go_ret
        exact ⟨rfl, hB⟩
      · by_cases y : n < 0
        · skip
          have zb : (n == 0) = false := beq_eq_false_iff_ne.2 z
          have hB : Below W.heap.size W W := Below.refl _ _
          go_enter Try.func6, Try.ntmps6
          go_wp2_with fail
          refine (shown13 _).mono ?_
          rintro e V1 ⟨rfl, hk⟩
          replace hB := below_seq hB hk
          clear hk
          go_wp2_with fail
          refine (own13Back n _ hn).mono ?_
          rintro e V2 ⟨⟨w1, rfl, hb1⟩, hk⟩
          replace hB := below_seq hB hk
          clear hk
          obtain ⟨x1, x2, x3⟩ := back_fix hb1 l1 l2
          have TF := fun (V : World) => own13Fix w1 180 V hb1.2.1 (by decide)
          simp only [x1, x2] at TF
          replace TF := Lib.hid TF
          clear x1 x2 x3 hb1
          go_wp2_with fail
          refine (TF.out _).mono ?_
          rintro e V3 ⟨rfl, hk⟩
          replace hB := below_seq hB hk
          clear hk
          go_wp2_with fail
          refine (own13Back n _ hn).mono ?_
          rintro e V4 ⟨⟨w2, rfl, hb2⟩, hk⟩
          replace hB := below_seq hB hk
          clear hk
          have TC := fun (V : World) => own13Class w2 V hb2.2.1
          simp only [(back_fix hb2 l1 l2).2.2, if_neg (show ¬ n = 0 by omega), if_pos (show n < 0 by omega)] at TC
          replace TC := Lib.hid TC
          clear hb2
          go_wp2_with fail
          refine (TC.out _).mono ?_
          rintro e V5 ⟨rfl, hk⟩
          replace hB := below_seq hB hk
          clear hk
          clear TC
          go_wp2_with fail
          refine (own13Back n _ hn).mono ?_
          rintro e V6 ⟨⟨w3, rfl, hb3⟩, hk⟩
          replace hB := below_seq hB hk
          clear hk
          have TC := fun (V : World) => own13Class w3 V hb3.2.1
          simp only [(back_fix hb3 l1 l2).2.2, if_neg (show ¬ n = 0 by omega), if_pos (show n < 0 by omega)] at TC
          replace TC := Lib.hid TC
          clear hb3
          go_wp2_with fail
          refine (TC.out _).mono ?_
          rintro e V7 ⟨rfl, hk⟩
          replace hB := below_seq hB hk
          clear hk
          clear TC
          go_wp2
          go_ret
          exact ⟨rfl, hB⟩
        · skip
          have zb : (n == 0) = false := beq_eq_false_iff_ne.2 z
          have yb : decide (n < 0) = false := decide_eq_false y
          have hB : Below W.heap.size W W := Below.refl _ _
          go_enter Try.func6, Try.ntmps6
          go_wp2_with fail
          refine (shown13 _).mono ?_
          rintro e V1 ⟨rfl, hk⟩
          replace hB := below_seq hB hk
          clear hk
          go_wp2_with fail
          refine (own13Back n _ hn).mono ?_
          rintro e V2 ⟨⟨w1, rfl, hb1⟩, hk⟩
          replace hB := below_seq hB hk
          clear hk
          obtain ⟨x1, x2, x3⟩ := back_fix hb1 l1 l2
          have TF := fun (V : World) => own13Fix w1 180 V hb1.2.1 (by decide)
          simp only [x1, x2] at TF
          replace TF := Lib.hid TF
          clear x1 x2 x3 hb1
          go_wp2_with fail
          refine (TF.out _).mono ?_
          rintro e V3 ⟨rfl, hk⟩
          replace hB := below_seq hB hk
          clear hk
          go_wp2_with fail
          refine (own13Back n _ hn).mono ?_
          rintro e V4 ⟨⟨w2, rfl, hb2⟩, hk⟩
          replace hB := below_seq hB hk
          clear hk
          have TC := fun (V : World) => own13Class w2 V hb2.2.1
          simp only [(back_fix hb2 l1 l2).2.2, if_neg (show ¬ n = 0 by omega), if_neg (show ¬ n < 0 by omega)] at TC
          replace TC := Lib.hid TC
          clear hb2
          go_wp2_with fail
          refine (TC.out _).mono ?_
          rintro e V5 ⟨rfl, hk⟩
          replace hB := below_seq hB hk
          clear hk
          clear TC
          go_wp2_with fail
          refine (own13Back n _ hn).mono ?_
          rintro e V6 ⟨⟨w3, rfl, hb3⟩, hk⟩
          replace hB := below_seq hB hk
          clear hk
          have TC := fun (V : World) => own13Class w3 V hb3.2.1
          simp only [(back_fix hb3 l1 l2).2.2, if_neg (show ¬ n = 0 by omega), if_neg (show ¬ n < 0 by omega)] at TC
          replace TC := Lib.hid TC
          clear hb3
          go_wp2_with fail
          refine (TC.out _).mono ?_
          rintro e V7 ⟨rfl, hk⟩
          replace hB := below_seq hB hk
          clear hk
          clear TC
          go_wp2
          go_ret
          exact ⟨rfl, hB⟩
    · have q1 : ¬ n < -1474560 := by omega
      have q2 : n > 1474560 := by omega
      have hB : Below W.heap.size W W := Below.refl _ _
      go_enter Try.func6, Try.ntmps6
      go_wp2_with fail
      refine (shown13 _).mono ?_
      rintro e V1 ⟨rfl, hk⟩
      replace hB := below_seq hB hk
      clear hk
      go_wp2
      go_ret
      exact ⟨rfl, hB⟩
  · have q1 : n < -1474560 := by omega
    have hB : Below W.heap.size W W := Below.refl _ _
    go_enter Try.func6, Try.ntmps6
    go_wp2_with fail
    refine (shown13 _).mono ?_
    rintro e V1 ⟨rfl, hk⟩
    replace hB := below_seq hB hk
    clear hk
    go_wp2
    go_ret
    exact ⟨rfl, hB⟩

theorem own : ownKnob Try.prog.godebug = none := by kernel_rfl

set_option maxRecDepth 100000 in
theorem lifted (os : Os) (started : os.Started) (H : Type) (enc : TypeId × Value → H) :
    ReturnsInHanded {} Try.checked os 6 .any (Rows.fixedBackSpec.pre6 enc Try.prog Try.f6 Rows.fixedBackRow.domain false) (Rows.fixedBackSpec.post enc Try.prog Try.f6 false true false false) := by
  refine returnsInHanded_of_change (C := Try.checked) own started (by kernel_rfl) Try.func6
    (ChangeSpec.witness6 (enc := enc) (C := Try.checked) false ⟨#[], #[.int .i64 0], []⟩ 8 (by kernel_rfl) (by kernel_rfl) (by kernel_rfl) (by kernel_rfl)) ?_
  intro W base args ds gs before hval hW _ _
  have hW' := hW
  obtain ⟨p, q, hA0, hV, rfl, hfz, hnd⟩ := hW
  have hA : DataW.TrodAll enc Try.prog W 0 (fun _ => true) true Try.f6.params.toList args.toList ds p := hA0
  rw [Try.params6] at hA hval
  obtain ⟨v0, vs0, d0, ds0, p0, q0, hargs, rfl, rfl, h0, r0⟩ := trodAll_cons hA
  obtain ⟨rfl, rfl, rfl⟩ := trodAll_nil r0
  obtain rfl : args = #[v0] := by cases args; simp_all
  obtain ⟨rfl, rfl⟩ := trodVars_none hV
  obtain ⟨a0, rfl, rfl, rfl, w0⟩ := open_int Try.underlying3 (hval 0 3 v0 rfl rfl) h0
  clear hA0
  simp only [List.append_nil] at hW'
  refine (walk a0 W (int_i64 w0)).mono fun e W' ⟨he, hB⟩ => ?_
  subst he
  exact ⟨_, rfl, ⟨_, _, _, [], _, [], hW', trodAll_cons_mk (shut_bool Try.underlying4 _) trodAll_mk0, (trodAll_cons_mk (shut_int Try.underlying3 w0) trodAll_mk0), rfl, hB.frame _, fun h => by cases h⟩⟩

theorem holds : Rows.FixedBackSaid :=
  OpenClaim.holds_of_wide 6 Try.f6 rfl rfl rfl rfl rfl rfl rfl ⟨rfl, rfl, rfl, rfl, rfl⟩ rfl rfl rfl rfl rfl (by kernel_rfl) Try.func6 (by kernel_rfl)
    (of_decide_eq_true (by kernel_rfl)) (by unfold Func.isWrapper; first | (rw [if_pos (by decide +kernel)]; kernel_rfl) | (rw [if_neg (by decide +kernel)]; exact ⟨rfl, rfl⟩))
    (fun os started H enc _ => lifted os started H enc)
end Go.Proofs.Ythebafhbcblmhaa.FixedBack

/- Numbers that are none, and infinite ones, are told by their errors, in any range; 0 is in every range that there is (FixedEdges); no condition. -/
import Derived.Test.YthebafhbcblmhaaFixedLaw
import Derived.Deep.RegionHeld3
import Derived.WalkLawsBesides
import Derived.WalkSpells
import Derived.IntWalk
import Derived.Lib.Hide
import Derived.Test.YthebafhbcblmhaaBox
import Derived.ProofKit
import Derived.OpenShut
import Derived.ChangeMaps5
import Derived.Test.YthebafhbcblmhaaInts
namespace Go.Proofs.Ythebafhbcblmhaa.FixedEdges
open Go.ChangeShapes Go.WideShapes Go.ChangeAt Go.RowKit Go.ChangeMaps
set_option linter.unusedVariables false
set_option linter.unusedSimpArgs false
attribute [local go_sem] unary_negF

set_option maxRecDepth 100000 in
set_option maxHeartbeats 4000000 in
theorem walk (x : Nat) (most : Int) (W : World) (hx : x < 2 ^ 64) (hmost : -9223372036854775808 ≤ most ∧ most ≤ 9223372036854775807) :
    Calls Try.prog 8 #[.float .f64 x, .int .i64 most] W fun e W' => e = .returned (.bool true) ∧ Below W.heap.size W W' := by
  have TD := Lib.hid (fun (V : World) => own13Fix x most V hx hmost)
  have TC := Lib.hid (fun (V : World) => own13Class x V hx)
  by_cases h : isNum x
  · by_cases h1 : fv x = (mu infR : Int)
    · have hr : ¬ inRange x most := fun k => by have h5 := (in_fin h k).1; have h6 := mu_lt h5; unfold fv sgn at h1; split at h1 <;> omega
      have hE : fixE x most = 13 := by unfold fixE; rw [if_neg (Classical.not_not.2 h), if_neg hr]
      rw [(show classN x = 3 from by unfold classN; rw [if_neg (Classical.not_not.2 h), if_pos h1])] at TC
      rw [hE] at TD
      generalize fixN x most = N at *
      have hB : Below W.heap.size W W := Below.refl _ _
      go_enter Try.func8, Try.ntmps8
      go_wp2_with fail
      refine (TC.out _).mono ?_
      rintro e V1 ⟨rfl, hk⟩
      replace hB := below_seq hB hk
      clear hk
      go_wp2_with fail
      refine (TD.out _).mono ?_
      rintro e V2 ⟨rfl, hk⟩
      replace hB := below_seq hB hk
      clear hk
      go_wp2_with fail
      refine (shown13 _).mono ?_
      rintro e V3 ⟨rfl, hk⟩
      replace hB := below_seq hB hk
      clear hk
      go_wp2
      go_ret
      exact ⟨rfl, hB⟩
    · by_cases h2 : fv x = -(mu infR : Int)
      · have hr : ¬ inRange x most := fun k => by have h5 := (in_fin h k).1; have h6 := mu_lt h5; unfold fv sgn at h2; split at h2 <;> omega
        have hE : fixE x most = 13 := by unfold fixE; rw [if_neg (Classical.not_not.2 h), if_neg hr]
        rw [(show classN x = 4 from by unfold classN; rw [if_neg (Classical.not_not.2 h), if_neg h1, if_pos h2])] at TC
        rw [hE] at TD
        generalize fixN x most = N at *
        have hB : Below W.heap.size W W := Below.refl _ _
        go_enter Try.func8, Try.ntmps8
        go_wp2_with fail
        refine (TC.out _).mono ?_
        rintro e V1 ⟨rfl, hk⟩
        replace hB := below_seq hB hk
        clear hk
        go_wp2_with fail
        refine (TD.out _).mono ?_
        rintro e V2 ⟨rfl, hk⟩
        replace hB := below_seq hB hk
        clear hk
        go_wp2_with fail
        refine (shown13 _).mono ?_
        rintro e V3 ⟨rfl, hk⟩
        replace hB := below_seq hB hk
        clear hk
        go_wp2
        go_ret
        exact ⟨rfl, hB⟩
      · by_cases h3 : most < 0
        · have hr : ¬ inRange x most := fun k => by obtain ⟨k1, k2, k3, k4⟩ := k; omega
          have hE : fixE x most = 13 := by unfold fixE; rw [if_neg (Classical.not_not.2 h), if_neg hr]
          obtain ⟨C, hC⟩ : ∃ C, classN x = C := ⟨_, rfl⟩
          have hc : C = 0 ∨ C = 1 ∨ C = 2 := by { subst hC; unfold classN; rw [if_neg (Classical.not_not.2 h), if_neg h1, if_neg h2]; split <;> (try split) <;> decide }
          have c5 : ¬ C = 5 := by omega
          have c3 : ¬ C = 3 := by omega
          have c4 : ¬ C = 4 := by omega
          clear hc
          rw [hC] at TC
          rw [hE] at TD
          generalize fixN x most = N at *
          have hB : Below W.heap.size W W := Below.refl _ _
          go_enter Try.func8, Try.ntmps8
          go_wp2_with fail
          refine (TC.out _).mono ?_
          rintro e V1 ⟨rfl, hk⟩
          replace hB := below_seq hB hk
          clear hk
          go_wp2_with fail
          refine (TD.out _).mono ?_
          rintro e V2 ⟨rfl, hk⟩
          replace hB := below_seq hB hk
          clear hk
          go_wp2_with fail
          refine (shown13 _).mono ?_
          rintro e V3 ⟨rfl, hk⟩
          replace hB := below_seq hB hk
          clear hk
          go_wp2
          go_ret
          exact ⟨rfl, hB⟩
        · by_cases h4 : most > 180
          · have hr : ¬ inRange x most := fun k => by obtain ⟨k1, k2, k3, k4⟩ := k; omega
            have hE : fixE x most = 13 := by unfold fixE; rw [if_neg (Classical.not_not.2 h), if_neg hr]
            obtain ⟨C, hC⟩ : ∃ C, classN x = C := ⟨_, rfl⟩
            have hc : C = 0 ∨ C = 1 ∨ C = 2 := by { subst hC; unfold classN; rw [if_neg (Classical.not_not.2 h), if_neg h1, if_neg h2]; split <;> (try split) <;> decide }
            have c5 : ¬ C = 5 := by omega
            have c3 : ¬ C = 3 := by omega
            have c4 : ¬ C = 4 := by omega
            clear hc
            rw [hC] at TC
            rw [hE] at TD
            generalize fixN x most = N at *
            have hB : Below W.heap.size W W := Below.refl _ _
            go_enter Try.func8, Try.ntmps8
            go_wp2_with fail
            refine (TC.out _).mono ?_
            rintro e V1 ⟨rfl, hk⟩
            replace hB := below_seq hB hk
            clear hk
            go_wp2_with fail
            refine (TD.out _).mono ?_
            rintro e V2 ⟨rfl, hk⟩
            replace hB := below_seq hB hk
            clear hk
            go_wp2_with fail
            refine (shown13 _).mono ?_
            rintro e V3 ⟨rfl, hk⟩
            replace hB := below_seq hB hk
            clear hk
            go_wp2
            go_ret
            exact ⟨rfl, hB⟩
          · by_cases h5 : 0 < fv x
            · skip
              obtain ⟨E, hE⟩ : ∃ E, fixE x most = E := ⟨_, rfl⟩
              rw [(show classN x = 1 from by unfold classN; rw [if_neg (Classical.not_not.2 h), if_neg h1, if_neg h2, if_pos h5])] at TC
              rw [hE] at TD
              generalize fixN x most = N at *
              have hB : Below W.heap.size W W := Below.refl _ _
              go_enter Try.func8, Try.ntmps8
              go_wp2_with fail
              refine (TC.out _).mono ?_
              rintro e V1 ⟨rfl, hk⟩
              replace hB := below_seq hB hk
              clear hk
              go_wp2_with fail
              refine (TD.out _).mono ?_
              rintro e V2 ⟨rfl, hk⟩
              replace hB := below_seq hB hk
              clear hk
              go_wp2_with fail
              refine (shown13 _).mono ?_
              rintro e V3 ⟨rfl, hk⟩
              replace hB := below_seq hB hk
              clear hk
              go_wp2
              go_ret
              exact ⟨rfl, hB⟩
            · by_cases h6 : fv x < 0
              · skip
                obtain ⟨E, hE⟩ : ∃ E, fixE x most = E := ⟨_, rfl⟩
                rw [(show classN x = 2 from by unfold classN; rw [if_neg (Classical.not_not.2 h), if_neg h1, if_neg h2, if_neg h5, if_pos h6])] at TC
                rw [hE] at TD
                generalize fixN x most = N at *
                have hB : Below W.heap.size W W := Below.refl _ _
                go_enter Try.func8, Try.ntmps8
                go_wp2_with fail
                refine (TC.out _).mono ?_
                rintro e V1 ⟨rfl, hk⟩
                replace hB := below_seq hB hk
                clear hk
                go_wp2_with fail
                refine (TD.out _).mono ?_
                rintro e V2 ⟨rfl, hk⟩
                replace hB := below_seq hB hk
                clear hk
                go_wp2_with fail
                refine (shown13 _).mono ?_
                rintro e V3 ⟨rfl, hk⟩
                replace hB := below_seq hB hk
                clear hk
                go_wp2
                go_ret
                exact ⟨rfl, hB⟩
              · skip
                rw [(show classN x = 0 from by unfold classN; rw [if_neg (Classical.not_not.2 h), if_neg h1, if_neg h2, if_neg h5, if_neg h6])] at TC
                rw [(zeroFix x most h (by omega) (by omega) (by omega)).2] at TD
                generalize fixN x most = N at *
                have hB : Below W.heap.size W W := Below.refl _ _
                go_enter Try.func8, Try.ntmps8
                go_wp2_with fail
                refine (TC.out _).mono ?_
                rintro e V1 ⟨rfl, hk⟩
                replace hB := below_seq hB hk
                clear hk
                go_wp2_with fail
                refine (TD.out _).mono ?_
                rintro e V2 ⟨rfl, hk⟩
                replace hB := below_seq hB hk
                clear hk
                go_wp2_with fail
                refine (shown13 _).mono ?_
                rintro e V3 ⟨rfl, hk⟩
                replace hB := below_seq hB hk
                clear hk
                go_wp2
                go_ret
                exact ⟨rfl, hB⟩
  · skip
    rw [(nanClass h)] at TC
    rw [(nanFix h most).2] at TD
    generalize fixN x most = N at *
    have hB : Below W.heap.size W W := Below.refl _ _
    go_enter Try.func8, Try.ntmps8
    go_wp2_with fail
    refine (TC.out _).mono ?_
    rintro e V1 ⟨rfl, hk⟩
    replace hB := below_seq hB hk
    clear hk
    go_wp2_with fail
    refine (TD.out _).mono ?_
    rintro e V2 ⟨rfl, hk⟩
    replace hB := below_seq hB hk
    clear hk
    go_wp2_with fail
    refine (shown13 _).mono ?_
    rintro e V3 ⟨rfl, hk⟩
    replace hB := below_seq hB hk
    clear hk
    go_wp2
    go_ret
    exact ⟨rfl, hB⟩

theorem own : ownKnob Try.prog.godebug = none := by kernel_rfl

set_option maxRecDepth 100000 in
theorem lifted (os : Os) (started : os.Started) (H : Type) (enc : TypeId × Value → H) :
    ReturnsInHanded {} Try.checked os 8 .any (Rows.fixedEdgesSpec.pre6 enc Try.prog Try.f8 Rows.fixedEdgesRow.domain false) (Rows.fixedEdgesSpec.post enc Try.prog Try.f8 false true false false) := by
  refine returnsInHanded_of_change (C := Try.checked) own started (by kernel_rfl) Try.func8
    (ChangeSpec.witness6 (enc := enc) (C := Try.checked) false ⟨#[], #[.float .f64 0, .int .i64 0], []⟩ 8 (by kernel_rfl) (by kernel_rfl) (by kernel_rfl) (by kernel_rfl)) ?_
  intro W base args ds gs before hval hW _ _
  have hW' := hW
  obtain ⟨p, q, hA0, hV, rfl, hfz, hnd⟩ := hW
  have hA : DataW.TrodAll enc Try.prog W 0 (fun _ => true) true Try.f8.params.toList args.toList ds p := hA0
  rw [Try.params8] at hA hval
  obtain ⟨v0, vs0, d0, ds0, p0, q0, hargs, rfl, rfl, h0, r0⟩ := trodAll_cons hA
  obtain ⟨v1, vs1, d1, ds1, p1, q1, rfl, rfl, rfl, h1, r1⟩ := trodAll_cons r0
  obtain ⟨rfl, rfl, rfl⟩ := trodAll_nil r1
  obtain rfl : args = #[v0, v1] := by cases args; simp_all
  obtain ⟨rfl, rfl⟩ := trodVars_none hV
  obtain ⟨a0, rfl, rfl, rfl, w0⟩ := open_float Try.underlying22 (hval 0 22 v0 rfl rfl) h0
  obtain ⟨a1, rfl, rfl, rfl, w1⟩ := open_int Try.underlying3 (hval 1 3 v1 rfl rfl) h1
  clear hA0
  simp only [List.append_nil] at hW'
  refine (walk a0 a1 W (float_wf w0) (int_i64 w1)).mono fun e W' ⟨he, hB⟩ => ?_
  subst he
  exact ⟨_, rfl, ⟨_, _, _, [], _, [], hW', trodAll_cons_mk (shut_bool Try.underlying4 _) trodAll_mk0, (trodAll_cons_mk (shut_float Try.underlying22 w0) (trodAll_cons_mk (shut_int Try.underlying3 w1) trodAll_mk0)), rfl, hB.frame _, fun h => by cases h⟩⟩

theorem holds : Rows.FixedEdgesSaid :=
  OpenClaim.holds_of_wide 8 Try.f8 rfl rfl rfl rfl rfl rfl rfl ⟨rfl, rfl, rfl, rfl, rfl⟩ rfl rfl rfl rfl rfl (by kernel_rfl) Try.func8 (by kernel_rfl)
    (of_decide_eq_true (by kernel_rfl)) (by unfold Func.isWrapper; first | (rw [if_pos (by decide +kernel)]; kernel_rfl) | (rw [if_neg (by decide +kernel)]; exact ⟨rfl, rfl⟩))
    (fun os started H enc _ => lifted os started H enc)
end Go.Proofs.Ythebafhbcblmhaa.FixedEdges

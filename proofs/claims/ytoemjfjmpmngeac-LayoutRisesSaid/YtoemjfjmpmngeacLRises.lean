/- A bank of more slots is larger (LayoutRises); no condition. -/
import Derived.Test.YtoemjfjmpmngeacLayoutLaw
import Derived.Lib.Hide
import Derived.ProofKit
import Derived.OpenShut
import Derived.ChangeMaps5
import Derived.Test.YtoemjfjmpmngeacInts
namespace Go.Proofs.Ytoemjfjmpmngeac.LayoutRises
open Go.ChangeShapes Go.WideShapes Go.ChangeAt Go.RowKit Go.ChangeMaps
set_option linter.unusedVariables false

set_option maxRecDepth 100000 in
set_option maxHeartbeats 4000000 in
theorem walk (a : Int) (b : Int) (W : World) (ha : -9223372036854775808 ≤ a ∧ a ≤ 9223372036854775807) (hb : -9223372036854775808 ≤ b ∧ b ≤ 9223372036854775807) :
    Calls Try.prog 3 #[.int .i64 a, .int .i64 b] W fun e W' => e = .returned (.bool true) ∧ Below W.heap.size W W' := by
  by_cases ha : 1 ≤ a ∧ a ≤ 12
  · have HA := Lib.hid (evenB_in ha)
    by_cases hb : 1 ≤ b ∧ b ≤ 12
    · have HE := Lib.hid (evenB_in hb)
      have SA := Lib.hid (sizeF_in ha)
      have SB := Lib.hid (sizeF_in hb)
      obtain ⟨ha1, ha2⟩ := ha
      obtain ⟨hb1, hb2⟩ := hb
      by_cases c : a = b
      · subst c
        go_enter Try.func3, Try.ntmps3
        go_wp2_with fail
        refine (calls_as (own05Even _ _) (val_bool HA.out)).mono ?_
        rintro e W1 ⟨rfl, hB⟩
        go_wp2_with fail
        refine (calls_as (own05Even _ _) (val_bool HA.out)).mono ?_
        rintro e W2 ⟨rfl, h2⟩
        replace hB := below_seq hB h2
        clear h2
        go_wp2_with fail
        refine (shown05 _).mono ?_
        rintro e W3 ⟨rfl, h3⟩
        replace hB := below_seq hB h3
        clear h3
        go_wp2_with fail
        refine (calls_as (own05Size _ _) (val_int SA.out)).mono ?_
        rintro e W4 ⟨rfl, h4⟩
        replace hB := below_seq hB h4
        clear h4
        go_wp2_with fail
        refine (calls_as (own05Size _ _) (val_int SA.out)).mono ?_
        rintro e W5 ⟨rfl, h5⟩
        replace hB := below_seq hB h5
        clear h5
        go_wp2_with fail
        refine (calls_as (own05Size _ _) (val_int SA.out)).mono ?_
        rintro e W6 ⟨rfl, h6⟩
        replace hB := below_seq hB h6
        clear h6
        go_wp2_with fail
        refine (calls_as (own05Size _ _) (val_int SA.out)).mono ?_
        rintro e W7 ⟨rfl, h7⟩
        replace hB := below_seq hB h7
        clear h7
        go_wp2
        go_ret
        exact ⟨rfl, hB⟩
      · have b1 : (a == b) = false := beq_eq_false_iff_ne.2 c
        have b2 : (24 * a + 24 == 24 * b + 24) = false := beq_eq_false_iff_ne.2 (by omega)
        by_cases d : a < b
        · have d1 : 24 * a + 24 < 24 * b + 24 := by omega
          go_enter Try.func3, Try.ntmps3
          go_wp2_with fail
          refine (calls_as (own05Even _ _) (val_bool HA.out)).mono ?_
          rintro e W1 ⟨rfl, hB⟩
          go_wp2_with fail
          refine (calls_as (own05Even _ _) (val_bool HE.out)).mono ?_
          rintro e W2 ⟨rfl, h2⟩
          replace hB := below_seq hB h2
          clear h2
          go_wp2_with fail
          refine (shown05 _).mono ?_
          rintro e W3 ⟨rfl, h3⟩
          replace hB := below_seq hB h3
          clear h3
          go_wp2_with fail
          refine (calls_as (own05Size _ _) (val_int SA.out)).mono ?_
          rintro e W4 ⟨rfl, h4⟩
          replace hB := below_seq hB h4
          clear h4
          go_wp2_with fail
          refine (calls_as (own05Size _ _) (val_int SB.out)).mono ?_
          rintro e W5 ⟨rfl, h5⟩
          replace hB := below_seq hB h5
          clear h5
          go_wp2_with fail
          refine (calls_as (own05Size _ _) (val_int SA.out)).mono ?_
          rintro e W6 ⟨rfl, h6⟩
          replace hB := below_seq hB h6
          clear h6
          go_wp2_with fail
          refine (calls_as (own05Size _ _) (val_int SB.out)).mono ?_
          rintro e W7 ⟨rfl, h7⟩
          replace hB := below_seq hB h7
          clear h7
          go_wp2
          go_ret
          exact ⟨rfl, hB⟩
        · have d1 : ¬ 24 * a + 24 < 24 * b + 24 := by omega
          go_enter Try.func3, Try.ntmps3
          go_wp2_with fail
          refine (calls_as (own05Even _ _) (val_bool HA.out)).mono ?_
          rintro e W1 ⟨rfl, hB⟩
          go_wp2_with fail
          refine (calls_as (own05Even _ _) (val_bool HE.out)).mono ?_
          rintro e W2 ⟨rfl, h2⟩
          replace hB := below_seq hB h2
          clear h2
          go_wp2_with fail
          refine (shown05 _).mono ?_
          rintro e W3 ⟨rfl, h3⟩
          replace hB := below_seq hB h3
          clear h3
          go_wp2_with fail
          refine (calls_as (own05Size _ _) (val_int SA.out)).mono ?_
          rintro e W4 ⟨rfl, h4⟩
          replace hB := below_seq hB h4
          clear h4
          go_wp2_with fail
          refine (calls_as (own05Size _ _) (val_int SB.out)).mono ?_
          rintro e W5 ⟨rfl, h5⟩
          replace hB := below_seq hB h5
          clear h5
          go_wp2_with fail
          refine (calls_as (own05Size _ _) (val_int SA.out)).mono ?_
          rintro e W6 ⟨rfl, h6⟩
          replace hB := below_seq hB h6
          clear h6
          go_wp2_with fail
          refine (calls_as (own05Size _ _) (val_int SB.out)).mono ?_
          rintro e W7 ⟨rfl, h7⟩
          replace hB := below_seq hB h7
          clear h7
          go_wp2
          go_ret
          exact ⟨rfl, hB⟩
    · have HE := Lib.hid (evenB_out hb)
      clear ha hb
      go_enter Try.func3, Try.ntmps3
      go_wp2_with fail
      refine (calls_as (own05Even _ _) (val_bool HA.out)).mono ?_
      rintro e W1 ⟨rfl, hB⟩
      go_wp2_with fail
      refine (calls_as (own05Even _ _) (val_bool HE.out)).mono ?_
      rintro e W2 ⟨rfl, h2⟩
      replace hB := below_seq hB h2
      clear h2
      go_wp2_with fail
      refine (shown05 _).mono ?_
      rintro e W3 ⟨rfl, h3⟩
      replace hB := below_seq hB h3
      clear h3
      go_wp2
      go_ret
      exact ⟨rfl, hB⟩
  · have HA := Lib.hid (evenB_out ha)
    clear ha
    go_enter Try.func3, Try.ntmps3
    go_wp2_with fail
    refine (calls_as (own05Even _ _) (val_bool HA.out)).mono ?_
    rintro e W1 ⟨rfl, hB⟩
    go_wp2_with fail
    refine (shown05 _).mono ?_
    rintro e W2 ⟨rfl, h2⟩
    replace hB := below_seq hB h2
    clear h2
    go_wp2
    go_ret
    exact ⟨rfl, hB⟩

theorem own : ownKnob Try.prog.godebug = none := by kernel_rfl

set_option maxRecDepth 100000 in
theorem lifted (os : Os) (started : os.Started) (H : Type) (enc : TypeId × Value → H) :
    ReturnsInHanded {} Try.checked os 3 .any (Rows.layoutRisesSpec.pre6 enc Try.prog Try.f3 Rows.layoutRisesRow.domain false) (Rows.layoutRisesSpec.post enc Try.prog Try.f3 false true false false) := by
  refine returnsInHanded_of_change (C := Try.checked) own started (by kernel_rfl) Try.func3
    (ChangeSpec.witness6 (enc := enc) (C := Try.checked) false ⟨#[], #[.int .i64 0, .int .i64 0], []⟩ 8 (by kernel_rfl) (by kernel_rfl) (by kernel_rfl) (by kernel_rfl)) ?_
  intro W base args ds gs before hval hW _ _
  have hW' := hW
  obtain ⟨p, q, hA0, hV, rfl, hfz, hnd⟩ := hW
  have hA : DataW.TrodAll enc Try.prog W 0 (fun _ => true) true Try.f3.params.toList args.toList ds p := hA0
  rw [Try.params3] at hA hval
  obtain ⟨v0, vs0, d0, ds0, p0, q0, hargs, rfl, rfl, h0, r0⟩ := trodAll_cons hA
  obtain ⟨v1, vs1, d1, ds1, p1, q1, rfl, rfl, rfl, h1, r1⟩ := trodAll_cons r0
  obtain ⟨rfl, rfl, rfl⟩ := trodAll_nil r1
  obtain rfl : args = #[v0, v1] := by cases args; simp_all
  obtain ⟨rfl, rfl⟩ := trodVars_none hV
  obtain ⟨a0, rfl, rfl, rfl, w0⟩ := open_int Try.underlying3 (hval 0 3 v0 rfl rfl) h0
  obtain ⟨a1, rfl, rfl, rfl, w1⟩ := open_int Try.underlying3 (hval 1 3 v1 rfl rfl) h1
  clear hA0
  simp only [List.append_nil] at hW'
  refine (walk a0 a1 W (int_i64 w0) (int_i64 w1)).mono fun e W' ⟨he, hB⟩ => ?_
  subst he
  exact ⟨_, rfl, ⟨_, _, _, [], _, [], hW', trodAll_cons_mk (shut_bool Try.underlying4 _) trodAll_mk0, (trodAll_cons_mk (shut_int Try.underlying3 w0) (trodAll_cons_mk (shut_int Try.underlying3 w1) trodAll_mk0)), rfl, hB.frame _, fun h => by cases h⟩⟩

theorem holds : Rows.LayoutRisesSaid :=
  OpenClaim.holds_of_wide 3 Try.f3 rfl rfl rfl rfl rfl rfl rfl ⟨rfl, rfl, rfl, rfl, rfl⟩ rfl rfl rfl rfl rfl (by kernel_rfl) Try.func3 (by kernel_rfl)
    (of_decide_eq_true (by kernel_rfl)) (by unfold Func.isWrapper; first | (rw [if_pos (by decide +kernel)]; kernel_rfl) | (rw [if_neg (by decide +kernel)]; exact ⟨rfl, rfl⟩))
    (fun os started H enc _ => lifted os started H enc)
end Go.Proofs.Ytoemjfjmpmngeac.LayoutRises

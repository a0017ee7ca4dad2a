/- Each slot begins where the one ahead of it ends (LayoutNext); no condition. -/
import Derived.Test.YtoemjfjmpmngeabLayoutLaw
import Derived.Lib.Hide
import Derived.ProofKit
import Derived.OpenShut
import Derived.ChangeMaps5
import Derived.Test.YtoemjfjmpmngeabInts
namespace Go.Proofs.Ytoemjfjmpmngeab.LayoutNext
open Go.ChangeShapes Go.WideShapes Go.ChangeAt Go.RowKit Go.ChangeMaps
set_option linter.unusedVariables false

set_option maxRecDepth 100000 in
set_option maxHeartbeats 4000000 in
theorem walk (s : Int) (W : World) (hs : -9223372036854775808 ≤ s ∧ s ≤ 9223372036854775807) :
    Calls Try.prog 14 #[.int .i64 s] W fun e W' => e = .returned (.bool true) ∧ Below W.heap.size W W' := by
  by_cases h1 : s < 0
  · go_enter Try.func14, Try.ntmps14
    go_wp2_with fail
    refine (shown05 _).mono ?_
    rintro e W1 ⟨rfl, hB⟩
    go_wp2
    go_ret
    exact ⟨rfl, hB⟩
  · by_cases h2 : 12 ≤ s
    · go_enter Try.func14, Try.ntmps14
      go_wp2_with fail
      refine (shown05 _).mono ?_
      rintro e W1 ⟨rfl, hB⟩
      go_wp2
      go_ret
      exact ⟨rfl, hB⟩
    · have HA := Lib.hid (show atF (s + 1) = 24 * s + 22 + 2 from by rw [atF_in (by omega)]; omega)
      have HM := Lib.hid (markF_in (k := s) (by omega))
      have H0 := Lib.hid (show atF 0 = 0 from rfl)
      have HS := Lib.hid (show sizeF (s + 1) = 24 * s + 22 + 2 + 24 from by rw [sizeF_in (by omega)]; omega)
      go_enter Try.func14, Try.ntmps14
      go_wp2_with fail
      refine (shown05 _).mono ?_
      rintro e W1 ⟨rfl, hB⟩
      go_wp2_with fail
      refine (calls_as (own05At _ _) (val_int HA.out)).mono ?_
      rintro e W2 ⟨rfl, h2⟩
      replace hB := below_seq hB h2
      clear h2
      go_wp2_with fail
      refine (calls_as (own05Mark _ _) (val_int HM.out)).mono ?_
      rintro e W3 ⟨rfl, h3⟩
      replace hB := below_seq hB h3
      clear h3
      go_wp2_with fail
      refine (calls_as (own05At _ _) (val_int H0.out)).mono ?_
      rintro e W4 ⟨rfl, h4⟩
      replace hB := below_seq hB h4
      clear h4
      go_wp2_with fail
      refine (calls_as (own05Size _ _) (val_int HS.out)).mono ?_
      rintro e W5 ⟨rfl, h5⟩
      replace hB := below_seq hB h5
      clear h5
      go_wp2_with fail
      refine (calls_as (own05At _ _) (val_int HA.out)).mono ?_
      rintro e W6 ⟨rfl, h6⟩
      replace hB := below_seq hB h6
      clear h6
      go_wp2
      go_ret
      exact ⟨rfl, hB⟩

theorem own : ownKnob Try.prog.godebug = none := by kernel_rfl

set_option maxRecDepth 100000 in
theorem lifted (os : Os) (started : os.Started) (H : Type) (enc : TypeId × Value → H) :
    ReturnsInHanded {} Try.checked os 14 .any (Rows.layoutNextSpec.pre6 enc Try.prog Try.f14 Rows.layoutNextRow.domain false) (Rows.layoutNextSpec.post enc Try.prog Try.f14 false true false false) := by
  refine returnsInHanded_of_change (C := Try.checked) own started (by kernel_rfl) Try.func14
    (ChangeSpec.witness6 (enc := enc) (C := Try.checked) false ⟨#[], #[.int .i64 0], []⟩ 8 (by kernel_rfl) (by kernel_rfl) (by kernel_rfl) (by kernel_rfl)) ?_
  intro W base args ds gs before hval hW _ _
  have hW' := hW
  obtain ⟨p, q, hA0, hV, rfl, hfz, hnd⟩ := hW
  have hA : DataW.TrodAll enc Try.prog W 0 (fun _ => true) true Try.f14.params.toList args.toList ds p := hA0
  rw [Try.params14] at hA hval
  obtain ⟨v0, vs0, d0, ds0, p0, q0, hargs, rfl, rfl, h0, r0⟩ := trodAll_cons hA
  obtain ⟨rfl, rfl, rfl⟩ := trodAll_nil r0
  obtain rfl : args = #[v0] := by cases args; simp_all
  obtain ⟨rfl, rfl⟩ := trodVars_none hV
  obtain ⟨a0, rfl, rfl, rfl, w0⟩ := open_int Try.underlying3 (hval 0 3 v0 rfl rfl) h0
  clear hA0
  simp only [List.append_nil] at hW'
  refine (walk a0 W (int_i64 w0)).mono fun e W' ⟨he, hB⟩ => ?_
  subst he
  exact ⟨_, rfl, ⟨_, _, _, [], _, [], hW', trodAll_cons_mk (shut_bool Try.underlying4 _) trodAll_mk0, (trodAll_cons_mk (shut_int Try.underlying3 w0) trodAll_mk0), rfl, hB.frame _, fun h => by cases h⟩⟩

theorem holds : Rows.LayoutNextSaid :=
  OpenClaim.holds_of_wide 14 Try.f14 rfl rfl rfl rfl rfl rfl rfl ⟨rfl, rfl, rfl, rfl, rfl⟩ rfl rfl rfl rfl rfl (by kernel_rfl) Try.func14 (by kernel_rfl)
    (of_decide_eq_true (by kernel_rfl)) (by unfold Func.isWrapper; first | (rw [if_pos (by decide +kernel)]; kernel_rfl) | (rw [if_neg (by decide +kernel)]; exact ⟨rfl, rfl⟩))
    (fun os started H enc _ => lifted os started H enc)
end Go.Proofs.Ytoemjfjmpmngeab.LayoutNext

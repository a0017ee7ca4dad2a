/- Sizes, slots, places and marks are the reference's (LayoutTells); no condition. -/
import Derived.Test.YtoemjfjmpmngeabLayoutLaw
import Derived.Lib.Hide
import Derived.ProofKit
import Derived.OpenShut
import Derived.ChangeMaps5
import Derived.Test.YtoemjfjmpmngeabInts
namespace Go.Proofs.Ytoemjfjmpmngeab.LayoutTells
open Go.ChangeShapes Go.WideShapes Go.ChangeAt Go.RowKit Go.ChangeMaps
set_option linter.unusedVariables false

set_option maxRecDepth 100000 in
set_option maxHeartbeats 4000000 in
theorem walk (n : Int) (W : World) (hn : -9223372036854775808 ≤ n ∧ n ≤ 9223372036854775807) :
    Calls Try.prog 11 #[.int .i64 n] W fun e W' => e = .returned (.bool true) ∧ Below W.heap.size W W' := by
  go_enter Try.func11, Try.ntmps11
  go_wp2_with fail
  refine (own05Size _ _).mono ?_
  rintro e W1 ⟨rfl, hB⟩
  go_wp2_with fail
  refine (calls_as0 (ref05Size _ _) rfl).mono ?_
  rintro e W2 ⟨rfl, h2⟩
  replace hB := below_seq hB h2
  clear h2
  go_wp2_with fail
  refine (own05Slots _ _).mono ?_
  rintro e W3 ⟨rfl, h3⟩
  replace hB := below_seq hB h3
  clear h3
  go_wp2_with fail
  refine (calls_as0 (ref05Slots _ _) rfl).mono ?_
  rintro e W4 ⟨rfl, h4⟩
  replace hB := below_seq hB h4
  clear h4
  go_wp2_with fail
  refine (own05At _ _).mono ?_
  rintro e W5 ⟨rfl, h5⟩
  replace hB := below_seq hB h5
  clear h5
  go_wp2_with fail
  refine (calls_as0 (ref05At _ _) rfl).mono ?_
  rintro e W6 ⟨rfl, h6⟩
  replace hB := below_seq hB h6
  clear h6
  go_wp2_with fail
  refine (own05Mark _ _).mono ?_
  rintro e W7 ⟨rfl, h7⟩
  replace hB := below_seq hB h7
  clear h7
  go_wp2_with fail
  refine (calls_as0 (ref05Mark _ _) rfl).mono ?_
  rintro e W8 ⟨rfl, h8⟩
  replace hB := below_seq hB h8
  clear h8
  go_wp2_with fail
  refine (own05Even _ _).mono ?_
  rintro e W9 ⟨rfl, h9⟩
  replace hB := below_seq hB h9
  clear h9
  go_wp2_with fail
  refine (calls_as0 (ref05Even _ _) rfl).mono ?_
  rintro e W10 ⟨rfl, h10⟩
  replace hB := below_seq hB h10
  clear h10
  go_wp2_with fail
  refine (shown05 _).mono ?_
  rintro e W11 ⟨rfl, h11⟩
  replace hB := below_seq hB h11
  clear h11
  go_wp2
  go_ret
  exact ⟨rfl, hB⟩

theorem own : ownKnob Try.prog.godebug = none := by kernel_rfl

set_option maxRecDepth 100000 in
theorem lifted (os : Os) (started : os.Started) (H : Type) (enc : TypeId × Value → H) :
    ReturnsInHanded {} Try.checked os 11 .any (Rows.layoutTellsSpec.pre6 enc Try.prog Try.f11 Rows.layoutTellsRow.domain false) (Rows.layoutTellsSpec.post enc Try.prog Try.f11 false true false false) := by
  refine returnsInHanded_of_change (C := Try.checked) own started (by kernel_rfl) Try.func11
    (ChangeSpec.witness6 (enc := enc) (C := Try.checked) false ⟨#[], #[.int .i64 0], []⟩ 8 (by kernel_rfl) (by kernel_rfl) (by kernel_rfl) (by kernel_rfl)) ?_
  intro W base args ds gs before hval hW _ _
  have hW' := hW
  obtain ⟨p, q, hA0, hV, rfl, hfz, hnd⟩ := hW
  have hA : DataW.TrodAll enc Try.prog W 0 (fun _ => true) true Try.f11.params.toList args.toList ds p := hA0
  rw [Try.params11] at hA hval
  obtain ⟨v0, vs0, d0, ds0, p0, q0, hargs, rfl, rfl, h0, r0⟩ := trodAll_cons hA
  obtain ⟨rfl, rfl, rfl⟩ := trodAll_nil r0
  obtain rfl : args = #[v0] := by cases args; simp_all
  obtain ⟨rfl, rfl⟩ := trodVars_none hV
  obtain ⟨a0, rfl, rfl, rfl, w0⟩ := open_int Try.underlying3 (hval 0 3 v0 rfl rfl) h0
  clear hA0
  simp only [List.append_nil] at hW'
  refine (walk a0 W (int_i64 w0)).mono fun e W' ⟨he, hB⟩ => ?_
  subst he
  exact ⟨_, rfl, ⟨_, _, _, [], _, [], hW', trodAll_cons_mk (shut_bool Try.underlying4 _) trodAll_mk0, (trodAll_cons_mk (shut_int Try.underlying3 w0) trodAll_mk0), rfl, hB.frame _, fun h => by cases h⟩⟩

theorem holds : Rows.LayoutTellsSaid :=
  OpenClaim.holds_of_wide 11 Try.f11 rfl rfl rfl rfl rfl rfl rfl ⟨rfl, rfl, rfl, rfl, rfl⟩ rfl rfl rfl rfl rfl (by kernel_rfl) Try.func11 (by kernel_rfl)
    (of_decide_eq_true (by kernel_rfl)) (by unfold Func.isWrapper; first | (rw [if_pos (by decide +kernel)]; kernel_rfl) | (rw [if_neg (by decide +kernel)]; exact ⟨rfl, rfl⟩))
    (fun os started H enc _ => lifted os started H enc)
end Go.Proofs.Ytoemjfjmpmngeab.LayoutTells

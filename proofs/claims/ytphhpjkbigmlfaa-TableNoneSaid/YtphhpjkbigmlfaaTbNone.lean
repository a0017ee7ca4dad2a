/- Numbers that are no modes have no way, need nothing, and do not fly (TableNone); no condition. -/
import Derived.Test.YtphhpjkbigmlfaaTableLaw
import Derived.Test.YtphhpjkbigmlfaaTableRef
import Derived.Deep.RegionHeld3
import Derived.WalkLawsBesides
import Derived.WalkSpells
import Derived.IntWalk
import Derived.Lib.Hide
import Derived.Test.YtphhpjkbigmlfaaBox
import Derived.ProofKit
import Derived.OpenShut
import Derived.ChangeMaps5
import Derived.Test.YtphhpjkbigmlfaaInts
namespace Go.Proofs.Ytphhpjkbigmlfaa.TableNone
open Go.ChangeShapes Go.WideShapes Go.ChangeAt Go.RowKit Go.ChangeMaps
set_option linter.unusedVariables false
set_option linter.unusedSimpArgs false

set_option maxRecDepth 100000 in
set_option maxHeartbeats 4000000 in
theorem walk (n : Int) (m : Int) (W : World) (hn : -9223372036854775808 ≤ n ∧ n ≤ 9223372036854775807) (hm : -9223372036854775808 ≤ m ∧ m ≤ 9223372036854775807) :
    Calls Try.prog 7 #[.int .i64 n, .int .i64 m] W fun e W' => e = .returned (.bool true) ∧ Below W.heap.size W W' := by
  by_cases c1 : n ≥ 0
  · by_cases c2 : n ≤ 5
    · skip
      have hB : Below W.heap.size W W := Below.refl _ _
      go_enter Try.func7, Try.ntmps7
      go_wp2_with fail
      refine (shown15 _).mono ?_
      rintro e V1 ⟨rfl, hk⟩
      replace hB := below_seq hB hk
      clear hk
      go_wp2
      go_ret
      exact ⟨rfl, hB⟩
    · skip
      have hm0 : modeB n = false := decide_eq_false (fun k => by omega)
      have T1 := fun (V : World) => own15Way n m V hn hm
      simp only [way_none (Or.inl hm0)] at T1
      replace T1 := Lib.hid T1
      have T2 := fun (V : World) => own15Way m n V hm hn
      simp only [way_none (Or.inr hm0)] at T2
      replace T2 := Lib.hid T2
      have T3 := fun (V : World) => own15Needs n V hn
      simp only [show needsN n = 0 from by unfold needsN; rw [if_neg (by omega), if_neg (by omega), if_neg (by omega)]] at T3
      replace T3 := Lib.hid T3
      have T4 := fun (V : World) => own15Home n V hn
      simp only [show homeB n = false from decide_eq_false (fun k => by omega)] at T4
      replace T4 := Lib.hid T4
      have T5 := fun (V : World) => own15Flying n V hn
      simp only [show flyB n = false from by unfold flyB; rw [hm0]; rfl] at T5
      replace T5 := Lib.hid T5
      have T6 := fun (V : World) => own15Ways n V hn
      simp only [ways_none hm0, List.length_nil] at T6
      replace T6 := Lib.hid T6
      clear hm0
      have hB : Below W.heap.size W W := Below.refl _ _
      go_enter Try.func7, Try.ntmps7
      go_wp2_with fail
      refine (shown15 _).mono ?_
      rintro e V1 ⟨rfl, hk⟩
      replace hB := below_seq hB hk
      clear hk
      go_wp2_with fail
      refine (T1.out _).mono ?_
      rintro e V2 ⟨rfl, hk⟩
      replace hB := below_seq hB hk
      clear hk
      go_wp2_with fail
      refine (T2.out _).mono ?_
      rintro e V3 ⟨rfl, hk⟩
      replace hB := below_seq hB hk
      clear hk
      go_wp2_with fail
      refine (T3.out _).mono ?_
      rintro e V4 ⟨rfl, hk⟩
      replace hB := below_seq hB hk
      clear hk
      go_wp2_with fail
      refine (T4.out _).mono ?_
      rintro e V5 ⟨rfl, hk⟩
      replace hB := below_seq hB hk
      clear hk
      go_wp2_with fail
      refine (T5.out _).mono ?_
      rintro e V6 ⟨rfl, hk⟩
      replace hB := below_seq hB hk
      clear hk
      go_wp2_with fail
      refine (T6.out _).mono ?_
      rintro e V9 ⟨A, c, rfl, hI, hk⟩
      replace hB := below_seq hB hk
      clear hk
      go_wp2
      go_ret
      exact ⟨rfl, hB⟩
  · skip
    have hm0 : modeB n = false := decide_eq_false (fun k => by omega)
    have T1 := fun (V : World) => own15Way n m V hn hm
    simp only [way_none (Or.inl hm0)] at T1
    replace T1 := Lib.hid T1
    have T2 := fun (V : World) => own15Way m n V hm hn
    simp only [way_none (Or.inr hm0)] at T2
    replace T2 := Lib.hid T2
    have T3 := fun (V : World) => own15Needs n V hn
    simp only [show needsN n = 0 from by unfold needsN; rw [if_neg (by omega), if_neg (by omega), if_neg (by omega)]] at T3
    replace T3 := Lib.hid T3
    have T4 := fun (V : World) => own15Home n V hn
    simp only [show homeB n = false from decide_eq_false (fun k => by omega)] at T4
    replace T4 := Lib.hid T4
    have T5 := fun (V : World) => own15Flying n V hn
    simp only [show flyB n = false from by unfold flyB; rw [hm0]; rfl] at T5
    replace T5 := Lib.hid T5
    have T6 := fun (V : World) => own15Ways n V hn
    simp only [ways_none hm0, List.length_nil] at T6
    replace T6 := Lib.hid T6
    clear hm0
    have hB : Below W.heap.size W W := Below.refl _ _
    go_enter Try.func7, Try.ntmps7
    go_wp2_with fail
    refine (shown15 _).mono ?_
    rintro e V1 ⟨rfl, hk⟩
    replace hB := below_seq hB hk
    clear hk
    go_wp2_with fail
    refine (T1.out _).mono ?_
    rintro e V2 ⟨rfl, hk⟩
    replace hB := below_seq hB hk
    clear hk
    go_wp2_with fail
    refine (T2.out _).mono ?_
    rintro e V3 ⟨rfl, hk⟩
    replace hB := below_seq hB hk
    clear hk
    go_wp2_with fail
    refine (T3.out _).mono ?_
    rintro e V4 ⟨rfl, hk⟩
    replace hB := below_seq hB hk
    clear hk
    go_wp2_with fail
    refine (T4.out _).mono ?_
    rintro e V5 ⟨rfl, hk⟩
    replace hB := below_seq hB hk
    clear hk
    go_wp2_with fail
    refine (T5.out _).mono ?_
    rintro e V6 ⟨rfl, hk⟩
    replace hB := below_seq hB hk
    clear hk
    go_wp2_with fail
    refine (T6.out _).mono ?_
    rintro e V9 ⟨A, c, rfl, hI, hk⟩
    replace hB := below_seq hB hk
    clear hk
    go_wp2
    go_ret
    exact ⟨rfl, hB⟩

theorem own : ownKnob Try.prog.godebug = none := by kernel_rfl

set_option maxRecDepth 100000 in
theorem lifted (os : Os) (started : os.Started) (H : Type) (enc : TypeId × Value → H) :
    ReturnsInHanded {} Try.checked os 7 .any (Rows.tableNoneSpec.pre6 enc Try.prog Try.f7 Rows.tableNoneRow.domain false) (Rows.tableNoneSpec.post enc Try.prog Try.f7 false true false false) := by
  refine returnsInHanded_of_change (C := Try.checked) own started (by kernel_rfl) Try.func7
    (ChangeSpec.witness6 (enc := enc) (C := Try.checked) false ⟨#[], #[.int .i64 0, .int .i64 0], []⟩ 8 (by kernel_rfl) (by kernel_rfl) (by kernel_rfl) (by kernel_rfl)) ?_
  intro W base args ds gs before hval hW _ _
  have hW' := hW
  obtain ⟨p, q, hA0, hV, rfl, hfz, hnd⟩ := hW
  have hA : DataW.TrodAll enc Try.prog W 0 (fun _ => true) true Try.f7.params.toList args.toList ds p := hA0
  rw [Try.params7] at hA hval
  obtain ⟨v0, vs0, d0, ds0, p0, q0, hargs, rfl, rfl, h0, r0⟩ := trodAll_cons hA
  obtain ⟨v1, vs1, d1, ds1, p1, q1, rfl, rfl, rfl, h1, r1⟩ := trodAll_cons r0
  obtain ⟨rfl, rfl, rfl⟩ := trodAll_nil r1
  obtain rfl : args = #[v0, v1] := by cases args; simp_all
  obtain ⟨rfl, rfl⟩ := trodVars_none hV
  obtain ⟨a0, rfl, rfl, rfl, w0⟩ := open_int Try.underlying3 (hval 0 3 v0 rfl rfl) h0
  obtain ⟨a1, rfl, rfl, rfl, w1⟩ := open_int Try.underlying3 (hval 1 3 v1 rfl rfl) h1
  clear hA0
  simp only [List.append_nil] at hW'
  refine (walk a0 a1 W (int_i64 w0) (int_i64 w1)).mono fun e W' ⟨he, hB⟩ => ?_
  subst he
  exact ⟨_, rfl, ⟨_, _, _, [], _, [], hW', trodAll_cons_mk (shut_bool Try.underlying4 _) trodAll_mk0, (trodAll_cons_mk (shut_int Try.underlying3 w0) (trodAll_cons_mk (shut_int Try.underlying3 w1) trodAll_mk0)), rfl, hB.frame _, fun h => by cases h⟩⟩

theorem holds : Rows.TableNoneSaid :=
  OpenClaim.holds_of_wide 7 Try.f7 rfl rfl rfl rfl rfl rfl rfl ⟨rfl, rfl, rfl, rfl, rfl⟩ rfl rfl rfl rfl rfl (by kernel_rfl) Try.func7 (by kernel_rfl)
    (of_decide_eq_true (by kernel_rfl)) (by unfold Func.isWrapper; first | (rw [if_pos (by decide +kernel)]; kernel_rfl) | (rw [if_neg (by decide +kernel)]; exact ⟨rfl, rfl⟩))
    (fun os started H enc _ => lifted os started H enc)
end Go.Proofs.Ytphhpjkbigmlfaa.TableNone

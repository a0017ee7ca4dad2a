/- Whether there is a way between any numbers, what any mode needs, and all ways from it, are the document's (TableTells); no condition. -/
import Derived.Test.YtphhpjkbigmlfaaTableLaw
import Derived.Test.YtphhpjkbigmlfaaTableRef
import Derived.Deep.RegionHeld3
import Derived.WalkLawsBesides
import Derived.WalkSpells
import Derived.IntWalk
import Derived.Lib.Hide
import Derived.Test.YtphhpjkbigmlfaaBox
import Derived.Test.YtphhpjkbigmlfaaTableWays
import Derived.ProofKit
import Derived.OpenShut
import Derived.ChangeMaps5
import Derived.Test.YtphhpjkbigmlfaaInts
namespace Go.Proofs.Ytphhpjkbigmlfaa.TableTells
open Go.ChangeShapes Go.WideShapes Go.ChangeAt Go.RowKit Go.ChangeMaps
set_option linter.unusedVariables false
set_option linter.unusedSimpArgs false

set_option maxRecDepth 100000 in
set_option maxHeartbeats 8000000 in
theorem walk (fr : Int) (to : Int) (W : World) (hfr : -9223372036854775808 ≤ fr ∧ fr ≤ 9223372036854775807) (hto : -9223372036854775808 ≤ to ∧ to ≤ 9223372036854775807) :
    Calls Try.prog 3 #[.int .i64 fr, .int .i64 to] W fun e W' => e = .returned (.bool true) ∧ Below W.heap.size W W' := by
  have H6 := waysL_len fr
  have A1 := Lib.hid (fun (V : World) => own15Way fr to V hfr hto)
  have B1 := Lib.hid (fun (V : World) => ref15Way fr to V)
  have A2 := Lib.hid (fun (V : World) => own15Needs fr V hfr)
  have B2 := Lib.hid (fun (V : World) => ref15Needs fr V)
  have A3 := Lib.hid (fun (V : World) => own15Home fr V hfr)
  have B3 := Lib.hid (fun (V : World) => ref15Home fr V)
  have A4 := Lib.hid (fun (V : World) => own15Flying fr V hfr)
  have B4 := Lib.hid (fun (V : World) => ref15Flying fr V)
  have A5 := Lib.hid (fun (V : World) => own15Ways fr V hfr)
  have B5 := Lib.hid (fun (V : World) => ref15Ways fr V)
  have TI := Lib.hid (fun (A B : Option Addr) (c d : Nat) (V : World) (h1 : IntsAt V A (waysL fr)) (h2 : IntsAt V B (waysL fr)) => lawInts15 (waysL fr) A B c d V h1 h2 (by omega))
  clear H6
  generalize wayB fr to = x1 at *
  generalize needsN fr = x2 at *
  generalize homeB fr = x3 at *
  generalize flyB fr = x4 at *
  generalize waysL fr = L at *
  have hB : Below W.heap.size W W := Below.refl _ _
  go_enter Try.func3, Try.ntmps3
  go_wp2_with fail
  refine (A1.out _).mono ?_
  rintro e V1 ⟨rfl, hk⟩
  replace hB := below_seq hB hk
  clear hk
  go_wp2_with fail
  refine (B1.out _).mono ?_
  rintro e w' ⟨rfl, hw⟩
  rw [hw]
  clear hw w'
  go_wp2_with fail
  refine (A2.out _).mono ?_
  rintro e V2 ⟨rfl, hk⟩
  replace hB := below_seq hB hk
  clear hk
  go_wp2_with fail
  refine (B2.out _).mono ?_
  rintro e w' ⟨rfl, hw⟩
  rw [hw]
  clear hw w'
  go_wp2_with fail
  refine (A3.out _).mono ?_
  rintro e V3 ⟨rfl, hk⟩
  replace hB := below_seq hB hk
  clear hk
  go_wp2_with fail
  refine (B3.out _).mono ?_
  rintro e w' ⟨rfl, hw⟩
  rw [hw]
  clear hw w'
  go_wp2_with fail
  refine (A4.out _).mono ?_
  rintro e V4 ⟨rfl, hk⟩
  replace hB := below_seq hB hk
  clear hk
  go_wp2_with fail
  refine (B4.out _).mono ?_
  rintro e w' ⟨rfl, hw⟩
  rw [hw]
  clear hw w'
  go_wp2_with fail
  refine (A5.out _).mono ?_
  rintro e V5 ⟨AV5, cV5, rfl, h1, hk⟩
  replace hB := below_seq hB hk
  clear hk
  go_wp2_with fail
  refine (B5.out _).mono ?_
  rintro e V6 ⟨AV6, cV6, rfl, h2, hk⟩
  replace hB := below_seq hB hk
  replace h1 := h1.seq hk
  clear hk
  go_wp2_with fail
  refine (TI.out _ _ _ _ _ h1 h2).mono ?_
  rintro e V7 ⟨rfl, hk⟩
  replace hB := below_seq hB hk
  replace h1 := h1.seq hk
  replace h2 := h2.seq hk
  clear hk
  go_wp2_with fail
  refine (shown15 _).mono ?_
  rintro e V8 ⟨rfl, hk⟩
  replace hB := below_seq hB hk
  replace h1 := h1.seq hk
  replace h2 := h2.seq hk
  clear hk
  go_wp2
  go_ret
  exact ⟨rfl, hB⟩

theorem own : ownKnob Try.prog.godebug = none := by kernel_rfl

set_option maxRecDepth 100000 in
theorem lifted (os : Os) (started : os.Started) (H : Type) (enc : TypeId × Value → H) :
    ReturnsInHanded {} Try.checked os 3 .any (Rows.tableTellsSpec.pre6 enc Try.prog Try.f3 Rows.tableTellsRow.domain false) (Rows.tableTellsSpec.post enc Try.prog Try.f3 false true false false) := by
  refine returnsInHanded_of_change (C := Try.checked) own started (by kernel_rfl) Try.func3
    (ChangeSpec.witness6 (enc := enc) (C := Try.checked) false ⟨#[], #[.int .i64 0, .int .i64 0], []⟩ 8 (by kernel_rfl) (by kernel_rfl) (by kernel_rfl) (by kernel_rfl)) ?_
  intro W base args ds gs before hval hW _ _
  have hW' := hW
  obtain ⟨p, q, hA0, hV, rfl, hfz, hnd⟩ := hW
  have hA : DataW.TrodAll enc Try.prog W 0 (fun _ => true) true Try.f3.params.toList args.toList ds p := hA0
  rw [Try.params3] at hA hval
  obtain ⟨v0, vs0, d0, ds0, p0, q0, hargs, rfl, rfl, h0, r0⟩ := trodAll_cons hA
  obtain ⟨v1, vs1, d1, ds1, p1, q1, rfl, rfl, rfl, h1, r1⟩ := trodAll_cons r0
  obtain ⟨rfl, rfl, rfl⟩ := trodAll_nil r1
  obtain rfl : args = #[v0, v1] := by cases args; simp_all
  obtain ⟨rfl, rfl⟩ := trodVars_none hV
  obtain ⟨a0, rfl, rfl, rfl, w0⟩ := open_int Try.underlying3 (hval 0 3 v0 rfl rfl) h0
  obtain ⟨a1, rfl, rfl, rfl, w1⟩ := open_int Try.underlying3 (hval 1 3 v1 rfl rfl) h1
  clear hA0
  simp only [List.append_nil] at hW'
  refine (walk a0 a1 W (int_i64 w0) (int_i64 w1)).mono fun e W' ⟨he, hB⟩ => ?_
  subst he
  exact ⟨_, rfl, ⟨_, _, _, [], _, [], hW', trodAll_cons_mk (shut_bool Try.underlying4 _) trodAll_mk0, (trodAll_cons_mk (shut_int Try.underlying3 w0) (trodAll_cons_mk (shut_int Try.underlying3 w1) trodAll_mk0)), rfl, hB.frame _, fun h => by cases h⟩⟩

theorem holds : Rows.TableTellsSaid :=
  OpenClaim.holds_of_wide 3 Try.f3 rfl rfl rfl rfl rfl rfl rfl ⟨rfl, rfl, rfl, rfl, rfl⟩ rfl rfl rfl rfl rfl (by kernel_rfl) Try.func3 (by kernel_rfl)
    (of_decide_eq_true (by kernel_rfl)) (by unfold Func.isWrapper; first | (rw [if_pos (by decide +kernel)]; kernel_rfl) | (rw [if_neg (by decide +kernel)]; exact ⟨rfl, rfl⟩))
    (fun os started H enc _ => lifted os started H enc)
end Go.Proofs.Ytphhpjkbigmlfaa.TableTells

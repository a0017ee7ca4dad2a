/- What a new flash is, and which bytes are blank, is the reference's (FlashNew); no condition. -/
import Derived.Test.YtoemjfjmpmngeaaFlashEq
import Derived.Test.YtoemjfjmpmngeaaFlashOwn
import Derived.Test.YtoemjfjmpmngeaaFlashPlain
import Derived.Test.YtoemjfjmpmngeaaFlashOpen
import Derived.ProofKit
import Derived.OpenShut
import Derived.ChangeMaps5
import Derived.Test.YtoemjfjmpmngeaaInts
namespace Go.Proofs.Ytoemjfjmpmngeaa.FlashNew
open Go.ChangeShapes Go.WideShapes Go.ChangeAt Go.RowKit Go.ChangeMaps
set_option linter.unusedVariables false
attribute [local go_sem] eqS2 eqI2

set_option maxRecDepth 100000 in
set_option maxHeartbeats 4000000 in
theorem walk (size : Int) (lim : Int) (s : ByteArray) (W : World) (hsize : -9223372036854775808 ≤ size ∧ size ≤ 9223372036854775807) (hlim : -9223372036854775808 ≤ lim ∧ lim ≤ 9223372036854775807) (hs : s.size ≤ maxLen) :
    Calls Try.prog 14 #[.int .i64 size, .int .i64 lim, .string s] W fun e W' => e = .returned (.bool true) ∧ Below W.heap.size W W' := by
  have hs0 := hs
  unfold maxLen at hs0
  have hB : Below W.heap.size W W := Below.refl _ _
  by_cases hl : 500 < s.size
  · go_enter Try.func14, Try.ntmps14
    go_wp2_with fail
    refine (flShown _).mono ?_
    rintro e W2 ⟨rfl, h2⟩
    go_wp2
    go_ret
    exact ⟨rfl, h2⟩
  · have hl2 : s.size ≤ 500 := by omega
    go_enter Try.func14, Try.ntmps14
    go_wp2_with fail
    refine (flShown _).mono ?_
    rintro e W2 ⟨rfl, h2⟩
    replace hB := below_seq hB h2
    clear h2
    go_wp2_with fail
    refine (flNew _ _ _).mono ?_
    rintro e W3 ⟨rfl, h3⟩
    replace hB := below_seq hB h3
    clear h3
    go_wp2_with fail
    refine (flIts _ _).mono ?_
    rintro e W4 ⟨rfl, h4⟩
    replace hB := below_seq hB h4
    clear h4
    go_wp2_with fail
    refine (refNew3 _ _ _).mono ?_
    rintro e W5 ⟨rfl, h5⟩
    replace hB := below_seq hB h5
    clear h5
    go_wp2_with fail
    refine (flBlank _ _ hs).mono ?_
    rintro e W6 ⟨rfl, h6⟩
    replace hB := below_seq hB h6
    clear h6
    go_wp2_with fail
    refine (refBlank3 _ _ (by omega)).mono ?_
    rintro e W7 ⟨rfl, rfl⟩
    go_wp2
    go_ret
    exact ⟨rfl, hB⟩

theorem own : ownKnob Try.prog.godebug = none := by kernel_rfl

set_option maxRecDepth 100000 in
theorem lifted (os : Os) (started : os.Started) (H : Type) (enc : TypeId × Value → H) :
    ReturnsInHanded {} Try.checked os 14 .any (Rows.flashNewSpec.pre6 enc Try.prog Try.f14 Rows.flashNewRow.domain false) (Rows.flashNewSpec.post enc Try.prog Try.f14 false true false false) := by
  refine returnsInHanded_of_change (C := Try.checked) own started (by kernel_rfl) Try.func14
    (ChangeSpec.witness6 (enc := enc) (C := Try.checked) false ⟨#[], #[.int .i64 0, .int .i64 0, .string ⟨#[]⟩], []⟩ 8 (by kernel_rfl) (by kernel_rfl) (by kernel_rfl) (by kernel_rfl)) ?_
  intro W base args ds gs before hval hW _ _
  have hW' := hW
  obtain ⟨p, q, hA0, hV, rfl, hfz, hnd⟩ := hW
  have hA : DataW.TrodAll enc Try.prog W 0 (fun _ => true) true Try.f14.params.toList args.toList ds p := hA0
  rw [Try.params14] at hA hval
  obtain ⟨v0, vs0, d0, ds0, p0, q0, hargs, rfl, rfl, h0, r0⟩ := trodAll_cons hA
  obtain ⟨v1, vs1, d1, ds1, p1, q1, rfl, rfl, rfl, h1, r1⟩ := trodAll_cons r0
  obtain ⟨v2, vs2, d2, ds2, p2, q2, rfl, rfl, rfl, h2, r2⟩ := trodAll_cons r1
  obtain ⟨rfl, rfl, rfl⟩ := trodAll_nil r2
  obtain rfl : args = #[v0, v1, v2] := by cases args; simp_all
  obtain ⟨rfl, rfl⟩ := trodVars_none hV
  obtain ⟨a0, rfl, rfl, rfl, w0⟩ := open_int Try.underlying3 (hval 0 3 v0 rfl rfl) h0
  obtain ⟨a1, rfl, rfl, rfl, w1⟩ := open_int Try.underlying3 (hval 1 3 v1 rfl rfl) h1
  obtain ⟨s2, rfl, rfl, rfl, hs2⟩ := open_string Try.underlying9 (hval 2 9 v2 rfl rfl) h2
  clear hA0
  simp only [List.append_nil] at hW'
  refine (walk a0 a1 s2 W (int_i64 w0) (int_i64 w1) hs2).mono fun e W' ⟨he, hB⟩ => ?_
  subst he
  exact ⟨_, rfl, ⟨_, _, _, [], _, [], hW', trodAll_cons_mk (shut_bool Try.underlying4 _) trodAll_mk0, (trodAll_cons_mk (shut_int Try.underlying3 w0) (trodAll_cons_mk (shut_int Try.underlying3 w1) (trodAll_cons_mk (shut_string Try.underlying9 hs2) trodAll_mk0))), rfl, hB.frame _, fun h => by cases h⟩⟩

theorem holds : Rows.FlashNewSaid :=
  OpenClaim.holds_of_wide 14 Try.f14 rfl rfl rfl rfl rfl rfl rfl ⟨rfl, rfl, rfl, rfl, rfl⟩ rfl rfl rfl rfl rfl (by kernel_rfl) Try.func14 (by kernel_rfl)
    (of_decide_eq_true (by kernel_rfl)) (by unfold Func.isWrapper; first | (rw [if_pos (by decide +kernel)]; kernel_rfl) | (rw [if_neg (by decide +kernel)]; exact ⟨rfl, rfl⟩))
    (fun os started H enc _ => lifted os started H enc)
end Go.Proofs.Ytoemjfjmpmngeaa.FlashNew

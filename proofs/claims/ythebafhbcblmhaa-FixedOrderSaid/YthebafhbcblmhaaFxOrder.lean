/- Of two numbers the lesser one is not fixed to the greater whole number (FixedOrder); no condition. -/
import Derived.Test.YthebafhbcblmhaaFixedLaw
import Derived.Deep.RegionHeld3
import Derived.WalkLawsBesides
import Derived.WalkSpells
import Derived.IntWalk
import Derived.Lib.Hide
import Derived.Test.YthebafhbcblmhaaBox
import Derived.ProofKit
import Derived.OpenShut
import Derived.ChangeMaps5
import Derived.Test.YthebafhbcblmhaaInts
namespace Go.Proofs.Ythebafhbcblmhaa.FixedOrder
open Go.ChangeShapes Go.WideShapes Go.ChangeAt Go.RowKit Go.ChangeMaps
set_option linter.unusedVariables false
set_option linter.unusedSimpArgs false
attribute [local go_sem] unary_negF

set_option maxRecDepth 100000 in
set_option maxHeartbeats 4000000 in
theorem walk (x : Nat) (y : Nat) (most : Int) (W : World) (hx : x < 2 ^ 64) (hy : y < 2 ^ 64) (hmost : -9223372036854775808 ≤ most ∧ most ≤ 9223372036854775807) :
    Calls Try.prog 5 #[.float .f64 x, .float .f64 y, .int .i64 most] W fun e W' => e = .returned (.bool true) ∧ Below W.heap.size W W' := by
  have TD := fun (V : World) => own13Fix x most V hx hmost
  have TE := fun (V : World) => own13Fix y most V hy hmost
  by_cases h : fixE x most = 0
  · by_cases k : fixE y most = 0
    · obtain ⟨h1, _, h3⟩ := fixE_ok h
      obtain ⟨k1, _, k3⟩ := fixE_ok k
      have m1 : fv x ≤ fv y → fixN x most ≤ fixN y most := fun l => by rw [h3, k3]; exact fixV_mono l
      have m2 : fv y ≤ fv x → fixN y most ≤ fixN x most := fun l => by rw [h3, k3]; exact fixV_mono l
      have e1 := leD h1 k1
      have e2 := leD k1 h1
      simp only [h] at TD
      simp only [k] at TE
      generalize fixN x most = N at *
      generalize fixN y most = M at *
      clear h k h1 h3 k1 k3
      by_cases c : fv x ≤ fv y
      · by_cases d : fv y ≤ fv x
        · skip
          have f1 := e1.trans (decide_eq_true (show fv x ≤ fv y by omega))
          have f2 := e2.trans (decide_eq_true (show fv y ≤ fv x by omega))
          have g1 := m1 c
          have g2 := m2 d
          clear c d
          clear e1 e2 m1 m2
          replace TD := Lib.hid TD
          replace TE := Lib.hid TE
          have hB : Below W.heap.size W W := Below.refl _ _
          go_enter Try.func5, Try.ntmps5
          go_wp2_with fail
          refine (TD.out _).mono ?_
          rintro e V1 ⟨rfl, hk⟩
          replace hB := below_seq hB hk
          clear hk
          go_wp2_with fail
          refine (TE.out _).mono ?_
          rintro e V2 ⟨rfl, hk⟩
          replace hB := below_seq hB hk
          clear hk
          go_wp2_with fail
          refine (shown13 _).mono ?_
          rintro e V3 ⟨rfl, hk⟩
          replace hB := below_seq hB hk
          clear hk
          go_wp2
          go_ret
          exact ⟨rfl, hB⟩
        · skip
          have f1 := e1.trans (decide_eq_true (show fv x ≤ fv y by omega))
          have f2 := e2.trans (decide_eq_false (show ¬ fv y ≤ fv x by omega))
          have g1 := m1 c
          clear c d
          clear e1 e2 m1 m2
          replace TD := Lib.hid TD
          replace TE := Lib.hid TE
          have hB : Below W.heap.size W W := Below.refl _ _
          go_enter Try.func5, Try.ntmps5
          go_wp2_with fail
          refine (TD.out _).mono ?_
          rintro e V1 ⟨rfl, hk⟩
          replace hB := below_seq hB hk
          clear hk
          go_wp2_with fail
          refine (TE.out _).mono ?_
          rintro e V2 ⟨rfl, hk⟩
          replace hB := below_seq hB hk
          clear hk
          go_wp2_with fail
          refine (shown13 _).mono ?_
          rintro e V3 ⟨rfl, hk⟩
          replace hB := below_seq hB hk
          clear hk
          go_wp2
          go_ret
          exact ⟨rfl, hB⟩
      · skip
        have f1 := e1.trans (decide_eq_false (show ¬ fv x ≤ fv y by omega))
        have f2 := e2.trans (decide_eq_true (show fv y ≤ fv x by omega))
        have g2 := m2 (by omega)
        clear c
        clear e1 e2 m1 m2
        replace TD := Lib.hid TD
        replace TE := Lib.hid TE
        have hB : Below W.heap.size W W := Below.refl _ _
        go_enter Try.func5, Try.ntmps5
        go_wp2_with fail
        refine (TD.out _).mono ?_
        rintro e V1 ⟨rfl, hk⟩
        replace hB := below_seq hB hk
        clear hk
        go_wp2_with fail
        refine (TE.out _).mono ?_
        rintro e V2 ⟨rfl, hk⟩
        replace hB := below_seq hB hk
        clear hk
        go_wp2_with fail
        refine (shown13 _).mono ?_
        rintro e V3 ⟨rfl, hk⟩
        replace hB := below_seq hB hk
        clear hk
        go_wp2
        go_ret
        exact ⟨rfl, hB⟩
    · skip
      simp only [h] at TD
      generalize fixE y most = F at *
      generalize fixN y most = M at *
      generalize fixN x most = N at *
      replace TD := Lib.hid TD
      replace TE := Lib.hid TE
      have hB : Below W.heap.size W W := Below.refl _ _
      go_enter Try.func5, Try.ntmps5
      go_wp2_with fail
      refine (TD.out _).mono ?_
      rintro e V1 ⟨rfl, hk⟩
      replace hB := below_seq hB hk
      clear hk
      go_wp2_with fail
      refine (TE.out _).mono ?_
      rintro e V2 ⟨rfl, hk⟩
      replace hB := below_seq hB hk
      clear hk
      go_wp2_with fail
      refine (shown13 _).mono ?_
      rintro e V3 ⟨rfl, hk⟩
      replace hB := below_seq hB hk
      clear hk
      go_wp2
      go_ret
      exact ⟨rfl, hB⟩
  · skip
    generalize fixE x most = E at *
    generalize fixN x most = N at *
    generalize fixE y most = F at *
    generalize fixN y most = M at *
    replace TD := Lib.hid TD
    replace TE := Lib.hid TE
    have hB : Below W.heap.size W W := Below.refl _ _
    go_enter Try.func5, Try.ntmps5
    go_wp2_with fail
    refine (TD.out _).mono ?_
    rintro e V1 ⟨rfl, hk⟩
    replace hB := below_seq hB hk
    clear hk
    go_wp2_with fail
    refine (TE.out _).mono ?_
    rintro e V2 ⟨rfl, hk⟩
    replace hB := below_seq hB hk
    clear hk
    go_wp2_with fail
    refine (shown13 _).mono ?_
    rintro e V3 ⟨rfl, hk⟩
    replace hB := below_seq hB hk
    clear hk
    go_wp2
    go_ret
    exact ⟨rfl, hB⟩

theorem own : ownKnob Try.prog.godebug = none := by kernel_rfl

set_option maxRecDepth 100000 in
theorem lifted (os : Os) (started : os.Started) (H : Type) (enc : TypeId × Value → H) :
    ReturnsInHanded {} Try.checked os 5 .any (Rows.fixedOrderSpec.pre6 enc Try.prog Try.f5 Rows.fixedOrderRow.domain false) (Rows.fixedOrderSpec.post enc Try.prog Try.f5 false true false false) := by
  refine returnsInHanded_of_change (C := Try.checked) own started (by kernel_rfl) Try.func5
    (ChangeSpec.witness6 (enc := enc) (C := Try.checked) false ⟨#[], #[.float .f64 0, .float .f64 0, .int .i64 0], []⟩ 8 (by kernel_rfl) (by kernel_rfl) (by kernel_rfl) (by kernel_rfl)) ?_
  intro W base args ds gs before hval hW _ _
  have hW' := hW
  obtain ⟨p, q, hA0, hV, rfl, hfz, hnd⟩ := hW
  have hA : DataW.TrodAll enc Try.prog W 0 (fun _ => true) true Try.f5.params.toList args.toList ds p := hA0
  rw [Try.params5] at hA hval
  obtain ⟨v0, vs0, d0, ds0, p0, q0, hargs, rfl, rfl, h0, r0⟩ := trodAll_cons hA
  obtain ⟨v1, vs1, d1, ds1, p1, q1, rfl, rfl, rfl, h1, r1⟩ := trodAll_cons r0
  obtain ⟨v2, vs2, d2, ds2, p2, q2, rfl, rfl, rfl, h2, r2⟩ := trodAll_cons r1
  obtain ⟨rfl, rfl, rfl⟩ := trodAll_nil r2
  obtain rfl : args = #[v0, v1, v2] := by cases args; simp_all
  obtain ⟨rfl, rfl⟩ := trodVars_none hV
  obtain ⟨a0, rfl, rfl, rfl, w0⟩ := open_float Try.underlying22 (hval 0 22 v0 rfl rfl) h0
  obtain ⟨a1, rfl, rfl, rfl, w1⟩ := open_float Try.underlying22 (hval 1 22 v1 rfl rfl) h1
  obtain ⟨a2, rfl, rfl, rfl, w2⟩ := open_int Try.underlying3 (hval 2 3 v2 rfl rfl) h2
  clear hA0
  simp only [List.append_nil] at hW'
  refine (walk a0 a1 a2 W (float_wf w0) (float_wf w1) (int_i64 w2)).mono fun e W' ⟨he, hB⟩ => ?_
  subst he
  exact ⟨_, rfl, ⟨_, _, _, [], _, [], hW', trodAll_cons_mk (shut_bool Try.underlying4 _) trodAll_mk0, (trodAll_cons_mk (shut_float Try.underlying22 w0) (trodAll_cons_mk (shut_float Try.underlying22 w1) (trodAll_cons_mk (shut_int Try.underlying3 w2) trodAll_mk0))), rfl, hB.frame _, fun h => by cases h⟩⟩

theorem holds : Rows.FixedOrderSaid :=
  OpenClaim.holds_of_wide 5 Try.f5 rfl rfl rfl rfl rfl rfl rfl ⟨rfl, rfl, rfl, rfl, rfl⟩ rfl rfl rfl rfl rfl (by kernel_rfl) Try.func5 (by kernel_rfl)
    (of_decide_eq_true (by kernel_rfl)) (by unfold Func.isWrapper; first | (rw [if_pos (by decide +kernel)]; kernel_rfl) | (rw [if_neg (by decide +kernel)]; exact ⟨rfl, rfl⟩))
    (fun os started H enc _ => lifted os started H enc)
end Go.Proofs.Ythebafhbcblmhaa.FixedOrder

/- Two slots of a bank do not touch each other, and stand in it (LayoutApart); no condition. -/
import Derived.Test.YtoemjfjmpmngeabLayoutLaw
import Derived.Lib.Hide
import Derived.ProofKit
import Derived.OpenShut
import Derived.ChangeMaps5
import Derived.Test.YtoemjfjmpmngeabInts
namespace Go.Proofs.Ytoemjfjmpmngeab.LayoutApart
open Go.ChangeShapes Go.WideShapes Go.ChangeAt Go.RowKit Go.ChangeMaps
set_option linter.unusedVariables false

set_option maxRecDepth 100000 in
set_option maxHeartbeats 4000000 in
theorem walk (n : Int) (a : Int) (b : Int) (W : World) (hn : -9223372036854775808 ≤ n ∧ n ≤ 9223372036854775807) (ha : -9223372036854775808 ≤ a ∧ a ≤ 9223372036854775807) (hb : -9223372036854775808 ≤ b ∧ b ≤ 9223372036854775807) :
    Calls Try.prog 13 #[.int .i64 n, .int .i64 a, .int .i64 b] W fun e W' => e = .returned (.bool true) ∧ Below W.heap.size W W' := by
  by_cases he : 1 ≤ n ∧ n ≤ 12
  · have HE := Lib.hid (evenB_in he)
    by_cases c4 : a < 0
    · clear he
      go_enter Try.func13, Try.ntmps13
      go_wp2_with fail
      refine (calls_as (own05Even _ _) (val_bool HE.out)).mono ?_
      rintro e W1 ⟨rfl, hB⟩
      go_wp2_with fail
      refine (shown05 _).mono ?_
      rintro e W2 ⟨rfl, h2⟩
      replace hB := below_seq hB h2
      clear h2
      go_wp2
      go_ret
      exact ⟨rfl, hB⟩
    · skip
      by_cases c6 : b < 0
      · clear he
        go_enter Try.func13, Try.ntmps13
        go_wp2_with fail
        refine (calls_as (own05Even _ _) (val_bool HE.out)).mono ?_
        rintro e W1 ⟨rfl, hB⟩
        go_wp2_with fail
        refine (shown05 _).mono ?_
        rintro e W2 ⟨rfl, h2⟩
        replace hB := below_seq hB h2
        clear h2
        go_wp2
        go_ret
        exact ⟨rfl, hB⟩
      · skip
        by_cases c8 : n < a
        · clear he
          go_enter Try.func13, Try.ntmps13
          go_wp2_with fail
          refine (calls_as (own05Even _ _) (val_bool HE.out)).mono ?_
          rintro e W1 ⟨rfl, hB⟩
          go_wp2_with fail
          refine (shown05 _).mono ?_
          rintro e W2 ⟨rfl, h2⟩
          replace hB := below_seq hB h2
          clear h2
          go_wp2
          go_ret
          exact ⟨rfl, hB⟩
        · skip
          by_cases c10 : n < b
          · clear he
            go_enter Try.func13, Try.ntmps13
            go_wp2_with fail
            refine (calls_as (own05Even _ _) (val_bool HE.out)).mono ?_
            rintro e W1 ⟨rfl, hB⟩
            go_wp2_with fail
            refine (shown05 _).mono ?_
            rintro e W2 ⟨rfl, h2⟩
            replace hB := below_seq hB h2
            clear h2
            go_wp2
            go_ret
            exact ⟨rfl, hB⟩
          · skip
            have HA := Lib.hid (atF_in (k := a) (by omega))
            have HB := Lib.hid (atF_in (k := b) (by omega))
            have HM := Lib.hid (markF_in (k := a) (by omega))
            have HS := Lib.hid (sizeF_in he)
            have b1 : (24 * a % 2 == 0) = true := beq_iff_eq.2 (by omega)
            have b2 : (24 * a + 22 == 24 * a + 22) = true := beq_self_eq_true _
            obtain ⟨he1, he2⟩ := he
            by_cases d0 : a = b
            · subst d0
              have b3 : (a == a) = true := beq_self_eq_true _
              go_enter Try.func13, Try.ntmps13
              go_wp2_with fail
              refine (calls_as (own05Even _ _) (val_bool HE.out)).mono ?_
              rintro e W1 ⟨rfl, hB⟩
              go_wp2_with fail
              refine (shown05 _).mono ?_
              rintro e W2 ⟨rfl, h2⟩
              replace hB := below_seq hB h2
              clear h2
              go_wp2_with fail
              refine (calls_as (own05At _ _) (val_int HA.out)).mono ?_
              rintro e W3 ⟨rfl, h3⟩
              replace hB := below_seq hB h3
              clear h3
              go_wp2_with fail
              refine (calls_as (own05At _ _) (val_int HA.out)).mono ?_
              rintro e W4 ⟨rfl, h4⟩
              replace hB := below_seq hB h4
              clear h4
              go_wp2_with fail
              refine (calls_as (own05Mark _ _) (val_int HM.out)).mono ?_
              rintro e W5 ⟨rfl, h5⟩
              replace hB := below_seq hB h5
              clear h5
              go_wp2_with fail
              refine (calls_as (own05Size _ _) (val_int HS.out)).mono ?_
              rintro e W6 ⟨rfl, h6⟩
              replace hB := below_seq hB h6
              clear h6
              go_wp2
              go_ret
              exact ⟨rfl, hB⟩
            · skip
              by_cases d1 : a < b
              · have b3 : (a == b) = false := beq_eq_false_iff_ne.2 (by omega)
                have e1 : 24 * a + 24 ≤ 24 * b := by omega
                go_enter Try.func13, Try.ntmps13
                go_wp2_with fail
                refine (calls_as (own05Even _ _) (val_bool HE.out)).mono ?_
                rintro e W1 ⟨rfl, hB⟩
                go_wp2_with fail
                refine (shown05 _).mono ?_
                rintro e W2 ⟨rfl, h2⟩
                replace hB := below_seq hB h2
                clear h2
                go_wp2_with fail
                refine (calls_as (own05At _ _) (val_int HA.out)).mono ?_
                rintro e W3 ⟨rfl, h3⟩
                replace hB := below_seq hB h3
                clear h3
                go_wp2_with fail
                refine (calls_as (own05At _ _) (val_int HB.out)).mono ?_
                rintro e W4 ⟨rfl, h4⟩
                replace hB := below_seq hB h4
                clear h4
                go_wp2_with fail
                refine (calls_as (own05Mark _ _) (val_int HM.out)).mono ?_
                rintro e W5 ⟨rfl, h5⟩
                replace hB := below_seq hB h5
                clear h5
                go_wp2_with fail
                refine (calls_as (own05Size _ _) (val_int HS.out)).mono ?_
                rintro e W6 ⟨rfl, h6⟩
                replace hB := below_seq hB h6
                clear h6
                go_wp2
                go_ret
                exact ⟨rfl, hB⟩
              · skip
                have b3 : (a == b) = false := beq_eq_false_iff_ne.2 d0
                have e1 : ¬ 24 * a + 24 ≤ 24 * b := by omega
                have e2 : 24 * b + 24 ≤ 24 * a := by omega
                go_enter Try.func13, Try.ntmps13
                go_wp2_with fail
                refine (calls_as (own05Even _ _) (val_bool HE.out)).mono ?_
                rintro e W1 ⟨rfl, hB⟩
                go_wp2_with fail
                refine (shown05 _).mono ?_
                rintro e W2 ⟨rfl, h2⟩
                replace hB := below_seq hB h2
                clear h2
                go_wp2_with fail
                refine (calls_as (own05At _ _) (val_int HA.out)).mono ?_
                rintro e W3 ⟨rfl, h3⟩
                replace hB := below_seq hB h3
                clear h3
                go_wp2_with fail
                refine (calls_as (own05At _ _) (val_int HB.out)).mono ?_
                rintro e W4 ⟨rfl, h4⟩
                replace hB := below_seq hB h4
                clear h4
                go_wp2_with fail
                refine (calls_as (own05Mark _ _) (val_int HM.out)).mono ?_
                rintro e W5 ⟨rfl, h5⟩
                replace hB := below_seq hB h5
                clear h5
                go_wp2_with fail
                refine (calls_as (own05Size _ _) (val_int HS.out)).mono ?_
                rintro e W6 ⟨rfl, h6⟩
                replace hB := below_seq hB h6
                clear h6
                go_wp2
                go_ret
                exact ⟨rfl, hB⟩
  · have HE := Lib.hid (evenB_out he)
    clear he
    go_enter Try.func13, Try.ntmps13
    go_wp2_with fail
    refine (calls_as (own05Even _ _) (val_bool HE.out)).mono ?_
    rintro e W1 ⟨rfl, hB⟩
    go_wp2_with fail
    refine (shown05 _).mono ?_
    rintro e W2 ⟨rfl, h2⟩
    replace hB := below_seq hB h2
    clear h2
    go_wp2
    go_ret
    exact ⟨rfl, hB⟩

theorem own : ownKnob Try.prog.godebug = none := by kernel_rfl

set_option maxRecDepth 100000 in
theorem lifted (os : Os) (started : os.Started) (H : Type) (enc : TypeId × Value → H) :
    ReturnsInHanded {} Try.checked os 13 .any (Rows.layoutApartSpec.pre6 enc Try.prog Try.f13 Rows.layoutApartRow.domain false) (Rows.layoutApartSpec.post enc Try.prog Try.f13 false true false false) := by
  refine returnsInHanded_of_change (C := Try.checked) own started (by kernel_rfl) Try.func13
    (ChangeSpec.witness6 (enc := enc) (C := Try.checked) false ⟨#[], #[.int .i64 0, .int .i64 0, .int .i64 0], []⟩ 8 (by kernel_rfl) (by kernel_rfl) (by kernel_rfl) (by kernel_rfl)) ?_
  intro W base args ds gs before hval hW _ _
  have hW' := hW
  obtain ⟨p, q, hA0, hV, rfl, hfz, hnd⟩ := hW
  have hA : DataW.TrodAll enc Try.prog W 0 (fun _ => true) true Try.f13.params.toList args.toList ds p := hA0
  rw [Try.params13] at hA hval
  obtain ⟨v0, vs0, d0, ds0, p0, q0, hargs, rfl, rfl, h0, r0⟩ := trodAll_cons hA
  obtain ⟨v1, vs1, d1, ds1, p1, q1, rfl, rfl, rfl, h1, r1⟩ := trodAll_cons r0
  obtain ⟨v2, vs2, d2, ds2, p2, q2, rfl, rfl, rfl, h2, r2⟩ := trodAll_cons r1
  obtain ⟨rfl, rfl, rfl⟩ := trodAll_nil r2
  obtain rfl : args = #[v0, v1, v2] := by cases args; simp_all
  obtain ⟨rfl, rfl⟩ := trodVars_none hV
  obtain ⟨a0, rfl, rfl, rfl, w0⟩ := open_int Try.underlying3 (hval 0 3 v0 rfl rfl) h0
  obtain ⟨a1, rfl, rfl, rfl, w1⟩ := open_int Try.underlying3 (hval 1 3 v1 rfl rfl) h1
  obtain ⟨a2, rfl, rfl, rfl, w2⟩ := open_int Try.underlying3 (hval 2 3 v2 rfl rfl) h2
  clear hA0
  simp only [List.append_nil] at hW'
  refine (walk a0 a1 a2 W (int_i64 w0) (int_i64 w1) (int_i64 w2)).mono fun e W' ⟨he, hB⟩ => ?_
  subst he
  exact ⟨_, rfl, ⟨_, _, _, [], _, [], hW', trodAll_cons_mk (shut_bool Try.underlying4 _) trodAll_mk0, (trodAll_cons_mk (shut_int Try.underlying3 w0) (trodAll_cons_mk (shut_int Try.underlying3 w1) (trodAll_cons_mk (shut_int Try.underlying3 w2) trodAll_mk0))), rfl, hB.frame _, fun h => by cases h⟩⟩

theorem holds : Rows.LayoutApartSaid :=
  OpenClaim.holds_of_wide 13 Try.f13 rfl rfl rfl rfl rfl rfl rfl ⟨rfl, rfl, rfl, rfl, rfl⟩ rfl rfl rfl rfl rfl (by kernel_rfl) Try.func13 (by kernel_rfl)
    (of_decide_eq_true (by kernel_rfl)) (by unfold Func.isWrapper; first | (rw [if_pos (by decide +kernel)]; kernel_rfl) | (rw [if_neg (by decide +kernel)]; exact ⟨rfl, rfl⟩))
    (fun os started H enc _ => lifted os started H enc)
end Go.Proofs.Ytoemjfjmpmngeab.LayoutApart

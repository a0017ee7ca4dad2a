/- For all texts the program's answers of layer 1 are the reference's (ClearTears); no condition. -/
import Derived.Test.YtoemjfjmpmngeaaLaw
import Derived.ProofKit
import Derived.OpenShut
import Derived.ChangeMaps5
namespace Go.Proofs.Ytoemjfjmpmngeaa.ClearTears
open Go.ChangeShapes Go.WideShapes Go.ChangeAt Go.RowKit Go.ChangeMaps
set_option linter.unusedVariables false

set_option maxRecDepth 100000 in
set_option maxHeartbeats 4000000 in
theorem walk (o w m g : ByteArray) (W : World) (ho : o.size ≤ maxLen) (hw : w.size ≤ maxLen) (hm : m.size ≤ maxLen) (hg : g.size ≤ maxLen) :
    Calls Try.prog 3 #[.string o, .string w, .string m, .string g] W fun e W' => e = .returned (.bool true) ∧ Below W.heap.size W W' := by
  have hlong : Calls Try.prog 15 #[.slice (some ⟨W.heap.size, 0, none⟩) 4 4] (W.alloc (.cells #[.string o, .string w, .string m, .string g] 9)) fun e W' => e = .returned (.bool (longB [o, w, m, g])) ∧ W.alloc (.cells #[.string o, .string w, .string m, .string g] 9) = W' :=
    long_any W.heap.size 4 [o, w, m, g] _ (by simp) (fun j h => by
      have hj : j < 4 := h
      rw [cell_of_row _ W.heap.size j _ _ (0, 0) (World.alloc_heap_new W _)]
      match j, hj with
      | 0, _ => rfl
      | 1, _ => rfl
      | 2, _ => rfl
      | 3, _ => rfl) (fun s hs => by
      rcases List.mem_cons.1 hs with h | hs
      · rw [h]; exact ho
      rcases List.mem_cons.1 hs with h | hs
      · rw [h]; exact hw
      rcases List.mem_cons.1 hs with h | hs
      · rw [h]; exact hm
      rcases List.mem_cons.1 hs with h | hs
      · rw [h]; exact hg
      cases hs)
  have hB : Below W.heap.size W (W.alloc (.cells #[.string o, .string w, .string m, .string g] 9)) := (Below.refl _ _).alloc (Nat.le_refl _) _
  by_cases hl : longB [o, w, m, g] = true
  · rw [hl] at hlong
    have HL := Lib.hid hlong
    clear hlong hl
    go_enter Try.func3, Try.ntmps3
    go_wp2_with fail
    refine HL.out.mono ?_
    rintro e W1 ⟨rfl, rfl⟩
    clear HL
    go_wp2_with fail
    refine (shown_any _).mono ?_
    rintro e W2 ⟨rfl, h2⟩
    go_wp2
    go_ret
    exact ⟨rfl, below_seq hB h2⟩
  · have hl' : longB [o, w, m, g] = false := by simpa using hl
    have bo : o.size ≤ 500 := longB_no hl' (by simp)
    have bw : w.size ≤ 500 := longB_no hl' (by simp)
    have bm : m.size ≤ 500 := longB_no hl' (by simp)
    have bg : g.size ≤ 500 := longB_no hl' (by simp)
    rw [hl'] at hlong
    have HL := Lib.hid hlong
    clear hlong hl hl'
    go_enter Try.func3, Try.ntmps3
    go_wp2_with fail
    refine HL.out.mono ?_
    rintro e W1 ⟨rfl, rfl⟩
    clear HL
    go_wp2_with fail
    refine (shown_any _).mono ?_
    rintro e W2 ⟨rfl, h2⟩
    replace hB := below_seq hB h2
    clear h2
    go_wp2_with fail
    refine (clrAnd _ _ _ (by omega) hw).mono ?_
    rintro e W3 ⟨rfl, h3⟩
    replace hB := below_seq hB h3
    clear h3
    go_wp2_with fail
    refine (refAnd _ _ _ (by omega) hw).mono ?_
    rintro e W4 ⟨rfl, h4⟩
    replace hB := below_seq hB h4
    clear h4
    go_wp2_with fail
    refine (clrTorn _ _ _ _ (by omega) hw hm).mono ?_
    rintro e W5 ⟨rfl, h5⟩
    replace hB := below_seq hB h5
    clear h5
    go_wp2_with fail
    refine (refTorn _ _ _ _ (by omega) hw hm).mono ?_
    rintro e W6 ⟨rfl, h6⟩
    replace hB := below_seq hB h6
    clear h6
    go_wp2_with fail
    refine (clrMay _ _ _ _ (by omega) hw hg).mono ?_
    rintro e W7 ⟨rfl, h7⟩
    replace hB := below_seq hB h7
    clear h7
    go_wp2_with fail
    refine (refMay _ _ _ _ (by omega) hw hg).mono ?_
    rintro e W8 ⟨rfl, rfl⟩
    go_wp2_with fail
    refine (clrBits _ _ _ (by omega) hg).mono ?_
    rintro e W9 ⟨rfl, h9⟩
    replace hB := below_seq hB h9
    clear h9
    go_wp2_with fail
    refine (refBits _ _ _ (by omega) hg).mono ?_
    rintro e W10 ⟨rfl, rfl⟩
    go_wp2
    go_ret
    exact ⟨rfl, hB⟩

theorem own : ownKnob Try.prog.godebug = none := by kernel_rfl

set_option maxRecDepth 100000 in
theorem lifted (os : Os) (started : os.Started) (H : Type) (enc : TypeId × Value → H) :
    ReturnsInHanded {} Try.checked os 3 .any (Rows.clearTearsSpec.pre6 enc Try.prog Try.f3 Rows.clearTearsRow.domain false) (Rows.clearTearsSpec.post enc Try.prog Try.f3 false true false false) := by
  refine returnsInHanded_of_change (C := Try.checked) own started (by kernel_rfl) Try.func3
    (ChangeSpec.witness6 (enc := enc) (C := Try.checked) false ⟨#[], #[.string ⟨#[]⟩, .string ⟨#[]⟩, .string ⟨#[]⟩, .string ⟨#[]⟩], []⟩ 8 (by kernel_rfl) (by kernel_rfl) (by kernel_rfl) (by kernel_rfl)) ?_
  intro W base args ds gs before hval hW _ _
  have hW' := hW
  obtain ⟨p, q, hA0, hV, rfl, hfz, hnd⟩ := hW
  have hA : DataW.TrodAll enc Try.prog W 0 (fun _ => true) true Try.f3.params.toList args.toList ds p := hA0
  rw [Try.params3] at hA hval
  obtain ⟨v0, vs0, d0, ds0, p0, q0, hargs, rfl, rfl, h0, r0⟩ := trodAll_cons hA
  obtain ⟨v1, vs1, d1, ds1, p1, q1, rfl, rfl, rfl, h1, r1⟩ := trodAll_cons r0
  obtain ⟨v2, vs2, d2, ds2, p2, q2, rfl, rfl, rfl, h2, r2⟩ := trodAll_cons r1
  obtain ⟨v3, vs3, d3, ds3, p3, q3, rfl, rfl, rfl, h3, r3⟩ := trodAll_cons r2
  obtain ⟨rfl, rfl, rfl⟩ := trodAll_nil r3
  obtain rfl : args = #[v0, v1, v2, v3] := by cases args; simp_all
  obtain ⟨rfl, rfl⟩ := trodVars_none hV
  obtain ⟨s0, rfl, rfl, rfl, hs0⟩ := open_string Try.underlying9 (hval 0 9 v0 rfl rfl) h0
  obtain ⟨s1, rfl, rfl, rfl, hs1⟩ := open_string Try.underlying9 (hval 1 9 v1 rfl rfl) h1
  obtain ⟨s2, rfl, rfl, rfl, hs2⟩ := open_string Try.underlying9 (hval 2 9 v2 rfl rfl) h2
  obtain ⟨s3, rfl, rfl, rfl, hs3⟩ := open_string Try.underlying9 (hval 3 9 v3 rfl rfl) h3
  clear hA0
  simp only [List.append_nil] at hW'
  refine (walk s0 s1 s2 s3 W hs0 hs1 hs2 hs3).mono fun e W' ⟨he, hB⟩ => ?_
  subst he
  exact ⟨_, rfl, ⟨_, _, _, [], [], [], hW', trodAll_cons_mk (shut_bool Try.underlying4 _) trodAll_mk0, (trodAll_cons_mk (shut_string Try.underlying9 hs0) (trodAll_cons_mk (shut_string Try.underlying9 hs1) (trodAll_cons_mk (shut_string Try.underlying9 hs2) (trodAll_cons_mk (shut_string Try.underlying9 hs3) trodAll_mk0)))), rfl, hB.frame _, fun h => by cases h⟩⟩

theorem holds : Rows.ClearTearsSaid :=
  OpenClaim.holds_of_wide 3 Try.f3 rfl rfl rfl rfl rfl rfl rfl ⟨rfl, rfl, rfl, rfl, rfl⟩ rfl rfl rfl rfl rfl (by kernel_rfl) Try.func3 (by kernel_rfl)
    (of_decide_eq_true (by kernel_rfl)) (by unfold Func.isWrapper; first | (rw [if_pos (by decide +kernel)]; kernel_rfl) | (rw [if_neg (by decide +kernel)]; exact ⟨rfl, rfl⟩))
    (fun os started H enc _ => lifted os started H enc)
end Go.Proofs.Ytoemjfjmpmngeaa.ClearTears

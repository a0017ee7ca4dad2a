/- Two bytes side by side cannot be told the other way round without another sum, unless they are the same (CrcSwap); no condition. -/
import Derived.Test.YtoemjfjmpmngeaaCrcLaw
import Derived.ProofKit
import Derived.OpenShut
import Derived.ChangeMaps5
import Derived.Test.YtoemjfjmpmngeaaInts
namespace Go.Proofs.Ytoemjfjmpmngeaa.CrcSwap
open Go.ChangeShapes Go.WideShapes Go.ChangeAt Go.RowKit Go.ChangeMaps
set_option linter.unusedVariables false
theorem swap_eq (s : ByteArray) (p : Nat) (h1 : p < s.size) (h2 : p + 1 < s.size) :
    (sumT s == sumT (s.extract 0 p ++ s.extract (p + 1) (p + 2) ++ s.extract p (p + 1) ++ s.extract (p + 2) s.size)) = (((s[p].toNat : Nat) : Int) == ((s[p + 1].toNat : Nat) : Int)) := by
  have l1 : p < (bl s).length := by rw [bl_length]; exact h1
  have l2 : p + 1 < (bl s).length := by rw [bl_length]; exact h2
  have d1 : (bl s).drop p = s[p] :: (bl s).drop (p + 1) := List.drop_eq_getElem_cons l1
  have d2 : (bl s).drop (p + 1) = s[p + 1] :: (bl s).drop (p + 2) := List.drop_eq_getElem_cons l2
  have e0 : bl s = (bl s).take p ++ [s[p], s[p + 1]] ++ (bl s).drop (p + 2) := by
    have h := (List.take_append_drop p (bl s)).symm
    rw [d1, d2] at h
    rw [List.append_assoc]; exact h
  have e1 : bl (s.extract 0 p) = (bl s).take p := by rw [bl_extract, List.drop_zero]
  have e2 : bl (s.extract (p + 1) (p + 2)) = [s[p + 1]] := by
    rw [bl_extract, List.drop_take, d2]; simp
  have e3 : bl (s.extract p (p + 1)) = [s[p]] := by
    rw [bl_extract, List.drop_take, d1]; simp
  have e4 : bl (s.extract (p + 2) s.size) = (bl s).drop (p + 2) := by
    rw [bl_extract, ← bl_length s, List.take_length]
  refine beq_of_iff ((sumT_burst ((bl s).take p) [s[p], s[p + 1]] [s[p + 1], s[p]] ((bl s).drop (p + 2)) _ _ e0 (by rw [bl_append, bl_append, bl_append, e1, e2, e3, e4]; simp) (by simp) rfl).trans ?_)
  constructor
  · intro h; simp only [List.cons.injEq, and_true] at h; exact congrArg (fun x : UInt8 => ((x.toNat : Nat) : Int)) h.1
  · intro h
    have h3 : s[p] = s[p + 1] := UInt8.toNat_inj.1 (by omega)
    rw [h3]

set_option maxRecDepth 100000 in
set_option maxHeartbeats 4000000 in
theorem walk (s : ByteArray) (q : Int) (W : World) (hs : s.size ≤ maxLen) (hq : -9223372036854775808 ≤ q ∧ q ≤ 9223372036854775807) :
    Calls Try.prog 13 #[.string s, .int .i64 q] W fun e W' => e = .returned (.bool true) ∧ Below W.heap.size W W' := by
  unfold maxLen at hs
  obtain ⟨ht1, ht2⟩ := hq
  by_cases hl : 300 < s.size
  · go_enter Try.func13, Try.ntmps13
    go_wp2_with fail
    refine (shown2 _).mono ?_
    rintro e W2 ⟨rfl, h2⟩
    go_wp2
    go_ret
    exact ⟨rfl, h2⟩
  · have hl2 : s.size ≤ 300 := by omega
    by_cases hl3 : q < 0
    · go_enter Try.func13, Try.ntmps13
      go_wp2_with fail
      refine (shown2 _).mono ?_
      rintro e W2 ⟨rfl, h2⟩
      go_wp2
      go_ret
      exact ⟨rfl, h2⟩
    · obtain ⟨p, rfl⟩ := Int.eq_ofNat_of_zero_le (by omega : 0 ≤ q)
      by_cases hl4 : (s.size : Int) - 1 ≤ p
      · go_enter Try.func13, Try.ntmps13
        go_wp2_with fail
        refine (shown2 _).mono ?_
        rintro e W2 ⟨rfl, h2⟩
        go_wp2
        go_ret
        exact ⟨rfl, h2⟩
      · have h1 : p < s.size := by omega
        have h2 : p + 1 < s.size := by omega
        have h3 : p ≤ s.size := by omega
        have h4 : p + 2 ≤ s.size := by omega
        clear hl hl3 ht1 ht2
        go_enter Try.func13, Try.ntmps13
        go_wp2_with fail
        refine (shown2 _).mono ?_
        rintro e W2 ⟨rfl, hB⟩
        go_wp2
        have w1 : IntKind.i64.wrap ((p : Int) + 1) = (p : Int) + 1 := by rw [IntKind.wrap_i64]; omega
        have w2 : IntKind.i64.wrap ((p : Int) + 2) = (p : Int) + 2 := by rw [IntKind.wrap_i64]; omega
        have n1 : ((p : Int) + 1).toNat = p + 1 := by omega
        have n2 : ((p : Int) + 2).toNat = p + 2 := by omega
        have g0 : (0 : Int) ≤ (p : Int) + 1 := by omega
        have g1 : (p : Int) + 1 ≤ (p : Int) + 2 := by omega
        have g2 : (p : Int) + 2 ≤ (s.size : Int) := by omega
        have g3 : (p : Int) ≤ (p : Int) + 1 := by omega
        have g5 : (p : Int) + 1 ≤ (s.size : Int) := by omega
        have g4 : (0 : Int) ≤ (p : Int) + 2 := by omega
        have z1 : ¬ 9223372036854775807 < p + 1 := by omega
        have z2 : ¬ 9223372036854775807 < p + 1 + (min (p + 1) s.size - p) := by omega
        have z3 : ¬ 9223372036854775807 < p + 1 + (min (p + 1) s.size - p) + (s.size - (p + 2)) := by omega
        go_quiet (fail)
        replace hB : Below W.heap.size W (W2.drewN nq) := ⟨hB.os, hB.tape, hB.output, hB.size, hB.block⟩
        generalize W2.drewN nq = W3 at hB ⊢
        go_wp2_with fail
        replace hB := hB.drew
        go_region_with (first
          | (go_at_call 26; refine (crcSum _ _ (by unfold maxLen; first | omega | (simp; omega))).mono ?_; rintro e W5 ⟨rfl, h5⟩; replace hB := below_seq hB h5; clear h5))
        all_goals
          go_wp2
          go_ret
          exact ⟨ret_bool (by rw [swap_eq s p h1 h2]; exact beq_self_eq_true _), hB⟩

theorem own : ownKnob Try.prog.godebug = none := by kernel_rfl

set_option maxRecDepth 100000 in
theorem lifted (os : Os) (started : os.Started) (H : Type) (enc : TypeId × Value → H) :
    ReturnsInHanded {} Try.checked os 13 .any (Rows.crcSwapSpec.pre6 enc Try.prog Try.f13 Rows.crcSwapRow.domain false) (Rows.crcSwapSpec.post enc Try.prog Try.f13 false true false false) := by
  refine returnsInHanded_of_change (C := Try.checked) own started (by kernel_rfl) Try.func13
    (ChangeSpec.witness6 (enc := enc) (C := Try.checked) false ⟨#[], #[.string ⟨#[]⟩, .int .i64 0], []⟩ 8 (by kernel_rfl) (by kernel_rfl) (by kernel_rfl) (by kernel_rfl)) ?_
  intro W base args ds gs before hval hW _ _
  have hW' := hW
  obtain ⟨p, q, hA0, hV, rfl, hfz, hnd⟩ := hW
  have hA : DataW.TrodAll enc Try.prog W 0 (fun _ => true) true Try.f13.params.toList args.toList ds p := hA0
  rw [Try.params13] at hA hval
  obtain ⟨v0, vs0, d0, ds0, p0, q0, hargs, rfl, rfl, h0, r0⟩ := trodAll_cons hA
  obtain ⟨v1, vs1, d1, ds1, p1, q1, rfl, rfl, rfl, h1, r1⟩ := trodAll_cons r0
  obtain ⟨rfl, rfl, rfl⟩ := trodAll_nil r1
  obtain rfl : args = #[v0, v1] := by cases args; simp_all
  obtain ⟨rfl, rfl⟩ := trodVars_none hV
  obtain ⟨s0, rfl, rfl, rfl, hs0⟩ := open_string Try.underlying9 (hval 0 9 v0 rfl rfl) h0
  obtain ⟨a1, rfl, rfl, rfl, w1⟩ := open_int Try.underlying3 (hval 1 3 v1 rfl rfl) h1
  clear hA0
  simp only [List.append_nil] at hW'
  refine (walk s0 a1 W hs0 (int_i64 w1)).mono fun e W' ⟨he, hB⟩ => ?_
  subst he
  exact ⟨_, rfl, ⟨_, _, _, [], [], [], hW', trodAll_cons_mk (shut_bool Try.underlying4 _) trodAll_mk0, (trodAll_cons_mk (shut_string Try.underlying9 hs0) (trodAll_cons_mk (shut_int Try.underlying3 w1) trodAll_mk0)), rfl, hB.frame _, fun h => by cases h⟩⟩

theorem holds : Rows.CrcSwapSaid :=
  OpenClaim.holds_of_wide 13 Try.f13 rfl rfl rfl rfl rfl rfl rfl ⟨rfl, rfl, rfl, rfl, rfl⟩ rfl rfl rfl rfl rfl (by kernel_rfl) Try.func13 (by kernel_rfl)
    (of_decide_eq_true (by kernel_rfl)) (by unfold Func.isWrapper; first | (rw [if_pos (by decide +kernel)]; kernel_rfl) | (rw [if_neg (by decide +kernel)]; exact ⟨rfl, rfl⟩))
    (fun os started H enc _ => lifted os started H enc)
end Go.Proofs.Ytoemjfjmpmngeaa.CrcSwap

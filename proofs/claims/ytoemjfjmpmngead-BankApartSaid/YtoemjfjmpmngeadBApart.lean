/- What stands at one place changes no other one's state (BankApart); no condition. -/
import Derived.Test.YtoemjfjmpmngeadBankLaw
import Derived.Deep.RegionHeld3
import Derived.WalkLawsBesides
import Derived.WalkSpells
import Derived.IntWalk
import Derived.Lib.Hide
import Derived.Test.YtoemjfjmpmngeadBox
import Derived.Test.YtoemjfjmpmngeadLayout
import Derived.BigQuiet
import Derived.Deep.QuietTactic
import Derived.ProofKit
import Derived.OpenShut
import Derived.ChangeMaps5
import Derived.Test.YtoemjfjmpmngeadInts
namespace Go.Proofs.Ytoemjfjmpmngead.BankApart
open Go.ChangeShapes Go.WideShapes Go.ChangeAt Go.RowKit Go.ChangeMaps
set_option linter.unusedVariables false
set_option linter.unusedSimpArgs false

set_option maxRecDepth 100000 in
set_option maxHeartbeats 16000000 in
theorem walk (s : ByteArray) (t : ByteArray) (a : UInt8) (W : World) (hs : s.size ≤ maxLen) (ht : t.size ≤ maxLen) :
    Calls Try.prog 6 #[.string s, .string t, .int .u8 (a.toNat : Int)] W fun e W' => e = .returned (.bool true) ∧ Below W.heap.size W W' := by
  by_cases hn : slotsF s.size = 0
  · skip
    have TL := Lib.hid (fun (V : World) => (show Calls Try.prog 21 #[.int .i64 (s.size : Int)] V fun e W' => e = .returned (.int .i64 0) ∧ W' = V from by have h := ref05Slots (s.size : Int) V; rwa [hn] at h))
    clear hn
    have hB : Below W.heap.size W W := Below.refl _ _
    go_enter Try.func6, Try.ntmps6
    go_wp2_with fail
    refine (TL.out _).mono ?_
    rintro e w' ⟨rfl, hw⟩
    rw [hw]
    clear hw w'
    go_wp2_with fail
    refine (shown08 _).mono ?_
    rintro e V1 ⟨rfl, hk⟩
    replace hB := below_seq hB hk
    clear hk
    go_wp2
    go_ret
    exact ⟨rfl, hB⟩
  · have hp := slots_size hn
    obtain ⟨n, hnn⟩ := Int.eq_ofNat_of_zero_le (by omega : 0 ≤ slotsF s.size)
    rw [hnn] at hp
    have n1 : ((n : Int) == 0) = false := beq_eq_false_iff_ne.2 (by omega)
    have TL := Lib.hid (fun (V : World) => (show Calls Try.prog 21 #[.int .i64 (s.size : Int)] V fun e W' => e = .returned (.int .i64 (n : Int)) ∧ W' = V from by have h := ref05Slots (s.size : Int) V; rwa [hnn] at h))
    by_cases ht4 : t.size = 24
    · have n2 : ((t.size : Int) != 24) = false := by rw [ht4]; rfl
      obtain ⟨i, hi⟩ : ∃ i : Nat, a.toNat % (n + 1) = i := ⟨_, rfl⟩
      have hin : i ≤ n := by have := Nat.mod_lt a.toNat (show 0 < n + 1 from by omega); omega
      have ha8 := a.toNat_lt
      have em : (a.toNat : Int) % ((n : Int) + 1) = (i : Int) := by have h := congrArg (fun x : Nat => (x : Int)) hi; exact_mod_cast h
      have em2 : (a.toNat : Int).tmod ((n : Int) + 1) = (i : Int) := by rw [Int.tmod_eq_emod_of_nonneg (by omega)]; exact em
      have wk : IntKind.i64.wrap (a.toNat : Int) = (a.toNat : Int) := IntWalk.i64_in _ (by omega)
      have wn : IntKind.i64.wrap ((n : Int) + 1) = (n : Int) + 1 := IntWalk.i64_in _ (by omega)
      have n3 : ((n : Int) + 1 == 0) = false := beq_eq_false_iff_ne.2 (by omega)
      obtain ⟨hU, hUk⟩ := put_slot (s := s) (t := t) hnn (by omega) hin ht4
      have zu : (s.extract 0 (24 * i) ++ t ++ s.extract (24 * i + 24) s.size).size ≤ maxLen := by unfold maxLen; simp; omega
      have zs : s.size ≤ maxLen := by unfold maxLen; omega
      have TU := Lib.hid (fun (k : Nat) (V : World) (hk : k ≤ 12) (hne : k ≠ i) => (show Calls Try.prog 22 #[.string (s.extract 0 (24 * i) ++ t ++ s.extract (24 * i + 24) s.size), .int .i64 (k : Int)] V fun e W' => e = .returned (.int .i64 (stateF s (k : Int))) ∧ Below V.heap.size V W' from by have h := own08State (s.extract 0 (24 * i) ++ t ++ s.extract (24 * i + 24) s.size) (k : Int) V zu ⟨by omega, by omega⟩; rwa [hUk k hne] at h))
      have TS := Lib.hid (fun (k : Nat) (V : World) (hk : k ≤ 12) => own08State s (k : Int) V zs ⟨by omega, by omega⟩)
      have TT := Lib.hid (fun (V : World) => (show Calls Try.prog 23 #[.string (s.extract 0 (24 * i) ++ t ++ s.extract (24 * i + 24) s.size), .int .i64 (i : Int)] V fun e W' => e = .returned (.string t) ∧ Below V.heap.size V W' from by have h := own08Slot (s.extract 0 (24 * i) ++ t ++ s.extract (24 * i + 24) s.size) (i : Int) V zu ⟨by omega, by omega⟩; rwa [hU] at h))
      have hn12 : n ≤ 12 := by omega
      have w1 : IntKind.i64.wrap (24 * (i : Int)) = 24 * (i : Int) := IntWalk.i64_in _ (by omega)
      have w2 : IntKind.i64.wrap (24 * (i : Int) + 24) = 24 * (i : Int) + 24 := IntWalk.i64_in _ (by omega)
      have t1 : (24 * (i : Int)).toNat = 24 * i := by omega
      have t2 : (24 * (i : Int) + 24).toNat = 24 * i + 24 := by omega
      have v0 : (0 : Int) ≤ 24 * (i : Int) := by omega
      have v1 : (0 : Int) ≤ 24 * (i : Int) + 24 := by omega
      have v2 : 24 * (i : Int) ≤ (s.size : Int) := by omega
      have v3 : 24 * (i : Int) + 24 ≤ (s.size : Int) := by omega
      have o1 : ¬ 9223372036854775807 < 24 * i + t.size := by omega
      have o2 : ¬ 9223372036854775807 < 24 * i + t.size + (s.size - (24 * i + 24)) := by omega
      have o3 : ¬ 9223372036854775807 < min (24 * i) s.size + t.size := by omega
      have o4 : ¬ 9223372036854775807 < min (24 * i) s.size + t.size + (s.size - (24 * i + 24)) := by omega
      have o5 : ¬ 9223372036854775807 < 24 * i + 24 := by omega
      have o6 : ¬ 9223372036854775807 < 24 * i + 24 + (s.size - (24 * i + 24)) := by omega
      have o7 : ¬ 9223372036854775807 < min (24 * i) s.size + 24 := by omega
      have o8 : ¬ 9223372036854775807 < min (24 * i) s.size + 24 + (s.size - (24 * i + 24)) := by omega
      have hpp := Lib.hid hp
      have hiN := Lib.hid hin
      clear hn hp hnn hU hUk zu zs hi ht4 hin
      have hB : Below W.heap.size W W := Below.refl _ _
      go_enter Try.func6, Try.ntmps6
      go_wp2_with fail
      refine (TL.out _).mono ?_
      rintro e w' ⟨rfl, hw⟩
      rw [hw]
      clear hw w'
      go_wp2_with fail
      refine (shown08 _).mono ?_
      rintro e V1 ⟨rfl, hk⟩
      replace hB := below_seq hB hk
      clear hk
      go_wp2_with fail
      go_quiet (fail)
      replace hB := below_drewN0 hB nq
      generalize (V1.drewN nq) = V2 at *
      generalize s.extract 0 (24 * i) ++ t ++ s.extract (24 * i + 24) s.size = U at *
      clear o1 o2 o3 o4 o5 o6 o7 o8 v0 v1 v2 v3 t1 t2 w1 w2 em em2 wk n3
      go_wp2
      go_loopw [10] (fun j w => ∃ k : Nat, k ≤ n + 1 ∧ j = .int .i64 k ∧ Below W.heap.size W w) (fun j _ => n + 1 - (intOf j).toNat)
      case atStart => exact ⟨0, by omega, rfl, hB⟩
      case round =>
        clear hB
        obtain ⟨k, hk, rfl, hB⟩ := hrel
        by_cases hlt : k ≤ n
        · have i1 : (k : Int) ≤ (n : Int) := by omega
          by_cases hki : k = i
          · have n4 : ((k : Int) != (i : Int)) = false := by rw [hki]; simp
            clear hki
            go_wp2
            go_roundw
            case rel => exact ⟨k + 1, by omega, by go_num, hB⟩
            case measure => simp [intOf]; omega
          · have n4 : ((k : Int) != (i : Int)) = true := bne_iff_ne.2 (by omega)
            go_wp2_with fail
            refine (TU.out k _ (by omega) hki).mono ?_
            rintro e V3 ⟨rfl, hk⟩
            replace hB := below_seq hB hk
            clear hk
            go_wp2_with fail
            refine (TS.out k _ (by omega)).mono ?_
            rintro e V4 ⟨rfl, hk⟩
            replace hB := below_seq hB hk
            clear hk
            go_wp2
            go_roundw
            case rel => exact ⟨k + 1, by omega, by go_num, hB⟩
            case measure => simp [intOf]; omega
        · obtain rfl : k = n + 1 := by omega
          go_wp2_with fail
          refine (TT.out _).mono ?_
          rintro e V3 ⟨rfl, hk⟩
          replace hB := below_seq hB hk
          clear hk
          go_wp2
          go_ret
          exact ⟨rfl, hB⟩
    · have n2 : ((t.size : Int) != 24) = true := bne_iff_ne.2 (by omega)
      clear hn hp hnn ht4
      have hB : Below W.heap.size W W := Below.refl _ _
      go_enter Try.func6, Try.ntmps6
      go_wp2_with fail
      refine (TL.out _).mono ?_
      rintro e w' ⟨rfl, hw⟩
      rw [hw]
      clear hw w'
      go_wp2_with fail
      refine (shown08 _).mono ?_
      rintro e V1 ⟨rfl, hk⟩
      replace hB := below_seq hB hk
      clear hk
      go_wp2
      go_ret
      exact ⟨rfl, hB⟩

theorem own : ownKnob Try.prog.godebug = none := by kernel_rfl

set_option maxRecDepth 100000 in
theorem lifted (os : Os) (started : os.Started) (H : Type) (enc : TypeId × Value → H) :
    ReturnsInHanded {} Try.checked os 6 .any (Rows.bankApartSpec.pre6 enc Try.prog Try.f6 Rows.bankApartRow.domain false) (Rows.bankApartSpec.post enc Try.prog Try.f6 false true false false) := by
  refine returnsInHanded_of_change (C := Try.checked) own started (by kernel_rfl) Try.func6
    (ChangeSpec.witness6 (enc := enc) (C := Try.checked) false ⟨#[], #[.string ⟨#[]⟩, .string ⟨#[]⟩, .int .u8 0], []⟩ 8 (by kernel_rfl) (by kernel_rfl) (by kernel_rfl) (by kernel_rfl)) ?_
  intro W base args ds gs before hval hW _ _
  have hW' := hW
  obtain ⟨p, q, hA0, hV, rfl, hfz, hnd⟩ := hW
  have hA : DataW.TrodAll enc Try.prog W 0 (fun _ => true) true Try.f6.params.toList args.toList ds p := hA0
  rw [Try.params6] at hA hval
  obtain ⟨v0, vs0, d0, ds0, p0, q0, hargs, rfl, rfl, h0, r0⟩ := trodAll_cons hA
  obtain ⟨v1, vs1, d1, ds1, p1, q1, rfl, rfl, rfl, h1, r1⟩ := trodAll_cons r0
  obtain ⟨v2, vs2, d2, ds2, p2, q2, rfl, rfl, rfl, h2, r2⟩ := trodAll_cons r1
  obtain ⟨rfl, rfl, rfl⟩ := trodAll_nil r2
  obtain rfl : args = #[v0, v1, v2] := by cases args; simp_all
  obtain ⟨rfl, rfl⟩ := trodVars_none hV
  obtain ⟨s0, rfl, rfl, rfl, hs0⟩ := open_string Try.underlying9 (hval 0 9 v0 rfl rfl) h0
  obtain ⟨s1, rfl, rfl, rfl, hs1⟩ := open_string Try.underlying9 (hval 1 9 v1 rfl rfl) h1
  obtain ⟨a2, rfl, rfl, rfl, w2⟩ := open_int Try.underlying5 (hval 2 5 v2 rfl rfl) h2
  obtain ⟨c2, rfl⟩ := int_u8 w2
  clear hA0
  simp only [List.append_nil] at hW'
  refine (walk s0 s1 c2 W hs0 hs1).mono fun e W' ⟨he, hB⟩ => ?_
  subst he
  exact ⟨_, rfl, ⟨_, _, _, [], _, [], hW', trodAll_cons_mk (shut_bool Try.underlying4 _) trodAll_mk0, (trodAll_cons_mk (shut_string Try.underlying9 hs0) (trodAll_cons_mk (shut_string Try.underlying9 hs1) (trodAll_cons_mk (shut_int Try.underlying5 w2) trodAll_mk0))), rfl, hB.frame _, fun h => by cases h⟩⟩

theorem holds : Rows.BankApartSaid :=
  OpenClaim.holds_of_wide 6 Try.f6 rfl rfl rfl rfl rfl rfl rfl ⟨rfl, rfl, rfl, rfl, rfl⟩ rfl rfl rfl rfl rfl (by kernel_rfl) Try.func6 (by kernel_rfl)
    (of_decide_eq_true (by kernel_rfl)) (by unfold Func.isWrapper; first | (rw [if_pos (by decide +kernel)]; kernel_rfl) | (rw [if_neg (by decide +kernel)]; exact ⟨rfl, rfl⟩))
    (fun os started H enc _ => lifted os started H enc)
end Go.Proofs.Ytoemjfjmpmngead.BankApart

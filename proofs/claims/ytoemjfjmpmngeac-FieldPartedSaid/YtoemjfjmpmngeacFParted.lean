/- A number's bytes, taken in two parts, say its higher and its lower bytes (FieldParted); no condition. -/
import Derived.Test.YtoemjfjmpmngeacFieldLaw
import Derived.Lib.Hide
import Derived.WalkLawsBesides
import Derived.Deep.RegionHeld3
import Derived.ProofKit
import Derived.OpenShut
import Derived.ChangeMaps5
import Derived.Test.YtoemjfjmpmngeacInts
namespace Go.Proofs.Ytoemjfjmpmngeac.FieldParted
open Go.ChangeShapes Go.WideShapes Go.ChangeAt Go.RowKit Go.ChangeMaps
set_option linter.unusedVariables false
attribute [local go_sem] w64_u8

set_option maxRecDepth 100000 in
set_option maxHeartbeats 16000000 in
theorem walk (n : BitVec 64) (w : UInt8) (W : World)  :
    Calls Try.prog 8 #[.int .u64 (n.toNat : Int), .int .u8 (w.toNat : Int)] W fun e W' => e = .returned (.bool true) ∧ Below W.heap.size W W' := by
  have hn := n.isLt
  have hw := w.toNat_lt
  obtain ⟨r, hr⟩ : ∃ r : Int, (w.toNat : Int) % 7 = r := ⟨_, rfl⟩
  have hz8 : (putB n.toNat 8).size ≤ maxLen := by rw [putB_size]; decide
  rcases (show r = 0 ∨ r = 1 ∨ r = 2 ∨ r = 3 ∨ r = 4 ∨ r = 5 ∨ r = 6 from by omega) with rfl | rfl | rfl | rfl | rfl | rfl | rfl
  · have f1 : (((fAt (putB n.toNat 8) 0 7 : Nat) : Int) == (n.toNat : Int) / 256) = true := by
      have h := put_high (n := n.toNat) (w := 1) hn (by decide)
      rw [beq_iff_eq]
      exact congrArg (Nat.cast : Nat → Int) h
    have f2 : (((fAt (putB n.toNat 8) 7 1 : Nat) : Int) == ((getB (putB n.toNat 1) : Nat) : Int)) = true := by
      have h := put_low (n := n.toNat) (w := 1) (by decide)
      have k := getB_putB (n := n.toNat) (w := 1) (by decide)
      rw [beq_iff_eq]
      exact congrArg (Nat.cast : Nat → Int) (h.trans k.symm)
    have f3 : (((fAt (putB n.toNat 8) 7 2 : Nat) : Int) == 0) = true := by
      rw [fAt_none (by rw [putB_size, show clampW 8 = 8 from rfl]; omega)]; rfl
    have hzw : (putB n.toNat 1).size ≤ maxLen := by rw [putB_size]; decide
    generalize hx : putB n.toNat 8 = x at *
    have HX := Lib.hid hx
    clear hx hn hw
    have l1 : IntKind.i64.wrap 1 = 1 := by decide
    have l2 : IntKind.i64.wrap 2 = 2 := by decide
    have l7 : IntKind.i64.wrap 7 = 7 := by decide
    have l8 : IntKind.i64.wrap 8 = 8 := by decide
    go_enter Try.func8, Try.ntmps8
    go_wp2_with fail
    refine (calls_as (own06Put _ _ _) (val_str HX.out)).mono ?_
    rintro e W1 ⟨rfl, hB⟩
    go_wp2_with fail
    go_region_held3 (fun w' => Below W.heap.size W w')
      ((first | exact hB.drew | assumption | exact below_seq (by assumption) (by assumption)))
      (first | (go_at_call 23; refine (own06At _ _ _ _ hz8).mono ?_; rintro e w' ⟨rfl, hh⟩) | (go_at_call 19; refine (own06Put _ _ _).mono ?_; rintro e w' ⟨rfl, hh⟩) | (go_at_call 20; refine (own06Get _ _ hzw).mono ?_; rintro e w' ⟨rfl, hh⟩) | (go_at_call 18; refine (shown06 _).mono ?_; rintro e w' ⟨rfl, hh⟩))
    all_goals
      go_wp2
      go_ret
      exact ⟨rfl, by assumption⟩
  · have f1 : (((fAt (putB n.toNat 8) 0 6 : Nat) : Int) == (n.toNat : Int) / 65536) = true := by
      have h := put_high (n := n.toNat) (w := 2) hn (by decide)
      rw [beq_iff_eq]
      exact congrArg (Nat.cast : Nat → Int) h
    have f2 : (((fAt (putB n.toNat 8) 6 2 : Nat) : Int) == ((getB (putB n.toNat 2) : Nat) : Int)) = true := by
      have h := put_low (n := n.toNat) (w := 2) (by decide)
      have k := getB_putB (n := n.toNat) (w := 2) (by decide)
      rw [beq_iff_eq]
      exact congrArg (Nat.cast : Nat → Int) (h.trans k.symm)
    have f3 : (((fAt (putB n.toNat 8) 6 3 : Nat) : Int) == 0) = true := by
      rw [fAt_none (by rw [putB_size, show clampW 8 = 8 from rfl]; omega)]; rfl
    have hzw : (putB n.toNat 2).size ≤ maxLen := by rw [putB_size]; decide
    generalize hx : putB n.toNat 8 = x at *
    have HX := Lib.hid hx
    clear hx hn hw
    have l2 : IntKind.i64.wrap 2 = 2 := by decide
    have l3 : IntKind.i64.wrap 3 = 3 := by decide
    have l6 : IntKind.i64.wrap 6 = 6 := by decide
    have l16 : IntKind.i64.wrap 16 = 16 := by decide
    go_enter Try.func8, Try.ntmps8
    go_wp2_with fail
    refine (calls_as (own06Put _ _ _) (val_str HX.out)).mono ?_
    rintro e W1 ⟨rfl, hB⟩
    go_wp2_with fail
    go_region_held3 (fun w' => Below W.heap.size W w')
      ((first | exact hB.drew | assumption | exact below_seq (by assumption) (by assumption)))
      (first | (go_at_call 23; refine (own06At _ _ _ _ hz8).mono ?_; rintro e w' ⟨rfl, hh⟩) | (go_at_call 19; refine (own06Put _ _ _).mono ?_; rintro e w' ⟨rfl, hh⟩) | (go_at_call 20; refine (own06Get _ _ hzw).mono ?_; rintro e w' ⟨rfl, hh⟩) | (go_at_call 18; refine (shown06 _).mono ?_; rintro e w' ⟨rfl, hh⟩))
    all_goals
      go_wp2
      go_ret
      exact ⟨rfl, by assumption⟩
  · have f1 : (((fAt (putB n.toNat 8) 0 5 : Nat) : Int) == (n.toNat : Int) / 16777216) = true := by
      have h := put_high (n := n.toNat) (w := 3) hn (by decide)
      rw [beq_iff_eq]
      exact congrArg (Nat.cast : Nat → Int) h
    have f2 : (((fAt (putB n.toNat 8) 5 3 : Nat) : Int) == ((getB (putB n.toNat 3) : Nat) : Int)) = true := by
      have h := put_low (n := n.toNat) (w := 3) (by decide)
      have k := getB_putB (n := n.toNat) (w := 3) (by decide)
      rw [beq_iff_eq]
      exact congrArg (Nat.cast : Nat → Int) (h.trans k.symm)
    have f3 : (((fAt (putB n.toNat 8) 5 4 : Nat) : Int) == 0) = true := by
      rw [fAt_none (by rw [putB_size, show clampW 8 = 8 from rfl]; omega)]; rfl
    have hzw : (putB n.toNat 3).size ≤ maxLen := by rw [putB_size]; decide
    generalize hx : putB n.toNat 8 = x at *
    have HX := Lib.hid hx
    clear hx hn hw
    have l3 : IntKind.i64.wrap 3 = 3 := by decide
    have l4 : IntKind.i64.wrap 4 = 4 := by decide
    have l5 : IntKind.i64.wrap 5 = 5 := by decide
    have l24 : IntKind.i64.wrap 24 = 24 := by decide
    go_enter Try.func8, Try.ntmps8
    go_wp2_with fail
    refine (calls_as (own06Put _ _ _) (val_str HX.out)).mono ?_
    rintro e W1 ⟨rfl, hB⟩
    go_wp2_with fail
    go_region_held3 (fun w' => Below W.heap.size W w')
      ((first | exact hB.drew | assumption | exact below_seq (by assumption) (by assumption)))
      (first | (go_at_call 23; refine (own06At _ _ _ _ hz8).mono ?_; rintro e w' ⟨rfl, hh⟩) | (go_at_call 19; refine (own06Put _ _ _).mono ?_; rintro e w' ⟨rfl, hh⟩) | (go_at_call 20; refine (own06Get _ _ hzw).mono ?_; rintro e w' ⟨rfl, hh⟩) | (go_at_call 18; refine (shown06 _).mono ?_; rintro e w' ⟨rfl, hh⟩))
    all_goals
      go_wp2
      go_ret
      exact ⟨rfl, by assumption⟩
  · have f1 : (((fAt (putB n.toNat 8) 0 4 : Nat) : Int) == (n.toNat : Int) / 4294967296) = true := by
      have h := put_high (n := n.toNat) (w := 4) hn (by decide)
      rw [beq_iff_eq]
      exact congrArg (Nat.cast : Nat → Int) h
    have f2 : (((fAt (putB n.toNat 8) 4 4 : Nat) : Int) == ((getB (putB n.toNat 4) : Nat) : Int)) = true := by
      have h := put_low (n := n.toNat) (w := 4) (by decide)
      have k := getB_putB (n := n.toNat) (w := 4) (by decide)
      rw [beq_iff_eq]
      exact congrArg (Nat.cast : Nat → Int) (h.trans k.symm)
    have f3 : (((fAt (putB n.toNat 8) 4 5 : Nat) : Int) == 0) = true := by
      rw [fAt_none (by rw [putB_size, show clampW 8 = 8 from rfl]; omega)]; rfl
    have hzw : (putB n.toNat 4).size ≤ maxLen := by rw [putB_size]; decide
    generalize hx : putB n.toNat 8 = x at *
    have HX := Lib.hid hx
    clear hx hn hw
    have l4 : IntKind.i64.wrap 4 = 4 := by decide
    have l5 : IntKind.i64.wrap 5 = 5 := by decide
    have l32 : IntKind.i64.wrap 32 = 32 := by decide
    go_enter Try.func8, Try.ntmps8
    go_wp2_with fail
    refine (calls_as (own06Put _ _ _) (val_str HX.out)).mono ?_
    rintro e W1 ⟨rfl, hB⟩
    go_wp2_with fail
    go_region_held3 (fun w' => Below W.heap.size W w')
      ((first | exact hB.drew | assumption | exact below_seq (by assumption) (by assumption)))
      (first | (go_at_call 23; refine (own06At _ _ _ _ hz8).mono ?_; rintro e w' ⟨rfl, hh⟩) | (go_at_call 19; refine (own06Put _ _ _).mono ?_; rintro e w' ⟨rfl, hh⟩) | (go_at_call 20; refine (own06Get _ _ hzw).mono ?_; rintro e w' ⟨rfl, hh⟩) | (go_at_call 18; refine (shown06 _).mono ?_; rintro e w' ⟨rfl, hh⟩))
    all_goals
      go_wp2
      go_ret
      exact ⟨rfl, by assumption⟩
  · have f1 : (((fAt (putB n.toNat 8) 0 3 : Nat) : Int) == (n.toNat : Int) / 1099511627776) = true := by
      have h := put_high (n := n.toNat) (w := 5) hn (by decide)
      rw [beq_iff_eq]
      exact congrArg (Nat.cast : Nat → Int) h
    have f2 : (((fAt (putB n.toNat 8) 3 5 : Nat) : Int) == ((getB (putB n.toNat 5) : Nat) : Int)) = true := by
      have h := put_low (n := n.toNat) (w := 5) (by decide)
      have k := getB_putB (n := n.toNat) (w := 5) (by decide)
      rw [beq_iff_eq]
      exact congrArg (Nat.cast : Nat → Int) (h.trans k.symm)
    have f3 : (((fAt (putB n.toNat 8) 3 6 : Nat) : Int) == 0) = true := by
      rw [fAt_none (by rw [putB_size, show clampW 8 = 8 from rfl]; omega)]; rfl
    have hzw : (putB n.toNat 5).size ≤ maxLen := by rw [putB_size]; decide
    generalize hx : putB n.toNat 8 = x at *
    have HX := Lib.hid hx
    clear hx hn hw
    have l3 : IntKind.i64.wrap 3 = 3 := by decide
    have l5 : IntKind.i64.wrap 5 = 5 := by decide
    have l6 : IntKind.i64.wrap 6 = 6 := by decide
    have l40 : IntKind.i64.wrap 40 = 40 := by decide
    go_enter Try.func8, Try.ntmps8
    go_wp2_with fail
    refine (calls_as (own06Put _ _ _) (val_str HX.out)).mono ?_
    rintro e W1 ⟨rfl, hB⟩
    go_wp2_with fail
    go_region_held3 (fun w' => Below W.heap.size W w')
      ((first | exact hB.drew | assumption | exact below_seq (by assumption) (by assumption)))
      (first | (go_at_call 23; refine (own06At _ _ _ _ hz8).mono ?_; rintro e w' ⟨rfl, hh⟩) | (go_at_call 19; refine (own06Put _ _ _).mono ?_; rintro e w' ⟨rfl, hh⟩) | (go_at_call 20; refine (own06Get _ _ hzw).mono ?_; rintro e w' ⟨rfl, hh⟩) | (go_at_call 18; refine (shown06 _).mono ?_; rintro e w' ⟨rfl, hh⟩))
    all_goals
      go_wp2
      go_ret
      exact ⟨rfl, by assumption⟩
  · have f1 : (((fAt (putB n.toNat 8) 0 2 : Nat) : Int) == (n.toNat : Int) / 281474976710656) = true := by
      have h := put_high (n := n.toNat) (w := 6) hn (by decide)
      rw [beq_iff_eq]
      exact congrArg (Nat.cast : Nat → Int) h
    have f2 : (((fAt (putB n.toNat 8) 2 6 : Nat) : Int) == ((getB (putB n.toNat 6) : Nat) : Int)) = true := by
      have h := put_low (n := n.toNat) (w := 6) (by decide)
      have k := getB_putB (n := n.toNat) (w := 6) (by decide)
      rw [beq_iff_eq]
      exact congrArg (Nat.cast : Nat → Int) (h.trans k.symm)
    have f3 : (((fAt (putB n.toNat 8) 2 7 : Nat) : Int) == 0) = true := by
      rw [fAt_none (by rw [putB_size, show clampW 8 = 8 from rfl]; omega)]; rfl
    have hzw : (putB n.toNat 6).size ≤ maxLen := by rw [putB_size]; decide
    generalize hx : putB n.toNat 8 = x at *
    have HX := Lib.hid hx
    clear hx hn hw
    have l2 : IntKind.i64.wrap 2 = 2 := by decide
    have l6 : IntKind.i64.wrap 6 = 6 := by decide
    have l7 : IntKind.i64.wrap 7 = 7 := by decide
    have l48 : IntKind.i64.wrap 48 = 48 := by decide
    go_enter Try.func8, Try.ntmps8
    go_wp2_with fail
    refine (calls_as (own06Put _ _ _) (val_str HX.out)).mono ?_
    rintro e W1 ⟨rfl, hB⟩
    go_wp2_with fail
    go_region_held3 (fun w' => Below W.heap.size W w')
      ((first | exact hB.drew | assumption | exact below_seq (by assumption) (by assumption)))
      (first | (go_at_call 23; refine (own06At _ _ _ _ hz8).mono ?_; rintro e w' ⟨rfl, hh⟩) | (go_at_call 19; refine (own06Put _ _ _).mono ?_; rintro e w' ⟨rfl, hh⟩) | (go_at_call 20; refine (own06Get _ _ hzw).mono ?_; rintro e w' ⟨rfl, hh⟩) | (go_at_call 18; refine (shown06 _).mono ?_; rintro e w' ⟨rfl, hh⟩))
    all_goals
      go_wp2
      go_ret
      exact ⟨rfl, by assumption⟩
  · have f1 : (((fAt (putB n.toNat 8) 0 1 : Nat) : Int) == (n.toNat : Int) / 72057594037927936) = true := by
      have h := put_high (n := n.toNat) (w := 7) hn (by decide)
      rw [beq_iff_eq]
      exact congrArg (Nat.cast : Nat → Int) h
    have f2 : (((fAt (putB n.toNat 8) 1 7 : Nat) : Int) == ((getB (putB n.toNat 7) : Nat) : Int)) = true := by
      have h := put_low (n := n.toNat) (w := 7) (by decide)
      have k := getB_putB (n := n.toNat) (w := 7) (by decide)
      rw [beq_iff_eq]
      exact congrArg (Nat.cast : Nat → Int) (h.trans k.symm)
    have f3 : (((fAt (putB n.toNat 8) 1 8 : Nat) : Int) == 0) = true := by
      rw [fAt_none (by rw [putB_size, show clampW 8 = 8 from rfl]; omega)]; rfl
    have hzw : (putB n.toNat 7).size ≤ maxLen := by rw [putB_size]; decide
    generalize hx : putB n.toNat 8 = x at *
    have HX := Lib.hid hx
    clear hx hn hw
    have l1 : IntKind.i64.wrap 1 = 1 := by decide
    have l7 : IntKind.i64.wrap 7 = 7 := by decide
    have l8 : IntKind.i64.wrap 8 = 8 := by decide
    have l56 : IntKind.i64.wrap 56 = 56 := by decide
    go_enter Try.func8, Try.ntmps8
    go_wp2_with fail
    refine (calls_as (own06Put _ _ _) (val_str HX.out)).mono ?_
    rintro e W1 ⟨rfl, hB⟩
    go_wp2_with fail
    go_region_held3 (fun w' => Below W.heap.size W w')
      ((first | exact hB.drew | assumption | exact below_seq (by assumption) (by assumption)))
      (first | (go_at_call 23; refine (own06At _ _ _ _ hz8).mono ?_; rintro e w' ⟨rfl, hh⟩) | (go_at_call 19; refine (own06Put _ _ _).mono ?_; rintro e w' ⟨rfl, hh⟩) | (go_at_call 20; refine (own06Get _ _ hzw).mono ?_; rintro e w' ⟨rfl, hh⟩) | (go_at_call 18; refine (shown06 _).mono ?_; rintro e w' ⟨rfl, hh⟩))
    all_goals
      go_wp2
      go_ret
      exact ⟨rfl, by assumption⟩

theorem own : ownKnob Try.prog.godebug = none := by kernel_rfl

set_option maxRecDepth 100000 in
theorem lifted (os : Os) (started : os.Started) (H : Type) (enc : TypeId × Value → H) :
    ReturnsInHanded {} Try.checked os 8 .any (Rows.fieldPartedSpec.pre6 enc Try.prog Try.f8 Rows.fieldPartedRow.domain false) (Rows.fieldPartedSpec.post enc Try.prog Try.f8 false true false false) := by
  refine returnsInHanded_of_change (C := Try.checked) own started (by kernel_rfl) Try.func8
    (ChangeSpec.witness6 (enc := enc) (C := Try.checked) false ⟨#[], #[.int .u64 0, .int .u8 0], []⟩ 8 (by kernel_rfl) (by kernel_rfl) (by kernel_rfl) (by kernel_rfl)) ?_
  intro W base args ds gs before hval hW _ _
  have hW' := hW
  obtain ⟨p, q, hA0, hV, rfl, hfz, hnd⟩ := hW
  have hA : DataW.TrodAll enc Try.prog W 0 (fun _ => true) true Try.f8.params.toList args.toList ds p := hA0
  rw [Try.params8] at hA hval
  obtain ⟨v0, vs0, d0, ds0, p0, q0, hargs, rfl, rfl, h0, r0⟩ := trodAll_cons hA
  obtain ⟨v1, vs1, d1, ds1, p1, q1, rfl, rfl, rfl, h1, r1⟩ := trodAll_cons r0
  obtain ⟨rfl, rfl, rfl⟩ := trodAll_nil r1
  obtain rfl : args = #[v0, v1] := by cases args; simp_all
  obtain ⟨rfl, rfl⟩ := trodVars_none hV
  obtain ⟨a0, rfl, rfl, rfl, w0⟩ := open_int Try.underlying26 (hval 0 26 v0 rfl rfl) h0
  obtain ⟨c0, rfl⟩ := int_u64 w0
  obtain ⟨a1, rfl, rfl, rfl, w1⟩ := open_int Try.underlying5 (hval 1 5 v1 rfl rfl) h1
  obtain ⟨c1, rfl⟩ := int_u8 w1
  clear hA0
  simp only [List.append_nil] at hW'
  refine (walk c0 c1 W ).mono fun e W' ⟨he, hB⟩ => ?_
  subst he
  exact ⟨_, rfl, ⟨_, _, _, [], _, [], hW', trodAll_cons_mk (shut_bool Try.underlying4 _) trodAll_mk0, (trodAll_cons_mk (shut_int Try.underlying26 w0) (trodAll_cons_mk (shut_int Try.underlying5 w1) trodAll_mk0)), rfl, hB.frame _, fun h => by cases h⟩⟩

theorem holds : Rows.FieldPartedSaid :=
  OpenClaim.holds_of_wide 8 Try.f8 rfl rfl rfl rfl rfl rfl rfl ⟨rfl, rfl, rfl, rfl, rfl⟩ rfl rfl rfl rfl rfl (by kernel_rfl) Try.func8 (by kernel_rfl)
    (of_decide_eq_true (by kernel_rfl)) (by unfold Func.isWrapper; first | (rw [if_pos (by decide +kernel)]; kernel_rfl) | (rw [if_neg (by decide +kernel)]; exact ⟨rfl, rfl⟩))
    (fun os started H enc _ => lifted os started H enc)
end Go.Proofs.Ytoemjfjmpmngeac.FieldParted

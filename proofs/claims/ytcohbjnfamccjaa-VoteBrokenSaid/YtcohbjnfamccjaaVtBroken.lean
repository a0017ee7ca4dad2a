/- A sample of which one number is none says nothing, whatever the others are (VoteBroken); no condition. -/
import Derived.Test.YtcohbjnfamccjaaRows
import Derived.Test.YtcohbjnfamccjaaVotePlain
import Derived.Test.YtcohbjnfamccjaaBs
import Derived.Test.YtcohbjnfamccjaaInts
import Derived.WalkKit
import Derived.ProofKit
import Derived.Lib.Hide
import Derived.OwnWalk
import Derived.Deep.RegionHeld3
import Derived.WalkLawsBesides
import Derived.WalkSpells
import Derived.IntWalk
import Derived.Test.YtcohbjnfamccjaaVoteLaw
import Derived.Test.YtcohbjnfamccjaaBase
import Derived.ProofKit
import Derived.OpenShut
import Derived.ChangeMaps5
import Derived.Test.YtcohbjnfamccjaaInts
namespace Go.Proofs.Ytcohbjnfamccjaa.VoteBroken
open Go.ChangeShapes Go.WideShapes Go.ChangeAt Go.RowKit Go.ChangeMaps
set_option linter.unusedVariables false
set_option linter.unusedSimpArgs false
attribute [local go_sem] unary_negF st_float

set_option maxRecDepth 100000 in
set_option maxHeartbeats 4000000 in
theorem walk (a : Nat) (b : Nat) (c : Nat) (which : UInt8) (W : World) (ha : a < 2 ^ 64) (hb : b < 2 ^ 64) (hc : c < 2 ^ 64) :
    Calls Try.prog 5 #[.float .f64 a, .float .f64 b, .float .f64 c, .int .u8 (which.toNat : Int)] W fun e W' => e = .returned (.bool true) ∧ Below W.heap.size W W' := by
  have TB := Lib.hid (fun (x y z : Nat) (hx : x < 2 ^ 64) (hy : y < 2 ^ 64) (hz : z < 2 ^ 64) (h : brokenB ⟨x, y, z⟩ = true) (V : World) => (show Gives Try.prog 13 #[.agg #[.float .f64 x, .float .f64 y, .float .f64 z]] V (.int .i64 0) from by have k := own17Vote x y z V hx hy hz; rw [vote_broken h] at k; exact k))
  have hw := which.toNat_lt
  by_cases k0 : which.toNat % 3 = 0
  · have e1 : (wrap64 (which.toNat : Int)).tmod 3 = 0 := by rw [show wrap64 (which.toNat : Int) = (which.toNat : Int) from by unfold wrap64; omega, Int.tmod_eq_emod_of_nonneg (by omega)]; omega
    clear hw k0
    have st := Bs.nil W
    go_enter Try.func5, Try.ntmps5
    replace st := st.alloc 22 [.float .f64 a, .float .f64 b, .float .f64 c]
    have fc0 := (st.box 0 rfl).f3
    go_wp2_with (simp only [quo_nan])
    clear fc0
    replace st := st.drew
    have hq := nanOf_is (W.alloc (.cells #[.float .f64 a, .float .f64 b, .float .f64 c] 22)); generalize nanOf (W.alloc (.cells #[.float .f64 a, .float .f64 b, .float .f64 c] 22)) = q at *
    replace st := (Bs.in1 W 22 [.float .f64 q, .float .f64 b, .float .f64 c]).drew
    have TQ := Lib.hid (TB.out q b c hq.2 hb hc (by unfold brokenB; rw [(nan_iff q).2 hq.1]; simp)); clear TB hq
    replace st := st.drew
    refine rh (fun w => C3 w (W.heap.size) (.float .f64 q) (.float .f64 b) (.float .f64 c)) ((st.box 0 rfl).c3) fun hHeld => ?_
    replace st := st.name; obtain ⟨V1, hV, st⟩ := st; rw [hV] at hHeld ⊢; clear hV
    refine tq 0 ?_; try simp only [Act.put, l1, l2, l3, l4, l5, l6]
    refine tq 1 ?_; try simp only [Act.put, l1, l2, l3, l4, l5, l6]
    refine tq 2 ?_; try simp only [Act.put, l1, l2, l3, l4, l5, l6]
    refine tq 3 ?_; try simp only [Act.put, l1, l2, l3, l4, l5, l6]
    refine tq 4 ?_; try simp only [Act.put, l1, l2, l3, l4, l5, l6]
    refine tq 5 ?_; try simp only [Act.put, l1, l2, l3, l4, l5, l6]
    refine tq 6 ?_; try simp only [Act.put, l1, l2, l3, l4, l5, l6]
    refine tq 7 ?_; try simp only [Act.put, l1, l2, l3, l4, l5, l6]
    refine tq 8 ?_; try simp only [Act.put, l1, l2, l3, l4, l5, l6]
    refine rd 9 fun K hK => ?_
    have fc0 := (st.box 0 rfl).f3
    go_simp
    try go_wp2_with fail
    clear hHeld fc0; refine hK.out _ _ ((st.box 0 rfl).c3) fun hHeld => ?_; clear hK K
    try simp only [Act.put, l1, l2, l3, l4, l5, l6]
    refine rd 10 fun K hK => ?_
    have fc0 := (st.box 0 rfl).f3
    go_simp
    refine callB st (TQ.out _) ?_; clear st fc0; intro V2 st
    have fc0 := (st.box 0 rfl).f3
    try go_wp2_with fail
    clear hHeld fc0; refine hK.out _ _ ((st.box 0 rfl).c3) fun hHeld => ?_; clear hK K
    try simp only [Act.put, l1, l2, l3, l4, l5, l6]
    refine tq 11 ?_; try simp only [Act.put, l1, l2, l3, l4, l5, l6]
    refine tq 12 ?_; try simp only [Act.put, l1, l2, l3, l4, l5, l6]
    refine rd 13 fun K hK => ?_
    have fc0 := (st.box 0 rfl).f3
    go_simp
    refine callB st (shown17 _) ?_; clear st fc0; intro V3 st
    have fc0 := (st.box 0 rfl).f3
    try go_wp2_with fail
    clear hHeld fc0; refine hK.out _ _ ((st.box 0 rfl).c3) fun hHeld => ?_; clear hK K
    try simp only [Act.put, l1, l2, l3, l4, l5, l6]
    refine tq 14 ?_; try simp only [Act.put, l1, l2, l3, l4, l5, l6]
    refine tq 15 ?_; try simp only [Act.put, l1, l2, l3, l4, l5, l6]
    refine wpAnyH_done (by kernel_rfl) ?_ _; clear hHeld
    have fc0 := (st.box 0 rfl).f3
    go_wp2; go_ret; exact ⟨rfl, st.lo⟩
  · by_cases k1 : which.toNat % 3 = 1
    · have e1 : (wrap64 (which.toNat : Int)).tmod 3 = 1 := by rw [show wrap64 (which.toNat : Int) = (which.toNat : Int) from by unfold wrap64; omega, Int.tmod_eq_emod_of_nonneg (by omega)]; omega
      clear hw k0 k1
      have st := Bs.nil W
      go_enter Try.func5, Try.ntmps5
      replace st := st.alloc 22 [.float .f64 a, .float .f64 b, .float .f64 c]
      have fc0 := (st.box 0 rfl).f3
      go_wp2_with (simp only [quo_nan])
      clear fc0
      replace st := st.drew
      have hq := nanOf_is (W.alloc (.cells #[.float .f64 a, .float .f64 b, .float .f64 c] 22)); generalize nanOf (W.alloc (.cells #[.float .f64 a, .float .f64 b, .float .f64 c] 22)) = q at *
      replace st := (Bs.in1 W 22 [.float .f64 a, .float .f64 q, .float .f64 c]).drew
      have TQ := Lib.hid (TB.out a q c ha hq.2 hc (by unfold brokenB; rw [(nan_iff q).2 hq.1]; simp)); clear TB hq
      replace st := st.drew
      refine rh (fun w => C3 w (W.heap.size) (.float .f64 a) (.float .f64 q) (.float .f64 c)) ((st.box 0 rfl).c3) fun hHeld => ?_
      replace st := st.name; obtain ⟨V1, hV, st⟩ := st; rw [hV] at hHeld ⊢; clear hV
      refine tq 0 ?_; try simp only [Act.put, l1, l2, l3, l4, l5, l6]
      refine tq 1 ?_; try simp only [Act.put, l1, l2, l3, l4, l5, l6]
      refine tq 2 ?_; try simp only [Act.put, l1, l2, l3, l4, l5, l6]
      refine tq 3 ?_; try simp only [Act.put, l1, l2, l3, l4, l5, l6]
      refine tq 4 ?_; try simp only [Act.put, l1, l2, l3, l4, l5, l6]
      refine tq 5 ?_; try simp only [Act.put, l1, l2, l3, l4, l5, l6]
      refine tq 6 ?_; try simp only [Act.put, l1, l2, l3, l4, l5, l6]
      refine tq 7 ?_; try simp only [Act.put, l1, l2, l3, l4, l5, l6]
      refine tq 8 ?_; try simp only [Act.put, l1, l2, l3, l4, l5, l6]
      refine rd 9 fun K hK => ?_
      have fc0 := (st.box 0 rfl).f3
      go_simp
      try go_wp2_with fail
      clear hHeld fc0; refine hK.out _ _ ((st.box 0 rfl).c3) fun hHeld => ?_; clear hK K
      try simp only [Act.put, l1, l2, l3, l4, l5, l6]
      refine rd 10 fun K hK => ?_
      have fc0 := (st.box 0 rfl).f3
      go_simp
      refine callB st (TQ.out _) ?_; clear st fc0; intro V2 st
      have fc0 := (st.box 0 rfl).f3
      try go_wp2_with fail
      clear hHeld fc0; refine hK.out _ _ ((st.box 0 rfl).c3) fun hHeld => ?_; clear hK K
      try simp only [Act.put, l1, l2, l3, l4, l5, l6]
      refine tq 11 ?_; try simp only [Act.put, l1, l2, l3, l4, l5, l6]
      refine tq 12 ?_; try simp only [Act.put, l1, l2, l3, l4, l5, l6]
      refine rd 13 fun K hK => ?_
      have fc0 := (st.box 0 rfl).f3
      go_simp
      refine callB st (shown17 _) ?_; clear st fc0; intro V3 st
      have fc0 := (st.box 0 rfl).f3
      try go_wp2_with fail
      clear hHeld fc0; refine hK.out _ _ ((st.box 0 rfl).c3) fun hHeld => ?_; clear hK K
      try simp only [Act.put, l1, l2, l3, l4, l5, l6]
      refine tq 14 ?_; try simp only [Act.put, l1, l2, l3, l4, l5, l6]
      refine tq 15 ?_; try simp only [Act.put, l1, l2, l3, l4, l5, l6]
      refine wpAnyH_done (by kernel_rfl) ?_ _; clear hHeld
      have fc0 := (st.box 0 rfl).f3
      go_wp2; go_ret; exact ⟨rfl, st.lo⟩
    · have k2 : which.toNat % 3 = 2 := by omega
      have e1 : (wrap64 (which.toNat : Int)).tmod 3 = 2 := by rw [show wrap64 (which.toNat : Int) = (which.toNat : Int) from by unfold wrap64; omega, Int.tmod_eq_emod_of_nonneg (by omega)]; omega
      clear hw k0 k1 k2
      have st := Bs.nil W
      go_enter Try.func5, Try.ntmps5
      replace st := st.alloc 22 [.float .f64 a, .float .f64 b, .float .f64 c]
      have fc0 := (st.box 0 rfl).f3
      go_wp2_with (simp only [quo_nan])
      clear fc0
      replace st := st.drew
      have hq := nanOf_is (W.alloc (.cells #[.float .f64 a, .float .f64 b, .float .f64 c] 22)); generalize nanOf (W.alloc (.cells #[.float .f64 a, .float .f64 b, .float .f64 c] 22)) = q at *
      replace st := (Bs.in1 W 22 [.float .f64 a, .float .f64 b, .float .f64 q]).drew
      have TQ := Lib.hid (TB.out a b q ha hb hq.2 (by unfold brokenB; rw [(nan_iff q).2 hq.1]; simp)); clear TB hq
      replace st := st.drew
      refine rh (fun w => C3 w (W.heap.size) (.float .f64 a) (.float .f64 b) (.float .f64 q)) ((st.box 0 rfl).c3) fun hHeld => ?_
      replace st := st.name; obtain ⟨V1, hV, st⟩ := st; rw [hV] at hHeld ⊢; clear hV
      refine tq 0 ?_; try simp only [Act.put, l1, l2, l3, l4, l5, l6]
      refine tq 1 ?_; try simp only [Act.put, l1, l2, l3, l4, l5, l6]
      refine tq 2 ?_; try simp only [Act.put, l1, l2, l3, l4, l5, l6]
      refine tq 3 ?_; try simp only [Act.put, l1, l2, l3, l4, l5, l6]
      refine tq 4 ?_; try simp only [Act.put, l1, l2, l3, l4, l5, l6]
      refine tq 5 ?_; try simp only [Act.put, l1, l2, l3, l4, l5, l6]
      refine tq 6 ?_; try simp only [Act.put, l1, l2, l3, l4, l5, l6]
      refine tq 7 ?_; try simp only [Act.put, l1, l2, l3, l4, l5, l6]
      refine tq 8 ?_; try simp only [Act.put, l1, l2, l3, l4, l5, l6]
      refine rd 9 fun K hK => ?_
      have fc0 := (st.box 0 rfl).f3
      go_simp
      try go_wp2_with fail
      clear hHeld fc0; refine hK.out _ _ ((st.box 0 rfl).c3) fun hHeld => ?_; clear hK K
      try simp only [Act.put, l1, l2, l3, l4, l5, l6]
      refine rd 10 fun K hK => ?_
      have fc0 := (st.box 0 rfl).f3
      go_simp
      refine callB st (TQ.out _) ?_; clear st fc0; intro V2 st
      have fc0 := (st.box 0 rfl).f3
      try go_wp2_with fail
      clear hHeld fc0; refine hK.out _ _ ((st.box 0 rfl).c3) fun hHeld => ?_; clear hK K
      try simp only [Act.put, l1, l2, l3, l4, l5, l6]
      refine tq 11 ?_; try simp only [Act.put, l1, l2, l3, l4, l5, l6]
      refine tq 12 ?_; try simp only [Act.put, l1, l2, l3, l4, l5, l6]
      refine rd 13 fun K hK => ?_
      have fc0 := (st.box 0 rfl).f3
      go_simp
      refine callB st (shown17 _) ?_; clear st fc0; intro V3 st
      have fc0 := (st.box 0 rfl).f3
      try go_wp2_with fail
      clear hHeld fc0; refine hK.out _ _ ((st.box 0 rfl).c3) fun hHeld => ?_; clear hK K
      try simp only [Act.put, l1, l2, l3, l4, l5, l6]
      refine tq 14 ?_; try simp only [Act.put, l1, l2, l3, l4, l5, l6]
      refine tq 15 ?_; try simp only [Act.put, l1, l2, l3, l4, l5, l6]
      refine wpAnyH_done (by kernel_rfl) ?_ _; clear hHeld
      have fc0 := (st.box 0 rfl).f3
      go_wp2; go_ret; exact ⟨rfl, st.lo⟩

theorem own : ownKnob Try.prog.godebug = none := by kernel_rfl

set_option maxRecDepth 100000 in
theorem lifted (os : Os) (started : os.Started) (H : Type) (enc : TypeId × Value → H) :
    ReturnsInHanded {} Try.checked os 5 .any (Rows.voteBrokenSpec.pre6 enc Try.prog Try.f5 Rows.voteBrokenRow.domain false) (Rows.voteBrokenSpec.post enc Try.prog Try.f5 false true false false) := by
  refine returnsInHanded_of_change (C := Try.checked) own started (by kernel_rfl) Try.func5
    (ChangeSpec.witness6 (enc := enc) (C := Try.checked) false ⟨#[], #[.float .f64 0, .float .f64 0, .float .f64 0, .int .u8 0], []⟩ 8 (by kernel_rfl) (by kernel_rfl) (by kernel_rfl) (by kernel_rfl)) ?_
  intro W base args ds gs before hval hW _ _
  have hW' := hW
  obtain ⟨p, q, hA0, hV, rfl, hfz, hnd⟩ := hW
  have hA : DataW.TrodAll enc Try.prog W 0 (fun _ => true) true Try.f5.params.toList args.toList ds p := hA0
  rw [Try.params5] at hA hval
  obtain ⟨v0, vs0, d0, ds0, p0, q0, hargs, rfl, rfl, h0, r0⟩ := trodAll_cons hA
  obtain ⟨v1, vs1, d1, ds1, p1, q1, rfl, rfl, rfl, h1, r1⟩ := trodAll_cons r0
  obtain ⟨v2, vs2, d2, ds2, p2, q2, rfl, rfl, rfl, h2, r2⟩ := trodAll_cons r1
  obtain ⟨v3, vs3, d3, ds3, p3, q3, rfl, rfl, rfl, h3, r3⟩ := trodAll_cons r2
  obtain ⟨rfl, rfl, rfl⟩ := trodAll_nil r3
  obtain rfl : args = #[v0, v1, v2, v3] := by cases args; simp_all
  obtain ⟨rfl, rfl⟩ := trodVars_none hV
  obtain ⟨a0, rfl, rfl, rfl, w0⟩ := open_float Try.underlying22 (hval 0 22 v0 rfl rfl) h0
  obtain ⟨a1, rfl, rfl, rfl, w1⟩ := open_float Try.underlying22 (hval 1 22 v1 rfl rfl) h1
  obtain ⟨a2, rfl, rfl, rfl, w2⟩ := open_float Try.underlying22 (hval 2 22 v2 rfl rfl) h2
  obtain ⟨a3, rfl, rfl, rfl, w3⟩ := open_int Try.underlying5 (hval 3 5 v3 rfl rfl) h3
  obtain ⟨c3, rfl⟩ := int_u8 w3
  clear hA0
  simp only [List.append_nil] at hW'
  refine (walk a0 a1 a2 c3 W (float_wf w0) (float_wf w1) (float_wf w2)).mono fun e W' ⟨he, hB⟩ => ?_
  subst he
  exact ⟨_, rfl, ⟨_, _, _, [], _, [], hW', trodAll_cons_mk (shut_bool Try.underlying4 _) trodAll_mk0, (trodAll_cons_mk (shut_float Try.underlying22 w0) (trodAll_cons_mk (shut_float Try.underlying22 w1) (trodAll_cons_mk (shut_float Try.underlying22 w2) (trodAll_cons_mk (shut_int Try.underlying5 w3) trodAll_mk0)))), rfl, hB.frame _, fun h => by cases h⟩⟩

theorem holds : Rows.VoteBrokenSaid :=
  OpenClaim.holds_of_wide 5 Try.f5 rfl rfl rfl rfl rfl rfl rfl ⟨rfl, rfl, rfl, rfl, rfl⟩ rfl rfl rfl rfl rfl (by kernel_rfl) Try.func5 (by kernel_rfl)
    (of_decide_eq_true (by kernel_rfl)) (by unfold Func.isWrapper; first | (rw [if_pos (by decide +kernel)]; kernel_rfl) | (rw [if_neg (by decide +kernel)]; exact ⟨rfl, rfl⟩))
    (fun os started H enc _ => lifted os started H enc)
end Go.Proofs.Ytcohbjnfamccjaa.VoteBroken

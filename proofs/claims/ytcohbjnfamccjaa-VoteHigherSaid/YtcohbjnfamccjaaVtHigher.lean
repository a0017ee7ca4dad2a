/- Who is higher, faster, and pushes more, than one that flies, flies, too; who is lower, slower, and pushes less, than one that stands, stands (VoteHigher); no condition. -/
import Derived.Test.YtcohbjnfamccjaaRows
import Derived.Test.YtcohbjnfamccjaaVotePlain
import Derived.Test.YtcohbjnfamccjaaBs
import Derived.Test.YtcohbjnfamccjaaInts
import Derived.WalkKit
import Derived.ProofKit
import Derived.Lib.Hide
import Derived.OwnWalk
import Derived.Deep.RegionHeld3
import Derived.WalkLawsBesides
import Derived.WalkSpells
import Derived.IntWalk
import Derived.Test.YtcohbjnfamccjaaVoteLaw
import Derived.Test.YtcohbjnfamccjaaBase
import Derived.ProofKit
import Derived.OpenShut
import Derived.ChangeMaps5
import Derived.Test.YtcohbjnfamccjaaInts
namespace Go.Proofs.Ytcohbjnfamccjaa.VoteHigher
open Go.ChangeShapes Go.WideShapes Go.ChangeAt Go.RowKit Go.ChangeMaps
set_option linter.unusedVariables false
set_option linter.unusedSimpArgs false
attribute [local go_sem] unary_negF st_float

set_option maxRecDepth 100000 in
set_option maxHeartbeats 4000000 in
theorem walk (a : Nat) (b : Nat) (c : Nat) (d : Nat) (e : Nat) (f : Nat) (W : World) (ha : a < 2 ^ 64) (hb : b < 2 ^ 64) (hc : c < 2 ^ 64) (hd : d < 2 ^ 64) (he : e < 2 ^ 64) (hf : f < 2 ^ 64) :
    Calls Try.prog 6 #[.float .f64 a, .float .f64 b, .float .f64 c, .float .f64 d, .float .f64 e, .float .f64 f] W fun e W' => e = .returned (.bool true) ∧ Below W.heap.size W W' := by
  have TCa := Lib.hid (fun (V : World) => own13Class a V ha)
  have TCb := Lib.hid (fun (V : World) => own13Class b V hb)
  have TCc := Lib.hid (fun (V : World) => own13Class c V hc)
  have hka := class_five a
  generalize classN a = ka at *
  have hkb := class_five b
  generalize classN b = kb at *
  have hkc := class_five c
  generalize classN c = kc at *
  by_cases na : isNum a
  · have fa : (ka == 5) = false := beq_eq_false_iff_ne.2 (fun h => (hka.1 h) na)
    by_cases nb : isNum b
    · have fb : (kb == 5) = false := beq_eq_false_iff_ne.2 (fun h => (hkb.1 h) nb)
      by_cases nc : isNum c
      · have fc : (kc == 5) = false := beq_eq_false_iff_ne.2 (fun h => (hkc.1 h) nc)
        cases xd : (FloatKind.f64.format.order d 0 == some .gt || FloatKind.f64.format.order d 0 == some .eq) with
        | false =>
          have st := Bs.nil W
          go_enter Try.func6, Try.ntmps6
          go_wp2_with fail; refine callB st (TCa.out _) ?_; clear st; intro V1 st
          go_wp2_with fail; refine callB st (TCb.out _) ?_; clear st; intro V2 st
          go_wp2_with fail; refine callB st (TCc.out _) ?_; clear st; intro V3 st
          go_wp2_with fail; refine callB st (shown17 _) ?_; clear st; intro V4 st
          go_wp2; go_ret; exact ⟨rfl, st.lo⟩
        | true =>
          cases xe : (FloatKind.f64.format.order e 0 == some .gt || FloatKind.f64.format.order e 0 == some .eq) with
          | false =>
            have st := Bs.nil W
            go_enter Try.func6, Try.ntmps6
            go_wp2_with fail; refine callB st (TCa.out _) ?_; clear st; intro V1 st
            go_wp2_with fail; refine callB st (TCb.out _) ?_; clear st; intro V2 st
            go_wp2_with fail; refine callB st (TCc.out _) ?_; clear st; intro V3 st
            go_wp2_with fail; refine callB st (shown17 _) ?_; clear st; intro V4 st
            go_wp2; go_ret; exact ⟨rfl, st.lo⟩
          | true =>
            cases xf : (FloatKind.f64.format.order f 0 == some .gt || FloatKind.f64.format.order f 0 == some .eq) with
            | false =>
              have st := Bs.nil W
              go_enter Try.func6, Try.ntmps6
              go_wp2_with fail; refine callB st (TCa.out _) ?_; clear st; intro V1 st
              go_wp2_with fail; refine callB st (TCb.out _) ?_; clear st; intro V2 st
              go_wp2_with fail; refine callB st (TCc.out _) ?_; clear st; intro V3 st
              go_wp2_with fail; refine callB st (shown17 _) ?_; clear st; intro V4 st
              go_wp2; go_ret; exact ⟨rfl, st.lo⟩
            | true =>
              cases xg : (FloatKind.f64.format.order b 0 == some .gt || FloatKind.f64.format.order b 0 == some .eq) with
              | false =>
                have st := Bs.nil W
                go_enter Try.func6, Try.ntmps6
                go_wp2_with fail; refine callB st (TCa.out _) ?_; clear st; intro V1 st
                go_wp2_with fail; refine callB st (TCb.out _) ?_; clear st; intro V2 st
                go_wp2_with fail; refine callB st (TCc.out _) ?_; clear st; intro V3 st
                go_wp2_with fail; refine callB st (shown17 _) ?_; clear st; intro V4 st
                go_wp2; go_ret; exact ⟨rfl, st.lo⟩
              | true =>
                cases xi : (FloatKind.f64.format.order d 4652007308841189376 == some .gt) with
                | true =>
                  have st := Bs.nil W
                  go_enter Try.func6, Try.ntmps6
                  go_wp2_with fail; refine callB st (TCa.out _) ?_; clear st; intro V1 st
                  go_wp2_with fail; refine callB st (TCb.out _) ?_; clear st; intro V2 st
                  go_wp2_with fail; refine callB st (TCc.out _) ?_; clear st; intro V3 st
                  go_wp2_with fail; refine callB st (shown17 _) ?_; clear st; intro V4 st
                  go_wp2; go_ret; exact ⟨rfl, st.lo⟩
                | false =>
                  cases xj : (FloatKind.f64.format.order e 4652007308841189376 == some .gt) with
                  | true =>
                    have st := Bs.nil W
                    go_enter Try.func6, Try.ntmps6
                    go_wp2_with fail; refine callB st (TCa.out _) ?_; clear st; intro V1 st
                    go_wp2_with fail; refine callB st (TCb.out _) ?_; clear st; intro V2 st
                    go_wp2_with fail; refine callB st (TCc.out _) ?_; clear st; intro V3 st
                    go_wp2_with fail; refine callB st (shown17 _) ?_; clear st; intro V4 st
                    go_wp2; go_ret; exact ⟨rfl, st.lo⟩
                  | false =>
                    cases xk : (FloatKind.f64.format.order f 4652007308841189376 == some .gt) with
                    | true =>
                      have st := Bs.nil W
                      go_enter Try.func6, Try.ntmps6
                      go_wp2_with fail; refine callB st (TCa.out _) ?_; clear st; intro V1 st
                      go_wp2_with fail; refine callB st (TCb.out _) ?_; clear st; intro V2 st
                      go_wp2_with fail; refine callB st (TCc.out _) ?_; clear st; intro V3 st
                      go_wp2_with fail; refine callB st (shown17 _) ?_; clear st; intro V4 st
                      go_wp2; go_ret; exact ⟨rfl, st.lo⟩
                    | false =>
                      obtain ⟨nd, d0⟩ := ge_zero xd
                      obtain ⟨ne, e0⟩ := ge_zero xe
                      obtain ⟨nf, f0⟩ := ge_zero xf
                      obtain ⟨_, g0⟩ := ge_zero xg
                      obtain ⟨wa, a1, a2, a3, a4⟩ := add_up na nd d0 (not_big nd d0 xi)
                      obtain ⟨wb, b1, b2, b3, b4⟩ := add_up nb ne e0 (not_big ne e0 xj)
                      obtain ⟨wc, c1, c2, c3, c4⟩ := add_up nc nf f0 (not_big nf f0 xk)
                      obtain ⟨u1, u2⟩ := higher (s := ⟨a, b, c⟩) (t := ⟨wa, wb, wc⟩) na nb nc a2 b2 c2 g0 a4 b4 c4
                      have TL := Lib.hid (fun (V : World) => own17Vote a b c V ha hb hc)
                      have TH := Lib.hid (fun (V : World) => own17Vote wa wb wc V a3 b3 c3)
                      generalize voteN ⟨a, b, c⟩ = L at *
                      generalize voteN ⟨wa, wb, wc⟩ = H at *
                      have p1 : ∀ t w, (binOp .add t (.float .f64 a) (.float .f64 d)).run Try.prog w = .ok (.float .f64 wa) w := fun t w => run_float_arith w .add t .f64 _ _ wa a1
                      have p2 : ∀ t w, (binOp .add t (.float .f64 b) (.float .f64 e)).run Try.prog w = .ok (.float .f64 wb) w := fun t w => run_float_arith w .add t .f64 _ _ wb b1
                      have p3 : ∀ t w, (binOp .add t (.float .f64 c) (.float .f64 f)).run Try.prog w = .ok (.float .f64 wc) w := fun t w => run_float_arith w .add t .f64 _ _ wc c1
                      clear a1 a2 a3 a4 b1 b2 b3 b4 c1 c2 c3 c4 na nb nc nd ne nf d0 e0 f0 g0 hka hkb hkc
                      by_cases hL : L = 2
                      · have hH := u1 hL
                        subst hL hH
                        clear u1 u2
                        have st := Bs.nil W
                        go_enter Try.func6, Try.ntmps6
                        go_wp2_with fail; refine callB st (TCa.out _) ?_; clear st; intro V1 st
                        go_wp2_with fail; refine callB st (TCb.out _) ?_; clear st; intro V2 st
                        go_wp2_with fail; refine callB st (TCc.out _) ?_; clear st; intro V3 st
                        go_wp2_with fail; refine callB st (shown17 _) ?_; clear st; intro V4 st
                        replace st := st.alloc 24 [.float .f64 a, .float .f64 b, .float .f64 c]
                        have fc0 := (st.box 0 rfl).f3
                        replace st := st.allocB 24 [.float .f64 wa, .float .f64 wb, .float .f64 wc] (V4.heap.size + 1) (World.size_alloc _ _)
                        replace fc0 := (st.box 1 rfl).f3; have fc1 := (st.box 0 rfl).f3
                        go_wp2_with (simp only [p1, p2, p3])
                        refine callB st (TL.out _) ?_; clear st fc0 fc1; intro V5 st
                        have fc0 := (st.box 1 rfl).f3; have fc1 := (st.box 0 rfl).f3
                        go_wp2_with fail; refine callB st (TH.out _) ?_; clear st fc0 fc1; intro V6 st
                        have fc0 := (st.box 1 rfl).f3; have fc1 := (st.box 0 rfl).f3
                        go_wp2_with fail; refine callB st (TH.out _) ?_; clear st fc0 fc1; intro V7 st
                        have fc0 := (st.box 1 rfl).f3; have fc1 := (st.box 0 rfl).f3
                        go_wp2; go_ret; exact ⟨rfl, st.lo⟩
                      · by_cases hH : H = 1
                        · have hL1 := u2 hH
                          subst hH hL1
                          clear u1 u2
                          have st := Bs.nil W
                          go_enter Try.func6, Try.ntmps6
                          go_wp2_with fail; refine callB st (TCa.out _) ?_; clear st; intro V1 st
                          go_wp2_with fail; refine callB st (TCb.out _) ?_; clear st; intro V2 st
                          go_wp2_with fail; refine callB st (TCc.out _) ?_; clear st; intro V3 st
                          go_wp2_with fail; refine callB st (shown17 _) ?_; clear st; intro V4 st
                          replace st := st.alloc 24 [.float .f64 a, .float .f64 b, .float .f64 c]
                          have fc0 := (st.box 0 rfl).f3
                          replace st := st.allocB 24 [.float .f64 wa, .float .f64 wb, .float .f64 wc] (V4.heap.size + 1) (World.size_alloc _ _)
                          replace fc0 := (st.box 1 rfl).f3; have fc1 := (st.box 0 rfl).f3
                          go_wp2_with (simp only [p1, p2, p3])
                          refine callB st (TL.out _) ?_; clear st fc0 fc1; intro V5 st
                          have fc0 := (st.box 1 rfl).f3; have fc1 := (st.box 0 rfl).f3
                          go_wp2_with fail; refine callB st (TH.out _) ?_; clear st fc0 fc1; intro V6 st
                          have fc0 := (st.box 1 rfl).f3; have fc1 := (st.box 0 rfl).f3
                          go_wp2_with fail; refine callB st (TL.out _) ?_; clear st fc0 fc1; intro V7 st
                          have fc0 := (st.box 1 rfl).f3; have fc1 := (st.box 0 rfl).f3
                          go_wp2; go_ret; exact ⟨rfl, st.lo⟩
                        · clear u1 u2
                          have l2 : ((L : Int) != 2) = true := bne_iff_ne.2 (by omega)
                          have h1 : ((H : Int) != 1) = true := bne_iff_ne.2 (by omega)
                          have st := Bs.nil W
                          go_enter Try.func6, Try.ntmps6
                          go_wp2_with fail; refine callB st (TCa.out _) ?_; clear st; intro V1 st
                          go_wp2_with fail; refine callB st (TCb.out _) ?_; clear st; intro V2 st
                          go_wp2_with fail; refine callB st (TCc.out _) ?_; clear st; intro V3 st
                          go_wp2_with fail; refine callB st (shown17 _) ?_; clear st; intro V4 st
                          replace st := st.alloc 24 [.float .f64 a, .float .f64 b, .float .f64 c]
                          have fc0 := (st.box 0 rfl).f3
                          replace st := st.allocB 24 [.float .f64 wa, .float .f64 wb, .float .f64 wc] (V4.heap.size + 1) (World.size_alloc _ _)
                          replace fc0 := (st.box 1 rfl).f3; have fc1 := (st.box 0 rfl).f3
                          go_wp2_with (simp only [p1, p2, p3])
                          refine callB st (TL.out _) ?_; clear st fc0 fc1; intro V5 st
                          have fc0 := (st.box 1 rfl).f3; have fc1 := (st.box 0 rfl).f3
                          go_wp2_with fail; refine callB st (TH.out _) ?_; clear st fc0 fc1; intro V6 st
                          have fc0 := (st.box 1 rfl).f3; have fc1 := (st.box 0 rfl).f3
                          go_wp2; go_ret; exact ⟨rfl, st.lo⟩
      · have fc : (kc == 5) = true := beq_iff_eq.2 (hkc.2 nc)
        clear nc hka hkb hkc
        have st := Bs.nil W
        go_enter Try.func6, Try.ntmps6
        go_wp2_with fail; refine callB st (TCa.out _) ?_; clear st; intro V1 st
        go_wp2_with fail; refine callB st (TCb.out _) ?_; clear st; intro V2 st
        go_wp2_with fail; refine callB st (TCc.out _) ?_; clear st; intro V3 st
        go_wp2_with fail; refine callB st (shown17 _) ?_; clear st; intro V4 st
        go_wp2; go_ret; exact ⟨rfl, st.lo⟩
    · have fb : (kb == 5) = true := beq_iff_eq.2 (hkb.2 nb)
      clear nb hka hkb hkc
      have st := Bs.nil W
      go_enter Try.func6, Try.ntmps6
      go_wp2_with fail; refine callB st (TCa.out _) ?_; clear st; intro V1 st
      go_wp2_with fail; refine callB st (TCb.out _) ?_; clear st; intro V2 st
      go_wp2_with fail; refine callB st (shown17 _) ?_; clear st; intro V3 st
      go_wp2; go_ret; exact ⟨rfl, st.lo⟩
  · have fa : (ka == 5) = true := beq_iff_eq.2 (hka.2 na)
    clear na hka hkb hkc
    have st := Bs.nil W
    go_enter Try.func6, Try.ntmps6
    go_wp2_with fail; refine callB st (TCa.out _) ?_; clear st; intro V1 st
    go_wp2_with fail; refine callB st (shown17 _) ?_; clear st; intro V2 st
    go_wp2; go_ret; exact ⟨rfl, st.lo⟩

theorem own : ownKnob Try.prog.godebug = none := by kernel_rfl

set_option maxRecDepth 100000 in
theorem lifted (os : Os) (started : os.Started) (H : Type) (enc : TypeId × Value → H) :
    ReturnsInHanded {} Try.checked os 6 .any (Rows.voteHigherSpec.pre6 enc Try.prog Try.f6 Rows.voteHigherRow.domain false) (Rows.voteHigherSpec.post enc Try.prog Try.f6 false true false false) := by
  refine returnsInHanded_of_change (C := Try.checked) own started (by kernel_rfl) Try.func6
    (ChangeSpec.witness6 (enc := enc) (C := Try.checked) false ⟨#[], #[.float .f64 0, .float .f64 0, .float .f64 0, .float .f64 0, .float .f64 0, .float .f64 0], []⟩ 8 (by kernel_rfl) (by kernel_rfl) (by kernel_rfl) (by kernel_rfl)) ?_
  intro W base args ds gs before hval hW _ _
  have hW' := hW
  obtain ⟨p, q, hA0, hV, rfl, hfz, hnd⟩ := hW
  have hA : DataW.TrodAll enc Try.prog W 0 (fun _ => true) true Try.f6.params.toList args.toList ds p := hA0
  rw [Try.params6] at hA hval
  obtain ⟨v0, vs0, d0, ds0, p0, q0, hargs, rfl, rfl, h0, r0⟩ := trodAll_cons hA
  obtain ⟨v1, vs1, d1, ds1, p1, q1, rfl, rfl, rfl, h1, r1⟩ := trodAll_cons r0
  obtain ⟨v2, vs2, d2, ds2, p2, q2, rfl, rfl, rfl, h2, r2⟩ := trodAll_cons r1
  obtain ⟨v3, vs3, d3, ds3, p3, q3, rfl, rfl, rfl, h3, r3⟩ := trodAll_cons r2
  obtain ⟨v4, vs4, d4, ds4, p4, q4, rfl, rfl, rfl, h4, r4⟩ := trodAll_cons r3
  obtain ⟨v5, vs5, d5, ds5, p5, q5, rfl, rfl, rfl, h5, r5⟩ := trodAll_cons r4
  obtain ⟨rfl, rfl, rfl⟩ := trodAll_nil r5
  obtain rfl : args = #[v0, v1, v2, v3, v4, v5] := by cases args; simp_all
  obtain ⟨rfl, rfl⟩ := trodVars_none hV
  obtain ⟨a0, rfl, rfl, rfl, w0⟩ := open_float Try.underlying22 (hval 0 22 v0 rfl rfl) h0
  obtain ⟨a1, rfl, rfl, rfl, w1⟩ := open_float Try.underlying22 (hval 1 22 v1 rfl rfl) h1
  obtain ⟨a2, rfl, rfl, rfl, w2⟩ := open_float Try.underlying22 (hval 2 22 v2 rfl rfl) h2
  obtain ⟨a3, rfl, rfl, rfl, w3⟩ := open_float Try.underlying22 (hval 3 22 v3 rfl rfl) h3
  obtain ⟨a4, rfl, rfl, rfl, w4⟩ := open_float Try.underlying22 (hval 4 22 v4 rfl rfl) h4
  obtain ⟨a5, rfl, rfl, rfl, w5⟩ := open_float Try.underlying22 (hval 5 22 v5 rfl rfl) h5
  clear hA0
  simp only [List.append_nil] at hW'
  refine (walk a0 a1 a2 a3 a4 a5 W (float_wf w0) (float_wf w1) (float_wf w2) (float_wf w3) (float_wf w4) (float_wf w5)).mono fun e W' ⟨he, hB⟩ => ?_
  subst he
  exact ⟨_, rfl, ⟨_, _, _, [], _, [], hW', trodAll_cons_mk (shut_bool Try.underlying4 _) trodAll_mk0, (trodAll_cons_mk (shut_float Try.underlying22 w0) (trodAll_cons_mk (shut_float Try.underlying22 w1) (trodAll_cons_mk (shut_float Try.underlying22 w2) (trodAll_cons_mk (shut_float Try.underlying22 w3) (trodAll_cons_mk (shut_float Try.underlying22 w4) (trodAll_cons_mk (shut_float Try.underlying22 w5) trodAll_mk0)))))), rfl, hB.frame _, fun h => by cases h⟩⟩

theorem holds : Rows.VoteHigherSaid :=
  OpenClaim.holds_of_wide 6 Try.f6 rfl rfl rfl rfl rfl rfl rfl ⟨rfl, rfl, rfl, rfl, rfl⟩ rfl rfl rfl rfl rfl (by kernel_rfl) Try.func6 (by kernel_rfl)
    (of_decide_eq_true (by kernel_rfl)) (by unfold Func.isWrapper; first | (rw [if_pos (by decide +kernel)]; kernel_rfl) | (rw [if_neg (by decide +kernel)]; exact ⟨rfl, rfl⟩))
    (fun os started H enc _ => lifted os started H enc)
end Go.Proofs.Ytcohbjnfamccjaa.VoteHigher

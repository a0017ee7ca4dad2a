/- Three signs of flying are a vote, and so are two; one, with any other two that are no signs, is none (VoteStrong); no condition. -/
import Derived.Test.YtcohbjnfamccjaaRows
import Derived.Test.YtcohbjnfamccjaaVotePlain
import Derived.Test.YtcohbjnfamccjaaBs
import Derived.Test.YtcohbjnfamccjaaInts
import Derived.WalkKit
import Derived.ProofKit
import Derived.Lib.Hide
import Derived.OwnWalk
import Derived.Deep.RegionHeld3
import Derived.WalkLawsBesides
import Derived.WalkSpells
import Derived.IntWalk
import Derived.Test.YtcohbjnfamccjaaVoteLaw
import Derived.Test.YtcohbjnfamccjaaBase
import Derived.ProofKit
import Derived.OpenShut
import Derived.ChangeMaps5
import Derived.Test.YtcohbjnfamccjaaInts
namespace Go.Proofs.Ytcohbjnfamccjaa.VoteStrong
open Go.ChangeShapes Go.WideShapes Go.ChangeAt Go.RowKit Go.ChangeMaps
set_option linter.unusedVariables false
set_option linter.unusedSimpArgs false
attribute [local go_sem] unary_negF st_float

set_option maxRecDepth 100000 in
set_option maxHeartbeats 4000000 in
theorem walk (a : Nat) (b : Nat) (c : Nat) (W : World) (ha : a < 2 ^ 64) (hb : b < 2 ^ 64) (hc : c < 2 ^ 64) :
    Calls Try.prog 8 #[.float .f64 a, .float .f64 b, .float .f64 c] W fun e W' => e = .returned (.bool true) ∧ Below W.heap.size W W' := by
  have hAG := once ⟨a, b, c⟩
  have h2 := vote_two ⟨a, b, c⟩
  have h1 := vote_one ⟨a, b, c⟩
  have h0 := vote_broken (s := ⟨a, b, c⟩)
  have TA := Lib.hid (fun (V : World) => own17Air a b c V ha hb hc)
  have TG := Lib.hid (fun (V : World) => own17Ground a b c V ha hb hc)
  have TU := Lib.hid (fun (V : World) => own17Vote a b c V ha hb hc)
  obtain ⟨x0, m0⟩ : ∃ x, nanF a = x := ⟨_, rfl⟩
  obtain ⟨x1, m1⟩ : ∃ x, nanF b = x := ⟨_, rfl⟩
  obtain ⟨x2, m2⟩ : ∃ x, nanF c = x := ⟨_, rfl⟩
  have hbr : brokenB ⟨a, b, c⟩ = (x0 || x1 || x2) := by unfold brokenB; rw [m0, m1, m2]
  have n0 : (FloatKind.f64.format.order a a != some .eq) = x0 := m0
  have n1 : (FloatKind.f64.format.order b b != some .eq) = x1 := m1
  have n2 : (FloatKind.f64.format.order c c != some .eq) = x2 := m2
  rw [hbr] at h0 h1 h2
  clear m0 m1 m2 hbr ha hb hc
  have hu3 := vote_le ⟨a, b, c⟩
  generalize airN ⟨a, b, c⟩ = A at *; generalize groundN ⟨a, b, c⟩ = G at *; generalize voteN ⟨a, b, c⟩ = U at *
  cases x0 with
  | true =>
    have e0 : U = 0 := h0 (by simp)
    subst e0
    clear h0 h1 h2 hAG hu3
    have st := Bs.in1 W 24 [.float .f64 a, .float .f64 b, .float .f64 c]
    go_enter Try.func8, Try.ntmps8
    have fc0 := (st.box 0 rfl).f3
    go_wp2_with fail; refine callB st (TA.out _) ?_; clear st fc0; intro V1 st
    have fc0 := (st.box 0 rfl).f3
    go_wp2_with fail; refine callB st (TG.out _) ?_; clear st fc0; intro V2 st
    have fc0 := (st.box 0 rfl).f3
    go_wp2_with fail; refine callB st (TU.out _) ?_; clear st fc0; intro V3 st
    have fc0 := (st.box 0 rfl).f3
    go_wp2_with fail; refine callB st (shown17 _) ?_; clear st fc0; intro V4 st
    go_wp2; go_ret; exact ⟨rfl, st.lo⟩
  | false =>
    cases x1 with
    | true =>
      have e0 : U = 0 := h0 (by simp)
      subst e0
      clear h0 h1 h2 hAG hu3
      have st := Bs.in1 W 24 [.float .f64 a, .float .f64 b, .float .f64 c]
      go_enter Try.func8, Try.ntmps8
      have fc0 := (st.box 0 rfl).f3
      go_wp2_with fail; refine callB st (TA.out _) ?_; clear st fc0; intro V1 st
      have fc0 := (st.box 0 rfl).f3
      go_wp2_with fail; refine callB st (TG.out _) ?_; clear st fc0; intro V2 st
      have fc0 := (st.box 0 rfl).f3
      go_wp2_with fail; refine callB st (TU.out _) ?_; clear st fc0; intro V3 st
      have fc0 := (st.box 0 rfl).f3
      go_wp2_with fail; refine callB st (shown17 _) ?_; clear st fc0; intro V4 st
      go_wp2; go_ret; exact ⟨rfl, st.lo⟩
    | false =>
      cases x2 with
      | true =>
        have e0 : U = 0 := h0 (by simp)
        subst e0
        clear h0 h1 h2 hAG hu3
        have st := Bs.in1 W 24 [.float .f64 a, .float .f64 b, .float .f64 c]
        go_enter Try.func8, Try.ntmps8
        have fc0 := (st.box 0 rfl).f3
        go_wp2_with fail; refine callB st (TA.out _) ?_; clear st fc0; intro V1 st
        have fc0 := (st.box 0 rfl).f3
        go_wp2_with fail; refine callB st (TG.out _) ?_; clear st fc0; intro V2 st
        have fc0 := (st.box 0 rfl).f3
        go_wp2_with fail; refine callB st (TU.out _) ?_; clear st fc0; intro V3 st
        have fc0 := (st.box 0 rfl).f3
        go_wp2_with fail; refine callB st (shown17 _) ?_; clear st fc0; intro V4 st
        go_wp2; go_ret; exact ⟨rfl, st.lo⟩
      | false =>
        replace h2 := h2 rfl
        replace h1 := h1 rfl
        clear h0
        by_cases k : 2 ≤ A
        · have e0 : U = 2 := h2.2 k
          subst e0
          have k1 : (A : Int) ≥ 2 := by omega
          have k2 : ((G : Int) == 3) = false := beq_eq_false_iff_ne.2 (by omega)
          have k3 : ((A : Int) == 0) = false := beq_eq_false_iff_ne.2 (by omega)
          have k4 : (G : Int) < 3 := by omega
          clear h1 h2 hAG hu3 k
          have st := Bs.in1 W 24 [.float .f64 a, .float .f64 b, .float .f64 c]
          go_enter Try.func8, Try.ntmps8
          have fc0 := (st.box 0 rfl).f3
          go_wp2_with fail; refine callB st (TA.out _) ?_; clear st fc0; intro V1 st
          have fc0 := (st.box 0 rfl).f3
          go_wp2_with fail; refine callB st (TG.out _) ?_; clear st fc0; intro V2 st
          have fc0 := (st.box 0 rfl).f3
          go_wp2_with fail; refine callB st (TU.out _) ?_; clear st fc0; intro V3 st
          have fc0 := (st.box 0 rfl).f3
          go_wp2_with fail; refine callB st (shown17 _) ?_; clear st fc0; intro V4 st
          go_wp2; go_ret; exact ⟨rfl, st.lo⟩
        · have k1 : ¬ (A : Int) ≥ 2 := by omega
          by_cases k2 : G = 3
          · have e0 : U = 1 := h1.2 k2
            subst e0
            subst k2
            have e1 : A = 0 := by omega
            subst e1
            clear h1 h2 hAG hu3 k k1
            have st := Bs.in1 W 24 [.float .f64 a, .float .f64 b, .float .f64 c]
            go_enter Try.func8, Try.ntmps8
            have fc0 := (st.box 0 rfl).f3
            go_wp2_with fail; refine callB st (TA.out _) ?_; clear st fc0; intro V1 st
            have fc0 := (st.box 0 rfl).f3
            go_wp2_with fail; refine callB st (TG.out _) ?_; clear st fc0; intro V2 st
            have fc0 := (st.box 0 rfl).f3
            go_wp2_with fail; refine callB st (TU.out _) ?_; clear st fc0; intro V3 st
            have fc0 := (st.box 0 rfl).f3
            go_wp2_with fail; refine callB st (shown17 _) ?_; clear st fc0; intro V4 st
            go_wp2; go_ret; exact ⟨rfl, st.lo⟩
          · have e0 : U = 0 := by omega
            have k3 : ((G : Int) == 3) = false := beq_eq_false_iff_ne.2 (by omega)
            have k4 : (G : Int) < 3 := by omega
            subst e0
            rcases (show A = 0 ∨ A = 1 from by omega) with rfl | rfl
            · clear h1 h2 hAG hu3 k k1 k2
              have st := Bs.in1 W 24 [.float .f64 a, .float .f64 b, .float .f64 c]
              go_enter Try.func8, Try.ntmps8
              have fc0 := (st.box 0 rfl).f3
              go_wp2_with fail; refine callB st (TA.out _) ?_; clear st fc0; intro V1 st
              have fc0 := (st.box 0 rfl).f3
              go_wp2_with fail; refine callB st (TG.out _) ?_; clear st fc0; intro V2 st
              have fc0 := (st.box 0 rfl).f3
              go_wp2_with fail; refine callB st (TU.out _) ?_; clear st fc0; intro V3 st
              have fc0 := (st.box 0 rfl).f3
              go_wp2_with fail; refine callB st (shown17 _) ?_; clear st fc0; intro V4 st
              go_wp2; go_ret; exact ⟨rfl, st.lo⟩
            · clear h1 h2 hAG hu3 k k1 k2
              have st := Bs.in1 W 24 [.float .f64 a, .float .f64 b, .float .f64 c]
              go_enter Try.func8, Try.ntmps8
              have fc0 := (st.box 0 rfl).f3
              go_wp2_with fail; refine callB st (TA.out _) ?_; clear st fc0; intro V1 st
              have fc0 := (st.box 0 rfl).f3
              go_wp2_with fail; refine callB st (TG.out _) ?_; clear st fc0; intro V2 st
              have fc0 := (st.box 0 rfl).f3
              go_wp2_with fail; refine callB st (TU.out _) ?_; clear st fc0; intro V3 st
              have fc0 := (st.box 0 rfl).f3
              go_wp2_with fail; refine callB st (shown17 _) ?_; clear st fc0; intro V4 st
              go_wp2; go_ret; exact ⟨rfl, st.lo⟩

theorem own : ownKnob Try.prog.godebug = none := by kernel_rfl

set_option maxRecDepth 100000 in
theorem lifted (os : Os) (started : os.Started) (H : Type) (enc : TypeId × Value → H) :
    ReturnsInHanded {} Try.checked os 8 .any (Rows.voteStrongSpec.pre6 enc Try.prog Try.f8 Rows.voteStrongRow.domain false) (Rows.voteStrongSpec.post enc Try.prog Try.f8 false true false false) := by
  refine returnsInHanded_of_change (C := Try.checked) own started (by kernel_rfl) Try.func8
    (ChangeSpec.witness6 (enc := enc) (C := Try.checked) false ⟨#[], #[.float .f64 0, .float .f64 0, .float .f64 0], []⟩ 8 (by kernel_rfl) (by kernel_rfl) (by kernel_rfl) (by kernel_rfl)) ?_
  intro W base args ds gs before hval hW _ _
  have hW' := hW
  obtain ⟨p, q, hA0, hV, rfl, hfz, hnd⟩ := hW
  have hA : DataW.TrodAll enc Try.prog W 0 (fun _ => true) true Try.f8.params.toList args.toList ds p := hA0
  rw [Try.params8] at hA hval
  obtain ⟨v0, vs0, d0, ds0, p0, q0, hargs, rfl, rfl, h0, r0⟩ := trodAll_cons hA
  obtain ⟨v1, vs1, d1, ds1, p1, q1, rfl, rfl, rfl, h1, r1⟩ := trodAll_cons r0
  obtain ⟨v2, vs2, d2, ds2, p2, q2, rfl, rfl, rfl, h2, r2⟩ := trodAll_cons r1
  obtain ⟨rfl, rfl, rfl⟩ := trodAll_nil r2
  obtain rfl : args = #[v0, v1, v2] := by cases args; simp_all
  obtain ⟨rfl, rfl⟩ := trodVars_none hV
  obtain ⟨a0, rfl, rfl, rfl, w0⟩ := open_float Try.underlying22 (hval 0 22 v0 rfl rfl) h0
  obtain ⟨a1, rfl, rfl, rfl, w1⟩ := open_float Try.underlying22 (hval 1 22 v1 rfl rfl) h1
  obtain ⟨a2, rfl, rfl, rfl, w2⟩ := open_float Try.underlying22 (hval 2 22 v2 rfl rfl) h2
  clear hA0
  simp only [List.append_nil] at hW'
  refine (walk a0 a1 a2 W (float_wf w0) (float_wf w1) (float_wf w2)).mono fun e W' ⟨he, hB⟩ => ?_
  subst he
  exact ⟨_, rfl, ⟨_, _, _, [], _, [], hW', trodAll_cons_mk (shut_bool Try.underlying4 _) trodAll_mk0, (trodAll_cons_mk (shut_float Try.underlying22 w0) (trodAll_cons_mk (shut_float Try.underlying22 w1) (trodAll_cons_mk (shut_float Try.underlying22 w2) trodAll_mk0))), rfl, hB.frame _, fun h => by cases h⟩⟩

theorem holds : Rows.VoteStrongSaid :=
  OpenClaim.holds_of_wide 8 Try.f8 rfl rfl rfl rfl rfl rfl rfl ⟨rfl, rfl, rfl, rfl, rfl⟩ rfl rfl rfl rfl rfl (by kernel_rfl) Try.func8 (by kernel_rfl)
    (of_decide_eq_true (by kernel_rfl)) (by unfold Func.isWrapper; first | (rw [if_pos (by decide +kernel)]; kernel_rfl) | (rw [if_neg (by decide +kernel)]; exact ⟨rfl, rfl⟩))
    (fun os started H enc _ => lifted os started H enc)
end Go.Proofs.Ytcohbjnfamccjaa.VoteStrong

/- No sample has a sign of flying, and the like sign of standing, at once (VoteOnce); no condition. -/
import Derived.Test.YtcohbjnfamccjaaRows
import Derived.Test.YtcohbjnfamccjaaVotePlain
import Derived.Test.YtcohbjnfamccjaaBs
import Derived.Test.YtcohbjnfamccjaaInts
import Derived.WalkKit
import Derived.ProofKit
import Derived.Lib.Hide
import Derived.OwnWalk
import Derived.Deep.RegionHeld3
import Derived.WalkLawsBesides
import Derived.WalkSpells
import Derived.IntWalk
import Derived.Test.YtcohbjnfamccjaaVoteLaw
import Derived.Test.YtcohbjnfamccjaaBase
import Derived.ProofKit
import Derived.OpenShut
import Derived.ChangeMaps5
import Derived.Test.YtcohbjnfamccjaaInts
namespace Go.Proofs.Ytcohbjnfamccjaa.VoteOnce
open Go.ChangeShapes Go.WideShapes Go.ChangeAt Go.RowKit Go.ChangeMaps
set_option linter.unusedVariables false
set_option linter.unusedSimpArgs false
attribute [local go_sem] unary_negF st_float

set_option maxRecDepth 100000 in
set_option maxHeartbeats 4000000 in
theorem walk (a : Nat) (b : Nat) (c : Nat) (W : World) (ha : a < 2 ^ 64) (hb : b < 2 ^ 64) (hc : c < 2 ^ 64) :
    Calls Try.prog 7 #[.float .f64 a, .float .f64 b, .float .f64 c] W fun e W' => e = .returned (.bool true) ∧ Below W.heap.size W W' := by
  have hAG := once ⟨a, b, c⟩
  have TA := Lib.hid (fun (V : World) => own17Air a b c V ha hb hc)
  have TG := Lib.hid (fun (V : World) => own17Ground a b c V ha hb hc)
  generalize airN ⟨a, b, c⟩ = A at *
  generalize groundN ⟨a, b, c⟩ = G at *
  clear ha hb hc
  have k1 : (A : Int) ≥ 0 := by omega
  have k2 : (G : Int) ≥ 0 := by omega
  have k3 : wrap64 ((A : Int) + (G : Int)) = (A : Int) + (G : Int) := by unfold wrap64; omega
  have k4 : (A : Int) + (G : Int) ≤ 3 := by omega
  have st := Bs.in1 W 24 [.float .f64 a, .float .f64 b, .float .f64 c]
  go_enter Try.func7, Try.ntmps7
  have fc0 := (st.box 0 rfl).f3
  go_wp2_with fail; refine callB st (TA.out _) ?_; clear st fc0; intro V1 st
  have fc0 := (st.box 0 rfl).f3
  go_wp2_with fail; refine callB st (TG.out _) ?_; clear st fc0; intro V2 st
  have fc0 := (st.box 0 rfl).f3
  go_wp2_with fail; refine callB st (shown17 _) ?_; clear st fc0; intro V3 st
  go_wp2; go_ret; exact ⟨rfl, st.lo⟩

theorem own : ownKnob Try.prog.godebug = none := by kernel_rfl

set_option maxRecDepth 100000 in
theorem lifted (os : Os) (started : os.Started) (H : Type) (enc : TypeId × Value → H) :
    ReturnsInHanded {} Try.checked os 7 .any (Rows.voteOnceSpec.pre6 enc Try.prog Try.f7 Rows.voteOnceRow.domain false) (Rows.voteOnceSpec.post enc Try.prog Try.f7 false true false false) := by
  refine returnsInHanded_of_change (C := Try.checked) own started (by kernel_rfl) Try.func7
    (ChangeSpec.witness6 (enc := enc) (C := Try.checked) false ⟨#[], #[.float .f64 0, .float .f64 0, .float .f64 0], []⟩ 8 (by kernel_rfl) (by kernel_rfl) (by kernel_rfl) (by kernel_rfl)) ?_
  intro W base args ds gs before hval hW _ _
  have hW' := hW
  obtain ⟨p, q, hA0, hV, rfl, hfz, hnd⟩ := hW
  have hA : DataW.TrodAll enc Try.prog W 0 (fun _ => true) true Try.f7.params.toList args.toList ds p := hA0
  rw [Try.params7] at hA hval
  obtain ⟨v0, vs0, d0, ds0, p0, q0, hargs, rfl, rfl, h0, r0⟩ := trodAll_cons hA
  obtain ⟨v1, vs1, d1, ds1, p1, q1, rfl, rfl, rfl, h1, r1⟩ := trodAll_cons r0
  obtain ⟨v2, vs2, d2, ds2, p2, q2, rfl, rfl, rfl, h2, r2⟩ := trodAll_cons r1
  obtain ⟨rfl, rfl, rfl⟩ := trodAll_nil r2
  obtain rfl : args = #[v0, v1, v2] := by cases args; simp_all
  obtain ⟨rfl, rfl⟩ := trodVars_none hV
  obtain ⟨a0, rfl, rfl, rfl, w0⟩ := open_float Try.underlying22 (hval 0 22 v0 rfl rfl) h0
  obtain ⟨a1, rfl, rfl, rfl, w1⟩ := open_float Try.underlying22 (hval 1 22 v1 rfl rfl) h1
  obtain ⟨a2, rfl, rfl, rfl, w2⟩ := open_float Try.underlying22 (hval 2 22 v2 rfl rfl) h2
  clear hA0
  simp only [List.append_nil] at hW'
  refine (walk a0 a1 a2 W (float_wf w0) (float_wf w1) (float_wf w2)).mono fun e W' ⟨he, hB⟩ => ?_
  subst he
  exact ⟨_, rfl, ⟨_, _, _, [], _, [], hW', trodAll_cons_mk (shut_bool Try.underlying4 _) trodAll_mk0, (trodAll_cons_mk (shut_float Try.underlying22 w0) (trodAll_cons_mk (shut_float Try.underlying22 w1) (trodAll_cons_mk (shut_float Try.underlying22 w2) trodAll_mk0))), rfl, hB.frame _, fun h => by cases h⟩⟩

theorem holds : Rows.VoteOnceSaid :=
  OpenClaim.holds_of_wide 7 Try.f7 rfl rfl rfl rfl rfl rfl rfl ⟨rfl, rfl, rfl, rfl, rfl⟩ rfl rfl rfl rfl rfl (by kernel_rfl) Try.func7 (by kernel_rfl)
    (of_decide_eq_true (by kernel_rfl)) (by unfold Func.isWrapper; first | (rw [if_pos (by decide +kernel)]; kernel_rfl) | (rw [if_neg (by decide +kernel)]; exact ⟨rfl, rfl⟩))
    (fun os started H enc _ => lifted os started H enc)
end Go.Proofs.Ytcohbjnfamccjaa.VoteOnce

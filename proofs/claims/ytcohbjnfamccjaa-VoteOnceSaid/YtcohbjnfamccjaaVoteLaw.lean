/- The laws' own helper of layer 17: contracts only. -/
import Derived.Test.YtcohbjnfamccjaaRows
import Derived.Test.YtcohbjnfamccjaaVotePlain
import Derived.Test.YtcohbjnfamccjaaBs
import Derived.Test.YtcohbjnfamccjaaInts
import Derived.WalkKit
import Derived.ProofKit
import Derived.Lib.Hide
import Derived.OwnWalk
import Derived.Deep.RegionHeld3
import Derived.WalkLawsBesides
import Derived.WalkSpells
import Derived.IntWalk
import Derived.Test.YtcohbjnfamccjaaFixedLaw
import Derived.Test.YtcohbjnfamccjaaVoteOwn
import Derived.Test.YtcohbjnfamccjaaVoteRef
namespace Go.Proofs.Ytcohbjnfamccjaa
open Go.RowKit
set_option linter.unusedVariables false
set_option linter.unusedSimpArgs false

theorem fld17 (x y z : Nat) (w : World) : (Instr.field 24 (.agg #[.float .f64 x, .float .f64 y, .float .f64 z]) 1).run Try.prog w = .ok (.float .f64 y) w := by
  unfold Instr.field; simp [go_sem, Try.underlying24]; rfl
attribute [local go_sem] unary_negF fld17 st_float

set_option maxRecDepth 100000 in
set_option maxHeartbeats 4000000 in
theorem shown17 (W : World) : Gives Try.prog 15 #[] W (.bool true) := by
  have T1 := Lib.hid (fun (V : World) => (show Gives Try.prog 13 #[.agg #[.float .f64 4621819117588971520, .float .f64 0, .float .f64 4602678819172646912]] V (.int .i64 2) from by have h := own17Vote 4621819117588971520 0 4602678819172646912 V (by decide) (by decide) (by decide); rw [show voteN ⟨4621819117588971520, 0, 4602678819172646912⟩ = 2 from by decide] at h; exact h))
  have T2 := Lib.hid (fun (V : World) => (show Gives Try.prog 13 #[.agg #[.float .f64 0, .float .f64 0, .float .f64 0]] V (.int .i64 1) from by have h := own17Vote 0 0 0 V (by decide) (by decide) (by decide); rw [show voteN ⟨0, 0, 0⟩ = 1 from by decide] at h; exact h))
  have T3 := Lib.hid (fun (V : World) => (show Gives Try.prog 13 #[.agg #[.float .f64 4609434218613702656, .float .f64 0, .float .f64 0]] V (.int .i64 0) from by have h := own17Vote 4609434218613702656 0 0 V (by decide) (by decide) (by decide); rw [show voteN ⟨4609434218613702656, 0, 0⟩ = 0 from by decide] at h; exact h))
  have T5 := Lib.hid (fun (V : World) => (show Gives Try.prog 9 #[.agg #[.float .f64 9218868437227405312, .float .f64 18442240474082181120, .float .f64 0]] V (.int .i64 2) from by have h := own17Air 9218868437227405312 18442240474082181120 0 V (by decide) (by decide) (by decide); rw [show airN ⟨9218868437227405312, 18442240474082181120, 0⟩ = 2 from by decide] at h; exact h))
  have T6 := Lib.hid (fun (V : World) => (show Gives Try.prog 11 #[.agg #[.float .f64 18442240474082181120, .float .f64 0, .float .f64 0]] V (.int .i64 3) from by have h := own17Ground 18442240474082181120 0 0 V (by decide) (by decide) (by decide); rw [show groundN ⟨18442240474082181120, 0, 0⟩ = 3 from by decide] at h; exact h))
  have T4 := Lib.hid (fun (q : Nat) (hq : ¬ isNum q ∧ q < 2 ^ 64) (V : World) => (show Gives Try.prog 13 #[.agg #[.float .f64 q, .float .f64 4621256167635550208, .float .f64 4621256167635550208]] V (.int .i64 0) from by have h := own17Vote q 4621256167635550208 4621256167635550208 V hq.2 (by decide) (by decide); rw [vote_broken (by unfold brokenB; rw [(nan_iff q).2 hq.1]; rfl)] at h; exact h))
  have T7 := Lib.hid (fun (V : World) => (show Gives Try.prog 16 #[.agg #[.float .f64 0, .float .f64 4611686018427387904, .float .f64 0]] V (.agg #[.float .f64 0, .float .f64 13835058055282163712, .float .f64 0]) from own17Turn 0 4611686018427387904 0 V (by decide) (by decide) (by decide)))
  have q0 : (FloatKind.f64.format.order 13835058055282163712 13835058055282163712 == some .eq) = true := by decide
  have st := Bs.nil W
  go_enter Try.func15, Try.ntmps15
  go_wp2_with fail; refine callB st (T1.out _) ?_; clear st; intro V1 st
  go_wp2_with fail; refine callB st (T2.out _) ?_; clear st; intro V2 st
  go_wp2_with fail; refine callB st (T3.out _) ?_; clear st; intro V3 st
  go_wp2_with (simp only [quo_nan])
  replace st := st.drew
  refine callB st (T4.out _ (nanOf_is _) _) ?_; clear st; intro V4 st
  go_wp2_with (simp only [quo_inf, quo_minus])
  refine callB st (T5.out _) ?_; clear st; intro V5 st
  go_wp2_with (simp only [quo_minus])
  refine callB st (T6.out _) ?_; clear st; intro V6 st
  go_wp2_with fail; refine callB st (T7.out _) ?_; clear st; intro V7 st
  go_wp2; go_ret; exact ⟨rfl, st.lo⟩

theorem class_five (x : Nat) : classN x = 5 ↔ ¬ isNum x := by
  unfold classN
  by_cases h : isNum x
  · rw [if_neg (fun k => k h)]
    refine ⟨fun k => ?_, fun k => absurd h k⟩
    split at k
    · omega
    · split at k
      · omega
      · split at k
        · omega
        · split at k <;> omega
  · rw [if_pos h]; exact ⟨fun _ => h, fun _ => rfl⟩
theorem num_zero : isNum 0 := by unfold isNum rungOf infR; decide
theorem fv_zero : fv 0 = 0 := rfl
theorem ge_zero {x : Nat} (h : (FloatKind.f64.format.order x 0 == some .gt || FloatKind.f64.format.order x 0 == some .eq) = true) : isNum x ∧ 0 ≤ fv x := by
  by_cases hx : isNum x
  · refine ⟨hx, ?_⟩
    rw [geD hx num_zero, fv_zero] at h
    exact of_decide_eq_true h
  · rw [show FloatKind.f64.format.order x 0 = none from order_nan1 hx] at h; cases h
theorem num_thousand : isNum 4652007308841189376 ∧ rungOf 4652007308841189376 < infR := by unfold isNum rungOf infR; decide
theorem not_big {x : Nat} (hx : isNum x) (h0 : 0 ≤ fv x) (h : (FloatKind.f64.format.order x 4652007308841189376 == some .gt) = false) : rungOf x < infR := by
  obtain ⟨n, r⟩ := num_thousand
  rw [gtD hx n] at h
  have h1 := of_decide_eq_false h
  rcases Nat.lt_or_eq_of_le (show rungOf x ≤ infR from hx) with e | e
  · exact e
  · have hp := mu_lt r
    cases hn : negOf x
    · have h2 : fv x = (mu infR : Int) := by unfold fv; rw [hn, e]; rfl
      have h3 : fv 4652007308841189376 = (mu (rungOf 4652007308841189376) : Int) := rfl
      omega
    · have h2 : fv x = -(mu infR : Int) := by unfold fv; rw [hn, e]; rfl
      have h3 := mu_pos (r := infR) (by decide)
      omega

end Go.Proofs.Ytcohbjnfamccjaa

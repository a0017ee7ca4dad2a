/- The document's own answers of layer 17, by contracts: no statement is proved here. -/
import Derived.Test.YtcohbjnfamccjaaRows
import Derived.Test.YtcohbjnfamccjaaVotePlain
import Derived.Test.YtcohbjnfamccjaaBs
import Derived.Test.YtcohbjnfamccjaaInts
import Derived.WalkKit
import Derived.ProofKit
import Derived.Lib.Hide
import Derived.OwnWalk
import Derived.Deep.RegionHeld3
import Derived.WalkLawsBesides
import Derived.WalkSpells
import Derived.IntWalk
namespace Go.Proofs.Ytcohbjnfamccjaa
open Go.RowKit
set_option linter.unusedVariables false
set_option linter.unusedSimpArgs false

set_option maxRecDepth 100000 in
set_option maxHeartbeats 4000000 in
theorem ref17Air (a b c : Nat) (W : World) :
    Gives Try.prog 10 #[.agg #[.float .f64 a, .float .f64 b, .float .f64 c]] W (.int .i64 ((airN ⟨a, b, c⟩ : Nat) : Int)) := by
  obtain ⟨x0, m0⟩ : ∃ x, gtF a w2 = x := ⟨_, rfl⟩
  obtain ⟨x1, m1⟩ : ∃ x, gtF b w3 = x := ⟨_, rfl⟩
  obtain ⟨x2, m2⟩ : ∃ x, ltF b wm3 = x := ⟨_, rfl⟩
  obtain ⟨x3, m3⟩ : ∃ x, gtF c wq = x := ⟨_, rfl⟩
  rw [show airN ⟨a, b, c⟩ = x0.toNat + (x1 || x2).toNat + x3.toNat from by unfold airN; rw [m0, m1, m2, m3]]
  have n0 : (FloatKind.f64.format.order a 4611686018427387904 == some .gt) = x0 := m0
  have n1 : (FloatKind.f64.format.order b 4613937818241073152 == some .gt) = x1 := m1
  have n2 : (FloatKind.f64.format.order b 13837309855095848960 == some .lt) = x2 := m2
  have n3 : (FloatKind.f64.format.order c 4598175219545276416 == some .gt) = x3 := m3
  clear m0 m1 m2 m3
  cases x0 <;> cases x1 <;> cases x2 <;> cases x3
  all_goals
    have st := Bs.in1 W 25 [.float .f64 a, .float .f64 b, .float .f64 c]
    go_enter Try.func10, Try.ntmps10
    have fc0 := (st.box 0 rfl).f3
    go_wp2
    go_ret
    exact ⟨rfl, st.lo⟩

set_option maxRecDepth 100000 in
set_option maxHeartbeats 4000000 in
theorem ref17Ground (a b c : Nat) (W : World) :
    Gives Try.prog 12 #[.agg #[.float .f64 a, .float .f64 b, .float .f64 c]] W (.int .i64 ((groundN ⟨a, b, c⟩ : Nat) : Int)) := by
  obtain ⟨x0, m0⟩ : ∃ x, ltF a w1 = x := ⟨_, rfl⟩
  obtain ⟨x1, m1⟩ : ∃ x, ltF b w1 = x := ⟨_, rfl⟩
  obtain ⟨x2, m2⟩ : ∃ x, gtF b wm1 = x := ⟨_, rfl⟩
  obtain ⟨x3, m3⟩ : ∃ x, ltF c we = x := ⟨_, rfl⟩
  rw [show groundN ⟨a, b, c⟩ = x0.toNat + (x1 && x2).toNat + x3.toNat from by unfold groundN; rw [m0, m1, m2, m3]]
  have n0 : (FloatKind.f64.format.order a 4607182418800017408 == some .lt) = x0 := m0
  have n1 : (FloatKind.f64.format.order b 4607182418800017408 == some .lt) = x1 := m1
  have n2 : (FloatKind.f64.format.order b 13830554455654793216 == some .gt) = x2 := m2
  have n3 : (FloatKind.f64.format.order c 4593671619917905920 == some .lt) = x3 := m3
  clear m0 m1 m2 m3
  cases x0 <;> cases x1 <;> cases x2 <;> cases x3
  all_goals
    have st := Bs.in1 W 25 [.float .f64 a, .float .f64 b, .float .f64 c]
    go_enter Try.func12, Try.ntmps12
    have fc0 := (st.box 0 rfl).f3
    go_wp2
    go_ret
    exact ⟨rfl, st.lo⟩

set_option maxRecDepth 100000 in
set_option maxHeartbeats 4000000 in
theorem ref17Vote (a b c : Nat) (W : World) :
    Gives Try.prog 14 #[.agg #[.float .f64 a, .float .f64 b, .float .f64 c]] W (.int .i64 ((voteN ⟨a, b, c⟩ : Nat) : Int)) := by
  obtain ⟨x0, m0⟩ : ∃ x, nanF a = x := ⟨_, rfl⟩
  obtain ⟨x1, m1⟩ : ∃ x, nanF b = x := ⟨_, rfl⟩
  obtain ⟨x2, m2⟩ : ∃ x, nanF c = x := ⟨_, rfl⟩
  have hb : brokenB ⟨a, b, c⟩ = (x0 || x1 || x2) := by unfold brokenB; rw [m0, m1, m2]
  have n0 : (FloatKind.f64.format.order a a != some .eq) = x0 := m0
  have n1 : (FloatKind.f64.format.order b b != some .eq) = x1 := m1
  have n2 : (FloatKind.f64.format.order c c != some .eq) = x2 := m2
  clear m0 m1 m2
  have TA := Lib.hid (fun (V : World) => ref17Air a b c V)
  have TG := Lib.hid (fun (V : World) => ref17Ground a b c V)
  have HV : voteN ⟨a, b, c⟩ = if brokenB ⟨a, b, c⟩ = true then 0 else if 2 ≤ airN ⟨a, b, c⟩ then 2 else if groundN ⟨a, b, c⟩ = 3 then 1 else 0 := rfl
  rw [hb] at HV
  rw [HV]
  clear HV hb
  generalize airN ⟨a, b, c⟩ = A at *
  generalize groundN ⟨a, b, c⟩ = G at *
  cases x0 with
  | true =>
    rw [if_pos (by simp)]
    have st := Bs.in1 W 25 [.float .f64 a, .float .f64 b, .float .f64 c]
    go_enter Try.func14, Try.ntmps14
    have fc0 := (st.box 0 rfl).f3
    go_wp2
    go_ret
    exact ⟨rfl, st.lo⟩
  | false =>
    cases x1 with
    | true =>
      rw [if_pos (by simp)]
      have st := Bs.in1 W 25 [.float .f64 a, .float .f64 b, .float .f64 c]
      go_enter Try.func14, Try.ntmps14
      have fc0 := (st.box 0 rfl).f3
      go_wp2
      go_ret
      exact ⟨rfl, st.lo⟩
    | false =>
      cases x2 with
      | true =>
        rw [if_pos (by simp)]
        have st := Bs.in1 W 25 [.float .f64 a, .float .f64 b, .float .f64 c]
        go_enter Try.func14, Try.ntmps14
        have fc0 := (st.box 0 rfl).f3
        go_wp2
        go_ret
        exact ⟨rfl, st.lo⟩
      | false =>
        rw [if_neg (by decide)]
        by_cases h : 2 ≤ A
        · rw [if_pos h]
          have k1 : (A : Int) ≥ 2 := by omega
          clear h TG
          have st := Bs.in1 W 25 [.float .f64 a, .float .f64 b, .float .f64 c]
          go_enter Try.func14, Try.ntmps14
          have fc0 := (st.box 0 rfl).f3
          go_wp2_with fail; refine callB st (TA.out _) ?_; clear st fc0; intro V1 st
          have fc0 := (st.box 0 rfl).f3
          go_wp2
          go_ret
          exact ⟨rfl, st.lo⟩
        · rw [if_neg h]
          have k1 : ¬ (A : Int) ≥ 2 := by omega
          by_cases h2 : G = 3
          · rw [if_pos h2]
            subst h2
            clear h
            have st := Bs.in1 W 25 [.float .f64 a, .float .f64 b, .float .f64 c]
            go_enter Try.func14, Try.ntmps14
            have fc0 := (st.box 0 rfl).f3
            go_wp2_with fail; refine callB st (TA.out _) ?_; clear st fc0; intro V1 st
            have fc0 := (st.box 0 rfl).f3
            go_wp2_with fail; refine callB st (TG.out _) ?_; clear st fc0; intro V2 st
            have fc0 := (st.box 0 rfl).f3
            go_wp2
            go_ret
            exact ⟨rfl, st.lo⟩
          · rw [if_neg h2]
            have k2 : ((G : Int) == 3) = false := beq_eq_false_iff_ne.2 (by omega)
            clear h h2
            have st := Bs.in1 W 25 [.float .f64 a, .float .f64 b, .float .f64 c]
            go_enter Try.func14, Try.ntmps14
            have fc0 := (st.box 0 rfl).f3
            go_wp2_with fail; refine callB st (TA.out _) ?_; clear st fc0; intro V1 st
            have fc0 := (st.box 0 rfl).f3
            go_wp2_with fail; refine callB st (TG.out _) ?_; clear st fc0; intro V2 st
            have fc0 := (st.box 0 rfl).f3
            go_wp2
            go_ret
            exact ⟨rfl, st.lo⟩

end Go.Proofs.Ytcohbjnfamccjaa

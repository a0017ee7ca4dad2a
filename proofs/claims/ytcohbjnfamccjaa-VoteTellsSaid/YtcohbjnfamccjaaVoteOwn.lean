/- The program's own functions of layer 17: contracts only. -/
import Derived.Test.YtcohbjnfamccjaaRows
import Derived.Test.YtcohbjnfamccjaaVotePlain
import Derived.Test.YtcohbjnfamccjaaFixedPlain
import Derived.Test.YtcohbjnfamccjaaFixedOwn
import Derived.Test.YtcohbjnfamccjaaBs
import Derived.Test.YtcohbjnfamccjaaInts
import Derived.Test.YtcohbjnfamccjaaBase
import Derived.WalkKit
import Derived.ProofKit
import Derived.Lib.Hide
import Derived.OwnWalk
import Derived.Deep.RegionHeld3
import Derived.WalkLawsBesides
import Derived.WalkSpells
import Derived.IntWalk
namespace Go.Proofs.Ytcohbjnfamccjaa
open Go.RowKit
set_option linter.unusedVariables false
set_option linter.unusedSimpArgs false

attribute [local go_sem] unary_negF st_float

/-- How many of three conditions hold. -/
def cnt3 (x y z : Bool) : Nat := x.toNat + y.toNat + z.toNat
def upto3 (x y z : Bool) (k : Nat) : Nat := if k = 0 then 0 else if k = 1 then x.toNat else if k = 2 then x.toNat + y.toNat else cnt3 x y z
theorem cnt3_pos (x y z : Bool) : decide (0 < cnt3 x y z) = (x || y || z) := by cases x <;> cases y <;> cases z <;> rfl
theorem class_nan (x : Nat) : (classN x == 5) = nanF x := by
  cases h : nanF x with
  | true => exact beq_iff_eq.2 (if_pos ((nan_iff x).1 h))
  | false => exact beq_eq_false_iff_ne.2 (class_num (num_of h))

set_option maxRecDepth 100000 in
set_option maxHeartbeats 4000000 in
theorem own17count (x y z : Bool) (A : Nat) (W : World) (h : Box 4 W A [.bool x, .bool y, .bool z]) : Gives Try.prog 18 #[.slice (some ⟨A, 0, none⟩) 3 3] W (.int .i64 ((cnt3 x y z : Nat) : Int)) := by
  have f0 := h.cell 0 rfl
  have f1 := h.cell 1 rfl
  have f2 := h.cell 2 rfl
  clear h
  go_enter Try.func18, Try.ntmps18
  go_wp2
  go_loopw [3, 8] (fun o i wr => ∃ k : Nat, k ≤ 3 ∧ i = .int .i64 k ∧ o = .int .i64 ((upto3 x y z k : Nat) : Int) ∧ wr = W) (fun _ i _ => 3 - (intOf i).toNat)
  case atStart => exact ⟨0, by omega, rfl, rfl, rfl⟩
  case round =>
    obtain ⟨k, hk, rfl, rfl, rfl⟩ := hrel
    rcases (show k = 0 ∨ k = 1 ∨ k = 2 ∨ k = 3 from by omega) with rfl | rfl | rfl | rfl
    · cases x
      · go_wp2
        go_roundw
        case rel => exact ⟨1, by omega, by go_num, by cases y <;> cases z <;> simp [upto3, cnt3, wrap64], trivial⟩
        case measure => simp [intOf]
      · go_wp2
        go_roundw
        case rel => exact ⟨1, by omega, by go_num, by cases y <;> cases z <;> simp [upto3, cnt3, wrap64], trivial⟩
        case measure => simp [intOf]
    · cases y
      · go_wp2
        go_roundw
        case rel => exact ⟨2, by omega, by go_num, by cases x <;> cases z <;> simp [upto3, cnt3, wrap64], trivial⟩
        case measure => simp [intOf]
      · go_wp2
        go_roundw
        case rel => exact ⟨2, by omega, by go_num, by cases x <;> cases z <;> simp [upto3, cnt3, wrap64], trivial⟩
        case measure => simp [intOf]
    · cases z
      · go_wp2
        go_roundw
        case rel => exact ⟨3, by omega, by go_num, by cases x <;> cases y <;> simp [upto3, cnt3, wrap64], trivial⟩
        case measure => simp [intOf]
      · go_wp2
        go_roundw
        case rel => exact ⟨3, by omega, by go_num, by cases x <;> cases y <;> simp [upto3, cnt3, wrap64], trivial⟩
        case measure => simp [intOf]
    · go_wp2
      go_ret
      exact ⟨rfl, Below.refl _ _⟩

set_option maxRecDepth 100000 in
set_option maxHeartbeats 4000000 in
theorem own17isNone (x : Nat) (W : World) : Calls Try.prog 20 #[.float .f64 x] W fun e W' => e = .returned (.bool (nanF x)) ∧ W' = W := by
  have TC := Lib.hid (fun (V : World) => own13ClassQ x V)
  have hk := class_nan x
  generalize classN x = k at *
  generalize nanF x = r at *
  go_enter Try.func20, Try.ntmps20
  go_wp2_with fail; refine callQ (TC.out _) ?_
  go_wp2; go_ret; exact ⟨rfl, rfl⟩

set_option maxRecDepth 100000 in
set_option maxHeartbeats 4000000 in
theorem own17Air (a b c : Nat) (W : World) (ha : a < 2 ^ 64) (hb : b < 2 ^ 64) (hc : c < 2 ^ 64) :
    Gives Try.prog 9 #[.agg #[.float .f64 a, .float .f64 b, .float .f64 c]] W (.int .i64 ((airN ⟨a, b, c⟩ : Nat) : Int)) := by
  clear ha hb hc
  obtain ⟨x0, m0⟩ : ∃ x, gtF a w2 = x := ⟨_, rfl⟩
  obtain ⟨x1, m1⟩ : ∃ x, gtF b w3 = x := ⟨_, rfl⟩
  obtain ⟨x2, m2⟩ : ∃ x, ltF b wm3 = x := ⟨_, rfl⟩
  obtain ⟨x3, m3⟩ : ∃ x, gtF c wq = x := ⟨_, rfl⟩
  rw [show airN ⟨a, b, c⟩ = cnt3 x0 (x1 || x2) x3 from by unfold airN; rw [m0, m1, m2, m3]; rfl]
  have n0 : (FloatKind.f64.format.order a 4611686018427387904 == some .gt) = x0 := m0
  have n1 : (FloatKind.f64.format.order b 4613937818241073152 == some .gt) = x1 := m1
  have n2 : (FloatKind.f64.format.order b 13837309855095848960 == some .lt) = x2 := m2
  have n3 : (FloatKind.f64.format.order c 4598175219545276416 == some .gt) = x3 := m3
  clear m0 m1 m2 m3
  cases x1
  · have st := Bs.in1 W 24 [.float .f64 a, .float .f64 b, .float .f64 c]
    go_enter Try.func9, Try.ntmps9
    have fc0 := (st.box 0 rfl).f3
    go_wp2_with fail
    replace st := st.allocB 4 [.bool x0, .bool x2, .bool x3] (W.heap.size + 1) (World.size_alloc _ _)
    refine callB st (own17count x0 x2 x3 _ _ (st.box 0 rfl)) ?_; clear st fc0; intro V1 st
    go_wp2; go_ret; exact ⟨rfl, st.lo⟩
  · have st := Bs.in1 W 24 [.float .f64 a, .float .f64 b, .float .f64 c]
    go_enter Try.func9, Try.ntmps9
    have fc0 := (st.box 0 rfl).f3
    go_wp2_with fail
    replace st := st.allocB 4 [.bool x0, .bool true, .bool x3] (W.heap.size + 1) (World.size_alloc _ _)
    refine callB st (own17count x0 true x3 _ _ (st.box 0 rfl)) ?_; clear st fc0; intro V1 st
    go_wp2; go_ret; exact ⟨rfl, st.lo⟩

set_option maxRecDepth 100000 in
set_option maxHeartbeats 4000000 in
theorem own17Ground (a b c : Nat) (W : World) (ha : a < 2 ^ 64) (hb : b < 2 ^ 64) (hc : c < 2 ^ 64) :
    Gives Try.prog 11 #[.agg #[.float .f64 a, .float .f64 b, .float .f64 c]] W (.int .i64 ((groundN ⟨a, b, c⟩ : Nat) : Int)) := by
  clear ha hb hc
  obtain ⟨x0, m0⟩ : ∃ x, ltF a w1 = x := ⟨_, rfl⟩
  obtain ⟨x1, m1⟩ : ∃ x, ltF b w1 = x := ⟨_, rfl⟩
  obtain ⟨x2, m2⟩ : ∃ x, gtF b wm1 = x := ⟨_, rfl⟩
  obtain ⟨x3, m3⟩ : ∃ x, ltF c we = x := ⟨_, rfl⟩
  rw [show groundN ⟨a, b, c⟩ = cnt3 x0 (x1 && x2) x3 from by unfold groundN; rw [m0, m1, m2, m3]; rfl]
  have n0 : (FloatKind.f64.format.order a 4607182418800017408 == some .lt) = x0 := m0
  have n1 : (FloatKind.f64.format.order b 4607182418800017408 == some .lt) = x1 := m1
  have n2 : (FloatKind.f64.format.order b 13830554455654793216 == some .gt) = x2 := m2
  have n3 : (FloatKind.f64.format.order c 4593671619917905920 == some .lt) = x3 := m3
  clear m0 m1 m2 m3
  cases x1
  · have st := Bs.in1 W 24 [.float .f64 a, .float .f64 b, .float .f64 c]
    go_enter Try.func11, Try.ntmps11
    have fc0 := (st.box 0 rfl).f3
    go_wp2_with fail
    replace st := st.allocB 4 [.bool x0, .bool false, .bool x3] (W.heap.size + 1) (World.size_alloc _ _)
    refine callB st (own17count x0 false x3 _ _ (st.box 0 rfl)) ?_; clear st fc0; intro V1 st
    go_wp2; go_ret; exact ⟨rfl, st.lo⟩
  · have st := Bs.in1 W 24 [.float .f64 a, .float .f64 b, .float .f64 c]
    go_enter Try.func11, Try.ntmps11
    have fc0 := (st.box 0 rfl).f3
    go_wp2_with fail
    replace st := st.allocB 4 [.bool x0, .bool x2, .bool x3] (W.heap.size + 1) (World.size_alloc _ _)
    refine callB st (own17count x0 x2 x3 _ _ (st.box 0 rfl)) ?_; clear st fc0; intro V1 st
    go_wp2; go_ret; exact ⟨rfl, st.lo⟩

set_option maxRecDepth 100000 in
set_option maxHeartbeats 4000000 in
theorem own17broken (a b c : Nat) (W : World) : Gives Try.prog 19 #[.agg #[.float .f64 a, .float .f64 b, .float .f64 c]] W (.bool (brokenB ⟨a, b, c⟩)) := by
  have Ta := Lib.hid (fun (V : World) => own17isNone a V)
  have Tb := Lib.hid (fun (V : World) => own17isNone b V)
  have Tc := Lib.hid (fun (V : World) => own17isNone c V)
  have hb : brokenB ⟨a, b, c⟩ = (nanF a || nanF b || nanF c) := rfl
  have hc := cnt3_pos (nanF a) (nanF b) (nanF c)
  have TK := Lib.hid (fun A V => own17count (nanF a) (nanF b) (nanF c) A V)
  rw [hb]
  rw [← hc]
  clear hb hc
  generalize nanF a = x0 at *
  generalize nanF b = x1 at *
  generalize nanF c = x2 at *
  generalize cnt3 x0 x1 x2 = n at *
  have st := Bs.in1 W 24 [.float .f64 a, .float .f64 b, .float .f64 c]
  go_enter Try.func19, Try.ntmps19
  have fc0 := (st.box 0 rfl).f3
  go_wp2_with fail
  clear fc0
  replace st := st.drew
  refine rh (fun w => C3 w (W.heap.size) (.float .f64 a) (.float .f64 b) (.float .f64 c)) ((st.box 0 rfl).c3) fun hHeld => ?_
  replace st := st.name; obtain ⟨V1, hV, st⟩ := st; rw [hV] at hHeld ⊢; clear hV
  refine tq 0 ?_; refine tq 1 ?_; refine tq 3 ?_; refine tq 4 ?_; refine tq 6 ?_; refine tq 7 ?_
  try simp only [Act.put, l1, l2, l3, l4, l5, l6]
  refine rd 2 fun K hK => ?_
  have fc0 := (st.box 0 rfl).f3
  go_simp
  refine callQ (Ta.out _) ?_
  try go_wp2_with fail
  clear hHeld fc0; refine hK.out _ _ ((st.box 0 rfl).c3) fun hHeld => ?_; clear hK K
  try simp only [Act.put, l1, l2, l3, l4, l5, l6]
  refine rd 5 fun K hK => ?_
  have fc0 := (st.box 0 rfl).f3
  go_simp
  refine callQ (Tb.out _) ?_
  try go_wp2_with fail
  clear hHeld fc0; refine hK.out _ _ ((st.box 0 rfl).c3) fun hHeld => ?_; clear hK K
  try simp only [Act.put, l1, l2, l3, l4, l5, l6]
  refine rd 8 fun K hK => ?_
  have fc0 := (st.box 0 rfl).f3
  go_simp
  refine callQ (Tc.out _) ?_
  try go_wp2_with fail
  clear hHeld fc0; refine hK.out _ _ ((st.box 0 rfl).c3) fun hHeld => ?_; clear hK K
  try simp only [Act.put, l1, l2, l3, l4, l5, l6]
  refine rd 9 fun K hK => ?_
  have fc0 := (st.box 0 rfl).f3
  go_simp
  clear fc0
  replace st := st.alloc 4 [.bool x0, .bool x1, .bool x2]
  replace st := st.name; obtain ⟨V2, hV, st⟩ := st; rw [hV]; clear hV
  generalize V1.heap.size = g_xl at *
  try go_wp2_with fail
  clear hHeld; refine hK.out _ _ ((st.box 1 rfl).c3) fun hHeld => ?_; clear hK K
  try simp only [Act.put, l1, l2, l3, l4, l5, l6]
  refine rd 10 fun K hK => ?_
  have fc0 := (st.box 1 rfl).f3; have fc1 := (st.box 0 rfl).f3
  go_simp
  clear fc0 fc1
  refine callB st (TK.out _ _ (st.box 0 rfl)) ?_; clear st; intro V3 st
  try go_wp2_with fail
  clear hHeld; refine hK.out _ _ ((st.box 1 rfl).c3) fun hHeld => ?_; clear hK K
  try simp only [Act.put, l1, l2, l3, l4, l5, l6]
  refine tq 11 ?_; refine tq 12 ?_
  try simp only [Act.put, l1, l2, l3, l4, l5, l6]
  refine wpAnyH_done (by kernel_rfl) ?_ _; clear hHeld
  have fc0 := (st.box 1 rfl).f3; have fc1 := (st.box 0 rfl).f3
  go_wp2; go_ret; exact ⟨rfl, st.lo⟩

set_option maxRecDepth 100000 in
set_option maxHeartbeats 4000000 in
theorem own17Vote (a b c : Nat) (W : World) (ha : a < 2 ^ 64) (hb : b < 2 ^ 64) (hc : c < 2 ^ 64) :
    Gives Try.prog 13 #[.agg #[.float .f64 a, .float .f64 b, .float .f64 c]] W (.int .i64 ((voteN ⟨a, b, c⟩ : Nat) : Int)) := by
  have TA := Lib.hid (fun (V : World) => own17Air a b c V ha hb hc)
  have TG := Lib.hid (fun (V : World) => own17Ground a b c V ha hb hc)
  have TB := Lib.hid (fun (V : World) => own17broken a b c V)
  clear ha hb hc
  rw [show voteN ⟨a, b, c⟩ = if brokenB ⟨a, b, c⟩ = true then 0 else if 2 ≤ airN ⟨a, b, c⟩ then 2 else if groundN ⟨a, b, c⟩ = 3 then 1 else 0 from rfl]
  generalize brokenB ⟨a, b, c⟩ = B at *
  generalize airN ⟨a, b, c⟩ = A at *
  generalize groundN ⟨a, b, c⟩ = G at *
  cases B with
  | true =>
    rw [if_pos rfl]
    clear TA TG
    have st := Bs.in1 W 24 [.float .f64 a, .float .f64 b, .float .f64 c]
    go_enter Try.func13, Try.ntmps13
    have fc0 := (st.box 0 rfl).f3
    go_wp2_with fail; refine callB st (TB.out _) ?_; clear st fc0; intro V1 st
    have fc0 := (st.box 0 rfl).f3
    go_wp2
    go_ret
    exact ⟨rfl, st.lo⟩
  | false =>
    rw [if_neg (by decide)]
    by_cases h : 2 ≤ A
    · rw [if_pos h]
      have k1 : (A : Int) ≥ 2 := by omega
      clear h TG
      have st := Bs.in1 W 24 [.float .f64 a, .float .f64 b, .float .f64 c]
      go_enter Try.func13, Try.ntmps13
      have fc0 := (st.box 0 rfl).f3
      go_wp2_with fail; refine callB st (TB.out _) ?_; clear st fc0; intro V1 st
      have fc0 := (st.box 0 rfl).f3
      go_wp2_with fail; refine callB st (TA.out _) ?_; clear st fc0; intro V2 st
      have fc0 := (st.box 0 rfl).f3
      go_wp2
      go_ret
      exact ⟨rfl, st.lo⟩
    · rw [if_neg h]
      have k1 : ¬ (A : Int) ≥ 2 := by omega
      by_cases h2 : G = 3
      · rw [if_pos h2]
        subst h2
        clear h
        have st := Bs.in1 W 24 [.float .f64 a, .float .f64 b, .float .f64 c]
        go_enter Try.func13, Try.ntmps13
        have fc0 := (st.box 0 rfl).f3
        go_wp2_with fail; refine callB st (TB.out _) ?_; clear st fc0; intro V1 st
        have fc0 := (st.box 0 rfl).f3
        go_wp2_with fail; refine callB st (TA.out _) ?_; clear st fc0; intro V2 st
        have fc0 := (st.box 0 rfl).f3
        go_wp2_with fail; refine callB st (TG.out _) ?_; clear st fc0; intro V3 st
        have fc0 := (st.box 0 rfl).f3
        go_wp2
        go_ret
        exact ⟨rfl, st.lo⟩
      · rw [if_neg h2]
        have k2 : ((G : Int) == 3) = false := beq_eq_false_iff_ne.2 (by omega)
        clear h h2
        have st := Bs.in1 W 24 [.float .f64 a, .float .f64 b, .float .f64 c]
        go_enter Try.func13, Try.ntmps13
        have fc0 := (st.box 0 rfl).f3
        go_wp2_with fail; refine callB st (TB.out _) ?_; clear st fc0; intro V1 st
        have fc0 := (st.box 0 rfl).f3
        go_wp2_with fail; refine callB st (TA.out _) ?_; clear st fc0; intro V2 st
        have fc0 := (st.box 0 rfl).f3
        go_wp2_with fail; refine callB st (TG.out _) ?_; clear st fc0; intro V3 st
        have fc0 := (st.box 0 rfl).f3
        go_wp2
        go_ret
        exact ⟨rfl, st.lo⟩

set_option maxRecDepth 100000 in
set_option maxHeartbeats 4000000 in
theorem own17Turn (a b c : Nat) (W : World) (ha : a < 2 ^ 64) (hb : b < 2 ^ 64) (hc : c < 2 ^ 64) :
    Gives Try.prog 16 #[.agg #[.float .f64 a, .float .f64 b, .float .f64 c]] W (.agg #[.float .f64 a, .float .f64 (Op.negFloat .f64 b), .float .f64 c]) := by
  clear ha hb hc
  have st := Bs.in2 W 24 [.float .f64 a, .float .f64 b, .float .f64 c] 24 [.float .f64 0, .float .f64 0, .float .f64 0]
  go_enter Try.func16, Try.ntmps16
  have fc0 := (st.box 1 rfl).f3; have fc1 := (st.box 0 rfl).f3
  go_wp2
  clear fc0 fc1
  replace st := Bs.in2 W 24 [.float .f64 a, .float .f64 (Op.negFloat .f64 b), .float .f64 c] 24 [.float .f64 a, .float .f64 (Op.negFloat .f64 b), .float .f64 c]
  have fc0 := (st.box 1 rfl).f3; have fc1 := (st.box 0 rfl).f3
  exact bodyPost_ret (v := .agg #[.float .f64 a, .float .f64 (Op.negFloat .f64 b), .float .f64 c]) (by simp [results, Try.results16, go_sem, fc0, fc1]) rfl ⟨rfl, st.lo⟩

end Go.Proofs.Ytcohbjnfamccjaa

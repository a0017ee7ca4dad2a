/- Which way a craft moves does not count; it is turned, and turned back (VoteTurns); no condition. -/
import Derived.Test.YtcohbjnfamccjaaRows
import Derived.Test.YtcohbjnfamccjaaVotePlain
import Derived.Test.YtcohbjnfamccjaaBs
import Derived.Test.YtcohbjnfamccjaaInts
import Derived.WalkKit
import Derived.ProofKit
import Derived.Lib.Hide
import Derived.OwnWalk
import Derived.Deep.RegionHeld3
import Derived.WalkLawsBesides
import Derived.WalkSpells
import Derived.IntWalk
import Derived.Test.YtcohbjnfamccjaaVoteLaw
import Derived.Test.YtcohbjnfamccjaaBase
import Derived.ProofKit
import Derived.OpenShut
import Derived.ChangeMaps5
import Derived.Test.YtcohbjnfamccjaaInts
namespace Go.Proofs.Ytcohbjnfamccjaa.VoteTurns
open Go.ChangeShapes Go.WideShapes Go.ChangeAt Go.RowKit Go.ChangeMaps
set_option linter.unusedVariables false
set_option linter.unusedSimpArgs false
attribute [local go_sem] unary_negF st_float

set_option maxRecDepth 100000 in
set_option maxHeartbeats 4000000 in
theorem walk (a : Nat) (b : Nat) (c : Nat) (W : World) (ha : a < 2 ^ 64) (hb : b < 2 ^ 64) (hc : c < 2 ^ 64) :
    Calls Try.prog 4 #[.float .f64 a, .float .f64 b, .float .f64 c] W fun e W' => e = .returned (.bool true) ∧ Below W.heap.size W W' := by
  have hnb := (opp_parts hb).2.2
  obtain ⟨t1, t2, _, t4⟩ := turn_air (s := ⟨a, b, c⟩) ⟨ha, hb, hc⟩
  have TA := Lib.hid (fun (V : World) => own17Air a b c V ha hb hc)
  have TG := Lib.hid (fun (V : World) => own17Ground a b c V ha hb hc)
  have TU := Lib.hid (fun (V : World) => own17Vote a b c V ha hb hc)
  have TT := Lib.hid (fun (V : World) => own17Turn a b c V ha hb hc)
  have TT2 := Lib.hid (fun (V : World) => own17Turn a (Op.negFloat .f64 b) c V ha hnb hc)
  have YA := fun (V : World) => own17Air a (Op.negFloat .f64 b) c V ha hnb hc
  rw [show airN ⟨a, (Op.negFloat .f64 b), c⟩ = airN ⟨a, b, c⟩ from t1] at YA
  replace YA := Lib.hid YA
  have YG := fun (V : World) => own17Ground a (Op.negFloat .f64 b) c V ha hnb hc
  rw [show groundN ⟨a, (Op.negFloat .f64 b), c⟩ = groundN ⟨a, b, c⟩ from t2] at YG
  replace YG := Lib.hid YG
  have YU := fun (V : World) => own17Vote a (Op.negFloat .f64 b) c V ha hnb hc
  rw [show voteN ⟨a, (Op.negFloat .f64 b), c⟩ = voteN ⟨a, b, c⟩ from t4] at YU
  replace YU := Lib.hid YU
  generalize airN ⟨a, b, c⟩ = A at *; generalize groundN ⟨a, b, c⟩ = G at *; generalize voteN ⟨a, b, c⟩ = U at *
  clear t1 t2 t4
  by_cases h0 : isNum a
  · skip
    by_cases h1 : isNum b
    · skip
      by_cases h2 : isNum c
      · skip
        have q0 : (FloatKind.f64.format.order a a == some .eq) = true := (ord_eq (h0) h0).trans (decide_eq_true (by rfl))
        have n0 : (FloatKind.f64.format.order a a != some .eq) = false := nan_no h0
        have q1 : (FloatKind.f64.format.order (Op.negFloat .f64 (Op.negFloat .f64 b)) b == some .eq) = true := (ord_eq ((num_opp hnb).2 ((num_opp hb).2 h1)) h1).trans (decide_eq_true (by rw [fv_opp hnb, fv_opp hb]; omega))
        have n1 : (FloatKind.f64.format.order b b != some .eq) = false := nan_no h1
        have q2 : (FloatKind.f64.format.order c c == some .eq) = true := (ord_eq (h2) h2).trans (decide_eq_true (by rfl))
        have n2 : (FloatKind.f64.format.order c c != some .eq) = false := nan_no h2
        clear h0 h1 h2
        clear ha hb hc hnb
        have st := Bs.in1 W 24 [.float .f64 a, .float .f64 b, .float .f64 c]
        go_enter Try.func4, Try.ntmps4
        have fc0 := (st.box 0 rfl).f3
        go_wp2_with fail; refine callB st (TT.out _) ?_; clear st fc0; intro V1 st
        replace st := st.alloc 24 [.float .f64 a, .float .f64 (Op.negFloat .f64 b), .float .f64 c]
        have fc0 := (st.box 1 rfl).f3; have fc1 := (st.box 0 rfl).f3
        go_wp2_with fail; refine callB st (TT2.out _) ?_; clear st fc0 fc1; intro V2 st
        replace st := st.alloc 24 [.float .f64 a, .float .f64 (Op.negFloat .f64 (Op.negFloat .f64 b)), .float .f64 c]
        have fc0 := (st.box 2 rfl).f3; have fc1 := (st.box 1 rfl).f3; have fc2 := (st.box 0 rfl).f3
        go_wp2_with fail
        clear fc0 fc1 fc2
        replace st := st.name; obtain ⟨V3, hV, st⟩ := st; rw [hV]; clear hV
        have fc0 := (st.box 2 rfl).f3; have fc1 := (st.box 1 rfl).f3; have fc2 := (st.box 0 rfl).f3
        clear fc0 fc1 fc2
        replace st := st.drew
        refine rh (fun w => C3 w (W.heap.size) (.float .f64 a) (.float .f64 b) (.float .f64 c) ∧ C3 w (V1.heap.size) (.float .f64 a) (.float .f64 (Op.negFloat .f64 b)) (.float .f64 c)) ⟨(st.box 2 rfl).c3, (st.box 1 rfl).c3⟩ fun hHeld => ?_
        generalize V3.drew = V4 at *
        refine tq 0 ?_; try simp only [Act.put, l1, l2, l3, l4, l5, l6]
        refine tq 2 ?_; try simp only [Act.put, l1, l2, l3, l4, l5, l6]
        refine rd 1 fun K hK => ?_
        have fc0 := (st.box 2 rfl).f3; have fc1 := (st.box 1 rfl).f3
        go_simp
        refine callB st (YU.out _) ?_; clear st fc0 fc1; intro V5 st
        have fc0 := (st.box 2 rfl).f3; have fc1 := (st.box 1 rfl).f3
        try go_wp2_with fail
        clear hHeld fc0 fc1; refine hK.out _ _ ⟨(st.box 2 rfl).c3, (st.box 1 rfl).c3⟩ fun hHeld => ?_; clear hK K
        try simp only [Act.put, l1, l2, l3, l4, l5, l6]
        refine rd 3 fun K hK => ?_
        have fc0 := (st.box 2 rfl).f3; have fc1 := (st.box 1 rfl).f3
        go_simp
        refine callB st (TU.out _) ?_; clear st fc0 fc1; intro V6 st
        have fc0 := (st.box 2 rfl).f3; have fc1 := (st.box 1 rfl).f3
        try go_wp2_with fail
        clear hHeld fc0 fc1; refine hK.out _ _ ⟨(st.box 2 rfl).c3, (st.box 1 rfl).c3⟩ fun hHeld => ?_; clear hK K
        try simp only [Act.put, l1, l2, l3, l4, l5, l6]
        refine tq 4 ?_; try simp only [Act.put, l1, l2, l3, l4, l5, l6]
        refine tq 5 ?_; try simp only [Act.put, l1, l2, l3, l4, l5, l6]
        refine tq 6 ?_; try simp only [Act.put, l1, l2, l3, l4, l5, l6]
        refine tq 8 ?_; try simp only [Act.put, l1, l2, l3, l4, l5, l6]
        refine rd 7 fun K hK => ?_
        have fc0 := (st.box 2 rfl).f3; have fc1 := (st.box 1 rfl).f3
        go_simp
        refine callB st (YA.out _) ?_; clear st fc0 fc1; intro V7 st
        have fc0 := (st.box 2 rfl).f3; have fc1 := (st.box 1 rfl).f3
        try go_wp2_with fail
        clear hHeld fc0 fc1; refine hK.out _ _ ⟨(st.box 2 rfl).c3, (st.box 1 rfl).c3⟩ fun hHeld => ?_; clear hK K
        try simp only [Act.put, l1, l2, l3, l4, l5, l6]
        refine rd 9 fun K hK => ?_
        have fc0 := (st.box 2 rfl).f3; have fc1 := (st.box 1 rfl).f3
        go_simp
        refine callB st (TA.out _) ?_; clear st fc0 fc1; intro V8 st
        have fc0 := (st.box 2 rfl).f3; have fc1 := (st.box 1 rfl).f3
        try go_wp2_with fail
        clear hHeld fc0 fc1; refine hK.out _ _ ⟨(st.box 2 rfl).c3, (st.box 1 rfl).c3⟩ fun hHeld => ?_; clear hK K
        try simp only [Act.put, l1, l2, l3, l4, l5, l6]
        refine tq 10 ?_; try simp only [Act.put, l1, l2, l3, l4, l5, l6]
        refine tq 11 ?_; try simp only [Act.put, l1, l2, l3, l4, l5, l6]
        refine tq 12 ?_; try simp only [Act.put, l1, l2, l3, l4, l5, l6]
        refine tq 13 ?_; try simp only [Act.put, l1, l2, l3, l4, l5, l6]
        refine tq 15 ?_; try simp only [Act.put, l1, l2, l3, l4, l5, l6]
        refine rd 14 fun K hK => ?_
        have fc0 := (st.box 2 rfl).f3; have fc1 := (st.box 1 rfl).f3
        go_simp
        refine callB st (YG.out _) ?_; clear st fc0 fc1; intro V9 st
        have fc0 := (st.box 2 rfl).f3; have fc1 := (st.box 1 rfl).f3
        try go_wp2_with fail
        clear hHeld fc0 fc1; refine hK.out _ _ ⟨(st.box 2 rfl).c3, (st.box 1 rfl).c3⟩ fun hHeld => ?_; clear hK K
        try simp only [Act.put, l1, l2, l3, l4, l5, l6]
        refine rd 16 fun K hK => ?_
        have fc0 := (st.box 2 rfl).f3; have fc1 := (st.box 1 rfl).f3
        go_simp
        refine callB st (TG.out _) ?_; clear st fc0 fc1; intro V10 st
        have fc0 := (st.box 2 rfl).f3; have fc1 := (st.box 1 rfl).f3
        try go_wp2_with fail
        clear hHeld fc0 fc1; refine hK.out _ _ ⟨(st.box 2 rfl).c3, (st.box 1 rfl).c3⟩ fun hHeld => ?_; clear hK K
        try simp only [Act.put, l1, l2, l3, l4, l5, l6]
        refine tq 17 ?_; try simp only [Act.put, l1, l2, l3, l4, l5, l6]
        refine tq 18 ?_; try simp only [Act.put, l1, l2, l3, l4, l5, l6]
        refine tq 19 ?_; try simp only [Act.put, l1, l2, l3, l4, l5, l6]
        refine tq 20 ?_; try simp only [Act.put, l1, l2, l3, l4, l5, l6]
        refine tq 21 ?_; try simp only [Act.put, l1, l2, l3, l4, l5, l6]
        refine tq 22 ?_; try simp only [Act.put, l1, l2, l3, l4, l5, l6]
        refine rd 23 fun K hK => ?_
        have fc0 := (st.box 2 rfl).f3; have fc1 := (st.box 1 rfl).f3
        go_simp
        refine callB st (shown17 _) ?_; clear st fc0 fc1; intro V11 st
        have fc0 := (st.box 2 rfl).f3; have fc1 := (st.box 1 rfl).f3
        try go_wp2_with fail
        clear hHeld fc0 fc1; refine hK.out _ _ ⟨(st.box 2 rfl).c3, (st.box 1 rfl).c3⟩ fun hHeld => ?_; clear hK K
        try simp only [Act.put, l1, l2, l3, l4, l5, l6]
        refine tq 24 ?_; try simp only [Act.put, l1, l2, l3, l4, l5, l6]
        refine tq 25 ?_; try simp only [Act.put, l1, l2, l3, l4, l5, l6]
        refine wpAnyH_done (by kernel_rfl) ?_ _; clear hHeld
        have fc0 := (st.box 2 rfl).f3; have fc1 := (st.box 1 rfl).f3
        go_wp2; go_ret; exact ⟨rfl, st.lo⟩
      · have q0 : (FloatKind.f64.format.order a a == some .eq) = true := (ord_eq (h0) h0).trans (decide_eq_true (by rfl))
        have n0 : (FloatKind.f64.format.order a a != some .eq) = false := nan_no h0
        have q1 : (FloatKind.f64.format.order (Op.negFloat .f64 (Op.negFloat .f64 b)) b == some .eq) = true := (ord_eq ((num_opp hnb).2 ((num_opp hb).2 h1)) h1).trans (decide_eq_true (by rw [fv_opp hnb, fv_opp hb]; omega))
        have n1 : (FloatKind.f64.format.order b b != some .eq) = false := nan_no h1
        have q2 : (FloatKind.f64.format.order c c == some .eq) = false := by rw [show FloatKind.f64.format.order c c = none from order_nan2 h2]; rfl
        have n2 : (FloatKind.f64.format.order c c != some .eq) = true := (nan_iff c).2 h2
        clear h0 h1 h2
        clear ha hb hc hnb
        have st := Bs.in1 W 24 [.float .f64 a, .float .f64 b, .float .f64 c]
        go_enter Try.func4, Try.ntmps4
        have fc0 := (st.box 0 rfl).f3
        go_wp2_with fail; refine callB st (TT.out _) ?_; clear st fc0; intro V1 st
        replace st := st.alloc 24 [.float .f64 a, .float .f64 (Op.negFloat .f64 b), .float .f64 c]
        have fc0 := (st.box 1 rfl).f3; have fc1 := (st.box 0 rfl).f3
        go_wp2_with fail; refine callB st (TT2.out _) ?_; clear st fc0 fc1; intro V2 st
        replace st := st.alloc 24 [.float .f64 a, .float .f64 (Op.negFloat .f64 (Op.negFloat .f64 b)), .float .f64 c]
        have fc0 := (st.box 2 rfl).f3; have fc1 := (st.box 1 rfl).f3; have fc2 := (st.box 0 rfl).f3
        go_wp2_with fail
        clear fc0 fc1 fc2
        replace st := st.name; obtain ⟨V3, hV, st⟩ := st; rw [hV]; clear hV
        have fc0 := (st.box 2 rfl).f3; have fc1 := (st.box 1 rfl).f3; have fc2 := (st.box 0 rfl).f3
        clear fc0 fc1 fc2
        replace st := st.drew
        refine rh (fun w => C3 w (W.heap.size) (.float .f64 a) (.float .f64 b) (.float .f64 c) ∧ C3 w (V1.heap.size) (.float .f64 a) (.float .f64 (Op.negFloat .f64 b)) (.float .f64 c)) ⟨(st.box 2 rfl).c3, (st.box 1 rfl).c3⟩ fun hHeld => ?_
        generalize V3.drew = V4 at *
        refine tq 0 ?_; try simp only [Act.put, l1, l2, l3, l4, l5, l6]
        refine tq 2 ?_; try simp only [Act.put, l1, l2, l3, l4, l5, l6]
        refine rd 1 fun K hK => ?_
        have fc0 := (st.box 2 rfl).f3; have fc1 := (st.box 1 rfl).f3
        go_simp
        refine callB st (YU.out _) ?_; clear st fc0 fc1; intro V5 st
        have fc0 := (st.box 2 rfl).f3; have fc1 := (st.box 1 rfl).f3
        try go_wp2_with fail
        clear hHeld fc0 fc1; refine hK.out _ _ ⟨(st.box 2 rfl).c3, (st.box 1 rfl).c3⟩ fun hHeld => ?_; clear hK K
        try simp only [Act.put, l1, l2, l3, l4, l5, l6]
        refine rd 3 fun K hK => ?_
        have fc0 := (st.box 2 rfl).f3; have fc1 := (st.box 1 rfl).f3
        go_simp
        refine callB st (TU.out _) ?_; clear st fc0 fc1; intro V6 st
        have fc0 := (st.box 2 rfl).f3; have fc1 := (st.box 1 rfl).f3
        try go_wp2_with fail
        clear hHeld fc0 fc1; refine hK.out _ _ ⟨(st.box 2 rfl).c3, (st.box 1 rfl).c3⟩ fun hHeld => ?_; clear hK K
        try simp only [Act.put, l1, l2, l3, l4, l5, l6]
        refine tq 4 ?_; try simp only [Act.put, l1, l2, l3, l4, l5, l6]
        refine tq 5 ?_; try simp only [Act.put, l1, l2, l3, l4, l5, l6]
        refine tq 6 ?_; try simp only [Act.put, l1, l2, l3, l4, l5, l6]
        refine tq 8 ?_; try simp only [Act.put, l1, l2, l3, l4, l5, l6]
        refine rd 7 fun K hK => ?_
        have fc0 := (st.box 2 rfl).f3; have fc1 := (st.box 1 rfl).f3
        go_simp
        refine callB st (YA.out _) ?_; clear st fc0 fc1; intro V7 st
        have fc0 := (st.box 2 rfl).f3; have fc1 := (st.box 1 rfl).f3
        try go_wp2_with fail
        clear hHeld fc0 fc1; refine hK.out _ _ ⟨(st.box 2 rfl).c3, (st.box 1 rfl).c3⟩ fun hHeld => ?_; clear hK K
        try simp only [Act.put, l1, l2, l3, l4, l5, l6]
        refine rd 9 fun K hK => ?_
        have fc0 := (st.box 2 rfl).f3; have fc1 := (st.box 1 rfl).f3
        go_simp
        refine callB st (TA.out _) ?_; clear st fc0 fc1; intro V8 st
        have fc0 := (st.box 2 rfl).f3; have fc1 := (st.box 1 rfl).f3
        try go_wp2_with fail
        clear hHeld fc0 fc1; refine hK.out _ _ ⟨(st.box 2 rfl).c3, (st.box 1 rfl).c3⟩ fun hHeld => ?_; clear hK K
        try simp only [Act.put, l1, l2, l3, l4, l5, l6]
        refine tq 10 ?_; try simp only [Act.put, l1, l2, l3, l4, l5, l6]
        refine tq 11 ?_; try simp only [Act.put, l1, l2, l3, l4, l5, l6]
        refine tq 12 ?_; try simp only [Act.put, l1, l2, l3, l4, l5, l6]
        refine tq 13 ?_; try simp only [Act.put, l1, l2, l3, l4, l5, l6]
        refine tq 15 ?_; try simp only [Act.put, l1, l2, l3, l4, l5, l6]
        refine rd 14 fun K hK => ?_
        have fc0 := (st.box 2 rfl).f3; have fc1 := (st.box 1 rfl).f3
        go_simp
        refine callB st (YG.out _) ?_; clear st fc0 fc1; intro V9 st
        have fc0 := (st.box 2 rfl).f3; have fc1 := (st.box 1 rfl).f3
        try go_wp2_with fail
        clear hHeld fc0 fc1; refine hK.out _ _ ⟨(st.box 2 rfl).c3, (st.box 1 rfl).c3⟩ fun hHeld => ?_; clear hK K
        try simp only [Act.put, l1, l2, l3, l4, l5, l6]
        refine rd 16 fun K hK => ?_
        have fc0 := (st.box 2 rfl).f3; have fc1 := (st.box 1 rfl).f3
        go_simp
        refine callB st (TG.out _) ?_; clear st fc0 fc1; intro V10 st
        have fc0 := (st.box 2 rfl).f3; have fc1 := (st.box 1 rfl).f3
        try go_wp2_with fail
        clear hHeld fc0 fc1; refine hK.out _ _ ⟨(st.box 2 rfl).c3, (st.box 1 rfl).c3⟩ fun hHeld => ?_; clear hK K
        try simp only [Act.put, l1, l2, l3, l4, l5, l6]
        refine tq 17 ?_; try simp only [Act.put, l1, l2, l3, l4, l5, l6]
        refine tq 18 ?_; try simp only [Act.put, l1, l2, l3, l4, l5, l6]
        refine tq 19 ?_; try simp only [Act.put, l1, l2, l3, l4, l5, l6]
        refine tq 20 ?_; try simp only [Act.put, l1, l2, l3, l4, l5, l6]
        refine tq 21 ?_; try simp only [Act.put, l1, l2, l3, l4, l5, l6]
        refine tq 22 ?_; try simp only [Act.put, l1, l2, l3, l4, l5, l6]
        refine rd 23 fun K hK => ?_
        have fc0 := (st.box 2 rfl).f3; have fc1 := (st.box 1 rfl).f3
        go_simp
        refine callB st (shown17 _) ?_; clear st fc0 fc1; intro V11 st
        have fc0 := (st.box 2 rfl).f3; have fc1 := (st.box 1 rfl).f3
        try go_wp2_with fail
        clear hHeld fc0 fc1; refine hK.out _ _ ⟨(st.box 2 rfl).c3, (st.box 1 rfl).c3⟩ fun hHeld => ?_; clear hK K
        try simp only [Act.put, l1, l2, l3, l4, l5, l6]
        refine tq 24 ?_; try simp only [Act.put, l1, l2, l3, l4, l5, l6]
        refine tq 25 ?_; try simp only [Act.put, l1, l2, l3, l4, l5, l6]
        refine wpAnyH_done (by kernel_rfl) ?_ _; clear hHeld
        have fc0 := (st.box 2 rfl).f3; have fc1 := (st.box 1 rfl).f3
        go_wp2; go_ret; exact ⟨rfl, st.lo⟩
    · have q0 : (FloatKind.f64.format.order a a == some .eq) = true := (ord_eq (h0) h0).trans (decide_eq_true (by rfl))
      have n0 : (FloatKind.f64.format.order a a != some .eq) = false := nan_no h0
      have q1 : (FloatKind.f64.format.order (Op.negFloat .f64 (Op.negFloat .f64 b)) b == some .eq) = false := by rw [show FloatKind.f64.format.order (Op.negFloat .f64 (Op.negFloat .f64 b)) b = none from order_nan2 h1]; rfl
      have n1 : (FloatKind.f64.format.order b b != some .eq) = true := (nan_iff b).2 h1
      clear h0 h1
      clear ha hb hc hnb
      have st := Bs.in1 W 24 [.float .f64 a, .float .f64 b, .float .f64 c]
      go_enter Try.func4, Try.ntmps4
      have fc0 := (st.box 0 rfl).f3
      go_wp2_with fail; refine callB st (TT.out _) ?_; clear st fc0; intro V1 st
      replace st := st.alloc 24 [.float .f64 a, .float .f64 (Op.negFloat .f64 b), .float .f64 c]
      have fc0 := (st.box 1 rfl).f3; have fc1 := (st.box 0 rfl).f3
      go_wp2_with fail; refine callB st (TT2.out _) ?_; clear st fc0 fc1; intro V2 st
      replace st := st.alloc 24 [.float .f64 a, .float .f64 (Op.negFloat .f64 (Op.negFloat .f64 b)), .float .f64 c]
      have fc0 := (st.box 2 rfl).f3; have fc1 := (st.box 1 rfl).f3; have fc2 := (st.box 0 rfl).f3
      go_wp2_with fail
      clear fc0 fc1 fc2
      replace st := st.name; obtain ⟨V3, hV, st⟩ := st; rw [hV]; clear hV
      have fc0 := (st.box 2 rfl).f3; have fc1 := (st.box 1 rfl).f3; have fc2 := (st.box 0 rfl).f3
      clear fc0 fc1 fc2
      replace st := st.drew
      refine rh (fun w => C3 w (W.heap.size) (.float .f64 a) (.float .f64 b) (.float .f64 c) ∧ C3 w (V1.heap.size) (.float .f64 a) (.float .f64 (Op.negFloat .f64 b)) (.float .f64 c)) ⟨(st.box 2 rfl).c3, (st.box 1 rfl).c3⟩ fun hHeld => ?_
      generalize V3.drew = V4 at *
      refine tq 0 ?_; try simp only [Act.put, l1, l2, l3, l4, l5, l6]
      refine tq 2 ?_; try simp only [Act.put, l1, l2, l3, l4, l5, l6]
      refine rd 1 fun K hK => ?_
      have fc0 := (st.box 2 rfl).f3; have fc1 := (st.box 1 rfl).f3
      go_simp
      refine callB st (YU.out _) ?_; clear st fc0 fc1; intro V5 st
      have fc0 := (st.box 2 rfl).f3; have fc1 := (st.box 1 rfl).f3
      try go_wp2_with fail
      clear hHeld fc0 fc1; refine hK.out _ _ ⟨(st.box 2 rfl).c3, (st.box 1 rfl).c3⟩ fun hHeld => ?_; clear hK K
      try simp only [Act.put, l1, l2, l3, l4, l5, l6]
      refine rd 3 fun K hK => ?_
      have fc0 := (st.box 2 rfl).f3; have fc1 := (st.box 1 rfl).f3
      go_simp
      refine callB st (TU.out _) ?_; clear st fc0 fc1; intro V6 st
      have fc0 := (st.box 2 rfl).f3; have fc1 := (st.box 1 rfl).f3
      try go_wp2_with fail
      clear hHeld fc0 fc1; refine hK.out _ _ ⟨(st.box 2 rfl).c3, (st.box 1 rfl).c3⟩ fun hHeld => ?_; clear hK K
      try simp only [Act.put, l1, l2, l3, l4, l5, l6]
      refine tq 4 ?_; try simp only [Act.put, l1, l2, l3, l4, l5, l6]
      refine tq 5 ?_; try simp only [Act.put, l1, l2, l3, l4, l5, l6]
      refine tq 6 ?_; try simp only [Act.put, l1, l2, l3, l4, l5, l6]
      refine tq 8 ?_; try simp only [Act.put, l1, l2, l3, l4, l5, l6]
      refine rd 7 fun K hK => ?_
      have fc0 := (st.box 2 rfl).f3; have fc1 := (st.box 1 rfl).f3
      go_simp
      refine callB st (YA.out _) ?_; clear st fc0 fc1; intro V7 st
      have fc0 := (st.box 2 rfl).f3; have fc1 := (st.box 1 rfl).f3
      try go_wp2_with fail
      clear hHeld fc0 fc1; refine hK.out _ _ ⟨(st.box 2 rfl).c3, (st.box 1 rfl).c3⟩ fun hHeld => ?_; clear hK K
      try simp only [Act.put, l1, l2, l3, l4, l5, l6]
      refine rd 9 fun K hK => ?_
      have fc0 := (st.box 2 rfl).f3; have fc1 := (st.box 1 rfl).f3
      go_simp
      refine callB st (TA.out _) ?_; clear st fc0 fc1; intro V8 st
      have fc0 := (st.box 2 rfl).f3; have fc1 := (st.box 1 rfl).f3
      try go_wp2_with fail
      clear hHeld fc0 fc1; refine hK.out _ _ ⟨(st.box 2 rfl).c3, (st.box 1 rfl).c3⟩ fun hHeld => ?_; clear hK K
      try simp only [Act.put, l1, l2, l3, l4, l5, l6]
      refine tq 10 ?_; try simp only [Act.put, l1, l2, l3, l4, l5, l6]
      refine tq 11 ?_; try simp only [Act.put, l1, l2, l3, l4, l5, l6]
      refine tq 12 ?_; try simp only [Act.put, l1, l2, l3, l4, l5, l6]
      refine tq 13 ?_; try simp only [Act.put, l1, l2, l3, l4, l5, l6]
      refine tq 15 ?_; try simp only [Act.put, l1, l2, l3, l4, l5, l6]
      refine rd 14 fun K hK => ?_
      have fc0 := (st.box 2 rfl).f3; have fc1 := (st.box 1 rfl).f3
      go_simp
      refine callB st (YG.out _) ?_; clear st fc0 fc1; intro V9 st
      have fc0 := (st.box 2 rfl).f3; have fc1 := (st.box 1 rfl).f3
      try go_wp2_with fail
      clear hHeld fc0 fc1; refine hK.out _ _ ⟨(st.box 2 rfl).c3, (st.box 1 rfl).c3⟩ fun hHeld => ?_; clear hK K
      try simp only [Act.put, l1, l2, l3, l4, l5, l6]
      refine rd 16 fun K hK => ?_
      have fc0 := (st.box 2 rfl).f3; have fc1 := (st.box 1 rfl).f3
      go_simp
      refine callB st (TG.out _) ?_; clear st fc0 fc1; intro V10 st
      have fc0 := (st.box 2 rfl).f3; have fc1 := (st.box 1 rfl).f3
      try go_wp2_with fail
      clear hHeld fc0 fc1; refine hK.out _ _ ⟨(st.box 2 rfl).c3, (st.box 1 rfl).c3⟩ fun hHeld => ?_; clear hK K
      try simp only [Act.put, l1, l2, l3, l4, l5, l6]
      refine tq 17 ?_; try simp only [Act.put, l1, l2, l3, l4, l5, l6]
      refine tq 18 ?_; try simp only [Act.put, l1, l2, l3, l4, l5, l6]
      refine tq 19 ?_; try simp only [Act.put, l1, l2, l3, l4, l5, l6]
      refine tq 20 ?_; try simp only [Act.put, l1, l2, l3, l4, l5, l6]
      refine tq 21 ?_; try simp only [Act.put, l1, l2, l3, l4, l5, l6]
      refine tq 22 ?_; try simp only [Act.put, l1, l2, l3, l4, l5, l6]
      refine rd 23 fun K hK => ?_
      have fc0 := (st.box 2 rfl).f3; have fc1 := (st.box 1 rfl).f3
      go_simp
      refine callB st (shown17 _) ?_; clear st fc0 fc1; intro V11 st
      have fc0 := (st.box 2 rfl).f3; have fc1 := (st.box 1 rfl).f3
      try go_wp2_with fail
      clear hHeld fc0 fc1; refine hK.out _ _ ⟨(st.box 2 rfl).c3, (st.box 1 rfl).c3⟩ fun hHeld => ?_; clear hK K
      try simp only [Act.put, l1, l2, l3, l4, l5, l6]
      refine tq 24 ?_; try simp only [Act.put, l1, l2, l3, l4, l5, l6]
      refine tq 25 ?_; try simp only [Act.put, l1, l2, l3, l4, l5, l6]
      refine wpAnyH_done (by kernel_rfl) ?_ _; clear hHeld
      have fc0 := (st.box 2 rfl).f3; have fc1 := (st.box 1 rfl).f3
      go_wp2; go_ret; exact ⟨rfl, st.lo⟩
  · have q0 : (FloatKind.f64.format.order a a == some .eq) = false := by rw [show FloatKind.f64.format.order a a = none from order_nan2 h0]; rfl
    have n0 : (FloatKind.f64.format.order a a != some .eq) = true := (nan_iff a).2 h0
    clear h0
    clear ha hb hc hnb
    have st := Bs.in1 W 24 [.float .f64 a, .float .f64 b, .float .f64 c]
    go_enter Try.func4, Try.ntmps4
    have fc0 := (st.box 0 rfl).f3
    go_wp2_with fail; refine callB st (TT.out _) ?_; clear st fc0; intro V1 st
    replace st := st.alloc 24 [.float .f64 a, .float .f64 (Op.negFloat .f64 b), .float .f64 c]
    have fc0 := (st.box 1 rfl).f3; have fc1 := (st.box 0 rfl).f3
    go_wp2_with fail; refine callB st (TT2.out _) ?_; clear st fc0 fc1; intro V2 st
    replace st := st.alloc 24 [.float .f64 a, .float .f64 (Op.negFloat .f64 (Op.negFloat .f64 b)), .float .f64 c]
    have fc0 := (st.box 2 rfl).f3; have fc1 := (st.box 1 rfl).f3; have fc2 := (st.box 0 rfl).f3
    go_wp2_with fail
    clear fc0 fc1 fc2
    replace st := st.name; obtain ⟨V3, hV, st⟩ := st; rw [hV]; clear hV
    have fc0 := (st.box 2 rfl).f3; have fc1 := (st.box 1 rfl).f3; have fc2 := (st.box 0 rfl).f3
    clear fc0 fc1 fc2
    replace st := st.drew
    refine rh (fun w => C3 w (W.heap.size) (.float .f64 a) (.float .f64 b) (.float .f64 c) ∧ C3 w (V1.heap.size) (.float .f64 a) (.float .f64 (Op.negFloat .f64 b)) (.float .f64 c)) ⟨(st.box 2 rfl).c3, (st.box 1 rfl).c3⟩ fun hHeld => ?_
    generalize V3.drew = V4 at *
    refine tq 0 ?_; try simp only [Act.put, l1, l2, l3, l4, l5, l6]
    refine tq 2 ?_; try simp only [Act.put, l1, l2, l3, l4, l5, l6]
    refine rd 1 fun K hK => ?_
    have fc0 := (st.box 2 rfl).f3; have fc1 := (st.box 1 rfl).f3
    go_simp
    refine callB st (YU.out _) ?_; clear st fc0 fc1; intro V5 st
    have fc0 := (st.box 2 rfl).f3; have fc1 := (st.box 1 rfl).f3
    try go_wp2_with fail
    clear hHeld fc0 fc1; refine hK.out _ _ ⟨(st.box 2 rfl).c3, (st.box 1 rfl).c3⟩ fun hHeld => ?_; clear hK K
    try simp only [Act.put, l1, l2, l3, l4, l5, l6]
    refine rd 3 fun K hK => ?_
    have fc0 := (st.box 2 rfl).f3; have fc1 := (st.box 1 rfl).f3
    go_simp
    refine callB st (TU.out _) ?_; clear st fc0 fc1; intro V6 st
    have fc0 := (st.box 2 rfl).f3; have fc1 := (st.box 1 rfl).f3
    try go_wp2_with fail
    clear hHeld fc0 fc1; refine hK.out _ _ ⟨(st.box 2 rfl).c3, (st.box 1 rfl).c3⟩ fun hHeld => ?_; clear hK K
    try simp only [Act.put, l1, l2, l3, l4, l5, l6]
    refine tq 4 ?_; try simp only [Act.put, l1, l2, l3, l4, l5, l6]
    refine tq 5 ?_; try simp only [Act.put, l1, l2, l3, l4, l5, l6]
    refine tq 6 ?_; try simp only [Act.put, l1, l2, l3, l4, l5, l6]
    refine tq 8 ?_; try simp only [Act.put, l1, l2, l3, l4, l5, l6]
    refine rd 7 fun K hK => ?_
    have fc0 := (st.box 2 rfl).f3; have fc1 := (st.box 1 rfl).f3
    go_simp
    refine callB st (YA.out _) ?_; clear st fc0 fc1; intro V7 st
    have fc0 := (st.box 2 rfl).f3; have fc1 := (st.box 1 rfl).f3
    try go_wp2_with fail
    clear hHeld fc0 fc1; refine hK.out _ _ ⟨(st.box 2 rfl).c3, (st.box 1 rfl).c3⟩ fun hHeld => ?_; clear hK K
    try simp only [Act.put, l1, l2, l3, l4, l5, l6]
    refine rd 9 fun K hK => ?_
    have fc0 := (st.box 2 rfl).f3; have fc1 := (st.box 1 rfl).f3
    go_simp
    refine callB st (TA.out _) ?_; clear st fc0 fc1; intro V8 st
    have fc0 := (st.box 2 rfl).f3; have fc1 := (st.box 1 rfl).f3
    try go_wp2_with fail
    clear hHeld fc0 fc1; refine hK.out _ _ ⟨(st.box 2 rfl).c3, (st.box 1 rfl).c3⟩ fun hHeld => ?_; clear hK K
    try simp only [Act.put, l1, l2, l3, l4, l5, l6]
    refine tq 10 ?_; try simp only [Act.put, l1, l2, l3, l4, l5, l6]
    refine tq 11 ?_; try simp only [Act.put, l1, l2, l3, l4, l5, l6]
    refine tq 12 ?_; try simp only [Act.put, l1, l2, l3, l4, l5, l6]
    refine tq 13 ?_; try simp only [Act.put, l1, l2, l3, l4, l5, l6]
    refine tq 15 ?_; try simp only [Act.put, l1, l2, l3, l4, l5, l6]
    refine rd 14 fun K hK => ?_
    have fc0 := (st.box 2 rfl).f3; have fc1 := (st.box 1 rfl).f3
    go_simp
    refine callB st (YG.out _) ?_; clear st fc0 fc1; intro V9 st
    have fc0 := (st.box 2 rfl).f3; have fc1 := (st.box 1 rfl).f3
    try go_wp2_with fail
    clear hHeld fc0 fc1; refine hK.out _ _ ⟨(st.box 2 rfl).c3, (st.box 1 rfl).c3⟩ fun hHeld => ?_; clear hK K
    try simp only [Act.put, l1, l2, l3, l4, l5, l6]
    refine rd 16 fun K hK => ?_
    have fc0 := (st.box 2 rfl).f3; have fc1 := (st.box 1 rfl).f3
    go_simp
    refine callB st (TG.out _) ?_; clear st fc0 fc1; intro V10 st
    have fc0 := (st.box 2 rfl).f3; have fc1 := (st.box 1 rfl).f3
    try go_wp2_with fail
    clear hHeld fc0 fc1; refine hK.out _ _ ⟨(st.box 2 rfl).c3, (st.box 1 rfl).c3⟩ fun hHeld => ?_; clear hK K
    try simp only [Act.put, l1, l2, l3, l4, l5, l6]
    refine tq 17 ?_; try simp only [Act.put, l1, l2, l3, l4, l5, l6]
    refine tq 18 ?_; try simp only [Act.put, l1, l2, l3, l4, l5, l6]
    refine tq 19 ?_; try simp only [Act.put, l1, l2, l3, l4, l5, l6]
    refine tq 20 ?_; try simp only [Act.put, l1, l2, l3, l4, l5, l6]
    refine tq 21 ?_; try simp only [Act.put, l1, l2, l3, l4, l5, l6]
    refine tq 22 ?_; try simp only [Act.put, l1, l2, l3, l4, l5, l6]
    refine rd 23 fun K hK => ?_
    have fc0 := (st.box 2 rfl).f3; have fc1 := (st.box 1 rfl).f3
    go_simp
    refine callB st (shown17 _) ?_; clear st fc0 fc1; intro V11 st
    have fc0 := (st.box 2 rfl).f3; have fc1 := (st.box 1 rfl).f3
    try go_wp2_with fail
    clear hHeld fc0 fc1; refine hK.out _ _ ⟨(st.box 2 rfl).c3, (st.box 1 rfl).c3⟩ fun hHeld => ?_; clear hK K
    try simp only [Act.put, l1, l2, l3, l4, l5, l6]
    refine tq 24 ?_; try simp only [Act.put, l1, l2, l3, l4, l5, l6]
    refine tq 25 ?_; try simp only [Act.put, l1, l2, l3, l4, l5, l6]
    refine wpAnyH_done (by kernel_rfl) ?_ _; clear hHeld
    have fc0 := (st.box 2 rfl).f3; have fc1 := (st.box 1 rfl).f3
    go_wp2; go_ret; exact ⟨rfl, st.lo⟩

theorem own : ownKnob Try.prog.godebug = none := by kernel_rfl

set_option maxRecDepth 100000 in
theorem lifted (os : Os) (started : os.Started) (H : Type) (enc : TypeId × Value → H) :
    ReturnsInHanded {} Try.checked os 4 .any (Rows.voteTurnsSpec.pre6 enc Try.prog Try.f4 Rows.voteTurnsRow.domain false) (Rows.voteTurnsSpec.post enc Try.prog Try.f4 false true false false) := by
  refine returnsInHanded_of_change (C := Try.checked) own started (by kernel_rfl) Try.func4
    (ChangeSpec.witness6 (enc := enc) (C := Try.checked) false ⟨#[], #[.float .f64 0, .float .f64 0, .float .f64 0], []⟩ 8 (by kernel_rfl) (by kernel_rfl) (by kernel_rfl) (by kernel_rfl)) ?_
  intro W base args ds gs before hval hW _ _
  have hW' := hW
  obtain ⟨p, q, hA0, hV, rfl, hfz, hnd⟩ := hW
  have hA : DataW.TrodAll enc Try.prog W 0 (fun _ => true) true Try.f4.params.toList args.toList ds p := hA0
  rw [Try.params4] at hA hval
  obtain ⟨v0, vs0, d0, ds0, p0, q0, hargs, rfl, rfl, h0, r0⟩ := trodAll_cons hA
  obtain ⟨v1, vs1, d1, ds1, p1, q1, rfl, rfl, rfl, h1, r1⟩ := trodAll_cons r0
  obtain ⟨v2, vs2, d2, ds2, p2, q2, rfl, rfl, rfl, h2, r2⟩ := trodAll_cons r1
  obtain ⟨rfl, rfl, rfl⟩ := trodAll_nil r2
  obtain rfl : args = #[v0, v1, v2] := by cases args; simp_all
  obtain ⟨rfl, rfl⟩ := trodVars_none hV
  obtain ⟨a0, rfl, rfl, rfl, w0⟩ := open_float Try.underlying22 (hval 0 22 v0 rfl rfl) h0
  obtain ⟨a1, rfl, rfl, rfl, w1⟩ := open_float Try.underlying22 (hval 1 22 v1 rfl rfl) h1
  obtain ⟨a2, rfl, rfl, rfl, w2⟩ := open_float Try.underlying22 (hval 2 22 v2 rfl rfl) h2
  clear hA0
  simp only [List.append_nil] at hW'
  refine (walk a0 a1 a2 W (float_wf w0) (float_wf w1) (float_wf w2)).mono fun e W' ⟨he, hB⟩ => ?_
  subst he
  exact ⟨_, rfl, ⟨_, _, _, [], _, [], hW', trodAll_cons_mk (shut_bool Try.underlying4 _) trodAll_mk0, (trodAll_cons_mk (shut_float Try.underlying22 w0) (trodAll_cons_mk (shut_float Try.underlying22 w1) (trodAll_cons_mk (shut_float Try.underlying22 w2) trodAll_mk0))), rfl, hB.frame _, fun h => by cases h⟩⟩

theorem holds : Rows.VoteTurnsSaid :=
  OpenClaim.holds_of_wide 4 Try.f4 rfl rfl rfl rfl rfl rfl rfl ⟨rfl, rfl, rfl, rfl, rfl⟩ rfl rfl rfl rfl rfl (by kernel_rfl) Try.func4 (by kernel_rfl)
    (of_decide_eq_true (by kernel_rfl)) (by unfold Func.isWrapper; first | (rw [if_pos (by decide +kernel)]; kernel_rfl) | (rw [if_neg (by decide +kernel)]; exact ⟨rfl, rfl⟩))
    (fun os started H enc _ => lifted os started H enc)
end Go.Proofs.Ytcohbjnfamccjaa.VoteTurns

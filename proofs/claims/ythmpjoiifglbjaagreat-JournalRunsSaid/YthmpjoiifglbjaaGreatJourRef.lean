/- The document's own answers of layer 12 (Put): contracts only. -/
import Derived.Test.YthmpjoiifglbjaaGreatPlanRefB
import Derived.Test.YthmpjoiifglbjaaGreatPowerRefPlay
import Derived.Test.YthmpjoiifglbjaaGreatJourFit
import Derived.Test.YthmpjoiifglbjaaGreatJourOpen
import Derived.WalkKit
import Derived.ProofKit
import Derived.Lib.Hide
import Derived.Deep.RegionHeld3
import Derived.WalkLawsBesides
import Derived.WalkSpells
import Derived.IntWalk
namespace Go.Proofs.YthmpjoiifglbjaaGreat
open Go.RowKit
set_option linter.unusedVariables false
set_option linter.unusedSimpArgs false

set_option maxRecDepth 100000 in
set_option maxHeartbeats 8000000 in
theorem ref12Put (f : Fl) (s : Stp) (W : World) (hf : f.fit) (hs : s.ok) :
    Gives Tryz.prog 9 #[.agg #[.string f.b0, .string f.b1, .int .i64 f.e0, .int .i64 f.e1, .int .i64 f.lim], .agg #[.int .u64 (s.data : Int), .int .i64 s.cut, .string s.mask]] W (.tuple #[.agg #[.string (putJ f s).1.b0, .string (putJ f s).1.b1, .int .i64 (putJ f s).1.e0, .int .i64 (putJ f s).1.e1, .int .i64 (putJ f s).1.lim], .bool (putJ f s).2.1, .int .i64 (putJ f s).2.2]) := by
  have TP := Lib.hid (fun (V : World) => ref11Plan f s.data V hf.ok hs.nd)
  by_cases hE : (planR f s.data).2 = 0
  · have hpo := plan_ops_ok f s.data
    have hfit := fun (l : List PwOp) => play_fit hf l s.cut s.mask
    rw [hE] at TP
    have HP : putJ f s = ((playR f (planR f s.data).1 s.cut s.mask).1, ackB (playR f (planR f s.data).1 s.cut s.mask).1 (playR f (planR f s.data).1 s.cut s.mask).2.1 (planR f s.data).1.length (playR f (planR f s.data).1 s.cut s.mask).2.2 s.data, 0) := if_pos hE
    rw [HP]
    clear HP hE
    generalize (planR f s.data).1 = l at *
    replace hfit := hfit l
    have TY := Lib.hid (fun (A : Option Addr) (c : Nat) (V : World) (h0 : OpsAt V A l) (h1 : l.length ≤ c ∧ c ≤ maxLen) => ref04Play f l A c s.cut s.mask V hf hpo h0 hs.sm h1)
    generalize playR f l s.cut s.mask = R at *
    obtain ⟨g, n, h⟩ := R
    dsimp only at *
    have TR := Lib.hid (fun (V : World) => ref10Read g V hfit.ok)
    have HK := (show ackB g n l.length h s.data = (decide (h = 0) && decide (n = l.length) && decide (pickE g = 0) && decide ((pickS g).data = s.data)) from rfl)
    generalize ackB g n l.length h s.data = K0 at *
    generalize pickE g = e2 at *
    generalize pickS g = p at *
    obtain ⟨pb, pg, pq, px⟩ := p
    dsimp only at *
    replace hfit := Lib.hid hfit
    replace hpo := Lib.hid hpo
    have st := Bs.in3 W 35 [.string f.b0, .string f.b1, .int .i64 f.e0, .int .i64 f.e1, .int .i64 f.lim] 38 [.int .u64 (s.data : Int), .int .i64 s.cut, .string s.mask] 35 [.string ⟨#[]⟩, .string ⟨#[]⟩, .int .i64 0, .int .i64 0, .int .i64 0]
    go_enter Tryz.func9, Tryz.ntmps9
    have fc0 := (st.box 2 rfl).f5; have fc1 := (st.box 1 rfl).f3; have fc2 := (st.box 0 rfl).f5
    go_wp2_with fail; refine (TP.out _).mono ?_; rintro e V1 ⟨A, c, rfl, hA, hc, hk⟩
    clear fc0 fc1 fc2
    replace st := st.seq hk
    clear hk
    have fc0 := (st.box 2 rfl).f5; have fc1 := (st.box 1 rfl).f3; have fc2 := (st.box 0 rfl).f5
    go_wp2_with fail; refine (TY.out A c _ hA hc).mono ?_; rintro e V2 ⟨rfl, hk⟩
    clear fc0 fc1 fc2
    replace st := st.seq hk
    replace hA := hA.seq hk
    clear hk
    clear hA hc
    replace st := st.alloc 35 [.string g.b0, .string g.b1, .int .i64 g.e0, .int .i64 g.e1, .int .i64 g.lim]
    have fc0 := (st.box 0 rfl).f5
    go_wp2_with fail; refine callB st (TR.out _) ?_; clear st fc0; intro V3 st
    replace st := st.alloc 58 [.int .i64 pb, .int .u64 (pg : Int), .int .u64 (pq : Int), .int .u64 (px : Int)]
    have fc0 := (st.box 1 rfl).f5
    go_wp2_with fail
    clear fc0
    replace st := st.name; obtain ⟨V4, hV, st⟩ := st; rw [hV]; clear hV
    by_cases h1 : h = 0
    · subst h1
      by_cases h2 : n = l.length
      · subst h2
        by_cases h3 : e2 = 0
        · subst h3
          by_cases h4 : px = s.data
          · subst h4
            have HK2 : K0 = true := by rw [HK]; simp
            subst HK2
            clear HK
            replace st := st.drew
            refine rh (fun w => C5 w (V2.heap.size) (.string g.b0) (.string g.b1) (.int .i64 g.e0) (.int .i64 g.e1) (.int .i64 g.lim) ∧ C4 w (V3.heap.size) (.int .i64 pb) (.int .u64 (pg : Int)) (.int .u64 (pq : Int)) (.int .u64 (s.data : Int)) ∧ C3 w (W.heap.size + 1) (.int .u64 (s.data : Int)) (.int .i64 s.cut) (.string s.mask)) ⟨(st.box 1 rfl).c5, (st.box 0 rfl).c4, (st.box 3 rfl).c3⟩ fun hHeld => ?_
            generalize V4.drew = V5 at *
            refine tq 0 ?_; try simp only [Act.put, l1, l2, l3, l4, l5, l6]
            refine tq 1 ?_; try simp only [Act.put, l1, l2, l3, l4, l5, l6]
            refine tq 2 ?_; try simp only [Act.put, l1, l2, l3, l4, l5, l6]
            refine tq 3 ?_; try simp only [Act.put, l1, l2, l3, l4, l5, l6]
            refine tq 4 ?_; try simp only [Act.put, l1, l2, l3, l4, l5, l6]
            refine tq 5 ?_; try simp only [Act.put, l1, l2, l3, l4, l5, l6]
            refine tq 6 ?_; try simp only [Act.put, l1, l2, l3, l4, l5, l6]
            refine tq 7 ?_; try simp only [Act.put, l1, l2, l3, l4, l5, l6]
            refine tq 8 ?_; try simp only [Act.put, l1, l2, l3, l4, l5, l6]
            refine tq 9 ?_; try simp only [Act.put, l1, l2, l3, l4, l5, l6]
            refine tq 10 ?_; try simp only [Act.put, l1, l2, l3, l4, l5, l6]
            refine tq 11 ?_; try simp only [Act.put, l1, l2, l3, l4, l5, l6]
            refine tq 12 ?_; try simp only [Act.put, l1, l2, l3, l4, l5, l6]
            refine tq 13 ?_; try simp only [Act.put, l1, l2, l3, l4, l5, l6]
            refine tq 14 ?_; try simp only [Act.put, l1, l2, l3, l4, l5, l6]
            refine tq 15 ?_; try simp only [Act.put, l1, l2, l3, l4, l5, l6]
            refine tq 16 ?_; try simp only [Act.put, l1, l2, l3, l4, l5, l6]
            refine tq 17 ?_; try simp only [Act.put, l1, l2, l3, l4, l5, l6]
            refine tq 18 ?_; try simp only [Act.put, l1, l2, l3, l4, l5, l6]
            refine tq 19 ?_; try simp only [Act.put, l1, l2, l3, l4, l5, l6]
            refine rd 20 fun K hK => ?_
            have fc0 := (st.box 3 rfl).f3; have fc1 := (st.box 2 rfl).f5; have fc2 := (st.box 1 rfl).f5; have fc3 := (st.box 0 rfl).f4
            go_simp
            try go_wp2_with fail
            clear fc0 fc1 fc2 fc3
            replace st := st.put5 2 (.string g.b0) (.string g.b1) (.int .i64 g.e0) (.int .i64 g.e1) (.int .i64 g.lim) rfl; obtain ⟨V6, hV, st⟩ := st; rw [hV]; clear hV
            clear hHeld; refine hK.out _ _ ⟨(st.box 1 rfl).c5, (st.box 0 rfl).c4, (st.box 3 rfl).c3⟩ fun hHeld => ?_; clear hK K
            try simp only [Act.put, l1, l2, l3, l4, l5, l6]
            refine tq 21 ?_; try simp only [Act.put, l1, l2, l3, l4, l5, l6]
            refine tq 22 ?_; try simp only [Act.put, l1, l2, l3, l4, l5, l6]
            refine wpAnyH_done (by kernel_rfl) ?_ _; clear hHeld
            have fc0 := (st.box 3 rfl).f3; have fc1 := (st.box 2 rfl).f5; have fc2 := (st.box 1 rfl).f5; have fc3 := (st.box 0 rfl).f4
            clear fc0 fc1 fc2 fc3
            have fc0 := (st.box 2 rfl).f5
            go_wp2
            exact bodyPost_ret (v := .tuple #[.agg #[.string g.b0, .string g.b1, .int .i64 g.e0, .int .i64 g.e1, .int .i64 g.lim], .bool true, .int .i64 0]) (by simp [results, Tryz.results9, go_sem, fc0]) rfl ⟨rfl, st.lo⟩
          · have m4 : ((px : Int) == (s.data : Int)) = false := beq_eq_false_iff_ne.2 (by omega)
            have HK2 : K0 = false := by rw [HK]; simp [h4]
            subst HK2
            clear HK
            replace st := st.drew
            refine rh (fun w => C5 w (V2.heap.size) (.string g.b0) (.string g.b1) (.int .i64 g.e0) (.int .i64 g.e1) (.int .i64 g.lim) ∧ C4 w (V3.heap.size) (.int .i64 pb) (.int .u64 (pg : Int)) (.int .u64 (pq : Int)) (.int .u64 (px : Int)) ∧ C3 w (W.heap.size + 1) (.int .u64 (s.data : Int)) (.int .i64 s.cut) (.string s.mask)) ⟨(st.box 1 rfl).c5, (st.box 0 rfl).c4, (st.box 3 rfl).c3⟩ fun hHeld => ?_
            generalize V4.drew = V5 at *
            refine tq 0 ?_; try simp only [Act.put, l1, l2, l3, l4, l5, l6]
            refine tq 1 ?_; try simp only [Act.put, l1, l2, l3, l4, l5, l6]
            refine tq 2 ?_; try simp only [Act.put, l1, l2, l3, l4, l5, l6]
            refine tq 3 ?_; try simp only [Act.put, l1, l2, l3, l4, l5, l6]
            refine tq 4 ?_; try simp only [Act.put, l1, l2, l3, l4, l5, l6]
            refine tq 5 ?_; try simp only [Act.put, l1, l2, l3, l4, l5, l6]
            refine tq 6 ?_; try simp only [Act.put, l1, l2, l3, l4, l5, l6]
            refine tq 7 ?_; try simp only [Act.put, l1, l2, l3, l4, l5, l6]
            refine tq 8 ?_; try simp only [Act.put, l1, l2, l3, l4, l5, l6]
            refine tq 9 ?_; try simp only [Act.put, l1, l2, l3, l4, l5, l6]
            refine tq 10 ?_; try simp only [Act.put, l1, l2, l3, l4, l5, l6]
            refine tq 11 ?_; try simp only [Act.put, l1, l2, l3, l4, l5, l6]
            refine tq 12 ?_; try simp only [Act.put, l1, l2, l3, l4, l5, l6]
            refine tq 13 ?_; try simp only [Act.put, l1, l2, l3, l4, l5, l6]
            refine tq 14 ?_; try simp only [Act.put, l1, l2, l3, l4, l5, l6]
            refine tq 15 ?_; try simp only [Act.put, l1, l2, l3, l4, l5, l6]
            refine tq 16 ?_; try simp only [Act.put, l1, l2, l3, l4, l5, l6]
            refine tq 17 ?_; try simp only [Act.put, l1, l2, l3, l4, l5, l6]
            refine tq 18 ?_; try simp only [Act.put, l1, l2, l3, l4, l5, l6]
            refine tq 19 ?_; try simp only [Act.put, l1, l2, l3, l4, l5, l6]
            refine rd 20 fun K hK => ?_
            have fc0 := (st.box 3 rfl).f3; have fc1 := (st.box 2 rfl).f5; have fc2 := (st.box 1 rfl).f5; have fc3 := (st.box 0 rfl).f4
            go_simp
            try go_wp2_with fail
            clear fc0 fc1 fc2 fc3
            replace st := st.put5 2 (.string g.b0) (.string g.b1) (.int .i64 g.e0) (.int .i64 g.e1) (.int .i64 g.lim) rfl; obtain ⟨V6, hV, st⟩ := st; rw [hV]; clear hV
            clear hHeld; refine hK.out _ _ ⟨(st.box 1 rfl).c5, (st.box 0 rfl).c4, (st.box 3 rfl).c3⟩ fun hHeld => ?_; clear hK K
            try simp only [Act.put, l1, l2, l3, l4, l5, l6]
            refine tq 21 ?_; try simp only [Act.put, l1, l2, l3, l4, l5, l6]
            refine tq 22 ?_; try simp only [Act.put, l1, l2, l3, l4, l5, l6]
            refine wpAnyH_done (by kernel_rfl) ?_ _; clear hHeld
            have fc0 := (st.box 3 rfl).f3; have fc1 := (st.box 2 rfl).f5; have fc2 := (st.box 1 rfl).f5; have fc3 := (st.box 0 rfl).f4
            clear fc0 fc1 fc2 fc3
            have fc0 := (st.box 2 rfl).f5
            go_wp2
            exact bodyPost_ret (v := .tuple #[.agg #[.string g.b0, .string g.b1, .int .i64 g.e0, .int .i64 g.e1, .int .i64 g.lim], .bool false, .int .i64 0]) (by simp [results, Tryz.results9, go_sem, fc0]) rfl ⟨rfl, st.lo⟩
        · have m3 : (e2 == 0) = false := beq_eq_false_iff_ne.2 h3
          have HK2 : K0 = false := by rw [HK]; simp [h3]
          subst HK2
          clear HK
          replace st := st.drew
          refine rh (fun w => C5 w (V2.heap.size) (.string g.b0) (.string g.b1) (.int .i64 g.e0) (.int .i64 g.e1) (.int .i64 g.lim) ∧ C4 w (V3.heap.size) (.int .i64 pb) (.int .u64 (pg : Int)) (.int .u64 (pq : Int)) (.int .u64 (px : Int)) ∧ C3 w (W.heap.size + 1) (.int .u64 (s.data : Int)) (.int .i64 s.cut) (.string s.mask)) ⟨(st.box 1 rfl).c5, (st.box 0 rfl).c4, (st.box 3 rfl).c3⟩ fun hHeld => ?_
          generalize V4.drew = V5 at *
          refine tq 0 ?_; try simp only [Act.put, l1, l2, l3, l4, l5, l6]
          refine tq 1 ?_; try simp only [Act.put, l1, l2, l3, l4, l5, l6]
          refine tq 2 ?_; try simp only [Act.put, l1, l2, l3, l4, l5, l6]
          refine tq 3 ?_; try simp only [Act.put, l1, l2, l3, l4, l5, l6]
          refine tq 4 ?_; try simp only [Act.put, l1, l2, l3, l4, l5, l6]
          refine tq 5 ?_; try simp only [Act.put, l1, l2, l3, l4, l5, l6]
          refine tq 6 ?_; try simp only [Act.put, l1, l2, l3, l4, l5, l6]
          refine tq 7 ?_; try simp only [Act.put, l1, l2, l3, l4, l5, l6]
          refine tq 8 ?_; try simp only [Act.put, l1, l2, l3, l4, l5, l6]
          refine tq 9 ?_; try simp only [Act.put, l1, l2, l3, l4, l5, l6]
          refine tq 10 ?_; try simp only [Act.put, l1, l2, l3, l4, l5, l6]
          refine tq 11 ?_; try simp only [Act.put, l1, l2, l3, l4, l5, l6]
          refine tq 12 ?_; try simp only [Act.put, l1, l2, l3, l4, l5, l6]
          refine tq 13 ?_; try simp only [Act.put, l1, l2, l3, l4, l5, l6]
          refine sk 14 ?_; try simp only [Act.put, l1, l2, l3, l4, l5, l6]
          refine sk 15 ?_; try simp only [Act.put, l1, l2, l3, l4, l5, l6]
          refine sk 16 ?_; try simp only [Act.put, l1, l2, l3, l4, l5, l6]
          refine sk 17 ?_; try simp only [Act.put, l1, l2, l3, l4, l5, l6]
          refine sk 18 ?_; try simp only [Act.put, l1, l2, l3, l4, l5, l6]
          refine tq 19 ?_; try simp only [Act.put, l1, l2, l3, l4, l5, l6]
          refine rd 20 fun K hK => ?_
          have fc0 := (st.box 3 rfl).f3; have fc1 := (st.box 2 rfl).f5; have fc2 := (st.box 1 rfl).f5; have fc3 := (st.box 0 rfl).f4
          go_simp
          try go_wp2_with fail
          clear fc0 fc1 fc2 fc3
          replace st := st.put5 2 (.string g.b0) (.string g.b1) (.int .i64 g.e0) (.int .i64 g.e1) (.int .i64 g.lim) rfl; obtain ⟨V6, hV, st⟩ := st; rw [hV]; clear hV
          clear hHeld; refine hK.out _ _ ⟨(st.box 1 rfl).c5, (st.box 0 rfl).c4, (st.box 3 rfl).c3⟩ fun hHeld => ?_; clear hK K
          try simp only [Act.put, l1, l2, l3, l4, l5, l6]
          refine tq 21 ?_; try simp only [Act.put, l1, l2, l3, l4, l5, l6]
          refine tq 22 ?_; try simp only [Act.put, l1, l2, l3, l4, l5, l6]
          refine wpAnyH_done (by kernel_rfl) ?_ _; clear hHeld
          have fc0 := (st.box 3 rfl).f3; have fc1 := (st.box 2 rfl).f5; have fc2 := (st.box 1 rfl).f5; have fc3 := (st.box 0 rfl).f4
          clear fc0 fc1 fc2 fc3
          have fc0 := (st.box 2 rfl).f5
          go_wp2
          exact bodyPost_ret (v := .tuple #[.agg #[.string g.b0, .string g.b1, .int .i64 g.e0, .int .i64 g.e1, .int .i64 g.lim], .bool false, .int .i64 0]) (by simp [results, Tryz.results9, go_sem, fc0]) rfl ⟨rfl, st.lo⟩
      · have m2 : ((n : Int) == (l.length : Int)) = false := beq_eq_false_iff_ne.2 (by omega)
        have HK2 : K0 = false := by rw [HK]; simp [h2]
        subst HK2
        clear HK
        replace st := st.drew
        refine rh (fun w => C5 w (V2.heap.size) (.string g.b0) (.string g.b1) (.int .i64 g.e0) (.int .i64 g.e1) (.int .i64 g.lim) ∧ C4 w (V3.heap.size) (.int .i64 pb) (.int .u64 (pg : Int)) (.int .u64 (pq : Int)) (.int .u64 (px : Int)) ∧ C3 w (W.heap.size + 1) (.int .u64 (s.data : Int)) (.int .i64 s.cut) (.string s.mask)) ⟨(st.box 1 rfl).c5, (st.box 0 rfl).c4, (st.box 3 rfl).c3⟩ fun hHeld => ?_
        generalize V4.drew = V5 at *
        refine tq 0 ?_; try simp only [Act.put, l1, l2, l3, l4, l5, l6]
        refine tq 1 ?_; try simp only [Act.put, l1, l2, l3, l4, l5, l6]
        refine tq 2 ?_; try simp only [Act.put, l1, l2, l3, l4, l5, l6]
        refine tq 3 ?_; try simp only [Act.put, l1, l2, l3, l4, l5, l6]
        refine tq 4 ?_; try simp only [Act.put, l1, l2, l3, l4, l5, l6]
        refine tq 5 ?_; try simp only [Act.put, l1, l2, l3, l4, l5, l6]
        refine tq 6 ?_; try simp only [Act.put, l1, l2, l3, l4, l5, l6]
        refine tq 7 ?_; try simp only [Act.put, l1, l2, l3, l4, l5, l6]
        refine tq 8 ?_; try simp only [Act.put, l1, l2, l3, l4, l5, l6]
        refine tq 9 ?_; try simp only [Act.put, l1, l2, l3, l4, l5, l6]
        refine sk 10 ?_; try simp only [Act.put, l1, l2, l3, l4, l5, l6]
        refine sk 11 ?_; try simp only [Act.put, l1, l2, l3, l4, l5, l6]
        refine tq 12 ?_; try simp only [Act.put, l1, l2, l3, l4, l5, l6]
        refine tq 13 ?_; try simp only [Act.put, l1, l2, l3, l4, l5, l6]
        refine sk 14 ?_; try simp only [Act.put, l1, l2, l3, l4, l5, l6]
        refine sk 15 ?_; try simp only [Act.put, l1, l2, l3, l4, l5, l6]
        refine sk 16 ?_; try simp only [Act.put, l1, l2, l3, l4, l5, l6]
        refine sk 17 ?_; try simp only [Act.put, l1, l2, l3, l4, l5, l6]
        refine sk 18 ?_; try simp only [Act.put, l1, l2, l3, l4, l5, l6]
        refine tq 19 ?_; try simp only [Act.put, l1, l2, l3, l4, l5, l6]
        refine rd 20 fun K hK => ?_
        have fc0 := (st.box 3 rfl).f3; have fc1 := (st.box 2 rfl).f5; have fc2 := (st.box 1 rfl).f5; have fc3 := (st.box 0 rfl).f4
        go_simp
        try go_wp2_with fail
        clear fc0 fc1 fc2 fc3
        replace st := st.put5 2 (.string g.b0) (.string g.b1) (.int .i64 g.e0) (.int .i64 g.e1) (.int .i64 g.lim) rfl; obtain ⟨V6, hV, st⟩ := st; rw [hV]; clear hV
        clear hHeld; refine hK.out _ _ ⟨(st.box 1 rfl).c5, (st.box 0 rfl).c4, (st.box 3 rfl).c3⟩ fun hHeld => ?_; clear hK K
        try simp only [Act.put, l1, l2, l3, l4, l5, l6]
        refine tq 21 ?_; try simp only [Act.put, l1, l2, l3, l4, l5, l6]
        refine tq 22 ?_; try simp only [Act.put, l1, l2, l3, l4, l5, l6]
        refine wpAnyH_done (by kernel_rfl) ?_ _; clear hHeld
        have fc0 := (st.box 3 rfl).f3; have fc1 := (st.box 2 rfl).f5; have fc2 := (st.box 1 rfl).f5; have fc3 := (st.box 0 rfl).f4
        clear fc0 fc1 fc2 fc3
        have fc0 := (st.box 2 rfl).f5
        go_wp2
        exact bodyPost_ret (v := .tuple #[.agg #[.string g.b0, .string g.b1, .int .i64 g.e0, .int .i64 g.e1, .int .i64 g.lim], .bool false, .int .i64 0]) (by simp [results, Tryz.results9, go_sem, fc0]) rfl ⟨rfl, st.lo⟩
    · have m1 : (h == 0) = false := beq_eq_false_iff_ne.2 h1
      have HK2 : K0 = false := by rw [HK]; simp [h1]
      subst HK2
      clear HK
      replace st := st.drew
      refine rh (fun w => C5 w (V2.heap.size) (.string g.b0) (.string g.b1) (.int .i64 g.e0) (.int .i64 g.e1) (.int .i64 g.lim) ∧ C4 w (V3.heap.size) (.int .i64 pb) (.int .u64 (pg : Int)) (.int .u64 (pq : Int)) (.int .u64 (px : Int)) ∧ C3 w (W.heap.size + 1) (.int .u64 (s.data : Int)) (.int .i64 s.cut) (.string s.mask)) ⟨(st.box 1 rfl).c5, (st.box 0 rfl).c4, (st.box 3 rfl).c3⟩ fun hHeld => ?_
      generalize V4.drew = V5 at *
      refine tq 0 ?_; try simp only [Act.put, l1, l2, l3, l4, l5, l6]
      refine tq 1 ?_; try simp only [Act.put, l1, l2, l3, l4, l5, l6]
      refine tq 2 ?_; try simp only [Act.put, l1, l2, l3, l4, l5, l6]
      refine tq 3 ?_; try simp only [Act.put, l1, l2, l3, l4, l5, l6]
      refine sk 4 ?_; try simp only [Act.put, l1, l2, l3, l4, l5, l6]
      refine sk 5 ?_; try simp only [Act.put, l1, l2, l3, l4, l5, l6]
      refine sk 6 ?_; try simp only [Act.put, l1, l2, l3, l4, l5, l6]
      refine sk 7 ?_; try simp only [Act.put, l1, l2, l3, l4, l5, l6]
      refine tq 8 ?_; try simp only [Act.put, l1, l2, l3, l4, l5, l6]
      refine tq 9 ?_; try simp only [Act.put, l1, l2, l3, l4, l5, l6]
      refine sk 10 ?_; try simp only [Act.put, l1, l2, l3, l4, l5, l6]
      refine sk 11 ?_; try simp only [Act.put, l1, l2, l3, l4, l5, l6]
      refine tq 12 ?_; try simp only [Act.put, l1, l2, l3, l4, l5, l6]
      refine tq 13 ?_; try simp only [Act.put, l1, l2, l3, l4, l5, l6]
      refine sk 14 ?_; try simp only [Act.put, l1, l2, l3, l4, l5, l6]
      refine sk 15 ?_; try simp only [Act.put, l1, l2, l3, l4, l5, l6]
      refine sk 16 ?_; try simp only [Act.put, l1, l2, l3, l4, l5, l6]
      refine sk 17 ?_; try simp only [Act.put, l1, l2, l3, l4, l5, l6]
      refine sk 18 ?_; try simp only [Act.put, l1, l2, l3, l4, l5, l6]
      refine tq 19 ?_; try simp only [Act.put, l1, l2, l3, l4, l5, l6]
      refine rd 20 fun K hK => ?_
      have fc0 := (st.box 3 rfl).f3; have fc1 := (st.box 2 rfl).f5; have fc2 := (st.box 1 rfl).f5; have fc3 := (st.box 0 rfl).f4
      go_simp
      try go_wp2_with fail
      clear fc0 fc1 fc2 fc3
      replace st := st.put5 2 (.string g.b0) (.string g.b1) (.int .i64 g.e0) (.int .i64 g.e1) (.int .i64 g.lim) rfl; obtain ⟨V6, hV, st⟩ := st; rw [hV]; clear hV
      clear hHeld; refine hK.out _ _ ⟨(st.box 1 rfl).c5, (st.box 0 rfl).c4, (st.box 3 rfl).c3⟩ fun hHeld => ?_; clear hK K
      try simp only [Act.put, l1, l2, l3, l4, l5, l6]
      refine tq 21 ?_; try simp only [Act.put, l1, l2, l3, l4, l5, l6]
      refine tq 22 ?_; try simp only [Act.put, l1, l2, l3, l4, l5, l6]
      refine wpAnyH_done (by kernel_rfl) ?_ _; clear hHeld
      have fc0 := (st.box 3 rfl).f3; have fc1 := (st.box 2 rfl).f5; have fc2 := (st.box 1 rfl).f5; have fc3 := (st.box 0 rfl).f4
      clear fc0 fc1 fc2 fc3
      have fc0 := (st.box 2 rfl).f5
      go_wp2
      exact bodyPost_ret (v := .tuple #[.agg #[.string g.b0, .string g.b1, .int .i64 g.e0, .int .i64 g.e1, .int .i64 g.lim], .bool false, .int .i64 0]) (by simp [results, Tryz.results9, go_sem, fc0]) rfl ⟨rfl, st.lo⟩
  · have HP : putJ f s = (f, false, (planR f s.data).2) := if_neg hE
    rw [HP]
    have m1 : ((planR f s.data).2 != 0) = true := bne_iff_ne.2 hE
    clear HP hE
    generalize (planR f s.data).2 = E at *
    have st := Bs.in3 W 35 [.string f.b0, .string f.b1, .int .i64 f.e0, .int .i64 f.e1, .int .i64 f.lim] 38 [.int .u64 (s.data : Int), .int .i64 s.cut, .string s.mask] 35 [.string ⟨#[]⟩, .string ⟨#[]⟩, .int .i64 0, .int .i64 0, .int .i64 0]
    go_enter Tryz.func9, Tryz.ntmps9
    have fc0 := (st.box 2 rfl).f5; have fc1 := (st.box 1 rfl).f3; have fc2 := (st.box 0 rfl).f5
    go_wp2_with fail; refine (TP.out _).mono ?_; rintro e V1 ⟨A, c, rfl, hA, hc, hk⟩
    clear fc0 fc1 fc2
    replace st := st.seq hk
    clear hk
    have fc0 := (st.box 2 rfl).f5; have fc1 := (st.box 1 rfl).f3; have fc2 := (st.box 0 rfl).f5
    clear hA hc
    go_wp2
    clear fc0 fc1 fc2
    replace st := st.put5 0 (.string f.b0) (.string f.b1) (.int .i64 f.e0) (.int .i64 f.e1) (.int .i64 f.lim) rfl; obtain ⟨V2, hV, st⟩ := st; rw [hV]; clear hV
    have fc0 := (st.box 2 rfl).f5; have fc1 := (st.box 1 rfl).f3; have fc2 := (st.box 0 rfl).f5
    exact bodyPost_ret (v := .tuple #[.agg #[.string f.b0, .string f.b1, .int .i64 f.e0, .int .i64 f.e1, .int .i64 f.lim], .bool false, .int .i64 E]) (by simp [results, Tryz.results9, go_sem, fc0, fc1, fc2]) rfl ⟨rfl, st.lo⟩

end Go.Proofs.YthmpjoiifglbjaaGreat

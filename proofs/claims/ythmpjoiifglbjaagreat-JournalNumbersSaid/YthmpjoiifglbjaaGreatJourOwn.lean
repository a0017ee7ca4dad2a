/- The program's Run: contracts only. -/
import Derived.Test.YthmpjoiifglbjaaGreatPowerOwn
import Derived.Test.YthmpjoiifglbjaaGreatPickOwn
import Derived.Test.YthmpjoiifglbjaaGreatJourFit
import Derived.Test.YthmpjoiifglbjaaGreatJourOpen
import Derived.Test.YthmpjoiifglbjaaGreatBs
import Derived.WalkKit
import Derived.ProofKit
import Derived.Lib.Hide
import Derived.Deep.RegionHeld3
import Derived.WalkLawsBesides
import Derived.WalkSpells
import Derived.IntWalk
import Derived.Test.YthmpjoiifglbjaaGreatPlanOwn
namespace Go.Proofs.YthmpjoiifglbjaaGreat
open Go.RowKit
set_option linter.unusedVariables false
set_option linter.unusedSimpArgs false

theorem playG_whole (cut : Int) (m : ByteArray) : ∀ (l : List PwOp) (f : Fl) (i : Nat), (playG cut m l f i).2.1 = i + l.length → (playG cut m l f i).2.2 = 0
  | [], f, i, _ => rfl
  | o :: l, f, i, h => by
    unfold playG at h ⊢
    rw [List.length_cons] at h
    by_cases hc : (i : Int) = cut
    · rw [if_pos hc] at h; dsimp only at h; omega
    · rw [if_neg hc] at h ⊢
      by_cases he : doErr f o = 0
      · rw [if_pos he] at h ⊢; exact playG_whole cut m l _ (i + 1) (by omega)
      · rw [if_neg he] at h; dsimp only at h; omega
theorem playR_whole {f : Fl} {l : List PwOp} {cut : Int} {m : ByteArray} (h : (playR f l cut m).2.1 = l.length) : (playR f l cut m).2.2 = 0 := playG_whole cut m l f 0 (by rw [Nat.zero_add]; exact h)

theorem Bs.gain {W V V' : World} {L : Bl} {t : TypeId} {B : Nat} {vs : List Value} (h : Bs W V L) (k : Below V.heap.size V V') (x : Box t V' B vs) (hB : V.heap.size ≤ B) : Bs W V' ((t, B, vs) :: L) := by
  have h2 := h.seq k
  refine ⟨h2.1, fun y hy => ?_, ?_⟩
  · rcases List.mem_cons.1 hy with rfl | hy
    · exact ⟨x, Nat.le_trans h.1.size hB⟩
    · exact h2.2.1 y hy
  · rw [List.map_cons, List.nodup_cons]
    refine ⟨fun hm => ?_, h2.2.2⟩
    obtain ⟨y, hy, e⟩ := List.mem_map.1 hm
    have := (h.2.1 y hy).1.lt; simp only at e; omega

set_option maxRecDepth 100000 in
set_option maxHeartbeats 8000000 in
theorem own12ask (f : Fl) (W : World) (hf : f.ok) :
    Gives Tryz.prog 24 #[.agg #[.string f.b0, .string f.b1, .int .i64 f.e0, .int .i64 f.e1, .int .i64 f.lim]] W (.agg #[.int .i64 (pickS f).bank, .int .u64 ((pickS f).gen : Int), .int .u64 ((pickS f).seq : Int), .int .u64 ((pickS f).data : Int), .int .i64 (pickE f)]) := by
  have TR := Lib.hid (fun (V : World) => own10Read f V hf)
  generalize pickE f = e2 at *
  generalize pickS f = p at *
  clear hf
  have st := Bs.in2 W 25 [.string f.b0, .string f.b1, .int .i64 f.e0, .int .i64 f.e1, .int .i64 f.lim] 69 [.int .i64 0, .int .u64 0, .int .u64 0, .int .u64 0, .int .i64 0]
  go_enter Tryz.func24, Tryz.ntmps24
  have fc0 := (st.box 1 rfl).f5; have fc1 := (st.box 0 rfl).f5
  go_wp2_with fail; refine callB st (TR.out _) ?_; clear st fc0 fc1; intro V1 st
  have fc0 := (st.box 1 rfl).f5; have fc1 := (st.box 0 rfl).f5
  replace st := st.alloc 67 [.int .i64 p.bank, .int .u64 (p.gen : Int), .int .u64 (p.seq : Int), .int .u64 (p.data : Int)]
  replace fc0 := (st.box 2 rfl).f5; replace fc1 := (st.box 1 rfl).f5; have fc2 := (st.box 0 rfl).f4
  go_wp2
  clear fc0 fc1 fc2
  replace st := st.put5 1 (.int .i64 p.bank) (.int .u64 (p.gen : Int)) (.int .u64 (p.seq : Int)) (.int .u64 (p.data : Int)) (.int .i64 e2) rfl; obtain ⟨V2, hV, st⟩ := st; rw [hV]; clear hV
  have fc0 := (st.box 2 rfl).f5; have fc1 := (st.box 1 rfl).f5; have fc2 := (st.box 0 rfl).f4
  exact bodyPost_ret (v := .agg #[.int .i64 p.bank, .int .u64 (p.gen : Int), .int .u64 (p.seq : Int), .int .u64 (p.data : Int), .int .i64 e2]) (by simp [results, Tryz.results24, go_sem, fc0, fc1, fc2]) rfl ⟨rfl, st.lo⟩

set_option maxRecDepth 100000 in
set_option maxHeartbeats 8000000 in
theorem own12tells (p : Pk) (e : Int) (d : Nat) (W : World) :
    Gives Tryz.prog 25 #[.agg #[.int .i64 p.bank, .int .u64 (p.gen : Int), .int .u64 (p.seq : Int), .int .u64 (p.data : Int), .int .i64 e], .int .u64 (d : Int)] W (.bool (decide (e = 0) && decide (p.data = d))) := by
  obtain ⟨pb, pg, pq, px⟩ := p
  dsimp only
  by_cases h : e = 0
  · subst h
    by_cases h2 : px = d
    · subst h2
      rw [show (decide ((0 : Int) = 0) && decide (px = px)) = true from by simp]
      have st := Bs.in1 W 69 [.int .i64 pb, .int .u64 (pg : Int), .int .u64 (pq : Int), .int .u64 (px : Int), .int .i64 0]
      go_enter Tryz.func25, Tryz.ntmps25
      have fc0 := (st.box 0 rfl).f5
      go_wp2_with fail
      clear fc0
      go_ret; exact ⟨rfl, st.lo⟩
    · have m2 : ((px : Int) == (d : Int)) = false := beq_eq_false_iff_ne.2 (by omega)
      rw [show (decide ((0 : Int) = 0) && decide (px = d)) = false from by simp [h2]]
      clear h2
      have st := Bs.in1 W 69 [.int .i64 pb, .int .u64 (pg : Int), .int .u64 (pq : Int), .int .u64 (px : Int), .int .i64 0]
      go_enter Tryz.func25, Tryz.ntmps25
      have fc0 := (st.box 0 rfl).f5
      go_wp2_with fail
      clear fc0
      go_ret; exact ⟨rfl, st.lo⟩
  · have m2 : (e == 0) = false := beq_eq_false_iff_ne.2 h
    rw [show (decide (e = 0) && decide (px = d)) = false from by simp [h]]
    clear h
    have st := Bs.in1 W 69 [.int .i64 pb, .int .u64 (pg : Int), .int .u64 (pq : Int), .int .u64 (px : Int), .int .i64 e]
    go_enter Tryz.func25, Tryz.ntmps25
    have fc0 := (st.box 0 rfl).f5
    go_wp2_with fail
    clear fc0
    go_ret; exact ⟨rfl, st.lo⟩

end Go.Proofs.YthmpjoiifglbjaaGreat
namespace Go.Proofs.YthmpjoiifglbjaaGreat
open Go.RowKit
set_option linter.unusedVariables false
set_option linter.unusedSimpArgs false

set_option maxRecDepth 100000 in
set_option maxHeartbeats 8000000 in
theorem own12Put (f : Fl) (s : Stp) (W : World) (hf : f.fit) (hs : s.ok) :
    Gives Tryz.prog 8 #[.agg #[.string f.b0, .string f.b1, .int .i64 f.e0, .int .i64 f.e1, .int .i64 f.lim], .agg #[.int .u64 (s.data : Int), .int .i64 s.cut, .string s.mask]] W (.tuple #[.agg #[.string (putJ f s).1.b0, .string (putJ f s).1.b1, .int .i64 (putJ f s).1.e0, .int .i64 (putJ f s).1.e1, .int .i64 (putJ f s).1.lim], .bool (putJ f s).2.1, .int .i64 (putJ f s).2.2]) := by
  have TP := Lib.hid (fun (V : World) => own11Plan f s.data V hf.ok hs.nd)
  by_cases hE : (planR f s.data).2 = 0
  · have hpo := plan_ops_ok f s.data
    have hfit := fun (l : List PwOp) => play_fit hf l s.cut s.mask
    have hw := fun (l : List PwOp) => playR_whole (f := f) (l := l) (cut := s.cut) (m := s.mask)
    rw [hE] at TP
    have HP : putJ f s = ((playR f (planR f s.data).1 s.cut s.mask).1, ackB (playR f (planR f s.data).1 s.cut s.mask).1 (playR f (planR f s.data).1 s.cut s.mask).2.1 (planR f s.data).1.length (playR f (planR f s.data).1 s.cut s.mask).2.2 s.data, 0) := if_pos hE
    rw [HP]
    clear HP hE
    generalize (planR f s.data).1 = l at *
    replace hfit := hfit l
    replace hw := hw l
    have TY := Lib.hid (fun (A : Option Addr) (c : Nat) (V : World) (h0 : OpsAt V A l) (h1 : l.length ≤ c ∧ c ≤ maxLen) => own04Play f l A c s.cut s.mask V hf hpo h0 hs.sm h1)
    generalize playR f l s.cut s.mask = R at *
    obtain ⟨g, n, h⟩ := R
    dsimp only at *
    have TA := Lib.hid (fun (V : World) => own12ask g V hfit.ok)
    have TT := Lib.hid (fun (V : World) => own12tells (pickS g) (pickE g) s.data V)
    have HK := (show ackB g n l.length h s.data = (decide (h = 0) && decide (n = l.length) && decide (pickE g = 0) && decide ((pickS g).data = s.data)) from rfl)
    generalize ackB g n l.length h s.data = K0 at *
    generalize pickE g = e2 at *
    generalize pickS g = p at *
    replace hfit := Lib.hid hfit
    replace hpo := Lib.hid hpo
    have st := Bs.in3 W 25 [.string f.b0, .string f.b1, .int .i64 f.e0, .int .i64 f.e1, .int .i64 f.lim] 28 [.int .u64 (s.data : Int), .int .i64 s.cut, .string s.mask] 25 [.string ⟨#[]⟩, .string ⟨#[]⟩, .int .i64 0, .int .i64 0, .int .i64 0]
    go_enter Tryz.func8, Tryz.ntmps8
    have fc0 := (st.box 2 rfl).f5; have fc1 := (st.box 1 rfl).f3; have fc2 := (st.box 0 rfl).f5
    go_wp2_with fail; refine (TP.out _).mono ?_; rintro e V1 ⟨A, c, rfl, hA, hc, hk⟩
    clear fc0 fc1 fc2
    replace st := st.seq hk
    clear hk
    have fc0 := (st.box 2 rfl).f5; have fc1 := (st.box 1 rfl).f3; have fc2 := (st.box 0 rfl).f5
    go_wp2_with fail; refine (TY.out A c _ hA hc).mono ?_; rintro e V2 ⟨rfl, hk⟩
    clear fc0 fc1 fc2
    replace st := st.seq hk
    replace hA := hA.seq hk
    clear hk
    have fc0 := (st.box 2 rfl).f5; have fc1 := (st.box 1 rfl).f3; have fc2 := (st.box 0 rfl).f5
    clear hA hc
    go_wp2_with fail
    clear fc0 fc1 fc2
    replace st := st.put5 2 (.string g.b0) (.string g.b1) (.int .i64 g.e0) (.int .i64 g.e1) (.int .i64 g.lim) rfl; obtain ⟨V3, hV, st⟩ := st; rw [hV]; clear hV
    have fc0 := (st.box 2 rfl).f5; have fc1 := (st.box 1 rfl).f3; have fc2 := (st.box 0 rfl).f5
    by_cases h2 : n = l.length
    · subst h2
      rw [hw rfl, show (decide ((0 : Int) = 0) && decide (l.length = l.length) && decide (e2 = 0) && decide (p.data = s.data)) = (decide (e2 = 0) && decide (p.data = s.data)) from by simp] at HK
      rw [← HK] at TT
      clear hw HK
      clear fc0 fc1 fc2
      replace st := st.drew
      refine rh (fun w => C5 w (W.heap.size) (.string g.b0) (.string g.b1) (.int .i64 g.e0) (.int .i64 g.e1) (.int .i64 g.lim) ∧ C3 w (W.heap.size + 1) (.int .u64 (s.data : Int)) (.int .i64 s.cut) (.string s.mask)) ⟨(st.box 2 rfl).c5, (st.box 1 rfl).c3⟩ fun hHeld => ?_
      generalize V3.drew = V4 at *
      refine tq 0 ?_; try simp only [Act.put, l1, l2, l3, l4, l5, l6]
      refine tq 1 ?_; try simp only [Act.put, l1, l2, l3, l4, l5, l6]
      refine tq 2 ?_; try simp only [Act.put, l1, l2, l3, l4, l5, l6]
      refine tq 3 ?_; try simp only [Act.put, l1, l2, l3, l4, l5, l6]
      refine tq 4 ?_; try simp only [Act.put, l1, l2, l3, l4, l5, l6]
      refine tq 5 ?_; try simp only [Act.put, l1, l2, l3, l4, l5, l6]
      refine tq 6 ?_; try simp only [Act.put, l1, l2, l3, l4, l5, l6]
      refine tq 8 ?_; try simp only [Act.put, l1, l2, l3, l4, l5, l6]
      refine tq 9 ?_; try simp only [Act.put, l1, l2, l3, l4, l5, l6]
      refine rd 7 fun K hK => ?_
      have fc0 := (st.box 2 rfl).f5; have fc1 := (st.box 1 rfl).f3; have fc2 := (st.box 0 rfl).f5
      go_simp
      refine callB st (TA.out _) ?_; clear st fc0 fc1 fc2; intro V5 st
      have fc0 := (st.box 2 rfl).f5; have fc1 := (st.box 1 rfl).f3; have fc2 := (st.box 0 rfl).f5
      try go_wp2_with fail
      clear hHeld fc0 fc1 fc2; refine hK.out _ _ ⟨(st.box 2 rfl).c5, (st.box 1 rfl).c3⟩ fun hHeld => ?_; clear hK K
      try simp only [Act.put, l1, l2, l3, l4, l5, l6]
      refine rd 10 fun K hK => ?_
      have fc0 := (st.box 2 rfl).f5; have fc1 := (st.box 1 rfl).f3; have fc2 := (st.box 0 rfl).f5
      go_simp
      refine callB st (TT.out _) ?_; clear st fc0 fc1 fc2; intro V6 st
      have fc0 := (st.box 2 rfl).f5; have fc1 := (st.box 1 rfl).f3; have fc2 := (st.box 0 rfl).f5
      try go_wp2_with fail
      clear hHeld fc0 fc1 fc2; refine hK.out _ _ ⟨(st.box 2 rfl).c5, (st.box 1 rfl).c3⟩ fun hHeld => ?_; clear hK K
      try simp only [Act.put, l1, l2, l3, l4, l5, l6]
      refine tq 11 ?_; try simp only [Act.put, l1, l2, l3, l4, l5, l6]
      refine rd 12 fun K hK => ?_
      have fc0 := (st.box 2 rfl).f5; have fc1 := (st.box 1 rfl).f3; have fc2 := (st.box 0 rfl).f5
      go_simp
      try go_wp2_with fail
      clear fc0 fc1 fc2
      replace st := st.put5 0 (.string g.b0) (.string g.b1) (.int .i64 g.e0) (.int .i64 g.e1) (.int .i64 g.lim) rfl; obtain ⟨V7, hV, st⟩ := st; rw [hV]; clear hV
      clear hHeld; refine hK.out _ _ ⟨(st.box 2 rfl).c5, (st.box 1 rfl).c3⟩ fun hHeld => ?_; clear hK K
      try simp only [Act.put, l1, l2, l3, l4, l5, l6]
      refine tq 13 ?_; try simp only [Act.put, l1, l2, l3, l4, l5, l6]
      refine tq 14 ?_; try simp only [Act.put, l1, l2, l3, l4, l5, l6]
      refine wpAnyH_done (by kernel_rfl) ?_ _; clear hHeld
      have fc0 := (st.box 2 rfl).f5; have fc1 := (st.box 1 rfl).f3; have fc2 := (st.box 0 rfl).f5
      clear fc0 fc1 fc2
      have fc0 := (st.box 0 rfl).f5
      go_wp2
      exact bodyPost_ret (v := .tuple #[.agg #[.string g.b0, .string g.b1, .int .i64 g.e0, .int .i64 g.e1, .int .i64 g.lim], .bool K0, .int .i64 0]) (by simp [results, Tryz.results8, go_sem, fc0]) rfl ⟨rfl, st.lo⟩
    · have m2 : ((n : Int) == (l.length : Int)) = false := beq_eq_false_iff_ne.2 (by omega)
      have HK2 : K0 = false := by rw [HK]; simp [h2]
      subst HK2
      clear HK hw h2
      clear fc0 fc1 fc2
      replace st := st.drew
      refine rh (fun w => C5 w (W.heap.size) (.string g.b0) (.string g.b1) (.int .i64 g.e0) (.int .i64 g.e1) (.int .i64 g.lim) ∧ C3 w (W.heap.size + 1) (.int .u64 (s.data : Int)) (.int .i64 s.cut) (.string s.mask)) ⟨(st.box 2 rfl).c5, (st.box 1 rfl).c3⟩ fun hHeld => ?_
      generalize V3.drew = V4 at *
      refine tq 0 ?_; try simp only [Act.put, l1, l2, l3, l4, l5, l6]
      refine tq 1 ?_; try simp only [Act.put, l1, l2, l3, l4, l5, l6]
      refine tq 2 ?_; try simp only [Act.put, l1, l2, l3, l4, l5, l6]
      refine tq 3 ?_; try simp only [Act.put, l1, l2, l3, l4, l5, l6]
      refine tq 4 ?_; try simp only [Act.put, l1, l2, l3, l4, l5, l6]
      refine tq 5 ?_; try simp only [Act.put, l1, l2, l3, l4, l5, l6]
      refine sk 6 ?_; try simp only [Act.put, l1, l2, l3, l4, l5, l6]
      refine sk 7 ?_; try simp only [Act.put, l1, l2, l3, l4, l5, l6]
      refine sk 8 ?_; try simp only [Act.put, l1, l2, l3, l4, l5, l6]
      refine sk 9 ?_; try simp only [Act.put, l1, l2, l3, l4, l5, l6]
      refine sk 10 ?_; try simp only [Act.put, l1, l2, l3, l4, l5, l6]
      refine tq 11 ?_; try simp only [Act.put, l1, l2, l3, l4, l5, l6]
      refine rd 12 fun K hK => ?_
      have fc0 := (st.box 2 rfl).f5; have fc1 := (st.box 1 rfl).f3; have fc2 := (st.box 0 rfl).f5
      go_simp
      try go_wp2_with fail
      clear fc0 fc1 fc2
      replace st := st.put5 0 (.string g.b0) (.string g.b1) (.int .i64 g.e0) (.int .i64 g.e1) (.int .i64 g.lim) rfl; obtain ⟨V5, hV, st⟩ := st; rw [hV]; clear hV
      clear hHeld; refine hK.out _ _ ⟨(st.box 2 rfl).c5, (st.box 1 rfl).c3⟩ fun hHeld => ?_; clear hK K
      try simp only [Act.put, l1, l2, l3, l4, l5, l6]
      refine tq 13 ?_; try simp only [Act.put, l1, l2, l3, l4, l5, l6]
      refine tq 14 ?_; try simp only [Act.put, l1, l2, l3, l4, l5, l6]
      refine wpAnyH_done (by kernel_rfl) ?_ _; clear hHeld
      have fc0 := (st.box 2 rfl).f5; have fc1 := (st.box 1 rfl).f3; have fc2 := (st.box 0 rfl).f5
      clear fc0 fc1 fc2
      have fc0 := (st.box 0 rfl).f5
      go_wp2
      exact bodyPost_ret (v := .tuple #[.agg #[.string g.b0, .string g.b1, .int .i64 g.e0, .int .i64 g.e1, .int .i64 g.lim], .bool false, .int .i64 0]) (by simp [results, Tryz.results8, go_sem, fc0]) rfl ⟨rfl, st.lo⟩
  · have HP : putJ f s = (f, false, (planR f s.data).2) := if_neg hE
    rw [HP]
    have m1 : ((planR f s.data).2 != 0) = true := bne_iff_ne.2 hE
    clear HP hE
    generalize (planR f s.data).2 = E at *
    have st := Bs.in3 W 25 [.string f.b0, .string f.b1, .int .i64 f.e0, .int .i64 f.e1, .int .i64 f.lim] 28 [.int .u64 (s.data : Int), .int .i64 s.cut, .string s.mask] 25 [.string ⟨#[]⟩, .string ⟨#[]⟩, .int .i64 0, .int .i64 0, .int .i64 0]
    go_enter Tryz.func8, Tryz.ntmps8
    have fc0 := (st.box 2 rfl).f5; have fc1 := (st.box 1 rfl).f3; have fc2 := (st.box 0 rfl).f5
    go_wp2_with fail; refine (TP.out _).mono ?_; rintro e V1 ⟨A, c, rfl, hA, hc, hk⟩
    clear fc0 fc1 fc2
    replace st := st.seq hk
    clear hk
    have fc0 := (st.box 2 rfl).f5; have fc1 := (st.box 1 rfl).f3; have fc2 := (st.box 0 rfl).f5
    clear hA hc
    go_wp2
    clear fc0 fc1 fc2
    replace st := st.put5 0 (.string f.b0) (.string f.b1) (.int .i64 f.e0) (.int .i64 f.e1) (.int .i64 f.lim) rfl; obtain ⟨V2, hV, st⟩ := st; rw [hV]; clear hV
    have fc0 := (st.box 2 rfl).f5; have fc1 := (st.box 1 rfl).f3; have fc2 := (st.box 0 rfl).f5
    exact bodyPost_ret (v := .tuple #[.agg #[.string f.b0, .string f.b1, .int .i64 f.e0, .int .i64 f.e1, .int .i64 f.lim], .bool false, .int .i64 E]) (by simp [results, Tryz.results8, go_sem, fc0, fc1, fc2]) rfl ⟨rfl, st.lo⟩

end Go.Proofs.YthmpjoiifglbjaaGreat
namespace Go.Proofs.YthmpjoiifglbjaaGreat
open Go.RowKit
set_option linter.unusedVariables false
set_option linter.unusedSimpArgs false

set_option maxRecDepth 100000 in
set_option maxHeartbeats 8000000 in
theorem own12State (l : Lg) (W : World) (hf : l.f.ok) :
    Gives Tryz.prog 15 #[.agg #[.string l.f.b0, .string l.f.b1, .int .i64 l.f.e0, .int .i64 l.f.e1, .int .i64 l.f.lim, .int .i64 l.acked, .int .u64 (l.last : Int), .bool l.flying, .int .u64 (l.flight : Int)]] W (.tuple #[.int .u64 ((pickS l.f).data : Int), .bool (decide (pickE l.f = 0))]) := by
  have TA := Lib.hid (fun (V : World) => own12ask l.f V hf)
  rw [show decide (pickE l.f = 0) = (pickE l.f == 0) from rfl]
  generalize pickE l.f = e2 at *
  generalize pickS l.f = p at *
  have st := Bs.in1 W 43 [.string l.f.b0, .string l.f.b1, .int .i64 l.f.e0, .int .i64 l.f.e1, .int .i64 l.f.lim, .int .i64 l.acked, .int .u64 (l.last : Int), .bool l.flying, .int .u64 (l.flight : Int)]
  go_enter Tryz.func15, Tryz.ntmps15
  have fc0 := (st.box 0 rfl).f9
  go_wp2_with fail; refine callB st (TA.out _) ?_; clear st fc0; intro V1 st
  replace st := st.alloc 69 [.int .i64 p.bank, .int .u64 (p.gen : Int), .int .u64 (p.seq : Int), .int .u64 (p.data : Int), .int .i64 e2]
  have fc0 := (st.box 0 rfl).f5
  go_wp2_with fail
  go_quiet (fail)
  replace st := st.drewN nq
  clear fc0
  go_wp2
  go_ret2
  exact ⟨rfl, st.lo⟩

set_option maxRecDepth 100000 in
set_option maxHeartbeats 8000000 in
theorem own12Wear (f : Fl) (W : World) (hf : f.ok) :
    Gives Tryz.prog 10 #[.agg #[.string f.b0, .string f.b1, .int .i64 f.e0, .int .i64 f.e1, .int .i64 f.lim]] W (.int .i64 (wearF f)) := by
  have HW := (show wearF f = wrap64 (f.e0 + f.e1) from rfl)
  rw [HW]
  clear HW
  have st := Bs.in1 W 25 [.string f.b0, .string f.b1, .int .i64 f.e0, .int .i64 f.e1, .int .i64 f.lim]
  go_enter Tryz.func10, Tryz.ntmps10
  have fc0 := (st.box 0 rfl).f5
  go_wp2
  clear fc0
  go_ret
  exact ⟨rfl, st.lo⟩

theorem ans_ne (q p : Pk) (e2 e1 : Int) (w : World) : (if q.bank = p.bank then if (q.gen : Int) = (p.gen : Int) then if (q.seq : Int) = (p.seq : Int) then if (q.data : Int) = (p.data : Int) then if e2 = e1 then (Result.ok (Next.value (Value.bool false)) w : Result Next) else Result.ok (Next.value (Value.bool true)) w else Result.ok (Next.value (Value.bool true)) w else Result.ok (Next.value (Value.bool true)) w else Result.ok (Next.value (Value.bool true)) w else Result.ok (Next.value (Value.bool true)) w) = Result.ok (Next.value (Value.bool (!decide (q = p ∧ e2 = e1)))) w := by
  obtain ⟨a, b, c, d⟩ := q
  obtain ⟨a', b', c', d'⟩ := p
  simp only [Pk.mk.injEq, Int.ofNat_inj]
  by_cases h1 : a = a' <;> by_cases h2 : b = b' <;> by_cases h3 : c = c' <;> by_cases h4 : d = d' <;> by_cases h5 : e2 = e1 <;> simp [h1, h2, h3, h4, h5]

set_option maxRecDepth 100000 in
set_option maxHeartbeats 8000000 in
theorem own12Play (l : Lg) (s : Stp) (W : World) (hf : l.f.fit) (ha : -9223372036854775808 ≤ l.acked ∧ l.acked < 9223372036854775807) (hs : s.ok) :
    Gives Tryz.prog 20 #[.agg #[.string l.f.b0, .string l.f.b1, .int .i64 l.f.e0, .int .i64 l.f.e1, .int .i64 l.f.lim, .int .i64 l.acked, .int .u64 (l.last : Int), .bool l.flying, .int .u64 (l.flight : Int)], .agg #[.int .u64 (s.data : Int), .int .i64 s.cut, .string s.mask]] W (.agg #[.string (playJ l s).f.b0, .string (playJ l s).f.b1, .int .i64 (playJ l s).f.e0, .int .i64 (playJ l s).f.e1, .int .i64 (playJ l s).f.lim, .int .i64 (playJ l s).acked, .int .u64 ((playJ l s).last : Int), .bool (playJ l s).flying, .int .u64 ((playJ l s).flight : Int)]) := by
  have hgf := putJ_fit hf s
  have TR := Lib.hid (fun (V : World) => own12ask l.f V hf.ok)
  have TP := Lib.hid (fun (V : World) => own12Put l.f s V hf hs)
  have TS := Lib.hid (fun (V : World) => own12ask (putJ l.f s).1 V hgf.ok)
  have HY := (show playJ l s = if (putJ l.f s).2.2 = 0 then (if (putJ l.f s).2.1 = true then ⟨(putJ l.f s).1, l.acked + 1, s.data, false, 0⟩ else if pickS (putJ l.f s).1 = pickS l.f ∧ pickE (putJ l.f s).1 = pickE l.f then ⟨(putJ l.f s).1, l.acked, l.last, l.flying, l.flight⟩ else ⟨(putJ l.f s).1, l.acked, l.last, true, s.data⟩) else l from rfl)
  generalize playJ l s = L2 at *
  generalize putJ l.f s = R at *
  obtain ⟨g, a, h⟩ := R
  dsimp only at *
  generalize pickE l.f = e1 at *
  generalize pickS l.f = p at *
  generalize pickE g = e2 at *
  generalize pickS g = q at *
  clear hgf hf hs
  have st := Bs.in3 W 43 [.string l.f.b0, .string l.f.b1, .int .i64 l.f.e0, .int .i64 l.f.e1, .int .i64 l.f.lim, .int .i64 l.acked, .int .u64 (l.last : Int), .bool l.flying, .int .u64 (l.flight : Int)] 28 [.int .u64 (s.data : Int), .int .i64 s.cut, .string s.mask] 43 [.string ⟨#[]⟩, .string ⟨#[]⟩, .int .i64 0, .int .i64 0, .int .i64 0, .int .i64 0, .int .u64 0, .bool false, .int .u64 0]
  go_enter Tryz.func20, Tryz.ntmps20
  have fc0 := (st.box 2 rfl).f9; have fc1 := (st.box 1 rfl).f3; have fc2 := (st.box 0 rfl).f9
  go_wp2_with fail; refine callB st (TP.out _) ?_; clear st fc0 fc1 fc2; intro V1 st
  replace st := st.alloc 25 [.string g.b0, .string g.b1, .int .i64 g.e0, .int .i64 g.e1, .int .i64 g.lim]
  have nz1 := st.n3
  have fc0 := (st.box 3 rfl).f9; have fc1 := (st.box 2 rfl).f3; have fc2 := (st.box 1 rfl).f9; have fc3 := (st.box 0 rfl).f5
  by_cases hh : h = 0
  · rw [if_pos hh] at HY
    subst hh
    cases a with
    | true =>
      rw [if_pos rfl] at HY
      subst HY
      have w1 : wrap64 (l.acked + 1) = l.acked + 1 := by unfold wrap64; omega
      clear ha
      go_wp2
      clear fc0 fc1 fc2 fc3
      replace st := st.put9 1 (.string g.b0) (.string g.b1) (.int .i64 g.e0) (.int .i64 g.e1) (.int .i64 g.lim) (.int .i64 (l.acked + 1)) (.int .u64 (s.data : Int)) (.bool false) (.int .u64 0) rfl; obtain ⟨V2, hV, st⟩ := st; rw [hV]; clear hV
      have fc0 := (st.box 3 rfl).f9; have fc1 := (st.box 2 rfl).f3; have fc2 := (st.box 1 rfl).f9; have fc3 := (st.box 0 rfl).f5
      exact bodyPost_ret (v := .agg #[.string g.b0, .string g.b1, .int .i64 g.e0, .int .i64 g.e1, .int .i64 g.lim, .int .i64 (l.acked + 1), .int .u64 (s.data : Int), .bool false, .int .u64 0]) (by simp [results, Tryz.results20, go_sem, fc0, fc1, fc2, fc3]) rfl ⟨rfl, st.lo⟩
    | false =>
      rw [if_neg (by decide)] at HY
      clear ha
      go_wp2_with fail
      clear fc0 fc1 fc2 fc3
      replace st := st.name; obtain ⟨V2, hV, st⟩ := st; rw [hV]; clear hV
      have fc0 := (st.box 3 rfl).f9; have fc1 := (st.box 2 rfl).f3; have fc2 := (st.box 0 rfl).f5
      obtain ⟨K0, HK⟩ : ∃ b, (!decide (q = p ∧ e2 = e1)) = b := ⟨_, rfl⟩
      have HC := ans_ne q p e2 e1; rw [HK] at HC; replace HC := Lib.hid HC
      clear fc0 fc1 fc2
      replace st := st.drew
      refine rh (fun w => C9 w (W.heap.size) (.string l.f.b0) (.string l.f.b1) (.int .i64 l.f.e0) (.int .i64 l.f.e1) (.int .i64 l.f.lim) (.int .i64 l.acked) (.int .u64 (l.last : Int)) (.bool l.flying) (.int .u64 (l.flight : Int)) ∧ C5 w (V1.heap.size) (.string g.b0) (.string g.b1) (.int .i64 g.e0) (.int .i64 g.e1) (.int .i64 g.lim)) ⟨(st.box 3 rfl).c9, (st.box 0 rfl).c5⟩ fun hHeld => ?_
      generalize V2.drew = V3 at *
      refine tq 0 ?_; refine tq 2 ?_; refine tq 3 ?_
      try simp only [Act.put, l1, l2, l3, l4, l5, l6]
      refine rd 1 fun K hK => ?_
      have fc0 := (st.box 3 rfl).f9; have fc1 := (st.box 2 rfl).f3; have fc2 := (st.box 0 rfl).f5
      go_simp
      refine callB st (TS.out _) ?_; clear st fc0 fc1 fc2; intro V4 st
      have fc0 := (st.box 3 rfl).f9; have fc1 := (st.box 2 rfl).f3; have fc2 := (st.box 0 rfl).f5
      try go_wp2_with fail
      clear hHeld fc0 fc1 fc2; refine hK.out _ _ ⟨(st.box 3 rfl).c9, (st.box 0 rfl).c5⟩ fun hHeld => ?_; clear hK K
      try simp only [Act.put, l1, l2, l3, l4, l5, l6]
      refine rd 4 fun K hK => ?_
      have fc0 := (st.box 3 rfl).f9; have fc1 := (st.box 2 rfl).f3; have fc2 := (st.box 0 rfl).f5
      go_simp
      refine callB st (TR.out _) ?_; clear st fc0 fc1 fc2; intro V5 st
      have fc0 := (st.box 3 rfl).f9; have fc1 := (st.box 2 rfl).f3; have fc2 := (st.box 0 rfl).f5
      try go_wp2_with fail
      clear hHeld fc0 fc1 fc2; refine hK.out _ _ ⟨(st.box 3 rfl).c9, (st.box 0 rfl).c5⟩ fun hHeld => ?_; clear hK K
      try simp only [Act.put, l1, l2, l3, l4, l5, l6]
      refine tq 5 (v := .bool K0) ?_ (hy := by intro w hS; (try dsimp only at hS); (try simp only [Act.put, l1, l2, l3, l4, l5, l6]); go_simp; exact HC.out _)
      try simp only [Act.put, l1, l2, l3, l4, l5, l6]
      refine wpAnyH_done (by kernel_rfl) ?_ _; clear hHeld
      have fc0 := (st.box 3 rfl).f9; have fc1 := (st.box 2 rfl).f3; have fc2 := (st.box 0 rfl).f5
      clear fc0 fc1 fc2
      have fc0 := (st.box 3 rfl).f9; have fc1 := (st.box 2 rfl).f3; have fc2 := (st.box 1 rfl).f9; have fc3 := (st.box 0 rfl).f5
      clear HC; by_cases hq : q = p ∧ e2 = e1
      · rw [if_pos hq] at HY
        obtain rfl : K0 = false := by rw [← HK]; simp [hq]
        subst HY
        clear HK hq
        go_wp2
        clear fc0 fc1 fc2 fc3
        replace st := (((((st.set 3 0 (.string g.b0) rfl).set 3 1 (.string g.b1) rfl).set 3 2 (.int .i64 g.e0) rfl).set 3 3 (.int .i64 g.e1) rfl).set 3 4 (.int .i64 g.lim) rfl).name; obtain ⟨V6, hV, st⟩ := st; rw [hV]; clear hV
        have fc0 := (st.box 3 rfl).f9; have fc1 := (st.box 2 rfl).f3; have fc2 := (st.box 1 rfl).f9; have fc3 := (st.box 0 rfl).f5
        clear fc0 fc1 fc2 fc3
        replace st := st.put9 1 (.string g.b0) (.string g.b1) (.int .i64 g.e0) (.int .i64 g.e1) (.int .i64 g.lim) (.int .i64 l.acked) (.int .u64 (l.last : Int)) (.bool l.flying) (.int .u64 (l.flight : Int)) rfl; obtain ⟨V7, hV, st⟩ := st; rw [hV]; clear hV
        have fc0 := (st.box 3 rfl).f9; have fc1 := (st.box 2 rfl).f3; have fc2 := (st.box 1 rfl).f9; have fc3 := (st.box 0 rfl).f5
        clear fc0 fc1 fc2 fc3
        have fc0 := (st.box 1 rfl).f9
        exact bodyPost_ret (v := .agg #[.string g.b0, .string g.b1, .int .i64 g.e0, .int .i64 g.e1, .int .i64 g.lim, .int .i64 l.acked, .int .u64 (l.last : Int), .bool l.flying, .int .u64 (l.flight : Int)]) (by simp [results, Tryz.results20, go_sem, fc0]) rfl ⟨rfl, st.lo⟩
      · rw [if_neg hq] at HY
        obtain rfl : K0 = true := by rw [← HK]; simp [hq]
        subst HY
        clear HK hq
        go_wp2_with fail
        clear fc0 fc1 fc2 fc3
        replace st := st.drew
        refine rh (fun w => C3 w (W.heap.size + 1) (.int .u64 (s.data : Int)) (.int .i64 s.cut) (.string s.mask)) ((st.box 2 rfl).c3) fun hHeld => ?_
        generalize V5.drew = V6 at *
        refine tq 0 ?_; refine tq 1 ?_; refine tq 2 ?_
        try simp only [Act.put, l1, l2, l3, l4, l5, l6]
        refine rd 3 fun K hK => ?_
        have fc0 := (st.box 3 rfl).f9; have fc1 := (st.box 2 rfl).f3; have fc2 := (st.box 1 rfl).f9; have fc3 := (st.box 0 rfl).f5
        go_simp
        try go_wp2_with fail
        clear fc0 fc1 fc2 fc3
        replace st := (st.set 3 7 (.bool true) rfl).name; obtain ⟨V7, hV, st⟩ := st; rw [hV]; clear hV
        clear hHeld; refine hK.out _ _ ((st.box 2 rfl).c3) fun hHeld => ?_; clear hK K
        try simp only [Act.put, l1, l2, l3, l4, l5, l6]
        refine tq 4 ?_
        try simp only [Act.put, l1, l2, l3, l4, l5, l6]
        refine rd 5 fun K hK => ?_
        have fc0 := (st.box 3 rfl).f9; have fc1 := (st.box 2 rfl).f3; have fc2 := (st.box 1 rfl).f9; have fc3 := (st.box 0 rfl).f5
        go_simp
        try go_wp2_with fail
        clear fc0 fc1 fc2 fc3
        replace st := (st.set 3 8 (.int .u64 (s.data : Int)) rfl).name; obtain ⟨V8, hV, st⟩ := st; rw [hV]; clear hV
        clear hHeld; refine hK.out _ _ ((st.box 2 rfl).c3) fun hHeld => ?_; clear hK K
        try simp only [Act.put, l1, l2, l3, l4, l5, l6]
        refine wpAnyH_done (by kernel_rfl) ?_ _; clear hHeld
        have fc0 := (st.box 3 rfl).f9; have fc1 := (st.box 2 rfl).f3; have fc2 := (st.box 1 rfl).f9; have fc3 := (st.box 0 rfl).f5
        go_wp2
        clear fc0 fc1 fc2 fc3
        replace st := (((((st.set 3 0 (.string g.b0) rfl).set 3 1 (.string g.b1) rfl).set 3 2 (.int .i64 g.e0) rfl).set 3 3 (.int .i64 g.e1) rfl).set 3 4 (.int .i64 g.lim) rfl).name; obtain ⟨V9, hV, st⟩ := st; rw [hV]; clear hV
        have fc0 := (st.box 3 rfl).f9; have fc1 := (st.box 2 rfl).f3; have fc2 := (st.box 1 rfl).f9; have fc3 := (st.box 0 rfl).f5
        clear fc0 fc1 fc2 fc3
        replace st := st.put9 1 (.string g.b0) (.string g.b1) (.int .i64 g.e0) (.int .i64 g.e1) (.int .i64 g.lim) (.int .i64 l.acked) (.int .u64 (l.last : Int)) (.bool true) (.int .u64 (s.data : Int)) rfl; obtain ⟨V10, hV, st⟩ := st; rw [hV]; clear hV
        have fc0 := (st.box 3 rfl).f9; have fc1 := (st.box 2 rfl).f3; have fc2 := (st.box 1 rfl).f9; have fc3 := (st.box 0 rfl).f5
        clear fc0 fc1 fc2 fc3
        have fc0 := (st.box 1 rfl).f9
        exact bodyPost_ret (v := .agg #[.string g.b0, .string g.b1, .int .i64 g.e0, .int .i64 g.e1, .int .i64 g.lim, .int .i64 l.acked, .int .u64 (l.last : Int), .bool true, .int .u64 (s.data : Int)]) (by simp [results, Tryz.results20, go_sem, fc0]) rfl ⟨rfl, st.lo⟩
  · rw [if_neg hh] at HY
    have HY2 := HY.symm
    clear HY
    subst HY2
    have m1 : (h != 0) = true := bne_iff_ne.2 hh
    clear hh ha
    go_wp2
    clear fc0 fc1 fc2 fc3
    replace st := st.put9 1 (.string l.f.b0) (.string l.f.b1) (.int .i64 l.f.e0) (.int .i64 l.f.e1) (.int .i64 l.f.lim) (.int .i64 l.acked) (.int .u64 (l.last : Int)) (.bool l.flying) (.int .u64 (l.flight : Int)) rfl; obtain ⟨V2, hV, st⟩ := st; rw [hV]; clear hV
    have fc0 := (st.box 3 rfl).f9; have fc1 := (st.box 2 rfl).f3; have fc2 := (st.box 1 rfl).f9; have fc3 := (st.box 0 rfl).f5
    exact bodyPost_ret (v := .agg #[.string l.f.b0, .string l.f.b1, .int .i64 l.f.e0, .int .i64 l.f.e1, .int .i64 l.f.lim, .int .i64 l.acked, .int .u64 (l.last : Int), .bool l.flying, .int .u64 (l.flight : Int)]) (by simp [results, Tryz.results20, go_sem, fc0, fc1, fc2, fc3]) rfl ⟨rfl, st.lo⟩

end Go.Proofs.YthmpjoiifglbjaaGreat
namespace Go.Proofs.YthmpjoiifglbjaaGreat
open Go.RowKit
set_option linter.unusedVariables false
set_option linter.unusedSimpArgs false

theorem st_func {P : Program} {a : Addr} {m : Mode} {w : World} (fn : Fn) (fi ca : Array Value) : (store a (.func fn fi ca) m).run P w = stored P w a (.func fn fi ca) m := run_store P w a _ m rfl
attribute [local go_sem] st_func

set_option maxRecDepth 100000 in
set_option maxHeartbeats 8000000 in
theorem own12from (f : Fl) (W : World) :
    Calls Tryz.prog 28 #[.agg #[.string f.b0, .string f.b1, .int .i64 f.e0, .int .i64 f.e1, .int .i64 f.lim, .int .i64 0, .int .u64 0, .bool false, .int .u64 0]] W fun e W' => e = .returned (.agg #[.func (.func 47) #[] #[.pointer (some ⟨W.heap.size, 0, none⟩)], .func (.func 48) #[] #[.pointer (some ⟨W.heap.size, 0, none⟩)]]) ∧ Below W.heap.size W W' ∧ Box 43 W' W.heap.size [.string f.b0, .string f.b1, .int .i64 f.e0, .int .i64 f.e1, .int .i64 f.lim, .int .i64 0, .int .u64 0, .bool false, .int .u64 0] := by
  have st := Bs.in2 W 43 [.string f.b0, .string f.b1, .int .i64 f.e0, .int .i64 f.e1, .int .i64 f.lim, .int .i64 0, .int .u64 0, .bool false, .int .u64 0] 80 [.nilFunc, .nilFunc]
  go_enter Tryz.func28, Tryz.ntmps28
  have fc0 := (st.box 1 rfl).f9; have fc1 := (st.box 0 rfl).f2
  go_wp2
  clear fc0 fc1
  clear st; have st := Bs.in2 W 43 [.string f.b0, .string f.b1, .int .i64 f.e0, .int .i64 f.e1, .int .i64 f.lim, .int .i64 0, .int .u64 0, .bool false, .int .u64 0] 80 [.func (.func 47) #[] #[.pointer (some ⟨W.heap.size, 0, none⟩)], .func (.func 48) #[] #[.pointer (some ⟨W.heap.size, 0, none⟩)]]
  have fc0 := (st.box 0 rfl).f2
  exact bodyPost_ret (v := .agg #[.func (.func 47) #[] #[.pointer (some ⟨W.heap.size, 0, none⟩)], .func (.func 48) #[] #[.pointer (some ⟨W.heap.size, 0, none⟩)]]) (by simp [results, Tryz.results28, go_sem, fc0]) rfl ⟨rfl, st.lo, (st.box 1 rfl)⟩

set_option maxRecDepth 100000 in
set_option maxHeartbeats 8000000 in
theorem own12step (l : Lg) (s : Stp) (B k : Nat) (L : Bl) (W V : World) (st : Bs W V L) (hk : L[k]? = some (43, B, [.string l.f.b0, .string l.f.b1, .int .i64 l.f.e0, .int .i64 l.f.e1, .int .i64 l.f.lim, .int .i64 l.acked, .int .u64 (l.last : Int), .bool l.flying, .int .u64 (l.flight : Int)])) (hf : l.f.fit) (ha : -9223372036854775808 ≤ l.acked ∧ l.acked < 9223372036854775807) (hs : s.ok) :
    Calls Tryz.prog 47 #[.agg #[.int .u64 (s.data : Int), .int .i64 s.cut, .string s.mask], .pointer (some ⟨B, 0, none⟩)] V fun e V' => e = .returned (.tuple #[]) ∧ Bs W V' (L.set k (43, B, [.string (playJ l s).f.b0, .string (playJ l s).f.b1, .int .i64 (playJ l s).f.e0, .int .i64 (playJ l s).f.e1, .int .i64 (playJ l s).f.lim, .int .i64 (playJ l s).acked, .int .u64 ((playJ l s).last : Int), .bool (playJ l s).flying, .int .u64 ((playJ l s).flight : Int)])) := by
  have TP := Lib.hid (fun (V : World) => own12Play l s V hf ha hs)
  generalize playJ l s = y at *
  clear hf ha hs
  replace st := st.alloc 28 [.int .u64 (s.data : Int), .int .i64 s.cut, .string s.mask]
  have fc0 := (st.box 0 rfl).f3; have fc1 := (st.box (k + 1) hk).f9
  go_enter Tryz.func47, Tryz.ntmps47
  go_wp2_with fail; refine callB st (TP.out _) ?_; clear st fc0 fc1; intro V1 st
  have fc1 := (st.box (k + 1) hk).f9
  go_wp2
  clear fc1
  replace st := st.put9 (k + 1) (.string y.f.b0) (.string y.f.b1) (.int .i64 y.f.e0) (.int .i64 y.f.e1) (.int .i64 y.f.lim) (.int .i64 y.acked) (.int .u64 (y.last : Int)) (.bool y.flying) (.int .u64 (y.flight : Int)) hk; obtain ⟨V2, hV, st⟩ := st; rw [hV]; clear hV
  exact bodyPost_end (results_none rfl _ _ _) rfl ⟨rfl, st.tl⟩

set_option maxRecDepth 100000 in
set_option maxHeartbeats 8000000 in
theorem own12log (v0 v1 : ByteArray) (v2 v3 v4 v5 : Int) (v6 v8 : Nat) (v7 : Bool) (B : Nat) (W : World) (x : Box 43 W B [.string v0, .string v1, .int .i64 v2, .int .i64 v3, .int .i64 v4, .int .i64 v5, .int .u64 (v6 : Int), .bool v7, .int .u64 (v8 : Int)]) :
    Gives Tryz.prog 48 #[.pointer (some ⟨B, 0, none⟩)] W (.agg #[.string v0, .string v1, .int .i64 v2, .int .i64 v3, .int .i64 v4, .int .i64 v5, .int .u64 (v6 : Int), .bool v7, .int .u64 (v8 : Int)]) := by
  replace x := (x.alloc (.cells #[.string ⟨#[]⟩, .string ⟨#[]⟩, .int .i64 0, .int .i64 0, .int .i64 0, .int .i64 0, .int .u64 0, .bool false, .int .u64 0] 43)).f9
  have st := Bs.in1 W 43 [.string ⟨#[]⟩, .string ⟨#[]⟩, .int .i64 0, .int .i64 0, .int .i64 0, .int .i64 0, .int .u64 0, .bool false, .int .u64 0]
  go_enter Tryz.func48, Tryz.ntmps48
  have fc0 := (st.box 0 rfl).f9
  go_wp2
  clear fc0
  clear st; have st := Bs.in1 W 43 [.string v0, .string v1, .int .i64 v2, .int .i64 v3, .int .i64 v4, .int .i64 v5, .int .u64 (v6 : Int), .bool v7, .int .u64 (v8 : Int)]
  have fc0 := (st.box 0 rfl).f9
  exact bodyPost_ret (v := .agg #[.string v0, .string v1, .int .i64 v2, .int .i64 v3, .int .i64 v4, .int .i64 v5, .int .u64 (v6 : Int), .bool v7, .int .u64 (v8 : Int)]) (by simp [results, Tryz.results48, go_sem, fc0]) rfl ⟨rfl, st.lo⟩

set_option maxRecDepth 100000 in
set_option maxHeartbeats 8000000 in
theorem own12Run (f : Fl) (l : List Stp) (A : Option Addr) (c : Nat) (W : World) (hf : f.fit) (hl : RowsAt 3 stpV W A l) (ho : ∀ o ∈ l, o.ok) (hc : l.length ≤ c ∧ c ≤ maxLen) :
    Gives Tryz.prog 12 #[.agg #[.string f.b0, .string f.b1, .int .i64 f.e0, .int .i64 f.e1, .int .i64 f.lim], .slice A l.length c] W (.agg #[.string (runJ (startJ f) l).f.b0, .string (runJ (startJ f) l).f.b1, .int .i64 (runJ (startJ f) l).f.e0, .int .i64 (runJ (startJ f) l).f.e1, .int .i64 (runJ (startJ f) l).f.lim, .int .i64 (runJ (startJ f) l).acked, .int .u64 ((runJ (startJ f) l).last : Int), .bool (runJ (startJ f) l).flying, .int .u64 ((runJ (startJ f) l).flight : Int)]) := by
  have hc2 := hc.2
  unfold maxLen at hc2
  have HL := Lib.hid (fun k o hk => hl.hop k o hk)
  have HF := Lib.hid (fun (j : Nat) => (show (runJ (startJ f) (l.take j)).f.fit ∧ 0 ≤ (runJ (startJ f) (l.take j)).acked ∧ (runJ (startJ f) (l.take j)).acked ≤ (j : Int) from by
    have h := runJ_acked (l.take j) (startJ f)
    have h2 : ((l.take j).length : Int) ≤ (j : Int) := by have := List.length_take_le j l; omega
    have h3 : (startJ f).acked = 0 := rfl
    exact ⟨runJ_fit _ _ hf, by omega, by omega⟩))
  have HN := Lib.hid (fun (j : Nat) (o : Stp) (h : l[j]? = some o) => runJ_take h (startJ f))
  have H0 := Lib.hid (show runJ (startJ f) (l.take 0) = ⟨f, 0, 0, false, 0⟩ from by rw [List.take_zero]; rfl)
  have HE := Lib.hid (show runJ (startJ f) (l.take l.length) = runJ (startJ f) l from by rw [List.take_length])
  obtain ⟨r, hr⟩ : ∃ r, runJ (startJ f) l = r := ⟨_, rfl⟩
  rw [hr] at HE ⊢
  clear hr hl hf
  generalize startJ f = S0 at *
  have hlen : (l.length : Int) ≤ 9223372036854775807 := by omega
  replace hc := Lib.hid hc
  clear hc2
  have st := Bs.in2 W 25 [.string f.b0, .string f.b1, .int .i64 f.e0, .int .i64 f.e1, .int .i64 f.lim] 43 [.string ⟨#[]⟩, .string ⟨#[]⟩, .int .i64 0, .int .i64 0, .int .i64 0, .int .i64 0, .int .u64 0, .bool false, .int .u64 0]
  go_enter Tryz.func12, Tryz.ntmps12
  have fc0 := (st.box 1 rfl).f5; have fc1 := (st.box 0 rfl).f9
  go_wp2_with fail; refine (own12from f _).mono ?_; rintro e V1 ⟨rfl, hk, hx⟩
  clear fc0 fc1
  replace st := st.gain hk hx (Nat.le_refl _); clear hk hx; generalize ((W.alloc (.cells #[.string f.b0, .string f.b1, .int .i64 f.e0, .int .i64 f.e1, .int .i64 f.lim] 25)).alloc (.cells #[.string ⟨#[]⟩, .string ⟨#[]⟩, .int .i64 0, .int .i64 0, .int .i64 0, .int .i64 0, .int .u64 0, .bool false, .int .u64 0] 43)).heap.size = B at *
  have hz := (Box.new 80 V1 [.nilFunc, .nilFunc]).f2
  have fc0 := (st.box 2 rfl).f5
  go_wp2
  clear fc0
  clear hz
  replace st := st.alloc 80 [.func (.func 47) #[] #[.pointer (some ⟨B, 0, none⟩)], .func (.func 48) #[] #[.pointer (some ⟨B, 0, none⟩)]]
  go_loopw [13] (fun i w => ∃ (j : Nat) (x : Lg), j ≤ l.length ∧ i = .int .i64 j ∧ runJ S0 (l.take j) = x ∧ Bs W w [(80, V1.heap.size, [.func (.func 47) #[] #[.pointer (some ⟨B, 0, none⟩)], .func (.func 48) #[] #[.pointer (some ⟨B, 0, none⟩)]]), (43, B, [.string x.f.b0, .string x.f.b1, .int .i64 x.f.e0, .int .i64 x.f.e1, .int .i64 x.f.lim, .int .i64 x.acked, .int .u64 (x.last : Int), .bool x.flying, .int .u64 (x.flight : Int)]), (43, W.heap.size + 1, [.string ⟨#[]⟩, .string ⟨#[]⟩, .int .i64 0, .int .i64 0, .int .i64 0, .int .i64 0, .int .u64 0, .bool false, .int .u64 0]), (25, W.heap.size, [.string f.b0, .string f.b1, .int .i64 f.e0, .int .i64 f.e1, .int .i64 f.lim])]) (fun i _ => l.length - (intOf i).toNat)
  case atStart => exact ⟨0, ⟨f, 0, 0, false, 0⟩, Nat.zero_le _, rfl, H0.out, st⟩
  case round =>
    clear st; obtain ⟨j, x, hj, rfl, hx, st⟩ := hrel
    by_cases hlt : j < l.length
    · obtain ⟨s, hjs⟩ : ∃ s, l[j]? = some s := ⟨_, List.getElem?_eq_getElem hlt⟩
      obtain ⟨g, off, rfl, HC0⟩ := HL.out j s hjs
      obtain ⟨c1, c2, c3⟩ : wr.cell? ⟨g, off + j * 3, none⟩ = some (.int .u64 (s.data : Int)) ∧ wr.cell? ⟨g, off + j * 3 + 1, none⟩ = some (.int .i64 s.cut) ∧ wr.cell? ⟨g, off + j * 3 + 2, none⟩ = some (.string s.mask) := ⟨HC0 _ st.lo 0 (by decide), HC0 _ st.lo 1 (by decide), HC0 _ st.lo 2 (by decide)⟩
      clear HC0
      have hs := ho s (List.mem_of_getElem? hjs)
      obtain ⟨h1, h2, h3⟩ := HF.out j
      have hn := HN.out j s hjs
      rw [hx] at h1 h2 h3 hn
      replace hn := Lib.hid hn
      have hxa : -9223372036854775808 ≤ x.acked ∧ x.acked < 9223372036854775807 := by omega
      have j0 : (0 : Int) ≤ (j : Int) := by omega
      have j1 : (j : Int) < (l.length : Int) := by omega
      have j2 : IntKind.i64.wrap ((j : Int) + 1) = (j : Int) + 1 := IntWalk.i64_in _ (by omega)
      have TP := Lib.hid (fun (L : Bl) (k : Nat) (V : World) (st : Bs W V L) (hk : L[k]? = some (43, B, [.string x.f.b0, .string x.f.b1, .int .i64 x.f.e0, .int .i64 x.f.e1, .int .i64 x.f.lim, .int .i64 x.acked, .int .u64 (x.last : Int), .bool x.flying, .int .u64 (x.flight : Int)])) => own12step x s B k L W V st hk h1 hxa hs)
      clear hs hjs HL HN HF HE H0 hx h1 h2 h3 hxa ho
      replace st := st.alloc 28 [.int .u64 (s.data : Int), .int .i64 s.cut, .string s.mask]
      have fc0 := (st.box 1 rfl).f2; have fc1 := (st.box 0 rfl).f3
      go_wp2_with fail
      clear fc0 fc1
      clear c1 c2 c3
      refine (TP.out _ 2 _ st rfl).mono ?_; clear st; rintro e V2 ⟨rfl, st⟩
      replace st := st.tl
      go_wp2; go_roundw
      case rel => exact ⟨j + 1, playJ x s, by omega, by go_num, hn.out, st⟩
      case measure => simp [intOf]; omega
    · obtain rfl : j = l.length := by omega
      obtain rfl : x = r := hx.symm.trans HE.out
      clear HL HN HF HE H0 hx ho
      have fc0 := (st.box 2 rfl).f9; have fc1 := (st.box 0 rfl).f2
      go_wp2_with fail; refine callB st (own12log _ _ _ _ _ _ _ _ _ B _ (st.box 1 rfl)) ?_; clear st fc0 fc1; intro V1 st
      have fc0 := (st.box 2 rfl).f9; have fc1 := (st.box 0 rfl).f2
      go_wp2
      clear fc0 fc1
      replace st := st.put9 2 (.string x.f.b0) (.string x.f.b1) (.int .i64 x.f.e0) (.int .i64 x.f.e1) (.int .i64 x.f.lim) (.int .i64 x.acked) (.int .u64 (x.last : Int)) (.bool x.flying) (.int .u64 (x.flight : Int)) rfl; obtain ⟨V2, hV, st⟩ := st; rw [hV]; clear hV
      have fc0 := (st.box 2 rfl).f9; have fc1 := (st.box 0 rfl).f2
      exact bodyPost_ret (v := .agg #[.string x.f.b0, .string x.f.b1, .int .i64 x.f.e0, .int .i64 x.f.e1, .int .i64 x.f.lim, .int .i64 x.acked, .int .u64 (x.last : Int), .bool x.flying, .int .u64 (x.flight : Int)]) (by simp [results, Tryz.results12, go_sem, fc0, fc1]) rfl ⟨rfl, st.lo⟩

end Go.Proofs.YthmpjoiifglbjaaGreat

/- The document's own answers of layer 12 (State, Wear, Play, Run): contracts only. -/
import Derived.Test.YthmpjoiifglbjaaGreatJourRef
import Derived.Test.YthmpjoiifglbjaaGreatPickRef
import Derived.Test.YthmpjoiifglbjaaGreatJourFit
import Derived.Test.YthmpjoiifglbjaaGreatJourOpen
import Derived.WalkKit
import Derived.ProofKit
import Derived.Lib.Hide
import Derived.Deep.RegionHeld3
import Derived.WalkLawsBesides
import Derived.WalkSpells
import Derived.IntWalk
namespace Go.Proofs.YthmpjoiifglbjaaGreat
open Go.RowKit
set_option linter.unusedVariables false
set_option linter.unusedSimpArgs false

set_option maxRecDepth 100000 in
set_option maxHeartbeats 8000000 in
theorem ref12State (l : Lg) (W : World) (hf : l.f.ok) :
    Gives Tryz.prog 16 #[.agg #[.string l.f.b0, .string l.f.b1, .int .i64 l.f.e0, .int .i64 l.f.e1, .int .i64 l.f.lim, .int .i64 l.acked, .int .u64 (l.last : Int), .bool l.flying, .int .u64 (l.flight : Int)]] W (.tuple #[.int .u64 ((pickS l.f).data : Int), .bool (decide (pickE l.f = 0))]) := by
  have TR := Lib.hid (fun (V : World) => ref10Read l.f V hf)
  rw [show decide (pickE l.f = 0) = (pickE l.f == 0) from rfl]
  generalize pickE l.f = e2 at *
  generalize pickS l.f = p at *
  have st := Bs.in1 W 46 [.string l.f.b0, .string l.f.b1, .int .i64 l.f.e0, .int .i64 l.f.e1, .int .i64 l.f.lim, .int .i64 l.acked, .int .u64 (l.last : Int), .bool l.flying, .int .u64 (l.flight : Int)]
  go_enter Tryz.func16, Tryz.ntmps16
  have fc0 := (st.box 0 rfl).f9
  go_wp2_with fail; refine callB st (TR.out _) ?_; clear st fc0; intro V1 st
  have fc0 := (st.box 0 rfl).f9
  replace st := st.alloc 58 [.int .i64 p.bank, .int .u64 (p.gen : Int), .int .u64 (p.seq : Int), .int .u64 (p.data : Int)]
  replace fc0 := (st.box 1 rfl).f9; have fc1 := (st.box 0 rfl).f4
  go_wp2
  clear fc0 fc1
  go_ret2
  exact ⟨rfl, st.lo⟩

set_option maxRecDepth 100000 in
set_option maxHeartbeats 8000000 in
theorem ref12Wear (f : Fl) (W : World) (hf : f.ok) :
    Gives Tryz.prog 11 #[.agg #[.string f.b0, .string f.b1, .int .i64 f.e0, .int .i64 f.e1, .int .i64 f.lim]] W (.int .i64 (wearF f)) := by
  have HW := (show wearF f = wrap64 (f.e0 + f.e1) from rfl)
  rw [HW]
  clear HW
  have st := Bs.in1 W 35 [.string f.b0, .string f.b1, .int .i64 f.e0, .int .i64 f.e1, .int .i64 f.lim]
  go_enter Tryz.func11, Tryz.ntmps11
  have fc0 := (st.box 0 rfl).f5
  go_wp2
  clear fc0
  go_ret
  exact ⟨rfl, st.lo⟩

set_option maxRecDepth 100000 in
set_option maxHeartbeats 8000000 in
theorem ref12Play (l : Lg) (s : Stp) (W : World) (hf : l.f.fit) (ha : -9223372036854775808 ≤ l.acked ∧ l.acked < 9223372036854775807) (hs : s.ok) :
    Gives Tryz.prog 29 #[.agg #[.string l.f.b0, .string l.f.b1, .int .i64 l.f.e0, .int .i64 l.f.e1, .int .i64 l.f.lim, .int .i64 l.acked, .int .u64 (l.last : Int), .bool l.flying, .int .u64 (l.flight : Int)], .agg #[.int .u64 (s.data : Int), .int .i64 s.cut, .string s.mask]] W (.agg #[.string (playJ l s).f.b0, .string (playJ l s).f.b1, .int .i64 (playJ l s).f.e0, .int .i64 (playJ l s).f.e1, .int .i64 (playJ l s).f.lim, .int .i64 (playJ l s).acked, .int .u64 ((playJ l s).last : Int), .bool (playJ l s).flying, .int .u64 ((playJ l s).flight : Int)]) := by
  have hgf := putJ_fit hf s
  have TR := Lib.hid (fun (V : World) => ref10Read l.f V hf.ok)
  have TP := Lib.hid (fun (V : World) => ref12Put l.f s V hf hs)
  have TS := Lib.hid (fun (V : World) => ref10Read (putJ l.f s).1 V hgf.ok)
  have HY := (show playJ l s = if (putJ l.f s).2.2 = 0 then (if (putJ l.f s).2.1 = true then ⟨(putJ l.f s).1, l.acked + 1, s.data, false, 0⟩ else if pickS (putJ l.f s).1 = pickS l.f ∧ pickE (putJ l.f s).1 = pickE l.f then ⟨(putJ l.f s).1, l.acked, l.last, l.flying, l.flight⟩ else ⟨(putJ l.f s).1, l.acked, l.last, true, s.data⟩) else l from rfl)
  generalize playJ l s = L2 at *
  generalize putJ l.f s = R at *
  obtain ⟨g, a, h⟩ := R
  dsimp only at *
  generalize pickE l.f = e1 at *
  generalize pickS l.f = p at *
  generalize pickE g = e2 at *
  generalize pickS g = q at *
  clear hgf hf hs
  obtain ⟨pb, pg, pq, px⟩ := p
  obtain ⟨qb, qg, qq, qx⟩ := q
  dsimp only at *
  have st := Bs.in3 W 46 [.string l.f.b0, .string l.f.b1, .int .i64 l.f.e0, .int .i64 l.f.e1, .int .i64 l.f.lim, .int .i64 l.acked, .int .u64 (l.last : Int), .bool l.flying, .int .u64 (l.flight : Int)] 38 [.int .u64 (s.data : Int), .int .i64 s.cut, .string s.mask] 46 [.string ⟨#[]⟩, .string ⟨#[]⟩, .int .i64 0, .int .i64 0, .int .i64 0, .int .i64 0, .int .u64 0, .bool false, .int .u64 0]
  go_enter Tryz.func29, Tryz.ntmps29
  have fc0 := (st.box 2 rfl).f9
  go_wp2_with fail; refine callB st (TR.out _) ?_; clear st fc0; intro V1 st
  replace st := st.alloc 58 [.int .i64 pb, .int .u64 (pg : Int), .int .u64 (pq : Int), .int .u64 (px : Int)]
  have nz1 := st.n3
  have fc0 := (st.box 3 rfl).f9; have fc1 := (st.box 2 rfl).f3
  go_wp2_with fail; refine callB st (TP.out _) ?_; clear st fc0 fc1; intro V2 st
  replace st := st.alloc 35 [.string g.b0, .string g.b1, .int .i64 g.e0, .int .i64 g.e1, .int .i64 g.lim]
  have nz2 := st.n4
  have fc0 := (st.box 4 rfl).f9; have fc1 := (st.box 3 rfl).f3; have fc2 := (st.box 2 rfl).f9; have fc3 := (st.box 0 rfl).f5
  by_cases hh : h = 0
  · rw [if_pos hh] at HY
    subst hh
    cases a with
    | true =>
      rw [if_pos rfl] at HY
      subst HY
      have w1 : wrap64 (l.acked + 1) = l.acked + 1 := by unfold wrap64; omega
      clear ha
      go_wp2
      clear fc0 fc1 fc2 fc3
      replace st := st.put9 4 (.string g.b0) (.string g.b1) (.int .i64 g.e0) (.int .i64 g.e1) (.int .i64 g.lim) (.int .i64 (l.acked + 1)) (.int .u64 (s.data : Int)) (.bool false) (.int .u64 0) rfl; obtain ⟨V3, hV, st⟩ := st; rw [hV]; clear hV
      have fc0 := (st.box 4 rfl).f9; have fc1 := (st.box 3 rfl).f3; have fc2 := (st.box 2 rfl).f9; have fc3 := (st.box 0 rfl).f5
      clear fc0 fc1 fc2 fc3
      replace st := st.put9 2 (.string g.b0) (.string g.b1) (.int .i64 g.e0) (.int .i64 g.e1) (.int .i64 g.lim) (.int .i64 (l.acked + 1)) (.int .u64 (s.data : Int)) (.bool false) (.int .u64 0) rfl; obtain ⟨V4, hV, st⟩ := st; rw [hV]; clear hV
      have fc0 := (st.box 4 rfl).f9; have fc1 := (st.box 3 rfl).f3; have fc2 := (st.box 2 rfl).f9; have fc3 := (st.box 0 rfl).f5
      exact bodyPost_ret (v := .agg #[.string g.b0, .string g.b1, .int .i64 g.e0, .int .i64 g.e1, .int .i64 g.lim, .int .i64 (l.acked + 1), .int .u64 (s.data : Int), .bool false, .int .u64 0]) (by simp [results, Tryz.results29, go_sem, fc0, fc1, fc2, fc3]) rfl ⟨rfl, st.lo⟩
    | false =>
      rw [if_neg (by decide)] at HY
      clear ha
      go_wp2_with fail
      clear fc0 fc1 fc2 fc3
      replace st := (((((st.set 4 0 (.string g.b0) rfl).set 4 1 (.string g.b1) rfl).set 4 2 (.int .i64 g.e0) rfl).set 4 3 (.int .i64 g.e1) rfl).set 4 4 (.int .i64 g.lim) rfl).name; obtain ⟨V3, hV, st⟩ := st; rw [hV]; clear hV
      refine callB st (TS.out _) ?_; clear st; intro V4 st
      replace st := st.alloc 58 [.int .i64 qb, .int .u64 (qg : Int), .int .u64 (qq : Int), .int .u64 (qx : Int)]
      have nz3 := st.n5
      have fc0 := (st.box 5 rfl).f9; have fc1 := (st.box 4 rfl).f3; have fc2 := (st.box 3 rfl).f9; have fc3 := (st.box 2 rfl).f4; have fc4 := (st.box 0 rfl).f4
      by_cases hq : (⟨qb, qg, qq, qx⟩ : Pk) = ⟨pb, pg, pq, px⟩
      · have hq2 := hq
        simp only [Pk.mk.injEq] at hq2
        obtain ⟨rfl, rfl, rfl, rfl⟩ := hq2
        by_cases he : e2 = e1
        · rw [if_pos ⟨rfl, he⟩] at HY
          subst he
          subst HY
          clear hq
          go_wp2
          clear fc0 fc1 fc2 fc3 fc4
          replace st := st.put9 3 (.string g.b0) (.string g.b1) (.int .i64 g.e0) (.int .i64 g.e1) (.int .i64 g.lim) (.int .i64 l.acked) (.int .u64 (l.last : Int)) (.bool l.flying) (.int .u64 (l.flight : Int)) rfl; obtain ⟨V5, hV, st⟩ := st; rw [hV]; clear hV
          have fc0 := (st.box 5 rfl).f9; have fc1 := (st.box 4 rfl).f3; have fc2 := (st.box 3 rfl).f9; have fc3 := (st.box 2 rfl).f4; have fc4 := (st.box 0 rfl).f4
          exact bodyPost_ret (v := .agg #[.string g.b0, .string g.b1, .int .i64 g.e0, .int .i64 g.e1, .int .i64 g.lim, .int .i64 l.acked, .int .u64 (l.last : Int), .bool l.flying, .int .u64 (l.flight : Int)]) (by simp [results, Tryz.results29, go_sem, fc0, fc1, fc2, fc3, fc4]) rfl ⟨rfl, st.lo⟩
        · rw [if_neg (fun h => he h.2)] at HY
          subst HY
          have n1 : (e1 != e2) = true := bne_iff_ne.2 (fun h => he h.symm)
          have n2 : (e1 == e2) = false := beq_eq_false_iff_ne.2 (fun h => he h.symm)
          clear hq he
          go_wp2
          clear fc0 fc1 fc2 fc3 fc4
          replace st := ((st.set 5 7 (.bool true) rfl).set 5 8 (.int .u64 (s.data : Int)) rfl).name; obtain ⟨V5, hV, st⟩ := st; rw [hV]; clear hV
          have fc0 := (st.box 5 rfl).f9; have fc1 := (st.box 4 rfl).f3; have fc2 := (st.box 3 rfl).f9; have fc3 := (st.box 2 rfl).f4; have fc4 := (st.box 0 rfl).f4
          clear fc0 fc1 fc2 fc3 fc4
          replace st := st.put9 3 (.string g.b0) (.string g.b1) (.int .i64 g.e0) (.int .i64 g.e1) (.int .i64 g.lim) (.int .i64 l.acked) (.int .u64 (l.last : Int)) (.bool true) (.int .u64 (s.data : Int)) rfl; obtain ⟨V6, hV, st⟩ := st; rw [hV]; clear hV
          have fc0 := (st.box 5 rfl).f9; have fc1 := (st.box 4 rfl).f3; have fc2 := (st.box 3 rfl).f9; have fc3 := (st.box 2 rfl).f4; have fc4 := (st.box 0 rfl).f4
          exact bodyPost_ret (v := .agg #[.string g.b0, .string g.b1, .int .i64 g.e0, .int .i64 g.e1, .int .i64 g.lim, .int .i64 l.acked, .int .u64 (l.last : Int), .bool true, .int .u64 (s.data : Int)]) (by simp [results, Tryz.results29, go_sem, fc0, fc1, fc2, fc3, fc4]) rfl ⟨rfl, st.lo⟩
      · rw [if_neg (fun h => hq h.1)] at HY
        subst HY
        by_cases db : qb = pb
        · subst db
          by_cases dg : qg = pg
          · subst dg
            by_cases dq : qq = pq
            · subst dq
              by_cases dx : qx = px
              · subst dx
                exact absurd rfl hq
              · have m1 : ¬ (qx : Int) = (px : Int) := by omega
                clear hq dx
                go_wp2
                clear fc0 fc1 fc2 fc3 fc4
                replace st := ((st.set 5 7 (.bool true) rfl).set 5 8 (.int .u64 (s.data : Int)) rfl).name; obtain ⟨V5, hV, st⟩ := st; rw [hV]; clear hV
                have fc0 := (st.box 5 rfl).f9; have fc1 := (st.box 4 rfl).f3; have fc2 := (st.box 3 rfl).f9; have fc3 := (st.box 2 rfl).f4; have fc4 := (st.box 0 rfl).f4
                clear fc0 fc1 fc2 fc3 fc4
                replace st := st.put9 3 (.string g.b0) (.string g.b1) (.int .i64 g.e0) (.int .i64 g.e1) (.int .i64 g.lim) (.int .i64 l.acked) (.int .u64 (l.last : Int)) (.bool true) (.int .u64 (s.data : Int)) rfl; obtain ⟨V6, hV, st⟩ := st; rw [hV]; clear hV
                have fc0 := (st.box 5 rfl).f9; have fc1 := (st.box 4 rfl).f3; have fc2 := (st.box 3 rfl).f9; have fc3 := (st.box 2 rfl).f4; have fc4 := (st.box 0 rfl).f4
                exact bodyPost_ret (v := .agg #[.string g.b0, .string g.b1, .int .i64 g.e0, .int .i64 g.e1, .int .i64 g.lim, .int .i64 l.acked, .int .u64 (l.last : Int), .bool true, .int .u64 (s.data : Int)]) (by simp [results, Tryz.results29, go_sem, fc0, fc1, fc2, fc3, fc4]) rfl ⟨rfl, st.lo⟩
            · have m1 : ¬ (qq : Int) = (pq : Int) := by omega
              clear hq dq
              go_wp2
              clear fc0 fc1 fc2 fc3 fc4
              replace st := ((st.set 5 7 (.bool true) rfl).set 5 8 (.int .u64 (s.data : Int)) rfl).name; obtain ⟨V5, hV, st⟩ := st; rw [hV]; clear hV
              have fc0 := (st.box 5 rfl).f9; have fc1 := (st.box 4 rfl).f3; have fc2 := (st.box 3 rfl).f9; have fc3 := (st.box 2 rfl).f4; have fc4 := (st.box 0 rfl).f4
              clear fc0 fc1 fc2 fc3 fc4
              replace st := st.put9 3 (.string g.b0) (.string g.b1) (.int .i64 g.e0) (.int .i64 g.e1) (.int .i64 g.lim) (.int .i64 l.acked) (.int .u64 (l.last : Int)) (.bool true) (.int .u64 (s.data : Int)) rfl; obtain ⟨V6, hV, st⟩ := st; rw [hV]; clear hV
              have fc0 := (st.box 5 rfl).f9; have fc1 := (st.box 4 rfl).f3; have fc2 := (st.box 3 rfl).f9; have fc3 := (st.box 2 rfl).f4; have fc4 := (st.box 0 rfl).f4
              exact bodyPost_ret (v := .agg #[.string g.b0, .string g.b1, .int .i64 g.e0, .int .i64 g.e1, .int .i64 g.lim, .int .i64 l.acked, .int .u64 (l.last : Int), .bool true, .int .u64 (s.data : Int)]) (by simp [results, Tryz.results29, go_sem, fc0, fc1, fc2, fc3, fc4]) rfl ⟨rfl, st.lo⟩
          · have m1 : ¬ (qg : Int) = (pg : Int) := by omega
            clear hq dg
            go_wp2
            clear fc0 fc1 fc2 fc3 fc4
            replace st := ((st.set 5 7 (.bool true) rfl).set 5 8 (.int .u64 (s.data : Int)) rfl).name; obtain ⟨V5, hV, st⟩ := st; rw [hV]; clear hV
            have fc0 := (st.box 5 rfl).f9; have fc1 := (st.box 4 rfl).f3; have fc2 := (st.box 3 rfl).f9; have fc3 := (st.box 2 rfl).f4; have fc4 := (st.box 0 rfl).f4
            clear fc0 fc1 fc2 fc3 fc4
            replace st := st.put9 3 (.string g.b0) (.string g.b1) (.int .i64 g.e0) (.int .i64 g.e1) (.int .i64 g.lim) (.int .i64 l.acked) (.int .u64 (l.last : Int)) (.bool true) (.int .u64 (s.data : Int)) rfl; obtain ⟨V6, hV, st⟩ := st; rw [hV]; clear hV
            have fc0 := (st.box 5 rfl).f9; have fc1 := (st.box 4 rfl).f3; have fc2 := (st.box 3 rfl).f9; have fc3 := (st.box 2 rfl).f4; have fc4 := (st.box 0 rfl).f4
            exact bodyPost_ret (v := .agg #[.string g.b0, .string g.b1, .int .i64 g.e0, .int .i64 g.e1, .int .i64 g.lim, .int .i64 l.acked, .int .u64 (l.last : Int), .bool true, .int .u64 (s.data : Int)]) (by simp [results, Tryz.results29, go_sem, fc0, fc1, fc2, fc3, fc4]) rfl ⟨rfl, st.lo⟩
        · have m1 : ¬ qb = pb := db
          clear hq db
          go_wp2
          clear fc0 fc1 fc2 fc3 fc4
          replace st := ((st.set 5 7 (.bool true) rfl).set 5 8 (.int .u64 (s.data : Int)) rfl).name; obtain ⟨V5, hV, st⟩ := st; rw [hV]; clear hV
          have fc0 := (st.box 5 rfl).f9; have fc1 := (st.box 4 rfl).f3; have fc2 := (st.box 3 rfl).f9; have fc3 := (st.box 2 rfl).f4; have fc4 := (st.box 0 rfl).f4
          clear fc0 fc1 fc2 fc3 fc4
          replace st := st.put9 3 (.string g.b0) (.string g.b1) (.int .i64 g.e0) (.int .i64 g.e1) (.int .i64 g.lim) (.int .i64 l.acked) (.int .u64 (l.last : Int)) (.bool true) (.int .u64 (s.data : Int)) rfl; obtain ⟨V6, hV, st⟩ := st; rw [hV]; clear hV
          have fc0 := (st.box 5 rfl).f9; have fc1 := (st.box 4 rfl).f3; have fc2 := (st.box 3 rfl).f9; have fc3 := (st.box 2 rfl).f4; have fc4 := (st.box 0 rfl).f4
          exact bodyPost_ret (v := .agg #[.string g.b0, .string g.b1, .int .i64 g.e0, .int .i64 g.e1, .int .i64 g.lim, .int .i64 l.acked, .int .u64 (l.last : Int), .bool true, .int .u64 (s.data : Int)]) (by simp [results, Tryz.results29, go_sem, fc0, fc1, fc2, fc3, fc4]) rfl ⟨rfl, st.lo⟩
  · rw [if_neg hh] at HY
    have HY2 := HY.symm
    clear HY
    subst HY2
    have m1 : (h != 0) = true := bne_iff_ne.2 hh
    clear hh ha
    go_wp2
    clear fc0 fc1 fc2 fc3
    replace st := st.put9 2 (.string l.f.b0) (.string l.f.b1) (.int .i64 l.f.e0) (.int .i64 l.f.e1) (.int .i64 l.f.lim) (.int .i64 l.acked) (.int .u64 (l.last : Int)) (.bool l.flying) (.int .u64 (l.flight : Int)) rfl; obtain ⟨V3, hV, st⟩ := st; rw [hV]; clear hV
    have fc0 := (st.box 4 rfl).f9; have fc1 := (st.box 3 rfl).f3; have fc2 := (st.box 2 rfl).f9; have fc3 := (st.box 0 rfl).f5
    exact bodyPost_ret (v := .agg #[.string l.f.b0, .string l.f.b1, .int .i64 l.f.e0, .int .i64 l.f.e1, .int .i64 l.f.lim, .int .i64 l.acked, .int .u64 (l.last : Int), .bool l.flying, .int .u64 (l.flight : Int)]) (by simp [results, Tryz.results29, go_sem, fc0, fc1, fc2, fc3]) rfl ⟨rfl, st.lo⟩

end Go.Proofs.YthmpjoiifglbjaaGreat

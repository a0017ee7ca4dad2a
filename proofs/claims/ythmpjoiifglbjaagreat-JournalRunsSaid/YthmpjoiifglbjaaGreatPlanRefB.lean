/- The document's own plan, by contract: no statement is proved here. -/
import Derived.Test.YthmpjoiifglbjaaGreatPlanRef
namespace Go.Proofs.YthmpjoiifglbjaaGreat
open Go.RowKit
set_option linter.unusedVariables false
set_option linter.unusedSimpArgs false

set_option maxRecDepth 100000 in
set_option maxHeartbeats 8000000 in
theorem ref11fresh0 (f : Fl) (g seq d : Nat) (W : World) (hf : f.ok) (hg : g < 18446744073709551616) (hs : seq < 18446744073709551616) (hd : d < 18446744073709551616) :
    Calls Tryz.prog 41 #[.agg #[.string f.b0, .string f.b1, .int .i64 f.e0, .int .i64 f.e1, .int .i64 f.lim], .int .i64 0, .int .u64 (g : Int), .int .u64 (seq : Int), .int .u64 (d : Int)] W fun e W' => ∃ (A : Option Addr) (c : Nat), e = .returned (.slice A (freshL 0 (goodH f 0) g seq d).length c) ∧ OpsAt W' A (freshL 0 (goodH f 0) g seq d) ∧ ((freshL 0 (goodH f 0) g seq d).length ≤ c ∧ c ≤ maxLen) ∧ Below W.heap.size W W' := by
  have TS := Lib.hid (fun (V : World) => ref08State f.b0 0 V hf.s0 ⟨by decide, by decide⟩)
  have TF := Lib.hid (fun (kill : Bool) (V : World) => ref11Fresh 0 kill g seq d V hg hs hd)
  rw [show goodH f 0 = (stateF f.b0 0 == 2) from rfl]
  generalize stateF f.b0 0 = z at *
  clear hf hg hs hd
  have st := Bs.in1 W 35 [.string f.b0, .string f.b1, .int .i64 f.e0, .int .i64 f.e1, .int .i64 f.lim]
  go_enter Tryz.func41, Tryz.ntmps41
  have fc := (st.box 0 rfl).f5
  go_wp2_with fail; refine callB st (TS.out _) ?_; clear st fc; intro V1 st
  have fc := (st.box 0 rfl).f5
  go_wp2_with fail; refine (TF.out _ _).mono ?_; rintro e V2 ⟨A, c, rfl, hA, hc, hk⟩
  clear fc
  replace st := st.seq hk
  clear hk
  have fc := (st.box 0 rfl).f5
  go_wp2
  go_ret
  exact ⟨A, c, rfl, hA, hc, st.lo⟩

set_option maxRecDepth 100000 in
set_option maxHeartbeats 8000000 in
theorem ref11fresh1 (f : Fl) (g seq d : Nat) (W : World) (hf : f.ok) (hg : g < 18446744073709551616) (hs : seq < 18446744073709551616) (hd : d < 18446744073709551616) :
    Calls Tryz.prog 41 #[.agg #[.string f.b0, .string f.b1, .int .i64 f.e0, .int .i64 f.e1, .int .i64 f.lim], .int .i64 1, .int .u64 (g : Int), .int .u64 (seq : Int), .int .u64 (d : Int)] W fun e W' => ∃ (A : Option Addr) (c : Nat), e = .returned (.slice A (freshL 1 (goodH f 1) g seq d).length c) ∧ OpsAt W' A (freshL 1 (goodH f 1) g seq d) ∧ ((freshL 1 (goodH f 1) g seq d).length ≤ c ∧ c ≤ maxLen) ∧ Below W.heap.size W W' := by
  have TS := Lib.hid (fun (V : World) => ref08State f.b1 0 V hf.s1 ⟨by decide, by decide⟩)
  have TF := Lib.hid (fun (kill : Bool) (V : World) => ref11Fresh 1 kill g seq d V hg hs hd)
  rw [show goodH f 1 = (stateF f.b1 0 == 2) from rfl]
  generalize stateF f.b1 0 = z at *
  clear hf hg hs hd
  have st := Bs.in1 W 35 [.string f.b0, .string f.b1, .int .i64 f.e0, .int .i64 f.e1, .int .i64 f.lim]
  go_enter Tryz.func41, Tryz.ntmps41
  have fc := (st.box 0 rfl).f5
  go_wp2_with fail; refine callB st (TS.out _) ?_; clear st fc; intro V1 st
  have fc := (st.box 0 rfl).f5
  go_wp2_with fail; refine (TF.out _ _).mono ?_; rintro e V2 ⟨A, c, rfl, hA, hc, hk⟩
  clear fc
  replace st := st.seq hk
  clear hk
  have fc := (st.box 0 rfl).f5
  go_wp2
  go_ret
  exact ⟨A, c, rfl, hA, hc, st.lo⟩

theorem none_ops (W : World) : OpsAt W none [] := fun h => absurd h (by decide)
theorem u64_next {q : Nat} (h : q < 18446744073709551615) : IntKind.u64.wrap ((q : Int) + 1) = ((q + 1 : Nat) : Int) := by simp [IntKind.wrap, IntKind.bits, IntKind.signed]; omega
theorem u64_nottop {q : Nat} (h : q ≠ topN) (hq : q < 18446744073709551616) : ((q : Int) == 18446744073709551615) = false ∧ q < 18446744073709551615 := by unfold topN at h; exact ⟨beq_eq_false_iff_ne.2 (by omega), by omega⟩

set_option maxRecDepth 100000 in
set_option maxHeartbeats 8000000 in
theorem ref11Plan (f : Fl) (d : Nat) (W : World) (hf : f.ok) (hd : d < 18446744073709551616) :
    Calls Tryz.prog 26 #[.agg #[.string f.b0, .string f.b1, .int .i64 f.e0, .int .i64 f.e1, .int .i64 f.lim], .int .u64 (d : Int)] W fun e W' => ∃ (A : Option Addr) (c : Nat), e = .returned (.tuple #[.slice A (planR f d).1.length c, .int .i64 (planR f d).2]) ∧ OpsAt W' A (planR f d).1 ∧ ((planR f d).1.length ≤ c ∧ c ≤ maxLen) ∧ Below W.heap.size W W' := by
  have TE := Lib.hid (fun (V : World) => ref10Even f V hf)
  have TR := Lib.hid (fun (V : World) => ref10Read f V hf)
  by_cases hE : evenF f = false
  · have HP : planR f d = ([], 1) := if_pos hE
    rw [HP]
    rw [hE] at TE
    clear HP hE
    have st := Bs.in1 W 35 [.string f.b0, .string f.b1, .int .i64 f.e0, .int .i64 f.e1, .int .i64 f.lim]
    go_enter Tryz.func26, Tryz.ntmps26
    have fc := (st.box 0 rfl).f5
    go_wp2_with fail; refine callB st (TE.out _) ?_; clear st fc; intro V1 st
    have fc := (st.box 0 rfl).f5
    go_wp2
    clear fc
    go_ret2
    exact ⟨none, 0, rfl, none_ops _, ⟨by decide, by decide⟩, st.lo⟩
  · have hE2 : evenF f = true := by cases h : evenF f with
      | false => exact absurd h hE
      | true => rfl
    rw [hE2] at TE
    have T0 := Lib.hid (fun (g q : Nat) (hg : g < 18446744073709551616) (hq : q < 18446744073709551616) (V : World) => ref11fresh0 f g q d V hf hg hq hd)
    have T1 := Lib.hid (fun (g q : Nat) (hg : g < 18446744073709551616) (hq : q < 18446744073709551616) (V : World) => ref11fresh1 f g q d V hf hg hq hd)
    by_cases hb : bankK f < 0
    · have he : pickE f = 10 := if_pos hb
      rw [he, pickS_none hb] at TR
      dsimp only at TR
      clear he
      by_cases h0 : f.e0 < f.lim
      · have HP : planR f d = (freshL 0 (goodH f 0) 1 1 d, 0) := by unfold planR; rw [if_neg hE, if_pos hb, if_pos h0]
        rw [HP]
        clear HP hE hb T1
        have st := Bs.in1 W 35 [.string f.b0, .string f.b1, .int .i64 f.e0, .int .i64 f.e1, .int .i64 f.lim]
        go_enter Tryz.func26, Tryz.ntmps26
        have fc := (st.box 0 rfl).f5
        go_wp2_with fail; refine callB st (TE.out _) ?_; clear st fc; intro V1 st
        have fc := (st.box 0 rfl).f5
        go_wp2_with fail; refine callB st (TR.out _) ?_; clear st fc; intro V2 st
        have fc := (st.box 0 rfl).f5
        replace st := st.alloc 58 [.int .i64 0, .int .u64 0, .int .u64 0, .int .u64 0]
        replace fc := And.intro (st.box 1 rfl).f5 (st.box 0 rfl).f4
        go_wp2_with fail; refine (T0.out 1 1 (by decide) (by decide) _).mono ?_; rintro e V3 ⟨A, c, rfl, hA, hc, hk⟩
        clear fc
        replace st := st.seq hk
        clear hk
        have fc := And.intro (st.box 1 rfl).f5 (st.box 0 rfl).f4
        go_wp2
        clear fc
        go_ret2
        exact ⟨A, c, rfl, hA, hc, st.lo⟩
      · by_cases h1 : f.e1 < f.lim
        · have HP : planR f d = (freshL 1 (goodH f 1) 1 1 d, 0) := by unfold planR; rw [if_neg hE, if_pos hb, if_neg h0, if_pos h1]
          rw [HP]
          clear HP hE hb T0
          have st := Bs.in1 W 35 [.string f.b0, .string f.b1, .int .i64 f.e0, .int .i64 f.e1, .int .i64 f.lim]
          go_enter Tryz.func26, Tryz.ntmps26
          have fc := (st.box 0 rfl).f5
          go_wp2_with fail; refine callB st (TE.out _) ?_; clear st fc; intro V1 st
          have fc := (st.box 0 rfl).f5
          go_wp2_with fail; refine callB st (TR.out _) ?_; clear st fc; intro V2 st
          have fc := (st.box 0 rfl).f5
          replace st := st.alloc 58 [.int .i64 0, .int .u64 0, .int .u64 0, .int .u64 0]
          replace fc := And.intro (st.box 1 rfl).f5 (st.box 0 rfl).f4
          go_wp2_with fail; refine (T1.out 1 1 (by decide) (by decide) _).mono ?_; rintro e V3 ⟨A, c, rfl, hA, hc, hk⟩
          clear fc
          replace st := st.seq hk
          clear hk
          have fc := And.intro (st.box 1 rfl).f5 (st.box 0 rfl).f4
          go_wp2
          clear fc
          go_ret2
          exact ⟨A, c, rfl, hA, hc, st.lo⟩
        · have HP : planR f d = ([], 4) := by unfold planR; rw [if_neg hE, if_pos hb, if_neg h0, if_neg h1]
          rw [HP]
          clear HP hE hb T0 T1
          have st := Bs.in1 W 35 [.string f.b0, .string f.b1, .int .i64 f.e0, .int .i64 f.e1, .int .i64 f.lim]
          go_enter Tryz.func26, Tryz.ntmps26
          have fc := (st.box 0 rfl).f5
          go_wp2_with fail; refine callB st (TE.out _) ?_; clear st fc; intro V1 st
          have fc := (st.box 0 rfl).f5
          go_wp2_with fail; refine callB st (TR.out _) ?_; clear st fc; intro V2 st
          have fc := (st.box 0 rfl).f5
          replace st := st.alloc 58 [.int .i64 0, .int .u64 0, .int .u64 0, .int .u64 0]
          replace fc := And.intro (st.box 1 rfl).f5 (st.box 0 rfl).f4
          go_wp2
          clear fc
          go_ret2
          exact ⟨none, 0, rfl, none_ops _, ⟨by decide, by decide⟩, st.lo⟩
    · have he : pickE f = 0 := if_neg hb
      rw [he] at TR
      have hq := pickS_seq_lt f
      have hg : (pickS f).gen < 18446744073709551616 := by rw [pickS_some (by have := bankK_cases f; omega)]; exact genN_lt _
      have hpb : (pickS f).bank = bankK f := by rw [pickS_some (by have := bankK_cases f; omega)]
      have HPL : planR f d = if (pickS f).seq = topN then ([], 11) else if 0 < nextF (f.bank (bankK f)) then (appL (bankK f) (nextF (f.bank (bankK f)) : Int) ((pickS f).seq + 1) d, 0) else if (pickS f).gen = topN then ([], 11) else if f.lim ≤ f.erases (otherN (bankK f)) then ([], 4) else (freshL (otherN (bankK f)) (goodH f (otherN (bankK f))) ((pickS f).gen + 1) ((pickS f).seq + 1) d, 0) := by unfold planR; rw [if_neg hE, if_neg hb]
      clear he hE
      have hk := bankK_cases f
      generalize bankK f = k at *
      generalize pickS f = p at *
      obtain ⟨pb, pg, pq, px⟩ := p
      dsimp only at *
      subst hpb
      rcases (show pb = 0 ∨ pb = 1 from by omega) with rfl | rfl
      · rw [show otherN 0 = 1 from rfl, show f.bank 0 = f.b0 from rfl, show f.erases 1 = f.e1 from rfl] at HPL
        have TN := Lib.hid (fun (V : World) => ref09Next f.b0 V hf.s0)
        have TO := Lib.hid (fun (V : World) => (show Calls Tryz.prog 44 #[.int .i64 0] V fun e W' => e = .returned (.int .i64 1) ∧ W' = V from ref10Other 0 V))
        clear hb hk T0
        generalize nextF f.b0 = nx at *
        by_cases h1 : pq = topN
        · rw [if_pos h1] at HPL
          rw [HPL]
          have m1 : pq = 18446744073709551615 := h1
          subst m1
          clear HPL h1 hq
          rw [show ((18446744073709551615 : Nat) : Int) = 18446744073709551615 from rfl] at TR
          have st := Bs.in1 W 35 [.string f.b0, .string f.b1, .int .i64 f.e0, .int .i64 f.e1, .int .i64 f.lim]
          go_enter Tryz.func26, Tryz.ntmps26
          have fc := (st.box 0 rfl).f5
          go_wp2_with fail; refine callB st (TE.out _) ?_; clear st fc; intro V1 st
          have fc := (st.box 0 rfl).f5
          go_wp2_with fail; refine callB st (TR.out _) ?_; clear st fc; intro V2 st
          have fc := (st.box 0 rfl).f5
          replace st := st.alloc 58 [.int .i64 0, .int .u64 (pg : Int), .int .u64 18446744073709551615, .int .u64 (px : Int)]
          replace fc := And.intro (st.box 1 rfl).f5 (st.box 0 rfl).f4
          go_wp2
          clear fc
          go_ret2
          exact ⟨none, 0, rfl, none_ops _, ⟨by decide, by decide⟩, st.lo⟩
        · obtain ⟨m1, hq1⟩ := u64_nottop h1 hq
          have w1 := u64_next hq1
          rw [if_neg h1] at HPL
          clear h1 hq
          by_cases h2 : 0 < nx
          · rw [if_pos h2] at HPL
            rw [HPL]
            have m2 : (nx : Int) > 0 := by omega
            have TA := Lib.hid (fun (V : World) => ref11Append 0 (nx : Int) (pq + 1) d V (by omega) hd)
            clear HPL h2 T1 hd
            have st := Bs.in1 W 35 [.string f.b0, .string f.b1, .int .i64 f.e0, .int .i64 f.e1, .int .i64 f.lim]
            go_enter Tryz.func26, Tryz.ntmps26
            have fc := (st.box 0 rfl).f5
            go_wp2_with fail; refine callB st (TE.out _) ?_; clear st fc; intro V1 st
            have fc := (st.box 0 rfl).f5
            go_wp2_with fail; refine callB st (TR.out _) ?_; clear st fc; intro V2 st
            have fc := (st.box 0 rfl).f5
            replace st := st.alloc 58 [.int .i64 0, .int .u64 (pg : Int), .int .u64 (pq : Int), .int .u64 (px : Int)]
            replace fc := And.intro (st.box 1 rfl).f5 (st.box 0 rfl).f4
            go_wp2_with fail; refine callB st (TN.out _) ?_; clear st fc; intro V3 st
            have fc := And.intro (st.box 1 rfl).f5 (st.box 0 rfl).f4
            go_wp2_with fail; refine (TA.out  _).mono ?_; rintro e V4 ⟨A, c, rfl, hA, hc, hk⟩
            clear fc
            replace st := st.seq hk
            clear hk
            have fc := And.intro (st.box 1 rfl).f5 (st.box 0 rfl).f4
            go_wp2
            clear fc
            go_ret2
            exact ⟨A, c, rfl, hA, hc, st.lo⟩
          · rw [if_neg h2] at HPL
            have m2 : ¬ (nx : Int) > 0 := by omega
            clear h2
            by_cases h3 : pg = topN
            · rw [if_pos h3] at HPL
              rw [HPL]
              have m3 : pg = 18446744073709551615 := h3
              subst m3
              rw [show ((18446744073709551615 : Nat) : Int) = 18446744073709551615 from rfl] at TR
              clear HPL h3 hg hd T1
              have st := Bs.in1 W 35 [.string f.b0, .string f.b1, .int .i64 f.e0, .int .i64 f.e1, .int .i64 f.lim]
              go_enter Tryz.func26, Tryz.ntmps26
              have fc := (st.box 0 rfl).f5
              go_wp2_with fail; refine callB st (TE.out _) ?_; clear st fc; intro V1 st
              have fc := (st.box 0 rfl).f5
              go_wp2_with fail; refine callB st (TR.out _) ?_; clear st fc; intro V2 st
              have fc := (st.box 0 rfl).f5
              replace st := st.alloc 58 [.int .i64 0, .int .u64 18446744073709551615, .int .u64 (pq : Int), .int .u64 (px : Int)]
              replace fc := And.intro (st.box 1 rfl).f5 (st.box 0 rfl).f4
              go_wp2_with fail; refine callB st (TN.out _) ?_; clear st fc; intro V3 st
              have fc := And.intro (st.box 1 rfl).f5 (st.box 0 rfl).f4
              go_wp2_with fail; refine callQ (TO.out _) ?_
              go_wp2
              clear fc
              go_ret2
              exact ⟨none, 0, rfl, none_ops _, ⟨by decide, by decide⟩, st.lo⟩
            · obtain ⟨m3, hg1⟩ := u64_nottop h3 hg
              have w2 := u64_next hg1
              rw [if_neg h3] at HPL
              clear h3 hg
              by_cases h4 : f.lim ≤ f.e1
              · rw [if_pos h4] at HPL
                rw [HPL]
                have m4 : f.e1 ≥ f.lim := h4
                clear HPL h4 hd T1
                have st := Bs.in1 W 35 [.string f.b0, .string f.b1, .int .i64 f.e0, .int .i64 f.e1, .int .i64 f.lim]
                go_enter Tryz.func26, Tryz.ntmps26
                have fc := (st.box 0 rfl).f5
                go_wp2_with fail; refine callB st (TE.out _) ?_; clear st fc; intro V1 st
                have fc := (st.box 0 rfl).f5
                go_wp2_with fail; refine callB st (TR.out _) ?_; clear st fc; intro V2 st
                have fc := (st.box 0 rfl).f5
                replace st := st.alloc 58 [.int .i64 0, .int .u64 (pg : Int), .int .u64 (pq : Int), .int .u64 (px : Int)]
                replace fc := And.intro (st.box 1 rfl).f5 (st.box 0 rfl).f4
                go_wp2_with fail; refine callB st (TN.out _) ?_; clear st fc; intro V3 st
                have fc := And.intro (st.box 1 rfl).f5 (st.box 0 rfl).f4
                go_wp2_with fail; refine callQ (TO.out _) ?_
                go_wp2_with fail
                clear fc
                replace st := st.drew
                refine rh (fun w => C5 w (W.heap.size) (.string f.b0) (.string f.b1) (.int .i64 f.e0) (.int .i64 f.e1) (.int .i64 f.lim)) ((st.box 1 rfl).c5) fun hHeld => ?_
                generalize V3.drew = V4 at *
                refine tq 0 ?_; refine tq 1 ?_; refine tq 2 ?_; refine tq 3 ?_; refine tq 4 ?_; refine tq 5 ?_; refine tq 6 ?_
                try simp only [Act.put, l1, l2, l3, l4, l5, l6]
                refine wpAnyH_done (by kernel_rfl) ?_ _; clear hHeld
                have fc := And.intro (st.box 1 rfl).f5 (st.box 0 rfl).f4
                go_wp2
                clear fc
                go_ret2
                exact ⟨none, 0, rfl, none_ops _, ⟨by decide, by decide⟩, st.lo⟩
              · rw [if_neg h4] at HPL
                rw [HPL]
                have m4 : ¬ f.e1 ≥ f.lim := h4
                have TF := Lib.hid (fun (V : World) => T1.out (pg + 1) (pq + 1) (by omega) (by omega) V)
                clear HPL h4 hd T1
                have st := Bs.in1 W 35 [.string f.b0, .string f.b1, .int .i64 f.e0, .int .i64 f.e1, .int .i64 f.lim]
                go_enter Tryz.func26, Tryz.ntmps26
                have fc := (st.box 0 rfl).f5
                go_wp2_with fail; refine callB st (TE.out _) ?_; clear st fc; intro V1 st
                have fc := (st.box 0 rfl).f5
                go_wp2_with fail; refine callB st (TR.out _) ?_; clear st fc; intro V2 st
                have fc := (st.box 0 rfl).f5
                replace st := st.alloc 58 [.int .i64 0, .int .u64 (pg : Int), .int .u64 (pq : Int), .int .u64 (px : Int)]
                replace fc := And.intro (st.box 1 rfl).f5 (st.box 0 rfl).f4
                go_wp2_with fail; refine callB st (TN.out _) ?_; clear st fc; intro V3 st
                have fc := And.intro (st.box 1 rfl).f5 (st.box 0 rfl).f4
                go_wp2_with fail; refine callQ (TO.out _) ?_
                go_wp2_with fail
                clear fc
                replace st := st.drew
                refine rh (fun w => C5 w (W.heap.size) (.string f.b0) (.string f.b1) (.int .i64 f.e0) (.int .i64 f.e1) (.int .i64 f.lim)) ((st.box 1 rfl).c5) fun hHeld => ?_
                generalize V3.drew = V4 at *
                refine tq 0 ?_; refine tq 1 ?_; refine tq 2 ?_; refine tq 3 ?_; refine tq 4 ?_; refine tq 5 ?_; refine tq 6 ?_
                try simp only [Act.put, l1, l2, l3, l4, l5, l6]
                refine wpAnyH_done (by kernel_rfl) ?_ _; clear hHeld
                have fc := And.intro (st.box 1 rfl).f5 (st.box 0 rfl).f4
                go_wp2_with fail; refine (TF.out  _).mono ?_; rintro e V5 ⟨A, c, rfl, hA, hc, hk⟩
                clear fc
                replace st := st.seq hk
                clear hk
                have fc := And.intro (st.box 1 rfl).f5 (st.box 0 rfl).f4
                go_wp2
                clear fc
                go_ret2
                exact ⟨A, c, rfl, hA, hc, st.lo⟩
      · rw [show otherN 1 = 0 from rfl, show f.bank 1 = f.b1 from rfl, show f.erases 0 = f.e0 from rfl] at HPL
        have TN := Lib.hid (fun (V : World) => ref09Next f.b1 V hf.s1)
        have TO := Lib.hid (fun (V : World) => (show Calls Tryz.prog 44 #[.int .i64 1] V fun e W' => e = .returned (.int .i64 0) ∧ W' = V from ref10Other 1 V))
        clear hb hk T1
        generalize nextF f.b1 = nx at *
        by_cases h1 : pq = topN
        · rw [if_pos h1] at HPL
          rw [HPL]
          have m1 : pq = 18446744073709551615 := h1
          subst m1
          clear HPL h1 hq
          rw [show ((18446744073709551615 : Nat) : Int) = 18446744073709551615 from rfl] at TR
          have st := Bs.in1 W 35 [.string f.b0, .string f.b1, .int .i64 f.e0, .int .i64 f.e1, .int .i64 f.lim]
          go_enter Tryz.func26, Tryz.ntmps26
          have fc := (st.box 0 rfl).f5
          go_wp2_with fail; refine callB st (TE.out _) ?_; clear st fc; intro V1 st
          have fc := (st.box 0 rfl).f5
          go_wp2_with fail; refine callB st (TR.out _) ?_; clear st fc; intro V2 st
          have fc := (st.box 0 rfl).f5
          replace st := st.alloc 58 [.int .i64 1, .int .u64 (pg : Int), .int .u64 18446744073709551615, .int .u64 (px : Int)]
          replace fc := And.intro (st.box 1 rfl).f5 (st.box 0 rfl).f4
          go_wp2
          clear fc
          go_ret2
          exact ⟨none, 0, rfl, none_ops _, ⟨by decide, by decide⟩, st.lo⟩
        · obtain ⟨m1, hq1⟩ := u64_nottop h1 hq
          have w1 := u64_next hq1
          rw [if_neg h1] at HPL
          clear h1 hq
          by_cases h2 : 0 < nx
          · rw [if_pos h2] at HPL
            rw [HPL]
            have m2 : (nx : Int) > 0 := by omega
            have TA := Lib.hid (fun (V : World) => ref11Append 1 (nx : Int) (pq + 1) d V (by omega) hd)
            clear HPL h2 T0 hd
            have st := Bs.in1 W 35 [.string f.b0, .string f.b1, .int .i64 f.e0, .int .i64 f.e1, .int .i64 f.lim]
            go_enter Tryz.func26, Tryz.ntmps26
            have fc := (st.box 0 rfl).f5
            go_wp2_with fail; refine callB st (TE.out _) ?_; clear st fc; intro V1 st
            have fc := (st.box 0 rfl).f5
            go_wp2_with fail; refine callB st (TR.out _) ?_; clear st fc; intro V2 st
            have fc := (st.box 0 rfl).f5
            replace st := st.alloc 58 [.int .i64 1, .int .u64 (pg : Int), .int .u64 (pq : Int), .int .u64 (px : Int)]
            replace fc := And.intro (st.box 1 rfl).f5 (st.box 0 rfl).f4
            go_wp2_with fail; refine callB st (TN.out _) ?_; clear st fc; intro V3 st
            have fc := And.intro (st.box 1 rfl).f5 (st.box 0 rfl).f4
            go_wp2_with fail; refine (TA.out  _).mono ?_; rintro e V4 ⟨A, c, rfl, hA, hc, hk⟩
            clear fc
            replace st := st.seq hk
            clear hk
            have fc := And.intro (st.box 1 rfl).f5 (st.box 0 rfl).f4
            go_wp2
            clear fc
            go_ret2
            exact ⟨A, c, rfl, hA, hc, st.lo⟩
          · rw [if_neg h2] at HPL
            have m2 : ¬ (nx : Int) > 0 := by omega
            clear h2
            by_cases h3 : pg = topN
            · rw [if_pos h3] at HPL
              rw [HPL]
              have m3 : pg = 18446744073709551615 := h3
              subst m3
              rw [show ((18446744073709551615 : Nat) : Int) = 18446744073709551615 from rfl] at TR
              clear HPL h3 hg hd T0
              have st := Bs.in1 W 35 [.string f.b0, .string f.b1, .int .i64 f.e0, .int .i64 f.e1, .int .i64 f.lim]
              go_enter Tryz.func26, Tryz.ntmps26
              have fc := (st.box 0 rfl).f5
              go_wp2_with fail; refine callB st (TE.out _) ?_; clear st fc; intro V1 st
              have fc := (st.box 0 rfl).f5
              go_wp2_with fail; refine callB st (TR.out _) ?_; clear st fc; intro V2 st
              have fc := (st.box 0 rfl).f5
              replace st := st.alloc 58 [.int .i64 1, .int .u64 18446744073709551615, .int .u64 (pq : Int), .int .u64 (px : Int)]
              replace fc := And.intro (st.box 1 rfl).f5 (st.box 0 rfl).f4
              go_wp2_with fail; refine callB st (TN.out _) ?_; clear st fc; intro V3 st
              have fc := And.intro (st.box 1 rfl).f5 (st.box 0 rfl).f4
              go_wp2_with fail; refine callQ (TO.out _) ?_
              go_wp2
              clear fc
              go_ret2
              exact ⟨none, 0, rfl, none_ops _, ⟨by decide, by decide⟩, st.lo⟩
            · obtain ⟨m3, hg1⟩ := u64_nottop h3 hg
              have w2 := u64_next hg1
              rw [if_neg h3] at HPL
              clear h3 hg
              by_cases h4 : f.lim ≤ f.e0
              · rw [if_pos h4] at HPL
                rw [HPL]
                have m4 : f.e0 ≥ f.lim := h4
                clear HPL h4 hd T0
                have st := Bs.in1 W 35 [.string f.b0, .string f.b1, .int .i64 f.e0, .int .i64 f.e1, .int .i64 f.lim]
                go_enter Tryz.func26, Tryz.ntmps26
                have fc := (st.box 0 rfl).f5
                go_wp2_with fail; refine callB st (TE.out _) ?_; clear st fc; intro V1 st
                have fc := (st.box 0 rfl).f5
                go_wp2_with fail; refine callB st (TR.out _) ?_; clear st fc; intro V2 st
                have fc := (st.box 0 rfl).f5
                replace st := st.alloc 58 [.int .i64 1, .int .u64 (pg : Int), .int .u64 (pq : Int), .int .u64 (px : Int)]
                replace fc := And.intro (st.box 1 rfl).f5 (st.box 0 rfl).f4
                go_wp2_with fail; refine callB st (TN.out _) ?_; clear st fc; intro V3 st
                have fc := And.intro (st.box 1 rfl).f5 (st.box 0 rfl).f4
                go_wp2_with fail; refine callQ (TO.out _) ?_
                go_wp2_with fail
                clear fc
                replace st := st.drew
                refine rh (fun w => C5 w (W.heap.size) (.string f.b0) (.string f.b1) (.int .i64 f.e0) (.int .i64 f.e1) (.int .i64 f.lim)) ((st.box 1 rfl).c5) fun hHeld => ?_
                generalize V3.drew = V4 at *
                refine tq 0 ?_; refine tq 1 ?_; refine tq 2 ?_; refine tq 3 ?_; refine tq 4 ?_; refine tq 5 ?_; refine tq 6 ?_
                try simp only [Act.put, l1, l2, l3, l4, l5, l6]
                refine wpAnyH_done (by kernel_rfl) ?_ _; clear hHeld
                have fc := And.intro (st.box 1 rfl).f5 (st.box 0 rfl).f4
                go_wp2
                clear fc
                go_ret2
                exact ⟨none, 0, rfl, none_ops _, ⟨by decide, by decide⟩, st.lo⟩
              · rw [if_neg h4] at HPL
                rw [HPL]
                have m4 : ¬ f.e0 ≥ f.lim := h4
                have TF := Lib.hid (fun (V : World) => T0.out (pg + 1) (pq + 1) (by omega) (by omega) V)
                clear HPL h4 hd T0
                have st := Bs.in1 W 35 [.string f.b0, .string f.b1, .int .i64 f.e0, .int .i64 f.e1, .int .i64 f.lim]
                go_enter Tryz.func26, Tryz.ntmps26
                have fc := (st.box 0 rfl).f5
                go_wp2_with fail; refine callB st (TE.out _) ?_; clear st fc; intro V1 st
                have fc := (st.box 0 rfl).f5
                go_wp2_with fail; refine callB st (TR.out _) ?_; clear st fc; intro V2 st
                have fc := (st.box 0 rfl).f5
                replace st := st.alloc 58 [.int .i64 1, .int .u64 (pg : Int), .int .u64 (pq : Int), .int .u64 (px : Int)]
                replace fc := And.intro (st.box 1 rfl).f5 (st.box 0 rfl).f4
                go_wp2_with fail; refine callB st (TN.out _) ?_; clear st fc; intro V3 st
                have fc := And.intro (st.box 1 rfl).f5 (st.box 0 rfl).f4
                go_wp2_with fail; refine callQ (TO.out _) ?_
                go_wp2_with fail
                clear fc
                replace st := st.drew
                refine rh (fun w => C5 w (W.heap.size) (.string f.b0) (.string f.b1) (.int .i64 f.e0) (.int .i64 f.e1) (.int .i64 f.lim)) ((st.box 1 rfl).c5) fun hHeld => ?_
                generalize V3.drew = V4 at *
                refine tq 0 ?_; refine tq 1 ?_; refine tq 2 ?_; refine tq 3 ?_; refine tq 4 ?_; refine tq 5 ?_; refine tq 6 ?_
                try simp only [Act.put, l1, l2, l3, l4, l5, l6]
                refine wpAnyH_done (by kernel_rfl) ?_ _; clear hHeld
                have fc := And.intro (st.box 1 rfl).f5 (st.box 0 rfl).f4
                go_wp2_with fail; refine (TF.out  _).mono ?_; rintro e V5 ⟨A, c, rfl, hA, hc, hk⟩
                clear fc
                replace st := st.seq hk
                clear hk
                have fc := And.intro (st.box 1 rfl).f5 (st.box 0 rfl).f4
                go_wp2
                clear fc
                go_ret2
                exact ⟨A, c, rfl, hA, hc, st.lo⟩

end Go.Proofs.YthmpjoiifglbjaaGreat

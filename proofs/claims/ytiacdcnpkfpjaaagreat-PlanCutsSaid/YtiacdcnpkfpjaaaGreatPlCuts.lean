/- Of an append that is cut anywhere, torn by any mask, the state that is read is the one ahead of it, or the new one (PlanCuts); no condition. -/
import Derived.Test.YtiacdcnpkfpjaaaGreatPlanLaw
import Derived.Deep.RegionHeld3
import Derived.WalkLawsBesides
import Derived.WalkSpells
import Derived.IntWalk
import Derived.Lib.Hide
import Derived.Test.YtiacdcnpkfpjaaaGreatBox
import Derived.ProofKit
import Derived.OpenShut
import Derived.ChangeMaps5
import Derived.Test.YtiacdcnpkfpjaaaGreatInts
namespace Go.Proofs.YtiacdcnpkfpjaaaGreat.PlanCuts
open Go.ChangeShapes Go.WideShapes Go.ChangeAt Go.RowKit Go.ChangeMaps
set_option linter.unusedVariables false
set_option linter.unusedSimpArgs false

set_option maxRecDepth 100000 in
set_option maxHeartbeats 16000000 in
theorem walk (f : Fl) (d : BitVec 64) (cut : Int) (m : ByteArray) (W : World) (hf : f.ok) (hcut : -9223372036854775808 ≤ cut ∧ cut ≤ 9223372036854775807) (hm : m.size ≤ maxLen) :
    Calls Tryz.prog 4 #[.agg #[.string f.b0, .string f.b1, .int .i64 f.e0, .int .i64 f.e1, .int .i64 f.lim], .int .u64 (d.toNat : Int), .int .i64 cut, .string m] W fun e W' => e = .returned (.bool true) ∧ Below W.heap.size W W' := by
  by_cases hm5 : 500 < m.size
  · have m0 : (m.size : Int) > 500 := by omega
    have TBg := Lib.hid (fun (V : World) => law11Big f V)
    cases hbg : big11 f
    · rw [hbg] at TBg
      clear hbg hm5
      have hB : Below W.heap.size W (W.alloc (.cells #[.string f.b0, .string f.b1, .int .i64 f.e0, .int .i64 f.e1, .int .i64 f.lim] 25)) := ((Below.refl _ _).alloc (Nat.le_refl _) _)
      have xf := (Box.new 25 W [.string f.b0, .string f.b1, .int .i64 f.e0, .int .i64 f.e1, .int .i64 f.lim])
      go_enter Tryz.func4, Tryz.ntmps4
      have cxf := xf.f5
      go_wp2_with fail
      refine (TBg.out _).mono ?_
      rintro e V1 ⟨rfl, hk⟩
      clear cxf
      replace hB := below_seq hB hk
      replace xf := xf.seq hk
      clear hk
      have cxf := xf.f5
      go_wp2_with fail
      refine (shown11 _).mono ?_
      rintro e V2 ⟨rfl, hk⟩
      clear cxf
      replace hB := below_seq hB hk
      replace xf := xf.seq hk
      clear hk
      have cxf := xf.f5
      go_wp2
      go_ret
      exact ⟨rfl, hB⟩
    · rw [hbg] at TBg
      clear hbg hm5
      have hB : Below W.heap.size W (W.alloc (.cells #[.string f.b0, .string f.b1, .int .i64 f.e0, .int .i64 f.e1, .int .i64 f.lim] 25)) := ((Below.refl _ _).alloc (Nat.le_refl _) _)
      have xf := (Box.new 25 W [.string f.b0, .string f.b1, .int .i64 f.e0, .int .i64 f.e1, .int .i64 f.lim])
      go_enter Tryz.func4, Tryz.ntmps4
      have cxf := xf.f5
      go_wp2_with fail
      refine (TBg.out _).mono ?_
      rintro e V1 ⟨rfl, hk⟩
      clear cxf
      replace hB := below_seq hB hk
      replace xf := xf.seq hk
      clear hk
      have cxf := xf.f5
      go_wp2_with fail
      refine (shown11 _).mono ?_
      rintro e V2 ⟨rfl, hk⟩
      clear cxf
      replace hB := below_seq hB hk
      replace xf := xf.seq hk
      clear hk
      have cxf := xf.f5
      go_wp2
      go_ret
      exact ⟨rfl, hB⟩
  · have m0 : ¬ (m.size : Int) > 500 := by omega
    by_cases hbig : big11 f = true
    · have TBg := Lib.hid (fun (V : World) => (show Calls Tryz.prog 6 #[.agg #[.string f.b0, .string f.b1, .int .i64 f.e0, .int .i64 f.e1, .int .i64 f.lim]] V fun e W' => e = .returned (.bool true) ∧ Below V.heap.size V W' from by have h := law11Big f V; rwa [hbig] at h))
      clear hbig
      have hB : Below W.heap.size W (W.alloc (.cells #[.string f.b0, .string f.b1, .int .i64 f.e0, .int .i64 f.e1, .int .i64 f.lim] 25)) := ((Below.refl _ _).alloc (Nat.le_refl _) _)
      have xf := (Box.new 25 W [.string f.b0, .string f.b1, .int .i64 f.e0, .int .i64 f.e1, .int .i64 f.lim])
      go_enter Tryz.func4, Tryz.ntmps4
      have cxf := xf.f5
      go_wp2_with fail
      refine (TBg.out _).mono ?_
      rintro e V1 ⟨rfl, hk⟩
      clear cxf
      replace hB := below_seq hB hk
      replace xf := xf.seq hk
      clear hk
      have cxf := xf.f5
      go_wp2_with fail
      refine (shown11 _).mono ?_
      rintro e V2 ⟨rfl, hk⟩
      clear cxf
      replace hB := below_seq hB hk
      replace xf := xf.seq hk
      clear hk
      have cxf := xf.f5
      go_wp2
      go_ret
      exact ⟨rfl, hB⟩
    · have hbig2 : big11 f = false := by cases h : big11 f with | false => rfl | true => exact absurd h hbig
      have TBg := Lib.hid (fun (V : World) => (show Calls Tryz.prog 6 #[.agg #[.string f.b0, .string f.b1, .int .i64 f.e0, .int .i64 f.e1, .int .i64 f.lim]] V fun e W' => e = .returned (.bool false) ∧ Below V.heap.size V W' from by have h := law11Big f V; rwa [hbig2] at h))
      obtain ⟨z0, z1⟩ := big11_no hbig2
      clear hbig hbig2
      have hfit := fit_400 hf z0 z1
      clear z0 z1
      have hdl := d.isLt
      obtain ⟨l, E, HP⟩ : ∃ l E, planR f d.toNat = (l, E) := ⟨_, _, rfl⟩
      have hok := plan_ops_ok f d.toNat
      have hlen := plan_length f d.toNat
      rw [HP] at hok hlen
      dsimp only at hok hlen
      have TI := Lib.hid (fun (V : World) => law11Its f V)
      have TW := Lib.hid (fun (V : World) => ref10Read f V hf)
      rcases hlen with ⟨hE, hnil⟩ | ⟨hE, h2 | hN⟩
      · subst hnil
        have TP := Lib.hid (fun (V : World) => (show Calls Tryz.prog 8 #[.agg #[.string f.b0, .string f.b1, .int .i64 f.e0, .int .i64 f.e1, .int .i64 f.lim], .int .u64 (d.toNat : Int)] V fun e W' => ∃ (A : Option Addr) (c : Nat), e = .returned (.tuple #[.slice A 0 c, .int .i64 E]) ∧ OpsAt W' A ([] : List PwOp) ∧ (0 ≤ c ∧ c ≤ maxLen) ∧ Below V.heap.size V W' from by have h := own11Plan f d.toNat V hf d.isLt; rw [HP] at h; exact h))
        have n1 : (E != 0) = true := bne_iff_ne.2 hE
        clear HP hE hok hfit hdl hm5
        generalize pickE f = pe at *
        generalize (pickS f).bank = wb at *
        generalize (pickS f).gen = wg at *
        generalize (pickS f).seq = wq at *
        generalize (pickS f).data = wd at *
        have hB : Below W.heap.size W (W.alloc (.cells #[.string f.b0, .string f.b1, .int .i64 f.e0, .int .i64 f.e1, .int .i64 f.lim] 25)) := ((Below.refl _ _).alloc (Nat.le_refl _) _)
        have xf := (Box.new 25 W [.string f.b0, .string f.b1, .int .i64 f.e0, .int .i64 f.e1, .int .i64 f.lim])
        go_enter Tryz.func4, Tryz.ntmps4
        have cxf := xf.f5
        go_wp2_with fail
        refine (TBg.out _).mono ?_
        rintro e V1 ⟨rfl, hk⟩
        clear cxf
        replace hB := below_seq hB hk
        replace xf := xf.seq hk
        clear hk
        have cxf := xf.f5
        go_wp2_with fail
        refine (shown11 _).mono ?_
        rintro e V2 ⟨rfl, hk⟩
        clear cxf
        replace hB := below_seq hB hk
        replace xf := xf.seq hk
        clear hk
        have cxf := xf.f5
        go_wp2_with fail
        refine (TP.out _).mono ?_
        rintro e V3 ⟨A, c, rfl, hl, hc, hk⟩
        clear cxf
        replace hB := below_seq hB hk
        replace xf := xf.seq hk
        clear hk
        have cxf := xf.f5
        go_wp2_with fail
        refine (TI.out _).mono ?_
        rintro e V4 ⟨rfl, hk⟩
        clear cxf
        replace hB := below_seq hB hk
        replace xf := xf.seq hk
        replace hl := hl.seq hk
        clear hk
        have cxf := xf.f5
        go_wp2_with fail
        refine (TW.out _).mono ?_
        rintro e V5 ⟨rfl, hk⟩
        clear cxf
        replace hB := below_seq hB hk
        replace xf := xf.seq hk
        replace hl := hl.seq hk
        clear hk
        have xw := Box.new 34 V5 [.int .i64 wb, .int .u64 (wg : Int), .int .u64 (wq : Int), .int .u64 (wd : Int)]
        have ne_xw_xf : V5.heap.size ≠ W.heap.size := Nat.ne_of_gt xf.lt
        have le_xw : W.heap.size ≤ V5.heap.size := hB.size
        replace xf := xf.alloc (.cells #[.int .i64 wb, .int .u64 (wg : Int), .int .u64 (wq : Int), .int .u64 (wd : Int)] 34)
        replace hl := hl.alloc (.cells #[.int .i64 wb, .int .u64 (wg : Int), .int .u64 (wq : Int), .int .u64 (wd : Int)] 34)
        replace hB := hB.alloc hB.size (.cells #[.int .i64 wb, .int .u64 (wg : Int), .int .u64 (wq : Int), .int .u64 (wd : Int)] 34)
        have cxf := xf.f5
        have cxw := xw.f4
        go_wp2
        go_ret
        exact ⟨rfl, hB⟩
      · subst hE
        obtain ⟨hpf, g, n, hpl, hpe, hps⟩ := plan_cuts (f := f) (d := d.toNat) hdl (by rw [HP]) (by rw [HP]; exact h2) cut m
        rw [HP] at hpl
        dsimp only at hpl
        have hgf : g.fit := by have h := play_fit hfit l cut m; rw [hpl] at h; exact h
        rw [hpf] at TW
        have TP := Lib.hid (fun (V : World) => (show Calls Tryz.prog 8 #[.agg #[.string f.b0, .string f.b1, .int .i64 f.e0, .int .i64 f.e1, .int .i64 f.lim], .int .u64 (d.toNat : Int)] V fun e W' => ∃ (A : Option Addr) (c : Nat), e = .returned (.tuple #[.slice A 2 c, .int .i64 0]) ∧ OpsAt W' A l ∧ (2 ≤ c ∧ c ≤ maxLen) ∧ Below V.heap.size V W' from by have h := own11Plan f d.toNat V hf d.isLt; rw [HP, h2] at h; exact h))
        have TO := Lib.hid (fun (A : Option Addr) (c : Nat) (V : World) (h0 : OpsAt V A l) (h1 : 2 ≤ c ∧ c ≤ maxLen) => (show Calls Tryz.prog 12 #[.slice A 2 c] V fun e W' => ∃ (A : Option Addr) (c : Nat), e = .returned (.slice A 2 c) ∧ OpsAt W' A l ∧ (2 ≤ c ∧ c ≤ maxLen) ∧ Below V.heap.size V W' from by have h := law11Ops l A c V h0 (by rw [h2]; exact h1) (by omega); rw [h2] at h; exact h))
        have TY := Lib.hid (fun (A : Option Addr) (c : Nat) (V : World) (h0 : OpsAt V A l) (h1 : 2 ≤ c ∧ c ≤ maxLen) => (show Calls Tryz.prog 11 #[.agg #[.string f.b0, .string f.b1, .int .i64 f.e0, .int .i64 f.e1, .int .i64 f.lim], .slice A 2 c, .int .i64 cut, .string m] V fun e W' => e = .returned (.tuple #[.agg #[.string g.b0, .string g.b1, .int .i64 g.e0, .int .i64 g.e1, .int .i64 g.lim], .int .i64 (n : Int), .int .i64 0]) ∧ Below V.heap.size V W' from by have h := ref04Play f l A c cut m V hfit hok h0 hm (by rw [h2]; exact h1); rw [hpl, h2] at h; exact h))
        have TS := Lib.hid (fun (V : World) => (show Calls Tryz.prog 9 #[.agg #[.string g.b0, .string g.b1, .int .i64 g.e0, .int .i64 g.e1, .int .i64 g.lim]] V fun e W' => e = .returned (.tuple #[.agg #[.int .i64 (pickS g).bank, .int .u64 ((pickS g).gen : Int), .int .u64 ((pickS g).seq : Int), .int .u64 ((pickS g).data : Int)], .int .i64 0]) ∧ Below V.heap.size V W' from by have h := ref10Read g V hgf.ok; rw [hpe] at h; exact h))
        have hsl := pickS_seq_lt g
        rcases hps with hps | hps
        · rw [hps] at TS
          clear hsl
          clear hgf hpe hps hpl hok hfit HP hdl hpf h2 hm5
          generalize (pickS f).bank = wb at *
          generalize (pickS f).gen = wg at *
          generalize (pickS f).seq = wq at *
          generalize (pickS f).data = wd at *
          have hB : Below W.heap.size W (W.alloc (.cells #[.string f.b0, .string f.b1, .int .i64 f.e0, .int .i64 f.e1, .int .i64 f.lim] 25)) := ((Below.refl _ _).alloc (Nat.le_refl _) _)
          have xf := (Box.new 25 W [.string f.b0, .string f.b1, .int .i64 f.e0, .int .i64 f.e1, .int .i64 f.lim])
          go_enter Tryz.func4, Tryz.ntmps4
          have cxf := xf.f5
          go_wp2_with fail
          refine (TBg.out _).mono ?_
          rintro e V1 ⟨rfl, hk⟩
          clear cxf
          replace hB := below_seq hB hk
          replace xf := xf.seq hk
          clear hk
          have cxf := xf.f5
          go_wp2_with fail
          refine (shown11 _).mono ?_
          rintro e V2 ⟨rfl, hk⟩
          clear cxf
          replace hB := below_seq hB hk
          replace xf := xf.seq hk
          clear hk
          have cxf := xf.f5
          go_wp2_with fail
          refine (TP.out _).mono ?_
          rintro e V3 ⟨A, c, rfl, hl, hc, hk⟩
          clear cxf
          replace hB := below_seq hB hk
          replace xf := xf.seq hk
          clear hk
          have cxf := xf.f5
          go_wp2_with fail
          refine (TI.out _).mono ?_
          rintro e V4 ⟨rfl, hk⟩
          clear cxf
          replace hB := below_seq hB hk
          replace xf := xf.seq hk
          replace hl := hl.seq hk
          clear hk
          have cxf := xf.f5
          go_wp2_with fail
          refine (TW.out _).mono ?_
          rintro e V5 ⟨rfl, hk⟩
          clear cxf
          replace hB := below_seq hB hk
          replace xf := xf.seq hk
          replace hl := hl.seq hk
          clear hk
          have xw := Box.new 34 V5 [.int .i64 wb, .int .u64 (wg : Int), .int .u64 (wq : Int), .int .u64 (wd : Int)]
          have ne_xw_xf : V5.heap.size ≠ W.heap.size := Nat.ne_of_gt xf.lt
          have le_xw : W.heap.size ≤ V5.heap.size := hB.size
          replace xf := xf.alloc (.cells #[.int .i64 wb, .int .u64 (wg : Int), .int .u64 (wq : Int), .int .u64 (wd : Int)] 34)
          replace hl := hl.alloc (.cells #[.int .i64 wb, .int .u64 (wg : Int), .int .u64 (wq : Int), .int .u64 (wd : Int)] 34)
          replace hB := hB.alloc hB.size (.cells #[.int .i64 wb, .int .u64 (wg : Int), .int .u64 (wq : Int), .int .u64 (wd : Int)] 34)
          have cxf := xf.f5
          have cxw := xw.f4
          go_wp2_with fail
          refine (TI.out _).mono ?_
          rintro e V6 ⟨rfl, hk⟩
          clear cxf cxw
          replace hB := below_seq hB hk
          replace xf := xf.seq hk
          replace xw := xw.seq hk
          replace hl := hl.seq hk
          clear hk
          have cxf := xf.f5
          have cxw := xw.f4
          go_wp2_with fail
          refine (TO.out A c _ hl hc).mono ?_
          rintro e V7 ⟨A', c', rfl, hl', hc', hk⟩
          clear cxf cxw
          replace hB := below_seq hB hk
          replace xf := xf.seq hk
          replace xw := xw.seq hk
          replace hl := hl.seq hk
          clear hk
          have cxf := xf.f5
          have cxw := xw.f4
          go_wp2_with fail
          refine (TY.out A' c' _ hl' hc').mono ?_
          rintro e V8 ⟨rfl, hk⟩
          clear cxf cxw
          replace hB := below_seq hB hk
          replace xf := xf.seq hk
          replace xw := xw.seq hk
          replace hl := hl.seq hk
          replace hl' := hl'.seq hk
          clear hk
          have xg := Box.new 37 V8 [.string g.b0, .string g.b1, .int .i64 g.e0, .int .i64 g.e1, .int .i64 g.lim]
          have ne_xg_xf : V8.heap.size ≠ W.heap.size := Nat.ne_of_gt xf.lt
          have ne_xg_xw : V8.heap.size ≠ V5.heap.size := Nat.ne_of_gt xw.lt
          have le_xg : W.heap.size ≤ V8.heap.size := hB.size
          replace xf := xf.alloc (.cells #[.string g.b0, .string g.b1, .int .i64 g.e0, .int .i64 g.e1, .int .i64 g.lim] 37)
          replace xw := xw.alloc (.cells #[.string g.b0, .string g.b1, .int .i64 g.e0, .int .i64 g.e1, .int .i64 g.lim] 37)
          replace hl := hl.alloc (.cells #[.string g.b0, .string g.b1, .int .i64 g.e0, .int .i64 g.e1, .int .i64 g.lim] 37)
          replace hl' := hl'.alloc (.cells #[.string g.b0, .string g.b1, .int .i64 g.e0, .int .i64 g.e1, .int .i64 g.lim] 37)
          replace hB := hB.alloc hB.size (.cells #[.string g.b0, .string g.b1, .int .i64 g.e0, .int .i64 g.e1, .int .i64 g.lim] 37)
          have cxf := xf.f5
          have cxw := xw.f4
          have cxg := xg.f5
          go_wp2_with fail
          refine (TS.out _).mono ?_
          rintro e V9 ⟨rfl, hk⟩
          clear cxf cxw cxg
          replace hB := below_seq hB hk
          replace xf := xf.seq hk
          replace xw := xw.seq hk
          replace xg := xg.seq hk
          replace hl := hl.seq hk
          replace hl' := hl'.seq hk
          clear hk
          have xs := Box.new 34 V9 [.int .i64 wb, .int .u64 (wg : Int), .int .u64 (wq : Int), .int .u64 (wd : Int)]
          have ne_xs_xf : V9.heap.size ≠ W.heap.size := Nat.ne_of_gt xf.lt
          have ne_xs_xw : V9.heap.size ≠ V5.heap.size := Nat.ne_of_gt xw.lt
          have ne_xs_xg : V9.heap.size ≠ V8.heap.size := Nat.ne_of_gt xg.lt
          have le_xs : W.heap.size ≤ V9.heap.size := hB.size
          replace xf := xf.alloc (.cells #[.int .i64 wb, .int .u64 (wg : Int), .int .u64 (wq : Int), .int .u64 (wd : Int)] 34)
          replace xw := xw.alloc (.cells #[.int .i64 wb, .int .u64 (wg : Int), .int .u64 (wq : Int), .int .u64 (wd : Int)] 34)
          replace xg := xg.alloc (.cells #[.int .i64 wb, .int .u64 (wg : Int), .int .u64 (wq : Int), .int .u64 (wd : Int)] 34)
          replace hl := hl.alloc (.cells #[.int .i64 wb, .int .u64 (wg : Int), .int .u64 (wq : Int), .int .u64 (wd : Int)] 34)
          replace hl' := hl'.alloc (.cells #[.int .i64 wb, .int .u64 (wg : Int), .int .u64 (wq : Int), .int .u64 (wd : Int)] 34)
          replace hB := hB.alloc hB.size (.cells #[.int .i64 wb, .int .u64 (wg : Int), .int .u64 (wq : Int), .int .u64 (wd : Int)] 34)
          have cxf := xf.f5
          have cxw := xw.f4
          have cxg := xg.f5
          have cxs := xs.f4
          go_wp2
          go_ret
          exact ⟨rfl, hB⟩
        · rw [hps] at TS hsl
          have w2 : IntKind.u64.wrap (((pickS f).seq : Int) + 1) = (((pickS f).seq + 1 : Nat) : Int) := by dsimp only at hsl; rw [IntWalk.u64_in _ (by omega)]; omega
          have w3 : ¬ (((pickS f).seq + 1 : Nat) : Int) = ((pickS f).seq : Int) := by omega
          dsimp only at TS
          clear hsl
          clear hgf hpe hps hpl hok hfit HP hdl hpf h2 hm5
          generalize (pickS f).seq + 1 = ww at *
          generalize (pickS f).bank = wb at *
          generalize (pickS f).gen = wg at *
          generalize (pickS f).seq = wq at *
          generalize (pickS f).data = wd at *
          have hB : Below W.heap.size W (W.alloc (.cells #[.string f.b0, .string f.b1, .int .i64 f.e0, .int .i64 f.e1, .int .i64 f.lim] 25)) := ((Below.refl _ _).alloc (Nat.le_refl _) _)
          have xf := (Box.new 25 W [.string f.b0, .string f.b1, .int .i64 f.e0, .int .i64 f.e1, .int .i64 f.lim])
          go_enter Tryz.func4, Tryz.ntmps4
          have cxf := xf.f5
          go_wp2_with fail
          refine (TBg.out _).mono ?_
          rintro e V1 ⟨rfl, hk⟩
          clear cxf
          replace hB := below_seq hB hk
          replace xf := xf.seq hk
          clear hk
          have cxf := xf.f5
          go_wp2_with fail
          refine (shown11 _).mono ?_
          rintro e V2 ⟨rfl, hk⟩
          clear cxf
          replace hB := below_seq hB hk
          replace xf := xf.seq hk
          clear hk
          have cxf := xf.f5
          go_wp2_with fail
          refine (TP.out _).mono ?_
          rintro e V3 ⟨A, c, rfl, hl, hc, hk⟩
          clear cxf
          replace hB := below_seq hB hk
          replace xf := xf.seq hk
          clear hk
          have cxf := xf.f5
          go_wp2_with fail
          refine (TI.out _).mono ?_
          rintro e V4 ⟨rfl, hk⟩
          clear cxf
          replace hB := below_seq hB hk
          replace xf := xf.seq hk
          replace hl := hl.seq hk
          clear hk
          have cxf := xf.f5
          go_wp2_with fail
          refine (TW.out _).mono ?_
          rintro e V5 ⟨rfl, hk⟩
          clear cxf
          replace hB := below_seq hB hk
          replace xf := xf.seq hk
          replace hl := hl.seq hk
          clear hk
          have xw := Box.new 34 V5 [.int .i64 wb, .int .u64 (wg : Int), .int .u64 (wq : Int), .int .u64 (wd : Int)]
          have ne_xw_xf : V5.heap.size ≠ W.heap.size := Nat.ne_of_gt xf.lt
          have le_xw : W.heap.size ≤ V5.heap.size := hB.size
          replace xf := xf.alloc (.cells #[.int .i64 wb, .int .u64 (wg : Int), .int .u64 (wq : Int), .int .u64 (wd : Int)] 34)
          replace hl := hl.alloc (.cells #[.int .i64 wb, .int .u64 (wg : Int), .int .u64 (wq : Int), .int .u64 (wd : Int)] 34)
          replace hB := hB.alloc hB.size (.cells #[.int .i64 wb, .int .u64 (wg : Int), .int .u64 (wq : Int), .int .u64 (wd : Int)] 34)
          have cxf := xf.f5
          have cxw := xw.f4
          go_wp2_with fail
          refine (TI.out _).mono ?_
          rintro e V6 ⟨rfl, hk⟩
          clear cxf cxw
          replace hB := below_seq hB hk
          replace xf := xf.seq hk
          replace xw := xw.seq hk
          replace hl := hl.seq hk
          clear hk
          have cxf := xf.f5
          have cxw := xw.f4
          go_wp2_with fail
          refine (TO.out A c _ hl hc).mono ?_
          rintro e V7 ⟨A', c', rfl, hl', hc', hk⟩
          clear cxf cxw
          replace hB := below_seq hB hk
          replace xf := xf.seq hk
          replace xw := xw.seq hk
          replace hl := hl.seq hk
          clear hk
          have cxf := xf.f5
          have cxw := xw.f4
          go_wp2_with fail
          refine (TY.out A' c' _ hl' hc').mono ?_
          rintro e V8 ⟨rfl, hk⟩
          clear cxf cxw
          replace hB := below_seq hB hk
          replace xf := xf.seq hk
          replace xw := xw.seq hk
          replace hl := hl.seq hk
          replace hl' := hl'.seq hk
          clear hk
          have xg := Box.new 37 V8 [.string g.b0, .string g.b1, .int .i64 g.e0, .int .i64 g.e1, .int .i64 g.lim]
          have ne_xg_xf : V8.heap.size ≠ W.heap.size := Nat.ne_of_gt xf.lt
          have ne_xg_xw : V8.heap.size ≠ V5.heap.size := Nat.ne_of_gt xw.lt
          have le_xg : W.heap.size ≤ V8.heap.size := hB.size
          replace xf := xf.alloc (.cells #[.string g.b0, .string g.b1, .int .i64 g.e0, .int .i64 g.e1, .int .i64 g.lim] 37)
          replace xw := xw.alloc (.cells #[.string g.b0, .string g.b1, .int .i64 g.e0, .int .i64 g.e1, .int .i64 g.lim] 37)
          replace hl := hl.alloc (.cells #[.string g.b0, .string g.b1, .int .i64 g.e0, .int .i64 g.e1, .int .i64 g.lim] 37)
          replace hl' := hl'.alloc (.cells #[.string g.b0, .string g.b1, .int .i64 g.e0, .int .i64 g.e1, .int .i64 g.lim] 37)
          replace hB := hB.alloc hB.size (.cells #[.string g.b0, .string g.b1, .int .i64 g.e0, .int .i64 g.e1, .int .i64 g.lim] 37)
          have cxf := xf.f5
          have cxw := xw.f4
          have cxg := xg.f5
          go_wp2_with fail
          refine (TS.out _).mono ?_
          rintro e V9 ⟨rfl, hk⟩
          clear cxf cxw cxg
          replace hB := below_seq hB hk
          replace xf := xf.seq hk
          replace xw := xw.seq hk
          replace xg := xg.seq hk
          replace hl := hl.seq hk
          replace hl' := hl'.seq hk
          clear hk
          have xs := Box.new 34 V9 [.int .i64 wb, .int .u64 (wg : Int), .int .u64 (ww : Int), .int .u64 (d.toNat : Int)]
          have ne_xs_xf : V9.heap.size ≠ W.heap.size := Nat.ne_of_gt xf.lt
          have ne_xs_xw : V9.heap.size ≠ V5.heap.size := Nat.ne_of_gt xw.lt
          have ne_xs_xg : V9.heap.size ≠ V8.heap.size := Nat.ne_of_gt xg.lt
          have le_xs : W.heap.size ≤ V9.heap.size := hB.size
          replace xf := xf.alloc (.cells #[.int .i64 wb, .int .u64 (wg : Int), .int .u64 (ww : Int), .int .u64 (d.toNat : Int)] 34)
          replace xw := xw.alloc (.cells #[.int .i64 wb, .int .u64 (wg : Int), .int .u64 (ww : Int), .int .u64 (d.toNat : Int)] 34)
          replace xg := xg.alloc (.cells #[.int .i64 wb, .int .u64 (wg : Int), .int .u64 (ww : Int), .int .u64 (d.toNat : Int)] 34)
          replace hl := hl.alloc (.cells #[.int .i64 wb, .int .u64 (wg : Int), .int .u64 (ww : Int), .int .u64 (d.toNat : Int)] 34)
          replace hl' := hl'.alloc (.cells #[.int .i64 wb, .int .u64 (wg : Int), .int .u64 (ww : Int), .int .u64 (d.toNat : Int)] 34)
          replace hB := hB.alloc hB.size (.cells #[.int .i64 wb, .int .u64 (wg : Int), .int .u64 (ww : Int), .int .u64 (d.toNat : Int)] 34)
          have cxf := xf.f5
          have cxw := xw.f4
          have cxg := xg.f5
          have cxs := xs.f4
          go_wp2
          go_ret
          exact ⟨rfl, hB⟩
      · subst hE
        clear hok hfit hdl hm5
        rcases hN with h5 | h5
        · have TP := Lib.hid (fun (V : World) => (show Calls Tryz.prog 8 #[.agg #[.string f.b0, .string f.b1, .int .i64 f.e0, .int .i64 f.e1, .int .i64 f.lim], .int .u64 (d.toNat : Int)] V fun e W' => ∃ (A : Option Addr) (c : Nat), e = .returned (.tuple #[.slice A 5 c, .int .i64 0]) ∧ OpsAt W' A l ∧ (5 ≤ c ∧ c ≤ maxLen) ∧ Below V.heap.size V W' from by have h := own11Plan f d.toNat V hf d.isLt; rw [HP, h5] at h; exact h))
          clear HP h5
          generalize pickE f = pe at *
          generalize (pickS f).bank = wb at *
          generalize (pickS f).gen = wg at *
          generalize (pickS f).seq = wq at *
          generalize (pickS f).data = wd at *
          have hB : Below W.heap.size W (W.alloc (.cells #[.string f.b0, .string f.b1, .int .i64 f.e0, .int .i64 f.e1, .int .i64 f.lim] 25)) := ((Below.refl _ _).alloc (Nat.le_refl _) _)
          have xf := (Box.new 25 W [.string f.b0, .string f.b1, .int .i64 f.e0, .int .i64 f.e1, .int .i64 f.lim])
          go_enter Tryz.func4, Tryz.ntmps4
          have cxf := xf.f5
          go_wp2_with fail
          refine (TBg.out _).mono ?_
          rintro e V1 ⟨rfl, hk⟩
          clear cxf
          replace hB := below_seq hB hk
          replace xf := xf.seq hk
          clear hk
          have cxf := xf.f5
          go_wp2_with fail
          refine (shown11 _).mono ?_
          rintro e V2 ⟨rfl, hk⟩
          clear cxf
          replace hB := below_seq hB hk
          replace xf := xf.seq hk
          clear hk
          have cxf := xf.f5
          go_wp2_with fail
          refine (TP.out _).mono ?_
          rintro e V3 ⟨A, c, rfl, hl, hc, hk⟩
          clear cxf
          replace hB := below_seq hB hk
          replace xf := xf.seq hk
          clear hk
          have cxf := xf.f5
          go_wp2_with fail
          refine (TI.out _).mono ?_
          rintro e V4 ⟨rfl, hk⟩
          clear cxf
          replace hB := below_seq hB hk
          replace xf := xf.seq hk
          replace hl := hl.seq hk
          clear hk
          have cxf := xf.f5
          go_wp2_with fail
          refine (TW.out _).mono ?_
          rintro e V5 ⟨rfl, hk⟩
          clear cxf
          replace hB := below_seq hB hk
          replace xf := xf.seq hk
          replace hl := hl.seq hk
          clear hk
          have xw := Box.new 34 V5 [.int .i64 wb, .int .u64 (wg : Int), .int .u64 (wq : Int), .int .u64 (wd : Int)]
          have ne_xw_xf : V5.heap.size ≠ W.heap.size := Nat.ne_of_gt xf.lt
          have le_xw : W.heap.size ≤ V5.heap.size := hB.size
          replace xf := xf.alloc (.cells #[.int .i64 wb, .int .u64 (wg : Int), .int .u64 (wq : Int), .int .u64 (wd : Int)] 34)
          replace hl := hl.alloc (.cells #[.int .i64 wb, .int .u64 (wg : Int), .int .u64 (wq : Int), .int .u64 (wd : Int)] 34)
          replace hB := hB.alloc hB.size (.cells #[.int .i64 wb, .int .u64 (wg : Int), .int .u64 (wq : Int), .int .u64 (wd : Int)] 34)
          have cxf := xf.f5
          have cxw := xw.f4
          go_wp2
          go_ret
          exact ⟨rfl, hB⟩
        · have TP := Lib.hid (fun (V : World) => (show Calls Tryz.prog 8 #[.agg #[.string f.b0, .string f.b1, .int .i64 f.e0, .int .i64 f.e1, .int .i64 f.lim], .int .u64 (d.toNat : Int)] V fun e W' => ∃ (A : Option Addr) (c : Nat), e = .returned (.tuple #[.slice A 6 c, .int .i64 0]) ∧ OpsAt W' A l ∧ (6 ≤ c ∧ c ≤ maxLen) ∧ Below V.heap.size V W' from by have h := own11Plan f d.toNat V hf d.isLt; rw [HP, h5] at h; exact h))
          clear HP h5
          generalize pickE f = pe at *
          generalize (pickS f).bank = wb at *
          generalize (pickS f).gen = wg at *
          generalize (pickS f).seq = wq at *
          generalize (pickS f).data = wd at *
          have hB : Below W.heap.size W (W.alloc (.cells #[.string f.b0, .string f.b1, .int .i64 f.e0, .int .i64 f.e1, .int .i64 f.lim] 25)) := ((Below.refl _ _).alloc (Nat.le_refl _) _)
          have xf := (Box.new 25 W [.string f.b0, .string f.b1, .int .i64 f.e0, .int .i64 f.e1, .int .i64 f.lim])
          go_enter Tryz.func4, Tryz.ntmps4
          have cxf := xf.f5
          go_wp2_with fail
          refine (TBg.out _).mono ?_
          rintro e V1 ⟨rfl, hk⟩
          clear cxf
          replace hB := below_seq hB hk
          replace xf := xf.seq hk
          clear hk
          have cxf := xf.f5
          go_wp2_with fail
          refine (shown11 _).mono ?_
          rintro e V2 ⟨rfl, hk⟩
          clear cxf
          replace hB := below_seq hB hk
          replace xf := xf.seq hk
          clear hk
          have cxf := xf.f5
          go_wp2_with fail
          refine (TP.out _).mono ?_
          rintro e V3 ⟨A, c, rfl, hl, hc, hk⟩
          clear cxf
          replace hB := below_seq hB hk
          replace xf := xf.seq hk
          clear hk
          have cxf := xf.f5
          go_wp2_with fail
          refine (TI.out _).mono ?_
          rintro e V4 ⟨rfl, hk⟩
          clear cxf
          replace hB := below_seq hB hk
          replace xf := xf.seq hk
          replace hl := hl.seq hk
          clear hk
          have cxf := xf.f5
          go_wp2_with fail
          refine (TW.out _).mono ?_
          rintro e V5 ⟨rfl, hk⟩
          clear cxf
          replace hB := below_seq hB hk
          replace xf := xf.seq hk
          replace hl := hl.seq hk
          clear hk
          have xw := Box.new 34 V5 [.int .i64 wb, .int .u64 (wg : Int), .int .u64 (wq : Int), .int .u64 (wd : Int)]
          have ne_xw_xf : V5.heap.size ≠ W.heap.size := Nat.ne_of_gt xf.lt
          have le_xw : W.heap.size ≤ V5.heap.size := hB.size
          replace xf := xf.alloc (.cells #[.int .i64 wb, .int .u64 (wg : Int), .int .u64 (wq : Int), .int .u64 (wd : Int)] 34)
          replace hl := hl.alloc (.cells #[.int .i64 wb, .int .u64 (wg : Int), .int .u64 (wq : Int), .int .u64 (wd : Int)] 34)
          replace hB := hB.alloc hB.size (.cells #[.int .i64 wb, .int .u64 (wg : Int), .int .u64 (wq : Int), .int .u64 (wd : Int)] 34)
          have cxf := xf.f5
          have cxw := xw.f4
          go_wp2
          go_ret
          exact ⟨rfl, hB⟩

theorem own : ownKnob Tryz.prog.godebug = none := by kernel_rfl

set_option maxRecDepth 100000 in
theorem lifted (os : Os) (started : os.Started) (H : Type) (enc : TypeId × Value → H) :
    ReturnsInHanded {} Tryz.checked os 4 .any (Rows.planCutsSpec.pre6 enc Tryz.prog Tryz.f4 Rows.planCutsRow.domain false) (Rows.planCutsSpec.post enc Tryz.prog Tryz.f4 false true false false) := by
  refine returnsInHanded_of_change (C := Tryz.checked) own started (by kernel_rfl) Tryz.func4
    (ChangeSpec.witness6 (enc := enc) (C := Tryz.checked) false ⟨#[], #[.agg #[.string ⟨#[]⟩, .string ⟨#[]⟩, .int .i64 0, .int .i64 0, .int .i64 0], .int .u64 0, .int .i64 0, .string ⟨#[]⟩], []⟩ 8 (by kernel_rfl) (by kernel_rfl) (by kernel_rfl) (by kernel_rfl)) ?_
  intro W base args ds gs before hval hW _ _
  have hW' := hW
  obtain ⟨p, q, hA0, hV, rfl, hfz, hnd⟩ := hW
  have hA : DataW.TrodAll enc Tryz.prog W 0 (fun _ => true) true Tryz.f4.params.toList args.toList ds p := hA0
  rw [Tryz.params4] at hA hval
  obtain ⟨v0, vs0, d0, ds0, p0, q0, hargs, rfl, rfl, h0, r0⟩ := trodAll_cons hA
  obtain ⟨v1, vs1, d1, ds1, p1, q1, rfl, rfl, rfl, h1, r1⟩ := trodAll_cons r0
  obtain ⟨v2, vs2, d2, ds2, p2, q2, rfl, rfl, rfl, h2, r2⟩ := trodAll_cons r1
  obtain ⟨v3, vs3, d3, ds3, p3, q3, rfl, rfl, rfl, h3, r3⟩ := trodAll_cons r2
  obtain ⟨rfl, rfl, rfl⟩ := trodAll_nil r3
  obtain rfl : args = #[v0, v1, v2, v3] := by cases args; simp_all
  obtain ⟨rfl, rfl⟩ := trodVars_none hV
  have k0 := h0
  obtain ⟨s0, rfl, hs0⟩ := open_fl (hval 0 25 v0 rfl rfl) h0
  obtain ⟨a1, rfl, rfl, rfl, w1⟩ := open_int Tryz.underlying26 (hval 1 26 v1 rfl rfl) h1
  obtain ⟨c1, rfl⟩ := int_u64 w1
  obtain ⟨a2, rfl, rfl, rfl, w2⟩ := open_int Tryz.underlying3 (hval 2 3 v2 rfl rfl) h2
  obtain ⟨s3, rfl, rfl, rfl, hs3⟩ := open_string Tryz.underlying9 (hval 3 9 v3 rfl rfl) h3
  clear hA0
  simp only [List.append_nil] at hW'
  refine (walk s0 c1 a2 s3 W hs0 (int_i64 w2) hs3).mono fun e W' ⟨he, hB⟩ => ?_
  subst he
  exact ⟨_, rfl, ⟨_, _, _, [], _, [], hW', trodAll_cons_mk (shut_bool Tryz.underlying4 _) trodAll_mk0, (trodAll_cons_mk (Below.trod Tryz.laidOut (by kernel_rfl) (of_decide_eq_true (by kernel_rfl)) k0 hB (fun x hx => by simpa using hW'.lt x (by simp [hx]))) (trodAll_cons_mk (shut_int Tryz.underlying26 w1) (trodAll_cons_mk (shut_int Tryz.underlying3 w2) (trodAll_cons_mk (shut_string Tryz.underlying9 hs3) trodAll_mk0)))), rfl, hB.frame _, fun h => by cases h⟩⟩

theorem holds : Rows.PlanCutsSaid :=
  OpenClaim.holds_of_wide 4 Tryz.f4 rfl rfl rfl rfl rfl rfl rfl ⟨rfl, rfl, rfl, rfl, rfl⟩ rfl rfl rfl rfl rfl (by kernel_rfl) Tryz.func4 (by kernel_rfl)
    (of_decide_eq_true (by kernel_rfl)) (by unfold Func.isWrapper; first | (rw [if_pos (by decide +kernel)]; kernel_rfl) | (rw [if_neg (by decide +kernel)]; exact ⟨rfl, rfl⟩))
    (fun os started H enc _ => lifted os started H enc)
end Go.Proofs.YtiacdcnpkfpjaaaGreat.PlanCuts

/- When all of a plan is done its state is read, under the next number; nothing of it goes wrong (PlanDone); no condition. -/
import Derived.Test.YtiacdcnpkfpjaaaGreatPlanLaw
import Derived.Deep.RegionHeld3
import Derived.WalkLawsBesides
import Derived.WalkSpells
import Derived.IntWalk
import Derived.Lib.Hide
import Derived.Test.YtiacdcnpkfpjaaaGreatBox
import Derived.ProofKit
import Derived.OpenShut
import Derived.ChangeMaps5
import Derived.Test.YtiacdcnpkfpjaaaGreatInts
namespace Go.Proofs.YtiacdcnpkfpjaaaGreat.PlanDone
open Go.ChangeShapes Go.WideShapes Go.ChangeAt Go.RowKit Go.ChangeMaps
set_option linter.unusedVariables false
set_option linter.unusedSimpArgs false

set_option maxRecDepth 100000 in
set_option maxHeartbeats 16000000 in
theorem walk (f : Fl) (d : BitVec 64) (W : World) (hf : f.ok) :
    Calls Tryz.prog 3 #[.agg #[.string f.b0, .string f.b1, .int .i64 f.e0, .int .i64 f.e1, .int .i64 f.lim], .int .u64 (d.toNat : Int)] W fun e W' => e = .returned (.bool true) ∧ Below W.heap.size W W' := by
  by_cases hbig : big11 f = true
  · have TBg := Lib.hid (fun (V : World) => (show Calls Tryz.prog 6 #[.agg #[.string f.b0, .string f.b1, .int .i64 f.e0, .int .i64 f.e1, .int .i64 f.lim]] V fun e W' => e = .returned (.bool true) ∧ Below V.heap.size V W' from by have h := law11Big f V; rwa [hbig] at h))
    clear hbig
    have hB : Below W.heap.size W (W.alloc (.cells #[.string f.b0, .string f.b1, .int .i64 f.e0, .int .i64 f.e1, .int .i64 f.lim] 25)) := ((Below.refl _ _).alloc (Nat.le_refl _) _)
    have xf := (Box.new 25 W [.string f.b0, .string f.b1, .int .i64 f.e0, .int .i64 f.e1, .int .i64 f.lim])
    go_enter Tryz.func3, Tryz.ntmps3
    have cxf := xf.f5
    go_wp2_with fail
    refine (TBg.out _).mono ?_
    rintro e V1 ⟨rfl, hk⟩
    clear cxf
    replace hB := below_seq hB hk
    replace xf := xf.seq hk
    clear hk
    have cxf := xf.f5
    go_wp2_with fail
    refine (shown11 _).mono ?_
    rintro e V2 ⟨rfl, hk⟩
    clear cxf
    replace hB := below_seq hB hk
    replace xf := xf.seq hk
    clear hk
    have cxf := xf.f5
    go_wp2
    go_ret
    exact ⟨rfl, hB⟩
  · have hbig2 : big11 f = false := by cases h : big11 f with | false => rfl | true => exact absurd h hbig
    have TBg := Lib.hid (fun (V : World) => (show Calls Tryz.prog 6 #[.agg #[.string f.b0, .string f.b1, .int .i64 f.e0, .int .i64 f.e1, .int .i64 f.lim]] V fun e W' => e = .returned (.bool false) ∧ Below V.heap.size V W' from by have h := law11Big f V; rwa [hbig2] at h))
    obtain ⟨z0, z1⟩ := big11_no hbig2
    clear hbig hbig2
    have hfit := fit_400 hf z0 z1
    clear z0 z1
    have hdl := d.isLt
    obtain ⟨l, E, HP⟩ : ∃ l E, planR f d.toNat = (l, E) := ⟨_, _, rfl⟩
    have hok := plan_ops_ok f d.toNat
    have hle := plan_len_le f d.toNat
    have hlen := plan_length f d.toNat
    rw [HP] at hok hle hlen
    dsimp only at hok hle hlen
    by_cases hE : E = 0
    · subst hE
      obtain ⟨g, hpl, hpe, hpd, hpq⟩ := plan_done (f := f) (d := d.toNat) hdl (by rw [HP]) (cut := -1) (Or.inl (by decide)) ⟨#[]⟩
      rw [HP] at hpl
      dsimp only at hpl
      have hgf : g.fit := by have h := play_fit hfit l (-1) ⟨#[]⟩; rw [hpl] at h; exact h
      have TP := Lib.hid (fun (V : World) => (show Calls Tryz.prog 8 #[.agg #[.string f.b0, .string f.b1, .int .i64 f.e0, .int .i64 f.e1, .int .i64 f.lim], .int .u64 (d.toNat : Int)] V fun e W' => ∃ (A : Option Addr) (c : Nat), e = .returned (.tuple #[.slice A l.length c, .int .i64 0]) ∧ OpsAt W' A l ∧ (l.length ≤ c ∧ c ≤ maxLen) ∧ Below V.heap.size V W' from by have h := own11Plan f d.toNat V hf d.isLt; rw [HP] at h; exact h))
      have TI := Lib.hid (fun (V : World) => law11Its f V)
      have TO := Lib.hid (fun (A : Option Addr) (c : Nat) (V : World) (h0 : OpsAt V A l) (h1 : l.length ≤ c ∧ c ≤ maxLen) => law11Ops l A c V h0 h1 (by omega))
      have TY := Lib.hid (fun (A : Option Addr) (c : Nat) (V : World) (h0 : OpsAt V A l) (h1 : l.length ≤ c ∧ c ≤ maxLen) => (show Calls Tryz.prog 11 #[.agg #[.string f.b0, .string f.b1, .int .i64 f.e0, .int .i64 f.e1, .int .i64 f.lim], .slice A l.length c, .int .i64 (-1), .string ⟨#[]⟩] V fun e W' => e = .returned (.tuple #[.agg #[.string g.b0, .string g.b1, .int .i64 g.e0, .int .i64 g.e1, .int .i64 g.lim], .int .i64 (l.length : Int), .int .i64 0]) ∧ Below V.heap.size V W' from by have h := ref04Play f l A c (-1) ⟨#[]⟩ V hfit hok h0 (Nat.zero_le _) h1; rw [hpl] at h; exact h))
      have TS := Lib.hid (fun (V : World) => (show Calls Tryz.prog 9 #[.agg #[.string g.b0, .string g.b1, .int .i64 g.e0, .int .i64 g.e1, .int .i64 g.lim]] V fun e W' => e = .returned (.tuple #[.agg #[.int .i64 (pickS g).bank, .int .u64 ((pickS g).gen : Int), .int .u64 (wantN f : Int), .int .u64 (d.toNat : Int)], .int .i64 0]) ∧ Below V.heap.size V W' from by have h := ref10Read g V hgf.ok; rw [hpe, hpd, hpq] at h; exact h))
      have hsl : wantN f < 18446744073709551616 := by rw [← hpq]; exact pickS_seq_lt g
      generalize (pickS g).bank = gb at *
      generalize (pickS g).gen = gg at *
      by_cases hnone : pickE f = 0
      · have hw : wantN f = (pickS f).seq + 1 := if_pos hnone
        have TW := Lib.hid (fun (V : World) => (show Calls Tryz.prog 9 #[.agg #[.string f.b0, .string f.b1, .int .i64 f.e0, .int .i64 f.e1, .int .i64 f.lim]] V fun e W' => e = .returned (.tuple #[.agg #[.int .i64 (pickS f).bank, .int .u64 ((pickS f).gen : Int), .int .u64 ((pickS f).seq : Int), .int .u64 ((pickS f).data : Int)], .int .i64 0]) ∧ Below V.heap.size V W' from by have h := ref10Read f V hf; rwa [hnone] at h))
        rw [hw] at TS hsl
        have w2 : IntKind.u64.wrap (((pickS f).seq : Int) + 1) = (((pickS f).seq + 1 : Nat) : Int) := by rw [IntWalk.u64_in _ (by omega)]; omega
        clear hw hsl hnone hgf hpe hpd hpq hpl hok hlen hle hfit HP hdl
        generalize (pickS f).seq + 1 = ww at *
        generalize (pickS f).bank = wb at *
        generalize (pickS f).gen = wg at *
        generalize (pickS f).seq = wq at *
        generalize (pickS f).data = wd at *
        have hB : Below W.heap.size W (W.alloc (.cells #[.string f.b0, .string f.b1, .int .i64 f.e0, .int .i64 f.e1, .int .i64 f.lim] 25)) := ((Below.refl _ _).alloc (Nat.le_refl _) _)
        have xf := (Box.new 25 W [.string f.b0, .string f.b1, .int .i64 f.e0, .int .i64 f.e1, .int .i64 f.lim])
        go_enter Tryz.func3, Tryz.ntmps3
        have cxf := xf.f5
        go_wp2_with fail
        refine (TBg.out _).mono ?_
        rintro e V1 ⟨rfl, hk⟩
        clear cxf
        replace hB := below_seq hB hk
        replace xf := xf.seq hk
        clear hk
        have cxf := xf.f5
        go_wp2_with fail
        refine (shown11 _).mono ?_
        rintro e V2 ⟨rfl, hk⟩
        clear cxf
        replace hB := below_seq hB hk
        replace xf := xf.seq hk
        clear hk
        have cxf := xf.f5
        go_wp2_with fail
        refine (TP.out _).mono ?_
        rintro e V3 ⟨A, c, rfl, hl, hc, hk⟩
        clear cxf
        replace hB := below_seq hB hk
        replace xf := xf.seq hk
        clear hk
        have cxf := xf.f5
        go_wp2_with fail
        refine (TI.out _).mono ?_
        rintro e V4 ⟨rfl, hk⟩
        clear cxf
        replace hB := below_seq hB hk
        replace xf := xf.seq hk
        replace hl := hl.seq hk
        clear hk
        have cxf := xf.f5
        go_wp2_with fail
        refine (TW.out _).mono ?_
        rintro e V5 ⟨rfl, hk⟩
        clear cxf
        replace hB := below_seq hB hk
        replace xf := xf.seq hk
        replace hl := hl.seq hk
        clear hk
        have xw := Box.new 34 V5 [.int .i64 wb, .int .u64 (wg : Int), .int .u64 (wq : Int), .int .u64 (wd : Int)]
        have ne_xw_xf : V5.heap.size ≠ W.heap.size := Nat.ne_of_gt xf.lt
        have le_xw : W.heap.size ≤ V5.heap.size := hB.size
        replace xf := xf.alloc (.cells #[.int .i64 wb, .int .u64 (wg : Int), .int .u64 (wq : Int), .int .u64 (wd : Int)] 34)
        replace hl := hl.alloc (.cells #[.int .i64 wb, .int .u64 (wg : Int), .int .u64 (wq : Int), .int .u64 (wd : Int)] 34)
        replace hB := hB.alloc hB.size (.cells #[.int .i64 wb, .int .u64 (wg : Int), .int .u64 (wq : Int), .int .u64 (wd : Int)] 34)
        have cxf := xf.f5
        have cxw := xw.f4
        go_wp2_with fail
        refine (TI.out _).mono ?_
        rintro e V6 ⟨rfl, hk⟩
        clear cxf cxw
        replace hB := below_seq hB hk
        replace xf := xf.seq hk
        replace xw := xw.seq hk
        replace hl := hl.seq hk
        clear hk
        have cxf := xf.f5
        have cxw := xw.f4
        go_wp2_with fail
        refine (TO.out A c _ hl hc).mono ?_
        rintro e V7 ⟨A', c', rfl, hl', hc', hk⟩
        clear cxf cxw
        replace hB := below_seq hB hk
        replace xf := xf.seq hk
        replace xw := xw.seq hk
        replace hl := hl.seq hk
        clear hk
        have cxf := xf.f5
        have cxw := xw.f4
        go_wp2_with fail
        refine (TY.out A' c' _ hl' hc').mono ?_
        rintro e V8 ⟨rfl, hk⟩
        clear cxf cxw
        replace hB := below_seq hB hk
        replace xf := xf.seq hk
        replace xw := xw.seq hk
        replace hl := hl.seq hk
        replace hl' := hl'.seq hk
        clear hk
        have xg := Box.new 37 V8 [.string g.b0, .string g.b1, .int .i64 g.e0, .int .i64 g.e1, .int .i64 g.lim]
        have ne_xg_xf : V8.heap.size ≠ W.heap.size := Nat.ne_of_gt xf.lt
        have ne_xg_xw : V8.heap.size ≠ V5.heap.size := Nat.ne_of_gt xw.lt
        have le_xg : W.heap.size ≤ V8.heap.size := hB.size
        replace xf := xf.alloc (.cells #[.string g.b0, .string g.b1, .int .i64 g.e0, .int .i64 g.e1, .int .i64 g.lim] 37)
        replace xw := xw.alloc (.cells #[.string g.b0, .string g.b1, .int .i64 g.e0, .int .i64 g.e1, .int .i64 g.lim] 37)
        replace hl := hl.alloc (.cells #[.string g.b0, .string g.b1, .int .i64 g.e0, .int .i64 g.e1, .int .i64 g.lim] 37)
        replace hl' := hl'.alloc (.cells #[.string g.b0, .string g.b1, .int .i64 g.e0, .int .i64 g.e1, .int .i64 g.lim] 37)
        replace hB := hB.alloc hB.size (.cells #[.string g.b0, .string g.b1, .int .i64 g.e0, .int .i64 g.e1, .int .i64 g.lim] 37)
        have cxf := xf.f5
        have cxw := xw.f4
        have cxg := xg.f5
        go_wp2_with fail
        refine (TS.out _).mono ?_
        rintro e V9 ⟨rfl, hk⟩
        clear cxf cxw cxg
        replace hB := below_seq hB hk
        replace xf := xf.seq hk
        replace xw := xw.seq hk
        replace xg := xg.seq hk
        replace hl := hl.seq hk
        replace hl' := hl'.seq hk
        clear hk
        have xs := Box.new 34 V9 [.int .i64 gb, .int .u64 (gg : Int), .int .u64 (ww : Int), .int .u64 (d.toNat : Int)]
        have ne_xs_xf : V9.heap.size ≠ W.heap.size := Nat.ne_of_gt xf.lt
        have ne_xs_xw : V9.heap.size ≠ V5.heap.size := Nat.ne_of_gt xw.lt
        have ne_xs_xg : V9.heap.size ≠ V8.heap.size := Nat.ne_of_gt xg.lt
        have le_xs : W.heap.size ≤ V9.heap.size := hB.size
        replace xf := xf.alloc (.cells #[.int .i64 gb, .int .u64 (gg : Int), .int .u64 (ww : Int), .int .u64 (d.toNat : Int)] 34)
        replace xw := xw.alloc (.cells #[.int .i64 gb, .int .u64 (gg : Int), .int .u64 (ww : Int), .int .u64 (d.toNat : Int)] 34)
        replace xg := xg.alloc (.cells #[.int .i64 gb, .int .u64 (gg : Int), .int .u64 (ww : Int), .int .u64 (d.toNat : Int)] 34)
        replace hl := hl.alloc (.cells #[.int .i64 gb, .int .u64 (gg : Int), .int .u64 (ww : Int), .int .u64 (d.toNat : Int)] 34)
        replace hl' := hl'.alloc (.cells #[.int .i64 gb, .int .u64 (gg : Int), .int .u64 (ww : Int), .int .u64 (d.toNat : Int)] 34)
        replace hB := hB.alloc hB.size (.cells #[.int .i64 gb, .int .u64 (gg : Int), .int .u64 (ww : Int), .int .u64 (d.toNat : Int)] 34)
        have cxf := xf.f5
        have cxw := xw.f4
        have cxg := xg.f5
        have cxs := xs.f4
        go_wp2
        go_ret
        exact ⟨rfl, hB⟩
      · have hw : wantN f = 1 := if_neg hnone
        have TW := Lib.hid (fun (V : World) => ref10Read f V hf)
        have n1 : (pickE f == 0) = false := beq_eq_false_iff_ne.2 hnone
        rw [hw] at TS
        clear hw hsl hnone hgf hpe hpd hpq hpl hok hlen hle hfit HP hdl
        generalize pickE f = pe at *
        generalize (pickS f).bank = wb at *
        generalize (pickS f).gen = wg at *
        generalize (pickS f).seq = wq at *
        generalize (pickS f).data = wd at *
        have hB : Below W.heap.size W (W.alloc (.cells #[.string f.b0, .string f.b1, .int .i64 f.e0, .int .i64 f.e1, .int .i64 f.lim] 25)) := ((Below.refl _ _).alloc (Nat.le_refl _) _)
        have xf := (Box.new 25 W [.string f.b0, .string f.b1, .int .i64 f.e0, .int .i64 f.e1, .int .i64 f.lim])
        go_enter Tryz.func3, Tryz.ntmps3
        have cxf := xf.f5
        go_wp2_with fail
        refine (TBg.out _).mono ?_
        rintro e V1 ⟨rfl, hk⟩
        clear cxf
        replace hB := below_seq hB hk
        replace xf := xf.seq hk
        clear hk
        have cxf := xf.f5
        go_wp2_with fail
        refine (shown11 _).mono ?_
        rintro e V2 ⟨rfl, hk⟩
        clear cxf
        replace hB := below_seq hB hk
        replace xf := xf.seq hk
        clear hk
        have cxf := xf.f5
        go_wp2_with fail
        refine (TP.out _).mono ?_
        rintro e V3 ⟨A, c, rfl, hl, hc, hk⟩
        clear cxf
        replace hB := below_seq hB hk
        replace xf := xf.seq hk
        clear hk
        have cxf := xf.f5
        go_wp2_with fail
        refine (TI.out _).mono ?_
        rintro e V4 ⟨rfl, hk⟩
        clear cxf
        replace hB := below_seq hB hk
        replace xf := xf.seq hk
        replace hl := hl.seq hk
        clear hk
        have cxf := xf.f5
        go_wp2_with fail
        refine (TW.out _).mono ?_
        rintro e V5 ⟨rfl, hk⟩
        clear cxf
        replace hB := below_seq hB hk
        replace xf := xf.seq hk
        replace hl := hl.seq hk
        clear hk
        have xw := Box.new 34 V5 [.int .i64 wb, .int .u64 (wg : Int), .int .u64 (wq : Int), .int .u64 (wd : Int)]
        have ne_xw_xf : V5.heap.size ≠ W.heap.size := Nat.ne_of_gt xf.lt
        have le_xw : W.heap.size ≤ V5.heap.size := hB.size
        replace xf := xf.alloc (.cells #[.int .i64 wb, .int .u64 (wg : Int), .int .u64 (wq : Int), .int .u64 (wd : Int)] 34)
        replace hl := hl.alloc (.cells #[.int .i64 wb, .int .u64 (wg : Int), .int .u64 (wq : Int), .int .u64 (wd : Int)] 34)
        replace hB := hB.alloc hB.size (.cells #[.int .i64 wb, .int .u64 (wg : Int), .int .u64 (wq : Int), .int .u64 (wd : Int)] 34)
        have cxf := xf.f5
        have cxw := xw.f4
        go_wp2_with fail
        refine (TI.out _).mono ?_
        rintro e V6 ⟨rfl, hk⟩
        clear cxf cxw
        replace hB := below_seq hB hk
        replace xf := xf.seq hk
        replace xw := xw.seq hk
        replace hl := hl.seq hk
        clear hk
        have cxf := xf.f5
        have cxw := xw.f4
        go_wp2_with fail
        refine (TO.out A c _ hl hc).mono ?_
        rintro e V7 ⟨A', c', rfl, hl', hc', hk⟩
        clear cxf cxw
        replace hB := below_seq hB hk
        replace xf := xf.seq hk
        replace xw := xw.seq hk
        replace hl := hl.seq hk
        clear hk
        have cxf := xf.f5
        have cxw := xw.f4
        go_wp2_with fail
        refine (TY.out A' c' _ hl' hc').mono ?_
        rintro e V8 ⟨rfl, hk⟩
        clear cxf cxw
        replace hB := below_seq hB hk
        replace xf := xf.seq hk
        replace xw := xw.seq hk
        replace hl := hl.seq hk
        replace hl' := hl'.seq hk
        clear hk
        have xg := Box.new 37 V8 [.string g.b0, .string g.b1, .int .i64 g.e0, .int .i64 g.e1, .int .i64 g.lim]
        have ne_xg_xf : V8.heap.size ≠ W.heap.size := Nat.ne_of_gt xf.lt
        have ne_xg_xw : V8.heap.size ≠ V5.heap.size := Nat.ne_of_gt xw.lt
        have le_xg : W.heap.size ≤ V8.heap.size := hB.size
        replace xf := xf.alloc (.cells #[.string g.b0, .string g.b1, .int .i64 g.e0, .int .i64 g.e1, .int .i64 g.lim] 37)
        replace xw := xw.alloc (.cells #[.string g.b0, .string g.b1, .int .i64 g.e0, .int .i64 g.e1, .int .i64 g.lim] 37)
        replace hl := hl.alloc (.cells #[.string g.b0, .string g.b1, .int .i64 g.e0, .int .i64 g.e1, .int .i64 g.lim] 37)
        replace hl' := hl'.alloc (.cells #[.string g.b0, .string g.b1, .int .i64 g.e0, .int .i64 g.e1, .int .i64 g.lim] 37)
        replace hB := hB.alloc hB.size (.cells #[.string g.b0, .string g.b1, .int .i64 g.e0, .int .i64 g.e1, .int .i64 g.lim] 37)
        have cxf := xf.f5
        have cxw := xw.f4
        have cxg := xg.f5
        go_wp2_with fail
        refine (TS.out _).mono ?_
        rintro e V9 ⟨rfl, hk⟩
        clear cxf cxw cxg
        replace hB := below_seq hB hk
        replace xf := xf.seq hk
        replace xw := xw.seq hk
        replace xg := xg.seq hk
        replace hl := hl.seq hk
        replace hl' := hl'.seq hk
        clear hk
        have xs := Box.new 34 V9 [.int .i64 gb, .int .u64 (gg : Int), .int .u64 1, .int .u64 (d.toNat : Int)]
        have ne_xs_xf : V9.heap.size ≠ W.heap.size := Nat.ne_of_gt xf.lt
        have ne_xs_xw : V9.heap.size ≠ V5.heap.size := Nat.ne_of_gt xw.lt
        have ne_xs_xg : V9.heap.size ≠ V8.heap.size := Nat.ne_of_gt xg.lt
        have le_xs : W.heap.size ≤ V9.heap.size := hB.size
        replace xf := xf.alloc (.cells #[.int .i64 gb, .int .u64 (gg : Int), .int .u64 1, .int .u64 (d.toNat : Int)] 34)
        replace xw := xw.alloc (.cells #[.int .i64 gb, .int .u64 (gg : Int), .int .u64 1, .int .u64 (d.toNat : Int)] 34)
        replace xg := xg.alloc (.cells #[.int .i64 gb, .int .u64 (gg : Int), .int .u64 1, .int .u64 (d.toNat : Int)] 34)
        replace hl := hl.alloc (.cells #[.int .i64 gb, .int .u64 (gg : Int), .int .u64 1, .int .u64 (d.toNat : Int)] 34)
        replace hl' := hl'.alloc (.cells #[.int .i64 gb, .int .u64 (gg : Int), .int .u64 1, .int .u64 (d.toNat : Int)] 34)
        replace hB := hB.alloc hB.size (.cells #[.int .i64 gb, .int .u64 (gg : Int), .int .u64 1, .int .u64 (d.toNat : Int)] 34)
        have cxf := xf.f5
        have cxw := xw.f4
        have cxg := xg.f5
        have cxs := xs.f4
        go_wp2
        go_ret
        exact ⟨rfl, hB⟩
    · have hnil : l = [] := hlen.elim (fun h => h.2) (fun h => absurd h.1 hE)
      subst hnil
      have TP := Lib.hid (fun (V : World) => (show Calls Tryz.prog 8 #[.agg #[.string f.b0, .string f.b1, .int .i64 f.e0, .int .i64 f.e1, .int .i64 f.lim], .int .u64 (d.toNat : Int)] V fun e W' => ∃ (A : Option Addr) (c : Nat), e = .returned (.tuple #[.slice A 0 c, .int .i64 E]) ∧ OpsAt W' A ([] : List PwOp) ∧ (0 ≤ c ∧ c ≤ maxLen) ∧ Below V.heap.size V W' from by have h := own11Plan f d.toNat V hf d.isLt; rw [HP] at h; exact h))
      have n1 : (E != 0) = true := bne_iff_ne.2 hE
      clear HP hE hok hle hlen hfit hdl
      have hB : Below W.heap.size W (W.alloc (.cells #[.string f.b0, .string f.b1, .int .i64 f.e0, .int .i64 f.e1, .int .i64 f.lim] 25)) := ((Below.refl _ _).alloc (Nat.le_refl _) _)
      have xf := (Box.new 25 W [.string f.b0, .string f.b1, .int .i64 f.e0, .int .i64 f.e1, .int .i64 f.lim])
      go_enter Tryz.func3, Tryz.ntmps3
      have cxf := xf.f5
      go_wp2_with fail
      refine (TBg.out _).mono ?_
      rintro e V1 ⟨rfl, hk⟩
      clear cxf
      replace hB := below_seq hB hk
      replace xf := xf.seq hk
      clear hk
      have cxf := xf.f5
      go_wp2_with fail
      refine (shown11 _).mono ?_
      rintro e V2 ⟨rfl, hk⟩
      clear cxf
      replace hB := below_seq hB hk
      replace xf := xf.seq hk
      clear hk
      have cxf := xf.f5
      go_wp2_with fail
      refine (TP.out _).mono ?_
      rintro e V3 ⟨A, c, rfl, hl, hc, hk⟩
      clear cxf
      replace hB := below_seq hB hk
      replace xf := xf.seq hk
      clear hk
      have cxf := xf.f5
      go_wp2
      go_ret
      exact ⟨rfl, hB⟩

theorem own : ownKnob Tryz.prog.godebug = none := by kernel_rfl

set_option maxRecDepth 100000 in
theorem lifted (os : Os) (started : os.Started) (H : Type) (enc : TypeId × Value → H) :
    ReturnsInHanded {} Tryz.checked os 3 .any (Rows.planDoneSpec.pre6 enc Tryz.prog Tryz.f3 Rows.planDoneRow.domain false) (Rows.planDoneSpec.post enc Tryz.prog Tryz.f3 false true false false) := by
  refine returnsInHanded_of_change (C := Tryz.checked) own started (by kernel_rfl) Tryz.func3
    (ChangeSpec.witness6 (enc := enc) (C := Tryz.checked) false ⟨#[], #[.agg #[.string ⟨#[]⟩, .string ⟨#[]⟩, .int .i64 0, .int .i64 0, .int .i64 0], .int .u64 0], []⟩ 8 (by kernel_rfl) (by kernel_rfl) (by kernel_rfl) (by kernel_rfl)) ?_
  intro W base args ds gs before hval hW _ _
  have hW' := hW
  obtain ⟨p, q, hA0, hV, rfl, hfz, hnd⟩ := hW
  have hA : DataW.TrodAll enc Tryz.prog W 0 (fun _ => true) true Tryz.f3.params.toList args.toList ds p := hA0
  rw [Tryz.params3] at hA hval
  obtain ⟨v0, vs0, d0, ds0, p0, q0, hargs, rfl, rfl, h0, r0⟩ := trodAll_cons hA
  obtain ⟨v1, vs1, d1, ds1, p1, q1, rfl, rfl, rfl, h1, r1⟩ := trodAll_cons r0
  obtain ⟨rfl, rfl, rfl⟩ := trodAll_nil r1
  obtain rfl : args = #[v0, v1] := by cases args; simp_all
  obtain ⟨rfl, rfl⟩ := trodVars_none hV
  have k0 := h0
  obtain ⟨s0, rfl, hs0⟩ := open_fl (hval 0 25 v0 rfl rfl) h0
  obtain ⟨a1, rfl, rfl, rfl, w1⟩ := open_int Tryz.underlying26 (hval 1 26 v1 rfl rfl) h1
  obtain ⟨c1, rfl⟩ := int_u64 w1
  clear hA0
  simp only [List.append_nil] at hW'
  refine (walk s0 c1 W hs0).mono fun e W' ⟨he, hB⟩ => ?_
  subst he
  exact ⟨_, rfl, ⟨_, _, _, [], _, [], hW', trodAll_cons_mk (shut_bool Tryz.underlying4 _) trodAll_mk0, (trodAll_cons_mk (Below.trod Tryz.laidOut (by kernel_rfl) (of_decide_eq_true (by kernel_rfl)) k0 hB (fun x hx => by simpa using hW'.lt x (by simp [hx]))) (trodAll_cons_mk (shut_int Tryz.underlying26 w1) trodAll_mk0)), rfl, hB.frame _, fun h => by cases h⟩⟩

theorem holds : Rows.PlanDoneSaid :=
  OpenClaim.holds_of_wide 3 Tryz.f3 rfl rfl rfl rfl rfl rfl rfl ⟨rfl, rfl, rfl, rfl, rfl⟩ rfl rfl rfl rfl rfl (by kernel_rfl) Tryz.func3 (by kernel_rfl)
    (of_decide_eq_true (by kernel_rfl)) (by unfold Func.isWrapper; first | (rw [if_pos (by decide +kernel)]; kernel_rfl) | (rw [if_neg (by decide +kernel)]; exact ⟨rfl, rfl⟩))
    (fun os started H enc _ => lifted os started H enc)
end Go.Proofs.YtiacdcnpkfpjaaaGreat.PlanDone

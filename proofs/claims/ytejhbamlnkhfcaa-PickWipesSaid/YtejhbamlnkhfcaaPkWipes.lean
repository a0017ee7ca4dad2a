/- When the other bank is wiped nothing changes; when the one that counts is, the other one counts, if it is sound (PickWipes); no condition. -/
import Derived.Test.YtejhbamlnkhfcaaPickLaw
import Derived.Deep.RegionHeld3
import Derived.WalkLawsBesides
import Derived.WalkSpells
import Derived.IntWalk
import Derived.Lib.Hide
import Derived.Test.YtejhbamlnkhfcaaBox
import Derived.ProofKit
import Derived.OpenShut
import Derived.ChangeMaps5
import Derived.Test.YtejhbamlnkhfcaaInts
namespace Go.Proofs.Ytejhbamlnkhfcaa.PickWipes
open Go.ChangeShapes Go.WideShapes Go.ChangeAt Go.RowKit Go.ChangeMaps
set_option linter.unusedVariables false
set_option linter.unusedSimpArgs false

set_option maxRecDepth 100000 in
set_option maxHeartbeats 16000000 in
theorem walk (f : Fl) (W : World) (hf : f.ok) :
    Calls Try.prog 6 #[.agg #[.string f.b0, .string f.b1, .int .i64 f.e0, .int .i64 f.e1, .int .i64 f.lim]] W fun e W' => e = .returned (.bool true) ∧ Below W.heap.size W W' := by
  by_cases hbig : big10 f = true
  · have TBg := Lib.hid (fun (V : World) => (show Calls Try.prog 7 #[.agg #[.string f.b0, .string f.b1, .int .i64 f.e0, .int .i64 f.e1, .int .i64 f.lim]] V fun e W' => e = .returned (.bool true) ∧ Below V.heap.size V W' from by have h := law10Big f V; rwa [hbig] at h))
    clear hbig
    have hB : Below W.heap.size W (W.alloc (.cells #[.string f.b0, .string f.b1, .int .i64 f.e0, .int .i64 f.e1, .int .i64 f.lim] 25)) := ((Below.refl _ _).alloc (Nat.le_refl _) _)
    have xf := (Box.new 25 W [.string f.b0, .string f.b1, .int .i64 f.e0, .int .i64 f.e1, .int .i64 f.lim])
    go_enter Try.func6, Try.ntmps6
    have xf0 := xf.cell 0 rfl
    have xfz0 := xf.frozen 0
    have xf1 := xf.cell 1 rfl
    have xfz1 := xf.frozen 1
    have xf2 := xf.cell 2 rfl
    have xfz2 := xf.frozen 2
    have xf3 := xf.cell 3 rfl
    have xfz3 := xf.frozen 3
    have xf4 := xf.cell 4 rfl
    have xfz4 := xf.frozen 4
    go_wp2_with fail
    refine (TBg.out _).mono ?_
    rintro e V1 ⟨rfl, hk⟩
    clear xf0 xfz0 xf1 xfz1 xf2 xfz2 xf3 xfz3 xf4 xfz4
    replace hB := below_seq hB hk
    replace xf := xf.seq hk
    clear hk
    have xf0 := xf.cell 0 rfl
    have xfz0 := xf.frozen 0
    have xf1 := xf.cell 1 rfl
    have xfz1 := xf.frozen 1
    have xf2 := xf.cell 2 rfl
    have xfz2 := xf.frozen 2
    have xf3 := xf.cell 3 rfl
    have xfz3 := xf.frozen 3
    have xf4 := xf.cell 4 rfl
    have xfz4 := xf.frozen 4
    go_wp2_with fail
    refine (shown10 _).mono ?_
    rintro e V2 ⟨rfl, hk⟩
    clear xf0 xfz0 xf1 xfz1 xf2 xfz2 xf3 xfz3 xf4 xfz4
    replace hB := below_seq hB hk
    replace xf := xf.seq hk
    clear hk
    have xf0 := xf.cell 0 rfl
    have xfz0 := xf.frozen 0
    have xf1 := xf.cell 1 rfl
    have xfz1 := xf.frozen 1
    have xf2 := xf.cell 2 rfl
    have xfz2 := xf.frozen 2
    have xf3 := xf.cell 3 rfl
    have xfz3 := xf.frozen 3
    have xf4 := xf.cell 4 rfl
    have xfz4 := xf.frozen 4
    go_wp2
    go_ret
    exact ⟨rfl, hB⟩
  · have hbig2 : big10 f = false := by cases h : big10 f with | false => rfl | true => exact absurd h hbig
    have TBg := Lib.hid (fun (V : World) => (show Calls Try.prog 7 #[.agg #[.string f.b0, .string f.b1, .int .i64 f.e0, .int .i64 f.e1, .int .i64 f.lim]] V fun e W' => e = .returned (.bool false) ∧ Below V.heap.size V W' from by have h := law10Big f V; rwa [hbig2] at h))
    obtain ⟨z0, z1⟩ := big10_no hbig2
    clear hbig hbig2
    have se : soundB ⟨#[]⟩ = false := by kernel_rfl
    rcases bankK_cases f with hk | hk | hk
    · skip
      have hb : bankK f = 0 ∨ bankK f = 1 := by omega
      have hps := pickS_some hb
      have he : pickE f = 0 := pickE_zero.2 hb
      have hpb : (pickS f).bank = 1 := by rw [hps]; exact hk
      have TR := Lib.hid (fun (V : World) => (show Calls Try.prog 12 #[.agg #[.string f.b0, .string f.b1, .int .i64 f.e0, .int .i64 f.e1, .int .i64 f.lim]] V fun e W' => e = .returned (.tuple #[.agg #[.int .i64 1, .int .u64 ((pickS f).gen : Int), .int .u64 ((pickS f).seq : Int), .int .u64 ((pickS f).data : Int)], .int .i64 0]) ∧ Below V.heap.size V W' from by have h := own10Read f V hf; rwa [he, hpb] at h))
      have okG : Fl.ok ⟨⟨#[]⟩, f.b1, f.e0, f.e1, f.lim⟩ := ⟨Nat.zero_le _, hf.s1, hf.n0, hf.n1, hf.nl⟩
      have okH : Fl.ok ⟨f.b0, ⟨#[]⟩, f.e0, f.e1, f.lim⟩ := ⟨hf.s0, Nat.zero_le _, hf.n0, hf.n1, hf.nl⟩
      have hpk := other_pick (e := f.erases 0) hb (v := ⟨#[]⟩) (fun x => by rw [se] at x; cases x)
      rw [show upd f (1 - bankK f) ⟨#[]⟩ (f.erases 0) = ⟨⟨#[]⟩, f.b1, f.e0, f.e1, f.lim⟩ from by rw [hk]; rfl] at hpk
      have TRG := Lib.hid (fun (V : World) => (show Calls Try.prog 12 #[.agg #[.string ⟨#[]⟩, .string f.b1, .int .i64 f.e0, .int .i64 f.e1, .int .i64 f.lim]] V fun e W' => e = .returned (.tuple #[.agg #[.int .i64 1, .int .u64 ((pickS f).gen : Int), .int .u64 ((pickS f).seq : Int), .int .u64 ((pickS f).data : Int)], .int .i64 0]) ∧ Below V.heap.size V W' from by have h := own10Read ⟨⟨#[]⟩, f.b1, f.e0, f.e1, f.lim⟩ V okG; rwa [hpk.2, show pickE ⟨⟨#[]⟩, f.b1, f.e0, f.e1, f.lim⟩ = 0 from pickE_zero.2 (by rw [hpk.1]; exact hb), hpb] at h))
      have hks := bankK_sound hb
      have hgp := gen_pick hb
      rw [hk] at hks hgp
      rw [show f.bank 1 = f.b1 from rfl, show f.bank (1 - 1) = f.b0 from rfl] at hks
      rw [show f.bank 1 = f.b1 from rfl] at hgp
      have TS := Lib.hid (fun (V : World) => ref09Sound f.b0 V hf.s0)
      by_cases hso : soundB f.b0 = true
      · have hbh : bankK ⟨f.b0, ⟨#[]⟩, f.e0, f.e1, f.lim⟩ = 0 := bankG_is0 hso (fun x => by rw [se] at x; cases x)
        have TRH := Lib.hid (fun (V : World) => (show Calls Try.prog 12 #[.agg #[.string f.b0, .string ⟨#[]⟩, .int .i64 f.e0, .int .i64 f.e1, .int .i64 f.lim]] V fun e W' => e = .returned (.tuple #[.agg #[.int .i64 0, .int .u64 (genN f.b0 : Int), .int .u64 ((lastR f.b0).seq : Int), .int .u64 ((lastR f.b0).data : Int)], .int .i64 0]) ∧ Below V.heap.size V W' from by have h := own10Read ⟨f.b0, ⟨#[]⟩, f.e0, f.e1, f.lim⟩ V okH; rw [pickE_zero.2 (by rw [hbh]; decide), pickS_some (by rw [hbh]; decide), hbh] at h; exact h))
        rw [hso] at TS
        have m1 : (genN f.b0 : Int) ≤ ((pickS f).gen : Int) := by rw [hgp]; have := (hks.2 hso).1; omega
        clear hbh
        clear hk hb hps he hpb okG okH hpk hks hgp hso z0 z1 se
        generalize (pickS f).gen = g at *
        generalize (pickS f).seq = q at *
        generalize (pickS f).data = d at *
        generalize genN f.b0 = x at *
        generalize (lastR f.b0).seq = y at *
        generalize (lastR f.b0).data = z at *
        have hB : Below W.heap.size W (W.alloc (.cells #[.string f.b0, .string f.b1, .int .i64 f.e0, .int .i64 f.e1, .int .i64 f.lim] 25)) := ((Below.refl _ _).alloc (Nat.le_refl _) _)
        have xf := (Box.new 25 W [.string f.b0, .string f.b1, .int .i64 f.e0, .int .i64 f.e1, .int .i64 f.lim])
        go_enter Try.func6, Try.ntmps6
        have xf0 := xf.cell 0 rfl
        have xfz0 := xf.frozen 0
        have xf1 := xf.cell 1 rfl
        have xfz1 := xf.frozen 1
        have xf2 := xf.cell 2 rfl
        have xfz2 := xf.frozen 2
        have xf3 := xf.cell 3 rfl
        have xfz3 := xf.frozen 3
        have xf4 := xf.cell 4 rfl
        have xfz4 := xf.frozen 4
        go_wp2_with fail
        refine (TBg.out _).mono ?_
        rintro e V1 ⟨rfl, hk⟩
        clear xf0 xfz0 xf1 xfz1 xf2 xfz2 xf3 xfz3 xf4 xfz4
        replace hB := below_seq hB hk
        replace xf := xf.seq hk
        clear hk
        have xf0 := xf.cell 0 rfl
        have xfz0 := xf.frozen 0
        have xf1 := xf.cell 1 rfl
        have xfz1 := xf.frozen 1
        have xf2 := xf.cell 2 rfl
        have xfz2 := xf.frozen 2
        have xf3 := xf.cell 3 rfl
        have xfz3 := xf.frozen 3
        have xf4 := xf.cell 4 rfl
        have xfz4 := xf.frozen 4
        go_wp2_with fail
        refine (shown10 _).mono ?_
        rintro e V2 ⟨rfl, hk⟩
        clear xf0 xfz0 xf1 xfz1 xf2 xfz2 xf3 xfz3 xf4 xfz4
        replace hB := below_seq hB hk
        replace xf := xf.seq hk
        clear hk
        have xf0 := xf.cell 0 rfl
        have xfz0 := xf.frozen 0
        have xf1 := xf.cell 1 rfl
        have xfz1 := xf.frozen 1
        have xf2 := xf.cell 2 rfl
        have xfz2 := xf.frozen 2
        have xf3 := xf.cell 3 rfl
        have xfz3 := xf.frozen 3
        have xf4 := xf.cell 4 rfl
        have xfz4 := xf.frozen 4
        go_wp2_with fail
        refine (TR.out _).mono ?_
        rintro e V3 ⟨rfl, hk⟩
        clear xf0 xfz0 xf1 xfz1 xf2 xfz2 xf3 xfz3 xf4 xfz4
        replace hB := below_seq hB hk
        replace xf := xf.seq hk
        clear hk
        have xa := Box.new 35 V3 [.int .i64 1, .int .u64 (g : Int), .int .u64 (q : Int), .int .u64 (d : Int)]
        have ne_xa_xf : V3.heap.size ≠ W.heap.size := Nat.ne_of_gt xf.lt
        have le_xa : W.heap.size ≤ V3.heap.size := hB.size
        replace xf := xf.alloc (.cells #[.int .i64 1, .int .u64 (g : Int), .int .u64 (q : Int), .int .u64 (d : Int)] 35)
        replace hB := hB.alloc hB.size (.cells #[.int .i64 1, .int .u64 (g : Int), .int .u64 (q : Int), .int .u64 (d : Int)] 35)
        have xf0 := xf.cell 0 rfl
        have xfz0 := xf.frozen 0
        have xf1 := xf.cell 1 rfl
        have xfz1 := xf.frozen 1
        have xf2 := xf.cell 2 rfl
        have xfz2 := xf.frozen 2
        have xf3 := xf.cell 3 rfl
        have xfz3 := xf.frozen 3
        have xf4 := xf.cell 4 rfl
        have xfz4 := xf.frozen 4
        have xa0 := xa.cell 0 rfl
        have xaz0 := xa.frozen 0
        have xa1 := xa.cell 1 rfl
        have xaz1 := xa.frozen 1
        have xa2 := xa.cell 2 rfl
        have xaz2 := xa.frozen 2
        have xa3 := xa.cell 3 rfl
        have xaz3 := xa.frozen 3
        have u0 := xf.cell 0 rfl
        have u1 := xf.cell 1 rfl
        have u2 := xf.cell 2 rfl
        have u3 := xf.cell 3 rfl
        have u4 := xf.cell 4 rfl
        clear xf0 xfz0 xf1 xfz1 xf2 xfz2 xf3 xfz3 xf4 xfz4 xa0 xaz0 xa1 xaz1 xa2 xaz2 xa3 xaz3
        have xg := Box.new 25 (V3.alloc (.cells #[.int .i64 1, .int .u64 (g : Int), .int .u64 (q : Int), .int .u64 (d : Int)] 35)) [.string ⟨#[]⟩, .string f.b1, .int .i64 f.e0, .int .i64 f.e1, .int .i64 f.lim]
        have ne_xg_xf : (V3.alloc (.cells #[.int .i64 1, .int .u64 (g : Int), .int .u64 (q : Int), .int .u64 (d : Int)] 35)).heap.size ≠ W.heap.size := Nat.ne_of_gt xf.lt
        have ne_xg_xa : (V3.alloc (.cells #[.int .i64 1, .int .u64 (g : Int), .int .u64 (q : Int), .int .u64 (d : Int)] 35)).heap.size ≠ V3.heap.size := Nat.ne_of_gt xa.lt
        have le_xg : W.heap.size ≤ (V3.alloc (.cells #[.int .i64 1, .int .u64 (g : Int), .int .u64 (q : Int), .int .u64 (d : Int)] 35)).heap.size := hB.size
        replace xf := xf.alloc (.cells #[.string ⟨#[]⟩, .string f.b1, .int .i64 f.e0, .int .i64 f.e1, .int .i64 f.lim] 25)
        replace xa := xa.alloc (.cells #[.string ⟨#[]⟩, .string f.b1, .int .i64 f.e0, .int .i64 f.e1, .int .i64 f.lim] 25)
        replace hB := hB.alloc hB.size (.cells #[.string ⟨#[]⟩, .string f.b1, .int .i64 f.e0, .int .i64 f.e1, .int .i64 f.lim] 25)
        have xf0 := xf.cell 0 rfl
        have xfz0 := xf.frozen 0
        have xf1 := xf.cell 1 rfl
        have xfz1 := xf.frozen 1
        have xf2 := xf.cell 2 rfl
        have xfz2 := xf.frozen 2
        have xf3 := xf.cell 3 rfl
        have xfz3 := xf.frozen 3
        have xf4 := xf.cell 4 rfl
        have xfz4 := xf.frozen 4
        have xa0 := xa.cell 0 rfl
        have xaz0 := xa.frozen 0
        have xa1 := xa.cell 1 rfl
        have xaz1 := xa.frozen 1
        have xa2 := xa.cell 2 rfl
        have xaz2 := xa.frozen 2
        have xa3 := xa.cell 3 rfl
        have xaz3 := xa.frozen 3
        have xg0 := xg.cell 0 rfl
        have xgz0 := xg.frozen 0
        have xg1 := xg.cell 1 rfl
        have xgz1 := xg.frozen 1
        have xg2 := xg.cell 2 rfl
        have xgz2 := xg.frozen 2
        have xg3 := xg.cell 3 rfl
        have xgz3 := xg.frozen 3
        have xg4 := xg.cell 4 rfl
        have xgz4 := xg.frozen 4
        go_wp2_with fail
        clear u0 u1 u2 u3 u4
        refine (TRG.out _).mono ?_
        rintro e V4 ⟨rfl, hk⟩
        clear xf0 xfz0 xf1 xfz1 xf2 xfz2 xf3 xfz3 xf4 xfz4 xa0 xaz0 xa1 xaz1 xa2 xaz2 xa3 xaz3 xg0 xgz0 xg1 xgz1 xg2 xgz2 xg3 xgz3 xg4 xgz4
        replace hB := below_seq hB hk
        replace xf := xf.seq hk
        replace xa := xa.seq hk
        replace xg := xg.seq hk
        clear hk
        have xb := Box.new 35 V4 [.int .i64 1, .int .u64 (g : Int), .int .u64 (q : Int), .int .u64 (d : Int)]
        have ne_xb_xf : V4.heap.size ≠ W.heap.size := Nat.ne_of_gt xf.lt
        have ne_xb_xa : V4.heap.size ≠ V3.heap.size := Nat.ne_of_gt xa.lt
        have ne_xb_xg : V4.heap.size ≠ (V3.alloc (.cells #[.int .i64 1, .int .u64 (g : Int), .int .u64 (q : Int), .int .u64 (d : Int)] 35)).heap.size := Nat.ne_of_gt xg.lt
        have le_xb : W.heap.size ≤ V4.heap.size := hB.size
        replace xf := xf.alloc (.cells #[.int .i64 1, .int .u64 (g : Int), .int .u64 (q : Int), .int .u64 (d : Int)] 35)
        replace xa := xa.alloc (.cells #[.int .i64 1, .int .u64 (g : Int), .int .u64 (q : Int), .int .u64 (d : Int)] 35)
        replace xg := xg.alloc (.cells #[.int .i64 1, .int .u64 (g : Int), .int .u64 (q : Int), .int .u64 (d : Int)] 35)
        replace hB := hB.alloc hB.size (.cells #[.int .i64 1, .int .u64 (g : Int), .int .u64 (q : Int), .int .u64 (d : Int)] 35)
        have xf0 := xf.cell 0 rfl
        have xfz0 := xf.frozen 0
        have xf1 := xf.cell 1 rfl
        have xfz1 := xf.frozen 1
        have xf2 := xf.cell 2 rfl
        have xfz2 := xf.frozen 2
        have xf3 := xf.cell 3 rfl
        have xfz3 := xf.frozen 3
        have xf4 := xf.cell 4 rfl
        have xfz4 := xf.frozen 4
        have xa0 := xa.cell 0 rfl
        have xaz0 := xa.frozen 0
        have xa1 := xa.cell 1 rfl
        have xaz1 := xa.frozen 1
        have xa2 := xa.cell 2 rfl
        have xaz2 := xa.frozen 2
        have xa3 := xa.cell 3 rfl
        have xaz3 := xa.frozen 3
        have xg0 := xg.cell 0 rfl
        have xgz0 := xg.frozen 0
        have xg1 := xg.cell 1 rfl
        have xgz1 := xg.frozen 1
        have xg2 := xg.cell 2 rfl
        have xgz2 := xg.frozen 2
        have xg3 := xg.cell 3 rfl
        have xgz3 := xg.frozen 3
        have xg4 := xg.cell 4 rfl
        have xgz4 := xg.frozen 4
        have xb0 := xb.cell 0 rfl
        have xbz0 := xb.frozen 0
        have xb1 := xb.cell 1 rfl
        have xbz1 := xb.frozen 1
        have xb2 := xb.cell 2 rfl
        have xbz2 := xb.frozen 2
        have xb3 := xb.cell 3 rfl
        have xbz3 := xb.frozen 3
        go_wp2_with fail
        clear xf0 xfz0 xf1 xfz1 xf2 xfz2 xf3 xfz3 xf4 xfz4 xa0 xaz0 xa1 xaz1 xa2 xaz2 xa3 xaz3 xg0 xgz0 xg1 xgz1 xg2 xgz2 xg3 xgz3 xg4 xgz4 xb0 xbz0 xb1 xbz1 xb2 xbz2 xb3 xbz3
        replace xa : Box 35 ((V4.alloc (.cells #[.int .i64 1, .int .u64 (g : Int), .int .u64 (q : Int), .int .u64 (d : Int)] 35)).setCell ⟨W.heap.size, 1, none⟩ (.string ⟨#[]⟩)) (V3.heap.size) [.int .i64 1, .int .u64 (g : Int), .int .u64 (q : Int), .int .u64 (d : Int)] := (xa.other (Ne.symm ne_xa_xf) 1 (.string ⟨#[]⟩))
        replace xg : Box 25 ((V4.alloc (.cells #[.int .i64 1, .int .u64 (g : Int), .int .u64 (q : Int), .int .u64 (d : Int)] 35)).setCell ⟨W.heap.size, 1, none⟩ (.string ⟨#[]⟩)) ((V3.alloc (.cells #[.int .i64 1, .int .u64 (g : Int), .int .u64 (q : Int), .int .u64 (d : Int)] 35)).heap.size) [.string ⟨#[]⟩, .string f.b1, .int .i64 f.e0, .int .i64 f.e1, .int .i64 f.lim] := (xg.other (Ne.symm ne_xg_xf) 1 (.string ⟨#[]⟩))
        replace xb : Box 35 ((V4.alloc (.cells #[.int .i64 1, .int .u64 (g : Int), .int .u64 (q : Int), .int .u64 (d : Int)] 35)).setCell ⟨W.heap.size, 1, none⟩ (.string ⟨#[]⟩)) (V4.heap.size) [.int .i64 1, .int .u64 (g : Int), .int .u64 (q : Int), .int .u64 (d : Int)] := (xb.other (Ne.symm ne_xb_xf) 1 (.string ⟨#[]⟩))
        replace xf : Box 25 ((V4.alloc (.cells #[.int .i64 1, .int .u64 (g : Int), .int .u64 (q : Int), .int .u64 (d : Int)] 35)).setCell ⟨W.heap.size, 1, none⟩ (.string ⟨#[]⟩)) (W.heap.size) [.string f.b0, .string ⟨#[]⟩, .int .i64 f.e0, .int .i64 f.e1, .int .i64 f.lim] := (xf.set 1 (.string ⟨#[]⟩))
        replace hB : Below W.heap.size W ((V4.alloc (.cells #[.int .i64 1, .int .u64 (g : Int), .int .u64 (q : Int), .int .u64 (d : Int)] 35)).setCell ⟨W.heap.size, 1, none⟩ (.string ⟨#[]⟩)) := (hB.setCell (Nat.le_refl _) _)
        generalize ((V4.alloc (.cells #[.int .i64 1, .int .u64 (g : Int), .int .u64 (q : Int), .int .u64 (d : Int)] 35)).setCell ⟨W.heap.size, 1, none⟩ (.string ⟨#[]⟩)) = V5 at *
        have xf0 := xf.cell 0 rfl
        have xfz0 := xf.frozen 0
        have xf1 := xf.cell 1 rfl
        have xfz1 := xf.frozen 1
        have xf2 := xf.cell 2 rfl
        have xfz2 := xf.frozen 2
        have xf3 := xf.cell 3 rfl
        have xfz3 := xf.frozen 3
        have xf4 := xf.cell 4 rfl
        have xfz4 := xf.frozen 4
        have xa0 := xa.cell 0 rfl
        have xaz0 := xa.frozen 0
        have xa1 := xa.cell 1 rfl
        have xaz1 := xa.frozen 1
        have xa2 := xa.cell 2 rfl
        have xaz2 := xa.frozen 2
        have xa3 := xa.cell 3 rfl
        have xaz3 := xa.frozen 3
        have xg0 := xg.cell 0 rfl
        have xgz0 := xg.frozen 0
        have xg1 := xg.cell 1 rfl
        have xgz1 := xg.frozen 1
        have xg2 := xg.cell 2 rfl
        have xgz2 := xg.frozen 2
        have xg3 := xg.cell 3 rfl
        have xgz3 := xg.frozen 3
        have xg4 := xg.cell 4 rfl
        have xgz4 := xg.frozen 4
        have xb0 := xb.cell 0 rfl
        have xbz0 := xb.frozen 0
        have xb1 := xb.cell 1 rfl
        have xbz1 := xb.frozen 1
        have xb2 := xb.cell 2 rfl
        have xbz2 := xb.frozen 2
        have xb3 := xb.cell 3 rfl
        have xbz3 := xb.frozen 3
        refine (TRH.out _).mono ?_
        rintro e V6 ⟨rfl, hk⟩
        clear xf0 xfz0 xf1 xfz1 xf2 xfz2 xf3 xfz3 xf4 xfz4 xa0 xaz0 xa1 xaz1 xa2 xaz2 xa3 xaz3 xg0 xgz0 xg1 xgz1 xg2 xgz2 xg3 xgz3 xg4 xgz4 xb0 xbz0 xb1 xbz1 xb2 xbz2 xb3 xbz3
        replace hB := below_seq hB hk
        replace xf := xf.seq hk
        replace xa := xa.seq hk
        replace xg := xg.seq hk
        replace xb := xb.seq hk
        clear hk
        have xc := Box.new 35 V6 [.int .i64 0, .int .u64 (x : Int), .int .u64 (y : Int), .int .u64 (z : Int)]
        have ne_xc_xf : V6.heap.size ≠ W.heap.size := Nat.ne_of_gt xf.lt
        have ne_xc_xa : V6.heap.size ≠ V3.heap.size := Nat.ne_of_gt xa.lt
        have ne_xc_xg : V6.heap.size ≠ (V3.alloc (.cells #[.int .i64 1, .int .u64 (g : Int), .int .u64 (q : Int), .int .u64 (d : Int)] 35)).heap.size := Nat.ne_of_gt xg.lt
        have ne_xc_xb : V6.heap.size ≠ V4.heap.size := Nat.ne_of_gt xb.lt
        have le_xc : W.heap.size ≤ V6.heap.size := hB.size
        replace xf := xf.alloc (.cells #[.int .i64 0, .int .u64 (x : Int), .int .u64 (y : Int), .int .u64 (z : Int)] 35)
        replace xa := xa.alloc (.cells #[.int .i64 0, .int .u64 (x : Int), .int .u64 (y : Int), .int .u64 (z : Int)] 35)
        replace xg := xg.alloc (.cells #[.int .i64 0, .int .u64 (x : Int), .int .u64 (y : Int), .int .u64 (z : Int)] 35)
        replace xb := xb.alloc (.cells #[.int .i64 0, .int .u64 (x : Int), .int .u64 (y : Int), .int .u64 (z : Int)] 35)
        replace hB := hB.alloc hB.size (.cells #[.int .i64 0, .int .u64 (x : Int), .int .u64 (y : Int), .int .u64 (z : Int)] 35)
        have xf0 := xf.cell 0 rfl
        have xfz0 := xf.frozen 0
        have xf1 := xf.cell 1 rfl
        have xfz1 := xf.frozen 1
        have xf2 := xf.cell 2 rfl
        have xfz2 := xf.frozen 2
        have xf3 := xf.cell 3 rfl
        have xfz3 := xf.frozen 3
        have xf4 := xf.cell 4 rfl
        have xfz4 := xf.frozen 4
        have xa0 := xa.cell 0 rfl
        have xaz0 := xa.frozen 0
        have xa1 := xa.cell 1 rfl
        have xaz1 := xa.frozen 1
        have xa2 := xa.cell 2 rfl
        have xaz2 := xa.frozen 2
        have xa3 := xa.cell 3 rfl
        have xaz3 := xa.frozen 3
        have xg0 := xg.cell 0 rfl
        have xgz0 := xg.frozen 0
        have xg1 := xg.cell 1 rfl
        have xgz1 := xg.frozen 1
        have xg2 := xg.cell 2 rfl
        have xgz2 := xg.frozen 2
        have xg3 := xg.cell 3 rfl
        have xgz3 := xg.frozen 3
        have xg4 := xg.cell 4 rfl
        have xgz4 := xg.frozen 4
        have xb0 := xb.cell 0 rfl
        have xbz0 := xb.frozen 0
        have xb1 := xb.cell 1 rfl
        have xbz1 := xb.frozen 1
        have xb2 := xb.cell 2 rfl
        have xbz2 := xb.frozen 2
        have xb3 := xb.cell 3 rfl
        have xbz3 := xb.frozen 3
        have xc0 := xc.cell 0 rfl
        have xcz0 := xc.frozen 0
        have xc1 := xc.cell 1 rfl
        have xcz1 := xc.frozen 1
        have xc2 := xc.cell 2 rfl
        have xcz2 := xc.frozen 2
        have xc3 := xc.cell 3 rfl
        have xcz3 := xc.frozen 3
        go_wp2_with fail
        refine (TS.out _).mono ?_
        rintro e V7 ⟨rfl, hk⟩
        clear xf0 xfz0 xf1 xfz1 xf2 xfz2 xf3 xfz3 xf4 xfz4 xa0 xaz0 xa1 xaz1 xa2 xaz2 xa3 xaz3 xg0 xgz0 xg1 xgz1 xg2 xgz2 xg3 xgz3 xg4 xgz4 xb0 xbz0 xb1 xbz1 xb2 xbz2 xb3 xbz3 xc0 xcz0 xc1 xcz1 xc2 xcz2 xc3 xcz3
        replace hB := below_seq hB hk
        replace xf := xf.seq hk
        replace xa := xa.seq hk
        replace xg := xg.seq hk
        replace xb := xb.seq hk
        replace xc := xc.seq hk
        clear hk
        have xf0 := xf.cell 0 rfl
        have xfz0 := xf.frozen 0
        have xf1 := xf.cell 1 rfl
        have xfz1 := xf.frozen 1
        have xf2 := xf.cell 2 rfl
        have xfz2 := xf.frozen 2
        have xf3 := xf.cell 3 rfl
        have xfz3 := xf.frozen 3
        have xf4 := xf.cell 4 rfl
        have xfz4 := xf.frozen 4
        have xa0 := xa.cell 0 rfl
        have xaz0 := xa.frozen 0
        have xa1 := xa.cell 1 rfl
        have xaz1 := xa.frozen 1
        have xa2 := xa.cell 2 rfl
        have xaz2 := xa.frozen 2
        have xa3 := xa.cell 3 rfl
        have xaz3 := xa.frozen 3
        have xg0 := xg.cell 0 rfl
        have xgz0 := xg.frozen 0
        have xg1 := xg.cell 1 rfl
        have xgz1 := xg.frozen 1
        have xg2 := xg.cell 2 rfl
        have xgz2 := xg.frozen 2
        have xg3 := xg.cell 3 rfl
        have xgz3 := xg.frozen 3
        have xg4 := xg.cell 4 rfl
        have xgz4 := xg.frozen 4
        have xb0 := xb.cell 0 rfl
        have xbz0 := xb.frozen 0
        have xb1 := xb.cell 1 rfl
        have xbz1 := xb.frozen 1
        have xb2 := xb.cell 2 rfl
        have xbz2 := xb.frozen 2
        have xb3 := xb.cell 3 rfl
        have xbz3 := xb.frozen 3
        have xc0 := xc.cell 0 rfl
        have xcz0 := xc.frozen 0
        have xc1 := xc.cell 1 rfl
        have xcz1 := xc.frozen 1
        have xc2 := xc.cell 2 rfl
        have xcz2 := xc.frozen 2
        have xc3 := xc.cell 3 rfl
        have xcz3 := xc.frozen 3
        go_wp2
        go_ret
        exact ⟨rfl, hB⟩
      · have hs2 : soundB f.b0 = false := by cases h : soundB f.b0 with | false => rfl | true => exact absurd h hso
        have hbh : bankK ⟨f.b0, ⟨#[]⟩, f.e0, f.e1, f.lim⟩ < 0 := bankG_none.2 ⟨hs2, se⟩
        have TRH := Lib.hid (fun (V : World) => (show Calls Try.prog 12 #[.agg #[.string f.b0, .string ⟨#[]⟩, .int .i64 f.e0, .int .i64 f.e1, .int .i64 f.lim]] V fun e W' => e = .returned (.tuple #[.agg #[.int .i64 0, .int .u64 0, .int .u64 0, .int .u64 0], .int .i64 10]) ∧ Below V.heap.size V W' from by have h := own10Read ⟨f.b0, ⟨#[]⟩, f.e0, f.e1, f.lim⟩ V okH; rwa [show pickE ⟨f.b0, ⟨#[]⟩, f.e0, f.e1, f.lim⟩ = 10 from if_pos hbh, pickS_none hbh] at h))
        rw [hs2] at TS
        clear hbh hs2
        clear hk hb hps he hpb okG okH hpk hks hgp hso z0 z1 se
        generalize (pickS f).gen = g at *
        generalize (pickS f).seq = q at *
        generalize (pickS f).data = d at *
        have hB : Below W.heap.size W (W.alloc (.cells #[.string f.b0, .string f.b1, .int .i64 f.e0, .int .i64 f.e1, .int .i64 f.lim] 25)) := ((Below.refl _ _).alloc (Nat.le_refl _) _)
        have xf := (Box.new 25 W [.string f.b0, .string f.b1, .int .i64 f.e0, .int .i64 f.e1, .int .i64 f.lim])
        go_enter Try.func6, Try.ntmps6
        have xf0 := xf.cell 0 rfl
        have xfz0 := xf.frozen 0
        have xf1 := xf.cell 1 rfl
        have xfz1 := xf.frozen 1
        have xf2 := xf.cell 2 rfl
        have xfz2 := xf.frozen 2
        have xf3 := xf.cell 3 rfl
        have xfz3 := xf.frozen 3
        have xf4 := xf.cell 4 rfl
        have xfz4 := xf.frozen 4
        go_wp2_with fail
        refine (TBg.out _).mono ?_
        rintro e V1 ⟨rfl, hk⟩
        clear xf0 xfz0 xf1 xfz1 xf2 xfz2 xf3 xfz3 xf4 xfz4
        replace hB := below_seq hB hk
        replace xf := xf.seq hk
        clear hk
        have xf0 := xf.cell 0 rfl
        have xfz0 := xf.frozen 0
        have xf1 := xf.cell 1 rfl
        have xfz1 := xf.frozen 1
        have xf2 := xf.cell 2 rfl
        have xfz2 := xf.frozen 2
        have xf3 := xf.cell 3 rfl
        have xfz3 := xf.frozen 3
        have xf4 := xf.cell 4 rfl
        have xfz4 := xf.frozen 4
        go_wp2_with fail
        refine (shown10 _).mono ?_
        rintro e V2 ⟨rfl, hk⟩
        clear xf0 xfz0 xf1 xfz1 xf2 xfz2 xf3 xfz3 xf4 xfz4
        replace hB := below_seq hB hk
        replace xf := xf.seq hk
        clear hk
        have xf0 := xf.cell 0 rfl
        have xfz0 := xf.frozen 0
        have xf1 := xf.cell 1 rfl
        have xfz1 := xf.frozen 1
        have xf2 := xf.cell 2 rfl
        have xfz2 := xf.frozen 2
        have xf3 := xf.cell 3 rfl
        have xfz3 := xf.frozen 3
        have xf4 := xf.cell 4 rfl
        have xfz4 := xf.frozen 4
        go_wp2_with fail
        refine (TR.out _).mono ?_
        rintro e V3 ⟨rfl, hk⟩
        clear xf0 xfz0 xf1 xfz1 xf2 xfz2 xf3 xfz3 xf4 xfz4
        replace hB := below_seq hB hk
        replace xf := xf.seq hk
        clear hk
        have xa := Box.new 35 V3 [.int .i64 1, .int .u64 (g : Int), .int .u64 (q : Int), .int .u64 (d : Int)]
        have ne_xa_xf : V3.heap.size ≠ W.heap.size := Nat.ne_of_gt xf.lt
        have le_xa : W.heap.size ≤ V3.heap.size := hB.size
        replace xf := xf.alloc (.cells #[.int .i64 1, .int .u64 (g : Int), .int .u64 (q : Int), .int .u64 (d : Int)] 35)
        replace hB := hB.alloc hB.size (.cells #[.int .i64 1, .int .u64 (g : Int), .int .u64 (q : Int), .int .u64 (d : Int)] 35)
        have xf0 := xf.cell 0 rfl
        have xfz0 := xf.frozen 0
        have xf1 := xf.cell 1 rfl
        have xfz1 := xf.frozen 1
        have xf2 := xf.cell 2 rfl
        have xfz2 := xf.frozen 2
        have xf3 := xf.cell 3 rfl
        have xfz3 := xf.frozen 3
        have xf4 := xf.cell 4 rfl
        have xfz4 := xf.frozen 4
        have xa0 := xa.cell 0 rfl
        have xaz0 := xa.frozen 0
        have xa1 := xa.cell 1 rfl
        have xaz1 := xa.frozen 1
        have xa2 := xa.cell 2 rfl
        have xaz2 := xa.frozen 2
        have xa3 := xa.cell 3 rfl
        have xaz3 := xa.frozen 3
        have u0 := xf.cell 0 rfl
        have u1 := xf.cell 1 rfl
        have u2 := xf.cell 2 rfl
        have u3 := xf.cell 3 rfl
        have u4 := xf.cell 4 rfl
        clear xf0 xfz0 xf1 xfz1 xf2 xfz2 xf3 xfz3 xf4 xfz4 xa0 xaz0 xa1 xaz1 xa2 xaz2 xa3 xaz3
        have xg := Box.new 25 (V3.alloc (.cells #[.int .i64 1, .int .u64 (g : Int), .int .u64 (q : Int), .int .u64 (d : Int)] 35)) [.string ⟨#[]⟩, .string f.b1, .int .i64 f.e0, .int .i64 f.e1, .int .i64 f.lim]
        have ne_xg_xf : (V3.alloc (.cells #[.int .i64 1, .int .u64 (g : Int), .int .u64 (q : Int), .int .u64 (d : Int)] 35)).heap.size ≠ W.heap.size := Nat.ne_of_gt xf.lt
        have ne_xg_xa : (V3.alloc (.cells #[.int .i64 1, .int .u64 (g : Int), .int .u64 (q : Int), .int .u64 (d : Int)] 35)).heap.size ≠ V3.heap.size := Nat.ne_of_gt xa.lt
        have le_xg : W.heap.size ≤ (V3.alloc (.cells #[.int .i64 1, .int .u64 (g : Int), .int .u64 (q : Int), .int .u64 (d : Int)] 35)).heap.size := hB.size
        replace xf := xf.alloc (.cells #[.string ⟨#[]⟩, .string f.b1, .int .i64 f.e0, .int .i64 f.e1, .int .i64 f.lim] 25)
        replace xa := xa.alloc (.cells #[.string ⟨#[]⟩, .string f.b1, .int .i64 f.e0, .int .i64 f.e1, .int .i64 f.lim] 25)
        replace hB := hB.alloc hB.size (.cells #[.string ⟨#[]⟩, .string f.b1, .int .i64 f.e0, .int .i64 f.e1, .int .i64 f.lim] 25)
        have xf0 := xf.cell 0 rfl
        have xfz0 := xf.frozen 0
        have xf1 := xf.cell 1 rfl
        have xfz1 := xf.frozen 1
        have xf2 := xf.cell 2 rfl
        have xfz2 := xf.frozen 2
        have xf3 := xf.cell 3 rfl
        have xfz3 := xf.frozen 3
        have xf4 := xf.cell 4 rfl
        have xfz4 := xf.frozen 4
        have xa0 := xa.cell 0 rfl
        have xaz0 := xa.frozen 0
        have xa1 := xa.cell 1 rfl
        have xaz1 := xa.frozen 1
        have xa2 := xa.cell 2 rfl
        have xaz2 := xa.frozen 2
        have xa3 := xa.cell 3 rfl
        have xaz3 := xa.frozen 3
        have xg0 := xg.cell 0 rfl
        have xgz0 := xg.frozen 0
        have xg1 := xg.cell 1 rfl
        have xgz1 := xg.frozen 1
        have xg2 := xg.cell 2 rfl
        have xgz2 := xg.frozen 2
        have xg3 := xg.cell 3 rfl
        have xgz3 := xg.frozen 3
        have xg4 := xg.cell 4 rfl
        have xgz4 := xg.frozen 4
        go_wp2_with fail
        clear u0 u1 u2 u3 u4
        refine (TRG.out _).mono ?_
        rintro e V4 ⟨rfl, hk⟩
        clear xf0 xfz0 xf1 xfz1 xf2 xfz2 xf3 xfz3 xf4 xfz4 xa0 xaz0 xa1 xaz1 xa2 xaz2 xa3 xaz3 xg0 xgz0 xg1 xgz1 xg2 xgz2 xg3 xgz3 xg4 xgz4
        replace hB := below_seq hB hk
        replace xf := xf.seq hk
        replace xa := xa.seq hk
        replace xg := xg.seq hk
        clear hk
        have xb := Box.new 35 V4 [.int .i64 1, .int .u64 (g : Int), .int .u64 (q : Int), .int .u64 (d : Int)]
        have ne_xb_xf : V4.heap.size ≠ W.heap.size := Nat.ne_of_gt xf.lt
        have ne_xb_xa : V4.heap.size ≠ V3.heap.size := Nat.ne_of_gt xa.lt
        have ne_xb_xg : V4.heap.size ≠ (V3.alloc (.cells #[.int .i64 1, .int .u64 (g : Int), .int .u64 (q : Int), .int .u64 (d : Int)] 35)).heap.size := Nat.ne_of_gt xg.lt
        have le_xb : W.heap.size ≤ V4.heap.size := hB.size
        replace xf := xf.alloc (.cells #[.int .i64 1, .int .u64 (g : Int), .int .u64 (q : Int), .int .u64 (d : Int)] 35)
        replace xa := xa.alloc (.cells #[.int .i64 1, .int .u64 (g : Int), .int .u64 (q : Int), .int .u64 (d : Int)] 35)
        replace xg := xg.alloc (.cells #[.int .i64 1, .int .u64 (g : Int), .int .u64 (q : Int), .int .u64 (d : Int)] 35)
        replace hB := hB.alloc hB.size (.cells #[.int .i64 1, .int .u64 (g : Int), .int .u64 (q : Int), .int .u64 (d : Int)] 35)
        have xf0 := xf.cell 0 rfl
        have xfz0 := xf.frozen 0
        have xf1 := xf.cell 1 rfl
        have xfz1 := xf.frozen 1
        have xf2 := xf.cell 2 rfl
        have xfz2 := xf.frozen 2
        have xf3 := xf.cell 3 rfl
        have xfz3 := xf.frozen 3
        have xf4 := xf.cell 4 rfl
        have xfz4 := xf.frozen 4
        have xa0 := xa.cell 0 rfl
        have xaz0 := xa.frozen 0
        have xa1 := xa.cell 1 rfl
        have xaz1 := xa.frozen 1
        have xa2 := xa.cell 2 rfl
        have xaz2 := xa.frozen 2
        have xa3 := xa.cell 3 rfl
        have xaz3 := xa.frozen 3
        have xg0 := xg.cell 0 rfl
        have xgz0 := xg.frozen 0
        have xg1 := xg.cell 1 rfl
        have xgz1 := xg.frozen 1
        have xg2 := xg.cell 2 rfl
        have xgz2 := xg.frozen 2
        have xg3 := xg.cell 3 rfl
        have xgz3 := xg.frozen 3
        have xg4 := xg.cell 4 rfl
        have xgz4 := xg.frozen 4
        have xb0 := xb.cell 0 rfl
        have xbz0 := xb.frozen 0
        have xb1 := xb.cell 1 rfl
        have xbz1 := xb.frozen 1
        have xb2 := xb.cell 2 rfl
        have xbz2 := xb.frozen 2
        have xb3 := xb.cell 3 rfl
        have xbz3 := xb.frozen 3
        go_wp2_with fail
        clear xf0 xfz0 xf1 xfz1 xf2 xfz2 xf3 xfz3 xf4 xfz4 xa0 xaz0 xa1 xaz1 xa2 xaz2 xa3 xaz3 xg0 xgz0 xg1 xgz1 xg2 xgz2 xg3 xgz3 xg4 xgz4 xb0 xbz0 xb1 xbz1 xb2 xbz2 xb3 xbz3
        replace xa : Box 35 ((V4.alloc (.cells #[.int .i64 1, .int .u64 (g : Int), .int .u64 (q : Int), .int .u64 (d : Int)] 35)).setCell ⟨W.heap.size, 1, none⟩ (.string ⟨#[]⟩)) (V3.heap.size) [.int .i64 1, .int .u64 (g : Int), .int .u64 (q : Int), .int .u64 (d : Int)] := (xa.other (Ne.symm ne_xa_xf) 1 (.string ⟨#[]⟩))
        replace xg : Box 25 ((V4.alloc (.cells #[.int .i64 1, .int .u64 (g : Int), .int .u64 (q : Int), .int .u64 (d : Int)] 35)).setCell ⟨W.heap.size, 1, none⟩ (.string ⟨#[]⟩)) ((V3.alloc (.cells #[.int .i64 1, .int .u64 (g : Int), .int .u64 (q : Int), .int .u64 (d : Int)] 35)).heap.size) [.string ⟨#[]⟩, .string f.b1, .int .i64 f.e0, .int .i64 f.e1, .int .i64 f.lim] := (xg.other (Ne.symm ne_xg_xf) 1 (.string ⟨#[]⟩))
        replace xb : Box 35 ((V4.alloc (.cells #[.int .i64 1, .int .u64 (g : Int), .int .u64 (q : Int), .int .u64 (d : Int)] 35)).setCell ⟨W.heap.size, 1, none⟩ (.string ⟨#[]⟩)) (V4.heap.size) [.int .i64 1, .int .u64 (g : Int), .int .u64 (q : Int), .int .u64 (d : Int)] := (xb.other (Ne.symm ne_xb_xf) 1 (.string ⟨#[]⟩))
        replace xf : Box 25 ((V4.alloc (.cells #[.int .i64 1, .int .u64 (g : Int), .int .u64 (q : Int), .int .u64 (d : Int)] 35)).setCell ⟨W.heap.size, 1, none⟩ (.string ⟨#[]⟩)) (W.heap.size) [.string f.b0, .string ⟨#[]⟩, .int .i64 f.e0, .int .i64 f.e1, .int .i64 f.lim] := (xf.set 1 (.string ⟨#[]⟩))
        replace hB : Below W.heap.size W ((V4.alloc (.cells #[.int .i64 1, .int .u64 (g : Int), .int .u64 (q : Int), .int .u64 (d : Int)] 35)).setCell ⟨W.heap.size, 1, none⟩ (.string ⟨#[]⟩)) := (hB.setCell (Nat.le_refl _) _)
        generalize ((V4.alloc (.cells #[.int .i64 1, .int .u64 (g : Int), .int .u64 (q : Int), .int .u64 (d : Int)] 35)).setCell ⟨W.heap.size, 1, none⟩ (.string ⟨#[]⟩)) = V5 at *
        have xf0 := xf.cell 0 rfl
        have xfz0 := xf.frozen 0
        have xf1 := xf.cell 1 rfl
        have xfz1 := xf.frozen 1
        have xf2 := xf.cell 2 rfl
        have xfz2 := xf.frozen 2
        have xf3 := xf.cell 3 rfl
        have xfz3 := xf.frozen 3
        have xf4 := xf.cell 4 rfl
        have xfz4 := xf.frozen 4
        have xa0 := xa.cell 0 rfl
        have xaz0 := xa.frozen 0
        have xa1 := xa.cell 1 rfl
        have xaz1 := xa.frozen 1
        have xa2 := xa.cell 2 rfl
        have xaz2 := xa.frozen 2
        have xa3 := xa.cell 3 rfl
        have xaz3 := xa.frozen 3
        have xg0 := xg.cell 0 rfl
        have xgz0 := xg.frozen 0
        have xg1 := xg.cell 1 rfl
        have xgz1 := xg.frozen 1
        have xg2 := xg.cell 2 rfl
        have xgz2 := xg.frozen 2
        have xg3 := xg.cell 3 rfl
        have xgz3 := xg.frozen 3
        have xg4 := xg.cell 4 rfl
        have xgz4 := xg.frozen 4
        have xb0 := xb.cell 0 rfl
        have xbz0 := xb.frozen 0
        have xb1 := xb.cell 1 rfl
        have xbz1 := xb.frozen 1
        have xb2 := xb.cell 2 rfl
        have xbz2 := xb.frozen 2
        have xb3 := xb.cell 3 rfl
        have xbz3 := xb.frozen 3
        refine (TRH.out _).mono ?_
        rintro e V6 ⟨rfl, hk⟩
        clear xf0 xfz0 xf1 xfz1 xf2 xfz2 xf3 xfz3 xf4 xfz4 xa0 xaz0 xa1 xaz1 xa2 xaz2 xa3 xaz3 xg0 xgz0 xg1 xgz1 xg2 xgz2 xg3 xgz3 xg4 xgz4 xb0 xbz0 xb1 xbz1 xb2 xbz2 xb3 xbz3
        replace hB := below_seq hB hk
        replace xf := xf.seq hk
        replace xa := xa.seq hk
        replace xg := xg.seq hk
        replace xb := xb.seq hk
        clear hk
        have xc := Box.new 35 V6 [.int .i64 0, .int .u64 0, .int .u64 0, .int .u64 0]
        have ne_xc_xf : V6.heap.size ≠ W.heap.size := Nat.ne_of_gt xf.lt
        have ne_xc_xa : V6.heap.size ≠ V3.heap.size := Nat.ne_of_gt xa.lt
        have ne_xc_xg : V6.heap.size ≠ (V3.alloc (.cells #[.int .i64 1, .int .u64 (g : Int), .int .u64 (q : Int), .int .u64 (d : Int)] 35)).heap.size := Nat.ne_of_gt xg.lt
        have ne_xc_xb : V6.heap.size ≠ V4.heap.size := Nat.ne_of_gt xb.lt
        have le_xc : W.heap.size ≤ V6.heap.size := hB.size
        replace xf := xf.alloc (.cells #[.int .i64 0, .int .u64 0, .int .u64 0, .int .u64 0] 35)
        replace xa := xa.alloc (.cells #[.int .i64 0, .int .u64 0, .int .u64 0, .int .u64 0] 35)
        replace xg := xg.alloc (.cells #[.int .i64 0, .int .u64 0, .int .u64 0, .int .u64 0] 35)
        replace xb := xb.alloc (.cells #[.int .i64 0, .int .u64 0, .int .u64 0, .int .u64 0] 35)
        replace hB := hB.alloc hB.size (.cells #[.int .i64 0, .int .u64 0, .int .u64 0, .int .u64 0] 35)
        have xf0 := xf.cell 0 rfl
        have xfz0 := xf.frozen 0
        have xf1 := xf.cell 1 rfl
        have xfz1 := xf.frozen 1
        have xf2 := xf.cell 2 rfl
        have xfz2 := xf.frozen 2
        have xf3 := xf.cell 3 rfl
        have xfz3 := xf.frozen 3
        have xf4 := xf.cell 4 rfl
        have xfz4 := xf.frozen 4
        have xa0 := xa.cell 0 rfl
        have xaz0 := xa.frozen 0
        have xa1 := xa.cell 1 rfl
        have xaz1 := xa.frozen 1
        have xa2 := xa.cell 2 rfl
        have xaz2 := xa.frozen 2
        have xa3 := xa.cell 3 rfl
        have xaz3 := xa.frozen 3
        have xg0 := xg.cell 0 rfl
        have xgz0 := xg.frozen 0
        have xg1 := xg.cell 1 rfl
        have xgz1 := xg.frozen 1
        have xg2 := xg.cell 2 rfl
        have xgz2 := xg.frozen 2
        have xg3 := xg.cell 3 rfl
        have xgz3 := xg.frozen 3
        have xg4 := xg.cell 4 rfl
        have xgz4 := xg.frozen 4
        have xb0 := xb.cell 0 rfl
        have xbz0 := xb.frozen 0
        have xb1 := xb.cell 1 rfl
        have xbz1 := xb.frozen 1
        have xb2 := xb.cell 2 rfl
        have xbz2 := xb.frozen 2
        have xb3 := xb.cell 3 rfl
        have xbz3 := xb.frozen 3
        have xc0 := xc.cell 0 rfl
        have xcz0 := xc.frozen 0
        have xc1 := xc.cell 1 rfl
        have xcz1 := xc.frozen 1
        have xc2 := xc.cell 2 rfl
        have xcz2 := xc.frozen 2
        have xc3 := xc.cell 3 rfl
        have xcz3 := xc.frozen 3
        go_wp2_with fail
        refine (TS.out _).mono ?_
        rintro e V7 ⟨rfl, hk⟩
        clear xf0 xfz0 xf1 xfz1 xf2 xfz2 xf3 xfz3 xf4 xfz4 xa0 xaz0 xa1 xaz1 xa2 xaz2 xa3 xaz3 xg0 xgz0 xg1 xgz1 xg2 xgz2 xg3 xgz3 xg4 xgz4 xb0 xbz0 xb1 xbz1 xb2 xbz2 xb3 xbz3 xc0 xcz0 xc1 xcz1 xc2 xcz2 xc3 xcz3
        replace hB := below_seq hB hk
        replace xf := xf.seq hk
        replace xa := xa.seq hk
        replace xg := xg.seq hk
        replace xb := xb.seq hk
        replace xc := xc.seq hk
        clear hk
        have xf0 := xf.cell 0 rfl
        have xfz0 := xf.frozen 0
        have xf1 := xf.cell 1 rfl
        have xfz1 := xf.frozen 1
        have xf2 := xf.cell 2 rfl
        have xfz2 := xf.frozen 2
        have xf3 := xf.cell 3 rfl
        have xfz3 := xf.frozen 3
        have xf4 := xf.cell 4 rfl
        have xfz4 := xf.frozen 4
        have xa0 := xa.cell 0 rfl
        have xaz0 := xa.frozen 0
        have xa1 := xa.cell 1 rfl
        have xaz1 := xa.frozen 1
        have xa2 := xa.cell 2 rfl
        have xaz2 := xa.frozen 2
        have xa3 := xa.cell 3 rfl
        have xaz3 := xa.frozen 3
        have xg0 := xg.cell 0 rfl
        have xgz0 := xg.frozen 0
        have xg1 := xg.cell 1 rfl
        have xgz1 := xg.frozen 1
        have xg2 := xg.cell 2 rfl
        have xgz2 := xg.frozen 2
        have xg3 := xg.cell 3 rfl
        have xgz3 := xg.frozen 3
        have xg4 := xg.cell 4 rfl
        have xgz4 := xg.frozen 4
        have xb0 := xb.cell 0 rfl
        have xbz0 := xb.frozen 0
        have xb1 := xb.cell 1 rfl
        have xbz1 := xb.frozen 1
        have xb2 := xb.cell 2 rfl
        have xbz2 := xb.frozen 2
        have xb3 := xb.cell 3 rfl
        have xbz3 := xb.frozen 3
        have xc0 := xc.cell 0 rfl
        have xcz0 := xc.frozen 0
        have xc1 := xc.cell 1 rfl
        have xcz1 := xc.frozen 1
        have xc2 := xc.cell 2 rfl
        have xcz2 := xc.frozen 2
        have xc3 := xc.cell 3 rfl
        have xcz3 := xc.frozen 3
        go_wp2
        go_ret
        exact ⟨rfl, hB⟩
    · skip
      have hb : bankK f = 0 ∨ bankK f = 1 := by omega
      have hps := pickS_some hb
      have he : pickE f = 0 := pickE_zero.2 hb
      have hpb : (pickS f).bank = 0 := by rw [hps]; exact hk
      have TR := Lib.hid (fun (V : World) => (show Calls Try.prog 12 #[.agg #[.string f.b0, .string f.b1, .int .i64 f.e0, .int .i64 f.e1, .int .i64 f.lim]] V fun e W' => e = .returned (.tuple #[.agg #[.int .i64 0, .int .u64 ((pickS f).gen : Int), .int .u64 ((pickS f).seq : Int), .int .u64 ((pickS f).data : Int)], .int .i64 0]) ∧ Below V.heap.size V W' from by have h := own10Read f V hf; rwa [he, hpb] at h))
      have okG : Fl.ok ⟨f.b0, ⟨#[]⟩, f.e0, f.e1, f.lim⟩ := ⟨hf.s0, Nat.zero_le _, hf.n0, hf.n1, hf.nl⟩
      have okH : Fl.ok ⟨⟨#[]⟩, f.b1, f.e0, f.e1, f.lim⟩ := ⟨Nat.zero_le _, hf.s1, hf.n0, hf.n1, hf.nl⟩
      have hpk := other_pick (e := f.erases 1) hb (v := ⟨#[]⟩) (fun x => by rw [se] at x; cases x)
      rw [show upd f (1 - bankK f) ⟨#[]⟩ (f.erases 1) = ⟨f.b0, ⟨#[]⟩, f.e0, f.e1, f.lim⟩ from by rw [hk]; rfl] at hpk
      have TRG := Lib.hid (fun (V : World) => (show Calls Try.prog 12 #[.agg #[.string f.b0, .string ⟨#[]⟩, .int .i64 f.e0, .int .i64 f.e1, .int .i64 f.lim]] V fun e W' => e = .returned (.tuple #[.agg #[.int .i64 0, .int .u64 ((pickS f).gen : Int), .int .u64 ((pickS f).seq : Int), .int .u64 ((pickS f).data : Int)], .int .i64 0]) ∧ Below V.heap.size V W' from by have h := own10Read ⟨f.b0, ⟨#[]⟩, f.e0, f.e1, f.lim⟩ V okG; rwa [hpk.2, show pickE ⟨f.b0, ⟨#[]⟩, f.e0, f.e1, f.lim⟩ = 0 from pickE_zero.2 (by rw [hpk.1]; exact hb), hpb] at h))
      have hks := bankK_sound hb
      have hgp := gen_pick hb
      rw [hk] at hks hgp
      rw [show f.bank 0 = f.b0 from rfl, show f.bank (1 - 0) = f.b1 from rfl] at hks
      rw [show f.bank 0 = f.b0 from rfl] at hgp
      have TS := Lib.hid (fun (V : World) => ref09Sound f.b1 V hf.s1)
      by_cases hso : soundB f.b1 = true
      · have hbh : bankK ⟨⟨#[]⟩, f.b1, f.e0, f.e1, f.lim⟩ = 1 := bankG_is1 hso (fun x => by rw [se] at x; cases x)
        have TRH := Lib.hid (fun (V : World) => (show Calls Try.prog 12 #[.agg #[.string ⟨#[]⟩, .string f.b1, .int .i64 f.e0, .int .i64 f.e1, .int .i64 f.lim]] V fun e W' => e = .returned (.tuple #[.agg #[.int .i64 1, .int .u64 (genN f.b1 : Int), .int .u64 ((lastR f.b1).seq : Int), .int .u64 ((lastR f.b1).data : Int)], .int .i64 0]) ∧ Below V.heap.size V W' from by have h := own10Read ⟨⟨#[]⟩, f.b1, f.e0, f.e1, f.lim⟩ V okH; rw [pickE_zero.2 (by rw [hbh]; decide), pickS_some (by rw [hbh]; decide), hbh] at h; exact h))
        rw [hso] at TS
        have m1 : (genN f.b1 : Int) ≤ ((pickS f).gen : Int) := by rw [hgp]; have := (hks.2 hso).1; omega
        clear hbh
        clear hk hb hps he hpb okG okH hpk hks hgp hso z0 z1 se
        generalize (pickS f).gen = g at *
        generalize (pickS f).seq = q at *
        generalize (pickS f).data = d at *
        generalize genN f.b1 = x at *
        generalize (lastR f.b1).seq = y at *
        generalize (lastR f.b1).data = z at *
        have hB : Below W.heap.size W (W.alloc (.cells #[.string f.b0, .string f.b1, .int .i64 f.e0, .int .i64 f.e1, .int .i64 f.lim] 25)) := ((Below.refl _ _).alloc (Nat.le_refl _) _)
        have xf := (Box.new 25 W [.string f.b0, .string f.b1, .int .i64 f.e0, .int .i64 f.e1, .int .i64 f.lim])
        go_enter Try.func6, Try.ntmps6
        have xf0 := xf.cell 0 rfl
        have xfz0 := xf.frozen 0
        have xf1 := xf.cell 1 rfl
        have xfz1 := xf.frozen 1
        have xf2 := xf.cell 2 rfl
        have xfz2 := xf.frozen 2
        have xf3 := xf.cell 3 rfl
        have xfz3 := xf.frozen 3
        have xf4 := xf.cell 4 rfl
        have xfz4 := xf.frozen 4
        go_wp2_with fail
        refine (TBg.out _).mono ?_
        rintro e V1 ⟨rfl, hk⟩
        clear xf0 xfz0 xf1 xfz1 xf2 xfz2 xf3 xfz3 xf4 xfz4
        replace hB := below_seq hB hk
        replace xf := xf.seq hk
        clear hk
        have xf0 := xf.cell 0 rfl
        have xfz0 := xf.frozen 0
        have xf1 := xf.cell 1 rfl
        have xfz1 := xf.frozen 1
        have xf2 := xf.cell 2 rfl
        have xfz2 := xf.frozen 2
        have xf3 := xf.cell 3 rfl
        have xfz3 := xf.frozen 3
        have xf4 := xf.cell 4 rfl
        have xfz4 := xf.frozen 4
        go_wp2_with fail
        refine (shown10 _).mono ?_
        rintro e V2 ⟨rfl, hk⟩
        clear xf0 xfz0 xf1 xfz1 xf2 xfz2 xf3 xfz3 xf4 xfz4
        replace hB := below_seq hB hk
        replace xf := xf.seq hk
        clear hk
        have xf0 := xf.cell 0 rfl
        have xfz0 := xf.frozen 0
        have xf1 := xf.cell 1 rfl
        have xfz1 := xf.frozen 1
        have xf2 := xf.cell 2 rfl
        have xfz2 := xf.frozen 2
        have xf3 := xf.cell 3 rfl
        have xfz3 := xf.frozen 3
        have xf4 := xf.cell 4 rfl
        have xfz4 := xf.frozen 4
        go_wp2_with fail
        refine (TR.out _).mono ?_
        rintro e V3 ⟨rfl, hk⟩
        clear xf0 xfz0 xf1 xfz1 xf2 xfz2 xf3 xfz3 xf4 xfz4
        replace hB := below_seq hB hk
        replace xf := xf.seq hk
        clear hk
        have xa := Box.new 35 V3 [.int .i64 0, .int .u64 (g : Int), .int .u64 (q : Int), .int .u64 (d : Int)]
        have ne_xa_xf : V3.heap.size ≠ W.heap.size := Nat.ne_of_gt xf.lt
        have le_xa : W.heap.size ≤ V3.heap.size := hB.size
        replace xf := xf.alloc (.cells #[.int .i64 0, .int .u64 (g : Int), .int .u64 (q : Int), .int .u64 (d : Int)] 35)
        replace hB := hB.alloc hB.size (.cells #[.int .i64 0, .int .u64 (g : Int), .int .u64 (q : Int), .int .u64 (d : Int)] 35)
        have xf0 := xf.cell 0 rfl
        have xfz0 := xf.frozen 0
        have xf1 := xf.cell 1 rfl
        have xfz1 := xf.frozen 1
        have xf2 := xf.cell 2 rfl
        have xfz2 := xf.frozen 2
        have xf3 := xf.cell 3 rfl
        have xfz3 := xf.frozen 3
        have xf4 := xf.cell 4 rfl
        have xfz4 := xf.frozen 4
        have xa0 := xa.cell 0 rfl
        have xaz0 := xa.frozen 0
        have xa1 := xa.cell 1 rfl
        have xaz1 := xa.frozen 1
        have xa2 := xa.cell 2 rfl
        have xaz2 := xa.frozen 2
        have xa3 := xa.cell 3 rfl
        have xaz3 := xa.frozen 3
        have u0 := xf.cell 0 rfl
        have u1 := xf.cell 1 rfl
        have u2 := xf.cell 2 rfl
        have u3 := xf.cell 3 rfl
        have u4 := xf.cell 4 rfl
        clear xf0 xfz0 xf1 xfz1 xf2 xfz2 xf3 xfz3 xf4 xfz4 xa0 xaz0 xa1 xaz1 xa2 xaz2 xa3 xaz3
        have xg := Box.new 25 (V3.alloc (.cells #[.int .i64 0, .int .u64 (g : Int), .int .u64 (q : Int), .int .u64 (d : Int)] 35)) [.string f.b0, .string ⟨#[]⟩, .int .i64 f.e0, .int .i64 f.e1, .int .i64 f.lim]
        have ne_xg_xf : (V3.alloc (.cells #[.int .i64 0, .int .u64 (g : Int), .int .u64 (q : Int), .int .u64 (d : Int)] 35)).heap.size ≠ W.heap.size := Nat.ne_of_gt xf.lt
        have ne_xg_xa : (V3.alloc (.cells #[.int .i64 0, .int .u64 (g : Int), .int .u64 (q : Int), .int .u64 (d : Int)] 35)).heap.size ≠ V3.heap.size := Nat.ne_of_gt xa.lt
        have le_xg : W.heap.size ≤ (V3.alloc (.cells #[.int .i64 0, .int .u64 (g : Int), .int .u64 (q : Int), .int .u64 (d : Int)] 35)).heap.size := hB.size
        replace xf := xf.alloc (.cells #[.string f.b0, .string ⟨#[]⟩, .int .i64 f.e0, .int .i64 f.e1, .int .i64 f.lim] 25)
        replace xa := xa.alloc (.cells #[.string f.b0, .string ⟨#[]⟩, .int .i64 f.e0, .int .i64 f.e1, .int .i64 f.lim] 25)
        replace hB := hB.alloc hB.size (.cells #[.string f.b0, .string ⟨#[]⟩, .int .i64 f.e0, .int .i64 f.e1, .int .i64 f.lim] 25)
        have xf0 := xf.cell 0 rfl
        have xfz0 := xf.frozen 0
        have xf1 := xf.cell 1 rfl
        have xfz1 := xf.frozen 1
        have xf2 := xf.cell 2 rfl
        have xfz2 := xf.frozen 2
        have xf3 := xf.cell 3 rfl
        have xfz3 := xf.frozen 3
        have xf4 := xf.cell 4 rfl
        have xfz4 := xf.frozen 4
        have xa0 := xa.cell 0 rfl
        have xaz0 := xa.frozen 0
        have xa1 := xa.cell 1 rfl
        have xaz1 := xa.frozen 1
        have xa2 := xa.cell 2 rfl
        have xaz2 := xa.frozen 2
        have xa3 := xa.cell 3 rfl
        have xaz3 := xa.frozen 3
        have xg0 := xg.cell 0 rfl
        have xgz0 := xg.frozen 0
        have xg1 := xg.cell 1 rfl
        have xgz1 := xg.frozen 1
        have xg2 := xg.cell 2 rfl
        have xgz2 := xg.frozen 2
        have xg3 := xg.cell 3 rfl
        have xgz3 := xg.frozen 3
        have xg4 := xg.cell 4 rfl
        have xgz4 := xg.frozen 4
        go_wp2_with fail
        clear u0 u1 u2 u3 u4
        refine (TRG.out _).mono ?_
        rintro e V4 ⟨rfl, hk⟩
        clear xf0 xfz0 xf1 xfz1 xf2 xfz2 xf3 xfz3 xf4 xfz4 xa0 xaz0 xa1 xaz1 xa2 xaz2 xa3 xaz3 xg0 xgz0 xg1 xgz1 xg2 xgz2 xg3 xgz3 xg4 xgz4
        replace hB := below_seq hB hk
        replace xf := xf.seq hk
        replace xa := xa.seq hk
        replace xg := xg.seq hk
        clear hk
        have xb := Box.new 35 V4 [.int .i64 0, .int .u64 (g : Int), .int .u64 (q : Int), .int .u64 (d : Int)]
        have ne_xb_xf : V4.heap.size ≠ W.heap.size := Nat.ne_of_gt xf.lt
        have ne_xb_xa : V4.heap.size ≠ V3.heap.size := Nat.ne_of_gt xa.lt
        have ne_xb_xg : V4.heap.size ≠ (V3.alloc (.cells #[.int .i64 0, .int .u64 (g : Int), .int .u64 (q : Int), .int .u64 (d : Int)] 35)).heap.size := Nat.ne_of_gt xg.lt
        have le_xb : W.heap.size ≤ V4.heap.size := hB.size
        replace xf := xf.alloc (.cells #[.int .i64 0, .int .u64 (g : Int), .int .u64 (q : Int), .int .u64 (d : Int)] 35)
        replace xa := xa.alloc (.cells #[.int .i64 0, .int .u64 (g : Int), .int .u64 (q : Int), .int .u64 (d : Int)] 35)
        replace xg := xg.alloc (.cells #[.int .i64 0, .int .u64 (g : Int), .int .u64 (q : Int), .int .u64 (d : Int)] 35)
        replace hB := hB.alloc hB.size (.cells #[.int .i64 0, .int .u64 (g : Int), .int .u64 (q : Int), .int .u64 (d : Int)] 35)
        have xf0 := xf.cell 0 rfl
        have xfz0 := xf.frozen 0
        have xf1 := xf.cell 1 rfl
        have xfz1 := xf.frozen 1
        have xf2 := xf.cell 2 rfl
        have xfz2 := xf.frozen 2
        have xf3 := xf.cell 3 rfl
        have xfz3 := xf.frozen 3
        have xf4 := xf.cell 4 rfl
        have xfz4 := xf.frozen 4
        have xa0 := xa.cell 0 rfl
        have xaz0 := xa.frozen 0
        have xa1 := xa.cell 1 rfl
        have xaz1 := xa.frozen 1
        have xa2 := xa.cell 2 rfl
        have xaz2 := xa.frozen 2
        have xa3 := xa.cell 3 rfl
        have xaz3 := xa.frozen 3
        have xg0 := xg.cell 0 rfl
        have xgz0 := xg.frozen 0
        have xg1 := xg.cell 1 rfl
        have xgz1 := xg.frozen 1
        have xg2 := xg.cell 2 rfl
        have xgz2 := xg.frozen 2
        have xg3 := xg.cell 3 rfl
        have xgz3 := xg.frozen 3
        have xg4 := xg.cell 4 rfl
        have xgz4 := xg.frozen 4
        have xb0 := xb.cell 0 rfl
        have xbz0 := xb.frozen 0
        have xb1 := xb.cell 1 rfl
        have xbz1 := xb.frozen 1
        have xb2 := xb.cell 2 rfl
        have xbz2 := xb.frozen 2
        have xb3 := xb.cell 3 rfl
        have xbz3 := xb.frozen 3
        go_wp2_with fail
        clear xf0 xfz0 xf1 xfz1 xf2 xfz2 xf3 xfz3 xf4 xfz4 xa0 xaz0 xa1 xaz1 xa2 xaz2 xa3 xaz3 xg0 xgz0 xg1 xgz1 xg2 xgz2 xg3 xgz3 xg4 xgz4 xb0 xbz0 xb1 xbz1 xb2 xbz2 xb3 xbz3
        replace xa : Box 35 ((V4.alloc (.cells #[.int .i64 0, .int .u64 (g : Int), .int .u64 (q : Int), .int .u64 (d : Int)] 35)).setCell ⟨W.heap.size, 0, none⟩ (.string ⟨#[]⟩)) (V3.heap.size) [.int .i64 0, .int .u64 (g : Int), .int .u64 (q : Int), .int .u64 (d : Int)] := (xa.other (Ne.symm ne_xa_xf) 0 (.string ⟨#[]⟩))
        replace xg : Box 25 ((V4.alloc (.cells #[.int .i64 0, .int .u64 (g : Int), .int .u64 (q : Int), .int .u64 (d : Int)] 35)).setCell ⟨W.heap.size, 0, none⟩ (.string ⟨#[]⟩)) ((V3.alloc (.cells #[.int .i64 0, .int .u64 (g : Int), .int .u64 (q : Int), .int .u64 (d : Int)] 35)).heap.size) [.string f.b0, .string ⟨#[]⟩, .int .i64 f.e0, .int .i64 f.e1, .int .i64 f.lim] := (xg.other (Ne.symm ne_xg_xf) 0 (.string ⟨#[]⟩))
        replace xb : Box 35 ((V4.alloc (.cells #[.int .i64 0, .int .u64 (g : Int), .int .u64 (q : Int), .int .u64 (d : Int)] 35)).setCell ⟨W.heap.size, 0, none⟩ (.string ⟨#[]⟩)) (V4.heap.size) [.int .i64 0, .int .u64 (g : Int), .int .u64 (q : Int), .int .u64 (d : Int)] := (xb.other (Ne.symm ne_xb_xf) 0 (.string ⟨#[]⟩))
        replace xf : Box 25 ((V4.alloc (.cells #[.int .i64 0, .int .u64 (g : Int), .int .u64 (q : Int), .int .u64 (d : Int)] 35)).setCell ⟨W.heap.size, 0, none⟩ (.string ⟨#[]⟩)) (W.heap.size) [.string ⟨#[]⟩, .string f.b1, .int .i64 f.e0, .int .i64 f.e1, .int .i64 f.lim] := (xf.set 0 (.string ⟨#[]⟩))
        replace hB : Below W.heap.size W ((V4.alloc (.cells #[.int .i64 0, .int .u64 (g : Int), .int .u64 (q : Int), .int .u64 (d : Int)] 35)).setCell ⟨W.heap.size, 0, none⟩ (.string ⟨#[]⟩)) := (hB.setCell (Nat.le_refl _) _)
        generalize ((V4.alloc (.cells #[.int .i64 0, .int .u64 (g : Int), .int .u64 (q : Int), .int .u64 (d : Int)] 35)).setCell ⟨W.heap.size, 0, none⟩ (.string ⟨#[]⟩)) = V5 at *
        have xf0 := xf.cell 0 rfl
        have xfz0 := xf.frozen 0
        have xf1 := xf.cell 1 rfl
        have xfz1 := xf.frozen 1
        have xf2 := xf.cell 2 rfl
        have xfz2 := xf.frozen 2
        have xf3 := xf.cell 3 rfl
        have xfz3 := xf.frozen 3
        have xf4 := xf.cell 4 rfl
        have xfz4 := xf.frozen 4
        have xa0 := xa.cell 0 rfl
        have xaz0 := xa.frozen 0
        have xa1 := xa.cell 1 rfl
        have xaz1 := xa.frozen 1
        have xa2 := xa.cell 2 rfl
        have xaz2 := xa.frozen 2
        have xa3 := xa.cell 3 rfl
        have xaz3 := xa.frozen 3
        have xg0 := xg.cell 0 rfl
        have xgz0 := xg.frozen 0
        have xg1 := xg.cell 1 rfl
        have xgz1 := xg.frozen 1
        have xg2 := xg.cell 2 rfl
        have xgz2 := xg.frozen 2
        have xg3 := xg.cell 3 rfl
        have xgz3 := xg.frozen 3
        have xg4 := xg.cell 4 rfl
        have xgz4 := xg.frozen 4
        have xb0 := xb.cell 0 rfl
        have xbz0 := xb.frozen 0
        have xb1 := xb.cell 1 rfl
        have xbz1 := xb.frozen 1
        have xb2 := xb.cell 2 rfl
        have xbz2 := xb.frozen 2
        have xb3 := xb.cell 3 rfl
        have xbz3 := xb.frozen 3
        refine (TRH.out _).mono ?_
        rintro e V6 ⟨rfl, hk⟩
        clear xf0 xfz0 xf1 xfz1 xf2 xfz2 xf3 xfz3 xf4 xfz4 xa0 xaz0 xa1 xaz1 xa2 xaz2 xa3 xaz3 xg0 xgz0 xg1 xgz1 xg2 xgz2 xg3 xgz3 xg4 xgz4 xb0 xbz0 xb1 xbz1 xb2 xbz2 xb3 xbz3
        replace hB := below_seq hB hk
        replace xf := xf.seq hk
        replace xa := xa.seq hk
        replace xg := xg.seq hk
        replace xb := xb.seq hk
        clear hk
        have xc := Box.new 35 V6 [.int .i64 1, .int .u64 (x : Int), .int .u64 (y : Int), .int .u64 (z : Int)]
        have ne_xc_xf : V6.heap.size ≠ W.heap.size := Nat.ne_of_gt xf.lt
        have ne_xc_xa : V6.heap.size ≠ V3.heap.size := Nat.ne_of_gt xa.lt
        have ne_xc_xg : V6.heap.size ≠ (V3.alloc (.cells #[.int .i64 0, .int .u64 (g : Int), .int .u64 (q : Int), .int .u64 (d : Int)] 35)).heap.size := Nat.ne_of_gt xg.lt
        have ne_xc_xb : V6.heap.size ≠ V4.heap.size := Nat.ne_of_gt xb.lt
        have le_xc : W.heap.size ≤ V6.heap.size := hB.size
        replace xf := xf.alloc (.cells #[.int .i64 1, .int .u64 (x : Int), .int .u64 (y : Int), .int .u64 (z : Int)] 35)
        replace xa := xa.alloc (.cells #[.int .i64 1, .int .u64 (x : Int), .int .u64 (y : Int), .int .u64 (z : Int)] 35)
        replace xg := xg.alloc (.cells #[.int .i64 1, .int .u64 (x : Int), .int .u64 (y : Int), .int .u64 (z : Int)] 35)
        replace xb := xb.alloc (.cells #[.int .i64 1, .int .u64 (x : Int), .int .u64 (y : Int), .int .u64 (z : Int)] 35)
        replace hB := hB.alloc hB.size (.cells #[.int .i64 1, .int .u64 (x : Int), .int .u64 (y : Int), .int .u64 (z : Int)] 35)
        have xf0 := xf.cell 0 rfl
        have xfz0 := xf.frozen 0
        have xf1 := xf.cell 1 rfl
        have xfz1 := xf.frozen 1
        have xf2 := xf.cell 2 rfl
        have xfz2 := xf.frozen 2
        have xf3 := xf.cell 3 rfl
        have xfz3 := xf.frozen 3
        have xf4 := xf.cell 4 rfl
        have xfz4 := xf.frozen 4
        have xa0 := xa.cell 0 rfl
        have xaz0 := xa.frozen 0
        have xa1 := xa.cell 1 rfl
        have xaz1 := xa.frozen 1
        have xa2 := xa.cell 2 rfl
        have xaz2 := xa.frozen 2
        have xa3 := xa.cell 3 rfl
        have xaz3 := xa.frozen 3
        have xg0 := xg.cell 0 rfl
        have xgz0 := xg.frozen 0
        have xg1 := xg.cell 1 rfl
        have xgz1 := xg.frozen 1
        have xg2 := xg.cell 2 rfl
        have xgz2 := xg.frozen 2
        have xg3 := xg.cell 3 rfl
        have xgz3 := xg.frozen 3
        have xg4 := xg.cell 4 rfl
        have xgz4 := xg.frozen 4
        have xb0 := xb.cell 0 rfl
        have xbz0 := xb.frozen 0
        have xb1 := xb.cell 1 rfl
        have xbz1 := xb.frozen 1
        have xb2 := xb.cell 2 rfl
        have xbz2 := xb.frozen 2
        have xb3 := xb.cell 3 rfl
        have xbz3 := xb.frozen 3
        have xc0 := xc.cell 0 rfl
        have xcz0 := xc.frozen 0
        have xc1 := xc.cell 1 rfl
        have xcz1 := xc.frozen 1
        have xc2 := xc.cell 2 rfl
        have xcz2 := xc.frozen 2
        have xc3 := xc.cell 3 rfl
        have xcz3 := xc.frozen 3
        go_wp2_with fail
        refine (TS.out _).mono ?_
        rintro e V7 ⟨rfl, hk⟩
        clear xf0 xfz0 xf1 xfz1 xf2 xfz2 xf3 xfz3 xf4 xfz4 xa0 xaz0 xa1 xaz1 xa2 xaz2 xa3 xaz3 xg0 xgz0 xg1 xgz1 xg2 xgz2 xg3 xgz3 xg4 xgz4 xb0 xbz0 xb1 xbz1 xb2 xbz2 xb3 xbz3 xc0 xcz0 xc1 xcz1 xc2 xcz2 xc3 xcz3
        replace hB := below_seq hB hk
        replace xf := xf.seq hk
        replace xa := xa.seq hk
        replace xg := xg.seq hk
        replace xb := xb.seq hk
        replace xc := xc.seq hk
        clear hk
        have xf0 := xf.cell 0 rfl
        have xfz0 := xf.frozen 0
        have xf1 := xf.cell 1 rfl
        have xfz1 := xf.frozen 1
        have xf2 := xf.cell 2 rfl
        have xfz2 := xf.frozen 2
        have xf3 := xf.cell 3 rfl
        have xfz3 := xf.frozen 3
        have xf4 := xf.cell 4 rfl
        have xfz4 := xf.frozen 4
        have xa0 := xa.cell 0 rfl
        have xaz0 := xa.frozen 0
        have xa1 := xa.cell 1 rfl
        have xaz1 := xa.frozen 1
        have xa2 := xa.cell 2 rfl
        have xaz2 := xa.frozen 2
        have xa3 := xa.cell 3 rfl
        have xaz3 := xa.frozen 3
        have xg0 := xg.cell 0 rfl
        have xgz0 := xg.frozen 0
        have xg1 := xg.cell 1 rfl
        have xgz1 := xg.frozen 1
        have xg2 := xg.cell 2 rfl
        have xgz2 := xg.frozen 2
        have xg3 := xg.cell 3 rfl
        have xgz3 := xg.frozen 3
        have xg4 := xg.cell 4 rfl
        have xgz4 := xg.frozen 4
        have xb0 := xb.cell 0 rfl
        have xbz0 := xb.frozen 0
        have xb1 := xb.cell 1 rfl
        have xbz1 := xb.frozen 1
        have xb2 := xb.cell 2 rfl
        have xbz2 := xb.frozen 2
        have xb3 := xb.cell 3 rfl
        have xbz3 := xb.frozen 3
        have xc0 := xc.cell 0 rfl
        have xcz0 := xc.frozen 0
        have xc1 := xc.cell 1 rfl
        have xcz1 := xc.frozen 1
        have xc2 := xc.cell 2 rfl
        have xcz2 := xc.frozen 2
        have xc3 := xc.cell 3 rfl
        have xcz3 := xc.frozen 3
        go_wp2
        go_ret
        exact ⟨rfl, hB⟩
      · have hs2 : soundB f.b1 = false := by cases h : soundB f.b1 with | false => rfl | true => exact absurd h hso
        have hbh : bankK ⟨⟨#[]⟩, f.b1, f.e0, f.e1, f.lim⟩ < 0 := bankG_none.2 ⟨se, hs2⟩
        have TRH := Lib.hid (fun (V : World) => (show Calls Try.prog 12 #[.agg #[.string ⟨#[]⟩, .string f.b1, .int .i64 f.e0, .int .i64 f.e1, .int .i64 f.lim]] V fun e W' => e = .returned (.tuple #[.agg #[.int .i64 0, .int .u64 0, .int .u64 0, .int .u64 0], .int .i64 10]) ∧ Below V.heap.size V W' from by have h := own10Read ⟨⟨#[]⟩, f.b1, f.e0, f.e1, f.lim⟩ V okH; rwa [show pickE ⟨⟨#[]⟩, f.b1, f.e0, f.e1, f.lim⟩ = 10 from if_pos hbh, pickS_none hbh] at h))
        rw [hs2] at TS
        clear hbh hs2
        clear hk hb hps he hpb okG okH hpk hks hgp hso z0 z1 se
        generalize (pickS f).gen = g at *
        generalize (pickS f).seq = q at *
        generalize (pickS f).data = d at *
        have hB : Below W.heap.size W (W.alloc (.cells #[.string f.b0, .string f.b1, .int .i64 f.e0, .int .i64 f.e1, .int .i64 f.lim] 25)) := ((Below.refl _ _).alloc (Nat.le_refl _) _)
        have xf := (Box.new 25 W [.string f.b0, .string f.b1, .int .i64 f.e0, .int .i64 f.e1, .int .i64 f.lim])
        go_enter Try.func6, Try.ntmps6
        have xf0 := xf.cell 0 rfl
        have xfz0 := xf.frozen 0
        have xf1 := xf.cell 1 rfl
        have xfz1 := xf.frozen 1
        have xf2 := xf.cell 2 rfl
        have xfz2 := xf.frozen 2
        have xf3 := xf.cell 3 rfl
        have xfz3 := xf.frozen 3
        have xf4 := xf.cell 4 rfl
        have xfz4 := xf.frozen 4
        go_wp2_with fail
        refine (TBg.out _).mono ?_
        rintro e V1 ⟨rfl, hk⟩
        clear xf0 xfz0 xf1 xfz1 xf2 xfz2 xf3 xfz3 xf4 xfz4
        replace hB := below_seq hB hk
        replace xf := xf.seq hk
        clear hk
        have xf0 := xf.cell 0 rfl
        have xfz0 := xf.frozen 0
        have xf1 := xf.cell 1 rfl
        have xfz1 := xf.frozen 1
        have xf2 := xf.cell 2 rfl
        have xfz2 := xf.frozen 2
        have xf3 := xf.cell 3 rfl
        have xfz3 := xf.frozen 3
        have xf4 := xf.cell 4 rfl
        have xfz4 := xf.frozen 4
        go_wp2_with fail
        refine (shown10 _).mono ?_
        rintro e V2 ⟨rfl, hk⟩
        clear xf0 xfz0 xf1 xfz1 xf2 xfz2 xf3 xfz3 xf4 xfz4
        replace hB := below_seq hB hk
        replace xf := xf.seq hk
        clear hk
        have xf0 := xf.cell 0 rfl
        have xfz0 := xf.frozen 0
        have xf1 := xf.cell 1 rfl
        have xfz1 := xf.frozen 1
        have xf2 := xf.cell 2 rfl
        have xfz2 := xf.frozen 2
        have xf3 := xf.cell 3 rfl
        have xfz3 := xf.frozen 3
        have xf4 := xf.cell 4 rfl
        have xfz4 := xf.frozen 4
        go_wp2_with fail
        refine (TR.out _).mono ?_
        rintro e V3 ⟨rfl, hk⟩
        clear xf0 xfz0 xf1 xfz1 xf2 xfz2 xf3 xfz3 xf4 xfz4
        replace hB := below_seq hB hk
        replace xf := xf.seq hk
        clear hk
        have xa := Box.new 35 V3 [.int .i64 0, .int .u64 (g : Int), .int .u64 (q : Int), .int .u64 (d : Int)]
        have ne_xa_xf : V3.heap.size ≠ W.heap.size := Nat.ne_of_gt xf.lt
        have le_xa : W.heap.size ≤ V3.heap.size := hB.size
        replace xf := xf.alloc (.cells #[.int .i64 0, .int .u64 (g : Int), .int .u64 (q : Int), .int .u64 (d : Int)] 35)
        replace hB := hB.alloc hB.size (.cells #[.int .i64 0, .int .u64 (g : Int), .int .u64 (q : Int), .int .u64 (d : Int)] 35)
        have xf0 := xf.cell 0 rfl
        have xfz0 := xf.frozen 0
        have xf1 := xf.cell 1 rfl
        have xfz1 := xf.frozen 1
        have xf2 := xf.cell 2 rfl
        have xfz2 := xf.frozen 2
        have xf3 := xf.cell 3 rfl
        have xfz3 := xf.frozen 3
        have xf4 := xf.cell 4 rfl
        have xfz4 := xf.frozen 4
        have xa0 := xa.cell 0 rfl
        have xaz0 := xa.frozen 0
        have xa1 := xa.cell 1 rfl
        have xaz1 := xa.frozen 1
        have xa2 := xa.cell 2 rfl
        have xaz2 := xa.frozen 2
        have xa3 := xa.cell 3 rfl
        have xaz3 := xa.frozen 3
        have u0 := xf.cell 0 rfl
        have u1 := xf.cell 1 rfl
        have u2 := xf.cell 2 rfl
        have u3 := xf.cell 3 rfl
        have u4 := xf.cell 4 rfl
        clear xf0 xfz0 xf1 xfz1 xf2 xfz2 xf3 xfz3 xf4 xfz4 xa0 xaz0 xa1 xaz1 xa2 xaz2 xa3 xaz3
        have xg := Box.new 25 (V3.alloc (.cells #[.int .i64 0, .int .u64 (g : Int), .int .u64 (q : Int), .int .u64 (d : Int)] 35)) [.string f.b0, .string ⟨#[]⟩, .int .i64 f.e0, .int .i64 f.e1, .int .i64 f.lim]
        have ne_xg_xf : (V3.alloc (.cells #[.int .i64 0, .int .u64 (g : Int), .int .u64 (q : Int), .int .u64 (d : Int)] 35)).heap.size ≠ W.heap.size := Nat.ne_of_gt xf.lt
        have ne_xg_xa : (V3.alloc (.cells #[.int .i64 0, .int .u64 (g : Int), .int .u64 (q : Int), .int .u64 (d : Int)] 35)).heap.size ≠ V3.heap.size := Nat.ne_of_gt xa.lt
        have le_xg : W.heap.size ≤ (V3.alloc (.cells #[.int .i64 0, .int .u64 (g : Int), .int .u64 (q : Int), .int .u64 (d : Int)] 35)).heap.size := hB.size
        replace xf := xf.alloc (.cells #[.string f.b0, .string ⟨#[]⟩, .int .i64 f.e0, .int .i64 f.e1, .int .i64 f.lim] 25)
        replace xa := xa.alloc (.cells #[.string f.b0, .string ⟨#[]⟩, .int .i64 f.e0, .int .i64 f.e1, .int .i64 f.lim] 25)
        replace hB := hB.alloc hB.size (.cells #[.string f.b0, .string ⟨#[]⟩, .int .i64 f.e0, .int .i64 f.e1, .int .i64 f.lim] 25)
        have xf0 := xf.cell 0 rfl
        have xfz0 := xf.frozen 0
        have xf1 := xf.cell 1 rfl
        have xfz1 := xf.frozen 1
        have xf2 := xf.cell 2 rfl
        have xfz2 := xf.frozen 2
        have xf3 := xf.cell 3 rfl
        have xfz3 := xf.frozen 3
        have xf4 := xf.cell 4 rfl
        have xfz4 := xf.frozen 4
        have xa0 := xa.cell 0 rfl
        have xaz0 := xa.frozen 0
        have xa1 := xa.cell 1 rfl
        have xaz1 := xa.frozen 1
        have xa2 := xa.cell 2 rfl
        have xaz2 := xa.frozen 2
        have xa3 := xa.cell 3 rfl
        have xaz3 := xa.frozen 3
        have xg0 := xg.cell 0 rfl
        have xgz0 := xg.frozen 0
        have xg1 := xg.cell 1 rfl
        have xgz1 := xg.frozen 1
        have xg2 := xg.cell 2 rfl
        have xgz2 := xg.frozen 2
        have xg3 := xg.cell 3 rfl
        have xgz3 := xg.frozen 3
        have xg4 := xg.cell 4 rfl
        have xgz4 := xg.frozen 4
        go_wp2_with fail
        clear u0 u1 u2 u3 u4
        refine (TRG.out _).mono ?_
        rintro e V4 ⟨rfl, hk⟩
        clear xf0 xfz0 xf1 xfz1 xf2 xfz2 xf3 xfz3 xf4 xfz4 xa0 xaz0 xa1 xaz1 xa2 xaz2 xa3 xaz3 xg0 xgz0 xg1 xgz1 xg2 xgz2 xg3 xgz3 xg4 xgz4
        replace hB := below_seq hB hk
        replace xf := xf.seq hk
        replace xa := xa.seq hk
        replace xg := xg.seq hk
        clear hk
        have xb := Box.new 35 V4 [.int .i64 0, .int .u64 (g : Int), .int .u64 (q : Int), .int .u64 (d : Int)]
        have ne_xb_xf : V4.heap.size ≠ W.heap.size := Nat.ne_of_gt xf.lt
        have ne_xb_xa : V4.heap.size ≠ V3.heap.size := Nat.ne_of_gt xa.lt
        have ne_xb_xg : V4.heap.size ≠ (V3.alloc (.cells #[.int .i64 0, .int .u64 (g : Int), .int .u64 (q : Int), .int .u64 (d : Int)] 35)).heap.size := Nat.ne_of_gt xg.lt
        have le_xb : W.heap.size ≤ V4.heap.size := hB.size
        replace xf := xf.alloc (.cells #[.int .i64 0, .int .u64 (g : Int), .int .u64 (q : Int), .int .u64 (d : Int)] 35)
        replace xa := xa.alloc (.cells #[.int .i64 0, .int .u64 (g : Int), .int .u64 (q : Int), .int .u64 (d : Int)] 35)
        replace xg := xg.alloc (.cells #[.int .i64 0, .int .u64 (g : Int), .int .u64 (q : Int), .int .u64 (d : Int)] 35)
        replace hB := hB.alloc hB.size (.cells #[.int .i64 0, .int .u64 (g : Int), .int .u64 (q : Int), .int .u64 (d : Int)] 35)
        have xf0 := xf.cell 0 rfl
        have xfz0 := xf.frozen 0
        have xf1 := xf.cell 1 rfl
        have xfz1 := xf.frozen 1
        have xf2 := xf.cell 2 rfl
        have xfz2 := xf.frozen 2
        have xf3 := xf.cell 3 rfl
        have xfz3 := xf.frozen 3
        have xf4 := xf.cell 4 rfl
        have xfz4 := xf.frozen 4
        have xa0 := xa.cell 0 rfl
        have xaz0 := xa.frozen 0
        have xa1 := xa.cell 1 rfl
        have xaz1 := xa.frozen 1
        have xa2 := xa.cell 2 rfl
        have xaz2 := xa.frozen 2
        have xa3 := xa.cell 3 rfl
        have xaz3 := xa.frozen 3
        have xg0 := xg.cell 0 rfl
        have xgz0 := xg.frozen 0
        have xg1 := xg.cell 1 rfl
        have xgz1 := xg.frozen 1
        have xg2 := xg.cell 2 rfl
        have xgz2 := xg.frozen 2
        have xg3 := xg.cell 3 rfl
        have xgz3 := xg.frozen 3
        have xg4 := xg.cell 4 rfl
        have xgz4 := xg.frozen 4
        have xb0 := xb.cell 0 rfl
        have xbz0 := xb.frozen 0
        have xb1 := xb.cell 1 rfl
        have xbz1 := xb.frozen 1
        have xb2 := xb.cell 2 rfl
        have xbz2 := xb.frozen 2
        have xb3 := xb.cell 3 rfl
        have xbz3 := xb.frozen 3
        go_wp2_with fail
        clear xf0 xfz0 xf1 xfz1 xf2 xfz2 xf3 xfz3 xf4 xfz4 xa0 xaz0 xa1 xaz1 xa2 xaz2 xa3 xaz3 xg0 xgz0 xg1 xgz1 xg2 xgz2 xg3 xgz3 xg4 xgz4 xb0 xbz0 xb1 xbz1 xb2 xbz2 xb3 xbz3
        replace xa : Box 35 ((V4.alloc (.cells #[.int .i64 0, .int .u64 (g : Int), .int .u64 (q : Int), .int .u64 (d : Int)] 35)).setCell ⟨W.heap.size, 0, none⟩ (.string ⟨#[]⟩)) (V3.heap.size) [.int .i64 0, .int .u64 (g : Int), .int .u64 (q : Int), .int .u64 (d : Int)] := (xa.other (Ne.symm ne_xa_xf) 0 (.string ⟨#[]⟩))
        replace xg : Box 25 ((V4.alloc (.cells #[.int .i64 0, .int .u64 (g : Int), .int .u64 (q : Int), .int .u64 (d : Int)] 35)).setCell ⟨W.heap.size, 0, none⟩ (.string ⟨#[]⟩)) ((V3.alloc (.cells #[.int .i64 0, .int .u64 (g : Int), .int .u64 (q : Int), .int .u64 (d : Int)] 35)).heap.size) [.string f.b0, .string ⟨#[]⟩, .int .i64 f.e0, .int .i64 f.e1, .int .i64 f.lim] := (xg.other (Ne.symm ne_xg_xf) 0 (.string ⟨#[]⟩))
        replace xb : Box 35 ((V4.alloc (.cells #[.int .i64 0, .int .u64 (g : Int), .int .u64 (q : Int), .int .u64 (d : Int)] 35)).setCell ⟨W.heap.size, 0, none⟩ (.string ⟨#[]⟩)) (V4.heap.size) [.int .i64 0, .int .u64 (g : Int), .int .u64 (q : Int), .int .u64 (d : Int)] := (xb.other (Ne.symm ne_xb_xf) 0 (.string ⟨#[]⟩))
        replace xf : Box 25 ((V4.alloc (.cells #[.int .i64 0, .int .u64 (g : Int), .int .u64 (q : Int), .int .u64 (d : Int)] 35)).setCell ⟨W.heap.size, 0, none⟩ (.string ⟨#[]⟩)) (W.heap.size) [.string ⟨#[]⟩, .string f.b1, .int .i64 f.e0, .int .i64 f.e1, .int .i64 f.lim] := (xf.set 0 (.string ⟨#[]⟩))
        replace hB : Below W.heap.size W ((V4.alloc (.cells #[.int .i64 0, .int .u64 (g : Int), .int .u64 (q : Int), .int .u64 (d : Int)] 35)).setCell ⟨W.heap.size, 0, none⟩ (.string ⟨#[]⟩)) := (hB.setCell (Nat.le_refl _) _)
        generalize ((V4.alloc (.cells #[.int .i64 0, .int .u64 (g : Int), .int .u64 (q : Int), .int .u64 (d : Int)] 35)).setCell ⟨W.heap.size, 0, none⟩ (.string ⟨#[]⟩)) = V5 at *
        have xf0 := xf.cell 0 rfl
        have xfz0 := xf.frozen 0
        have xf1 := xf.cell 1 rfl
        have xfz1 := xf.frozen 1
        have xf2 := xf.cell 2 rfl
        have xfz2 := xf.frozen 2
        have xf3 := xf.cell 3 rfl
        have xfz3 := xf.frozen 3
        have xf4 := xf.cell 4 rfl
        have xfz4 := xf.frozen 4
        have xa0 := xa.cell 0 rfl
        have xaz0 := xa.frozen 0
        have xa1 := xa.cell 1 rfl
        have xaz1 := xa.frozen 1
        have xa2 := xa.cell 2 rfl
        have xaz2 := xa.frozen 2
        have xa3 := xa.cell 3 rfl
        have xaz3 := xa.frozen 3
        have xg0 := xg.cell 0 rfl
        have xgz0 := xg.frozen 0
        have xg1 := xg.cell 1 rfl
        have xgz1 := xg.frozen 1
        have xg2 := xg.cell 2 rfl
        have xgz2 := xg.frozen 2
        have xg3 := xg.cell 3 rfl
        have xgz3 := xg.frozen 3
        have xg4 := xg.cell 4 rfl
        have xgz4 := xg.frozen 4
        have xb0 := xb.cell 0 rfl
        have xbz0 := xb.frozen 0
        have xb1 := xb.cell 1 rfl
        have xbz1 := xb.frozen 1
        have xb2 := xb.cell 2 rfl
        have xbz2 := xb.frozen 2
        have xb3 := xb.cell 3 rfl
        have xbz3 := xb.frozen 3
        refine (TRH.out _).mono ?_
        rintro e V6 ⟨rfl, hk⟩
        clear xf0 xfz0 xf1 xfz1 xf2 xfz2 xf3 xfz3 xf4 xfz4 xa0 xaz0 xa1 xaz1 xa2 xaz2 xa3 xaz3 xg0 xgz0 xg1 xgz1 xg2 xgz2 xg3 xgz3 xg4 xgz4 xb0 xbz0 xb1 xbz1 xb2 xbz2 xb3 xbz3
        replace hB := below_seq hB hk
        replace xf := xf.seq hk
        replace xa := xa.seq hk
        replace xg := xg.seq hk
        replace xb := xb.seq hk
        clear hk
        have xc := Box.new 35 V6 [.int .i64 0, .int .u64 0, .int .u64 0, .int .u64 0]
        have ne_xc_xf : V6.heap.size ≠ W.heap.size := Nat.ne_of_gt xf.lt
        have ne_xc_xa : V6.heap.size ≠ V3.heap.size := Nat.ne_of_gt xa.lt
        have ne_xc_xg : V6.heap.size ≠ (V3.alloc (.cells #[.int .i64 0, .int .u64 (g : Int), .int .u64 (q : Int), .int .u64 (d : Int)] 35)).heap.size := Nat.ne_of_gt xg.lt
        have ne_xc_xb : V6.heap.size ≠ V4.heap.size := Nat.ne_of_gt xb.lt
        have le_xc : W.heap.size ≤ V6.heap.size := hB.size
        replace xf := xf.alloc (.cells #[.int .i64 0, .int .u64 0, .int .u64 0, .int .u64 0] 35)
        replace xa := xa.alloc (.cells #[.int .i64 0, .int .u64 0, .int .u64 0, .int .u64 0] 35)
        replace xg := xg.alloc (.cells #[.int .i64 0, .int .u64 0, .int .u64 0, .int .u64 0] 35)
        replace xb := xb.alloc (.cells #[.int .i64 0, .int .u64 0, .int .u64 0, .int .u64 0] 35)
        replace hB := hB.alloc hB.size (.cells #[.int .i64 0, .int .u64 0, .int .u64 0, .int .u64 0] 35)
        have xf0 := xf.cell 0 rfl
        have xfz0 := xf.frozen 0
        have xf1 := xf.cell 1 rfl
        have xfz1 := xf.frozen 1
        have xf2 := xf.cell 2 rfl
        have xfz2 := xf.frozen 2
        have xf3 := xf.cell 3 rfl
        have xfz3 := xf.frozen 3
        have xf4 := xf.cell 4 rfl
        have xfz4 := xf.frozen 4
        have xa0 := xa.cell 0 rfl
        have xaz0 := xa.frozen 0
        have xa1 := xa.cell 1 rfl
        have xaz1 := xa.frozen 1
        have xa2 := xa.cell 2 rfl
        have xaz2 := xa.frozen 2
        have xa3 := xa.cell 3 rfl
        have xaz3 := xa.frozen 3
        have xg0 := xg.cell 0 rfl
        have xgz0 := xg.frozen 0
        have xg1 := xg.cell 1 rfl
        have xgz1 := xg.frozen 1
        have xg2 := xg.cell 2 rfl
        have xgz2 := xg.frozen 2
        have xg3 := xg.cell 3 rfl
        have xgz3 := xg.frozen 3
        have xg4 := xg.cell 4 rfl
        have xgz4 := xg.frozen 4
        have xb0 := xb.cell 0 rfl
        have xbz0 := xb.frozen 0
        have xb1 := xb.cell 1 rfl
        have xbz1 := xb.frozen 1
        have xb2 := xb.cell 2 rfl
        have xbz2 := xb.frozen 2
        have xb3 := xb.cell 3 rfl
        have xbz3 := xb.frozen 3
        have xc0 := xc.cell 0 rfl
        have xcz0 := xc.frozen 0
        have xc1 := xc.cell 1 rfl
        have xcz1 := xc.frozen 1
        have xc2 := xc.cell 2 rfl
        have xcz2 := xc.frozen 2
        have xc3 := xc.cell 3 rfl
        have xcz3 := xc.frozen 3
        go_wp2_with fail
        refine (TS.out _).mono ?_
        rintro e V7 ⟨rfl, hk⟩
        clear xf0 xfz0 xf1 xfz1 xf2 xfz2 xf3 xfz3 xf4 xfz4 xa0 xaz0 xa1 xaz1 xa2 xaz2 xa3 xaz3 xg0 xgz0 xg1 xgz1 xg2 xgz2 xg3 xgz3 xg4 xgz4 xb0 xbz0 xb1 xbz1 xb2 xbz2 xb3 xbz3 xc0 xcz0 xc1 xcz1 xc2 xcz2 xc3 xcz3
        replace hB := below_seq hB hk
        replace xf := xf.seq hk
        replace xa := xa.seq hk
        replace xg := xg.seq hk
        replace xb := xb.seq hk
        replace xc := xc.seq hk
        clear hk
        have xf0 := xf.cell 0 rfl
        have xfz0 := xf.frozen 0
        have xf1 := xf.cell 1 rfl
        have xfz1 := xf.frozen 1
        have xf2 := xf.cell 2 rfl
        have xfz2 := xf.frozen 2
        have xf3 := xf.cell 3 rfl
        have xfz3 := xf.frozen 3
        have xf4 := xf.cell 4 rfl
        have xfz4 := xf.frozen 4
        have xa0 := xa.cell 0 rfl
        have xaz0 := xa.frozen 0
        have xa1 := xa.cell 1 rfl
        have xaz1 := xa.frozen 1
        have xa2 := xa.cell 2 rfl
        have xaz2 := xa.frozen 2
        have xa3 := xa.cell 3 rfl
        have xaz3 := xa.frozen 3
        have xg0 := xg.cell 0 rfl
        have xgz0 := xg.frozen 0
        have xg1 := xg.cell 1 rfl
        have xgz1 := xg.frozen 1
        have xg2 := xg.cell 2 rfl
        have xgz2 := xg.frozen 2
        have xg3 := xg.cell 3 rfl
        have xgz3 := xg.frozen 3
        have xg4 := xg.cell 4 rfl
        have xgz4 := xg.frozen 4
        have xb0 := xb.cell 0 rfl
        have xbz0 := xb.frozen 0
        have xb1 := xb.cell 1 rfl
        have xbz1 := xb.frozen 1
        have xb2 := xb.cell 2 rfl
        have xbz2 := xb.frozen 2
        have xb3 := xb.cell 3 rfl
        have xbz3 := xb.frozen 3
        have xc0 := xc.cell 0 rfl
        have xcz0 := xc.frozen 0
        have xc1 := xc.cell 1 rfl
        have xcz1 := xc.frozen 1
        have xc2 := xc.cell 2 rfl
        have xcz2 := xc.frozen 2
        have xc3 := xc.cell 3 rfl
        have xcz3 := xc.frozen 3
        go_wp2
        go_ret
        exact ⟨rfl, hB⟩
    · have he : pickE f = 10 := if_pos (by omega)
      have hps := pickS_none (f := f) (by omega)
      have TR := Lib.hid (fun (V : World) => (show Calls Try.prog 12 #[.agg #[.string f.b0, .string f.b1, .int .i64 f.e0, .int .i64 f.e1, .int .i64 f.lim]] V fun e W' => e = .returned (.tuple #[.agg #[.int .i64 0, .int .u64 0, .int .u64 0, .int .u64 0], .int .i64 10]) ∧ Below V.heap.size V W' from by have h := own10Read f V hf; rwa [he, hps] at h))
      clear hk he hps z0 z1 se
      have hB : Below W.heap.size W (W.alloc (.cells #[.string f.b0, .string f.b1, .int .i64 f.e0, .int .i64 f.e1, .int .i64 f.lim] 25)) := ((Below.refl _ _).alloc (Nat.le_refl _) _)
      have xf := (Box.new 25 W [.string f.b0, .string f.b1, .int .i64 f.e0, .int .i64 f.e1, .int .i64 f.lim])
      go_enter Try.func6, Try.ntmps6
      have xf0 := xf.cell 0 rfl
      have xfz0 := xf.frozen 0
      have xf1 := xf.cell 1 rfl
      have xfz1 := xf.frozen 1
      have xf2 := xf.cell 2 rfl
      have xfz2 := xf.frozen 2
      have xf3 := xf.cell 3 rfl
      have xfz3 := xf.frozen 3
      have xf4 := xf.cell 4 rfl
      have xfz4 := xf.frozen 4
      go_wp2_with fail
      refine (TBg.out _).mono ?_
      rintro e V1 ⟨rfl, hk⟩
      clear xf0 xfz0 xf1 xfz1 xf2 xfz2 xf3 xfz3 xf4 xfz4
      replace hB := below_seq hB hk
      replace xf := xf.seq hk
      clear hk
      have xf0 := xf.cell 0 rfl
      have xfz0 := xf.frozen 0
      have xf1 := xf.cell 1 rfl
      have xfz1 := xf.frozen 1
      have xf2 := xf.cell 2 rfl
      have xfz2 := xf.frozen 2
      have xf3 := xf.cell 3 rfl
      have xfz3 := xf.frozen 3
      have xf4 := xf.cell 4 rfl
      have xfz4 := xf.frozen 4
      go_wp2_with fail
      refine (shown10 _).mono ?_
      rintro e V2 ⟨rfl, hk⟩
      clear xf0 xfz0 xf1 xfz1 xf2 xfz2 xf3 xfz3 xf4 xfz4
      replace hB := below_seq hB hk
      replace xf := xf.seq hk
      clear hk
      have xf0 := xf.cell 0 rfl
      have xfz0 := xf.frozen 0
      have xf1 := xf.cell 1 rfl
      have xfz1 := xf.frozen 1
      have xf2 := xf.cell 2 rfl
      have xfz2 := xf.frozen 2
      have xf3 := xf.cell 3 rfl
      have xfz3 := xf.frozen 3
      have xf4 := xf.cell 4 rfl
      have xfz4 := xf.frozen 4
      go_wp2_with fail
      refine (TR.out _).mono ?_
      rintro e V3 ⟨rfl, hk⟩
      clear xf0 xfz0 xf1 xfz1 xf2 xfz2 xf3 xfz3 xf4 xfz4
      replace hB := below_seq hB hk
      replace xf := xf.seq hk
      clear hk
      have xa := Box.new 35 V3 [.int .i64 0, .int .u64 0, .int .u64 0, .int .u64 0]
      have ne_xa_xf : V3.heap.size ≠ W.heap.size := Nat.ne_of_gt xf.lt
      have le_xa : W.heap.size ≤ V3.heap.size := hB.size
      replace xf := xf.alloc (.cells #[.int .i64 0, .int .u64 0, .int .u64 0, .int .u64 0] 35)
      replace hB := hB.alloc hB.size (.cells #[.int .i64 0, .int .u64 0, .int .u64 0, .int .u64 0] 35)
      have xf0 := xf.cell 0 rfl
      have xfz0 := xf.frozen 0
      have xf1 := xf.cell 1 rfl
      have xfz1 := xf.frozen 1
      have xf2 := xf.cell 2 rfl
      have xfz2 := xf.frozen 2
      have xf3 := xf.cell 3 rfl
      have xfz3 := xf.frozen 3
      have xf4 := xf.cell 4 rfl
      have xfz4 := xf.frozen 4
      have xa0 := xa.cell 0 rfl
      have xaz0 := xa.frozen 0
      have xa1 := xa.cell 1 rfl
      have xaz1 := xa.frozen 1
      have xa2 := xa.cell 2 rfl
      have xaz2 := xa.frozen 2
      have xa3 := xa.cell 3 rfl
      have xaz3 := xa.frozen 3
      go_wp2
      go_ret
      exact ⟨rfl, hB⟩

theorem own : ownKnob Try.prog.godebug = none := by kernel_rfl

set_option maxRecDepth 100000 in
theorem lifted (os : Os) (started : os.Started) (H : Type) (enc : TypeId × Value → H) :
    ReturnsInHanded {} Try.checked os 6 .any (Rows.pickWipesSpec.pre6 enc Try.prog Try.f6 Rows.pickWipesRow.domain false) (Rows.pickWipesSpec.post enc Try.prog Try.f6 false true false false) := by
  refine returnsInHanded_of_change (C := Try.checked) own started (by kernel_rfl) Try.func6
    (ChangeSpec.witness6 (enc := enc) (C := Try.checked) false ⟨#[], #[.agg #[.string ⟨#[]⟩, .string ⟨#[]⟩, .int .i64 0, .int .i64 0, .int .i64 0]], []⟩ 8 (by kernel_rfl) (by kernel_rfl) (by kernel_rfl) (by kernel_rfl)) ?_
  intro W base args ds gs before hval hW _ _
  have hW' := hW
  obtain ⟨p, q, hA0, hV, rfl, hfz, hnd⟩ := hW
  have hA : DataW.TrodAll enc Try.prog W 0 (fun _ => true) true Try.f6.params.toList args.toList ds p := hA0
  rw [Try.params6] at hA hval
  obtain ⟨v0, vs0, d0, ds0, p0, q0, hargs, rfl, rfl, h0, r0⟩ := trodAll_cons hA
  obtain ⟨rfl, rfl, rfl⟩ := trodAll_nil r0
  obtain rfl : args = #[v0] := by cases args; simp_all
  obtain ⟨rfl, rfl⟩ := trodVars_none hV
  have k0 := h0
  obtain ⟨s0, rfl, hs0⟩ := open_fl (hval 0 25 v0 rfl rfl) h0
  clear hA0
  simp only [List.append_nil] at hW'
  refine (walk s0 W hs0).mono fun e W' ⟨he, hB⟩ => ?_
  subst he
  exact ⟨_, rfl, ⟨_, _, _, [], _, [], hW', trodAll_cons_mk (shut_bool Try.underlying4 _) trodAll_mk0, (trodAll_cons_mk (Below.trod Try.laidOut (by kernel_rfl) (of_decide_eq_true (by kernel_rfl)) k0 hB (fun x hx => by simpa using hW'.lt x (by simp [hx]))) trodAll_mk0), rfl, hB.frame _, fun h => by cases h⟩⟩

theorem holds : Rows.PickWipesSaid :=
  OpenClaim.holds_of_wide 6 Try.f6 rfl rfl rfl rfl rfl rfl rfl ⟨rfl, rfl, rfl, rfl, rfl⟩ rfl rfl rfl rfl rfl (by kernel_rfl) Try.func6 (by kernel_rfl)
    (of_decide_eq_true (by kernel_rfl)) (by unfold Func.isWrapper; first | (rw [if_pos (by decide +kernel)]; kernel_rfl) | (rw [if_neg (by decide +kernel)]; exact ⟨rfl, rfl⟩))
    (fun os started H enc _ => lifted os started H enc)
end Go.Proofs.Ytejhbamlnkhfcaa.PickWipes

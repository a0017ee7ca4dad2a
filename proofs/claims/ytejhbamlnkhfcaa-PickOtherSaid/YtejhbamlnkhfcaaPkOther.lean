/- Whatever becomes of the other bank, what is read stays, unless that is sound, and its generation is as great at least (PickOther); no condition. -/
import Derived.Test.YtejhbamlnkhfcaaPickLaw
import Derived.Deep.RegionHeld3
import Derived.WalkLawsBesides
import Derived.WalkSpells
import Derived.IntWalk
import Derived.Lib.Hide
import Derived.Test.YtejhbamlnkhfcaaBox
import Derived.ProofKit
import Derived.OpenShut
import Derived.ChangeMaps5
import Derived.Test.YtejhbamlnkhfcaaInts
namespace Go.Proofs.Ytejhbamlnkhfcaa.PickOther
open Go.ChangeShapes Go.WideShapes Go.ChangeAt Go.RowKit Go.ChangeMaps
set_option linter.unusedVariables false
set_option linter.unusedSimpArgs false

set_option maxRecDepth 100000 in
set_option maxHeartbeats 16000000 in
theorem walk (f : Fl) (s : ByteArray) (W : World) (hf : f.ok) (hs : s.size ≤ maxLen) :
    Calls Try.prog 4 #[.agg #[.string f.b0, .string f.b1, .int .i64 f.e0, .int .i64 f.e1, .int .i64 f.lim], .string s] W fun e W' => e = .returned (.bool true) ∧ Below W.heap.size W W' := by
  by_cases hs4 : 400 < s.size
  · have m0 : (s.size : Int) > 400 := by omega
    have TBg := Lib.hid (fun (V : World) => law10Big f V)
    cases hbg : big10 f
    · rw [hbg] at TBg
      clear hbg hs4
      have hB : Below W.heap.size W (W.alloc (.cells #[.string f.b0, .string f.b1, .int .i64 f.e0, .int .i64 f.e1, .int .i64 f.lim] 25)) := ((Below.refl _ _).alloc (Nat.le_refl _) _)
      have xf := (Box.new 25 W [.string f.b0, .string f.b1, .int .i64 f.e0, .int .i64 f.e1, .int .i64 f.lim])
      go_enter Try.func4, Try.ntmps4
      have xf0 := xf.cell 0 rfl
      have xfz0 := xf.frozen 0
      have xf1 := xf.cell 1 rfl
      have xfz1 := xf.frozen 1
      have xf2 := xf.cell 2 rfl
      have xfz2 := xf.frozen 2
      have xf3 := xf.cell 3 rfl
      have xfz3 := xf.frozen 3
      have xf4 := xf.cell 4 rfl
      have xfz4 := xf.frozen 4
      go_wp2_with fail
      refine (TBg.out _).mono ?_
      rintro e V1 ⟨rfl, hk⟩
      clear xf0 xfz0 xf1 xfz1 xf2 xfz2 xf3 xfz3 xf4 xfz4
      replace hB := below_seq hB hk
      replace xf := xf.seq hk
      clear hk
      have xf0 := xf.cell 0 rfl
      have xfz0 := xf.frozen 0
      have xf1 := xf.cell 1 rfl
      have xfz1 := xf.frozen 1
      have xf2 := xf.cell 2 rfl
      have xfz2 := xf.frozen 2
      have xf3 := xf.cell 3 rfl
      have xfz3 := xf.frozen 3
      have xf4 := xf.cell 4 rfl
      have xfz4 := xf.frozen 4
      go_wp2_with fail
      refine (shown10 _).mono ?_
      rintro e V2 ⟨rfl, hk⟩
      clear xf0 xfz0 xf1 xfz1 xf2 xfz2 xf3 xfz3 xf4 xfz4
      replace hB := below_seq hB hk
      replace xf := xf.seq hk
      clear hk
      have xf0 := xf.cell 0 rfl
      have xfz0 := xf.frozen 0
      have xf1 := xf.cell 1 rfl
      have xfz1 := xf.frozen 1
      have xf2 := xf.cell 2 rfl
      have xfz2 := xf.frozen 2
      have xf3 := xf.cell 3 rfl
      have xfz3 := xf.frozen 3
      have xf4 := xf.cell 4 rfl
      have xfz4 := xf.frozen 4
      go_wp2
      go_ret
      exact ⟨rfl, hB⟩
    · rw [hbg] at TBg
      clear hbg hs4
      have hB : Below W.heap.size W (W.alloc (.cells #[.string f.b0, .string f.b1, .int .i64 f.e0, .int .i64 f.e1, .int .i64 f.lim] 25)) := ((Below.refl _ _).alloc (Nat.le_refl _) _)
      have xf := (Box.new 25 W [.string f.b0, .string f.b1, .int .i64 f.e0, .int .i64 f.e1, .int .i64 f.lim])
      go_enter Try.func4, Try.ntmps4
      have xf0 := xf.cell 0 rfl
      have xfz0 := xf.frozen 0
      have xf1 := xf.cell 1 rfl
      have xfz1 := xf.frozen 1
      have xf2 := xf.cell 2 rfl
      have xfz2 := xf.frozen 2
      have xf3 := xf.cell 3 rfl
      have xfz3 := xf.frozen 3
      have xf4 := xf.cell 4 rfl
      have xfz4 := xf.frozen 4
      go_wp2_with fail
      refine (TBg.out _).mono ?_
      rintro e V1 ⟨rfl, hk⟩
      clear xf0 xfz0 xf1 xfz1 xf2 xfz2 xf3 xfz3 xf4 xfz4
      replace hB := below_seq hB hk
      replace xf := xf.seq hk
      clear hk
      have xf0 := xf.cell 0 rfl
      have xfz0 := xf.frozen 0
      have xf1 := xf.cell 1 rfl
      have xfz1 := xf.frozen 1
      have xf2 := xf.cell 2 rfl
      have xfz2 := xf.frozen 2
      have xf3 := xf.cell 3 rfl
      have xfz3 := xf.frozen 3
      have xf4 := xf.cell 4 rfl
      have xfz4 := xf.frozen 4
      go_wp2_with fail
      refine (shown10 _).mono ?_
      rintro e V2 ⟨rfl, hk⟩
      clear xf0 xfz0 xf1 xfz1 xf2 xfz2 xf3 xfz3 xf4 xfz4
      replace hB := below_seq hB hk
      replace xf := xf.seq hk
      clear hk
      have xf0 := xf.cell 0 rfl
      have xfz0 := xf.frozen 0
      have xf1 := xf.cell 1 rfl
      have xfz1 := xf.frozen 1
      have xf2 := xf.cell 2 rfl
      have xfz2 := xf.frozen 2
      have xf3 := xf.cell 3 rfl
      have xfz3 := xf.frozen 3
      have xf4 := xf.cell 4 rfl
      have xfz4 := xf.frozen 4
      go_wp2
      go_ret
      exact ⟨rfl, hB⟩
  · have m0 : ¬ (s.size : Int) > 400 := by omega
    by_cases hbig : big10 f = true
    · have TBg := Lib.hid (fun (V : World) => (show Calls Try.prog 7 #[.agg #[.string f.b0, .string f.b1, .int .i64 f.e0, .int .i64 f.e1, .int .i64 f.lim]] V fun e W' => e = .returned (.bool true) ∧ Below V.heap.size V W' from by have h := law10Big f V; rwa [hbig] at h))
      clear hbig
      have hB : Below W.heap.size W (W.alloc (.cells #[.string f.b0, .string f.b1, .int .i64 f.e0, .int .i64 f.e1, .int .i64 f.lim] 25)) := ((Below.refl _ _).alloc (Nat.le_refl _) _)
      have xf := (Box.new 25 W [.string f.b0, .string f.b1, .int .i64 f.e0, .int .i64 f.e1, .int .i64 f.lim])
      go_enter Try.func4, Try.ntmps4
      have xf0 := xf.cell 0 rfl
      have xfz0 := xf.frozen 0
      have xf1 := xf.cell 1 rfl
      have xfz1 := xf.frozen 1
      have xf2 := xf.cell 2 rfl
      have xfz2 := xf.frozen 2
      have xf3 := xf.cell 3 rfl
      have xfz3 := xf.frozen 3
      have xf4 := xf.cell 4 rfl
      have xfz4 := xf.frozen 4
      go_wp2_with fail
      refine (TBg.out _).mono ?_
      rintro e V1 ⟨rfl, hk⟩
      clear xf0 xfz0 xf1 xfz1 xf2 xfz2 xf3 xfz3 xf4 xfz4
      replace hB := below_seq hB hk
      replace xf := xf.seq hk
      clear hk
      have xf0 := xf.cell 0 rfl
      have xfz0 := xf.frozen 0
      have xf1 := xf.cell 1 rfl
      have xfz1 := xf.frozen 1
      have xf2 := xf.cell 2 rfl
      have xfz2 := xf.frozen 2
      have xf3 := xf.cell 3 rfl
      have xfz3 := xf.frozen 3
      have xf4 := xf.cell 4 rfl
      have xfz4 := xf.frozen 4
      go_wp2_with fail
      refine (shown10 _).mono ?_
      rintro e V2 ⟨rfl, hk⟩
      clear xf0 xfz0 xf1 xfz1 xf2 xfz2 xf3 xfz3 xf4 xfz4
      replace hB := below_seq hB hk
      replace xf := xf.seq hk
      clear hk
      have xf0 := xf.cell 0 rfl
      have xfz0 := xf.frozen 0
      have xf1 := xf.cell 1 rfl
      have xfz1 := xf.frozen 1
      have xf2 := xf.cell 2 rfl
      have xfz2 := xf.frozen 2
      have xf3 := xf.cell 3 rfl
      have xfz3 := xf.frozen 3
      have xf4 := xf.cell 4 rfl
      have xfz4 := xf.frozen 4
      go_wp2
      go_ret
      exact ⟨rfl, hB⟩
    · have hbig2 : big10 f = false := by cases h : big10 f with | false => rfl | true => exact absurd h hbig
      have TBg := Lib.hid (fun (V : World) => (show Calls Try.prog 7 #[.agg #[.string f.b0, .string f.b1, .int .i64 f.e0, .int .i64 f.e1, .int .i64 f.lim]] V fun e W' => e = .returned (.bool false) ∧ Below V.heap.size V W' from by have h := law10Big f V; rwa [hbig2] at h))
      obtain ⟨z0, z1⟩ := big10_no hbig2
      clear hbig hbig2
      have TG := Lib.hid (fun (V : World) => ref08Generation s V hs)
      have TS := Lib.hid (fun (V : World) => ref09Sound s V hs)
      rcases bankK_cases f with hk | hk | hk
      · skip
        have hb : bankK f = 0 ∨ bankK f = 1 := by omega
        have hps := pickS_some hb
        have he : pickE f = 0 := pickE_zero.2 hb
        have TR := Lib.hid (fun (V : World) => (show Calls Try.prog 12 #[.agg #[.string f.b0, .string f.b1, .int .i64 f.e0, .int .i64 f.e1, .int .i64 f.lim]] V fun e W' => e = .returned (.tuple #[.agg #[.int .i64 1, .int .u64 ((pickS f).gen : Int), .int .u64 ((pickS f).seq : Int), .int .u64 ((pickS f).data : Int)], .int .i64 0]) ∧ Below V.heap.size V W' from by have h := own10Read f V hf; rwa [he, show (pickS f).bank = 1 from by rw [hps]; exact hk] at h))
        have hgo : Fl.ok ⟨s, f.b1, f.e0, f.e1, f.lim⟩ := ⟨hs, hf.s1, hf.n0, hf.n1, hf.nl⟩
        have hup : Fl.mk s f.b1 f.e0 f.e1 f.lim = upd f (1 - bankK f) s (f.erases 0) := by rw [hk]; rfl
        by_cases hc : soundB s = true ∧ (pickS f).gen ≤ genN s
        · obtain ⟨c1, c2⟩ := hc
          rw [c1] at TS
          have m1 : (genN s : Int) ≥ ((pickS f).gen : Int) := by omega
          clear hk hb hps he hup hgo c1 c2 z0 z1 hs4
          generalize (pickS f).gen = g at *
          generalize (pickS f).seq = q at *
          generalize (pickS f).data = d at *
          generalize genN s = gs at *
          generalize genE s = es at *
          have hB : Below W.heap.size W (W.alloc (.cells #[.string f.b0, .string f.b1, .int .i64 f.e0, .int .i64 f.e1, .int .i64 f.lim] 25)) := ((Below.refl _ _).alloc (Nat.le_refl _) _)
          have xf := (Box.new 25 W [.string f.b0, .string f.b1, .int .i64 f.e0, .int .i64 f.e1, .int .i64 f.lim])
          go_enter Try.func4, Try.ntmps4
          have xf0 := xf.cell 0 rfl
          have xfz0 := xf.frozen 0
          have xf1 := xf.cell 1 rfl
          have xfz1 := xf.frozen 1
          have xf2 := xf.cell 2 rfl
          have xfz2 := xf.frozen 2
          have xf3 := xf.cell 3 rfl
          have xfz3 := xf.frozen 3
          have xf4 := xf.cell 4 rfl
          have xfz4 := xf.frozen 4
          go_wp2_with fail
          refine (TBg.out _).mono ?_
          rintro e V1 ⟨rfl, hk⟩
          clear xf0 xfz0 xf1 xfz1 xf2 xfz2 xf3 xfz3 xf4 xfz4
          replace hB := below_seq hB hk
          replace xf := xf.seq hk
          clear hk
          have xf0 := xf.cell 0 rfl
          have xfz0 := xf.frozen 0
          have xf1 := xf.cell 1 rfl
          have xfz1 := xf.frozen 1
          have xf2 := xf.cell 2 rfl
          have xfz2 := xf.frozen 2
          have xf3 := xf.cell 3 rfl
          have xfz3 := xf.frozen 3
          have xf4 := xf.cell 4 rfl
          have xfz4 := xf.frozen 4
          go_wp2_with fail
          refine (shown10 _).mono ?_
          rintro e V2 ⟨rfl, hk⟩
          clear xf0 xfz0 xf1 xfz1 xf2 xfz2 xf3 xfz3 xf4 xfz4
          replace hB := below_seq hB hk
          replace xf := xf.seq hk
          clear hk
          have xf0 := xf.cell 0 rfl
          have xfz0 := xf.frozen 0
          have xf1 := xf.cell 1 rfl
          have xfz1 := xf.frozen 1
          have xf2 := xf.cell 2 rfl
          have xfz2 := xf.frozen 2
          have xf3 := xf.cell 3 rfl
          have xfz3 := xf.frozen 3
          have xf4 := xf.cell 4 rfl
          have xfz4 := xf.frozen 4
          go_wp2_with fail
          refine (TR.out _).mono ?_
          rintro e V3 ⟨rfl, hk⟩
          clear xf0 xfz0 xf1 xfz1 xf2 xfz2 xf3 xfz3 xf4 xfz4
          replace hB := below_seq hB hk
          replace xf := xf.seq hk
          clear hk
          have xa := Box.new 35 V3 [.int .i64 1, .int .u64 (g : Int), .int .u64 (q : Int), .int .u64 (d : Int)]
          have ne_xa_xf : V3.heap.size ≠ W.heap.size := Nat.ne_of_gt xf.lt
          have le_xa : W.heap.size ≤ V3.heap.size := hB.size
          replace xf := xf.alloc (.cells #[.int .i64 1, .int .u64 (g : Int), .int .u64 (q : Int), .int .u64 (d : Int)] 35)
          replace hB := hB.alloc hB.size (.cells #[.int .i64 1, .int .u64 (g : Int), .int .u64 (q : Int), .int .u64 (d : Int)] 35)
          have xf0 := xf.cell 0 rfl
          have xfz0 := xf.frozen 0
          have xf1 := xf.cell 1 rfl
          have xfz1 := xf.frozen 1
          have xf2 := xf.cell 2 rfl
          have xfz2 := xf.frozen 2
          have xf3 := xf.cell 3 rfl
          have xfz3 := xf.frozen 3
          have xf4 := xf.cell 4 rfl
          have xfz4 := xf.frozen 4
          have xa0 := xa.cell 0 rfl
          have xaz0 := xa.frozen 0
          have xa1 := xa.cell 1 rfl
          have xaz1 := xa.frozen 1
          have xa2 := xa.cell 2 rfl
          have xaz2 := xa.frozen 2
          have xa3 := xa.cell 3 rfl
          have xaz3 := xa.frozen 3
          go_wp2_with fail
          clear xf0 xfz0 xf1 xfz1 xf2 xfz2 xf3 xfz3 xf4 xfz4 xa0 xaz0 xa1 xaz1 xa2 xaz2 xa3 xaz3
          replace xa : Box 35 ((V3.alloc (.cells #[.int .i64 1, .int .u64 (g : Int), .int .u64 (q : Int), .int .u64 (d : Int)] 35)).setCell ⟨W.heap.size, 0, none⟩ (.string s)) (V3.heap.size) [.int .i64 1, .int .u64 (g : Int), .int .u64 (q : Int), .int .u64 (d : Int)] := (xa.other (Ne.symm ne_xa_xf) 0 (.string s))
          replace xf : Box 25 ((V3.alloc (.cells #[.int .i64 1, .int .u64 (g : Int), .int .u64 (q : Int), .int .u64 (d : Int)] 35)).setCell ⟨W.heap.size, 0, none⟩ (.string s)) (W.heap.size) [.string s, .string f.b1, .int .i64 f.e0, .int .i64 f.e1, .int .i64 f.lim] := (xf.set 0 (.string s))
          replace hB : Below W.heap.size W ((V3.alloc (.cells #[.int .i64 1, .int .u64 (g : Int), .int .u64 (q : Int), .int .u64 (d : Int)] 35)).setCell ⟨W.heap.size, 0, none⟩ (.string s)) := (hB.setCell (Nat.le_refl _) _)
          generalize ((V3.alloc (.cells #[.int .i64 1, .int .u64 (g : Int), .int .u64 (q : Int), .int .u64 (d : Int)] 35)).setCell ⟨W.heap.size, 0, none⟩ (.string s)) = V4 at *
          have xf0 := xf.cell 0 rfl
          have xfz0 := xf.frozen 0
          have xf1 := xf.cell 1 rfl
          have xfz1 := xf.frozen 1
          have xf2 := xf.cell 2 rfl
          have xfz2 := xf.frozen 2
          have xf3 := xf.cell 3 rfl
          have xfz3 := xf.frozen 3
          have xf4 := xf.cell 4 rfl
          have xfz4 := xf.frozen 4
          have xa0 := xa.cell 0 rfl
          have xaz0 := xa.frozen 0
          have xa1 := xa.cell 1 rfl
          have xaz1 := xa.frozen 1
          have xa2 := xa.cell 2 rfl
          have xaz2 := xa.frozen 2
          have xa3 := xa.cell 3 rfl
          have xaz3 := xa.frozen 3
          refine (TG.out _).mono ?_
          rintro e V5 ⟨rfl, hk⟩
          clear xf0 xfz0 xf1 xfz1 xf2 xfz2 xf3 xfz3 xf4 xfz4 xa0 xaz0 xa1 xaz1 xa2 xaz2 xa3 xaz3
          replace hB := below_seq hB hk
          replace xf := xf.seq hk
          replace xa := xa.seq hk
          clear hk
          have xf0 := xf.cell 0 rfl
          have xfz0 := xf.frozen 0
          have xf1 := xf.cell 1 rfl
          have xfz1 := xf.frozen 1
          have xf2 := xf.cell 2 rfl
          have xfz2 := xf.frozen 2
          have xf3 := xf.cell 3 rfl
          have xfz3 := xf.frozen 3
          have xf4 := xf.cell 4 rfl
          have xfz4 := xf.frozen 4
          have xa0 := xa.cell 0 rfl
          have xaz0 := xa.frozen 0
          have xa1 := xa.cell 1 rfl
          have xaz1 := xa.frozen 1
          have xa2 := xa.cell 2 rfl
          have xaz2 := xa.frozen 2
          have xa3 := xa.cell 3 rfl
          have xaz3 := xa.frozen 3
          go_wp2_with fail
          refine (TS.out _).mono ?_
          rintro e V6 ⟨rfl, hk⟩
          clear xf0 xfz0 xf1 xfz1 xf2 xfz2 xf3 xfz3 xf4 xfz4 xa0 xaz0 xa1 xaz1 xa2 xaz2 xa3 xaz3
          replace hB := below_seq hB hk
          replace xf := xf.seq hk
          replace xa := xa.seq hk
          clear hk
          have xf0 := xf.cell 0 rfl
          have xfz0 := xf.frozen 0
          have xf1 := xf.cell 1 rfl
          have xfz1 := xf.frozen 1
          have xf2 := xf.cell 2 rfl
          have xfz2 := xf.frozen 2
          have xf3 := xf.cell 3 rfl
          have xfz3 := xf.frozen 3
          have xf4 := xf.cell 4 rfl
          have xfz4 := xf.frozen 4
          have xa0 := xa.cell 0 rfl
          have xaz0 := xa.frozen 0
          have xa1 := xa.cell 1 rfl
          have xaz1 := xa.frozen 1
          have xa2 := xa.cell 2 rfl
          have xaz2 := xa.frozen 2
          have xa3 := xa.cell 3 rfl
          have xaz3 := xa.frozen 3
          go_wp2
          go_ret
          exact ⟨rfl, hB⟩
        · have hlt : soundB s = true → genN s < genN (f.bank (bankK f)) := fun x => by
            have h2 := gen_pick hb
            rw [← h2]
            rcases Nat.lt_or_ge (genN s) (pickS f).gen with h | h
            · exact h
            · exact absurd ⟨x, h⟩ hc
          have hpk := other_pick (e := f.erases 0) hb (v := s) hlt
          clear hlt
          rw [← hup] at hpk
          have TR2 := Lib.hid (fun (V : World) => (show Calls Try.prog 12 #[.agg #[.string s, .string f.b1, .int .i64 f.e0, .int .i64 f.e1, .int .i64 f.lim]] V fun e W' => e = .returned (.tuple #[.agg #[.int .i64 1, .int .u64 ((pickS f).gen : Int), .int .u64 ((pickS f).seq : Int), .int .u64 ((pickS f).data : Int)], .int .i64 0]) ∧ Below V.heap.size V W' from by have h := own10Read ⟨s, f.b1, f.e0, f.e1, f.lim⟩ V hgo; rwa [hpk.2, show pickE ⟨s, f.b1, f.e0, f.e1, f.lim⟩ = 0 from pickE_zero.2 (by rw [hpk.1]; exact hb), show (pickS f).bank = 1 from by rw [hps]; exact hk] at h))
          by_cases c1 : soundB s = true
          · rw [c1] at TS
            have m1 : ¬ (genN s : Int) ≥ ((pickS f).gen : Int) := fun h => hc ⟨c1, by omega⟩
            clear hk hb hps he hup hgo c1 z0 z1 hs4 hpk hc
            generalize (pickS f).gen = g at *
            generalize (pickS f).seq = q at *
            generalize (pickS f).data = d at *
            generalize genN s = gs at *
            generalize genE s = es at *
            have hB : Below W.heap.size W (W.alloc (.cells #[.string f.b0, .string f.b1, .int .i64 f.e0, .int .i64 f.e1, .int .i64 f.lim] 25)) := ((Below.refl _ _).alloc (Nat.le_refl _) _)
            have xf := (Box.new 25 W [.string f.b0, .string f.b1, .int .i64 f.e0, .int .i64 f.e1, .int .i64 f.lim])
            go_enter Try.func4, Try.ntmps4
            have xf0 := xf.cell 0 rfl
            have xfz0 := xf.frozen 0
            have xf1 := xf.cell 1 rfl
            have xfz1 := xf.frozen 1
            have xf2 := xf.cell 2 rfl
            have xfz2 := xf.frozen 2
            have xf3 := xf.cell 3 rfl
            have xfz3 := xf.frozen 3
            have xf4 := xf.cell 4 rfl
            have xfz4 := xf.frozen 4
            go_wp2_with fail
            refine (TBg.out _).mono ?_
            rintro e V1 ⟨rfl, hk⟩
            clear xf0 xfz0 xf1 xfz1 xf2 xfz2 xf3 xfz3 xf4 xfz4
            replace hB := below_seq hB hk
            replace xf := xf.seq hk
            clear hk
            have xf0 := xf.cell 0 rfl
            have xfz0 := xf.frozen 0
            have xf1 := xf.cell 1 rfl
            have xfz1 := xf.frozen 1
            have xf2 := xf.cell 2 rfl
            have xfz2 := xf.frozen 2
            have xf3 := xf.cell 3 rfl
            have xfz3 := xf.frozen 3
            have xf4 := xf.cell 4 rfl
            have xfz4 := xf.frozen 4
            go_wp2_with fail
            refine (shown10 _).mono ?_
            rintro e V2 ⟨rfl, hk⟩
            clear xf0 xfz0 xf1 xfz1 xf2 xfz2 xf3 xfz3 xf4 xfz4
            replace hB := below_seq hB hk
            replace xf := xf.seq hk
            clear hk
            have xf0 := xf.cell 0 rfl
            have xfz0 := xf.frozen 0
            have xf1 := xf.cell 1 rfl
            have xfz1 := xf.frozen 1
            have xf2 := xf.cell 2 rfl
            have xfz2 := xf.frozen 2
            have xf3 := xf.cell 3 rfl
            have xfz3 := xf.frozen 3
            have xf4 := xf.cell 4 rfl
            have xfz4 := xf.frozen 4
            go_wp2_with fail
            refine (TR.out _).mono ?_
            rintro e V3 ⟨rfl, hk⟩
            clear xf0 xfz0 xf1 xfz1 xf2 xfz2 xf3 xfz3 xf4 xfz4
            replace hB := below_seq hB hk
            replace xf := xf.seq hk
            clear hk
            have xa := Box.new 35 V3 [.int .i64 1, .int .u64 (g : Int), .int .u64 (q : Int), .int .u64 (d : Int)]
            have ne_xa_xf : V3.heap.size ≠ W.heap.size := Nat.ne_of_gt xf.lt
            have le_xa : W.heap.size ≤ V3.heap.size := hB.size
            replace xf := xf.alloc (.cells #[.int .i64 1, .int .u64 (g : Int), .int .u64 (q : Int), .int .u64 (d : Int)] 35)
            replace hB := hB.alloc hB.size (.cells #[.int .i64 1, .int .u64 (g : Int), .int .u64 (q : Int), .int .u64 (d : Int)] 35)
            have xf0 := xf.cell 0 rfl
            have xfz0 := xf.frozen 0
            have xf1 := xf.cell 1 rfl
            have xfz1 := xf.frozen 1
            have xf2 := xf.cell 2 rfl
            have xfz2 := xf.frozen 2
            have xf3 := xf.cell 3 rfl
            have xfz3 := xf.frozen 3
            have xf4 := xf.cell 4 rfl
            have xfz4 := xf.frozen 4
            have xa0 := xa.cell 0 rfl
            have xaz0 := xa.frozen 0
            have xa1 := xa.cell 1 rfl
            have xaz1 := xa.frozen 1
            have xa2 := xa.cell 2 rfl
            have xaz2 := xa.frozen 2
            have xa3 := xa.cell 3 rfl
            have xaz3 := xa.frozen 3
            go_wp2_with fail
            clear xf0 xfz0 xf1 xfz1 xf2 xfz2 xf3 xfz3 xf4 xfz4 xa0 xaz0 xa1 xaz1 xa2 xaz2 xa3 xaz3
            replace xa : Box 35 ((V3.alloc (.cells #[.int .i64 1, .int .u64 (g : Int), .int .u64 (q : Int), .int .u64 (d : Int)] 35)).setCell ⟨W.heap.size, 0, none⟩ (.string s)) (V3.heap.size) [.int .i64 1, .int .u64 (g : Int), .int .u64 (q : Int), .int .u64 (d : Int)] := (xa.other (Ne.symm ne_xa_xf) 0 (.string s))
            replace xf : Box 25 ((V3.alloc (.cells #[.int .i64 1, .int .u64 (g : Int), .int .u64 (q : Int), .int .u64 (d : Int)] 35)).setCell ⟨W.heap.size, 0, none⟩ (.string s)) (W.heap.size) [.string s, .string f.b1, .int .i64 f.e0, .int .i64 f.e1, .int .i64 f.lim] := (xf.set 0 (.string s))
            replace hB : Below W.heap.size W ((V3.alloc (.cells #[.int .i64 1, .int .u64 (g : Int), .int .u64 (q : Int), .int .u64 (d : Int)] 35)).setCell ⟨W.heap.size, 0, none⟩ (.string s)) := (hB.setCell (Nat.le_refl _) _)
            generalize ((V3.alloc (.cells #[.int .i64 1, .int .u64 (g : Int), .int .u64 (q : Int), .int .u64 (d : Int)] 35)).setCell ⟨W.heap.size, 0, none⟩ (.string s)) = V4 at *
            have xf0 := xf.cell 0 rfl
            have xfz0 := xf.frozen 0
            have xf1 := xf.cell 1 rfl
            have xfz1 := xf.frozen 1
            have xf2 := xf.cell 2 rfl
            have xfz2 := xf.frozen 2
            have xf3 := xf.cell 3 rfl
            have xfz3 := xf.frozen 3
            have xf4 := xf.cell 4 rfl
            have xfz4 := xf.frozen 4
            have xa0 := xa.cell 0 rfl
            have xaz0 := xa.frozen 0
            have xa1 := xa.cell 1 rfl
            have xaz1 := xa.frozen 1
            have xa2 := xa.cell 2 rfl
            have xaz2 := xa.frozen 2
            have xa3 := xa.cell 3 rfl
            have xaz3 := xa.frozen 3
            refine (TG.out _).mono ?_
            rintro e V5 ⟨rfl, hk⟩
            clear xf0 xfz0 xf1 xfz1 xf2 xfz2 xf3 xfz3 xf4 xfz4 xa0 xaz0 xa1 xaz1 xa2 xaz2 xa3 xaz3
            replace hB := below_seq hB hk
            replace xf := xf.seq hk
            replace xa := xa.seq hk
            clear hk
            have xf0 := xf.cell 0 rfl
            have xfz0 := xf.frozen 0
            have xf1 := xf.cell 1 rfl
            have xfz1 := xf.frozen 1
            have xf2 := xf.cell 2 rfl
            have xfz2 := xf.frozen 2
            have xf3 := xf.cell 3 rfl
            have xfz3 := xf.frozen 3
            have xf4 := xf.cell 4 rfl
            have xfz4 := xf.frozen 4
            have xa0 := xa.cell 0 rfl
            have xaz0 := xa.frozen 0
            have xa1 := xa.cell 1 rfl
            have xaz1 := xa.frozen 1
            have xa2 := xa.cell 2 rfl
            have xaz2 := xa.frozen 2
            have xa3 := xa.cell 3 rfl
            have xaz3 := xa.frozen 3
            go_wp2_with fail
            refine (TS.out _).mono ?_
            rintro e V6 ⟨rfl, hk⟩
            clear xf0 xfz0 xf1 xfz1 xf2 xfz2 xf3 xfz3 xf4 xfz4 xa0 xaz0 xa1 xaz1 xa2 xaz2 xa3 xaz3
            replace hB := below_seq hB hk
            replace xf := xf.seq hk
            replace xa := xa.seq hk
            clear hk
            have xf0 := xf.cell 0 rfl
            have xfz0 := xf.frozen 0
            have xf1 := xf.cell 1 rfl
            have xfz1 := xf.frozen 1
            have xf2 := xf.cell 2 rfl
            have xfz2 := xf.frozen 2
            have xf3 := xf.cell 3 rfl
            have xfz3 := xf.frozen 3
            have xf4 := xf.cell 4 rfl
            have xfz4 := xf.frozen 4
            have xa0 := xa.cell 0 rfl
            have xaz0 := xa.frozen 0
            have xa1 := xa.cell 1 rfl
            have xaz1 := xa.frozen 1
            have xa2 := xa.cell 2 rfl
            have xaz2 := xa.frozen 2
            have xa3 := xa.cell 3 rfl
            have xaz3 := xa.frozen 3
            go_wp2_with fail
            refine (TR2.out _).mono ?_
            rintro e V7 ⟨rfl, hk⟩
            clear xf0 xfz0 xf1 xfz1 xf2 xfz2 xf3 xfz3 xf4 xfz4 xa0 xaz0 xa1 xaz1 xa2 xaz2 xa3 xaz3
            replace hB := below_seq hB hk
            replace xf := xf.seq hk
            replace xa := xa.seq hk
            clear hk
            have xb := Box.new 35 V7 [.int .i64 1, .int .u64 (g : Int), .int .u64 (q : Int), .int .u64 (d : Int)]
            have ne_xb_xf : V7.heap.size ≠ W.heap.size := Nat.ne_of_gt xf.lt
            have ne_xb_xa : V7.heap.size ≠ V3.heap.size := Nat.ne_of_gt xa.lt
            have le_xb : W.heap.size ≤ V7.heap.size := hB.size
            replace xf := xf.alloc (.cells #[.int .i64 1, .int .u64 (g : Int), .int .u64 (q : Int), .int .u64 (d : Int)] 35)
            replace xa := xa.alloc (.cells #[.int .i64 1, .int .u64 (g : Int), .int .u64 (q : Int), .int .u64 (d : Int)] 35)
            replace hB := hB.alloc hB.size (.cells #[.int .i64 1, .int .u64 (g : Int), .int .u64 (q : Int), .int .u64 (d : Int)] 35)
            have xf0 := xf.cell 0 rfl
            have xfz0 := xf.frozen 0
            have xf1 := xf.cell 1 rfl
            have xfz1 := xf.frozen 1
            have xf2 := xf.cell 2 rfl
            have xfz2 := xf.frozen 2
            have xf3 := xf.cell 3 rfl
            have xfz3 := xf.frozen 3
            have xf4 := xf.cell 4 rfl
            have xfz4 := xf.frozen 4
            have xa0 := xa.cell 0 rfl
            have xaz0 := xa.frozen 0
            have xa1 := xa.cell 1 rfl
            have xaz1 := xa.frozen 1
            have xa2 := xa.cell 2 rfl
            have xaz2 := xa.frozen 2
            have xa3 := xa.cell 3 rfl
            have xaz3 := xa.frozen 3
            have xb0 := xb.cell 0 rfl
            have xbz0 := xb.frozen 0
            have xb1 := xb.cell 1 rfl
            have xbz1 := xb.frozen 1
            have xb2 := xb.cell 2 rfl
            have xbz2 := xb.frozen 2
            have xb3 := xb.cell 3 rfl
            have xbz3 := xb.frozen 3
            go_wp2
            go_ret
            exact ⟨rfl, hB⟩
          · have c2 : soundB s = false := by cases h : soundB s with | false => rfl | true => exact absurd h c1
            rw [c2] at TS
            clear c2
            clear hk hb hps he hup hgo c1 z0 z1 hs4 hpk hc
            generalize (pickS f).gen = g at *
            generalize (pickS f).seq = q at *
            generalize (pickS f).data = d at *
            generalize genN s = gs at *
            generalize genE s = es at *
            have hB : Below W.heap.size W (W.alloc (.cells #[.string f.b0, .string f.b1, .int .i64 f.e0, .int .i64 f.e1, .int .i64 f.lim] 25)) := ((Below.refl _ _).alloc (Nat.le_refl _) _)
            have xf := (Box.new 25 W [.string f.b0, .string f.b1, .int .i64 f.e0, .int .i64 f.e1, .int .i64 f.lim])
            go_enter Try.func4, Try.ntmps4
            have xf0 := xf.cell 0 rfl
            have xfz0 := xf.frozen 0
            have xf1 := xf.cell 1 rfl
            have xfz1 := xf.frozen 1
            have xf2 := xf.cell 2 rfl
            have xfz2 := xf.frozen 2
            have xf3 := xf.cell 3 rfl
            have xfz3 := xf.frozen 3
            have xf4 := xf.cell 4 rfl
            have xfz4 := xf.frozen 4
            go_wp2_with fail
            refine (TBg.out _).mono ?_
            rintro e V1 ⟨rfl, hk⟩
            clear xf0 xfz0 xf1 xfz1 xf2 xfz2 xf3 xfz3 xf4 xfz4
            replace hB := below_seq hB hk
            replace xf := xf.seq hk
            clear hk
            have xf0 := xf.cell 0 rfl
            have xfz0 := xf.frozen 0
            have xf1 := xf.cell 1 rfl
            have xfz1 := xf.frozen 1
            have xf2 := xf.cell 2 rfl
            have xfz2 := xf.frozen 2
            have xf3 := xf.cell 3 rfl
            have xfz3 := xf.frozen 3
            have xf4 := xf.cell 4 rfl
            have xfz4 := xf.frozen 4
            go_wp2_with fail
            refine (shown10 _).mono ?_
            rintro e V2 ⟨rfl, hk⟩
            clear xf0 xfz0 xf1 xfz1 xf2 xfz2 xf3 xfz3 xf4 xfz4
            replace hB := below_seq hB hk
            replace xf := xf.seq hk
            clear hk
            have xf0 := xf.cell 0 rfl
            have xfz0 := xf.frozen 0
            have xf1 := xf.cell 1 rfl
            have xfz1 := xf.frozen 1
            have xf2 := xf.cell 2 rfl
            have xfz2 := xf.frozen 2
            have xf3 := xf.cell 3 rfl
            have xfz3 := xf.frozen 3
            have xf4 := xf.cell 4 rfl
            have xfz4 := xf.frozen 4
            go_wp2_with fail
            refine (TR.out _).mono ?_
            rintro e V3 ⟨rfl, hk⟩
            clear xf0 xfz0 xf1 xfz1 xf2 xfz2 xf3 xfz3 xf4 xfz4
            replace hB := below_seq hB hk
            replace xf := xf.seq hk
            clear hk
            have xa := Box.new 35 V3 [.int .i64 1, .int .u64 (g : Int), .int .u64 (q : Int), .int .u64 (d : Int)]
            have ne_xa_xf : V3.heap.size ≠ W.heap.size := Nat.ne_of_gt xf.lt
            have le_xa : W.heap.size ≤ V3.heap.size := hB.size
            replace xf := xf.alloc (.cells #[.int .i64 1, .int .u64 (g : Int), .int .u64 (q : Int), .int .u64 (d : Int)] 35)
            replace hB := hB.alloc hB.size (.cells #[.int .i64 1, .int .u64 (g : Int), .int .u64 (q : Int), .int .u64 (d : Int)] 35)
            have xf0 := xf.cell 0 rfl
            have xfz0 := xf.frozen 0
            have xf1 := xf.cell 1 rfl
            have xfz1 := xf.frozen 1
            have xf2 := xf.cell 2 rfl
            have xfz2 := xf.frozen 2
            have xf3 := xf.cell 3 rfl
            have xfz3 := xf.frozen 3
            have xf4 := xf.cell 4 rfl
            have xfz4 := xf.frozen 4
            have xa0 := xa.cell 0 rfl
            have xaz0 := xa.frozen 0
            have xa1 := xa.cell 1 rfl
            have xaz1 := xa.frozen 1
            have xa2 := xa.cell 2 rfl
            have xaz2 := xa.frozen 2
            have xa3 := xa.cell 3 rfl
            have xaz3 := xa.frozen 3
            go_wp2_with fail
            clear xf0 xfz0 xf1 xfz1 xf2 xfz2 xf3 xfz3 xf4 xfz4 xa0 xaz0 xa1 xaz1 xa2 xaz2 xa3 xaz3
            replace xa : Box 35 ((V3.alloc (.cells #[.int .i64 1, .int .u64 (g : Int), .int .u64 (q : Int), .int .u64 (d : Int)] 35)).setCell ⟨W.heap.size, 0, none⟩ (.string s)) (V3.heap.size) [.int .i64 1, .int .u64 (g : Int), .int .u64 (q : Int), .int .u64 (d : Int)] := (xa.other (Ne.symm ne_xa_xf) 0 (.string s))
            replace xf : Box 25 ((V3.alloc (.cells #[.int .i64 1, .int .u64 (g : Int), .int .u64 (q : Int), .int .u64 (d : Int)] 35)).setCell ⟨W.heap.size, 0, none⟩ (.string s)) (W.heap.size) [.string s, .string f.b1, .int .i64 f.e0, .int .i64 f.e1, .int .i64 f.lim] := (xf.set 0 (.string s))
            replace hB : Below W.heap.size W ((V3.alloc (.cells #[.int .i64 1, .int .u64 (g : Int), .int .u64 (q : Int), .int .u64 (d : Int)] 35)).setCell ⟨W.heap.size, 0, none⟩ (.string s)) := (hB.setCell (Nat.le_refl _) _)
            generalize ((V3.alloc (.cells #[.int .i64 1, .int .u64 (g : Int), .int .u64 (q : Int), .int .u64 (d : Int)] 35)).setCell ⟨W.heap.size, 0, none⟩ (.string s)) = V4 at *
            have xf0 := xf.cell 0 rfl
            have xfz0 := xf.frozen 0
            have xf1 := xf.cell 1 rfl
            have xfz1 := xf.frozen 1
            have xf2 := xf.cell 2 rfl
            have xfz2 := xf.frozen 2
            have xf3 := xf.cell 3 rfl
            have xfz3 := xf.frozen 3
            have xf4 := xf.cell 4 rfl
            have xfz4 := xf.frozen 4
            have xa0 := xa.cell 0 rfl
            have xaz0 := xa.frozen 0
            have xa1 := xa.cell 1 rfl
            have xaz1 := xa.frozen 1
            have xa2 := xa.cell 2 rfl
            have xaz2 := xa.frozen 2
            have xa3 := xa.cell 3 rfl
            have xaz3 := xa.frozen 3
            refine (TG.out _).mono ?_
            rintro e V5 ⟨rfl, hk⟩
            clear xf0 xfz0 xf1 xfz1 xf2 xfz2 xf3 xfz3 xf4 xfz4 xa0 xaz0 xa1 xaz1 xa2 xaz2 xa3 xaz3
            replace hB := below_seq hB hk
            replace xf := xf.seq hk
            replace xa := xa.seq hk
            clear hk
            have xf0 := xf.cell 0 rfl
            have xfz0 := xf.frozen 0
            have xf1 := xf.cell 1 rfl
            have xfz1 := xf.frozen 1
            have xf2 := xf.cell 2 rfl
            have xfz2 := xf.frozen 2
            have xf3 := xf.cell 3 rfl
            have xfz3 := xf.frozen 3
            have xf4 := xf.cell 4 rfl
            have xfz4 := xf.frozen 4
            have xa0 := xa.cell 0 rfl
            have xaz0 := xa.frozen 0
            have xa1 := xa.cell 1 rfl
            have xaz1 := xa.frozen 1
            have xa2 := xa.cell 2 rfl
            have xaz2 := xa.frozen 2
            have xa3 := xa.cell 3 rfl
            have xaz3 := xa.frozen 3
            go_wp2_with fail
            refine (TS.out _).mono ?_
            rintro e V6 ⟨rfl, hk⟩
            clear xf0 xfz0 xf1 xfz1 xf2 xfz2 xf3 xfz3 xf4 xfz4 xa0 xaz0 xa1 xaz1 xa2 xaz2 xa3 xaz3
            replace hB := below_seq hB hk
            replace xf := xf.seq hk
            replace xa := xa.seq hk
            clear hk
            have xf0 := xf.cell 0 rfl
            have xfz0 := xf.frozen 0
            have xf1 := xf.cell 1 rfl
            have xfz1 := xf.frozen 1
            have xf2 := xf.cell 2 rfl
            have xfz2 := xf.frozen 2
            have xf3 := xf.cell 3 rfl
            have xfz3 := xf.frozen 3
            have xf4 := xf.cell 4 rfl
            have xfz4 := xf.frozen 4
            have xa0 := xa.cell 0 rfl
            have xaz0 := xa.frozen 0
            have xa1 := xa.cell 1 rfl
            have xaz1 := xa.frozen 1
            have xa2 := xa.cell 2 rfl
            have xaz2 := xa.frozen 2
            have xa3 := xa.cell 3 rfl
            have xaz3 := xa.frozen 3
            go_wp2_with fail
            refine (TR2.out _).mono ?_
            rintro e V7 ⟨rfl, hk⟩
            clear xf0 xfz0 xf1 xfz1 xf2 xfz2 xf3 xfz3 xf4 xfz4 xa0 xaz0 xa1 xaz1 xa2 xaz2 xa3 xaz3
            replace hB := below_seq hB hk
            replace xf := xf.seq hk
            replace xa := xa.seq hk
            clear hk
            have xb := Box.new 35 V7 [.int .i64 1, .int .u64 (g : Int), .int .u64 (q : Int), .int .u64 (d : Int)]
            have ne_xb_xf : V7.heap.size ≠ W.heap.size := Nat.ne_of_gt xf.lt
            have ne_xb_xa : V7.heap.size ≠ V3.heap.size := Nat.ne_of_gt xa.lt
            have le_xb : W.heap.size ≤ V7.heap.size := hB.size
            replace xf := xf.alloc (.cells #[.int .i64 1, .int .u64 (g : Int), .int .u64 (q : Int), .int .u64 (d : Int)] 35)
            replace xa := xa.alloc (.cells #[.int .i64 1, .int .u64 (g : Int), .int .u64 (q : Int), .int .u64 (d : Int)] 35)
            replace hB := hB.alloc hB.size (.cells #[.int .i64 1, .int .u64 (g : Int), .int .u64 (q : Int), .int .u64 (d : Int)] 35)
            have xf0 := xf.cell 0 rfl
            have xfz0 := xf.frozen 0
            have xf1 := xf.cell 1 rfl
            have xfz1 := xf.frozen 1
            have xf2 := xf.cell 2 rfl
            have xfz2 := xf.frozen 2
            have xf3 := xf.cell 3 rfl
            have xfz3 := xf.frozen 3
            have xf4 := xf.cell 4 rfl
            have xfz4 := xf.frozen 4
            have xa0 := xa.cell 0 rfl
            have xaz0 := xa.frozen 0
            have xa1 := xa.cell 1 rfl
            have xaz1 := xa.frozen 1
            have xa2 := xa.cell 2 rfl
            have xaz2 := xa.frozen 2
            have xa3 := xa.cell 3 rfl
            have xaz3 := xa.frozen 3
            have xb0 := xb.cell 0 rfl
            have xbz0 := xb.frozen 0
            have xb1 := xb.cell 1 rfl
            have xbz1 := xb.frozen 1
            have xb2 := xb.cell 2 rfl
            have xbz2 := xb.frozen 2
            have xb3 := xb.cell 3 rfl
            have xbz3 := xb.frozen 3
            go_wp2
            go_ret
            exact ⟨rfl, hB⟩
      · skip
        have hb : bankK f = 0 ∨ bankK f = 1 := by omega
        have hps := pickS_some hb
        have he : pickE f = 0 := pickE_zero.2 hb
        have TR := Lib.hid (fun (V : World) => (show Calls Try.prog 12 #[.agg #[.string f.b0, .string f.b1, .int .i64 f.e0, .int .i64 f.e1, .int .i64 f.lim]] V fun e W' => e = .returned (.tuple #[.agg #[.int .i64 0, .int .u64 ((pickS f).gen : Int), .int .u64 ((pickS f).seq : Int), .int .u64 ((pickS f).data : Int)], .int .i64 0]) ∧ Below V.heap.size V W' from by have h := own10Read f V hf; rwa [he, show (pickS f).bank = 0 from by rw [hps]; exact hk] at h))
        have hgo : Fl.ok ⟨f.b0, s, f.e0, f.e1, f.lim⟩ := ⟨hf.s0, hs, hf.n0, hf.n1, hf.nl⟩
        have hup : Fl.mk f.b0 s f.e0 f.e1 f.lim = upd f (1 - bankK f) s (f.erases 1) := by rw [hk]; rfl
        by_cases hc : soundB s = true ∧ (pickS f).gen ≤ genN s
        · obtain ⟨c1, c2⟩ := hc
          rw [c1] at TS
          have m1 : (genN s : Int) ≥ ((pickS f).gen : Int) := by omega
          clear hk hb hps he hup hgo c1 c2 z0 z1 hs4
          generalize (pickS f).gen = g at *
          generalize (pickS f).seq = q at *
          generalize (pickS f).data = d at *
          generalize genN s = gs at *
          generalize genE s = es at *
          have hB : Below W.heap.size W (W.alloc (.cells #[.string f.b0, .string f.b1, .int .i64 f.e0, .int .i64 f.e1, .int .i64 f.lim] 25)) := ((Below.refl _ _).alloc (Nat.le_refl _) _)
          have xf := (Box.new 25 W [.string f.b0, .string f.b1, .int .i64 f.e0, .int .i64 f.e1, .int .i64 f.lim])
          go_enter Try.func4, Try.ntmps4
          have xf0 := xf.cell 0 rfl
          have xfz0 := xf.frozen 0
          have xf1 := xf.cell 1 rfl
          have xfz1 := xf.frozen 1
          have xf2 := xf.cell 2 rfl
          have xfz2 := xf.frozen 2
          have xf3 := xf.cell 3 rfl
          have xfz3 := xf.frozen 3
          have xf4 := xf.cell 4 rfl
          have xfz4 := xf.frozen 4
          go_wp2_with fail
          refine (TBg.out _).mono ?_
          rintro e V1 ⟨rfl, hk⟩
          clear xf0 xfz0 xf1 xfz1 xf2 xfz2 xf3 xfz3 xf4 xfz4
          replace hB := below_seq hB hk
          replace xf := xf.seq hk
          clear hk
          have xf0 := xf.cell 0 rfl
          have xfz0 := xf.frozen 0
          have xf1 := xf.cell 1 rfl
          have xfz1 := xf.frozen 1
          have xf2 := xf.cell 2 rfl
          have xfz2 := xf.frozen 2
          have xf3 := xf.cell 3 rfl
          have xfz3 := xf.frozen 3
          have xf4 := xf.cell 4 rfl
          have xfz4 := xf.frozen 4
          go_wp2_with fail
          refine (shown10 _).mono ?_
          rintro e V2 ⟨rfl, hk⟩
          clear xf0 xfz0 xf1 xfz1 xf2 xfz2 xf3 xfz3 xf4 xfz4
          replace hB := below_seq hB hk
          replace xf := xf.seq hk
          clear hk
          have xf0 := xf.cell 0 rfl
          have xfz0 := xf.frozen 0
          have xf1 := xf.cell 1 rfl
          have xfz1 := xf.frozen 1
          have xf2 := xf.cell 2 rfl
          have xfz2 := xf.frozen 2
          have xf3 := xf.cell 3 rfl
          have xfz3 := xf.frozen 3
          have xf4 := xf.cell 4 rfl
          have xfz4 := xf.frozen 4
          go_wp2_with fail
          refine (TR.out _).mono ?_
          rintro e V3 ⟨rfl, hk⟩
          clear xf0 xfz0 xf1 xfz1 xf2 xfz2 xf3 xfz3 xf4 xfz4
          replace hB := below_seq hB hk
          replace xf := xf.seq hk
          clear hk
          have xa := Box.new 35 V3 [.int .i64 0, .int .u64 (g : Int), .int .u64 (q : Int), .int .u64 (d : Int)]
          have ne_xa_xf : V3.heap.size ≠ W.heap.size := Nat.ne_of_gt xf.lt
          have le_xa : W.heap.size ≤ V3.heap.size := hB.size
          replace xf := xf.alloc (.cells #[.int .i64 0, .int .u64 (g : Int), .int .u64 (q : Int), .int .u64 (d : Int)] 35)
          replace hB := hB.alloc hB.size (.cells #[.int .i64 0, .int .u64 (g : Int), .int .u64 (q : Int), .int .u64 (d : Int)] 35)
          have xf0 := xf.cell 0 rfl
          have xfz0 := xf.frozen 0
          have xf1 := xf.cell 1 rfl
          have xfz1 := xf.frozen 1
          have xf2 := xf.cell 2 rfl
          have xfz2 := xf.frozen 2
          have xf3 := xf.cell 3 rfl
          have xfz3 := xf.frozen 3
          have xf4 := xf.cell 4 rfl
          have xfz4 := xf.frozen 4
          have xa0 := xa.cell 0 rfl
          have xaz0 := xa.frozen 0
          have xa1 := xa.cell 1 rfl
          have xaz1 := xa.frozen 1
          have xa2 := xa.cell 2 rfl
          have xaz2 := xa.frozen 2
          have xa3 := xa.cell 3 rfl
          have xaz3 := xa.frozen 3
          go_wp2_with fail
          clear xf0 xfz0 xf1 xfz1 xf2 xfz2 xf3 xfz3 xf4 xfz4 xa0 xaz0 xa1 xaz1 xa2 xaz2 xa3 xaz3
          replace xa : Box 35 ((V3.alloc (.cells #[.int .i64 0, .int .u64 (g : Int), .int .u64 (q : Int), .int .u64 (d : Int)] 35)).setCell ⟨W.heap.size, 1, none⟩ (.string s)) (V3.heap.size) [.int .i64 0, .int .u64 (g : Int), .int .u64 (q : Int), .int .u64 (d : Int)] := (xa.other (Ne.symm ne_xa_xf) 1 (.string s))
          replace xf : Box 25 ((V3.alloc (.cells #[.int .i64 0, .int .u64 (g : Int), .int .u64 (q : Int), .int .u64 (d : Int)] 35)).setCell ⟨W.heap.size, 1, none⟩ (.string s)) (W.heap.size) [.string f.b0, .string s, .int .i64 f.e0, .int .i64 f.e1, .int .i64 f.lim] := (xf.set 1 (.string s))
          replace hB : Below W.heap.size W ((V3.alloc (.cells #[.int .i64 0, .int .u64 (g : Int), .int .u64 (q : Int), .int .u64 (d : Int)] 35)).setCell ⟨W.heap.size, 1, none⟩ (.string s)) := (hB.setCell (Nat.le_refl _) _)
          generalize ((V3.alloc (.cells #[.int .i64 0, .int .u64 (g : Int), .int .u64 (q : Int), .int .u64 (d : Int)] 35)).setCell ⟨W.heap.size, 1, none⟩ (.string s)) = V4 at *
          have xf0 := xf.cell 0 rfl
          have xfz0 := xf.frozen 0
          have xf1 := xf.cell 1 rfl
          have xfz1 := xf.frozen 1
          have xf2 := xf.cell 2 rfl
          have xfz2 := xf.frozen 2
          have xf3 := xf.cell 3 rfl
          have xfz3 := xf.frozen 3
          have xf4 := xf.cell 4 rfl
          have xfz4 := xf.frozen 4
          have xa0 := xa.cell 0 rfl
          have xaz0 := xa.frozen 0
          have xa1 := xa.cell 1 rfl
          have xaz1 := xa.frozen 1
          have xa2 := xa.cell 2 rfl
          have xaz2 := xa.frozen 2
          have xa3 := xa.cell 3 rfl
          have xaz3 := xa.frozen 3
          refine (TG.out _).mono ?_
          rintro e V5 ⟨rfl, hk⟩
          clear xf0 xfz0 xf1 xfz1 xf2 xfz2 xf3 xfz3 xf4 xfz4 xa0 xaz0 xa1 xaz1 xa2 xaz2 xa3 xaz3
          replace hB := below_seq hB hk
          replace xf := xf.seq hk
          replace xa := xa.seq hk
          clear hk
          have xf0 := xf.cell 0 rfl
          have xfz0 := xf.frozen 0
          have xf1 := xf.cell 1 rfl
          have xfz1 := xf.frozen 1
          have xf2 := xf.cell 2 rfl
          have xfz2 := xf.frozen 2
          have xf3 := xf.cell 3 rfl
          have xfz3 := xf.frozen 3
          have xf4 := xf.cell 4 rfl
          have xfz4 := xf.frozen 4
          have xa0 := xa.cell 0 rfl
          have xaz0 := xa.frozen 0
          have xa1 := xa.cell 1 rfl
          have xaz1 := xa.frozen 1
          have xa2 := xa.cell 2 rfl
          have xaz2 := xa.frozen 2
          have xa3 := xa.cell 3 rfl
          have xaz3 := xa.frozen 3
          go_wp2_with fail
          refine (TS.out _).mono ?_
          rintro e V6 ⟨rfl, hk⟩
          clear xf0 xfz0 xf1 xfz1 xf2 xfz2 xf3 xfz3 xf4 xfz4 xa0 xaz0 xa1 xaz1 xa2 xaz2 xa3 xaz3
          replace hB := below_seq hB hk
          replace xf := xf.seq hk
          replace xa := xa.seq hk
          clear hk
          have xf0 := xf.cell 0 rfl
          have xfz0 := xf.frozen 0
          have xf1 := xf.cell 1 rfl
          have xfz1 := xf.frozen 1
          have xf2 := xf.cell 2 rfl
          have xfz2 := xf.frozen 2
          have xf3 := xf.cell 3 rfl
          have xfz3 := xf.frozen 3
          have xf4 := xf.cell 4 rfl
          have xfz4 := xf.frozen 4
          have xa0 := xa.cell 0 rfl
          have xaz0 := xa.frozen 0
          have xa1 := xa.cell 1 rfl
          have xaz1 := xa.frozen 1
          have xa2 := xa.cell 2 rfl
          have xaz2 := xa.frozen 2
          have xa3 := xa.cell 3 rfl
          have xaz3 := xa.frozen 3
          go_wp2
          go_ret
          exact ⟨rfl, hB⟩
        · have hlt : soundB s = true → genN s < genN (f.bank (bankK f)) := fun x => by
            have h2 := gen_pick hb
            rw [← h2]
            rcases Nat.lt_or_ge (genN s) (pickS f).gen with h | h
            · exact h
            · exact absurd ⟨x, h⟩ hc
          have hpk := other_pick (e := f.erases 1) hb (v := s) hlt
          clear hlt
          rw [← hup] at hpk
          have TR2 := Lib.hid (fun (V : World) => (show Calls Try.prog 12 #[.agg #[.string f.b0, .string s, .int .i64 f.e0, .int .i64 f.e1, .int .i64 f.lim]] V fun e W' => e = .returned (.tuple #[.agg #[.int .i64 0, .int .u64 ((pickS f).gen : Int), .int .u64 ((pickS f).seq : Int), .int .u64 ((pickS f).data : Int)], .int .i64 0]) ∧ Below V.heap.size V W' from by have h := own10Read ⟨f.b0, s, f.e0, f.e1, f.lim⟩ V hgo; rwa [hpk.2, show pickE ⟨f.b0, s, f.e0, f.e1, f.lim⟩ = 0 from pickE_zero.2 (by rw [hpk.1]; exact hb), show (pickS f).bank = 0 from by rw [hps]; exact hk] at h))
          by_cases c1 : soundB s = true
          · rw [c1] at TS
            have m1 : ¬ (genN s : Int) ≥ ((pickS f).gen : Int) := fun h => hc ⟨c1, by omega⟩
            clear hk hb hps he hup hgo c1 z0 z1 hs4 hpk hc
            generalize (pickS f).gen = g at *
            generalize (pickS f).seq = q at *
            generalize (pickS f).data = d at *
            generalize genN s = gs at *
            generalize genE s = es at *
            have hB : Below W.heap.size W (W.alloc (.cells #[.string f.b0, .string f.b1, .int .i64 f.e0, .int .i64 f.e1, .int .i64 f.lim] 25)) := ((Below.refl _ _).alloc (Nat.le_refl _) _)
            have xf := (Box.new 25 W [.string f.b0, .string f.b1, .int .i64 f.e0, .int .i64 f.e1, .int .i64 f.lim])
            go_enter Try.func4, Try.ntmps4
            have xf0 := xf.cell 0 rfl
            have xfz0 := xf.frozen 0
            have xf1 := xf.cell 1 rfl
            have xfz1 := xf.frozen 1
            have xf2 := xf.cell 2 rfl
            have xfz2 := xf.frozen 2
            have xf3 := xf.cell 3 rfl
            have xfz3 := xf.frozen 3
            have xf4 := xf.cell 4 rfl
            have xfz4 := xf.frozen 4
            go_wp2_with fail
            refine (TBg.out _).mono ?_
            rintro e V1 ⟨rfl, hk⟩
            clear xf0 xfz0 xf1 xfz1 xf2 xfz2 xf3 xfz3 xf4 xfz4
            replace hB := below_seq hB hk
            replace xf := xf.seq hk
            clear hk
            have xf0 := xf.cell 0 rfl
            have xfz0 := xf.frozen 0
            have xf1 := xf.cell 1 rfl
            have xfz1 := xf.frozen 1
            have xf2 := xf.cell 2 rfl
            have xfz2 := xf.frozen 2
            have xf3 := xf.cell 3 rfl
            have xfz3 := xf.frozen 3
            have xf4 := xf.cell 4 rfl
            have xfz4 := xf.frozen 4
            go_wp2_with fail
            refine (shown10 _).mono ?_
            rintro e V2 ⟨rfl, hk⟩
            clear xf0 xfz0 xf1 xfz1 xf2 xfz2 xf3 xfz3 xf4 xfz4
            replace hB := below_seq hB hk
            replace xf := xf.seq hk
            clear hk
            have xf0 := xf.cell 0 rfl
            have xfz0 := xf.frozen 0
            have xf1 := xf.cell 1 rfl
            have xfz1 := xf.frozen 1
            have xf2 := xf.cell 2 rfl
            have xfz2 := xf.frozen 2
            have xf3 := xf.cell 3 rfl
            have xfz3 := xf.frozen 3
            have xf4 := xf.cell 4 rfl
            have xfz4 := xf.frozen 4
            go_wp2_with fail
            refine (TR.out _).mono ?_
            rintro e V3 ⟨rfl, hk⟩
            clear xf0 xfz0 xf1 xfz1 xf2 xfz2 xf3 xfz3 xf4 xfz4
            replace hB := below_seq hB hk
            replace xf := xf.seq hk
            clear hk
            have xa := Box.new 35 V3 [.int .i64 0, .int .u64 (g : Int), .int .u64 (q : Int), .int .u64 (d : Int)]
            have ne_xa_xf : V3.heap.size ≠ W.heap.size := Nat.ne_of_gt xf.lt
            have le_xa : W.heap.size ≤ V3.heap.size := hB.size
            replace xf := xf.alloc (.cells #[.int .i64 0, .int .u64 (g : Int), .int .u64 (q : Int), .int .u64 (d : Int)] 35)
            replace hB := hB.alloc hB.size (.cells #[.int .i64 0, .int .u64 (g : Int), .int .u64 (q : Int), .int .u64 (d : Int)] 35)
            have xf0 := xf.cell 0 rfl
            have xfz0 := xf.frozen 0
            have xf1 := xf.cell 1 rfl
            have xfz1 := xf.frozen 1
            have xf2 := xf.cell 2 rfl
            have xfz2 := xf.frozen 2
            have xf3 := xf.cell 3 rfl
            have xfz3 := xf.frozen 3
            have xf4 := xf.cell 4 rfl
            have xfz4 := xf.frozen 4
            have xa0 := xa.cell 0 rfl
            have xaz0 := xa.frozen 0
            have xa1 := xa.cell 1 rfl
            have xaz1 := xa.frozen 1
            have xa2 := xa.cell 2 rfl
            have xaz2 := xa.frozen 2
            have xa3 := xa.cell 3 rfl
            have xaz3 := xa.frozen 3
            go_wp2_with fail
            clear xf0 xfz0 xf1 xfz1 xf2 xfz2 xf3 xfz3 xf4 xfz4 xa0 xaz0 xa1 xaz1 xa2 xaz2 xa3 xaz3
            replace xa : Box 35 ((V3.alloc (.cells #[.int .i64 0, .int .u64 (g : Int), .int .u64 (q : Int), .int .u64 (d : Int)] 35)).setCell ⟨W.heap.size, 1, none⟩ (.string s)) (V3.heap.size) [.int .i64 0, .int .u64 (g : Int), .int .u64 (q : Int), .int .u64 (d : Int)] := (xa.other (Ne.symm ne_xa_xf) 1 (.string s))
            replace xf : Box 25 ((V3.alloc (.cells #[.int .i64 0, .int .u64 (g : Int), .int .u64 (q : Int), .int .u64 (d : Int)] 35)).setCell ⟨W.heap.size, 1, none⟩ (.string s)) (W.heap.size) [.string f.b0, .string s, .int .i64 f.e0, .int .i64 f.e1, .int .i64 f.lim] := (xf.set 1 (.string s))
            replace hB : Below W.heap.size W ((V3.alloc (.cells #[.int .i64 0, .int .u64 (g : Int), .int .u64 (q : Int), .int .u64 (d : Int)] 35)).setCell ⟨W.heap.size, 1, none⟩ (.string s)) := (hB.setCell (Nat.le_refl _) _)
            generalize ((V3.alloc (.cells #[.int .i64 0, .int .u64 (g : Int), .int .u64 (q : Int), .int .u64 (d : Int)] 35)).setCell ⟨W.heap.size, 1, none⟩ (.string s)) = V4 at *
            have xf0 := xf.cell 0 rfl
            have xfz0 := xf.frozen 0
            have xf1 := xf.cell 1 rfl
            have xfz1 := xf.frozen 1
            have xf2 := xf.cell 2 rfl
            have xfz2 := xf.frozen 2
            have xf3 := xf.cell 3 rfl
            have xfz3 := xf.frozen 3
            have xf4 := xf.cell 4 rfl
            have xfz4 := xf.frozen 4
            have xa0 := xa.cell 0 rfl
            have xaz0 := xa.frozen 0
            have xa1 := xa.cell 1 rfl
            have xaz1 := xa.frozen 1
            have xa2 := xa.cell 2 rfl
            have xaz2 := xa.frozen 2
            have xa3 := xa.cell 3 rfl
            have xaz3 := xa.frozen 3
            refine (TG.out _).mono ?_
            rintro e V5 ⟨rfl, hk⟩
            clear xf0 xfz0 xf1 xfz1 xf2 xfz2 xf3 xfz3 xf4 xfz4 xa0 xaz0 xa1 xaz1 xa2 xaz2 xa3 xaz3
            replace hB := below_seq hB hk
            replace xf := xf.seq hk
            replace xa := xa.seq hk
            clear hk
            have xf0 := xf.cell 0 rfl
            have xfz0 := xf.frozen 0
            have xf1 := xf.cell 1 rfl
            have xfz1 := xf.frozen 1
            have xf2 := xf.cell 2 rfl
            have xfz2 := xf.frozen 2
            have xf3 := xf.cell 3 rfl
            have xfz3 := xf.frozen 3
            have xf4 := xf.cell 4 rfl
            have xfz4 := xf.frozen 4
            have xa0 := xa.cell 0 rfl
            have xaz0 := xa.frozen 0
            have xa1 := xa.cell 1 rfl
            have xaz1 := xa.frozen 1
            have xa2 := xa.cell 2 rfl
            have xaz2 := xa.frozen 2
            have xa3 := xa.cell 3 rfl
            have xaz3 := xa.frozen 3
            go_wp2_with fail
            refine (TS.out _).mono ?_
            rintro e V6 ⟨rfl, hk⟩
            clear xf0 xfz0 xf1 xfz1 xf2 xfz2 xf3 xfz3 xf4 xfz4 xa0 xaz0 xa1 xaz1 xa2 xaz2 xa3 xaz3
            replace hB := below_seq hB hk
            replace xf := xf.seq hk
            replace xa := xa.seq hk
            clear hk
            have xf0 := xf.cell 0 rfl
            have xfz0 := xf.frozen 0
            have xf1 := xf.cell 1 rfl
            have xfz1 := xf.frozen 1
            have xf2 := xf.cell 2 rfl
            have xfz2 := xf.frozen 2
            have xf3 := xf.cell 3 rfl
            have xfz3 := xf.frozen 3
            have xf4 := xf.cell 4 rfl
            have xfz4 := xf.frozen 4
            have xa0 := xa.cell 0 rfl
            have xaz0 := xa.frozen 0
            have xa1 := xa.cell 1 rfl
            have xaz1 := xa.frozen 1
            have xa2 := xa.cell 2 rfl
            have xaz2 := xa.frozen 2
            have xa3 := xa.cell 3 rfl
            have xaz3 := xa.frozen 3
            go_wp2_with fail
            refine (TR2.out _).mono ?_
            rintro e V7 ⟨rfl, hk⟩
            clear xf0 xfz0 xf1 xfz1 xf2 xfz2 xf3 xfz3 xf4 xfz4 xa0 xaz0 xa1 xaz1 xa2 xaz2 xa3 xaz3
            replace hB := below_seq hB hk
            replace xf := xf.seq hk
            replace xa := xa.seq hk
            clear hk
            have xb := Box.new 35 V7 [.int .i64 0, .int .u64 (g : Int), .int .u64 (q : Int), .int .u64 (d : Int)]
            have ne_xb_xf : V7.heap.size ≠ W.heap.size := Nat.ne_of_gt xf.lt
            have ne_xb_xa : V7.heap.size ≠ V3.heap.size := Nat.ne_of_gt xa.lt
            have le_xb : W.heap.size ≤ V7.heap.size := hB.size
            replace xf := xf.alloc (.cells #[.int .i64 0, .int .u64 (g : Int), .int .u64 (q : Int), .int .u64 (d : Int)] 35)
            replace xa := xa.alloc (.cells #[.int .i64 0, .int .u64 (g : Int), .int .u64 (q : Int), .int .u64 (d : Int)] 35)
            replace hB := hB.alloc hB.size (.cells #[.int .i64 0, .int .u64 (g : Int), .int .u64 (q : Int), .int .u64 (d : Int)] 35)
            have xf0 := xf.cell 0 rfl
            have xfz0 := xf.frozen 0
            have xf1 := xf.cell 1 rfl
            have xfz1 := xf.frozen 1
            have xf2 := xf.cell 2 rfl
            have xfz2 := xf.frozen 2
            have xf3 := xf.cell 3 rfl
            have xfz3 := xf.frozen 3
            have xf4 := xf.cell 4 rfl
            have xfz4 := xf.frozen 4
            have xa0 := xa.cell 0 rfl
            have xaz0 := xa.frozen 0
            have xa1 := xa.cell 1 rfl
            have xaz1 := xa.frozen 1
            have xa2 := xa.cell 2 rfl
            have xaz2 := xa.frozen 2
            have xa3 := xa.cell 3 rfl
            have xaz3 := xa.frozen 3
            have xb0 := xb.cell 0 rfl
            have xbz0 := xb.frozen 0
            have xb1 := xb.cell 1 rfl
            have xbz1 := xb.frozen 1
            have xb2 := xb.cell 2 rfl
            have xbz2 := xb.frozen 2
            have xb3 := xb.cell 3 rfl
            have xbz3 := xb.frozen 3
            go_wp2
            go_ret
            exact ⟨rfl, hB⟩
          · have c2 : soundB s = false := by cases h : soundB s with | false => rfl | true => exact absurd h c1
            rw [c2] at TS
            clear c2
            clear hk hb hps he hup hgo c1 z0 z1 hs4 hpk hc
            generalize (pickS f).gen = g at *
            generalize (pickS f).seq = q at *
            generalize (pickS f).data = d at *
            generalize genN s = gs at *
            generalize genE s = es at *
            have hB : Below W.heap.size W (W.alloc (.cells #[.string f.b0, .string f.b1, .int .i64 f.e0, .int .i64 f.e1, .int .i64 f.lim] 25)) := ((Below.refl _ _).alloc (Nat.le_refl _) _)
            have xf := (Box.new 25 W [.string f.b0, .string f.b1, .int .i64 f.e0, .int .i64 f.e1, .int .i64 f.lim])
            go_enter Try.func4, Try.ntmps4
            have xf0 := xf.cell 0 rfl
            have xfz0 := xf.frozen 0
            have xf1 := xf.cell 1 rfl
            have xfz1 := xf.frozen 1
            have xf2 := xf.cell 2 rfl
            have xfz2 := xf.frozen 2
            have xf3 := xf.cell 3 rfl
            have xfz3 := xf.frozen 3
            have xf4 := xf.cell 4 rfl
            have xfz4 := xf.frozen 4
            go_wp2_with fail
            refine (TBg.out _).mono ?_
            rintro e V1 ⟨rfl, hk⟩
            clear xf0 xfz0 xf1 xfz1 xf2 xfz2 xf3 xfz3 xf4 xfz4
            replace hB := below_seq hB hk
            replace xf := xf.seq hk
            clear hk
            have xf0 := xf.cell 0 rfl
            have xfz0 := xf.frozen 0
            have xf1 := xf.cell 1 rfl
            have xfz1 := xf.frozen 1
            have xf2 := xf.cell 2 rfl
            have xfz2 := xf.frozen 2
            have xf3 := xf.cell 3 rfl
            have xfz3 := xf.frozen 3
            have xf4 := xf.cell 4 rfl
            have xfz4 := xf.frozen 4
            go_wp2_with fail
            refine (shown10 _).mono ?_
            rintro e V2 ⟨rfl, hk⟩
            clear xf0 xfz0 xf1 xfz1 xf2 xfz2 xf3 xfz3 xf4 xfz4
            replace hB := below_seq hB hk
            replace xf := xf.seq hk
            clear hk
            have xf0 := xf.cell 0 rfl
            have xfz0 := xf.frozen 0
            have xf1 := xf.cell 1 rfl
            have xfz1 := xf.frozen 1
            have xf2 := xf.cell 2 rfl
            have xfz2 := xf.frozen 2
            have xf3 := xf.cell 3 rfl
            have xfz3 := xf.frozen 3
            have xf4 := xf.cell 4 rfl
            have xfz4 := xf.frozen 4
            go_wp2_with fail
            refine (TR.out _).mono ?_
            rintro e V3 ⟨rfl, hk⟩
            clear xf0 xfz0 xf1 xfz1 xf2 xfz2 xf3 xfz3 xf4 xfz4
            replace hB := below_seq hB hk
            replace xf := xf.seq hk
            clear hk
            have xa := Box.new 35 V3 [.int .i64 0, .int .u64 (g : Int), .int .u64 (q : Int), .int .u64 (d : Int)]
            have ne_xa_xf : V3.heap.size ≠ W.heap.size := Nat.ne_of_gt xf.lt
            have le_xa : W.heap.size ≤ V3.heap.size := hB.size
            replace xf := xf.alloc (.cells #[.int .i64 0, .int .u64 (g : Int), .int .u64 (q : Int), .int .u64 (d : Int)] 35)
            replace hB := hB.alloc hB.size (.cells #[.int .i64 0, .int .u64 (g : Int), .int .u64 (q : Int), .int .u64 (d : Int)] 35)
            have xf0 := xf.cell 0 rfl
            have xfz0 := xf.frozen 0
            have xf1 := xf.cell 1 rfl
            have xfz1 := xf.frozen 1
            have xf2 := xf.cell 2 rfl
            have xfz2 := xf.frozen 2
            have xf3 := xf.cell 3 rfl
            have xfz3 := xf.frozen 3
            have xf4 := xf.cell 4 rfl
            have xfz4 := xf.frozen 4
            have xa0 := xa.cell 0 rfl
            have xaz0 := xa.frozen 0
            have xa1 := xa.cell 1 rfl
            have xaz1 := xa.frozen 1
            have xa2 := xa.cell 2 rfl
            have xaz2 := xa.frozen 2
            have xa3 := xa.cell 3 rfl
            have xaz3 := xa.frozen 3
            go_wp2_with fail
            clear xf0 xfz0 xf1 xfz1 xf2 xfz2 xf3 xfz3 xf4 xfz4 xa0 xaz0 xa1 xaz1 xa2 xaz2 xa3 xaz3
            replace xa : Box 35 ((V3.alloc (.cells #[.int .i64 0, .int .u64 (g : Int), .int .u64 (q : Int), .int .u64 (d : Int)] 35)).setCell ⟨W.heap.size, 1, none⟩ (.string s)) (V3.heap.size) [.int .i64 0, .int .u64 (g : Int), .int .u64 (q : Int), .int .u64 (d : Int)] := (xa.other (Ne.symm ne_xa_xf) 1 (.string s))
            replace xf : Box 25 ((V3.alloc (.cells #[.int .i64 0, .int .u64 (g : Int), .int .u64 (q : Int), .int .u64 (d : Int)] 35)).setCell ⟨W.heap.size, 1, none⟩ (.string s)) (W.heap.size) [.string f.b0, .string s, .int .i64 f.e0, .int .i64 f.e1, .int .i64 f.lim] := (xf.set 1 (.string s))
            replace hB : Below W.heap.size W ((V3.alloc (.cells #[.int .i64 0, .int .u64 (g : Int), .int .u64 (q : Int), .int .u64 (d : Int)] 35)).setCell ⟨W.heap.size, 1, none⟩ (.string s)) := (hB.setCell (Nat.le_refl _) _)
            generalize ((V3.alloc (.cells #[.int .i64 0, .int .u64 (g : Int), .int .u64 (q : Int), .int .u64 (d : Int)] 35)).setCell ⟨W.heap.size, 1, none⟩ (.string s)) = V4 at *
            have xf0 := xf.cell 0 rfl
            have xfz0 := xf.frozen 0
            have xf1 := xf.cell 1 rfl
            have xfz1 := xf.frozen 1
            have xf2 := xf.cell 2 rfl
            have xfz2 := xf.frozen 2
            have xf3 := xf.cell 3 rfl
            have xfz3 := xf.frozen 3
            have xf4 := xf.cell 4 rfl
            have xfz4 := xf.frozen 4
            have xa0 := xa.cell 0 rfl
            have xaz0 := xa.frozen 0
            have xa1 := xa.cell 1 rfl
            have xaz1 := xa.frozen 1
            have xa2 := xa.cell 2 rfl
            have xaz2 := xa.frozen 2
            have xa3 := xa.cell 3 rfl
            have xaz3 := xa.frozen 3
            refine (TG.out _).mono ?_
            rintro e V5 ⟨rfl, hk⟩
            clear xf0 xfz0 xf1 xfz1 xf2 xfz2 xf3 xfz3 xf4 xfz4 xa0 xaz0 xa1 xaz1 xa2 xaz2 xa3 xaz3
            replace hB := below_seq hB hk
            replace xf := xf.seq hk
            replace xa := xa.seq hk
            clear hk
            have xf0 := xf.cell 0 rfl
            have xfz0 := xf.frozen 0
            have xf1 := xf.cell 1 rfl
            have xfz1 := xf.frozen 1
            have xf2 := xf.cell 2 rfl
            have xfz2 := xf.frozen 2
            have xf3 := xf.cell 3 rfl
            have xfz3 := xf.frozen 3
            have xf4 := xf.cell 4 rfl
            have xfz4 := xf.frozen 4
            have xa0 := xa.cell 0 rfl
            have xaz0 := xa.frozen 0
            have xa1 := xa.cell 1 rfl
            have xaz1 := xa.frozen 1
            have xa2 := xa.cell 2 rfl
            have xaz2 := xa.frozen 2
            have xa3 := xa.cell 3 rfl
            have xaz3 := xa.frozen 3
            go_wp2_with fail
            refine (TS.out _).mono ?_
            rintro e V6 ⟨rfl, hk⟩
            clear xf0 xfz0 xf1 xfz1 xf2 xfz2 xf3 xfz3 xf4 xfz4 xa0 xaz0 xa1 xaz1 xa2 xaz2 xa3 xaz3
            replace hB := below_seq hB hk
            replace xf := xf.seq hk
            replace xa := xa.seq hk
            clear hk
            have xf0 := xf.cell 0 rfl
            have xfz0 := xf.frozen 0
            have xf1 := xf.cell 1 rfl
            have xfz1 := xf.frozen 1
            have xf2 := xf.cell 2 rfl
            have xfz2 := xf.frozen 2
            have xf3 := xf.cell 3 rfl
            have xfz3 := xf.frozen 3
            have xf4 := xf.cell 4 rfl
            have xfz4 := xf.frozen 4
            have xa0 := xa.cell 0 rfl
            have xaz0 := xa.frozen 0
            have xa1 := xa.cell 1 rfl
            have xaz1 := xa.frozen 1
            have xa2 := xa.cell 2 rfl
            have xaz2 := xa.frozen 2
            have xa3 := xa.cell 3 rfl
            have xaz3 := xa.frozen 3
            go_wp2_with fail
            refine (TR2.out _).mono ?_
            rintro e V7 ⟨rfl, hk⟩
            clear xf0 xfz0 xf1 xfz1 xf2 xfz2 xf3 xfz3 xf4 xfz4 xa0 xaz0 xa1 xaz1 xa2 xaz2 xa3 xaz3
            replace hB := below_seq hB hk
            replace xf := xf.seq hk
            replace xa := xa.seq hk
            clear hk
            have xb := Box.new 35 V7 [.int .i64 0, .int .u64 (g : Int), .int .u64 (q : Int), .int .u64 (d : Int)]
            have ne_xb_xf : V7.heap.size ≠ W.heap.size := Nat.ne_of_gt xf.lt
            have ne_xb_xa : V7.heap.size ≠ V3.heap.size := Nat.ne_of_gt xa.lt
            have le_xb : W.heap.size ≤ V7.heap.size := hB.size
            replace xf := xf.alloc (.cells #[.int .i64 0, .int .u64 (g : Int), .int .u64 (q : Int), .int .u64 (d : Int)] 35)
            replace xa := xa.alloc (.cells #[.int .i64 0, .int .u64 (g : Int), .int .u64 (q : Int), .int .u64 (d : Int)] 35)
            replace hB := hB.alloc hB.size (.cells #[.int .i64 0, .int .u64 (g : Int), .int .u64 (q : Int), .int .u64 (d : Int)] 35)
            have xf0 := xf.cell 0 rfl
            have xfz0 := xf.frozen 0
            have xf1 := xf.cell 1 rfl
            have xfz1 := xf.frozen 1
            have xf2 := xf.cell 2 rfl
            have xfz2 := xf.frozen 2
            have xf3 := xf.cell 3 rfl
            have xfz3 := xf.frozen 3
            have xf4 := xf.cell 4 rfl
            have xfz4 := xf.frozen 4
            have xa0 := xa.cell 0 rfl
            have xaz0 := xa.frozen 0
            have xa1 := xa.cell 1 rfl
            have xaz1 := xa.frozen 1
            have xa2 := xa.cell 2 rfl
            have xaz2 := xa.frozen 2
            have xa3 := xa.cell 3 rfl
            have xaz3 := xa.frozen 3
            have xb0 := xb.cell 0 rfl
            have xbz0 := xb.frozen 0
            have xb1 := xb.cell 1 rfl
            have xbz1 := xb.frozen 1
            have xb2 := xb.cell 2 rfl
            have xbz2 := xb.frozen 2
            have xb3 := xb.cell 3 rfl
            have xbz3 := xb.frozen 3
            go_wp2
            go_ret
            exact ⟨rfl, hB⟩
      · have he : pickE f = 10 := if_pos (by omega)
        have hps := pickS_none (f := f) (by omega)
        have TR := Lib.hid (fun (V : World) => (show Calls Try.prog 12 #[.agg #[.string f.b0, .string f.b1, .int .i64 f.e0, .int .i64 f.e1, .int .i64 f.lim]] V fun e W' => e = .returned (.tuple #[.agg #[.int .i64 0, .int .u64 0, .int .u64 0, .int .u64 0], .int .i64 10]) ∧ Below V.heap.size V W' from by have h := own10Read f V hf; rwa [he, hps] at h))
        have TK := Lib.hid (fun (V : World) => (show Calls Try.prog 9 #[.agg #[.string f.b0, .string f.b1, .int .i64 f.e0, .int .i64 f.e1, .int .i64 f.lim]] V fun e W' => e = .returned (.int .i64 (-1)) ∧ Below V.heap.size V W' from by have h := own10Bank f V hf; rwa [hk] at h))
        clear hk he hps z0 z1 hs4 TG TS
        have hB : Below W.heap.size W (W.alloc (.cells #[.string f.b0, .string f.b1, .int .i64 f.e0, .int .i64 f.e1, .int .i64 f.lim] 25)) := ((Below.refl _ _).alloc (Nat.le_refl _) _)
        have xf := (Box.new 25 W [.string f.b0, .string f.b1, .int .i64 f.e0, .int .i64 f.e1, .int .i64 f.lim])
        go_enter Try.func4, Try.ntmps4
        have xf0 := xf.cell 0 rfl
        have xfz0 := xf.frozen 0
        have xf1 := xf.cell 1 rfl
        have xfz1 := xf.frozen 1
        have xf2 := xf.cell 2 rfl
        have xfz2 := xf.frozen 2
        have xf3 := xf.cell 3 rfl
        have xfz3 := xf.frozen 3
        have xf4 := xf.cell 4 rfl
        have xfz4 := xf.frozen 4
        go_wp2_with fail
        refine (TBg.out _).mono ?_
        rintro e V1 ⟨rfl, hk⟩
        clear xf0 xfz0 xf1 xfz1 xf2 xfz2 xf3 xfz3 xf4 xfz4
        replace hB := below_seq hB hk
        replace xf := xf.seq hk
        clear hk
        have xf0 := xf.cell 0 rfl
        have xfz0 := xf.frozen 0
        have xf1 := xf.cell 1 rfl
        have xfz1 := xf.frozen 1
        have xf2 := xf.cell 2 rfl
        have xfz2 := xf.frozen 2
        have xf3 := xf.cell 3 rfl
        have xfz3 := xf.frozen 3
        have xf4 := xf.cell 4 rfl
        have xfz4 := xf.frozen 4
        go_wp2_with fail
        refine (shown10 _).mono ?_
        rintro e V2 ⟨rfl, hk⟩
        clear xf0 xfz0 xf1 xfz1 xf2 xfz2 xf3 xfz3 xf4 xfz4
        replace hB := below_seq hB hk
        replace xf := xf.seq hk
        clear hk
        have xf0 := xf.cell 0 rfl
        have xfz0 := xf.frozen 0
        have xf1 := xf.cell 1 rfl
        have xfz1 := xf.frozen 1
        have xf2 := xf.cell 2 rfl
        have xfz2 := xf.frozen 2
        have xf3 := xf.cell 3 rfl
        have xfz3 := xf.frozen 3
        have xf4 := xf.cell 4 rfl
        have xfz4 := xf.frozen 4
        go_wp2_with fail
        refine (TR.out _).mono ?_
        rintro e V3 ⟨rfl, hk⟩
        clear xf0 xfz0 xf1 xfz1 xf2 xfz2 xf3 xfz3 xf4 xfz4
        replace hB := below_seq hB hk
        replace xf := xf.seq hk
        clear hk
        have xa := Box.new 35 V3 [.int .i64 0, .int .u64 0, .int .u64 0, .int .u64 0]
        have ne_xa_xf : V3.heap.size ≠ W.heap.size := Nat.ne_of_gt xf.lt
        have le_xa : W.heap.size ≤ V3.heap.size := hB.size
        replace xf := xf.alloc (.cells #[.int .i64 0, .int .u64 0, .int .u64 0, .int .u64 0] 35)
        replace hB := hB.alloc hB.size (.cells #[.int .i64 0, .int .u64 0, .int .u64 0, .int .u64 0] 35)
        have xf0 := xf.cell 0 rfl
        have xfz0 := xf.frozen 0
        have xf1 := xf.cell 1 rfl
        have xfz1 := xf.frozen 1
        have xf2 := xf.cell 2 rfl
        have xfz2 := xf.frozen 2
        have xf3 := xf.cell 3 rfl
        have xfz3 := xf.frozen 3
        have xf4 := xf.cell 4 rfl
        have xfz4 := xf.frozen 4
        have xa0 := xa.cell 0 rfl
        have xaz0 := xa.frozen 0
        have xa1 := xa.cell 1 rfl
        have xaz1 := xa.frozen 1
        have xa2 := xa.cell 2 rfl
        have xaz2 := xa.frozen 2
        have xa3 := xa.cell 3 rfl
        have xaz3 := xa.frozen 3
        go_wp2_with fail
        refine (TK.out _).mono ?_
        rintro e V4 ⟨rfl, hk⟩
        clear xf0 xfz0 xf1 xfz1 xf2 xfz2 xf3 xfz3 xf4 xfz4 xa0 xaz0 xa1 xaz1 xa2 xaz2 xa3 xaz3
        replace hB := below_seq hB hk
        replace xf := xf.seq hk
        replace xa := xa.seq hk
        clear hk
        have xf0 := xf.cell 0 rfl
        have xfz0 := xf.frozen 0
        have xf1 := xf.cell 1 rfl
        have xfz1 := xf.frozen 1
        have xf2 := xf.cell 2 rfl
        have xfz2 := xf.frozen 2
        have xf3 := xf.cell 3 rfl
        have xfz3 := xf.frozen 3
        have xf4 := xf.cell 4 rfl
        have xfz4 := xf.frozen 4
        have xa0 := xa.cell 0 rfl
        have xaz0 := xa.frozen 0
        have xa1 := xa.cell 1 rfl
        have xaz1 := xa.frozen 1
        have xa2 := xa.cell 2 rfl
        have xaz2 := xa.frozen 2
        have xa3 := xa.cell 3 rfl
        have xaz3 := xa.frozen 3
        go_wp2
        go_ret
        exact ⟨rfl, hB⟩

theorem own : ownKnob Try.prog.godebug = none := by kernel_rfl

set_option maxRecDepth 100000 in
theorem lifted (os : Os) (started : os.Started) (H : Type) (enc : TypeId × Value → H) :
    ReturnsInHanded {} Try.checked os 4 .any (Rows.pickOtherSpec.pre6 enc Try.prog Try.f4 Rows.pickOtherRow.domain false) (Rows.pickOtherSpec.post enc Try.prog Try.f4 false true false false) := by
  refine returnsInHanded_of_change (C := Try.checked) own started (by kernel_rfl) Try.func4
    (ChangeSpec.witness6 (enc := enc) (C := Try.checked) false ⟨#[], #[.agg #[.string ⟨#[]⟩, .string ⟨#[]⟩, .int .i64 0, .int .i64 0, .int .i64 0], .string ⟨#[]⟩], []⟩ 8 (by kernel_rfl) (by kernel_rfl) (by kernel_rfl) (by kernel_rfl)) ?_
  intro W base args ds gs before hval hW _ _
  have hW' := hW
  obtain ⟨p, q, hA0, hV, rfl, hfz, hnd⟩ := hW
  have hA : DataW.TrodAll enc Try.prog W 0 (fun _ => true) true Try.f4.params.toList args.toList ds p := hA0
  rw [Try.params4] at hA hval
  obtain ⟨v0, vs0, d0, ds0, p0, q0, hargs, rfl, rfl, h0, r0⟩ := trodAll_cons hA
  obtain ⟨v1, vs1, d1, ds1, p1, q1, rfl, rfl, rfl, h1, r1⟩ := trodAll_cons r0
  obtain ⟨rfl, rfl, rfl⟩ := trodAll_nil r1
  obtain rfl : args = #[v0, v1] := by cases args; simp_all
  obtain ⟨rfl, rfl⟩ := trodVars_none hV
  have k0 := h0
  obtain ⟨s0, rfl, hs0⟩ := open_fl (hval 0 25 v0 rfl rfl) h0
  obtain ⟨s1, rfl, rfl, rfl, hs1⟩ := open_string Try.underlying9 (hval 1 9 v1 rfl rfl) h1
  clear hA0
  simp only [List.append_nil] at hW'
  refine (walk s0 s1 W hs0 hs1).mono fun e W' ⟨he, hB⟩ => ?_
  subst he
  exact ⟨_, rfl, ⟨_, _, _, [], _, [], hW', trodAll_cons_mk (shut_bool Try.underlying4 _) trodAll_mk0, (trodAll_cons_mk (Below.trod Try.laidOut (by kernel_rfl) (of_decide_eq_true (by kernel_rfl)) k0 hB (fun x hx => by simpa using hW'.lt x (by simp [hx]))) (trodAll_cons_mk (shut_string Try.underlying9 hs1) trodAll_mk0)), rfl, hB.frame _, fun h => by cases h⟩⟩

theorem holds : Rows.PickOtherSaid :=
  OpenClaim.holds_of_wide 4 Try.f4 rfl rfl rfl rfl rfl rfl rfl ⟨rfl, rfl, rfl, rfl, rfl⟩ rfl rfl rfl rfl rfl (by kernel_rfl) Try.func4 (by kernel_rfl)
    (of_decide_eq_true (by kernel_rfl)) (by unfold Func.isWrapper; first | (rw [if_pos (by decide +kernel)]; kernel_rfl) | (rw [if_neg (by decide +kernel)]; exact ⟨rfl, rfl⟩))
    (fun os started H enc _ => lifted os started H enc)
end Go.Proofs.Ytejhbamlnkhfcaa.PickOther

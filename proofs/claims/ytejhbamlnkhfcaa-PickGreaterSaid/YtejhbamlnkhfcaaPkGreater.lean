/- The bank that counts is sound, and no other one that is sound has a greater generation (PickGreater); no condition. -/
import Derived.Test.YtejhbamlnkhfcaaPickLaw
import Derived.Deep.RegionHeld3
import Derived.WalkLawsBesides
import Derived.WalkSpells
import Derived.IntWalk
import Derived.Lib.Hide
import Derived.Test.YtejhbamlnkhfcaaBox
import Derived.ProofKit
import Derived.OpenShut
import Derived.ChangeMaps5
import Derived.Test.YtejhbamlnkhfcaaInts
namespace Go.Proofs.Ytejhbamlnkhfcaa.PickGreater
open Go.ChangeShapes Go.WideShapes Go.ChangeAt Go.RowKit Go.ChangeMaps
set_option linter.unusedVariables false
set_option linter.unusedSimpArgs false

set_option maxRecDepth 100000 in
set_option maxHeartbeats 8000000 in
theorem walk (f : Fl) (W : World) (hf : f.ok) :
    Calls Try.prog 3 #[.agg #[.string f.b0, .string f.b1, .int .i64 f.e0, .int .i64 f.e1, .int .i64 f.lim]] W fun e W' => e = .returned (.bool true) ∧ Below W.heap.size W W' := by
  by_cases hbig : big10 f = true
  · have TBg := Lib.hid (fun (V : World) => (show Calls Try.prog 7 #[.agg #[.string f.b0, .string f.b1, .int .i64 f.e0, .int .i64 f.e1, .int .i64 f.lim]] V fun e W' => e = .returned (.bool true) ∧ Below V.heap.size V W' from by have h := law10Big f V; rwa [hbig] at h))
    clear hbig
    have hB : Below W.heap.size W (W.alloc (.cells #[.string f.b0, .string f.b1, .int .i64 f.e0, .int .i64 f.e1, .int .i64 f.lim] 25)) := ((Below.refl _ _).alloc (Nat.le_refl _) _)
    have xf := (Box.new 25 W [.string f.b0, .string f.b1, .int .i64 f.e0, .int .i64 f.e1, .int .i64 f.lim])
    go_enter Try.func3, Try.ntmps3
    have xf0 := xf.cell 0 rfl
    have xfz0 := xf.frozen 0
    have xf1 := xf.cell 1 rfl
    have xfz1 := xf.frozen 1
    have xf2 := xf.cell 2 rfl
    have xfz2 := xf.frozen 2
    have xf3 := xf.cell 3 rfl
    have xfz3 := xf.frozen 3
    have xf4 := xf.cell 4 rfl
    have xfz4 := xf.frozen 4
    go_wp2_with fail
    refine (TBg.out _).mono ?_
    rintro e V1 ⟨rfl, hk⟩
    clear xf0 xfz0 xf1 xfz1 xf2 xfz2 xf3 xfz3 xf4 xfz4
    replace hB := below_seq hB hk
    replace xf := xf.seq hk
    clear hk
    have xf0 := xf.cell 0 rfl
    have xfz0 := xf.frozen 0
    have xf1 := xf.cell 1 rfl
    have xfz1 := xf.frozen 1
    have xf2 := xf.cell 2 rfl
    have xfz2 := xf.frozen 2
    have xf3 := xf.cell 3 rfl
    have xfz3 := xf.frozen 3
    have xf4 := xf.cell 4 rfl
    have xfz4 := xf.frozen 4
    go_wp2_with fail
    refine (shown10 _).mono ?_
    rintro e V2 ⟨rfl, hk⟩
    clear xf0 xfz0 xf1 xfz1 xf2 xfz2 xf3 xfz3 xf4 xfz4
    replace hB := below_seq hB hk
    replace xf := xf.seq hk
    clear hk
    have xf0 := xf.cell 0 rfl
    have xfz0 := xf.frozen 0
    have xf1 := xf.cell 1 rfl
    have xfz1 := xf.frozen 1
    have xf2 := xf.cell 2 rfl
    have xfz2 := xf.frozen 2
    have xf3 := xf.cell 3 rfl
    have xfz3 := xf.frozen 3
    have xf4 := xf.cell 4 rfl
    have xfz4 := xf.frozen 4
    go_wp2
    go_ret
    exact ⟨rfl, hB⟩
  · have hbig2 : big10 f = false := by cases h : big10 f with | false => rfl | true => exact absurd h hbig
    have TBg := Lib.hid (fun (V : World) => (show Calls Try.prog 7 #[.agg #[.string f.b0, .string f.b1, .int .i64 f.e0, .int .i64 f.e1, .int .i64 f.lim]] V fun e W' => e = .returned (.bool false) ∧ Below V.heap.size V W' from by have h := law10Big f V; rwa [hbig2] at h))
    obtain ⟨z0, z1⟩ := big10_no hbig2
    clear hbig hbig2
    rcases bankK_cases f with hk | hk | hk
    · have TK := Lib.hid (fun (V : World) => (show Calls Try.prog 9 #[.agg #[.string f.b0, .string f.b1, .int .i64 f.e0, .int .i64 f.e1, .int .i64 f.lim]] V fun e W' => e = .returned (.int .i64 (1)) ∧ Below V.heap.size V W' from by have h := own10Bank f V hf; rwa [hk] at h))
      have hs := bankK_sound (f := f) (by omega)
      rw [hk] at hs
      rw [show f.bank 1 = f.b1 from rfl, show f.bank (1 - 1) = f.b0 from rfl] at hs
      have TSk := Lib.hid (fun (V : World) => (show Calls Try.prog 10 #[.string f.b1] V fun e W' => e = .returned (.bool true) ∧ Below V.heap.size V W' from by have h := ref09Sound f.b1 V hf.s1; rwa [hs.1] at h))
      have TSo := Lib.hid (fun (V : World) => ref09Sound f.b0 V hf.s0)
      have TGk := Lib.hid (fun (V : World) => ref08Generation f.b1 V hf.s1)
      have TGo := Lib.hid (fun (V : World) => ref08Generation f.b0 V hf.s0)
      obtain ⟨_, hs2⟩ := hs
      clear hk z0 z1
      generalize genN f.b1 = x at *
      generalize genN f.b0 = y at *
      generalize genE f.b1 = ex at *
      generalize genE f.b0 = ey at *
      generalize soundB f.b0 = b at *
      cases b
      · clear hs2
        have hB : Below W.heap.size W (W.alloc (.cells #[.string f.b0, .string f.b1, .int .i64 f.e0, .int .i64 f.e1, .int .i64 f.lim] 25)) := ((Below.refl _ _).alloc (Nat.le_refl _) _)
        have xf := (Box.new 25 W [.string f.b0, .string f.b1, .int .i64 f.e0, .int .i64 f.e1, .int .i64 f.lim])
        go_enter Try.func3, Try.ntmps3
        have xf0 := xf.cell 0 rfl
        have xfz0 := xf.frozen 0
        have xf1 := xf.cell 1 rfl
        have xfz1 := xf.frozen 1
        have xf2 := xf.cell 2 rfl
        have xfz2 := xf.frozen 2
        have xf3 := xf.cell 3 rfl
        have xfz3 := xf.frozen 3
        have xf4 := xf.cell 4 rfl
        have xfz4 := xf.frozen 4
        go_wp2_with fail
        refine (TBg.out _).mono ?_
        rintro e V1 ⟨rfl, hk⟩
        clear xf0 xfz0 xf1 xfz1 xf2 xfz2 xf3 xfz3 xf4 xfz4
        replace hB := below_seq hB hk
        replace xf := xf.seq hk
        clear hk
        have xf0 := xf.cell 0 rfl
        have xfz0 := xf.frozen 0
        have xf1 := xf.cell 1 rfl
        have xfz1 := xf.frozen 1
        have xf2 := xf.cell 2 rfl
        have xfz2 := xf.frozen 2
        have xf3 := xf.cell 3 rfl
        have xfz3 := xf.frozen 3
        have xf4 := xf.cell 4 rfl
        have xfz4 := xf.frozen 4
        go_wp2_with fail
        refine (shown10 _).mono ?_
        rintro e V2 ⟨rfl, hk⟩
        clear xf0 xfz0 xf1 xfz1 xf2 xfz2 xf3 xfz3 xf4 xfz4
        replace hB := below_seq hB hk
        replace xf := xf.seq hk
        clear hk
        have xf0 := xf.cell 0 rfl
        have xfz0 := xf.frozen 0
        have xf1 := xf.cell 1 rfl
        have xfz1 := xf.frozen 1
        have xf2 := xf.cell 2 rfl
        have xfz2 := xf.frozen 2
        have xf3 := xf.cell 3 rfl
        have xfz3 := xf.frozen 3
        have xf4 := xf.cell 4 rfl
        have xfz4 := xf.frozen 4
        go_wp2_with fail
        refine (TK.out _).mono ?_
        rintro e V3 ⟨rfl, hk⟩
        clear xf0 xfz0 xf1 xfz1 xf2 xfz2 xf3 xfz3 xf4 xfz4
        replace hB := below_seq hB hk
        replace xf := xf.seq hk
        clear hk
        have xf0 := xf.cell 0 rfl
        have xfz0 := xf.frozen 0
        have xf1 := xf.cell 1 rfl
        have xfz1 := xf.frozen 1
        have xf2 := xf.cell 2 rfl
        have xfz2 := xf.frozen 2
        have xf3 := xf.cell 3 rfl
        have xfz3 := xf.frozen 3
        have xf4 := xf.cell 4 rfl
        have xfz4 := xf.frozen 4
        go_wp2_with fail
        refine (TSk.out _).mono ?_
        rintro e V4 ⟨rfl, hk⟩
        clear xf0 xfz0 xf1 xfz1 xf2 xfz2 xf3 xfz3 xf4 xfz4
        replace hB := below_seq hB hk
        replace xf := xf.seq hk
        clear hk
        have xf0 := xf.cell 0 rfl
        have xfz0 := xf.frozen 0
        have xf1 := xf.cell 1 rfl
        have xfz1 := xf.frozen 1
        have xf2 := xf.cell 2 rfl
        have xfz2 := xf.frozen 2
        have xf3 := xf.cell 3 rfl
        have xfz3 := xf.frozen 3
        have xf4 := xf.cell 4 rfl
        have xfz4 := xf.frozen 4
        go_wp2_with fail
        refine (TGk.out _).mono ?_
        rintro e V5 ⟨rfl, hk⟩
        clear xf0 xfz0 xf1 xfz1 xf2 xfz2 xf3 xfz3 xf4 xfz4
        replace hB := below_seq hB hk
        replace xf := xf.seq hk
        clear hk
        have xf0 := xf.cell 0 rfl
        have xfz0 := xf.frozen 0
        have xf1 := xf.cell 1 rfl
        have xfz1 := xf.frozen 1
        have xf2 := xf.cell 2 rfl
        have xfz2 := xf.frozen 2
        have xf3 := xf.cell 3 rfl
        have xfz3 := xf.frozen 3
        have xf4 := xf.cell 4 rfl
        have xfz4 := xf.frozen 4
        go_wp2_with fail
        refine (TGo.out _).mono ?_
        rintro e V6 ⟨rfl, hk⟩
        clear xf0 xfz0 xf1 xfz1 xf2 xfz2 xf3 xfz3 xf4 xfz4
        replace hB := below_seq hB hk
        replace xf := xf.seq hk
        clear hk
        have xf0 := xf.cell 0 rfl
        have xfz0 := xf.frozen 0
        have xf1 := xf.cell 1 rfl
        have xfz1 := xf.frozen 1
        have xf2 := xf.cell 2 rfl
        have xfz2 := xf.frozen 2
        have xf3 := xf.cell 3 rfl
        have xfz3 := xf.frozen 3
        have xf4 := xf.cell 4 rfl
        have xfz4 := xf.frozen 4
        go_wp2_with fail
        refine (TSo.out _).mono ?_
        rintro e V7 ⟨rfl, hk⟩
        clear xf0 xfz0 xf1 xfz1 xf2 xfz2 xf3 xfz3 xf4 xfz4
        replace hB := below_seq hB hk
        replace xf := xf.seq hk
        clear hk
        have xf0 := xf.cell 0 rfl
        have xfz0 := xf.frozen 0
        have xf1 := xf.cell 1 rfl
        have xfz1 := xf.frozen 1
        have xf2 := xf.cell 2 rfl
        have xfz2 := xf.frozen 2
        have xf3 := xf.cell 3 rfl
        have xfz3 := xf.frozen 3
        have xf4 := xf.cell 4 rfl
        have xfz4 := xf.frozen 4
        go_wp2
        go_ret
        exact ⟨rfl, hB⟩
      · obtain ⟨h1, h2⟩ := hs2 rfl
        by_cases hlt : y < x
        · have m1 : (y : Int) < (x : Int) := by omega
          clear h1 h2 hlt
          have hB : Below W.heap.size W (W.alloc (.cells #[.string f.b0, .string f.b1, .int .i64 f.e0, .int .i64 f.e1, .int .i64 f.lim] 25)) := ((Below.refl _ _).alloc (Nat.le_refl _) _)
          have xf := (Box.new 25 W [.string f.b0, .string f.b1, .int .i64 f.e0, .int .i64 f.e1, .int .i64 f.lim])
          go_enter Try.func3, Try.ntmps3
          have xf0 := xf.cell 0 rfl
          have xfz0 := xf.frozen 0
          have xf1 := xf.cell 1 rfl
          have xfz1 := xf.frozen 1
          have xf2 := xf.cell 2 rfl
          have xfz2 := xf.frozen 2
          have xf3 := xf.cell 3 rfl
          have xfz3 := xf.frozen 3
          have xf4 := xf.cell 4 rfl
          have xfz4 := xf.frozen 4
          go_wp2_with fail
          refine (TBg.out _).mono ?_
          rintro e V1 ⟨rfl, hk⟩
          clear xf0 xfz0 xf1 xfz1 xf2 xfz2 xf3 xfz3 xf4 xfz4
          replace hB := below_seq hB hk
          replace xf := xf.seq hk
          clear hk
          have xf0 := xf.cell 0 rfl
          have xfz0 := xf.frozen 0
          have xf1 := xf.cell 1 rfl
          have xfz1 := xf.frozen 1
          have xf2 := xf.cell 2 rfl
          have xfz2 := xf.frozen 2
          have xf3 := xf.cell 3 rfl
          have xfz3 := xf.frozen 3
          have xf4 := xf.cell 4 rfl
          have xfz4 := xf.frozen 4
          go_wp2_with fail
          refine (shown10 _).mono ?_
          rintro e V2 ⟨rfl, hk⟩
          clear xf0 xfz0 xf1 xfz1 xf2 xfz2 xf3 xfz3 xf4 xfz4
          replace hB := below_seq hB hk
          replace xf := xf.seq hk
          clear hk
          have xf0 := xf.cell 0 rfl
          have xfz0 := xf.frozen 0
          have xf1 := xf.cell 1 rfl
          have xfz1 := xf.frozen 1
          have xf2 := xf.cell 2 rfl
          have xfz2 := xf.frozen 2
          have xf3 := xf.cell 3 rfl
          have xfz3 := xf.frozen 3
          have xf4 := xf.cell 4 rfl
          have xfz4 := xf.frozen 4
          go_wp2_with fail
          refine (TK.out _).mono ?_
          rintro e V3 ⟨rfl, hk⟩
          clear xf0 xfz0 xf1 xfz1 xf2 xfz2 xf3 xfz3 xf4 xfz4
          replace hB := below_seq hB hk
          replace xf := xf.seq hk
          clear hk
          have xf0 := xf.cell 0 rfl
          have xfz0 := xf.frozen 0
          have xf1 := xf.cell 1 rfl
          have xfz1 := xf.frozen 1
          have xf2 := xf.cell 2 rfl
          have xfz2 := xf.frozen 2
          have xf3 := xf.cell 3 rfl
          have xfz3 := xf.frozen 3
          have xf4 := xf.cell 4 rfl
          have xfz4 := xf.frozen 4
          go_wp2_with fail
          refine (TSk.out _).mono ?_
          rintro e V4 ⟨rfl, hk⟩
          clear xf0 xfz0 xf1 xfz1 xf2 xfz2 xf3 xfz3 xf4 xfz4
          replace hB := below_seq hB hk
          replace xf := xf.seq hk
          clear hk
          have xf0 := xf.cell 0 rfl
          have xfz0 := xf.frozen 0
          have xf1 := xf.cell 1 rfl
          have xfz1 := xf.frozen 1
          have xf2 := xf.cell 2 rfl
          have xfz2 := xf.frozen 2
          have xf3 := xf.cell 3 rfl
          have xfz3 := xf.frozen 3
          have xf4 := xf.cell 4 rfl
          have xfz4 := xf.frozen 4
          go_wp2_with fail
          refine (TGk.out _).mono ?_
          rintro e V5 ⟨rfl, hk⟩
          clear xf0 xfz0 xf1 xfz1 xf2 xfz2 xf3 xfz3 xf4 xfz4
          replace hB := below_seq hB hk
          replace xf := xf.seq hk
          clear hk
          have xf0 := xf.cell 0 rfl
          have xfz0 := xf.frozen 0
          have xf1 := xf.cell 1 rfl
          have xfz1 := xf.frozen 1
          have xf2 := xf.cell 2 rfl
          have xfz2 := xf.frozen 2
          have xf3 := xf.cell 3 rfl
          have xfz3 := xf.frozen 3
          have xf4 := xf.cell 4 rfl
          have xfz4 := xf.frozen 4
          go_wp2_with fail
          refine (TGo.out _).mono ?_
          rintro e V6 ⟨rfl, hk⟩
          clear xf0 xfz0 xf1 xfz1 xf2 xfz2 xf3 xfz3 xf4 xfz4
          replace hB := below_seq hB hk
          replace xf := xf.seq hk
          clear hk
          have xf0 := xf.cell 0 rfl
          have xfz0 := xf.frozen 0
          have xf1 := xf.cell 1 rfl
          have xfz1 := xf.frozen 1
          have xf2 := xf.cell 2 rfl
          have xfz2 := xf.frozen 2
          have xf3 := xf.cell 3 rfl
          have xfz3 := xf.frozen 3
          have xf4 := xf.cell 4 rfl
          have xfz4 := xf.frozen 4
          go_wp2_with fail
          refine (TSo.out _).mono ?_
          rintro e V7 ⟨rfl, hk⟩
          clear xf0 xfz0 xf1 xfz1 xf2 xfz2 xf3 xfz3 xf4 xfz4
          replace hB := below_seq hB hk
          replace xf := xf.seq hk
          clear hk
          have xf0 := xf.cell 0 rfl
          have xfz0 := xf.frozen 0
          have xf1 := xf.cell 1 rfl
          have xfz1 := xf.frozen 1
          have xf2 := xf.cell 2 rfl
          have xfz2 := xf.frozen 2
          have xf3 := xf.cell 3 rfl
          have xfz3 := xf.frozen 3
          have xf4 := xf.cell 4 rfl
          have xfz4 := xf.frozen 4
          go_wp2
          go_ret
          exact ⟨rfl, hB⟩
        · exact absurd (h2 (by omega)) (by decide)
    · have TK := Lib.hid (fun (V : World) => (show Calls Try.prog 9 #[.agg #[.string f.b0, .string f.b1, .int .i64 f.e0, .int .i64 f.e1, .int .i64 f.lim]] V fun e W' => e = .returned (.int .i64 (0)) ∧ Below V.heap.size V W' from by have h := own10Bank f V hf; rwa [hk] at h))
      have hs := bankK_sound (f := f) (by omega)
      rw [hk] at hs
      rw [show f.bank 0 = f.b0 from rfl, show f.bank (1 - 0) = f.b1 from rfl] at hs
      have TSk := Lib.hid (fun (V : World) => (show Calls Try.prog 10 #[.string f.b0] V fun e W' => e = .returned (.bool true) ∧ Below V.heap.size V W' from by have h := ref09Sound f.b0 V hf.s0; rwa [hs.1] at h))
      have TSo := Lib.hid (fun (V : World) => ref09Sound f.b1 V hf.s1)
      have TGk := Lib.hid (fun (V : World) => ref08Generation f.b0 V hf.s0)
      have TGo := Lib.hid (fun (V : World) => ref08Generation f.b1 V hf.s1)
      obtain ⟨_, hs2⟩ := hs
      clear hk z0 z1
      generalize genN f.b0 = x at *
      generalize genN f.b1 = y at *
      generalize genE f.b0 = ex at *
      generalize genE f.b1 = ey at *
      generalize soundB f.b1 = b at *
      cases b
      · clear hs2
        have hB : Below W.heap.size W (W.alloc (.cells #[.string f.b0, .string f.b1, .int .i64 f.e0, .int .i64 f.e1, .int .i64 f.lim] 25)) := ((Below.refl _ _).alloc (Nat.le_refl _) _)
        have xf := (Box.new 25 W [.string f.b0, .string f.b1, .int .i64 f.e0, .int .i64 f.e1, .int .i64 f.lim])
        go_enter Try.func3, Try.ntmps3
        have xf0 := xf.cell 0 rfl
        have xfz0 := xf.frozen 0
        have xf1 := xf.cell 1 rfl
        have xfz1 := xf.frozen 1
        have xf2 := xf.cell 2 rfl
        have xfz2 := xf.frozen 2
        have xf3 := xf.cell 3 rfl
        have xfz3 := xf.frozen 3
        have xf4 := xf.cell 4 rfl
        have xfz4 := xf.frozen 4
        go_wp2_with fail
        refine (TBg.out _).mono ?_
        rintro e V1 ⟨rfl, hk⟩
        clear xf0 xfz0 xf1 xfz1 xf2 xfz2 xf3 xfz3 xf4 xfz4
        replace hB := below_seq hB hk
        replace xf := xf.seq hk
        clear hk
        have xf0 := xf.cell 0 rfl
        have xfz0 := xf.frozen 0
        have xf1 := xf.cell 1 rfl
        have xfz1 := xf.frozen 1
        have xf2 := xf.cell 2 rfl
        have xfz2 := xf.frozen 2
        have xf3 := xf.cell 3 rfl
        have xfz3 := xf.frozen 3
        have xf4 := xf.cell 4 rfl
        have xfz4 := xf.frozen 4
        go_wp2_with fail
        refine (shown10 _).mono ?_
        rintro e V2 ⟨rfl, hk⟩
        clear xf0 xfz0 xf1 xfz1 xf2 xfz2 xf3 xfz3 xf4 xfz4
        replace hB := below_seq hB hk
        replace xf := xf.seq hk
        clear hk
        have xf0 := xf.cell 0 rfl
        have xfz0 := xf.frozen 0
        have xf1 := xf.cell 1 rfl
        have xfz1 := xf.frozen 1
        have xf2 := xf.cell 2 rfl
        have xfz2 := xf.frozen 2
        have xf3 := xf.cell 3 rfl
        have xfz3 := xf.frozen 3
        have xf4 := xf.cell 4 rfl
        have xfz4 := xf.frozen 4
        go_wp2_with fail
        refine (TK.out _).mono ?_
        rintro e V3 ⟨rfl, hk⟩
        clear xf0 xfz0 xf1 xfz1 xf2 xfz2 xf3 xfz3 xf4 xfz4
        replace hB := below_seq hB hk
        replace xf := xf.seq hk
        clear hk
        have xf0 := xf.cell 0 rfl
        have xfz0 := xf.frozen 0
        have xf1 := xf.cell 1 rfl
        have xfz1 := xf.frozen 1
        have xf2 := xf.cell 2 rfl
        have xfz2 := xf.frozen 2
        have xf3 := xf.cell 3 rfl
        have xfz3 := xf.frozen 3
        have xf4 := xf.cell 4 rfl
        have xfz4 := xf.frozen 4
        go_wp2_with fail
        refine (TSk.out _).mono ?_
        rintro e V4 ⟨rfl, hk⟩
        clear xf0 xfz0 xf1 xfz1 xf2 xfz2 xf3 xfz3 xf4 xfz4
        replace hB := below_seq hB hk
        replace xf := xf.seq hk
        clear hk
        have xf0 := xf.cell 0 rfl
        have xfz0 := xf.frozen 0
        have xf1 := xf.cell 1 rfl
        have xfz1 := xf.frozen 1
        have xf2 := xf.cell 2 rfl
        have xfz2 := xf.frozen 2
        have xf3 := xf.cell 3 rfl
        have xfz3 := xf.frozen 3
        have xf4 := xf.cell 4 rfl
        have xfz4 := xf.frozen 4
        go_wp2_with fail
        refine (TGk.out _).mono ?_
        rintro e V5 ⟨rfl, hk⟩
        clear xf0 xfz0 xf1 xfz1 xf2 xfz2 xf3 xfz3 xf4 xfz4
        replace hB := below_seq hB hk
        replace xf := xf.seq hk
        clear hk
        have xf0 := xf.cell 0 rfl
        have xfz0 := xf.frozen 0
        have xf1 := xf.cell 1 rfl
        have xfz1 := xf.frozen 1
        have xf2 := xf.cell 2 rfl
        have xfz2 := xf.frozen 2
        have xf3 := xf.cell 3 rfl
        have xfz3 := xf.frozen 3
        have xf4 := xf.cell 4 rfl
        have xfz4 := xf.frozen 4
        go_wp2_with fail
        refine (TGo.out _).mono ?_
        rintro e V6 ⟨rfl, hk⟩
        clear xf0 xfz0 xf1 xfz1 xf2 xfz2 xf3 xfz3 xf4 xfz4
        replace hB := below_seq hB hk
        replace xf := xf.seq hk
        clear hk
        have xf0 := xf.cell 0 rfl
        have xfz0 := xf.frozen 0
        have xf1 := xf.cell 1 rfl
        have xfz1 := xf.frozen 1
        have xf2 := xf.cell 2 rfl
        have xfz2 := xf.frozen 2
        have xf3 := xf.cell 3 rfl
        have xfz3 := xf.frozen 3
        have xf4 := xf.cell 4 rfl
        have xfz4 := xf.frozen 4
        go_wp2_with fail
        refine (TSo.out _).mono ?_
        rintro e V7 ⟨rfl, hk⟩
        clear xf0 xfz0 xf1 xfz1 xf2 xfz2 xf3 xfz3 xf4 xfz4
        replace hB := below_seq hB hk
        replace xf := xf.seq hk
        clear hk
        have xf0 := xf.cell 0 rfl
        have xfz0 := xf.frozen 0
        have xf1 := xf.cell 1 rfl
        have xfz1 := xf.frozen 1
        have xf2 := xf.cell 2 rfl
        have xfz2 := xf.frozen 2
        have xf3 := xf.cell 3 rfl
        have xfz3 := xf.frozen 3
        have xf4 := xf.cell 4 rfl
        have xfz4 := xf.frozen 4
        go_wp2
        go_ret
        exact ⟨rfl, hB⟩
      · obtain ⟨h1, h2⟩ := hs2 rfl
        by_cases hlt : y < x
        · have m1 : (y : Int) < (x : Int) := by omega
          clear h1 h2 hlt
          have hB : Below W.heap.size W (W.alloc (.cells #[.string f.b0, .string f.b1, .int .i64 f.e0, .int .i64 f.e1, .int .i64 f.lim] 25)) := ((Below.refl _ _).alloc (Nat.le_refl _) _)
          have xf := (Box.new 25 W [.string f.b0, .string f.b1, .int .i64 f.e0, .int .i64 f.e1, .int .i64 f.lim])
          go_enter Try.func3, Try.ntmps3
          have xf0 := xf.cell 0 rfl
          have xfz0 := xf.frozen 0
          have xf1 := xf.cell 1 rfl
          have xfz1 := xf.frozen 1
          have xf2 := xf.cell 2 rfl
          have xfz2 := xf.frozen 2
          have xf3 := xf.cell 3 rfl
          have xfz3 := xf.frozen 3
          have xf4 := xf.cell 4 rfl
          have xfz4 := xf.frozen 4
          go_wp2_with fail
          refine (TBg.out _).mono ?_
          rintro e V1 ⟨rfl, hk⟩
          clear xf0 xfz0 xf1 xfz1 xf2 xfz2 xf3 xfz3 xf4 xfz4
          replace hB := below_seq hB hk
          replace xf := xf.seq hk
          clear hk
          have xf0 := xf.cell 0 rfl
          have xfz0 := xf.frozen 0
          have xf1 := xf.cell 1 rfl
          have xfz1 := xf.frozen 1
          have xf2 := xf.cell 2 rfl
          have xfz2 := xf.frozen 2
          have xf3 := xf.cell 3 rfl
          have xfz3 := xf.frozen 3
          have xf4 := xf.cell 4 rfl
          have xfz4 := xf.frozen 4
          go_wp2_with fail
          refine (shown10 _).mono ?_
          rintro e V2 ⟨rfl, hk⟩
          clear xf0 xfz0 xf1 xfz1 xf2 xfz2 xf3 xfz3 xf4 xfz4
          replace hB := below_seq hB hk
          replace xf := xf.seq hk
          clear hk
          have xf0 := xf.cell 0 rfl
          have xfz0 := xf.frozen 0
          have xf1 := xf.cell 1 rfl
          have xfz1 := xf.frozen 1
          have xf2 := xf.cell 2 rfl
          have xfz2 := xf.frozen 2
          have xf3 := xf.cell 3 rfl
          have xfz3 := xf.frozen 3
          have xf4 := xf.cell 4 rfl
          have xfz4 := xf.frozen 4
          go_wp2_with fail
          refine (TK.out _).mono ?_
          rintro e V3 ⟨rfl, hk⟩
          clear xf0 xfz0 xf1 xfz1 xf2 xfz2 xf3 xfz3 xf4 xfz4
          replace hB := below_seq hB hk
          replace xf := xf.seq hk
          clear hk
          have xf0 := xf.cell 0 rfl
          have xfz0 := xf.frozen 0
          have xf1 := xf.cell 1 rfl
          have xfz1 := xf.frozen 1
          have xf2 := xf.cell 2 rfl
          have xfz2 := xf.frozen 2
          have xf3 := xf.cell 3 rfl
          have xfz3 := xf.frozen 3
          have xf4 := xf.cell 4 rfl
          have xfz4 := xf.frozen 4
          go_wp2_with fail
          refine (TSk.out _).mono ?_
          rintro e V4 ⟨rfl, hk⟩
          clear xf0 xfz0 xf1 xfz1 xf2 xfz2 xf3 xfz3 xf4 xfz4
          replace hB := below_seq hB hk
          replace xf := xf.seq hk
          clear hk
          have xf0 := xf.cell 0 rfl
          have xfz0 := xf.frozen 0
          have xf1 := xf.cell 1 rfl
          have xfz1 := xf.frozen 1
          have xf2 := xf.cell 2 rfl
          have xfz2 := xf.frozen 2
          have xf3 := xf.cell 3 rfl
          have xfz3 := xf.frozen 3
          have xf4 := xf.cell 4 rfl
          have xfz4 := xf.frozen 4
          go_wp2_with fail
          refine (TGk.out _).mono ?_
          rintro e V5 ⟨rfl, hk⟩
          clear xf0 xfz0 xf1 xfz1 xf2 xfz2 xf3 xfz3 xf4 xfz4
          replace hB := below_seq hB hk
          replace xf := xf.seq hk
          clear hk
          have xf0 := xf.cell 0 rfl
          have xfz0 := xf.frozen 0
          have xf1 := xf.cell 1 rfl
          have xfz1 := xf.frozen 1
          have xf2 := xf.cell 2 rfl
          have xfz2 := xf.frozen 2
          have xf3 := xf.cell 3 rfl
          have xfz3 := xf.frozen 3
          have xf4 := xf.cell 4 rfl
          have xfz4 := xf.frozen 4
          go_wp2_with fail
          refine (TGo.out _).mono ?_
          rintro e V6 ⟨rfl, hk⟩
          clear xf0 xfz0 xf1 xfz1 xf2 xfz2 xf3 xfz3 xf4 xfz4
          replace hB := below_seq hB hk
          replace xf := xf.seq hk
          clear hk
          have xf0 := xf.cell 0 rfl
          have xfz0 := xf.frozen 0
          have xf1 := xf.cell 1 rfl
          have xfz1 := xf.frozen 1
          have xf2 := xf.cell 2 rfl
          have xfz2 := xf.frozen 2
          have xf3 := xf.cell 3 rfl
          have xfz3 := xf.frozen 3
          have xf4 := xf.cell 4 rfl
          have xfz4 := xf.frozen 4
          go_wp2_with fail
          refine (TSo.out _).mono ?_
          rintro e V7 ⟨rfl, hk⟩
          clear xf0 xfz0 xf1 xfz1 xf2 xfz2 xf3 xfz3 xf4 xfz4
          replace hB := below_seq hB hk
          replace xf := xf.seq hk
          clear hk
          have xf0 := xf.cell 0 rfl
          have xfz0 := xf.frozen 0
          have xf1 := xf.cell 1 rfl
          have xfz1 := xf.frozen 1
          have xf2 := xf.cell 2 rfl
          have xfz2 := xf.frozen 2
          have xf3 := xf.cell 3 rfl
          have xfz3 := xf.frozen 3
          have xf4 := xf.cell 4 rfl
          have xfz4 := xf.frozen 4
          go_wp2
          go_ret
          exact ⟨rfl, hB⟩
        · obtain rfl : y = x := by omega
          have m1 : ¬ (y : Int) < (y : Int) := by omega
          have m2 : ((y : Int) == (y : Int)) = true := beq_self_eq_true _
          clear h1 h2 hlt
          have hB : Below W.heap.size W (W.alloc (.cells #[.string f.b0, .string f.b1, .int .i64 f.e0, .int .i64 f.e1, .int .i64 f.lim] 25)) := ((Below.refl _ _).alloc (Nat.le_refl _) _)
          have xf := (Box.new 25 W [.string f.b0, .string f.b1, .int .i64 f.e0, .int .i64 f.e1, .int .i64 f.lim])
          go_enter Try.func3, Try.ntmps3
          have xf0 := xf.cell 0 rfl
          have xfz0 := xf.frozen 0
          have xf1 := xf.cell 1 rfl
          have xfz1 := xf.frozen 1
          have xf2 := xf.cell 2 rfl
          have xfz2 := xf.frozen 2
          have xf3 := xf.cell 3 rfl
          have xfz3 := xf.frozen 3
          have xf4 := xf.cell 4 rfl
          have xfz4 := xf.frozen 4
          go_wp2_with fail
          refine (TBg.out _).mono ?_
          rintro e V1 ⟨rfl, hk⟩
          clear xf0 xfz0 xf1 xfz1 xf2 xfz2 xf3 xfz3 xf4 xfz4
          replace hB := below_seq hB hk
          replace xf := xf.seq hk
          clear hk
          have xf0 := xf.cell 0 rfl
          have xfz0 := xf.frozen 0
          have xf1 := xf.cell 1 rfl
          have xfz1 := xf.frozen 1
          have xf2 := xf.cell 2 rfl
          have xfz2 := xf.frozen 2
          have xf3 := xf.cell 3 rfl
          have xfz3 := xf.frozen 3
          have xf4 := xf.cell 4 rfl
          have xfz4 := xf.frozen 4
          go_wp2_with fail
          refine (shown10 _).mono ?_
          rintro e V2 ⟨rfl, hk⟩
          clear xf0 xfz0 xf1 xfz1 xf2 xfz2 xf3 xfz3 xf4 xfz4
          replace hB := below_seq hB hk
          replace xf := xf.seq hk
          clear hk
          have xf0 := xf.cell 0 rfl
          have xfz0 := xf.frozen 0
          have xf1 := xf.cell 1 rfl
          have xfz1 := xf.frozen 1
          have xf2 := xf.cell 2 rfl
          have xfz2 := xf.frozen 2
          have xf3 := xf.cell 3 rfl
          have xfz3 := xf.frozen 3
          have xf4 := xf.cell 4 rfl
          have xfz4 := xf.frozen 4
          go_wp2_with fail
          refine (TK.out _).mono ?_
          rintro e V3 ⟨rfl, hk⟩
          clear xf0 xfz0 xf1 xfz1 xf2 xfz2 xf3 xfz3 xf4 xfz4
          replace hB := below_seq hB hk
          replace xf := xf.seq hk
          clear hk
          have xf0 := xf.cell 0 rfl
          have xfz0 := xf.frozen 0
          have xf1 := xf.cell 1 rfl
          have xfz1 := xf.frozen 1
          have xf2 := xf.cell 2 rfl
          have xfz2 := xf.frozen 2
          have xf3 := xf.cell 3 rfl
          have xfz3 := xf.frozen 3
          have xf4 := xf.cell 4 rfl
          have xfz4 := xf.frozen 4
          go_wp2_with fail
          refine (TSk.out _).mono ?_
          rintro e V4 ⟨rfl, hk⟩
          clear xf0 xfz0 xf1 xfz1 xf2 xfz2 xf3 xfz3 xf4 xfz4
          replace hB := below_seq hB hk
          replace xf := xf.seq hk
          clear hk
          have xf0 := xf.cell 0 rfl
          have xfz0 := xf.frozen 0
          have xf1 := xf.cell 1 rfl
          have xfz1 := xf.frozen 1
          have xf2 := xf.cell 2 rfl
          have xfz2 := xf.frozen 2
          have xf3 := xf.cell 3 rfl
          have xfz3 := xf.frozen 3
          have xf4 := xf.cell 4 rfl
          have xfz4 := xf.frozen 4
          go_wp2_with fail
          refine (TGk.out _).mono ?_
          rintro e V5 ⟨rfl, hk⟩
          clear xf0 xfz0 xf1 xfz1 xf2 xfz2 xf3 xfz3 xf4 xfz4
          replace hB := below_seq hB hk
          replace xf := xf.seq hk
          clear hk
          have xf0 := xf.cell 0 rfl
          have xfz0 := xf.frozen 0
          have xf1 := xf.cell 1 rfl
          have xfz1 := xf.frozen 1
          have xf2 := xf.cell 2 rfl
          have xfz2 := xf.frozen 2
          have xf3 := xf.cell 3 rfl
          have xfz3 := xf.frozen 3
          have xf4 := xf.cell 4 rfl
          have xfz4 := xf.frozen 4
          go_wp2_with fail
          refine (TGo.out _).mono ?_
          rintro e V6 ⟨rfl, hk⟩
          clear xf0 xfz0 xf1 xfz1 xf2 xfz2 xf3 xfz3 xf4 xfz4
          replace hB := below_seq hB hk
          replace xf := xf.seq hk
          clear hk
          have xf0 := xf.cell 0 rfl
          have xfz0 := xf.frozen 0
          have xf1 := xf.cell 1 rfl
          have xfz1 := xf.frozen 1
          have xf2 := xf.cell 2 rfl
          have xfz2 := xf.frozen 2
          have xf3 := xf.cell 3 rfl
          have xfz3 := xf.frozen 3
          have xf4 := xf.cell 4 rfl
          have xfz4 := xf.frozen 4
          go_wp2_with fail
          refine (TSo.out _).mono ?_
          rintro e V7 ⟨rfl, hk⟩
          clear xf0 xfz0 xf1 xfz1 xf2 xfz2 xf3 xfz3 xf4 xfz4
          replace hB := below_seq hB hk
          replace xf := xf.seq hk
          clear hk
          have xf0 := xf.cell 0 rfl
          have xfz0 := xf.frozen 0
          have xf1 := xf.cell 1 rfl
          have xfz1 := xf.frozen 1
          have xf2 := xf.cell 2 rfl
          have xfz2 := xf.frozen 2
          have xf3 := xf.cell 3 rfl
          have xfz3 := xf.frozen 3
          have xf4 := xf.cell 4 rfl
          have xfz4 := xf.frozen 4
          go_wp2
          go_ret
          exact ⟨rfl, hB⟩
    · have TK := Lib.hid (fun (V : World) => (show Calls Try.prog 9 #[.agg #[.string f.b0, .string f.b1, .int .i64 f.e0, .int .i64 f.e1, .int .i64 f.lim]] V fun e W' => e = .returned (.int .i64 (-1)) ∧ Below V.heap.size V W' from by have h := own10Bank f V hf; rwa [hk] at h))
      have hs := bankG_none.1 (show bankG f.b0 f.b1 < 0 from by have h := hk; unfold bankK at h; omega)
      have TS0 := Lib.hid (fun (V : World) => (show Calls Try.prog 10 #[.string f.b0] V fun e W' => e = .returned (.bool false) ∧ Below V.heap.size V W' from by have h := ref09Sound f.b0 V hf.s0; rwa [hs.1] at h))
      have TS1 := Lib.hid (fun (V : World) => (show Calls Try.prog 10 #[.string f.b1] V fun e W' => e = .returned (.bool false) ∧ Below V.heap.size V W' from by have h := ref09Sound f.b1 V hf.s1; rwa [hs.2] at h))
      clear hk hs z0 z1
      have hB : Below W.heap.size W (W.alloc (.cells #[.string f.b0, .string f.b1, .int .i64 f.e0, .int .i64 f.e1, .int .i64 f.lim] 25)) := ((Below.refl _ _).alloc (Nat.le_refl _) _)
      have xf := (Box.new 25 W [.string f.b0, .string f.b1, .int .i64 f.e0, .int .i64 f.e1, .int .i64 f.lim])
      go_enter Try.func3, Try.ntmps3
      have xf0 := xf.cell 0 rfl
      have xfz0 := xf.frozen 0
      have xf1 := xf.cell 1 rfl
      have xfz1 := xf.frozen 1
      have xf2 := xf.cell 2 rfl
      have xfz2 := xf.frozen 2
      have xf3 := xf.cell 3 rfl
      have xfz3 := xf.frozen 3
      have xf4 := xf.cell 4 rfl
      have xfz4 := xf.frozen 4
      go_wp2_with fail
      refine (TBg.out _).mono ?_
      rintro e V1 ⟨rfl, hk⟩
      clear xf0 xfz0 xf1 xfz1 xf2 xfz2 xf3 xfz3 xf4 xfz4
      replace hB := below_seq hB hk
      replace xf := xf.seq hk
      clear hk
      have xf0 := xf.cell 0 rfl
      have xfz0 := xf.frozen 0
      have xf1 := xf.cell 1 rfl
      have xfz1 := xf.frozen 1
      have xf2 := xf.cell 2 rfl
      have xfz2 := xf.frozen 2
      have xf3 := xf.cell 3 rfl
      have xfz3 := xf.frozen 3
      have xf4 := xf.cell 4 rfl
      have xfz4 := xf.frozen 4
      go_wp2_with fail
      refine (shown10 _).mono ?_
      rintro e V2 ⟨rfl, hk⟩
      clear xf0 xfz0 xf1 xfz1 xf2 xfz2 xf3 xfz3 xf4 xfz4
      replace hB := below_seq hB hk
      replace xf := xf.seq hk
      clear hk
      have xf0 := xf.cell 0 rfl
      have xfz0 := xf.frozen 0
      have xf1 := xf.cell 1 rfl
      have xfz1 := xf.frozen 1
      have xf2 := xf.cell 2 rfl
      have xfz2 := xf.frozen 2
      have xf3 := xf.cell 3 rfl
      have xfz3 := xf.frozen 3
      have xf4 := xf.cell 4 rfl
      have xfz4 := xf.frozen 4
      go_wp2_with fail
      refine (TK.out _).mono ?_
      rintro e V3 ⟨rfl, hk⟩
      clear xf0 xfz0 xf1 xfz1 xf2 xfz2 xf3 xfz3 xf4 xfz4
      replace hB := below_seq hB hk
      replace xf := xf.seq hk
      clear hk
      have xf0 := xf.cell 0 rfl
      have xfz0 := xf.frozen 0
      have xf1 := xf.cell 1 rfl
      have xfz1 := xf.frozen 1
      have xf2 := xf.cell 2 rfl
      have xfz2 := xf.frozen 2
      have xf3 := xf.cell 3 rfl
      have xfz3 := xf.frozen 3
      have xf4 := xf.cell 4 rfl
      have xfz4 := xf.frozen 4
      go_wp2_with fail
      refine (TS0.out _).mono ?_
      rintro e V4 ⟨rfl, hk⟩
      clear xf0 xfz0 xf1 xfz1 xf2 xfz2 xf3 xfz3 xf4 xfz4
      replace hB := below_seq hB hk
      replace xf := xf.seq hk
      clear hk
      have xf0 := xf.cell 0 rfl
      have xfz0 := xf.frozen 0
      have xf1 := xf.cell 1 rfl
      have xfz1 := xf.frozen 1
      have xf2 := xf.cell 2 rfl
      have xfz2 := xf.frozen 2
      have xf3 := xf.cell 3 rfl
      have xfz3 := xf.frozen 3
      have xf4 := xf.cell 4 rfl
      have xfz4 := xf.frozen 4
      go_wp2_with fail
      refine (TS1.out _).mono ?_
      rintro e V5 ⟨rfl, hk⟩
      clear xf0 xfz0 xf1 xfz1 xf2 xfz2 xf3 xfz3 xf4 xfz4
      replace hB := below_seq hB hk
      replace xf := xf.seq hk
      clear hk
      have xf0 := xf.cell 0 rfl
      have xfz0 := xf.frozen 0
      have xf1 := xf.cell 1 rfl
      have xfz1 := xf.frozen 1
      have xf2 := xf.cell 2 rfl
      have xfz2 := xf.frozen 2
      have xf3 := xf.cell 3 rfl
      have xfz3 := xf.frozen 3
      have xf4 := xf.cell 4 rfl
      have xfz4 := xf.frozen 4
      go_wp2
      go_ret
      exact ⟨rfl, hB⟩

theorem own : ownKnob Try.prog.godebug = none := by kernel_rfl

set_option maxRecDepth 100000 in
theorem lifted (os : Os) (started : os.Started) (H : Type) (enc : TypeId × Value → H) :
    ReturnsInHanded {} Try.checked os 3 .any (Rows.pickGreaterSpec.pre6 enc Try.prog Try.f3 Rows.pickGreaterRow.domain false) (Rows.pickGreaterSpec.post enc Try.prog Try.f3 false true false false) := by
  refine returnsInHanded_of_change (C := Try.checked) own started (by kernel_rfl) Try.func3
    (ChangeSpec.witness6 (enc := enc) (C := Try.checked) false ⟨#[], #[.agg #[.string ⟨#[]⟩, .string ⟨#[]⟩, .int .i64 0, .int .i64 0, .int .i64 0]], []⟩ 8 (by kernel_rfl) (by kernel_rfl) (by kernel_rfl) (by kernel_rfl)) ?_
  intro W base args ds gs before hval hW _ _
  have hW' := hW
  obtain ⟨p, q, hA0, hV, rfl, hfz, hnd⟩ := hW
  have hA : DataW.TrodAll enc Try.prog W 0 (fun _ => true) true Try.f3.params.toList args.toList ds p := hA0
  rw [Try.params3] at hA hval
  obtain ⟨v0, vs0, d0, ds0, p0, q0, hargs, rfl, rfl, h0, r0⟩ := trodAll_cons hA
  obtain ⟨rfl, rfl, rfl⟩ := trodAll_nil r0
  obtain rfl : args = #[v0] := by cases args; simp_all
  obtain ⟨rfl, rfl⟩ := trodVars_none hV
  have k0 := h0
  obtain ⟨s0, rfl, hs0⟩ := open_fl (hval 0 25 v0 rfl rfl) h0
  clear hA0
  simp only [List.append_nil] at hW'
  refine (walk s0 W hs0).mono fun e W' ⟨he, hB⟩ => ?_
  subst he
  exact ⟨_, rfl, ⟨_, _, _, [], _, [], hW', trodAll_cons_mk (shut_bool Try.underlying4 _) trodAll_mk0, (trodAll_cons_mk (Below.trod Try.laidOut (by kernel_rfl) (of_decide_eq_true (by kernel_rfl)) k0 hB (fun x hx => by simpa using hW'.lt x (by simp [hx]))) trodAll_mk0), rfl, hB.frame _, fun h => by cases h⟩⟩

theorem holds : Rows.PickGreaterSaid :=
  OpenClaim.holds_of_wide 3 Try.f3 rfl rfl rfl rfl rfl rfl rfl ⟨rfl, rfl, rfl, rfl, rfl⟩ rfl rfl rfl rfl rfl (by kernel_rfl) Try.func3 (by kernel_rfl)
    (of_decide_eq_true (by kernel_rfl)) (by unfold Func.isWrapper; first | (rw [if_pos (by decide +kernel)]; kernel_rfl) | (rw [if_neg (by decide +kernel)]; exact ⟨rfl, rfl⟩))
    (fun os started H enc _ => lifted os started H enc)
end Go.Proofs.Ytejhbamlnkhfcaa.PickGreater

/- The reference's functions of layer 10: contracts only. -/
import Derived.Test.YtiacdcnpkfpjaaaGreatPickPlain
import Derived.Test.YtiacdcnpkfpjaaaGreatScanRef
namespace Go.Proofs.YtiacdcnpkfpjaaaGreat
open Go.RowKit
set_option linter.unusedVariables false
set_option linter.unusedSimpArgs false

set_option maxRecDepth 100000 in
set_option maxHeartbeats 4000000 in
theorem ref10Bank (f : Fl) (W : World) (hf : f.ok) :
    Calls Tryz.prog 19 #[.agg #[.string f.b0, .string f.b1, .int .i64 f.e0, .int .i64 f.e1, .int .i64 f.lim]] W fun e W' => e = .returned (.int .i64 (bankK f)) ∧ Below W.heap.size W W' := by
  have T0 := Lib.hid (fun (V : World) => ref09Sound f.b0 V hf.s0)
  have T1 := Lib.hid (fun (V : World) => ref09Sound f.b1 V hf.s1)
  have G0 := Lib.hid (fun (V : World) => ref08Generation f.b0 V hf.s0)
  have G1 := Lib.hid (fun (V : World) => ref08Generation f.b1 V hf.s1)
  have HB : bankK f = (if soundB f.b0 = true ∧ soundB f.b1 = true ∧ genN f.b0 < genN f.b1 then 1 else if soundB f.b0 = true then 0 else if soundB f.b1 = true then 1 else -1) := rfl
  generalize bankK f = K at *
  generalize soundB f.b0 = a at *
  generalize soundB f.b1 = b at *
  generalize genN f.b0 = x at *
  generalize genN f.b1 = y at *
  generalize genE f.b0 = ex at *
  generalize genE f.b1 = ey at *
  cases a
  · cases b
    · have hK : K = -1 := by rw [HB]; rfl
      rw [hK]
      clear HB hK
      have hB : Below W.heap.size W (W.alloc (.cells #[.string f.b0, .string f.b1, .int .i64 f.e0, .int .i64 f.e1, .int .i64 f.lim] 37)) := ((Below.refl _ _).alloc (Nat.le_refl _) _)
      have xf := (Box.new 37 W [.string f.b0, .string f.b1, .int .i64 f.e0, .int .i64 f.e1, .int .i64 f.lim])
      go_enter Tryz.func19, Tryz.ntmps19
      obtain ⟨xf0, xfz0, xf1, xfz1, xf2, xfz2, xf3, xfz3, xf4, xfz4⟩ := xf.f5
      go_wp2_with fail
      refine (T0.out _).mono ?_
      rintro e V1 ⟨rfl, hk⟩
      clear xf0 xfz0 xf1 xfz1 xf2 xfz2 xf3 xfz3 xf4 xfz4
      replace hB := below_seq hB hk
      replace xf := xf.seq hk
      clear hk
      obtain ⟨xf0, xfz0, xf1, xfz1, xf2, xfz2, xf3, xfz3, xf4, xfz4⟩ := xf.f5
      go_wp2_with fail
      refine (T1.out _).mono ?_
      rintro e V2 ⟨rfl, hk⟩
      clear xf0 xfz0 xf1 xfz1 xf2 xfz2 xf3 xfz3 xf4 xfz4
      replace hB := below_seq hB hk
      replace xf := xf.seq hk
      clear hk
      obtain ⟨xf0, xfz0, xf1, xfz1, xf2, xfz2, xf3, xfz3, xf4, xfz4⟩ := xf.f5
      go_wp2_with fail
      refine (G0.out _).mono ?_
      rintro e V3 ⟨rfl, hk⟩
      clear xf0 xfz0 xf1 xfz1 xf2 xfz2 xf3 xfz3 xf4 xfz4
      replace hB := below_seq hB hk
      replace xf := xf.seq hk
      clear hk
      obtain ⟨xf0, xfz0, xf1, xfz1, xf2, xfz2, xf3, xfz3, xf4, xfz4⟩ := xf.f5
      go_wp2_with fail
      refine (G1.out _).mono ?_
      rintro e V4 ⟨rfl, hk⟩
      clear xf0 xfz0 xf1 xfz1 xf2 xfz2 xf3 xfz3 xf4 xfz4
      replace hB := below_seq hB hk
      replace xf := xf.seq hk
      clear hk
      obtain ⟨xf0, xfz0, xf1, xfz1, xf2, xfz2, xf3, xfz3, xf4, xfz4⟩ := xf.f5
      go_wp2
      go_ret
      exact ⟨rfl, hB⟩
    · have hK : K = 1 := by rw [HB]; rfl
      rw [hK]
      clear HB hK
      have hB : Below W.heap.size W (W.alloc (.cells #[.string f.b0, .string f.b1, .int .i64 f.e0, .int .i64 f.e1, .int .i64 f.lim] 37)) := ((Below.refl _ _).alloc (Nat.le_refl _) _)
      have xf := (Box.new 37 W [.string f.b0, .string f.b1, .int .i64 f.e0, .int .i64 f.e1, .int .i64 f.lim])
      go_enter Tryz.func19, Tryz.ntmps19
      obtain ⟨xf0, xfz0, xf1, xfz1, xf2, xfz2, xf3, xfz3, xf4, xfz4⟩ := xf.f5
      go_wp2_with fail
      refine (T0.out _).mono ?_
      rintro e V1 ⟨rfl, hk⟩
      clear xf0 xfz0 xf1 xfz1 xf2 xfz2 xf3 xfz3 xf4 xfz4
      replace hB := below_seq hB hk
      replace xf := xf.seq hk
      clear hk
      obtain ⟨xf0, xfz0, xf1, xfz1, xf2, xfz2, xf3, xfz3, xf4, xfz4⟩ := xf.f5
      go_wp2_with fail
      refine (T1.out _).mono ?_
      rintro e V2 ⟨rfl, hk⟩
      clear xf0 xfz0 xf1 xfz1 xf2 xfz2 xf3 xfz3 xf4 xfz4
      replace hB := below_seq hB hk
      replace xf := xf.seq hk
      clear hk
      obtain ⟨xf0, xfz0, xf1, xfz1, xf2, xfz2, xf3, xfz3, xf4, xfz4⟩ := xf.f5
      go_wp2_with fail
      refine (G0.out _).mono ?_
      rintro e V3 ⟨rfl, hk⟩
      clear xf0 xfz0 xf1 xfz1 xf2 xfz2 xf3 xfz3 xf4 xfz4
      replace hB := below_seq hB hk
      replace xf := xf.seq hk
      clear hk
      obtain ⟨xf0, xfz0, xf1, xfz1, xf2, xfz2, xf3, xfz3, xf4, xfz4⟩ := xf.f5
      go_wp2_with fail
      refine (G1.out _).mono ?_
      rintro e V4 ⟨rfl, hk⟩
      clear xf0 xfz0 xf1 xfz1 xf2 xfz2 xf3 xfz3 xf4 xfz4
      replace hB := below_seq hB hk
      replace xf := xf.seq hk
      clear hk
      obtain ⟨xf0, xfz0, xf1, xfz1, xf2, xfz2, xf3, xfz3, xf4, xfz4⟩ := xf.f5
      go_wp2
      go_ret
      exact ⟨rfl, hB⟩
  · cases b
    · have hK : K = 0 := by rw [HB, if_neg (fun h => by cases h.2.1)]; rfl
      rw [hK]
      clear HB hK
      have hB : Below W.heap.size W (W.alloc (.cells #[.string f.b0, .string f.b1, .int .i64 f.e0, .int .i64 f.e1, .int .i64 f.lim] 37)) := ((Below.refl _ _).alloc (Nat.le_refl _) _)
      have xf := (Box.new 37 W [.string f.b0, .string f.b1, .int .i64 f.e0, .int .i64 f.e1, .int .i64 f.lim])
      go_enter Tryz.func19, Tryz.ntmps19
      obtain ⟨xf0, xfz0, xf1, xfz1, xf2, xfz2, xf3, xfz3, xf4, xfz4⟩ := xf.f5
      go_wp2_with fail
      refine (T0.out _).mono ?_
      rintro e V1 ⟨rfl, hk⟩
      clear xf0 xfz0 xf1 xfz1 xf2 xfz2 xf3 xfz3 xf4 xfz4
      replace hB := below_seq hB hk
      replace xf := xf.seq hk
      clear hk
      obtain ⟨xf0, xfz0, xf1, xfz1, xf2, xfz2, xf3, xfz3, xf4, xfz4⟩ := xf.f5
      go_wp2_with fail
      refine (T1.out _).mono ?_
      rintro e V2 ⟨rfl, hk⟩
      clear xf0 xfz0 xf1 xfz1 xf2 xfz2 xf3 xfz3 xf4 xfz4
      replace hB := below_seq hB hk
      replace xf := xf.seq hk
      clear hk
      obtain ⟨xf0, xfz0, xf1, xfz1, xf2, xfz2, xf3, xfz3, xf4, xfz4⟩ := xf.f5
      go_wp2_with fail
      refine (G0.out _).mono ?_
      rintro e V3 ⟨rfl, hk⟩
      clear xf0 xfz0 xf1 xfz1 xf2 xfz2 xf3 xfz3 xf4 xfz4
      replace hB := below_seq hB hk
      replace xf := xf.seq hk
      clear hk
      obtain ⟨xf0, xfz0, xf1, xfz1, xf2, xfz2, xf3, xfz3, xf4, xfz4⟩ := xf.f5
      go_wp2_with fail
      refine (G1.out _).mono ?_
      rintro e V4 ⟨rfl, hk⟩
      clear xf0 xfz0 xf1 xfz1 xf2 xfz2 xf3 xfz3 xf4 xfz4
      replace hB := below_seq hB hk
      replace xf := xf.seq hk
      clear hk
      obtain ⟨xf0, xfz0, xf1, xfz1, xf2, xfz2, xf3, xfz3, xf4, xfz4⟩ := xf.f5
      go_wp2
      go_ret
      exact ⟨rfl, hB⟩
    · by_cases hxy : x < y
      · have m1 : (y : Int) > (x : Int) := by omega
        have hK : K = 1 := by rw [HB, if_pos ⟨rfl, rfl, hxy⟩]
        rw [hK]
        clear HB hK
        clear hxy
        have hB : Below W.heap.size W (W.alloc (.cells #[.string f.b0, .string f.b1, .int .i64 f.e0, .int .i64 f.e1, .int .i64 f.lim] 37)) := ((Below.refl _ _).alloc (Nat.le_refl _) _)
        have xf := (Box.new 37 W [.string f.b0, .string f.b1, .int .i64 f.e0, .int .i64 f.e1, .int .i64 f.lim])
        go_enter Tryz.func19, Tryz.ntmps19
        obtain ⟨xf0, xfz0, xf1, xfz1, xf2, xfz2, xf3, xfz3, xf4, xfz4⟩ := xf.f5
        go_wp2_with fail
        refine (T0.out _).mono ?_
        rintro e V1 ⟨rfl, hk⟩
        clear xf0 xfz0 xf1 xfz1 xf2 xfz2 xf3 xfz3 xf4 xfz4
        replace hB := below_seq hB hk
        replace xf := xf.seq hk
        clear hk
        obtain ⟨xf0, xfz0, xf1, xfz1, xf2, xfz2, xf3, xfz3, xf4, xfz4⟩ := xf.f5
        go_wp2_with fail
        refine (T1.out _).mono ?_
        rintro e V2 ⟨rfl, hk⟩
        clear xf0 xfz0 xf1 xfz1 xf2 xfz2 xf3 xfz3 xf4 xfz4
        replace hB := below_seq hB hk
        replace xf := xf.seq hk
        clear hk
        obtain ⟨xf0, xfz0, xf1, xfz1, xf2, xfz2, xf3, xfz3, xf4, xfz4⟩ := xf.f5
        go_wp2_with fail
        refine (G0.out _).mono ?_
        rintro e V3 ⟨rfl, hk⟩
        clear xf0 xfz0 xf1 xfz1 xf2 xfz2 xf3 xfz3 xf4 xfz4
        replace hB := below_seq hB hk
        replace xf := xf.seq hk
        clear hk
        obtain ⟨xf0, xfz0, xf1, xfz1, xf2, xfz2, xf3, xfz3, xf4, xfz4⟩ := xf.f5
        go_wp2_with fail
        refine (G1.out _).mono ?_
        rintro e V4 ⟨rfl, hk⟩
        clear xf0 xfz0 xf1 xfz1 xf2 xfz2 xf3 xfz3 xf4 xfz4
        replace hB := below_seq hB hk
        replace xf := xf.seq hk
        clear hk
        obtain ⟨xf0, xfz0, xf1, xfz1, xf2, xfz2, xf3, xfz3, xf4, xfz4⟩ := xf.f5
        go_wp2
        go_ret
        exact ⟨rfl, hB⟩
      · have m1 : ¬ (y : Int) > (x : Int) := by omega
        have hK : K = 0 := by rw [HB, if_neg (fun h => hxy h.2.2)]; rfl
        rw [hK]
        clear HB hK
        clear hxy
        have hB : Below W.heap.size W (W.alloc (.cells #[.string f.b0, .string f.b1, .int .i64 f.e0, .int .i64 f.e1, .int .i64 f.lim] 37)) := ((Below.refl _ _).alloc (Nat.le_refl _) _)
        have xf := (Box.new 37 W [.string f.b0, .string f.b1, .int .i64 f.e0, .int .i64 f.e1, .int .i64 f.lim])
        go_enter Tryz.func19, Tryz.ntmps19
        obtain ⟨xf0, xfz0, xf1, xfz1, xf2, xfz2, xf3, xfz3, xf4, xfz4⟩ := xf.f5
        go_wp2_with fail
        refine (T0.out _).mono ?_
        rintro e V1 ⟨rfl, hk⟩
        clear xf0 xfz0 xf1 xfz1 xf2 xfz2 xf3 xfz3 xf4 xfz4
        replace hB := below_seq hB hk
        replace xf := xf.seq hk
        clear hk
        obtain ⟨xf0, xfz0, xf1, xfz1, xf2, xfz2, xf3, xfz3, xf4, xfz4⟩ := xf.f5
        go_wp2_with fail
        refine (T1.out _).mono ?_
        rintro e V2 ⟨rfl, hk⟩
        clear xf0 xfz0 xf1 xfz1 xf2 xfz2 xf3 xfz3 xf4 xfz4
        replace hB := below_seq hB hk
        replace xf := xf.seq hk
        clear hk
        obtain ⟨xf0, xfz0, xf1, xfz1, xf2, xfz2, xf3, xfz3, xf4, xfz4⟩ := xf.f5
        go_wp2_with fail
        refine (G0.out _).mono ?_
        rintro e V3 ⟨rfl, hk⟩
        clear xf0 xfz0 xf1 xfz1 xf2 xfz2 xf3 xfz3 xf4 xfz4
        replace hB := below_seq hB hk
        replace xf := xf.seq hk
        clear hk
        obtain ⟨xf0, xfz0, xf1, xfz1, xf2, xfz2, xf3, xfz3, xf4, xfz4⟩ := xf.f5
        go_wp2_with fail
        refine (G1.out _).mono ?_
        rintro e V4 ⟨rfl, hk⟩
        clear xf0 xfz0 xf1 xfz1 xf2 xfz2 xf3 xfz3 xf4 xfz4
        replace hB := below_seq hB hk
        replace xf := xf.seq hk
        clear hk
        obtain ⟨xf0, xfz0, xf1, xfz1, xf2, xfz2, xf3, xfz3, xf4, xfz4⟩ := xf.f5
        go_wp2
        go_ret
        exact ⟨rfl, hB⟩

set_option maxRecDepth 100000 in
set_option maxHeartbeats 4000000 in
theorem ref10Read (f : Fl) (W : World) (hf : f.ok) :
    Calls Tryz.prog 9 #[.agg #[.string f.b0, .string f.b1, .int .i64 f.e0, .int .i64 f.e1, .int .i64 f.lim]] W fun e W' => e = .returned (.tuple #[.agg #[.int .i64 (pickS f).bank, .int .u64 ((pickS f).gen : Int), .int .u64 ((pickS f).seq : Int), .int .u64 ((pickS f).data : Int)], .int .i64 (pickE f)]) ∧ Below W.heap.size W W' := by
  have TB := Lib.hid (fun (V : World) => ref10Bank f V hf)
  rcases bankK_cases f with h | h | h
  · have hp := pickS_some (f := f) (by omega)
    have he : pickE f = 0 := pickE_zero.2 (by omega)
    rw [he, hp]
    rw [h] at TB ⊢
    have TG := Lib.hid (fun (V : World) => ref08Generation f.b1 V hf.s1)
    have TL := Lib.hid (fun (V : World) => ref09Last f.b1 V hf.s1)
    rw [show f.bank 1 = f.b1 from rfl]
    clear hp he h hf
    dsimp only
    generalize genN f.b1 = g at *
    generalize genE f.b1 = ge at *
    generalize lastR f.b1 = r at *
    generalize lastE f.b1 = re at *
    have hB : Below W.heap.size W ((W.alloc (.cells #[.string f.b0, .string f.b1, .int .i64 f.e0, .int .i64 f.e1, .int .i64 f.lim] 37)).alloc (.cells #[.int .i64 0, .int .u64 0, .int .u64 0, .int .u64 0] 34)) := (((Below.refl _ _).alloc (Nat.le_refl _) _).alloc (by simp) _)
    have xf := ((Box.new 37 W [.string f.b0, .string f.b1, .int .i64 f.e0, .int .i64 f.e1, .int .i64 f.lim]).alloc (.cells #[.int .i64 0, .int .u64 0, .int .u64 0, .int .u64 0] 34))
    have xo : Box 34 ((W.alloc (.cells #[.string f.b0, .string f.b1, .int .i64 f.e0, .int .i64 f.e1, .int .i64 f.lim] 37)).alloc (.cells #[.int .i64 0, .int .u64 0, .int .u64 0, .int .u64 0] 34)) (W.heap.size + 1) [.int .i64 0, .int .u64 0, .int .u64 0, .int .u64 0] := by have h := (Box.new 34 (W.alloc (.cells #[.string f.b0, .string f.b1, .int .i64 f.e0, .int .i64 f.e1, .int .i64 f.lim] 37)) [.int .i64 0, .int .u64 0, .int .u64 0, .int .u64 0]); rwa [World.size_alloc] at h
    have le_xo : W.heap.size ≤ W.heap.size + 1 := by omega
    go_enter Tryz.func9, Tryz.ntmps9
    obtain ⟨xf0, xfz0, xf1, xfz1, xf2, xfz2, xf3, xfz3, xf4, xfz4⟩ := xf.f5
    obtain ⟨xo0, xoz0, xo1, xoz1, xo2, xoz2, xo3, xoz3⟩ := xo.f4
    go_wp2_with fail
    refine (TB.out _).mono ?_
    rintro e V1 ⟨rfl, hk⟩
    clear xf0 xfz0 xf1 xfz1 xf2 xfz2 xf3 xfz3 xf4 xfz4 xo0 xoz0 xo1 xoz1 xo2 xoz2 xo3 xoz3
    replace hB := below_seq hB hk
    replace xf := xf.seq hk
    replace xo := xo.seq hk
    clear hk
    obtain ⟨xf0, xfz0, xf1, xfz1, xf2, xfz2, xf3, xfz3, xf4, xfz4⟩ := xf.f5
    obtain ⟨xo0, xoz0, xo1, xoz1, xo2, xoz2, xo3, xoz3⟩ := xo.f4
    go_wp2_with fail
    refine (TG.out _).mono ?_
    rintro e V2 ⟨rfl, hk⟩
    clear xf0 xfz0 xf1 xfz1 xf2 xfz2 xf3 xfz3 xf4 xfz4 xo0 xoz0 xo1 xoz1 xo2 xoz2 xo3 xoz3
    replace hB := below_seq hB hk
    replace xf := xf.seq hk
    replace xo := xo.seq hk
    clear hk
    obtain ⟨xf0, xfz0, xf1, xfz1, xf2, xfz2, xf3, xfz3, xf4, xfz4⟩ := xf.f5
    obtain ⟨xo0, xoz0, xo1, xoz1, xo2, xoz2, xo3, xoz3⟩ := xo.f4
    go_wp2_with fail
    refine (TL.out _).mono ?_
    rintro e V3 ⟨rfl, hk⟩
    clear xf0 xfz0 xf1 xfz1 xf2 xfz2 xf3 xfz3 xf4 xfz4 xo0 xoz0 xo1 xoz1 xo2 xoz2 xo3 xoz3
    replace hB := below_seq hB hk
    replace xf := xf.seq hk
    replace xo := xo.seq hk
    clear hk
    have xr := Box.new 59 V3 [.int .i64 r.kind, .int .u64 (r.seq : Int), .int .u64 (r.data : Int)]
    have ne_xr_xf : V3.heap.size ≠ W.heap.size := Nat.ne_of_gt xf.lt
    have ne_xr_xo : V3.heap.size ≠ W.heap.size + 1 := Nat.ne_of_gt xo.lt
    have le_xr : W.heap.size ≤ V3.heap.size := hB.size
    replace xf := xf.alloc (.cells #[.int .i64 r.kind, .int .u64 (r.seq : Int), .int .u64 (r.data : Int)] 59)
    replace xo := xo.alloc (.cells #[.int .i64 r.kind, .int .u64 (r.seq : Int), .int .u64 (r.data : Int)] 59)
    replace hB := hB.alloc hB.size (.cells #[.int .i64 r.kind, .int .u64 (r.seq : Int), .int .u64 (r.data : Int)] 59)
    obtain ⟨xf0, xfz0, xf1, xfz1, xf2, xfz2, xf3, xfz3, xf4, xfz4⟩ := xf.f5
    obtain ⟨xo0, xoz0, xo1, xoz1, xo2, xoz2, xo3, xoz3⟩ := xo.f4
    obtain ⟨xr0, xrz0, xr1, xrz1, xr2, xrz2⟩ := xr.f3
    go_wp2
    clear xf0 xfz0 xf1 xfz1 xf2 xfz2 xf3 xfz3 xf4 xfz4 xo0 xoz0 xo1 xoz1 xo2 xoz2 xo3 xoz3 xr0 xrz0 xr1 xrz1 xr2 xrz2
    replace xf : Box 37 (((((V3.alloc (.cells #[.int .i64 r.kind, .int .u64 (r.seq : Int), .int .u64 (r.data : Int)] 59)).setCell ⟨W.heap.size + 1, 0, none⟩ (.int .i64 1)).setCell ⟨W.heap.size + 1, 1, none⟩ (.int .u64 (g : Int))).setCell ⟨W.heap.size + 1, 2, none⟩ (.int .u64 (r.seq : Int))).setCell ⟨W.heap.size + 1, 3, none⟩ (.int .u64 (r.data : Int))) (W.heap.size) [.string f.b0, .string f.b1, .int .i64 f.e0, .int .i64 f.e1, .int .i64 f.lim] := ((((xf.other (by omega) 0 (.int .i64 1)).other (by omega) 1 (.int .u64 (g : Int))).other (by omega) 2 (.int .u64 (r.seq : Int))).other (by omega) 3 (.int .u64 (r.data : Int)))
    replace xr := ((((xr.other (Ne.symm ne_xr_xo) 0 (.int .i64 1)).other (Ne.symm ne_xr_xo) 1 (.int .u64 (g : Int))).other (Ne.symm ne_xr_xo) 2 (.int .u64 (r.seq : Int))).other (Ne.symm ne_xr_xo) 3 (.int .u64 (r.data : Int)))
    replace xo : Box 34 (((((V3.alloc (.cells #[.int .i64 r.kind, .int .u64 (r.seq : Int), .int .u64 (r.data : Int)] 59)).setCell ⟨W.heap.size + 1, 0, none⟩ (.int .i64 1)).setCell ⟨W.heap.size + 1, 1, none⟩ (.int .u64 (g : Int))).setCell ⟨W.heap.size + 1, 2, none⟩ (.int .u64 (r.seq : Int))).setCell ⟨W.heap.size + 1, 3, none⟩ (.int .u64 (r.data : Int))) (W.heap.size + 1) [.int .i64 1, .int .u64 (g : Int), .int .u64 (r.seq : Int), .int .u64 (r.data : Int)] := ((((xo.set 0 (.int .i64 1)).set 1 (.int .u64 (g : Int))).set 2 (.int .u64 (r.seq : Int))).set 3 (.int .u64 (r.data : Int)))
    replace hB : Below W.heap.size W (((((V3.alloc (.cells #[.int .i64 r.kind, .int .u64 (r.seq : Int), .int .u64 (r.data : Int)] 59)).setCell ⟨W.heap.size + 1, 0, none⟩ (.int .i64 1)).setCell ⟨W.heap.size + 1, 1, none⟩ (.int .u64 (g : Int))).setCell ⟨W.heap.size + 1, 2, none⟩ (.int .u64 (r.seq : Int))).setCell ⟨W.heap.size + 1, 3, none⟩ (.int .u64 (r.data : Int))) := ((((hB.setCell le_xo _).setCell le_xo _).setCell le_xo _).setCell le_xo _)
    generalize (((((V3.alloc (.cells #[.int .i64 r.kind, .int .u64 (r.seq : Int), .int .u64 (r.data : Int)] 59)).setCell ⟨W.heap.size + 1, 0, none⟩ (.int .i64 1)).setCell ⟨W.heap.size + 1, 1, none⟩ (.int .u64 (g : Int))).setCell ⟨W.heap.size + 1, 2, none⟩ (.int .u64 (r.seq : Int))).setCell ⟨W.heap.size + 1, 3, none⟩ (.int .u64 (r.data : Int))) = V4 at *
    obtain ⟨xf0, xfz0, xf1, xfz1, xf2, xfz2, xf3, xfz3, xf4, xfz4⟩ := xf.f5
    obtain ⟨xo0, xoz0, xo1, xoz1, xo2, xoz2, xo3, xoz3⟩ := xo.f4
    obtain ⟨xr0, xrz0, xr1, xrz1, xr2, xrz2⟩ := xr.f3
    exact bodyPost_ret (v := .tuple #[.agg #[.int .i64 1, .int .u64 (g : Int), .int .u64 (r.seq : Int), .int .u64 (r.data : Int)], .int .i64 0]) (by simp [results, Tryz.results9, go_sem, xo0, xo1, xo2, xo3]) rfl ⟨rfl, hB⟩
  · have hp := pickS_some (f := f) (by omega)
    have he : pickE f = 0 := pickE_zero.2 (by omega)
    rw [he, hp]
    rw [h] at TB ⊢
    have TG := Lib.hid (fun (V : World) => ref08Generation f.b0 V hf.s0)
    have TL := Lib.hid (fun (V : World) => ref09Last f.b0 V hf.s0)
    rw [show f.bank 0 = f.b0 from rfl]
    clear hp he h hf
    dsimp only
    generalize genN f.b0 = g at *
    generalize genE f.b0 = ge at *
    generalize lastR f.b0 = r at *
    generalize lastE f.b0 = re at *
    have hB : Below W.heap.size W ((W.alloc (.cells #[.string f.b0, .string f.b1, .int .i64 f.e0, .int .i64 f.e1, .int .i64 f.lim] 37)).alloc (.cells #[.int .i64 0, .int .u64 0, .int .u64 0, .int .u64 0] 34)) := (((Below.refl _ _).alloc (Nat.le_refl _) _).alloc (by simp) _)
    have xf := ((Box.new 37 W [.string f.b0, .string f.b1, .int .i64 f.e0, .int .i64 f.e1, .int .i64 f.lim]).alloc (.cells #[.int .i64 0, .int .u64 0, .int .u64 0, .int .u64 0] 34))
    have xo : Box 34 ((W.alloc (.cells #[.string f.b0, .string f.b1, .int .i64 f.e0, .int .i64 f.e1, .int .i64 f.lim] 37)).alloc (.cells #[.int .i64 0, .int .u64 0, .int .u64 0, .int .u64 0] 34)) (W.heap.size + 1) [.int .i64 0, .int .u64 0, .int .u64 0, .int .u64 0] := by have h := (Box.new 34 (W.alloc (.cells #[.string f.b0, .string f.b1, .int .i64 f.e0, .int .i64 f.e1, .int .i64 f.lim] 37)) [.int .i64 0, .int .u64 0, .int .u64 0, .int .u64 0]); rwa [World.size_alloc] at h
    have le_xo : W.heap.size ≤ W.heap.size + 1 := by omega
    go_enter Tryz.func9, Tryz.ntmps9
    obtain ⟨xf0, xfz0, xf1, xfz1, xf2, xfz2, xf3, xfz3, xf4, xfz4⟩ := xf.f5
    obtain ⟨xo0, xoz0, xo1, xoz1, xo2, xoz2, xo3, xoz3⟩ := xo.f4
    go_wp2_with fail
    refine (TB.out _).mono ?_
    rintro e V1 ⟨rfl, hk⟩
    clear xf0 xfz0 xf1 xfz1 xf2 xfz2 xf3 xfz3 xf4 xfz4 xo0 xoz0 xo1 xoz1 xo2 xoz2 xo3 xoz3
    replace hB := below_seq hB hk
    replace xf := xf.seq hk
    replace xo := xo.seq hk
    clear hk
    obtain ⟨xf0, xfz0, xf1, xfz1, xf2, xfz2, xf3, xfz3, xf4, xfz4⟩ := xf.f5
    obtain ⟨xo0, xoz0, xo1, xoz1, xo2, xoz2, xo3, xoz3⟩ := xo.f4
    go_wp2_with fail
    refine (TG.out _).mono ?_
    rintro e V2 ⟨rfl, hk⟩
    clear xf0 xfz0 xf1 xfz1 xf2 xfz2 xf3 xfz3 xf4 xfz4 xo0 xoz0 xo1 xoz1 xo2 xoz2 xo3 xoz3
    replace hB := below_seq hB hk
    replace xf := xf.seq hk
    replace xo := xo.seq hk
    clear hk
    obtain ⟨xf0, xfz0, xf1, xfz1, xf2, xfz2, xf3, xfz3, xf4, xfz4⟩ := xf.f5
    obtain ⟨xo0, xoz0, xo1, xoz1, xo2, xoz2, xo3, xoz3⟩ := xo.f4
    go_wp2_with fail
    refine (TL.out _).mono ?_
    rintro e V3 ⟨rfl, hk⟩
    clear xf0 xfz0 xf1 xfz1 xf2 xfz2 xf3 xfz3 xf4 xfz4 xo0 xoz0 xo1 xoz1 xo2 xoz2 xo3 xoz3
    replace hB := below_seq hB hk
    replace xf := xf.seq hk
    replace xo := xo.seq hk
    clear hk
    have xr := Box.new 59 V3 [.int .i64 r.kind, .int .u64 (r.seq : Int), .int .u64 (r.data : Int)]
    have ne_xr_xf : V3.heap.size ≠ W.heap.size := Nat.ne_of_gt xf.lt
    have ne_xr_xo : V3.heap.size ≠ W.heap.size + 1 := Nat.ne_of_gt xo.lt
    have le_xr : W.heap.size ≤ V3.heap.size := hB.size
    replace xf := xf.alloc (.cells #[.int .i64 r.kind, .int .u64 (r.seq : Int), .int .u64 (r.data : Int)] 59)
    replace xo := xo.alloc (.cells #[.int .i64 r.kind, .int .u64 (r.seq : Int), .int .u64 (r.data : Int)] 59)
    replace hB := hB.alloc hB.size (.cells #[.int .i64 r.kind, .int .u64 (r.seq : Int), .int .u64 (r.data : Int)] 59)
    obtain ⟨xf0, xfz0, xf1, xfz1, xf2, xfz2, xf3, xfz3, xf4, xfz4⟩ := xf.f5
    obtain ⟨xo0, xoz0, xo1, xoz1, xo2, xoz2, xo3, xoz3⟩ := xo.f4
    obtain ⟨xr0, xrz0, xr1, xrz1, xr2, xrz2⟩ := xr.f3
    go_wp2
    clear xf0 xfz0 xf1 xfz1 xf2 xfz2 xf3 xfz3 xf4 xfz4 xo0 xoz0 xo1 xoz1 xo2 xoz2 xo3 xoz3 xr0 xrz0 xr1 xrz1 xr2 xrz2
    replace xf : Box 37 (((((V3.alloc (.cells #[.int .i64 r.kind, .int .u64 (r.seq : Int), .int .u64 (r.data : Int)] 59)).setCell ⟨W.heap.size + 1, 0, none⟩ (.int .i64 0)).setCell ⟨W.heap.size + 1, 1, none⟩ (.int .u64 (g : Int))).setCell ⟨W.heap.size + 1, 2, none⟩ (.int .u64 (r.seq : Int))).setCell ⟨W.heap.size + 1, 3, none⟩ (.int .u64 (r.data : Int))) (W.heap.size) [.string f.b0, .string f.b1, .int .i64 f.e0, .int .i64 f.e1, .int .i64 f.lim] := ((((xf.other (by omega) 0 (.int .i64 0)).other (by omega) 1 (.int .u64 (g : Int))).other (by omega) 2 (.int .u64 (r.seq : Int))).other (by omega) 3 (.int .u64 (r.data : Int)))
    replace xr := ((((xr.other (Ne.symm ne_xr_xo) 0 (.int .i64 0)).other (Ne.symm ne_xr_xo) 1 (.int .u64 (g : Int))).other (Ne.symm ne_xr_xo) 2 (.int .u64 (r.seq : Int))).other (Ne.symm ne_xr_xo) 3 (.int .u64 (r.data : Int)))
    replace xo : Box 34 (((((V3.alloc (.cells #[.int .i64 r.kind, .int .u64 (r.seq : Int), .int .u64 (r.data : Int)] 59)).setCell ⟨W.heap.size + 1, 0, none⟩ (.int .i64 0)).setCell ⟨W.heap.size + 1, 1, none⟩ (.int .u64 (g : Int))).setCell ⟨W.heap.size + 1, 2, none⟩ (.int .u64 (r.seq : Int))).setCell ⟨W.heap.size + 1, 3, none⟩ (.int .u64 (r.data : Int))) (W.heap.size + 1) [.int .i64 0, .int .u64 (g : Int), .int .u64 (r.seq : Int), .int .u64 (r.data : Int)] := ((((xo.set 0 (.int .i64 0)).set 1 (.int .u64 (g : Int))).set 2 (.int .u64 (r.seq : Int))).set 3 (.int .u64 (r.data : Int)))
    replace hB : Below W.heap.size W (((((V3.alloc (.cells #[.int .i64 r.kind, .int .u64 (r.seq : Int), .int .u64 (r.data : Int)] 59)).setCell ⟨W.heap.size + 1, 0, none⟩ (.int .i64 0)).setCell ⟨W.heap.size + 1, 1, none⟩ (.int .u64 (g : Int))).setCell ⟨W.heap.size + 1, 2, none⟩ (.int .u64 (r.seq : Int))).setCell ⟨W.heap.size + 1, 3, none⟩ (.int .u64 (r.data : Int))) := ((((hB.setCell le_xo _).setCell le_xo _).setCell le_xo _).setCell le_xo _)
    generalize (((((V3.alloc (.cells #[.int .i64 r.kind, .int .u64 (r.seq : Int), .int .u64 (r.data : Int)] 59)).setCell ⟨W.heap.size + 1, 0, none⟩ (.int .i64 0)).setCell ⟨W.heap.size + 1, 1, none⟩ (.int .u64 (g : Int))).setCell ⟨W.heap.size + 1, 2, none⟩ (.int .u64 (r.seq : Int))).setCell ⟨W.heap.size + 1, 3, none⟩ (.int .u64 (r.data : Int))) = V4 at *
    obtain ⟨xf0, xfz0, xf1, xfz1, xf2, xfz2, xf3, xfz3, xf4, xfz4⟩ := xf.f5
    obtain ⟨xo0, xoz0, xo1, xoz1, xo2, xoz2, xo3, xoz3⟩ := xo.f4
    obtain ⟨xr0, xrz0, xr1, xrz1, xr2, xrz2⟩ := xr.f3
    exact bodyPost_ret (v := .tuple #[.agg #[.int .i64 0, .int .u64 (g : Int), .int .u64 (r.seq : Int), .int .u64 (r.data : Int)], .int .i64 0]) (by simp [results, Tryz.results9, go_sem, xo0, xo1, xo2, xo3]) rfl ⟨rfl, hB⟩
  · have hp := pickS_none (f := f) (by omega)
    have he : pickE f = 10 := if_pos (by omega)
    rw [he, hp]
    rw [h] at TB
    clear hp he h hf
    dsimp only
    have hB : Below W.heap.size W ((W.alloc (.cells #[.string f.b0, .string f.b1, .int .i64 f.e0, .int .i64 f.e1, .int .i64 f.lim] 37)).alloc (.cells #[.int .i64 0, .int .u64 0, .int .u64 0, .int .u64 0] 34)) := (((Below.refl _ _).alloc (Nat.le_refl _) _).alloc (by simp) _)
    have xf := ((Box.new 37 W [.string f.b0, .string f.b1, .int .i64 f.e0, .int .i64 f.e1, .int .i64 f.lim]).alloc (.cells #[.int .i64 0, .int .u64 0, .int .u64 0, .int .u64 0] 34))
    have xo : Box 34 ((W.alloc (.cells #[.string f.b0, .string f.b1, .int .i64 f.e0, .int .i64 f.e1, .int .i64 f.lim] 37)).alloc (.cells #[.int .i64 0, .int .u64 0, .int .u64 0, .int .u64 0] 34)) (W.heap.size + 1) [.int .i64 0, .int .u64 0, .int .u64 0, .int .u64 0] := by have h := (Box.new 34 (W.alloc (.cells #[.string f.b0, .string f.b1, .int .i64 f.e0, .int .i64 f.e1, .int .i64 f.lim] 37)) [.int .i64 0, .int .u64 0, .int .u64 0, .int .u64 0]); rwa [World.size_alloc] at h
    have le_xo : W.heap.size ≤ W.heap.size + 1 := by omega
    go_enter Tryz.func9, Tryz.ntmps9
    obtain ⟨xf0, xfz0, xf1, xfz1, xf2, xfz2, xf3, xfz3, xf4, xfz4⟩ := xf.f5
    obtain ⟨xo0, xoz0, xo1, xoz1, xo2, xoz2, xo3, xoz3⟩ := xo.f4
    go_wp2_with fail
    refine (TB.out _).mono ?_
    rintro e V1 ⟨rfl, hk⟩
    clear xf0 xfz0 xf1 xfz1 xf2 xfz2 xf3 xfz3 xf4 xfz4 xo0 xoz0 xo1 xoz1 xo2 xoz2 xo3 xoz3
    replace hB := below_seq hB hk
    replace xf := xf.seq hk
    replace xo := xo.seq hk
    clear hk
    obtain ⟨xf0, xfz0, xf1, xfz1, xf2, xfz2, xf3, xfz3, xf4, xfz4⟩ := xf.f5
    obtain ⟨xo0, xoz0, xo1, xoz1, xo2, xoz2, xo3, xoz3⟩ := xo.f4
    go_wp2
    clear xf0 xfz0 xf1 xfz1 xf2 xfz2 xf3 xfz3 xf4 xfz4 xo0 xoz0 xo1 xoz1 xo2 xoz2 xo3 xoz3
    replace xf : Box 37 ((((V1.setCell ⟨W.heap.size + 1, 0, none⟩ (.int .i64 0)).setCell ⟨W.heap.size + 1, 1, none⟩ (.int .u64 0)).setCell ⟨W.heap.size + 1, 2, none⟩ (.int .u64 0)).setCell ⟨W.heap.size + 1, 3, none⟩ (.int .u64 0)) (W.heap.size) [.string f.b0, .string f.b1, .int .i64 f.e0, .int .i64 f.e1, .int .i64 f.lim] := ((((xf.other (by omega) 0 (.int .i64 0)).other (by omega) 1 (.int .u64 0)).other (by omega) 2 (.int .u64 0)).other (by omega) 3 (.int .u64 0))
    replace xo : Box 34 ((((V1.setCell ⟨W.heap.size + 1, 0, none⟩ (.int .i64 0)).setCell ⟨W.heap.size + 1, 1, none⟩ (.int .u64 0)).setCell ⟨W.heap.size + 1, 2, none⟩ (.int .u64 0)).setCell ⟨W.heap.size + 1, 3, none⟩ (.int .u64 0)) (W.heap.size + 1) [.int .i64 0, .int .u64 0, .int .u64 0, .int .u64 0] := ((((xo.set 0 (.int .i64 0)).set 1 (.int .u64 0)).set 2 (.int .u64 0)).set 3 (.int .u64 0))
    replace hB : Below W.heap.size W ((((V1.setCell ⟨W.heap.size + 1, 0, none⟩ (.int .i64 0)).setCell ⟨W.heap.size + 1, 1, none⟩ (.int .u64 0)).setCell ⟨W.heap.size + 1, 2, none⟩ (.int .u64 0)).setCell ⟨W.heap.size + 1, 3, none⟩ (.int .u64 0)) := ((((hB.setCell le_xo _).setCell le_xo _).setCell le_xo _).setCell le_xo _)
    generalize ((((V1.setCell ⟨W.heap.size + 1, 0, none⟩ (.int .i64 0)).setCell ⟨W.heap.size + 1, 1, none⟩ (.int .u64 0)).setCell ⟨W.heap.size + 1, 2, none⟩ (.int .u64 0)).setCell ⟨W.heap.size + 1, 3, none⟩ (.int .u64 0)) = V2 at *
    obtain ⟨xf0, xfz0, xf1, xfz1, xf2, xfz2, xf3, xfz3, xf4, xfz4⟩ := xf.f5
    obtain ⟨xo0, xoz0, xo1, xoz1, xo2, xoz2, xo3, xoz3⟩ := xo.f4
    exact bodyPost_ret (v := .tuple #[.agg #[.int .i64 0, .int .u64 0, .int .u64 0, .int .u64 0], .int .i64 10]) (by simp [results, Tryz.results9, go_sem, xo0, xo1, xo2, xo3]) rfl ⟨rfl, hB⟩

end Go.Proofs.YtiacdcnpkfpjaaaGreat

/- The reference's functions of layer 10: contracts only. -/
import Derived.Test.YthmpjoiifglbjaaGreatPower
import Derived.Test.YthmpjoiifglbjaaGreatScanRef
import Derived.Test.YthmpjoiifglbjaaGreatBs
namespace Go.Proofs.YthmpjoiifglbjaaGreat
open Go.RowKit
set_option linter.unusedVariables false
set_option linter.unusedSimpArgs false

set_option maxRecDepth 100000 in
set_option maxHeartbeats 4000000 in
theorem ref10Bank (f : Fl) (W : World) (hf : f.ok) :
    Gives Tryz.prog 31 #[.agg #[.string f.b0, .string f.b1, .int .i64 f.e0, .int .i64 f.e1, .int .i64 f.lim]] W (.int .i64 (bankK f)) := by
  have T0 := Lib.hid (fun (V : World) => ref09Sound f.b0 V hf.s0)
  have T1 := Lib.hid (fun (V : World) => ref09Sound f.b1 V hf.s1)
  have G0 := Lib.hid (fun (V : World) => ref08Generation f.b0 V hf.s0)
  have G1 := Lib.hid (fun (V : World) => ref08Generation f.b1 V hf.s1)
  have HB : bankK f = (if soundB f.b0 = true ∧ soundB f.b1 = true ∧ genN f.b0 < genN f.b1 then 1 else if soundB f.b0 = true then 0 else if soundB f.b1 = true then 1 else -1) := rfl
  generalize bankK f = K at *
  generalize soundB f.b0 = a at *
  generalize soundB f.b1 = b at *
  generalize genN f.b0 = x at *
  generalize genN f.b1 = y at *
  generalize genE f.b0 = ex at *
  generalize genE f.b1 = ey at *
  cases a
  · cases b
    · have hK : K = -1 := by rw [HB]; rfl
      rw [hK]
      clear HB hK
      have st := Bs.in1 W 35 [.string f.b0, .string f.b1, .int .i64 f.e0, .int .i64 f.e1, .int .i64 f.lim]
      go_enter Tryz.func31, Tryz.ntmps31
      have fc := (st.box 0 rfl).f5
      go_wp2_with fail; refine callB st (T0.out _) ?_; clear st fc; intro V1 st
      have fc := (st.box 0 rfl).f5
      go_wp2_with fail; refine callB st (T1.out _) ?_; clear st fc; intro V2 st
      have fc := (st.box 0 rfl).f5
      go_wp2_with fail; refine callB st (G0.out _) ?_; clear st fc; intro V3 st
      have fc := (st.box 0 rfl).f5
      go_wp2_with fail; refine callB st (G1.out _) ?_; clear st fc; intro V4 st
      have fc := (st.box 0 rfl).f5
      go_wp2; go_ret; exact ⟨rfl, st.lo⟩
    · have hK : K = 1 := by rw [HB]; rfl
      rw [hK]
      clear HB hK
      have st := Bs.in1 W 35 [.string f.b0, .string f.b1, .int .i64 f.e0, .int .i64 f.e1, .int .i64 f.lim]
      go_enter Tryz.func31, Tryz.ntmps31
      have fc := (st.box 0 rfl).f5
      go_wp2_with fail; refine callB st (T0.out _) ?_; clear st fc; intro V1 st
      have fc := (st.box 0 rfl).f5
      go_wp2_with fail; refine callB st (T1.out _) ?_; clear st fc; intro V2 st
      have fc := (st.box 0 rfl).f5
      go_wp2_with fail; refine callB st (G0.out _) ?_; clear st fc; intro V3 st
      have fc := (st.box 0 rfl).f5
      go_wp2_with fail; refine callB st (G1.out _) ?_; clear st fc; intro V4 st
      have fc := (st.box 0 rfl).f5
      go_wp2; go_ret; exact ⟨rfl, st.lo⟩
  · cases b
    · have hK : K = 0 := by rw [HB, if_neg (fun h => by cases h.2.1)]; rfl
      rw [hK]
      clear HB hK
      have st := Bs.in1 W 35 [.string f.b0, .string f.b1, .int .i64 f.e0, .int .i64 f.e1, .int .i64 f.lim]
      go_enter Tryz.func31, Tryz.ntmps31
      have fc := (st.box 0 rfl).f5
      go_wp2_with fail; refine callB st (T0.out _) ?_; clear st fc; intro V1 st
      have fc := (st.box 0 rfl).f5
      go_wp2_with fail; refine callB st (T1.out _) ?_; clear st fc; intro V2 st
      have fc := (st.box 0 rfl).f5
      go_wp2_with fail; refine callB st (G0.out _) ?_; clear st fc; intro V3 st
      have fc := (st.box 0 rfl).f5
      go_wp2_with fail; refine callB st (G1.out _) ?_; clear st fc; intro V4 st
      have fc := (st.box 0 rfl).f5
      go_wp2; go_ret; exact ⟨rfl, st.lo⟩
    · by_cases hxy : x < y
      · have m1 : (y : Int) > (x : Int) := by omega
        have hK : K = 1 := by rw [HB, if_pos ⟨rfl, rfl, hxy⟩]
        rw [hK]
        clear HB hK
        clear hxy
        have st := Bs.in1 W 35 [.string f.b0, .string f.b1, .int .i64 f.e0, .int .i64 f.e1, .int .i64 f.lim]
        go_enter Tryz.func31, Tryz.ntmps31
        have fc := (st.box 0 rfl).f5
        go_wp2_with fail; refine callB st (T0.out _) ?_; clear st fc; intro V1 st
        have fc := (st.box 0 rfl).f5
        go_wp2_with fail; refine callB st (T1.out _) ?_; clear st fc; intro V2 st
        have fc := (st.box 0 rfl).f5
        go_wp2_with fail; refine callB st (G0.out _) ?_; clear st fc; intro V3 st
        have fc := (st.box 0 rfl).f5
        go_wp2_with fail; refine callB st (G1.out _) ?_; clear st fc; intro V4 st
        have fc := (st.box 0 rfl).f5
        go_wp2; go_ret; exact ⟨rfl, st.lo⟩
      · have m1 : ¬ (y : Int) > (x : Int) := by omega
        have hK : K = 0 := by rw [HB, if_neg (fun h => hxy h.2.2)]; rfl
        rw [hK]
        clear HB hK
        clear hxy
        have st := Bs.in1 W 35 [.string f.b0, .string f.b1, .int .i64 f.e0, .int .i64 f.e1, .int .i64 f.lim]
        go_enter Tryz.func31, Tryz.ntmps31
        have fc := (st.box 0 rfl).f5
        go_wp2_with fail; refine callB st (T0.out _) ?_; clear st fc; intro V1 st
        have fc := (st.box 0 rfl).f5
        go_wp2_with fail; refine callB st (T1.out _) ?_; clear st fc; intro V2 st
        have fc := (st.box 0 rfl).f5
        go_wp2_with fail; refine callB st (G0.out _) ?_; clear st fc; intro V3 st
        have fc := (st.box 0 rfl).f5
        go_wp2_with fail; refine callB st (G1.out _) ?_; clear st fc; intro V4 st
        have fc := (st.box 0 rfl).f5
        go_wp2; go_ret; exact ⟨rfl, st.lo⟩

set_option maxRecDepth 100000 in
set_option maxHeartbeats 4000000 in
theorem ref10Read (f : Fl) (W : World) (hf : f.ok) :
    Gives Tryz.prog 21 #[.agg #[.string f.b0, .string f.b1, .int .i64 f.e0, .int .i64 f.e1, .int .i64 f.lim]] W (.tuple #[.agg #[.int .i64 (pickS f).bank, .int .u64 ((pickS f).gen : Int), .int .u64 ((pickS f).seq : Int), .int .u64 ((pickS f).data : Int)], .int .i64 (pickE f)]) := by
  have TB := Lib.hid (fun (V : World) => ref10Bank f V hf)
  rcases bankK_cases f with h | h | h
  · have hp := pickS_some (f := f) (by omega)
    have he : pickE f = 0 := pickE_zero.2 (by omega)
    rw [he, hp]
    rw [h] at TB ⊢
    have TG := Lib.hid (fun (V : World) => ref08Generation f.b1 V hf.s1)
    have TL := Lib.hid (fun (V : World) => ref09Last f.b1 V hf.s1)
    rw [show f.bank 1 = f.b1 from rfl]
    clear hp he h hf
    dsimp only
    generalize genN f.b1 = g at *
    generalize genE f.b1 = ge at *
    generalize lastR f.b1 = r at *
    generalize lastE f.b1 = re at *
    have st := Bs.in2 W 35 [.string f.b0, .string f.b1, .int .i64 f.e0, .int .i64 f.e1, .int .i64 f.lim] 58 [.int .i64 0, .int .u64 0, .int .u64 0, .int .u64 0]
    go_enter Tryz.func21, Tryz.ntmps21
    have fc := And.intro (st.box 1 rfl).f5 (st.box 0 rfl).f4
    go_wp2_with fail; refine callB st (TB.out _) ?_; clear st fc; intro V1 st
    have fc := And.intro (st.box 1 rfl).f5 (st.box 0 rfl).f4
    go_wp2_with fail; refine callB st (TG.out _) ?_; clear st fc; intro V2 st
    have fc := And.intro (st.box 1 rfl).f5 (st.box 0 rfl).f4
    go_wp2_with fail; refine callB st (TL.out _) ?_; clear st fc; intro V3 st
    replace st := st.alloc 87 [.int .i64 r.kind, .int .u64 (r.seq : Int), .int .u64 (r.data : Int)]
    have fc := And.intro (st.box 2 rfl).f5 (And.intro (st.box 1 rfl).f4 (st.box 0 rfl).f3)
    go_wp2
    clear fc
    replace st := st.put4 1 (.int .i64 1) (.int .u64 (g : Int)) (.int .u64 (r.seq : Int)) (.int .u64 (r.data : Int)) rfl; obtain ⟨V4, hV, st⟩ := st; rw [hV]; clear hV
    have fc := And.intro (st.box 2 rfl).f5 (And.intro (st.box 1 rfl).f4 (st.box 0 rfl).f3)
    exact bodyPost_ret (v := .tuple #[.agg #[.int .i64 1, .int .u64 (g : Int), .int .u64 (r.seq : Int), .int .u64 (r.data : Int)], .int .i64 0]) (by simp [results, Tryz.results21, go_sem, fc]) rfl ⟨rfl, st.lo⟩
  · have hp := pickS_some (f := f) (by omega)
    have he : pickE f = 0 := pickE_zero.2 (by omega)
    rw [he, hp]
    rw [h] at TB ⊢
    have TG := Lib.hid (fun (V : World) => ref08Generation f.b0 V hf.s0)
    have TL := Lib.hid (fun (V : World) => ref09Last f.b0 V hf.s0)
    rw [show f.bank 0 = f.b0 from rfl]
    clear hp he h hf
    dsimp only
    generalize genN f.b0 = g at *
    generalize genE f.b0 = ge at *
    generalize lastR f.b0 = r at *
    generalize lastE f.b0 = re at *
    have st := Bs.in2 W 35 [.string f.b0, .string f.b1, .int .i64 f.e0, .int .i64 f.e1, .int .i64 f.lim] 58 [.int .i64 0, .int .u64 0, .int .u64 0, .int .u64 0]
    go_enter Tryz.func21, Tryz.ntmps21
    have fc := And.intro (st.box 1 rfl).f5 (st.box 0 rfl).f4
    go_wp2_with fail; refine callB st (TB.out _) ?_; clear st fc; intro V1 st
    have fc := And.intro (st.box 1 rfl).f5 (st.box 0 rfl).f4
    go_wp2_with fail; refine callB st (TG.out _) ?_; clear st fc; intro V2 st
    have fc := And.intro (st.box 1 rfl).f5 (st.box 0 rfl).f4
    go_wp2_with fail; refine callB st (TL.out _) ?_; clear st fc; intro V3 st
    replace st := st.alloc 87 [.int .i64 r.kind, .int .u64 (r.seq : Int), .int .u64 (r.data : Int)]
    have fc := And.intro (st.box 2 rfl).f5 (And.intro (st.box 1 rfl).f4 (st.box 0 rfl).f3)
    go_wp2
    clear fc
    replace st := st.put4 1 (.int .i64 0) (.int .u64 (g : Int)) (.int .u64 (r.seq : Int)) (.int .u64 (r.data : Int)) rfl; obtain ⟨V4, hV, st⟩ := st; rw [hV]; clear hV
    have fc := And.intro (st.box 2 rfl).f5 (And.intro (st.box 1 rfl).f4 (st.box 0 rfl).f3)
    exact bodyPost_ret (v := .tuple #[.agg #[.int .i64 0, .int .u64 (g : Int), .int .u64 (r.seq : Int), .int .u64 (r.data : Int)], .int .i64 0]) (by simp [results, Tryz.results21, go_sem, fc]) rfl ⟨rfl, st.lo⟩
  · have hp := pickS_none (f := f) (by omega)
    have he : pickE f = 10 := if_pos (by omega)
    rw [he, hp]
    rw [h] at TB
    clear hp he h hf
    dsimp only
    have st := Bs.in2 W 35 [.string f.b0, .string f.b1, .int .i64 f.e0, .int .i64 f.e1, .int .i64 f.lim] 58 [.int .i64 0, .int .u64 0, .int .u64 0, .int .u64 0]
    go_enter Tryz.func21, Tryz.ntmps21
    have fc := And.intro (st.box 1 rfl).f5 (st.box 0 rfl).f4
    go_wp2_with fail; refine callB st (TB.out _) ?_; clear st fc; intro V1 st
    have fc := And.intro (st.box 1 rfl).f5 (st.box 0 rfl).f4
    go_wp2
    clear fc
    replace st := st.put4 0 (.int .i64 0) (.int .u64 0) (.int .u64 0) (.int .u64 0) rfl; obtain ⟨V2, hV, st⟩ := st; rw [hV]; clear hV
    have fc := And.intro (st.box 1 rfl).f5 (st.box 0 rfl).f4
    exact bodyPost_ret (v := .tuple #[.agg #[.int .i64 0, .int .u64 0, .int .u64 0, .int .u64 0], .int .i64 10]) (by simp [results, Tryz.results21, go_sem, fc]) rfl ⟨rfl, st.lo⟩

set_option maxRecDepth 100000 in
set_option maxHeartbeats 4000000 in
theorem ref10Other (n : Int) (W : World) : Calls Tryz.prog 44 #[.int .i64 n] W fun e W' => e = .returned (.int .i64 (otherN n)) ∧ W' = W := by
  by_cases h : n = 0
  · have H := Lib.hid (show otherN n = 1 from if_pos h)
    have b1 : (n == 0) = true := beq_iff_eq.2 h
    clear h
    go_enter Tryz.func44, Tryz.ntmps44
    go_wp2
    go_ret
    exact ⟨ret_int H.out.symm, rfl⟩
  · have H := Lib.hid (show otherN n = 0 from if_neg h)
    have b1 : (n == 0) = false := beq_eq_false_iff_ne.2 h
    clear h
    go_enter Tryz.func44, Tryz.ntmps44
    go_wp2
    go_ret
    exact ⟨ret_int H.out.symm, rfl⟩

set_option maxRecDepth 100000 in
set_option maxHeartbeats 4000000 in
theorem ref10Even (f : Fl) (W : World) (hf : f.ok) :
    Gives Tryz.prog 40 #[.agg #[.string f.b0, .string f.b1, .int .i64 f.e0, .int .i64 f.e1, .int .i64 f.lim]] W (.bool (evenF f)) := by
  have TL := Lib.hid (fun (V : World) => ref05Slots (f.b0.size : Int) V)
  have HE := Lib.hid (show evenF f = (decide (slotsF f.b0.size ≠ 0) && decide (f.b0.size = f.b1.size)) from rfl)
  have hle := slots_le (f.b0.size : Int)
  generalize evenF f = B at *
  generalize hn : slotsF (f.b0.size : Int) = n at *
  by_cases h1 : n = 0
  · have hB2 := HE.out
    rw [h1] at hB2
    have hB3 : B = false := by rw [hB2]; simp
    subst hB3
    subst h1
    clear hB2 HE hle hn
    have st := Bs.in1 W 35 [.string f.b0, .string f.b1, .int .i64 f.e0, .int .i64 f.e1, .int .i64 f.lim]
    go_enter Tryz.func40, Tryz.ntmps40
    have fc := (st.box 0 rfl).f5
    go_wp2_with fail; refine callQ (TL.out _) ?_
    go_wp2; go_ret; exact ⟨rfl, st.lo⟩
  · have m1 : n > 0 := by omega
    by_cases h2 : f.b0.size = f.b1.size
    · have hB3 : B = true := by rw [HE.out]; simp [h1, h2]
      subst hB3
      have m2 : ((f.b0.size : Int) == (f.b1.size : Int)) = true := beq_iff_eq.2 (by omega)
      clear HE hle hn h1 h2
      have st := Bs.in1 W 35 [.string f.b0, .string f.b1, .int .i64 f.e0, .int .i64 f.e1, .int .i64 f.lim]
      go_enter Tryz.func40, Tryz.ntmps40
      have fc := (st.box 0 rfl).f5
      go_wp2_with fail; refine callQ (TL.out _) ?_
      go_wp2; go_ret; exact ⟨rfl, st.lo⟩
    · have hB3 : B = false := by rw [HE.out]; simp [h2]
      subst hB3
      have m2 : ((f.b0.size : Int) == (f.b1.size : Int)) = false := beq_eq_false_iff_ne.2 (by omega)
      clear HE hle hn h1 h2
      have st := Bs.in1 W 35 [.string f.b0, .string f.b1, .int .i64 f.e0, .int .i64 f.e1, .int .i64 f.lim]
      go_enter Tryz.func40, Tryz.ntmps40
      have fc := (st.box 0 rfl).f5
      go_wp2_with fail; refine callQ (TL.out _) ?_
      go_wp2; go_ret; exact ⟨rfl, st.lo⟩

end Go.Proofs.YthmpjoiifglbjaaGreat

/- What any step makes of any flash, whether it is acknowledged, and the error, are the document's (JournalPuts); no condition. -/
import Derived.Test.YthmpjoiifglbjaaGreatJourLaw
import Derived.Test.YthmpjoiifglbjaaGreatJourOpen
import Derived.Deep.RegionHeld3
import Derived.WalkLawsBesides
import Derived.WalkSpells
import Derived.IntWalk
import Derived.Lib.Hide
import Derived.Test.YthmpjoiifglbjaaGreatBox
import Derived.Test.YthmpjoiifglbjaaGreatFlashOpen
import Derived.Test.YthmpjoiifglbjaaGreatDeepEq
import Derived.ProofKit
import Derived.OpenShut
import Derived.ChangeMaps5
import Derived.Test.YthmpjoiifglbjaaGreatInts
namespace Go.Proofs.YthmpjoiifglbjaaGreat.JournalPuts
open Go.ChangeShapes Go.WideShapes Go.ChangeAt Go.RowKit Go.ChangeMaps
set_option linter.unusedVariables false
set_option linter.unusedSimpArgs false
attribute [local go_sem] eqS2 eqI2 eqS2t eqI2t eqS2u eqI2u

set_option maxRecDepth 100000 in
set_option maxHeartbeats 16000000 in
theorem walk (f : Fl) (s : Stp) (W : World) (hf : f.ok) (hs : s.ok) :
    Calls Tryz.prog 3 #[.agg #[.string f.b0, .string f.b1, .int .i64 f.e0, .int .i64 f.e1, .int .i64 f.lim], .agg #[.int .u64 (s.data : Int), .int .i64 s.cut, .string s.mask]] W fun e W' => e = .returned (.bool true) ∧ Below W.heap.size W W' := by
  by_cases hbig : big12 f [s] = true
  · have TB2 := Lib.hid (fun (A : Option Addr) (V : World) (h : RowsAt 3 stpV V A [s]) => (show Calls Tryz.prog 6 #[.agg #[.string f.b0, .string f.b1, .int .i64 f.e0, .int .i64 f.e1, .int .i64 f.lim], .slice A 1 1] V fun e W' => e = .returned (.bool true) ∧ Below V.heap.size V W' from by have k := law12Big f [s] A 1 V (fun o ho => by rw [List.mem_singleton.1 ho]; exact hs) h ⟨Nat.le_refl _, by unfold maxLen; decide⟩; rwa [hbig] at k))
    clear hbig
    have hB : Below W.heap.size W ((W.alloc (.cells #[.string f.b0, .string f.b1, .int .i64 f.e0, .int .i64 f.e1, .int .i64 f.lim] 25)).alloc (.cells #[.int .u64 (s.data : Int), .int .i64 s.cut, .string s.mask] 28)) := (((Below.refl _ _).alloc (Nat.le_refl _) _).alloc (by simp) _)
    have xf := ((Box.new 25 W [.string f.b0, .string f.b1, .int .i64 f.e0, .int .i64 f.e1, .int .i64 f.lim]).alloc (.cells #[.int .u64 (s.data : Int), .int .i64 s.cut, .string s.mask] 28))
    have xs : Box 28 ((W.alloc (.cells #[.string f.b0, .string f.b1, .int .i64 f.e0, .int .i64 f.e1, .int .i64 f.lim] 25)).alloc (.cells #[.int .u64 (s.data : Int), .int .i64 s.cut, .string s.mask] 28)) (W.heap.size + 1) [.int .u64 (s.data : Int), .int .i64 s.cut, .string s.mask] := by have h := (Box.new 28 (W.alloc (.cells #[.string f.b0, .string f.b1, .int .i64 f.e0, .int .i64 f.e1, .int .i64 f.lim] 25)) [.int .u64 (s.data : Int), .int .i64 s.cut, .string s.mask]); rwa [World.size_alloc] at h
    have le_xs : W.heap.size ≤ W.heap.size + 1 := by omega
    go_enter Tryz.func3, Tryz.ntmps3
    obtain ⟨xf0, xfz0, xf1, xfz1, xf2, xfz2, xf3, xfz3, xf4, xfz4⟩ := xf.f5
    obtain ⟨xs0, xsz0, xs1, xsz1, xs2, xsz2⟩ := xs.f3
    go_wp2_with fail
    clear xf0 xfz0 xf1 xfz1 xf2 xfz2 xf3 xfz3 xf4 xfz4 xs0 xsz0 xs1 xsz1 xs2 xsz2
    have xt : Box 28 (((W.alloc (.cells #[.string f.b0, .string f.b1, .int .i64 f.e0, .int .i64 f.e1, .int .i64 f.lim] 25)).alloc (.cells #[.int .u64 (s.data : Int), .int .i64 s.cut, .string s.mask] 28)).alloc (.cells #[.int .u64 (s.data : Int), .int .i64 s.cut, .string s.mask] 28)) (W.heap.size + 1 + 1) [.int .u64 (s.data : Int), .int .i64 s.cut, .string s.mask] := by have h := Box.new 28 ((W.alloc (.cells #[.string f.b0, .string f.b1, .int .i64 f.e0, .int .i64 f.e1, .int .i64 f.lim] 25)).alloc (.cells #[.int .u64 (s.data : Int), .int .i64 s.cut, .string s.mask] 28)) [.int .u64 (s.data : Int), .int .i64 s.cut, .string s.mask]; rwa [World.size_alloc, World.size_alloc] at h
    replace xf := xf.alloc (.cells #[.int .u64 (s.data : Int), .int .i64 s.cut, .string s.mask] 28)
    replace xs := xs.alloc (.cells #[.int .u64 (s.data : Int), .int .i64 s.cut, .string s.mask] 28)
    replace hB := hB.alloc hB.size (.cells #[.int .u64 (s.data : Int), .int .i64 s.cut, .string s.mask] 28)
    have h1 : RowsAt 3 stpV (((W.alloc (.cells #[.string f.b0, .string f.b1, .int .i64 f.e0, .int .i64 f.e1, .int .i64 f.lim] 25)).alloc (.cells #[.int .u64 (s.data : Int), .int .i64 s.cut, .string s.mask] 28)).alloc (.cells #[.int .u64 (s.data : Int), .int .i64 s.cut, .string s.mask] 28)) (some ⟨W.heap.size + 1 + 1, 0, none⟩) [s] := by have h := RowsAt.lit (cv := stpV) (n := 3) (by decide) (fun _ => rfl) ((W.alloc (.cells #[.string f.b0, .string f.b1, .int .i64 f.e0, .int .i64 f.e1, .int .i64 f.lim] 25)).alloc (.cells #[.int .u64 (s.data : Int), .int .i64 s.cut, .string s.mask] 28)) 28 [s]; rwa [World.size_alloc, World.size_alloc] at h
    clear xt
    refine (TB2.out _ _ h1).mono ?_
    rintro e V1 ⟨rfl, hk⟩
    replace hB := below_seq hB hk
    replace xf := xf.seq hk
    replace xs := xs.seq hk
    clear hk
    obtain ⟨xf0, xfz0, xf1, xfz1, xf2, xfz2, xf3, xfz3, xf4, xfz4⟩ := xf.f5
    obtain ⟨xs0, xsz0, xs1, xsz1, xs2, xsz2⟩ := xs.f3
    clear h1
    go_wp2_with fail
    refine (shown12 _).mono ?_
    rintro e V2 ⟨rfl, hk⟩
    clear xf0 xfz0 xf1 xfz1 xf2 xfz2 xf3 xfz3 xf4 xfz4 xs0 xsz0 xs1 xsz1 xs2 xsz2
    replace hB := below_seq hB hk
    replace xf := xf.seq hk
    replace xs := xs.seq hk
    clear hk
    obtain ⟨xf0, xfz0, xf1, xfz1, xf2, xfz2, xf3, xfz3, xf4, xfz4⟩ := xf.f5
    obtain ⟨xs0, xsz0, xs1, xsz1, xs2, xsz2⟩ := xs.f3
    go_wp2
    go_ret
    exact ⟨rfl, hB⟩
  · have hbig2 : big12 f [s] = false := by cases h : big12 f [s] with | false => rfl | true => exact absurd h hbig
    have TB2 := Lib.hid (fun (A : Option Addr) (V : World) (h : RowsAt 3 stpV V A [s]) => (show Calls Tryz.prog 6 #[.agg #[.string f.b0, .string f.b1, .int .i64 f.e0, .int .i64 f.e1, .int .i64 f.lim], .slice A 1 1] V fun e W' => e = .returned (.bool false) ∧ Below V.heap.size V W' from by have k := law12Big f [s] A 1 V (fun o ho => by rw [List.mem_singleton.1 ho]; exact hs) h ⟨Nat.le_refl _, by unfold maxLen; decide⟩; rwa [hbig2] at k))
    obtain ⟨z0, z1⟩ := big12_no2 hbig2
    have hfit : f.fit := ⟨hf, by omega, by omega⟩
    clear hbig hbig2 z0 z1
    have TP := Lib.hid (fun (V : World) => own12Put f s V hfit hs)
    have TQ := Lib.hid (fun (V : World) => ref12Put f s V hfit hs)
    have TW := Lib.hid (fun (V : World) => own12Wear f V hf)
    have TV := Lib.hid (fun (V : World) => ref12Wear f V hf)
    generalize putJ f s = R at *
    obtain ⟨g, b, E⟩ := R
    dsimp only at TP TQ
    generalize wearF f = ww at *
    clear hfit hf hs
    have hB : Below W.heap.size W ((W.alloc (.cells #[.string f.b0, .string f.b1, .int .i64 f.e0, .int .i64 f.e1, .int .i64 f.lim] 25)).alloc (.cells #[.int .u64 (s.data : Int), .int .i64 s.cut, .string s.mask] 28)) := (((Below.refl _ _).alloc (Nat.le_refl _) _).alloc (by simp) _)
    have xf := ((Box.new 25 W [.string f.b0, .string f.b1, .int .i64 f.e0, .int .i64 f.e1, .int .i64 f.lim]).alloc (.cells #[.int .u64 (s.data : Int), .int .i64 s.cut, .string s.mask] 28))
    have xs : Box 28 ((W.alloc (.cells #[.string f.b0, .string f.b1, .int .i64 f.e0, .int .i64 f.e1, .int .i64 f.lim] 25)).alloc (.cells #[.int .u64 (s.data : Int), .int .i64 s.cut, .string s.mask] 28)) (W.heap.size + 1) [.int .u64 (s.data : Int), .int .i64 s.cut, .string s.mask] := by have h := (Box.new 28 (W.alloc (.cells #[.string f.b0, .string f.b1, .int .i64 f.e0, .int .i64 f.e1, .int .i64 f.lim] 25)) [.int .u64 (s.data : Int), .int .i64 s.cut, .string s.mask]); rwa [World.size_alloc] at h
    have le_xs : W.heap.size ≤ W.heap.size + 1 := by omega
    go_enter Tryz.func3, Tryz.ntmps3
    obtain ⟨xf0, xfz0, xf1, xfz1, xf2, xfz2, xf3, xfz3, xf4, xfz4⟩ := xf.f5
    obtain ⟨xs0, xsz0, xs1, xsz1, xs2, xsz2⟩ := xs.f3
    go_wp2_with fail
    clear xf0 xfz0 xf1 xfz1 xf2 xfz2 xf3 xfz3 xf4 xfz4 xs0 xsz0 xs1 xsz1 xs2 xsz2
    have xt : Box 28 (((W.alloc (.cells #[.string f.b0, .string f.b1, .int .i64 f.e0, .int .i64 f.e1, .int .i64 f.lim] 25)).alloc (.cells #[.int .u64 (s.data : Int), .int .i64 s.cut, .string s.mask] 28)).alloc (.cells #[.int .u64 (s.data : Int), .int .i64 s.cut, .string s.mask] 28)) (W.heap.size + 1 + 1) [.int .u64 (s.data : Int), .int .i64 s.cut, .string s.mask] := by have h := Box.new 28 ((W.alloc (.cells #[.string f.b0, .string f.b1, .int .i64 f.e0, .int .i64 f.e1, .int .i64 f.lim] 25)).alloc (.cells #[.int .u64 (s.data : Int), .int .i64 s.cut, .string s.mask] 28)) [.int .u64 (s.data : Int), .int .i64 s.cut, .string s.mask]; rwa [World.size_alloc, World.size_alloc] at h
    replace xf := xf.alloc (.cells #[.int .u64 (s.data : Int), .int .i64 s.cut, .string s.mask] 28)
    replace xs := xs.alloc (.cells #[.int .u64 (s.data : Int), .int .i64 s.cut, .string s.mask] 28)
    replace hB := hB.alloc hB.size (.cells #[.int .u64 (s.data : Int), .int .i64 s.cut, .string s.mask] 28)
    have h1 : RowsAt 3 stpV (((W.alloc (.cells #[.string f.b0, .string f.b1, .int .i64 f.e0, .int .i64 f.e1, .int .i64 f.lim] 25)).alloc (.cells #[.int .u64 (s.data : Int), .int .i64 s.cut, .string s.mask] 28)).alloc (.cells #[.int .u64 (s.data : Int), .int .i64 s.cut, .string s.mask] 28)) (some ⟨W.heap.size + 1 + 1, 0, none⟩) [s] := by have h := RowsAt.lit (cv := stpV) (n := 3) (by decide) (fun _ => rfl) ((W.alloc (.cells #[.string f.b0, .string f.b1, .int .i64 f.e0, .int .i64 f.e1, .int .i64 f.lim] 25)).alloc (.cells #[.int .u64 (s.data : Int), .int .i64 s.cut, .string s.mask] 28)) 28 [s]; rwa [World.size_alloc, World.size_alloc] at h
    clear xt
    refine (TB2.out _ _ h1).mono ?_
    rintro e V1 ⟨rfl, hk⟩
    replace hB := below_seq hB hk
    replace xf := xf.seq hk
    replace xs := xs.seq hk
    clear hk
    obtain ⟨xf0, xfz0, xf1, xfz1, xf2, xfz2, xf3, xfz3, xf4, xfz4⟩ := xf.f5
    obtain ⟨xs0, xsz0, xs1, xsz1, xs2, xsz2⟩ := xs.f3
    clear h1
    go_wp2_with fail
    refine (shown12 _).mono ?_
    rintro e V2 ⟨rfl, hk⟩
    clear xf0 xfz0 xf1 xfz1 xf2 xfz2 xf3 xfz3 xf4 xfz4 xs0 xsz0 xs1 xsz1 xs2 xsz2
    replace hB := below_seq hB hk
    replace xf := xf.seq hk
    replace xs := xs.seq hk
    clear hk
    obtain ⟨xf0, xfz0, xf1, xfz1, xf2, xfz2, xf3, xfz3, xf4, xfz4⟩ := xf.f5
    obtain ⟨xs0, xsz0, xs1, xsz1, xs2, xsz2⟩ := xs.f3
    go_wp2_with fail
    refine (TP.out _).mono ?_
    rintro e V3 ⟨rfl, hk⟩
    clear xf0 xfz0 xf1 xfz1 xf2 xfz2 xf3 xfz3 xf4 xfz4 xs0 xsz0 xs1 xsz1 xs2 xsz2
    replace hB := below_seq hB hk
    replace xf := xf.seq hk
    replace xs := xs.seq hk
    clear hk
    have xg := Box.new 25 V3 [.string g.b0, .string g.b1, .int .i64 g.e0, .int .i64 g.e1, .int .i64 g.lim]
    have ne_xg_xf : V3.heap.size ≠ W.heap.size := Nat.ne_of_gt xf.lt
    have ne_xg_xs : V3.heap.size ≠ W.heap.size + 1 := Nat.ne_of_gt xs.lt
    have le_xg : W.heap.size ≤ V3.heap.size := hB.size
    replace xf := xf.alloc (.cells #[.string g.b0, .string g.b1, .int .i64 g.e0, .int .i64 g.e1, .int .i64 g.lim] 25)
    replace xs := xs.alloc (.cells #[.string g.b0, .string g.b1, .int .i64 g.e0, .int .i64 g.e1, .int .i64 g.lim] 25)
    replace hB := hB.alloc hB.size (.cells #[.string g.b0, .string g.b1, .int .i64 g.e0, .int .i64 g.e1, .int .i64 g.lim] 25)
    obtain ⟨xf0, xfz0, xf1, xfz1, xf2, xfz2, xf3, xfz3, xf4, xfz4⟩ := xf.f5
    obtain ⟨xs0, xsz0, xs1, xsz1, xs2, xsz2⟩ := xs.f3
    obtain ⟨xg0, xgz0, xg1, xgz1, xg2, xgz2, xg3, xgz3, xg4, xgz4⟩ := xg.f5
    go_wp2_with fail
    refine (TQ.out _).mono ?_
    rintro e V4 ⟨rfl, hk⟩
    clear xf0 xfz0 xf1 xfz1 xf2 xfz2 xf3 xfz3 xf4 xfz4 xs0 xsz0 xs1 xsz1 xs2 xsz2 xg0 xgz0 xg1 xgz1 xg2 xgz2 xg3 xgz3 xg4 xgz4
    replace hB := below_seq hB hk
    replace xf := xf.seq hk
    replace xs := xs.seq hk
    replace xg := xg.seq hk
    clear hk
    have xh := Box.new 35 V4 [.string g.b0, .string g.b1, .int .i64 g.e0, .int .i64 g.e1, .int .i64 g.lim]
    have ne_xh_xf : V4.heap.size ≠ W.heap.size := Nat.ne_of_gt xf.lt
    have ne_xh_xs : V4.heap.size ≠ W.heap.size + 1 := Nat.ne_of_gt xs.lt
    have ne_xh_xg : V4.heap.size ≠ V3.heap.size := Nat.ne_of_gt xg.lt
    have le_xh : W.heap.size ≤ V4.heap.size := hB.size
    replace xf := xf.alloc (.cells #[.string g.b0, .string g.b1, .int .i64 g.e0, .int .i64 g.e1, .int .i64 g.lim] 35)
    replace xs := xs.alloc (.cells #[.string g.b0, .string g.b1, .int .i64 g.e0, .int .i64 g.e1, .int .i64 g.lim] 35)
    replace xg := xg.alloc (.cells #[.string g.b0, .string g.b1, .int .i64 g.e0, .int .i64 g.e1, .int .i64 g.lim] 35)
    replace hB := hB.alloc hB.size (.cells #[.string g.b0, .string g.b1, .int .i64 g.e0, .int .i64 g.e1, .int .i64 g.lim] 35)
    obtain ⟨xf0, xfz0, xf1, xfz1, xf2, xfz2, xf3, xfz3, xf4, xfz4⟩ := xf.f5
    obtain ⟨xs0, xsz0, xs1, xsz1, xs2, xsz2⟩ := xs.f3
    obtain ⟨xg0, xgz0, xg1, xgz1, xg2, xgz2, xg3, xgz3, xg4, xgz4⟩ := xg.f5
    obtain ⟨xh0, xhz0, xh1, xhz1, xh2, xhz2, xh3, xhz3, xh4, xhz4⟩ := xh.f5
    go_wp2_with fail
    clear xf0 xfz0 xf1 xfz1 xf2 xfz2 xf3 xfz3 xf4 xfz4 xs0 xsz0 xs1 xsz1 xs2 xsz2 xg0 xgz0 xg1 xgz1 xg2 xgz2 xg3 xgz3 xg4 xgz4 xh0 xhz0 xh1 xhz1 xh2 xhz2 xh3 xhz3 xh4 xhz4
    generalize (V4.alloc (.cells #[.string g.b0, .string g.b1, .int .i64 g.e0, .int .i64 g.e1, .int .i64 g.lim] 35)) = V5 at *
    replace hB := hB.drew
    replace xf := xf.drew
    replace xs := xs.drew
    replace xg := xg.drew
    replace xh := xh.drew
    refine wp_region_held_drew (S := fun w' => w'.cell? ⟨V3.heap.size, 0, none⟩ = some (.string g.b0) ∧ w'.cell? ⟨V3.heap.size, 1, none⟩ = some (.string g.b1) ∧ w'.cell? ⟨V3.heap.size, 2, none⟩ = some (.int .i64 g.e0) ∧ w'.cell? ⟨V3.heap.size, 3, none⟩ = some (.int .i64 g.e1) ∧ w'.cell? ⟨V3.heap.size, 4, none⟩ = some (.int .i64 g.lim) ∧ w'.cell? ⟨V4.heap.size, 0, none⟩ = some (.string g.b0) ∧ w'.cell? ⟨V4.heap.size, 1, none⟩ = some (.string g.b1) ∧ w'.cell? ⟨V4.heap.size, 2, none⟩ = some (.int .i64 g.e0) ∧ w'.cell? ⟨V4.heap.size, 3, none⟩ = some (.int .i64 g.e1) ∧ w'.cell? ⟨V4.heap.size, 4, none⟩ = some (.int .i64 g.lim) ∧ w'.cell? ⟨W.heap.size, 0, none⟩ = some (.string f.b0) ∧ w'.cell? ⟨W.heap.size, 1, none⟩ = some (.string f.b1) ∧ w'.cell? ⟨W.heap.size, 2, none⟩ = some (.int .i64 f.e0) ∧ w'.cell? ⟨W.heap.size, 3, none⟩ = some (.int .i64 f.e1) ∧ w'.cell? ⟨W.heap.size, 4, none⟩ = some (.int .i64 f.lim)) (by kernel_rfl) ?_ (fun hHeld => ?_)
    · exact ⟨xg.cell 0 rfl, xg.cell 1 rfl, xg.cell 2 rfl, xg.cell 3 rfl, xg.cell 4 rfl, xh.cell 0 rfl, xh.cell 1 rfl, xh.cell 2 rfl, xh.cell 3 rfl, xh.cell 4 rfl, xf.cell 0 rfl, xf.cell 1 rfl, xf.cell 2 rfl, xf.cell 3 rfl, xf.cell 4 rfl⟩
    generalize V5.drew = V6 at *
    refine tk 0 (v := ?_) rfl (Or.inl ⟨by rfl, ?_⟩) ?_; rotate_left
    · intro w hSw; (try dsimp only at hSw); go_simp; try with_reducible rfl
    try simp only [Act.put, l1, l2, l3, l4, l5, l6]
    refine tk 1 (v := ?_) rfl (Or.inl ⟨by rfl, ?_⟩) ?_; rotate_left
    · intro w hSw; (try dsimp only at hSw); go_simp; try with_reducible rfl
    try simp only [Act.put, l1, l2, l3, l4, l5, l6]
    refine tk 2 (v := ?_) rfl (Or.inl ⟨by rfl, ?_⟩) ?_; rotate_left
    · intro w hSw; (try dsimp only at hSw); go_simp; try with_reducible rfl
    try simp only [Act.put, l1, l2, l3, l4, l5, l6]
    refine tk 3 (v := ?_) rfl (Or.inl ⟨by rfl, ?_⟩) ?_; rotate_left
    · intro w hSw; (try dsimp only at hSw); go_simp; try with_reducible rfl
    try simp only [Act.put, l1, l2, l3, l4, l5, l6]
    refine tk 4 (v := ?_) rfl (Or.inl ⟨by rfl, ?_⟩) ?_; rotate_left
    · intro w hSw; (try dsimp only at hSw); go_simp; try with_reducible rfl
    try simp only [Act.put, l1, l2, l3, l4, l5, l6]
    refine tk 5 (v := ?_) rfl (Or.inl ⟨by rfl, ?_⟩) ?_; rotate_left
    · intro w hSw; (try dsimp only at hSw); go_simp; try with_reducible rfl
    try simp only [Act.put, l1, l2, l3, l4, l5, l6]
    refine tk 6 (v := ?_) rfl (Or.inl ⟨by rfl, ?_⟩) ?_; rotate_left
    · intro w hSw; (try dsimp only at hSw); go_simp; try with_reducible rfl
    try simp only [Act.put, l1, l2, l3, l4, l5, l6]
    refine tk 7 (v := ?_) rfl (Or.inl ⟨by rfl, ?_⟩) ?_; rotate_left
    · intro w hSw; (try dsimp only at hSw); go_simp; try with_reducible rfl
    try simp only [Act.put, l1, l2, l3, l4, l5, l6]
    refine tk 8 (v := ?_) rfl (Or.inl ⟨by rfl, ?_⟩) ?_; rotate_left
    · intro w hSw; (try dsimp only at hSw); go_simp; try with_reducible rfl
    try simp only [Act.put, l1, l2, l3, l4, l5, l6]
    refine tk 9 (v := ?_) rfl (Or.inl ⟨by rfl, ?_⟩) ?_; rotate_left
    · intro w hSw; (try dsimp only at hSw); go_simp; try with_reducible rfl
    try simp only [Act.put, l1, l2, l3, l4, l5, l6]
    refine tk 10 (v := ?_) rfl (Or.inl ⟨by rfl, ?_⟩) ?_; rotate_left
    · intro w hSw; (try dsimp only at hSw); go_simp; try with_reducible rfl
    try simp only [Act.put, l1, l2, l3, l4, l5, l6]
    refine tk 11 (v := ?_) rfl (Or.inl ⟨by rfl, ?_⟩) ?_; rotate_left
    · intro w hSw; (try dsimp only at hSw); go_simp; try with_reducible rfl
    try simp only [Act.put, l1, l2, l3, l4, l5, l6]
    refine tk 12 (v := ?_) rfl (Or.inl ⟨by rfl, ?_⟩) ?_; rotate_left
    · intro w hSw; (try dsimp only at hSw); go_simp; try with_reducible rfl
    try simp only [Act.put, l1, l2, l3, l4, l5, l6]
    refine tk 13 (v := ?_) rfl (Or.inl ⟨by rfl, ?_⟩) ?_; rotate_left
    · intro w hSw; (try dsimp only at hSw); go_simp; try with_reducible rfl
    try simp only [Act.put, l1, l2, l3, l4, l5, l6]
    refine tk 14 (v := ?_) rfl (Or.inl ⟨by rfl, ?_⟩) ?_; rotate_left
    · intro w hSw; (try dsimp only at hSw); go_simp; try with_reducible rfl
    try simp only [Act.put, l1, l2, l3, l4, l5, l6]
    refine tk 16 (v := ?_) rfl (Or.inl ⟨by rfl, ?_⟩) ?_; rotate_left
    · intro w hSw; (try dsimp only at hSw); go_simp; try with_reducible rfl
    try simp only [Act.put, l1, l2, l3, l4, l5, l6]
    refine wpAnyH_ready (rs := [15]) (by kernel_rfl) (by simp) ?_
    refine AllReadyH.cons rfl (fun K hK => ?_) (AllReadyH.nil)
    obtain ⟨xf0, xfz0, xf1, xfz1, xf2, xfz2, xf3, xfz3, xf4, xfz4⟩ := xf.f5
    obtain ⟨xs0, xsz0, xs1, xsz1, xs2, xsz2⟩ := xs.f3
    obtain ⟨xg0, xgz0, xg1, xgz1, xg2, xgz2, xg3, xgz3, xg4, xgz4⟩ := xg.f5
    obtain ⟨xh0, xhz0, xh1, xhz1, xh2, xhz2, xh3, xhz3, xh4, xhz4⟩ := xh.f5
    go_simp
    refine (TW.out _).mono ?_
    rintro e V7 ⟨rfl, hk⟩
    clear xf0 xfz0 xf1 xfz1 xf2 xfz2 xf3 xfz3 xf4 xfz4 xs0 xsz0 xs1 xsz1 xs2 xsz2 xg0 xgz0 xg1 xgz1 xg2 xgz2 xg3 xgz3 xg4 xgz4 xh0 xhz0 xh1 xhz1 xh2 xhz2 xh3 xhz3 xh4 xhz4
    replace hB := below_seq hB hk
    replace xf := xf.seq hk
    replace xs := xs.seq hk
    replace xg := xg.seq hk
    replace xh := xh.seq hk
    clear hk
    obtain ⟨xf0, xfz0, xf1, xfz1, xf2, xfz2, xf3, xfz3, xf4, xfz4⟩ := xf.f5
    obtain ⟨xs0, xsz0, xs1, xsz1, xs2, xsz2⟩ := xs.f3
    obtain ⟨xg0, xgz0, xg1, xgz1, xg2, xgz2, xg3, xgz3, xg4, xgz4⟩ := xg.f5
    obtain ⟨xh0, xhz0, xh1, xhz1, xh2, xhz2, xh3, xhz3, xh4, xhz4⟩ := xh.f5
    try go_wp2_with fail
    clear xf0 xfz0 xf1 xfz1 xf2 xfz2 xf3 xfz3 xf4 xfz4 xs0 xsz0 xs1 xsz1 xs2 xsz2 xg0 xgz0 xg1 xgz1 xg2 xgz2 xg3 xgz3 xg4 xgz4 xh0 xhz0 xh1 xhz1 xh2 xhz2 xh3 xhz3 xh4 xhz4
    clear hHeld
    refine hK.out _ _ ?_ (fun hHeld => ?_)
    · exact ⟨xg.cell 0 rfl, xg.cell 1 rfl, xg.cell 2 rfl, xg.cell 3 rfl, xg.cell 4 rfl, xh.cell 0 rfl, xh.cell 1 rfl, xh.cell 2 rfl, xh.cell 3 rfl, xh.cell 4 rfl, xf.cell 0 rfl, xf.cell 1 rfl, xf.cell 2 rfl, xf.cell 3 rfl, xf.cell 4 rfl⟩
    clear hK K
    try simp only [Act.put, l1, l2, l3, l4, l5, l6]
    refine wpAnyH_ready (rs := [17]) (by kernel_rfl) (by simp) ?_
    refine AllReadyH.cons rfl (fun K hK => ?_) (AllReadyH.nil)
    obtain ⟨xf0, xfz0, xf1, xfz1, xf2, xfz2, xf3, xfz3, xf4, xfz4⟩ := xf.f5
    obtain ⟨xs0, xsz0, xs1, xsz1, xs2, xsz2⟩ := xs.f3
    obtain ⟨xg0, xgz0, xg1, xgz1, xg2, xgz2, xg3, xgz3, xg4, xgz4⟩ := xg.f5
    obtain ⟨xh0, xhz0, xh1, xhz1, xh2, xhz2, xh3, xhz3, xh4, xhz4⟩ := xh.f5
    go_simp
    refine (TV.out _).mono ?_
    rintro e V8 ⟨rfl, hk⟩
    clear xf0 xfz0 xf1 xfz1 xf2 xfz2 xf3 xfz3 xf4 xfz4 xs0 xsz0 xs1 xsz1 xs2 xsz2 xg0 xgz0 xg1 xgz1 xg2 xgz2 xg3 xgz3 xg4 xgz4 xh0 xhz0 xh1 xhz1 xh2 xhz2 xh3 xhz3 xh4 xhz4
    replace hB := below_seq hB hk
    replace xf := xf.seq hk
    replace xs := xs.seq hk
    replace xg := xg.seq hk
    replace xh := xh.seq hk
    clear hk
    obtain ⟨xf0, xfz0, xf1, xfz1, xf2, xfz2, xf3, xfz3, xf4, xfz4⟩ := xf.f5
    obtain ⟨xs0, xsz0, xs1, xsz1, xs2, xsz2⟩ := xs.f3
    obtain ⟨xg0, xgz0, xg1, xgz1, xg2, xgz2, xg3, xgz3, xg4, xgz4⟩ := xg.f5
    obtain ⟨xh0, xhz0, xh1, xhz1, xh2, xhz2, xh3, xhz3, xh4, xhz4⟩ := xh.f5
    try go_wp2_with fail
    clear xf0 xfz0 xf1 xfz1 xf2 xfz2 xf3 xfz3 xf4 xfz4 xs0 xsz0 xs1 xsz1 xs2 xsz2 xg0 xgz0 xg1 xgz1 xg2 xgz2 xg3 xgz3 xg4 xgz4 xh0 xhz0 xh1 xhz1 xh2 xhz2 xh3 xhz3 xh4 xhz4
    clear hHeld
    refine hK.out _ _ ?_ (fun hHeld => ?_)
    · exact ⟨xg.cell 0 rfl, xg.cell 1 rfl, xg.cell 2 rfl, xg.cell 3 rfl, xg.cell 4 rfl, xh.cell 0 rfl, xh.cell 1 rfl, xh.cell 2 rfl, xh.cell 3 rfl, xh.cell 4 rfl, xf.cell 0 rfl, xf.cell 1 rfl, xf.cell 2 rfl, xf.cell 3 rfl, xf.cell 4 rfl⟩
    clear hK K
    try simp only [Act.put, l1, l2, l3, l4, l5, l6]
    refine tk 18 (v := ?_) rfl (Or.inl ⟨by rfl, ?_⟩) ?_; rotate_left
    · intro w hSw; (try dsimp only at hSw); go_simp; try with_reducible rfl
    try simp only [Act.put, l1, l2, l3, l4, l5, l6]
    refine tk 19 (v := ?_) rfl (Or.inl ⟨by rfl, ?_⟩) ?_; rotate_left
    · intro w hSw; (try dsimp only at hSw); go_simp; try with_reducible rfl
    try simp only [Act.put, l1, l2, l3, l4, l5, l6]
    refine tk 20 (v := ?_) rfl (Or.inl ⟨by rfl, ?_⟩) ?_; rotate_left
    · intro w hSw; (try dsimp only at hSw); go_simp; try with_reducible rfl
    try simp only [Act.put, l1, l2, l3, l4, l5, l6]
    refine wpAnyH_done (by kernel_rfl) ?_ _
    clear hHeld
    obtain ⟨xf0, xfz0, xf1, xfz1, xf2, xfz2, xf3, xfz3, xf4, xfz4⟩ := xf.f5
    obtain ⟨xs0, xsz0, xs1, xsz1, xs2, xsz2⟩ := xs.f3
    obtain ⟨xg0, xgz0, xg1, xgz1, xg2, xgz2, xg3, xgz3, xg4, xgz4⟩ := xg.f5
    obtain ⟨xh0, xhz0, xh1, xhz1, xh2, xhz2, xh3, xhz3, xh4, xhz4⟩ := xh.f5
    go_wp2
    go_ret
    exact ⟨rfl, hB⟩

theorem own : ownKnob Tryz.prog.godebug = none := by kernel_rfl

set_option maxRecDepth 100000 in
theorem lifted (os : Os) (started : os.Started) (H : Type) (enc : TypeId × Value → H) :
    ReturnsInHanded {} Tryz.checked os 3 .any (Rows.journalPutsSpec.pre6 enc Tryz.prog Tryz.f3 Rows.journalPutsRow.domain false) (Rows.journalPutsSpec.post enc Tryz.prog Tryz.f3 false true false false) := by
  refine returnsInHanded_of_change (C := Tryz.checked) own started (by kernel_rfl) Tryz.func3
    (ChangeSpec.witness6 (enc := enc) (C := Tryz.checked) false ⟨#[], #[.agg #[.string ⟨#[]⟩, .string ⟨#[]⟩, .int .i64 0, .int .i64 0, .int .i64 0], .agg #[.int .u64 0, .int .i64 0, .string ⟨#[]⟩]], []⟩ 8 (by kernel_rfl) (by kernel_rfl) (by kernel_rfl) (by kernel_rfl)) ?_
  intro W base args ds gs before hval hW _ _
  have hW' := hW
  obtain ⟨p, q, hA0, hV, rfl, hfz, hnd⟩ := hW
  have hA : DataW.TrodAll enc Tryz.prog W 0 (fun _ => true) true Tryz.f3.params.toList args.toList ds p := hA0
  rw [Tryz.params3] at hA hval
  obtain ⟨v0, vs0, d0, ds0, p0, q0, hargs, rfl, rfl, h0, r0⟩ := trodAll_cons hA
  obtain ⟨v1, vs1, d1, ds1, p1, q1, rfl, rfl, rfl, h1, r1⟩ := trodAll_cons r0
  obtain ⟨rfl, rfl, rfl⟩ := trodAll_nil r1
  obtain rfl : args = #[v0, v1] := by cases args; simp_all
  obtain ⟨rfl, rfl⟩ := trodVars_none hV
  have k0 := h0
  obtain ⟨s0, rfl, hs0⟩ := open_fl (hval 0 25 v0 rfl rfl) h0
  have k1 := h1
  obtain ⟨s1, rfl, hs1⟩ := open_stp (hval 1 28 v1 rfl rfl) h1
  clear hA0
  simp only [List.append_nil] at hW'
  refine (walk s0 s1 W hs0 hs1).mono fun e W' ⟨he, hB⟩ => ?_
  subst he
  exact ⟨_, rfl, ⟨_, _, _, [], _, [], hW', trodAll_cons_mk (shut_bool Tryz.underlying4 _) trodAll_mk0, (trodAll_cons_mk (Below.trod Tryz.laidOut (by kernel_rfl) (of_decide_eq_true (by kernel_rfl)) k0 hB (fun x hx => by simpa using hW'.lt x (by simp [hx]))) (trodAll_cons_mk (Below.trod Tryz.laidOut (by kernel_rfl) (of_decide_eq_true (by kernel_rfl)) k1 hB (fun x hx => by simpa using hW'.lt x (by simp [hx]))) trodAll_mk0)), rfl, hB.frame _, fun h => by cases h⟩⟩

theorem holds : Rows.JournalPutsSaid :=
  OpenClaim.holds_of_wide 3 Tryz.f3 rfl rfl rfl rfl rfl rfl rfl ⟨rfl, rfl, rfl, rfl, rfl⟩ rfl rfl rfl rfl rfl (by kernel_rfl) Tryz.func3 (by kernel_rfl)
    (of_decide_eq_true (by kernel_rfl)) (by unfold Func.isWrapper; first | (rw [if_pos (by decide +kernel)]; kernel_rfl) | (rw [if_neg (by decide +kernel)]; exact ⟨rfl, rfl⟩))
    (fun os started H enc _ => lifted os started H enc)
end Go.Proofs.YthmpjoiifglbjaaGreat.JournalPuts

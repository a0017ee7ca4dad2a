/- The laws' own helpers of layer 16: contracts only. -/
import Derived.Test.YtdfacpppmfoiiaaRows
import Derived.Test.YtdfacpppmfoiiaaCmdOwn
import Derived.Test.YtdfacpppmfoiiaaStateOwn
import Derived.Test.YtdfacpppmfoiiaaStateOpen
import Derived.Test.YtdfacpppmfoiiaaCmdOpen
import Derived.Test.YtdfacpppmfoiiaaLaid
import Derived.Test.YtdfacpppmfoiiaaInts
import Derived.Test.YtdfacpppmfoiiaaBase
import Derived.Test.YtdfacpppmfoiiaaBox
import Derived.WalkKit
import Derived.ProofKit
import Derived.OpenShut
import Derived.ChangeMaps5
import Derived.Carry
import Derived.Lib.Hide
import Derived.OwnWalk
import Derived.Deep.RegionHeld3
import Derived.WalkLawsBesides
import Derived.WalkSpells
import Derived.IntWalk
namespace Go.Proofs.Ytdfacpppmfoiiaa
open Go.RowKit
set_option linter.unusedVariables false
set_option linter.unusedSimpArgs false

theorem sh16_at4 {s : St} {c : Cm} (h : c.kind = 4) : deltaE s c = homeE c := by
  unfold deltaE; rw [if_neg (by omega), if_neg (by omega), if_neg (by omega), if_pos h]

open Ieee in
theorem sh16_home : fixE 4602678819172646912 90 = 0 ∧ fixN 4602678819172646912 90 = 4096 ∧ fixE 13830554455654793216 180 = 0 ∧ fixN 13830554455654793216 180 = -8192 := by
  have h1 : isNum 4602678819172646912 ∧ rungOf 4602678819172646912 < infR ∧ 4602678819172646912 < 2 ^ 64 ∧ fv 4602678819172646912 = (pw 1073 : Int) := valHalf
  have h2 : isNum 13830554455654793216 ∧ rungOf 13830554455654793216 < infR ∧ 13830554455654793216 < 2 ^ 64 ∧ fv 13830554455654793216 = -((U : Nat) : Int) := word_at 13830554455654793216 true 1022 rfl (by unfold infR; omega)
  have hu := U_two
  have hp := U_pos
  have v1 : fixV (pw 1073 : Int) = 4096 := fixV_back (by rw [hu, Int.natCast_mul]; omega)
  have v2 : fixV (-((U : Nat) : Int)) = -8192 := fixV_back (by omega)
  have r1 : inRange 4602678819172646912 90 := ⟨by decide, by decide, by rw [h1.2.2.2, hu, Int.natCast_mul]; omega, by rw [h1.2.2.2, hu, Int.natCast_mul]; omega⟩
  have r2 : inRange 13830554455654793216 180 := ⟨by decide, by decide, by rw [h2.2.2.2]; omega, by rw [h2.2.2.2]; omega⟩
  exact ⟨by unfold fixE; rw [if_neg (fun k => k h1.1), if_pos r1], by unfold fixN; rw [if_pos ⟨h1.1, r1⟩, h1.2.2.2]; exact v1, by unfold fixE; rw [if_neg (fun k => k h2.1), if_pos r2], by unfold fixN; rw [if_pos ⟨h2.1, r2⟩, h2.2.2.2]; exact v2⟩

set_option maxRecDepth 100000 in
set_option maxHeartbeats 8000000 in
theorem law16Its (s : St) (W : World) : Calls Try.prog 11 #[.agg #[.int .i64 s.mode, .bool s.armed, .bool s.home, .int .i64 s.lat, .int .i64 s.lon, .int .i64 s.iso]] W fun e W' => e = .returned (.agg #[.int .i64 s.mode, .bool s.armed, .bool s.home, .int .i64 s.lat, .int .i64 s.lon, .int .i64 s.iso]) ∧ Below W.heap.size W W' := by
  go_enter Try.func11, Try.ntmps11
  go_wp2
  exact bodyPost_ret (v := .agg #[.int .i64 s.mode, .bool s.armed, .bool s.home, .int .i64 s.lat, .int .i64 s.lon, .int .i64 s.iso]) (by simp [results, Try.results11, go_sem]) rfl ⟨rfl, ((Below.refl _ _).alloc (Nat.le_refl _) _).alloc (by simp) _⟩

set_option maxRecDepth 100000 in
set_option maxHeartbeats 8000000 in
theorem shown16 (W : World) : Calls Try.prog 12 #[] W fun e W' => e = .returned (.bool true) ∧ Below W.heap.size W W' := by
  have T0 := Lib.hid (fun (W : World) => (show Calls Try.prog 22 #[] W fun e W' => e = .returned (.agg #[.int .i64 0, .bool false, .bool false, .int .i64 0, .int .i64 0, .int .i64 0]) ∧ Below W.heap.size W W' from own14Default W))
  obtain ⟨q1, q2, q3, q4⟩ := sh16_home
  have T1 := Lib.hid (fun (W : World) => (show Calls Try.prog 13 #[.agg #[.int .i64 0, .bool false, .bool false, .int .i64 0, .int .i64 0, .int .i64 0], .agg #[.int .i64 1, .int .i64 3, .float .f64 0, .float .f64 0]] W fun e W' => e = .returned (.tuple #[.agg #[.int .i64 0, .bool false, .bool false, .int .i64 0, .int .i64 0, .int .i64 0], .int .i64 20]) ∧ Below W.heap.size W W' from by
    have he := (show deltaE ⟨0, false, false, 0, 0, 0⟩ ⟨1, 3, 0, 0⟩ = 20 from by decide)
    have h := own16Delta ⟨0, false, false, 0, 0, 0⟩ ⟨1, 3, 0, 0⟩ W (⟨by decide, by decide, by decide, by decide, Or.inr ⟨rfl, rfl⟩⟩ : Legal ⟨0, false, false, 0, 0, 0⟩) ⟨by decide, by decide, by show (0 : Nat) < 2 ^ 64; decide, by show (0 : Nat) < 2 ^ 64; decide⟩
    rw [he, (delta_err (s := ⟨0, false, false, 0, 0, 0⟩) (c := ⟨1, 3, 0, 0⟩) (by rw [he]; decide))] at h
    exact h))
  have T2 := Lib.hid (fun (W : World) => (show Calls Try.prog 13 #[.agg #[.int .i64 0, .bool false, .bool false, .int .i64 0, .int .i64 0, .int .i64 0], .agg #[.int .i64 2, .int .i64 0, .float .f64 0, .float .f64 0]] W fun e W' => e = .returned (.tuple #[.agg #[.int .i64 1, .bool true, .bool false, .int .i64 0, .int .i64 0, .int .i64 0], .int .i64 0]) ∧ Below W.heap.size W W' from by
    have he := (show deltaE ⟨0, false, false, 0, 0, 0⟩ ⟨2, 0, 0, 0⟩ = 0 from by decide)
    have h := own16Delta ⟨0, false, false, 0, 0, 0⟩ ⟨2, 0, 0, 0⟩ W (⟨by decide, by decide, by decide, by decide, Or.inr ⟨rfl, rfl⟩⟩ : Legal ⟨0, false, false, 0, 0, 0⟩) ⟨by decide, by decide, by show (0 : Nat) < 2 ^ 64; decide, by show (0 : Nat) < 2 ^ 64; decide⟩
    rw [he, (show deltaS ⟨0, false, false, 0, 0, 0⟩ ⟨2, 0, 0, 0⟩ = ⟨1, true, false, 0, 0, 0⟩ from by rw [delta_done he]; rfl)] at h
    exact h))
  have T3 := Lib.hid (fun (W : World) => (show Calls Try.prog 13 #[.agg #[.int .i64 1, .bool true, .bool false, .int .i64 0, .int .i64 0, .int .i64 0], .agg #[.int .i64 1, .int .i64 3, .float .f64 0, .float .f64 0]] W fun e W' => e = .returned (.tuple #[.agg #[.int .i64 1, .bool true, .bool false, .int .i64 0, .int .i64 0, .int .i64 0], .int .i64 23]) ∧ Below W.heap.size W W' from by
    have he := (show deltaE ⟨1, true, false, 0, 0, 0⟩ ⟨1, 3, 0, 0⟩ = 23 from by decide)
    have h := own16Delta ⟨1, true, false, 0, 0, 0⟩ ⟨1, 3, 0, 0⟩ W (⟨by decide, by decide, by decide, by decide, Or.inr ⟨rfl, rfl⟩⟩ : Legal ⟨1, true, false, 0, 0, 0⟩) ⟨by decide, by decide, by show (0 : Nat) < 2 ^ 64; decide, by show (0 : Nat) < 2 ^ 64; decide⟩
    rw [he, (delta_err (s := ⟨1, true, false, 0, 0, 0⟩) (c := ⟨1, 3, 0, 0⟩) (by rw [he]; decide))] at h
    exact h))
  have T4 := Lib.hid (fun (W : World) => (show Calls Try.prog 13 #[.agg #[.int .i64 1, .bool true, .bool false, .int .i64 0, .int .i64 0, .int .i64 0], .agg #[.int .i64 4, .int .i64 0, .float .f64 4602678819172646912, .float .f64 13830554455654793216]] W fun e W' => e = .returned (.tuple #[.agg #[.int .i64 1, .bool true, .bool true, .int .i64 4096, .int .i64 (-8192), .int .i64 0], .int .i64 0]) ∧ Below W.heap.size W W' from by
    have he := (show deltaE ⟨1, true, false, 0, 0, 0⟩ ⟨4, 0, 4602678819172646912, 13830554455654793216⟩ = 0 from (sh16_at4 rfl).trans (homeE_zero.2 ⟨q1, q3⟩))
    have h := own16Delta ⟨1, true, false, 0, 0, 0⟩ ⟨4, 0, 4602678819172646912, 13830554455654793216⟩ W (⟨by decide, by decide, by decide, by decide, Or.inr ⟨rfl, rfl⟩⟩ : Legal ⟨1, true, false, 0, 0, 0⟩) ⟨by decide, by decide, by show (4602678819172646912 : Nat) < 2 ^ 64; decide, by show (13830554455654793216 : Nat) < 2 ^ 64; decide⟩
    rw [he, (show deltaS ⟨1, true, false, 0, 0, 0⟩ ⟨4, 0, 4602678819172646912, 13830554455654793216⟩ = ⟨1, true, true, 4096, -8192, 0⟩ from by rw [delta_done he]; show setHome ⟨1, true, false, 0, 0, 0⟩ (fixN 4602678819172646912 90) (fixN 13830554455654793216 180) = _; rw [q2, q4]; rfl)] at h
    exact h))
  have T5 := Lib.hid (fun (W : World) => (show Calls Try.prog 13 #[.agg #[.int .i64 1, .bool true, .bool true, .int .i64 4096, .int .i64 (-8192), .int .i64 0], .agg #[.int .i64 1, .int .i64 3, .float .f64 0, .float .f64 0]] W fun e W' => e = .returned (.tuple #[.agg #[.int .i64 3, .bool true, .bool true, .int .i64 4096, .int .i64 (-8192), .int .i64 0], .int .i64 0]) ∧ Below W.heap.size W W' from by
    have he := (show deltaE ⟨1, true, true, 4096, -8192, 0⟩ ⟨1, 3, 0, 0⟩ = 0 from by decide)
    have h := own16Delta ⟨1, true, true, 4096, -8192, 0⟩ ⟨1, 3, 0, 0⟩ W (⟨by decide, by decide, by decide, by decide, Or.inl rfl⟩ : Legal ⟨1, true, true, 4096, -8192, 0⟩) ⟨by decide, by decide, by show (0 : Nat) < 2 ^ 64; decide, by show (0 : Nat) < 2 ^ 64; decide⟩
    rw [he, (show deltaS ⟨1, true, true, 4096, -8192, 0⟩ ⟨1, 3, 0, 0⟩ = ⟨3, true, true, 4096, -8192, 0⟩ from by rw [delta_done he]; rfl)] at h
    exact h))
  have T6 := Lib.hid (fun (W : World) => (show Calls Try.prog 13 #[.agg #[.int .i64 3, .bool true, .bool true, .int .i64 4096, .int .i64 (-8192), .int .i64 0], .agg #[.int .i64 5, .int .i64 2, .float .f64 0, .float .f64 0]] W fun e W' => e = .returned (.tuple #[.agg #[.int .i64 3, .bool true, .bool true, .int .i64 4096, .int .i64 (-8192), .int .i64 4], .int .i64 0]) ∧ Below W.heap.size W W' from by
    have he := (show deltaE ⟨3, true, true, 4096, -8192, 0⟩ ⟨5, 2, 0, 0⟩ = 0 from by decide)
    have h := own16Delta ⟨3, true, true, 4096, -8192, 0⟩ ⟨5, 2, 0, 0⟩ W (⟨by decide, by decide, by decide, by decide, Or.inl rfl⟩ : Legal ⟨3, true, true, 4096, -8192, 0⟩) ⟨by decide, by decide, by show (0 : Nat) < 2 ^ 64; decide, by show (0 : Nat) < 2 ^ 64; decide⟩
    rw [he, (show deltaS ⟨3, true, true, 4096, -8192, 0⟩ ⟨5, 2, 0, 0⟩ = ⟨3, true, true, 4096, -8192, 4⟩ from by rw [delta_done he]; rfl)] at h
    exact h))
  have T7 := Lib.hid (fun (W : World) => (show Calls Try.prog 13 #[.agg #[.int .i64 3, .bool true, .bool true, .int .i64 4096, .int .i64 (-8192), .int .i64 4], .agg #[.int .i64 5, .int .i64 1, .float .f64 0, .float .f64 0]] W fun e W' => e = .returned (.tuple #[.agg #[.int .i64 3, .bool true, .bool true, .int .i64 4096, .int .i64 (-8192), .int .i64 4], .int .i64 24]) ∧ Below W.heap.size W W' from by
    have he := (show deltaE ⟨3, true, true, 4096, -8192, 4⟩ ⟨5, 1, 0, 0⟩ = 24 from by decide)
    have h := own16Delta ⟨3, true, true, 4096, -8192, 4⟩ ⟨5, 1, 0, 0⟩ W (⟨by decide, by decide, by decide, by decide, Or.inl rfl⟩ : Legal ⟨3, true, true, 4096, -8192, 4⟩) ⟨by decide, by decide, by show (0 : Nat) < 2 ^ 64; decide, by show (0 : Nat) < 2 ^ 64; decide⟩
    rw [he, (delta_err (s := ⟨3, true, true, 4096, -8192, 4⟩) (c := ⟨5, 1, 0, 0⟩) (by rw [he]; decide))] at h
    exact h))
  have T8 := Lib.hid (fun (W : World) => (show Calls Try.prog 13 #[.agg #[.int .i64 3, .bool true, .bool true, .int .i64 4096, .int .i64 (-8192), .int .i64 4], .agg #[.int .i64 3, .int .i64 0, .float .f64 0, .float .f64 0]] W fun e W' => e = .returned (.tuple #[.agg #[.int .i64 3, .bool true, .bool true, .int .i64 4096, .int .i64 (-8192), .int .i64 4], .int .i64 20]) ∧ Below W.heap.size W W' from by
    have he := (show deltaE ⟨3, true, true, 4096, -8192, 4⟩ ⟨3, 0, 0, 0⟩ = 20 from by decide)
    have h := own16Delta ⟨3, true, true, 4096, -8192, 4⟩ ⟨3, 0, 0, 0⟩ W (⟨by decide, by decide, by decide, by decide, Or.inl rfl⟩ : Legal ⟨3, true, true, 4096, -8192, 4⟩) ⟨by decide, by decide, by show (0 : Nat) < 2 ^ 64; decide, by show (0 : Nat) < 2 ^ 64; decide⟩
    rw [he, (delta_err (s := ⟨3, true, true, 4096, -8192, 4⟩) (c := ⟨3, 0, 0, 0⟩) (by rw [he]; decide))] at h
    exact h))
  have F1 := Lib.hid (fun (W : World) => (show Calls Try.prog 15 #[.agg #[.int .i64 3, .bool true, .bool true, .int .i64 4096, .int .i64 (-8192), .int .i64 4]] W fun e W' => e = .returned (.bool true) ∧ Below W.heap.size W W' from own16Fits ⟨3, true, true, 4096, -8192, 4⟩ W ⟨by decide, by decide, by decide, by decide, Or.inl rfl⟩))
  have F2 := Lib.hid (fun (W : World) => (show Calls Try.prog 15 #[.agg #[.int .i64 0, .bool false, .bool false, .int .i64 0, .int .i64 0, .int .i64 0]] W fun e W' => e = .returned (.bool true) ∧ Below W.heap.size W W' from own16Fits ⟨0, false, false, 0, 0, 0⟩ W ⟨by decide, by decide, by decide, by decide, Or.inr ⟨rfl, rfl⟩⟩))
  have hB : Below W.heap.size W W := Below.refl _ _
  go_enter Try.func12, Try.ntmps12
  go_wp2_with fail
  refine (T0.out _).mono ?_
  rintro e V1 ⟨rfl, hk⟩
  replace hB := below_seq hB hk
  clear hk
  have xs := Box.new 23 V1 [.int .i64 0, .bool false, .bool false, .int .i64 0, .int .i64 0, .int .i64 0]
  have le_xs : W.heap.size ≤ V1.heap.size := hB.size
  replace hB := hB.alloc hB.size (.cells #[.int .i64 0, .bool false, .bool false, .int .i64 0, .int .i64 0, .int .i64 0] 23)
  obtain ⟨xs0, xsz0, xs1, xsz1, xs2, xsz2, xs3, xsz3, xs4, xsz4, xs5, xsz5⟩ := xs.f6
  go_wp2_with fail
  refine (T1.out _).mono ?_
  rintro e V2 ⟨rfl, hk⟩
  clear xs0 xsz0 xs1 xsz1 xs2 xsz2 xs3 xsz3 xs4 xsz4 xs5 xsz5
  replace hB := below_seq hB hk
  replace xs := xs.seq hk
  clear hk
  have x1 := Box.new 23 V2 [.int .i64 0, .bool false, .bool false, .int .i64 0, .int .i64 0, .int .i64 0]
  have ne_x1_xs : V2.heap.size ≠ V1.heap.size := Nat.ne_of_gt xs.lt
  have le_x1 : W.heap.size ≤ V2.heap.size := hB.size
  replace xs := xs.alloc (.cells #[.int .i64 0, .bool false, .bool false, .int .i64 0, .int .i64 0, .int .i64 0] 23)
  replace hB := hB.alloc hB.size (.cells #[.int .i64 0, .bool false, .bool false, .int .i64 0, .int .i64 0, .int .i64 0] 23)
  obtain ⟨xs0, xsz0, xs1, xsz1, xs2, xsz2, xs3, xsz3, xs4, xsz4, xs5, xsz5⟩ := xs.f6
  go_wp2_with fail
  refine (T2.out _).mono ?_
  rintro e V3 ⟨rfl, hk⟩
  clear xs0 xsz0 xs1 xsz1 xs2 xsz2 xs3 xsz3 xs4 xsz4 xs5 xsz5
  replace hB := below_seq hB hk
  replace xs := xs.seq hk
  replace x1 := x1.seq hk
  clear hk
  have xa := Box.new 23 V3 [.int .i64 1, .bool true, .bool false, .int .i64 0, .int .i64 0, .int .i64 0]
  have ne_xa_xs : V3.heap.size ≠ V1.heap.size := Nat.ne_of_gt xs.lt
  have ne_xa_x1 : V3.heap.size ≠ V2.heap.size := Nat.ne_of_gt x1.lt
  have le_xa : W.heap.size ≤ V3.heap.size := hB.size
  replace xs := xs.alloc (.cells #[.int .i64 1, .bool true, .bool false, .int .i64 0, .int .i64 0, .int .i64 0] 23)
  replace x1 := x1.alloc (.cells #[.int .i64 1, .bool true, .bool false, .int .i64 0, .int .i64 0, .int .i64 0] 23)
  replace hB := hB.alloc hB.size (.cells #[.int .i64 1, .bool true, .bool false, .int .i64 0, .int .i64 0, .int .i64 0] 23)
  obtain ⟨xa0, xaz0, xa1, xaz1, xa2, xaz2, xa3, xaz3, xa4, xaz4, xa5, xaz5⟩ := xa.f6
  go_wp2_with fail
  refine (T3.out _).mono ?_
  rintro e V4 ⟨rfl, hk⟩
  clear xa0 xaz0 xa1 xaz1 xa2 xaz2 xa3 xaz3 xa4 xaz4 xa5 xaz5
  replace hB := below_seq hB hk
  replace xs := xs.seq hk
  replace x1 := x1.seq hk
  replace xa := xa.seq hk
  clear hk
  have x3 := Box.new 23 V4 [.int .i64 1, .bool true, .bool false, .int .i64 0, .int .i64 0, .int .i64 0]
  have ne_x3_xs : V4.heap.size ≠ V1.heap.size := Nat.ne_of_gt xs.lt
  have ne_x3_x1 : V4.heap.size ≠ V2.heap.size := Nat.ne_of_gt x1.lt
  have ne_x3_xa : V4.heap.size ≠ V3.heap.size := Nat.ne_of_gt xa.lt
  have le_x3 : W.heap.size ≤ V4.heap.size := hB.size
  replace xs := xs.alloc (.cells #[.int .i64 1, .bool true, .bool false, .int .i64 0, .int .i64 0, .int .i64 0] 23)
  replace x1 := x1.alloc (.cells #[.int .i64 1, .bool true, .bool false, .int .i64 0, .int .i64 0, .int .i64 0] 23)
  replace xa := xa.alloc (.cells #[.int .i64 1, .bool true, .bool false, .int .i64 0, .int .i64 0, .int .i64 0] 23)
  replace hB := hB.alloc hB.size (.cells #[.int .i64 1, .bool true, .bool false, .int .i64 0, .int .i64 0, .int .i64 0] 23)
  obtain ⟨xa0, xaz0, xa1, xaz1, xa2, xaz2, xa3, xaz3, xa4, xaz4, xa5, xaz5⟩ := xa.f6
  go_wp2_with fail
  refine (T4.out _).mono ?_
  rintro e V5 ⟨rfl, hk⟩
  clear xa0 xaz0 xa1 xaz1 xa2 xaz2 xa3 xaz3 xa4 xaz4 xa5 xaz5
  replace hB := below_seq hB hk
  replace xs := xs.seq hk
  replace x1 := x1.seq hk
  replace xa := xa.seq hk
  replace x3 := x3.seq hk
  clear hk
  have xb := Box.new 23 V5 [.int .i64 1, .bool true, .bool true, .int .i64 4096, .int .i64 (-8192), .int .i64 0]
  have ne_xb_xs : V5.heap.size ≠ V1.heap.size := Nat.ne_of_gt xs.lt
  have ne_xb_x1 : V5.heap.size ≠ V2.heap.size := Nat.ne_of_gt x1.lt
  have ne_xb_xa : V5.heap.size ≠ V3.heap.size := Nat.ne_of_gt xa.lt
  have ne_xb_x3 : V5.heap.size ≠ V4.heap.size := Nat.ne_of_gt x3.lt
  have le_xb : W.heap.size ≤ V5.heap.size := hB.size
  replace xs := xs.alloc (.cells #[.int .i64 1, .bool true, .bool true, .int .i64 4096, .int .i64 (-8192), .int .i64 0] 23)
  replace x1 := x1.alloc (.cells #[.int .i64 1, .bool true, .bool true, .int .i64 4096, .int .i64 (-8192), .int .i64 0] 23)
  replace xa := xa.alloc (.cells #[.int .i64 1, .bool true, .bool true, .int .i64 4096, .int .i64 (-8192), .int .i64 0] 23)
  replace x3 := x3.alloc (.cells #[.int .i64 1, .bool true, .bool true, .int .i64 4096, .int .i64 (-8192), .int .i64 0] 23)
  replace hB := hB.alloc hB.size (.cells #[.int .i64 1, .bool true, .bool true, .int .i64 4096, .int .i64 (-8192), .int .i64 0] 23)
  obtain ⟨xb0, xbz0, xb1, xbz1, xb2, xbz2, xb3, xbz3, xb4, xbz4, xb5, xbz5⟩ := xb.f6
  go_wp2_with fail
  refine (T5.out _).mono ?_
  rintro e V6 ⟨rfl, hk⟩
  clear xb0 xbz0 xb1 xbz1 xb2 xbz2 xb3 xbz3 xb4 xbz4 xb5 xbz5
  replace hB := below_seq hB hk
  replace xs := xs.seq hk
  replace x1 := x1.seq hk
  replace xa := xa.seq hk
  replace x3 := x3.seq hk
  replace xb := xb.seq hk
  clear hk
  have xc := Box.new 23 V6 [.int .i64 3, .bool true, .bool true, .int .i64 4096, .int .i64 (-8192), .int .i64 0]
  have ne_xc_xs : V6.heap.size ≠ V1.heap.size := Nat.ne_of_gt xs.lt
  have ne_xc_x1 : V6.heap.size ≠ V2.heap.size := Nat.ne_of_gt x1.lt
  have ne_xc_xa : V6.heap.size ≠ V3.heap.size := Nat.ne_of_gt xa.lt
  have ne_xc_x3 : V6.heap.size ≠ V4.heap.size := Nat.ne_of_gt x3.lt
  have ne_xc_xb : V6.heap.size ≠ V5.heap.size := Nat.ne_of_gt xb.lt
  have le_xc : W.heap.size ≤ V6.heap.size := hB.size
  replace xs := xs.alloc (.cells #[.int .i64 3, .bool true, .bool true, .int .i64 4096, .int .i64 (-8192), .int .i64 0] 23)
  replace x1 := x1.alloc (.cells #[.int .i64 3, .bool true, .bool true, .int .i64 4096, .int .i64 (-8192), .int .i64 0] 23)
  replace xa := xa.alloc (.cells #[.int .i64 3, .bool true, .bool true, .int .i64 4096, .int .i64 (-8192), .int .i64 0] 23)
  replace x3 := x3.alloc (.cells #[.int .i64 3, .bool true, .bool true, .int .i64 4096, .int .i64 (-8192), .int .i64 0] 23)
  replace xb := xb.alloc (.cells #[.int .i64 3, .bool true, .bool true, .int .i64 4096, .int .i64 (-8192), .int .i64 0] 23)
  replace hB := hB.alloc hB.size (.cells #[.int .i64 3, .bool true, .bool true, .int .i64 4096, .int .i64 (-8192), .int .i64 0] 23)
  obtain ⟨xc0, xcz0, xc1, xcz1, xc2, xcz2, xc3, xcz3, xc4, xcz4, xc5, xcz5⟩ := xc.f6
  go_wp2_with fail
  refine (T6.out _).mono ?_
  rintro e V7 ⟨rfl, hk⟩
  clear xc0 xcz0 xc1 xcz1 xc2 xcz2 xc3 xcz3 xc4 xcz4 xc5 xcz5
  replace hB := below_seq hB hk
  replace xs := xs.seq hk
  replace x1 := x1.seq hk
  replace xa := xa.seq hk
  replace x3 := x3.seq hk
  replace xb := xb.seq hk
  replace xc := xc.seq hk
  clear hk
  have xd := Box.new 23 V7 [.int .i64 3, .bool true, .bool true, .int .i64 4096, .int .i64 (-8192), .int .i64 4]
  have ne_xd_xs : V7.heap.size ≠ V1.heap.size := Nat.ne_of_gt xs.lt
  have ne_xd_x1 : V7.heap.size ≠ V2.heap.size := Nat.ne_of_gt x1.lt
  have ne_xd_xa : V7.heap.size ≠ V3.heap.size := Nat.ne_of_gt xa.lt
  have ne_xd_x3 : V7.heap.size ≠ V4.heap.size := Nat.ne_of_gt x3.lt
  have ne_xd_xb : V7.heap.size ≠ V5.heap.size := Nat.ne_of_gt xb.lt
  have ne_xd_xc : V7.heap.size ≠ V6.heap.size := Nat.ne_of_gt xc.lt
  have le_xd : W.heap.size ≤ V7.heap.size := hB.size
  replace xs := xs.alloc (.cells #[.int .i64 3, .bool true, .bool true, .int .i64 4096, .int .i64 (-8192), .int .i64 4] 23)
  replace x1 := x1.alloc (.cells #[.int .i64 3, .bool true, .bool true, .int .i64 4096, .int .i64 (-8192), .int .i64 4] 23)
  replace xa := xa.alloc (.cells #[.int .i64 3, .bool true, .bool true, .int .i64 4096, .int .i64 (-8192), .int .i64 4] 23)
  replace x3 := x3.alloc (.cells #[.int .i64 3, .bool true, .bool true, .int .i64 4096, .int .i64 (-8192), .int .i64 4] 23)
  replace xb := xb.alloc (.cells #[.int .i64 3, .bool true, .bool true, .int .i64 4096, .int .i64 (-8192), .int .i64 4] 23)
  replace xc := xc.alloc (.cells #[.int .i64 3, .bool true, .bool true, .int .i64 4096, .int .i64 (-8192), .int .i64 4] 23)
  replace hB := hB.alloc hB.size (.cells #[.int .i64 3, .bool true, .bool true, .int .i64 4096, .int .i64 (-8192), .int .i64 4] 23)
  obtain ⟨xd0, xdz0, xd1, xdz1, xd2, xdz2, xd3, xdz3, xd4, xdz4, xd5, xdz5⟩ := xd.f6
  go_wp2_with fail
  refine (T7.out _).mono ?_
  rintro e V8 ⟨rfl, hk⟩
  clear xd0 xdz0 xd1 xdz1 xd2 xdz2 xd3 xdz3 xd4 xdz4 xd5 xdz5
  replace hB := below_seq hB hk
  replace xs := xs.seq hk
  replace x1 := x1.seq hk
  replace xa := xa.seq hk
  replace x3 := x3.seq hk
  replace xb := xb.seq hk
  replace xc := xc.seq hk
  replace xd := xd.seq hk
  clear hk
  have x7 := Box.new 23 V8 [.int .i64 3, .bool true, .bool true, .int .i64 4096, .int .i64 (-8192), .int .i64 4]
  have ne_x7_xs : V8.heap.size ≠ V1.heap.size := Nat.ne_of_gt xs.lt
  have ne_x7_x1 : V8.heap.size ≠ V2.heap.size := Nat.ne_of_gt x1.lt
  have ne_x7_xa : V8.heap.size ≠ V3.heap.size := Nat.ne_of_gt xa.lt
  have ne_x7_x3 : V8.heap.size ≠ V4.heap.size := Nat.ne_of_gt x3.lt
  have ne_x7_xb : V8.heap.size ≠ V5.heap.size := Nat.ne_of_gt xb.lt
  have ne_x7_xc : V8.heap.size ≠ V6.heap.size := Nat.ne_of_gt xc.lt
  have ne_x7_xd : V8.heap.size ≠ V7.heap.size := Nat.ne_of_gt xd.lt
  have le_x7 : W.heap.size ≤ V8.heap.size := hB.size
  replace xs := xs.alloc (.cells #[.int .i64 3, .bool true, .bool true, .int .i64 4096, .int .i64 (-8192), .int .i64 4] 23)
  replace x1 := x1.alloc (.cells #[.int .i64 3, .bool true, .bool true, .int .i64 4096, .int .i64 (-8192), .int .i64 4] 23)
  replace xa := xa.alloc (.cells #[.int .i64 3, .bool true, .bool true, .int .i64 4096, .int .i64 (-8192), .int .i64 4] 23)
  replace x3 := x3.alloc (.cells #[.int .i64 3, .bool true, .bool true, .int .i64 4096, .int .i64 (-8192), .int .i64 4] 23)
  replace xb := xb.alloc (.cells #[.int .i64 3, .bool true, .bool true, .int .i64 4096, .int .i64 (-8192), .int .i64 4] 23)
  replace xc := xc.alloc (.cells #[.int .i64 3, .bool true, .bool true, .int .i64 4096, .int .i64 (-8192), .int .i64 4] 23)
  replace xd := xd.alloc (.cells #[.int .i64 3, .bool true, .bool true, .int .i64 4096, .int .i64 (-8192), .int .i64 4] 23)
  replace hB := hB.alloc hB.size (.cells #[.int .i64 3, .bool true, .bool true, .int .i64 4096, .int .i64 (-8192), .int .i64 4] 23)
  obtain ⟨xd0, xdz0, xd1, xdz1, xd2, xdz2, xd3, xdz3, xd4, xdz4, xd5, xdz5⟩ := xd.f6
  go_wp2_with fail
  refine (T8.out _).mono ?_
  rintro e V9 ⟨rfl, hk⟩
  clear xd0 xdz0 xd1 xdz1 xd2 xdz2 xd3 xdz3 xd4 xdz4 xd5 xdz5
  replace hB := below_seq hB hk
  replace xs := xs.seq hk
  replace x1 := x1.seq hk
  replace xa := xa.seq hk
  replace x3 := x3.seq hk
  replace xb := xb.seq hk
  replace xc := xc.seq hk
  replace xd := xd.seq hk
  replace x7 := x7.seq hk
  clear hk
  have x8 := Box.new 23 V9 [.int .i64 3, .bool true, .bool true, .int .i64 4096, .int .i64 (-8192), .int .i64 4]
  have ne_x8_xs : V9.heap.size ≠ V1.heap.size := Nat.ne_of_gt xs.lt
  have ne_x8_x1 : V9.heap.size ≠ V2.heap.size := Nat.ne_of_gt x1.lt
  have ne_x8_xa : V9.heap.size ≠ V3.heap.size := Nat.ne_of_gt xa.lt
  have ne_x8_x3 : V9.heap.size ≠ V4.heap.size := Nat.ne_of_gt x3.lt
  have ne_x8_xb : V9.heap.size ≠ V5.heap.size := Nat.ne_of_gt xb.lt
  have ne_x8_xc : V9.heap.size ≠ V6.heap.size := Nat.ne_of_gt xc.lt
  have ne_x8_xd : V9.heap.size ≠ V7.heap.size := Nat.ne_of_gt xd.lt
  have ne_x8_x7 : V9.heap.size ≠ V8.heap.size := Nat.ne_of_gt x7.lt
  have le_x8 : W.heap.size ≤ V9.heap.size := hB.size
  replace xs := xs.alloc (.cells #[.int .i64 3, .bool true, .bool true, .int .i64 4096, .int .i64 (-8192), .int .i64 4] 23)
  replace x1 := x1.alloc (.cells #[.int .i64 3, .bool true, .bool true, .int .i64 4096, .int .i64 (-8192), .int .i64 4] 23)
  replace xa := xa.alloc (.cells #[.int .i64 3, .bool true, .bool true, .int .i64 4096, .int .i64 (-8192), .int .i64 4] 23)
  replace x3 := x3.alloc (.cells #[.int .i64 3, .bool true, .bool true, .int .i64 4096, .int .i64 (-8192), .int .i64 4] 23)
  replace xb := xb.alloc (.cells #[.int .i64 3, .bool true, .bool true, .int .i64 4096, .int .i64 (-8192), .int .i64 4] 23)
  replace xc := xc.alloc (.cells #[.int .i64 3, .bool true, .bool true, .int .i64 4096, .int .i64 (-8192), .int .i64 4] 23)
  replace xd := xd.alloc (.cells #[.int .i64 3, .bool true, .bool true, .int .i64 4096, .int .i64 (-8192), .int .i64 4] 23)
  replace x7 := x7.alloc (.cells #[.int .i64 3, .bool true, .bool true, .int .i64 4096, .int .i64 (-8192), .int .i64 4] 23)
  replace hB := hB.alloc hB.size (.cells #[.int .i64 3, .bool true, .bool true, .int .i64 4096, .int .i64 (-8192), .int .i64 4] 23)
  obtain ⟨xs0, xsz0, xs1, xsz1, xs2, xsz2, xs3, xsz3, xs4, xsz4, xs5, xsz5⟩ := xs.f6
  obtain ⟨xa0, xaz0, xa1, xaz1, xa2, xaz2, xa3, xaz3, xa4, xaz4, xa5, xaz5⟩ := xa.f6
  obtain ⟨xb0, xbz0, xb1, xbz1, xb2, xbz2, xb3, xbz3, xb4, xbz4, xb5, xbz5⟩ := xb.f6
  obtain ⟨xc0, xcz0, xc1, xcz1, xc2, xcz2, xc3, xcz3, xc4, xcz4, xc5, xcz5⟩ := xc.f6
  obtain ⟨xd0, xdz0, xd1, xdz1, xd2, xdz2, xd3, xdz3, xd4, xdz4, xd5, xdz5⟩ := xd.f6
  go_wp2_with fail
  refine (F1.out _).mono ?_
  rintro e V10 ⟨rfl, hk⟩
  clear xs0 xsz0 xs1 xsz1 xs2 xsz2 xs3 xsz3 xs4 xsz4 xs5 xsz5 xa0 xaz0 xa1 xaz1 xa2 xaz2 xa3 xaz3 xa4 xaz4 xa5 xaz5 xb0 xbz0 xb1 xbz1 xb2 xbz2 xb3 xbz3 xb4 xbz4 xb5 xbz5 xc0 xcz0 xc1 xcz1 xc2 xcz2 xc3 xcz3 xc4 xcz4 xc5 xcz5 xd0 xdz0 xd1 xdz1 xd2 xdz2 xd3 xdz3 xd4 xdz4 xd5 xdz5
  replace hB := below_seq hB hk
  replace xs := xs.seq hk
  replace x1 := x1.seq hk
  replace xa := xa.seq hk
  replace x3 := x3.seq hk
  replace xb := xb.seq hk
  replace xc := xc.seq hk
  replace xd := xd.seq hk
  replace x7 := x7.seq hk
  replace x8 := x8.seq hk
  clear hk
  obtain ⟨xs0, xsz0, xs1, xsz1, xs2, xsz2, xs3, xsz3, xs4, xsz4, xs5, xsz5⟩ := xs.f6
  obtain ⟨xa0, xaz0, xa1, xaz1, xa2, xaz2, xa3, xaz3, xa4, xaz4, xa5, xaz5⟩ := xa.f6
  obtain ⟨xb0, xbz0, xb1, xbz1, xb2, xbz2, xb3, xbz3, xb4, xbz4, xb5, xbz5⟩ := xb.f6
  obtain ⟨xc0, xcz0, xc1, xcz1, xc2, xcz2, xc3, xcz3, xc4, xcz4, xc5, xcz5⟩ := xc.f6
  obtain ⟨xd0, xdz0, xd1, xdz1, xd2, xdz2, xd3, xdz3, xd4, xdz4, xd5, xdz5⟩ := xd.f6
  go_wp2_with fail
  refine (F2.out _).mono ?_
  rintro e V11 ⟨rfl, hk⟩
  clear xs0 xsz0 xs1 xsz1 xs2 xsz2 xs3 xsz3 xs4 xsz4 xs5 xsz5 xa0 xaz0 xa1 xaz1 xa2 xaz2 xa3 xaz3 xa4 xaz4 xa5 xaz5 xb0 xbz0 xb1 xbz1 xb2 xbz2 xb3 xbz3 xb4 xbz4 xb5 xbz5 xc0 xcz0 xc1 xcz1 xc2 xcz2 xc3 xcz3 xc4 xcz4 xc5 xcz5 xd0 xdz0 xd1 xdz1 xd2 xdz2 xd3 xdz3 xd4 xdz4 xd5 xdz5
  replace hB := below_seq hB hk
  replace xs := xs.seq hk
  replace x1 := x1.seq hk
  replace xa := xa.seq hk
  replace x3 := x3.seq hk
  replace xb := xb.seq hk
  replace xc := xc.seq hk
  replace xd := xd.seq hk
  replace x7 := x7.seq hk
  replace x8 := x8.seq hk
  clear hk
  obtain ⟨xs0, xsz0, xs1, xsz1, xs2, xsz2, xs3, xsz3, xs4, xsz4, xs5, xsz5⟩ := xs.f6
  obtain ⟨xa0, xaz0, xa1, xaz1, xa2, xaz2, xa3, xaz3, xa4, xaz4, xa5, xaz5⟩ := xa.f6
  obtain ⟨xb0, xbz0, xb1, xbz1, xb2, xbz2, xb3, xbz3, xb4, xbz4, xb5, xbz5⟩ := xb.f6
  obtain ⟨xc0, xcz0, xc1, xcz1, xc2, xcz2, xc3, xcz3, xc4, xcz4, xc5, xcz5⟩ := xc.f6
  obtain ⟨xd0, xdz0, xd1, xdz1, xd2, xdz2, xd3, xdz3, xd4, xdz4, xd5, xdz5⟩ := xd.f6
  go_wp2
  go_ret
  exact ⟨rfl, hB⟩

end Go.Proofs.Ytdfacpppmfoiiaa

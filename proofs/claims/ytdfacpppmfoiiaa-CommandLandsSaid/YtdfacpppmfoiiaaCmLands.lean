/- A craft that is armed, and fits, can always go to Land, or Manual, and be disarmed there (CommandLands); no condition. -/
import Derived.Test.YtdfacpppmfoiiaaCmdLaw
import Derived.Test.YtdfacpppmfoiiaaCmdGo
import Derived.Deep.RegionHeld3
import Derived.WalkLawsBesides
import Derived.WalkSpells
import Derived.IntWalk
import Derived.Lib.Hide
import Derived.Test.YtdfacpppmfoiiaaBox
import Derived.ProofKit
import Derived.OpenShut
import Derived.ChangeMaps5
import Derived.Test.YtdfacpppmfoiiaaInts
namespace Go.Proofs.Ytdfacpppmfoiiaa.CommandLands
open Go.ChangeShapes Go.WideShapes Go.ChangeAt Go.RowKit Go.ChangeMaps
set_option linter.unusedVariables false
set_option linter.unusedSimpArgs false

set_option maxRecDepth 100000 in
set_option maxHeartbeats 8000000 in
theorem walk (s : St) (W : World) (hs : s.ok) :
    Calls Try.prog 9 #[.agg #[.int .i64 s.mode, .bool s.armed, .bool s.home, .int .i64 s.lat, .int .i64 s.lon, .int .i64 s.iso]] W fun e W' => e = .returned (.bool true) ∧ Below W.heap.size W W' := by
  obtain ⟨sm, sa, sh, sl, so, si⟩ := s
  cases sa with
  | false =>
    have TI := Lib.hid (fun (V : World) => law16Its ⟨sm, false, sh, sl, so, si⟩ V)
    by_cases hl : Legal ⟨sm, false, sh, sl, so, si⟩
    · skip
      have TL := Lib.hid (fun (V : World) => (show Calls Try.prog 10 #[.agg #[.int .i64 sm, .bool false, .bool sh, .int .i64 sl, .int .i64 so, .int .i64 si]] V fun e W' => e = .returned (.bool true) ∧ Below V.heap.size V W' from by have h := ref14Legal ⟨sm, false, sh, sl, so, si⟩ V; rwa [(legal_iff ⟨sm, false, sh, sl, so, si⟩).2 hl] at h))
      cases hf : fitsB ⟨sm, false, sh, sl, so, si⟩ with
      | false =>
        have TF := Lib.hid (fun (V : World) => (show Calls Try.prog 16 #[.agg #[.int .i64 sm, .bool false, .bool sh, .int .i64 sl, .int .i64 so, .int .i64 si]] V fun e W' => e = .returned (.bool false) ∧ Below V.heap.size V W' from by have h := ref16Fits ⟨sm, false, sh, sl, so, si⟩ V; rwa [hf] at h))
        clear hf hl hs
        have hB : Below W.heap.size W (W.alloc (.cells #[.int .i64 sm, .bool false, .bool sh, .int .i64 sl, .int .i64 so, .int .i64 si] 23)) := ((Below.refl _ _).alloc (Nat.le_refl _) _)
        have xs := (Box.new 23 W [.int .i64 sm, .bool false, .bool sh, .int .i64 sl, .int .i64 so, .int .i64 si])
        go_enter Try.func9, Try.ntmps9
        obtain ⟨xs0, xsz0, xs1, xsz1, xs2, xsz2, xs3, xsz3, xs4, xsz4, xs5, xsz5⟩ := xs.f6
        go_wp2_with fail
        refine (TI.out _).mono ?_
        rintro e V1 ⟨rfl, hk⟩
        clear xs0 xsz0 xs1 xsz1 xs2 xsz2 xs3 xsz3 xs4 xsz4 xs5 xsz5
        replace hB := below_seq hB hk
        replace xs := xs.seq hk
        clear hk
        obtain ⟨xs0, xsz0, xs1, xsz1, xs2, xsz2, xs3, xsz3, xs4, xsz4, xs5, xsz5⟩ := xs.f6
        go_wp2_with fail
        refine (TL.out _).mono ?_
        rintro e V2 ⟨rfl, hk⟩
        clear xs0 xsz0 xs1 xsz1 xs2 xsz2 xs3 xsz3 xs4 xsz4 xs5 xsz5
        replace hB := below_seq hB hk
        replace xs := xs.seq hk
        clear hk
        obtain ⟨xs0, xsz0, xs1, xsz1, xs2, xsz2, xs3, xsz3, xs4, xsz4, xs5, xsz5⟩ := xs.f6
        go_wp2_with fail
        refine (TI.out _).mono ?_
        rintro e V3 ⟨rfl, hk⟩
        clear xs0 xsz0 xs1 xsz1 xs2 xsz2 xs3 xsz3 xs4 xsz4 xs5 xsz5
        replace hB := below_seq hB hk
        replace xs := xs.seq hk
        clear hk
        obtain ⟨xs0, xsz0, xs1, xsz1, xs2, xsz2, xs3, xsz3, xs4, xsz4, xs5, xsz5⟩ := xs.f6
        go_wp2_with fail
        refine (TF.out _).mono ?_
        rintro e V4 ⟨rfl, hk⟩
        clear xs0 xsz0 xs1 xsz1 xs2 xsz2 xs3 xsz3 xs4 xsz4 xs5 xsz5
        replace hB := below_seq hB hk
        replace xs := xs.seq hk
        clear hk
        obtain ⟨xs0, xsz0, xs1, xsz1, xs2, xsz2, xs3, xsz3, xs4, xsz4, xs5, xsz5⟩ := xs.f6
        go_wp2_with fail
        refine (shown16 _).mono ?_
        rintro e V5 ⟨rfl, hk⟩
        clear xs0 xsz0 xs1 xsz1 xs2 xsz2 xs3 xsz3 xs4 xsz4 xs5 xsz5
        replace hB := below_seq hB hk
        replace xs := xs.seq hk
        clear hk
        obtain ⟨xs0, xsz0, xs1, xsz1, xs2, xsz2, xs3, xsz3, xs4, xsz4, xs5, xsz5⟩ := xs.f6
        go_wp2
        go_ret
        exact ⟨rfl, hB⟩
      | true =>
        have TF := Lib.hid (fun (V : World) => (show Calls Try.prog 16 #[.agg #[.int .i64 sm, .bool false, .bool sh, .int .i64 sl, .int .i64 so, .int .i64 si]] V fun e W' => e = .returned (.bool true) ∧ Below V.heap.size V W' from by have h := ref16Fits ⟨sm, false, sh, sl, so, si⟩ V; rwa [hf] at h))
        clear hl hs
        have hB : Below W.heap.size W (W.alloc (.cells #[.int .i64 sm, .bool false, .bool sh, .int .i64 sl, .int .i64 so, .int .i64 si] 23)) := ((Below.refl _ _).alloc (Nat.le_refl _) _)
        have xs := (Box.new 23 W [.int .i64 sm, .bool false, .bool sh, .int .i64 sl, .int .i64 so, .int .i64 si])
        go_enter Try.func9, Try.ntmps9
        obtain ⟨xs0, xsz0, xs1, xsz1, xs2, xsz2, xs3, xsz3, xs4, xsz4, xs5, xsz5⟩ := xs.f6
        go_wp2_with fail
        refine (TI.out _).mono ?_
        rintro e V1 ⟨rfl, hk⟩
        clear xs0 xsz0 xs1 xsz1 xs2 xsz2 xs3 xsz3 xs4 xsz4 xs5 xsz5
        replace hB := below_seq hB hk
        replace xs := xs.seq hk
        clear hk
        obtain ⟨xs0, xsz0, xs1, xsz1, xs2, xsz2, xs3, xsz3, xs4, xsz4, xs5, xsz5⟩ := xs.f6
        go_wp2_with fail
        refine (TL.out _).mono ?_
        rintro e V2 ⟨rfl, hk⟩
        clear xs0 xsz0 xs1 xsz1 xs2 xsz2 xs3 xsz3 xs4 xsz4 xs5 xsz5
        replace hB := below_seq hB hk
        replace xs := xs.seq hk
        clear hk
        obtain ⟨xs0, xsz0, xs1, xsz1, xs2, xsz2, xs3, xsz3, xs4, xsz4, xs5, xsz5⟩ := xs.f6
        go_wp2_with fail
        refine (TI.out _).mono ?_
        rintro e V3 ⟨rfl, hk⟩
        clear xs0 xsz0 xs1 xsz1 xs2 xsz2 xs3 xsz3 xs4 xsz4 xs5 xsz5
        replace hB := below_seq hB hk
        replace xs := xs.seq hk
        clear hk
        obtain ⟨xs0, xsz0, xs1, xsz1, xs2, xsz2, xs3, xsz3, xs4, xsz4, xs5, xsz5⟩ := xs.f6
        go_wp2_with fail
        refine (TF.out _).mono ?_
        rintro e V4 ⟨rfl, hk⟩
        clear xs0 xsz0 xs1 xsz1 xs2 xsz2 xs3 xsz3 xs4 xsz4 xs5 xsz5
        replace hB := below_seq hB hk
        replace xs := xs.seq hk
        clear hk
        obtain ⟨xs0, xsz0, xs1, xsz1, xs2, xsz2, xs3, xsz3, xs4, xsz4, xs5, xsz5⟩ := xs.f6
        go_wp2_with fail
        refine (shown16 _).mono ?_
        rintro e V5 ⟨rfl, hk⟩
        clear xs0 xsz0 xs1 xsz1 xs2 xsz2 xs3 xsz3 xs4 xsz4 xs5 xsz5
        replace hB := below_seq hB hk
        replace xs := xs.seq hk
        clear hk
        obtain ⟨xs0, xsz0, xs1, xsz1, xs2, xsz2, xs3, xsz3, xs4, xsz4, xs5, xsz5⟩ := xs.f6
        go_wp2
        go_ret
        exact ⟨rfl, hB⟩
    · have TL := Lib.hid (fun (V : World) => (show Calls Try.prog 10 #[.agg #[.int .i64 sm, .bool false, .bool sh, .int .i64 sl, .int .i64 so, .int .i64 si]] V fun e W' => e = .returned (.bool false) ∧ Below V.heap.size V W' from by have h := ref14Legal ⟨sm, false, sh, sl, so, si⟩ V; rwa [not_legal hl] at h))
      clear hl hs
      have hB : Below W.heap.size W (W.alloc (.cells #[.int .i64 sm, .bool false, .bool sh, .int .i64 sl, .int .i64 so, .int .i64 si] 23)) := ((Below.refl _ _).alloc (Nat.le_refl _) _)
      have xs := (Box.new 23 W [.int .i64 sm, .bool false, .bool sh, .int .i64 sl, .int .i64 so, .int .i64 si])
      go_enter Try.func9, Try.ntmps9
      obtain ⟨xs0, xsz0, xs1, xsz1, xs2, xsz2, xs3, xsz3, xs4, xsz4, xs5, xsz5⟩ := xs.f6
      go_wp2_with fail
      refine (TI.out _).mono ?_
      rintro e V1 ⟨rfl, hk⟩
      clear xs0 xsz0 xs1 xsz1 xs2 xsz2 xs3 xsz3 xs4 xsz4 xs5 xsz5
      replace hB := below_seq hB hk
      replace xs := xs.seq hk
      clear hk
      obtain ⟨xs0, xsz0, xs1, xsz1, xs2, xsz2, xs3, xsz3, xs4, xsz4, xs5, xsz5⟩ := xs.f6
      go_wp2_with fail
      refine (TL.out _).mono ?_
      rintro e V2 ⟨rfl, hk⟩
      clear xs0 xsz0 xs1 xsz1 xs2 xsz2 xs3 xsz3 xs4 xsz4 xs5 xsz5
      replace hB := below_seq hB hk
      replace xs := xs.seq hk
      clear hk
      obtain ⟨xs0, xsz0, xs1, xsz1, xs2, xsz2, xs3, xsz3, xs4, xsz4, xs5, xsz5⟩ := xs.f6
      go_wp2_with fail
      refine (shown16 _).mono ?_
      rintro e V3 ⟨rfl, hk⟩
      clear xs0 xsz0 xs1 xsz1 xs2 xsz2 xs3 xsz3 xs4 xsz4 xs5 xsz5
      replace hB := below_seq hB hk
      replace xs := xs.seq hk
      clear hk
      obtain ⟨xs0, xsz0, xs1, xsz1, xs2, xsz2, xs3, xsz3, xs4, xsz4, xs5, xsz5⟩ := xs.f6
      go_wp2
      go_ret
      exact ⟨rfl, hB⟩
  | true =>
    have TI := Lib.hid (fun (V : World) => law16Its ⟨sm, true, sh, sl, so, si⟩ V)
    by_cases hl : Legal ⟨sm, true, sh, sl, so, si⟩
    · skip
      have TL := Lib.hid (fun (V : World) => (show Calls Try.prog 10 #[.agg #[.int .i64 sm, .bool true, .bool sh, .int .i64 sl, .int .i64 so, .int .i64 si]] V fun e W' => e = .returned (.bool true) ∧ Below V.heap.size V W' from by have h := ref14Legal ⟨sm, true, sh, sl, so, si⟩ V; rwa [(legal_iff ⟨sm, true, sh, sl, so, si⟩).2 hl] at h))
      cases hf : fitsB ⟨sm, true, sh, sl, so, si⟩ with
      | false =>
        have TF := Lib.hid (fun (V : World) => (show Calls Try.prog 16 #[.agg #[.int .i64 sm, .bool true, .bool sh, .int .i64 sl, .int .i64 so, .int .i64 si]] V fun e W' => e = .returned (.bool false) ∧ Below V.heap.size V W' from by have h := ref16Fits ⟨sm, true, sh, sl, so, si⟩ V; rwa [hf] at h))
        clear hf hl hs
        have hB : Below W.heap.size W (W.alloc (.cells #[.int .i64 sm, .bool true, .bool sh, .int .i64 sl, .int .i64 so, .int .i64 si] 23)) := ((Below.refl _ _).alloc (Nat.le_refl _) _)
        have xs := (Box.new 23 W [.int .i64 sm, .bool true, .bool sh, .int .i64 sl, .int .i64 so, .int .i64 si])
        go_enter Try.func9, Try.ntmps9
        obtain ⟨xs0, xsz0, xs1, xsz1, xs2, xsz2, xs3, xsz3, xs4, xsz4, xs5, xsz5⟩ := xs.f6
        go_wp2_with fail
        refine (TI.out _).mono ?_
        rintro e V1 ⟨rfl, hk⟩
        clear xs0 xsz0 xs1 xsz1 xs2 xsz2 xs3 xsz3 xs4 xsz4 xs5 xsz5
        replace hB := below_seq hB hk
        replace xs := xs.seq hk
        clear hk
        obtain ⟨xs0, xsz0, xs1, xsz1, xs2, xsz2, xs3, xsz3, xs4, xsz4, xs5, xsz5⟩ := xs.f6
        go_wp2_with fail
        refine (TL.out _).mono ?_
        rintro e V2 ⟨rfl, hk⟩
        clear xs0 xsz0 xs1 xsz1 xs2 xsz2 xs3 xsz3 xs4 xsz4 xs5 xsz5
        replace hB := below_seq hB hk
        replace xs := xs.seq hk
        clear hk
        obtain ⟨xs0, xsz0, xs1, xsz1, xs2, xsz2, xs3, xsz3, xs4, xsz4, xs5, xsz5⟩ := xs.f6
        go_wp2_with fail
        refine (TI.out _).mono ?_
        rintro e V3 ⟨rfl, hk⟩
        clear xs0 xsz0 xs1 xsz1 xs2 xsz2 xs3 xsz3 xs4 xsz4 xs5 xsz5
        replace hB := below_seq hB hk
        replace xs := xs.seq hk
        clear hk
        obtain ⟨xs0, xsz0, xs1, xsz1, xs2, xsz2, xs3, xsz3, xs4, xsz4, xs5, xsz5⟩ := xs.f6
        go_wp2_with fail
        refine (TF.out _).mono ?_
        rintro e V4 ⟨rfl, hk⟩
        clear xs0 xsz0 xs1 xsz1 xs2 xsz2 xs3 xsz3 xs4 xsz4 xs5 xsz5
        replace hB := below_seq hB hk
        replace xs := xs.seq hk
        clear hk
        obtain ⟨xs0, xsz0, xs1, xsz1, xs2, xsz2, xs3, xsz3, xs4, xsz4, xs5, xsz5⟩ := xs.f6
        go_wp2_with fail
        refine (shown16 _).mono ?_
        rintro e V5 ⟨rfl, hk⟩
        clear xs0 xsz0 xs1 xsz1 xs2 xsz2 xs3 xsz3 xs4 xsz4 xs5 xsz5
        replace hB := below_seq hB hk
        replace xs := xs.seq hk
        clear hk
        obtain ⟨xs0, xsz0, xs1, xsz1, xs2, xsz2, xs3, xsz3, xs4, xsz4, xs5, xsz5⟩ := xs.f6
        go_wp2
        go_ret
        exact ⟨rfl, hB⟩
      | true =>
        have TF := Lib.hid (fun (V : World) => (show Calls Try.prog 16 #[.agg #[.int .i64 sm, .bool true, .bool sh, .int .i64 sl, .int .i64 so, .int .i64 si]] V fun e W' => e = .returned (.bool true) ∧ Below V.heap.size V W' from by have h := ref16Fits ⟨sm, true, sh, sl, so, si⟩ V; rwa [hf] at h))
        obtain ⟨f1, f2, f3⟩ := fits_iff.1 hf
        have hm := hl.m
        dsimp only at f1 f2 f3 hm
        have hc : sm = 1 ∨ sm = 2 ∨ sm = 3 ∨ sm = 4 ∨ sm = 5 := by
          have h0 : sm ≠ 0 := fun k => by rw [k] at f1; cases f1
          omega
        have hw : wayB sm 5 = true ∧ wayB sm 1 = true ∧ (1 : Int) ≤ needsN sm := by rcases hc with rfl | rfl | rfl | rfl | rfl <;> decide
        have g5 : goE ⟨sm, true, sh, sl, so, si⟩ 5 = 0 := goE_mk hw.1 (Or.inl rfl) (Or.inr (by decide)) (Or.inl (by decide)) (by show needsN 5 ≤ (soundN si : Int); rw [show needsN 5 = 1 from by decide]; omega)
        have g1 : goE ⟨sm, true, sh, sl, so, si⟩ 1 = 0 := goE_mk hw.2.1 (Or.inl rfl) (Or.inr (by decide)) (Or.inl (by decide)) (by show needsN 1 ≤ (soundN si : Int); rw [show needsN 1 = 1 from by decide]; omega)
        have l5 : Legal ⟨5, true, sh, sl, so, si⟩ := ⟨by show (0 : Int) ≤ 5 ∧ (5 : Int) ≤ 5; decide, hl.i, hl.a, hl.o, hl.h⟩
        have l1 : Legal ⟨1, true, sh, sl, so, si⟩ := ⟨by show (0 : Int) ≤ 1 ∧ (1 : Int) ≤ 5; decide, hl.i, hl.a, hl.o, hl.h⟩
        have T1 := Lib.hid (fun (V : World) => (show Calls Try.prog 13 #[.agg #[.int .i64 sm, .bool true, .bool sh, .int .i64 sl, .int .i64 so, .int .i64 si], .agg #[.int .i64 1, .int .i64 5, .float .f64 0, .float .f64 0]] V fun e W' => e = .returned (.tuple #[.agg #[.int .i64 5, .bool true, .bool sh, .int .i64 sl, .int .i64 so, .int .i64 si], .int .i64 0]) ∧ Below V.heap.size V W' from by
          have he : deltaE ⟨sm, true, sh, sl, so, si⟩ ⟨1, 5, 0, 0⟩ = 0 := g5
          have h := own16Delta ⟨sm, true, sh, sl, so, si⟩ ⟨1, 5, 0, 0⟩ V hl ⟨by decide, by decide, by show (0 : Nat) < 2 ^ 64; decide, by show (0 : Nat) < 2 ^ 64; decide⟩
          rw [delta_done he, he] at h
          exact h))
        have T2 := Lib.hid (fun (V : World) => (show Calls Try.prog 13 #[.agg #[.int .i64 5, .bool true, .bool sh, .int .i64 sl, .int .i64 so, .int .i64 si], .agg #[.int .i64 3, .int .i64 0, .float .f64 0, .float .f64 0]] V fun e W' => e = .returned (.tuple #[.agg #[.int .i64 0, .bool false, .bool sh, .int .i64 sl, .int .i64 so, .int .i64 si], .int .i64 0]) ∧ Below V.heap.size V W' from by
          have he : deltaE ⟨5, true, sh, sl, so, si⟩ ⟨3, 0, 0, 0⟩ = 0 := rfl
          have h := own16Delta ⟨5, true, sh, sl, so, si⟩ ⟨3, 0, 0, 0⟩ V l5 ⟨by decide, by decide, by show (0 : Nat) < 2 ^ 64; decide, by show (0 : Nat) < 2 ^ 64; decide⟩
          rw [delta_done he, he] at h
          exact h))
        have T3 := Lib.hid (fun (V : World) => (show Calls Try.prog 13 #[.agg #[.int .i64 sm, .bool true, .bool sh, .int .i64 sl, .int .i64 so, .int .i64 si], .agg #[.int .i64 1, .int .i64 1, .float .f64 0, .float .f64 0]] V fun e W' => e = .returned (.tuple #[.agg #[.int .i64 1, .bool true, .bool sh, .int .i64 sl, .int .i64 so, .int .i64 si], .int .i64 0]) ∧ Below V.heap.size V W' from by
          have he : deltaE ⟨sm, true, sh, sl, so, si⟩ ⟨1, 1, 0, 0⟩ = 0 := g1
          have h := own16Delta ⟨sm, true, sh, sl, so, si⟩ ⟨1, 1, 0, 0⟩ V hl ⟨by decide, by decide, by show (0 : Nat) < 2 ^ 64; decide, by show (0 : Nat) < 2 ^ 64; decide⟩
          rw [delta_done he, he] at h
          exact h))
        have T4 := Lib.hid (fun (V : World) => (show Calls Try.prog 13 #[.agg #[.int .i64 1, .bool true, .bool sh, .int .i64 sl, .int .i64 so, .int .i64 si], .agg #[.int .i64 3, .int .i64 0, .float .f64 0, .float .f64 0]] V fun e W' => e = .returned (.tuple #[.agg #[.int .i64 0, .bool false, .bool sh, .int .i64 sl, .int .i64 so, .int .i64 si], .int .i64 0]) ∧ Below V.heap.size V W' from by
          have he : deltaE ⟨1, true, sh, sl, so, si⟩ ⟨3, 0, 0, 0⟩ = 0 := rfl
          have h := own16Delta ⟨1, true, sh, sl, so, si⟩ ⟨3, 0, 0, 0⟩ V l1 ⟨by decide, by decide, by show (0 : Nat) < 2 ^ 64; decide, by show (0 : Nat) < 2 ^ 64; decide⟩
          rw [delta_done he, he] at h
          exact h))
        clear f1 f2 f3 hm hc hw g5 g1 l5 l1 hl hf hs
        have hB : Below W.heap.size W (W.alloc (.cells #[.int .i64 sm, .bool true, .bool sh, .int .i64 sl, .int .i64 so, .int .i64 si] 23)) := ((Below.refl _ _).alloc (Nat.le_refl _) _)
        have xs := (Box.new 23 W [.int .i64 sm, .bool true, .bool sh, .int .i64 sl, .int .i64 so, .int .i64 si])
        go_enter Try.func9, Try.ntmps9
        obtain ⟨xs0, xsz0, xs1, xsz1, xs2, xsz2, xs3, xsz3, xs4, xsz4, xs5, xsz5⟩ := xs.f6
        go_wp2_with fail
        refine (TI.out _).mono ?_
        rintro e V1 ⟨rfl, hk⟩
        clear xs0 xsz0 xs1 xsz1 xs2 xsz2 xs3 xsz3 xs4 xsz4 xs5 xsz5
        replace hB := below_seq hB hk
        replace xs := xs.seq hk
        clear hk
        obtain ⟨xs0, xsz0, xs1, xsz1, xs2, xsz2, xs3, xsz3, xs4, xsz4, xs5, xsz5⟩ := xs.f6
        go_wp2_with fail
        refine (TL.out _).mono ?_
        rintro e V2 ⟨rfl, hk⟩
        clear xs0 xsz0 xs1 xsz1 xs2 xsz2 xs3 xsz3 xs4 xsz4 xs5 xsz5
        replace hB := below_seq hB hk
        replace xs := xs.seq hk
        clear hk
        obtain ⟨xs0, xsz0, xs1, xsz1, xs2, xsz2, xs3, xsz3, xs4, xsz4, xs5, xsz5⟩ := xs.f6
        go_wp2_with fail
        refine (TI.out _).mono ?_
        rintro e V3 ⟨rfl, hk⟩
        clear xs0 xsz0 xs1 xsz1 xs2 xsz2 xs3 xsz3 xs4 xsz4 xs5 xsz5
        replace hB := below_seq hB hk
        replace xs := xs.seq hk
        clear hk
        obtain ⟨xs0, xsz0, xs1, xsz1, xs2, xsz2, xs3, xsz3, xs4, xsz4, xs5, xsz5⟩ := xs.f6
        go_wp2_with fail
        refine (TF.out _).mono ?_
        rintro e V4 ⟨rfl, hk⟩
        clear xs0 xsz0 xs1 xsz1 xs2 xsz2 xs3 xsz3 xs4 xsz4 xs5 xsz5
        replace hB := below_seq hB hk
        replace xs := xs.seq hk
        clear hk
        obtain ⟨xs0, xsz0, xs1, xsz1, xs2, xsz2, xs3, xsz3, xs4, xsz4, xs5, xsz5⟩ := xs.f6
        go_wp2_with fail
        refine (shown16 _).mono ?_
        rintro e V5 ⟨rfl, hk⟩
        clear xs0 xsz0 xs1 xsz1 xs2 xsz2 xs3 xsz3 xs4 xsz4 xs5 xsz5
        replace hB := below_seq hB hk
        replace xs := xs.seq hk
        clear hk
        obtain ⟨xs0, xsz0, xs1, xsz1, xs2, xsz2, xs3, xsz3, xs4, xsz4, xs5, xsz5⟩ := xs.f6
        go_wp2_with fail
        refine (T1.out _).mono ?_
        rintro e V6 ⟨rfl, hk⟩
        clear xs0 xsz0 xs1 xsz1 xs2 xsz2 xs3 xsz3 xs4 xsz4 xs5 xsz5
        replace hB := below_seq hB hk
        replace xs := xs.seq hk
        clear hk
        have xa := Box.new 23 V6 [.int .i64 5, .bool true, .bool sh, .int .i64 sl, .int .i64 so, .int .i64 si]
        have ne_xa_xs : V6.heap.size ≠ W.heap.size := Nat.ne_of_gt xs.lt
        have le_xa : W.heap.size ≤ V6.heap.size := hB.size
        replace xs := xs.alloc (.cells #[.int .i64 5, .bool true, .bool sh, .int .i64 sl, .int .i64 so, .int .i64 si] 23)
        replace hB := hB.alloc hB.size (.cells #[.int .i64 5, .bool true, .bool sh, .int .i64 sl, .int .i64 so, .int .i64 si] 23)
        obtain ⟨xs0, xsz0, xs1, xsz1, xs2, xsz2, xs3, xsz3, xs4, xsz4, xs5, xsz5⟩ := xs.f6
        obtain ⟨xa0, xaz0, xa1, xaz1, xa2, xaz2, xa3, xaz3, xa4, xaz4, xa5, xaz5⟩ := xa.f6
        go_wp2_with fail
        refine (T2.out _).mono ?_
        rintro e V7 ⟨rfl, hk⟩
        clear xs0 xsz0 xs1 xsz1 xs2 xsz2 xs3 xsz3 xs4 xsz4 xs5 xsz5 xa0 xaz0 xa1 xaz1 xa2 xaz2 xa3 xaz3 xa4 xaz4 xa5 xaz5
        replace hB := below_seq hB hk
        replace xs := xs.seq hk
        replace xa := xa.seq hk
        clear hk
        have xb := Box.new 23 V7 [.int .i64 0, .bool false, .bool sh, .int .i64 sl, .int .i64 so, .int .i64 si]
        have ne_xb_xs : V7.heap.size ≠ W.heap.size := Nat.ne_of_gt xs.lt
        have ne_xb_xa : V7.heap.size ≠ V6.heap.size := Nat.ne_of_gt xa.lt
        have le_xb : W.heap.size ≤ V7.heap.size := hB.size
        replace xs := xs.alloc (.cells #[.int .i64 0, .bool false, .bool sh, .int .i64 sl, .int .i64 so, .int .i64 si] 23)
        replace xa := xa.alloc (.cells #[.int .i64 0, .bool false, .bool sh, .int .i64 sl, .int .i64 so, .int .i64 si] 23)
        replace hB := hB.alloc hB.size (.cells #[.int .i64 0, .bool false, .bool sh, .int .i64 sl, .int .i64 so, .int .i64 si] 23)
        obtain ⟨xs0, xsz0, xs1, xsz1, xs2, xsz2, xs3, xsz3, xs4, xsz4, xs5, xsz5⟩ := xs.f6
        obtain ⟨xa0, xaz0, xa1, xaz1, xa2, xaz2, xa3, xaz3, xa4, xaz4, xa5, xaz5⟩ := xa.f6
        obtain ⟨xb0, xbz0, xb1, xbz1, xb2, xbz2, xb3, xbz3, xb4, xbz4, xb5, xbz5⟩ := xb.f6
        go_wp2_with fail
        refine (T3.out _).mono ?_
        rintro e V8 ⟨rfl, hk⟩
        clear xs0 xsz0 xs1 xsz1 xs2 xsz2 xs3 xsz3 xs4 xsz4 xs5 xsz5 xa0 xaz0 xa1 xaz1 xa2 xaz2 xa3 xaz3 xa4 xaz4 xa5 xaz5 xb0 xbz0 xb1 xbz1 xb2 xbz2 xb3 xbz3 xb4 xbz4 xb5 xbz5
        replace hB := below_seq hB hk
        replace xs := xs.seq hk
        replace xa := xa.seq hk
        replace xb := xb.seq hk
        clear hk
        have xc := Box.new 23 V8 [.int .i64 1, .bool true, .bool sh, .int .i64 sl, .int .i64 so, .int .i64 si]
        have ne_xc_xs : V8.heap.size ≠ W.heap.size := Nat.ne_of_gt xs.lt
        have ne_xc_xa : V8.heap.size ≠ V6.heap.size := Nat.ne_of_gt xa.lt
        have ne_xc_xb : V8.heap.size ≠ V7.heap.size := Nat.ne_of_gt xb.lt
        have le_xc : W.heap.size ≤ V8.heap.size := hB.size
        replace xs := xs.alloc (.cells #[.int .i64 1, .bool true, .bool sh, .int .i64 sl, .int .i64 so, .int .i64 si] 23)
        replace xa := xa.alloc (.cells #[.int .i64 1, .bool true, .bool sh, .int .i64 sl, .int .i64 so, .int .i64 si] 23)
        replace xb := xb.alloc (.cells #[.int .i64 1, .bool true, .bool sh, .int .i64 sl, .int .i64 so, .int .i64 si] 23)
        replace hB := hB.alloc hB.size (.cells #[.int .i64 1, .bool true, .bool sh, .int .i64 sl, .int .i64 so, .int .i64 si] 23)
        obtain ⟨xs0, xsz0, xs1, xsz1, xs2, xsz2, xs3, xsz3, xs4, xsz4, xs5, xsz5⟩ := xs.f6
        obtain ⟨xa0, xaz0, xa1, xaz1, xa2, xaz2, xa3, xaz3, xa4, xaz4, xa5, xaz5⟩ := xa.f6
        obtain ⟨xb0, xbz0, xb1, xbz1, xb2, xbz2, xb3, xbz3, xb4, xbz4, xb5, xbz5⟩ := xb.f6
        obtain ⟨xc0, xcz0, xc1, xcz1, xc2, xcz2, xc3, xcz3, xc4, xcz4, xc5, xcz5⟩ := xc.f6
        go_wp2_with fail
        refine (T4.out _).mono ?_
        rintro e V9 ⟨rfl, hk⟩
        clear xs0 xsz0 xs1 xsz1 xs2 xsz2 xs3 xsz3 xs4 xsz4 xs5 xsz5 xa0 xaz0 xa1 xaz1 xa2 xaz2 xa3 xaz3 xa4 xaz4 xa5 xaz5 xb0 xbz0 xb1 xbz1 xb2 xbz2 xb3 xbz3 xb4 xbz4 xb5 xbz5 xc0 xcz0 xc1 xcz1 xc2 xcz2 xc3 xcz3 xc4 xcz4 xc5 xcz5
        replace hB := below_seq hB hk
        replace xs := xs.seq hk
        replace xa := xa.seq hk
        replace xb := xb.seq hk
        replace xc := xc.seq hk
        clear hk
        have xd := Box.new 23 V9 [.int .i64 0, .bool false, .bool sh, .int .i64 sl, .int .i64 so, .int .i64 si]
        have ne_xd_xs : V9.heap.size ≠ W.heap.size := Nat.ne_of_gt xs.lt
        have ne_xd_xa : V9.heap.size ≠ V6.heap.size := Nat.ne_of_gt xa.lt
        have ne_xd_xb : V9.heap.size ≠ V7.heap.size := Nat.ne_of_gt xb.lt
        have ne_xd_xc : V9.heap.size ≠ V8.heap.size := Nat.ne_of_gt xc.lt
        have le_xd : W.heap.size ≤ V9.heap.size := hB.size
        replace xs := xs.alloc (.cells #[.int .i64 0, .bool false, .bool sh, .int .i64 sl, .int .i64 so, .int .i64 si] 23)
        replace xa := xa.alloc (.cells #[.int .i64 0, .bool false, .bool sh, .int .i64 sl, .int .i64 so, .int .i64 si] 23)
        replace xb := xb.alloc (.cells #[.int .i64 0, .bool false, .bool sh, .int .i64 sl, .int .i64 so, .int .i64 si] 23)
        replace xc := xc.alloc (.cells #[.int .i64 0, .bool false, .bool sh, .int .i64 sl, .int .i64 so, .int .i64 si] 23)
        replace hB := hB.alloc hB.size (.cells #[.int .i64 0, .bool false, .bool sh, .int .i64 sl, .int .i64 so, .int .i64 si] 23)
        obtain ⟨xs0, xsz0, xs1, xsz1, xs2, xsz2, xs3, xsz3, xs4, xsz4, xs5, xsz5⟩ := xs.f6
        obtain ⟨xa0, xaz0, xa1, xaz1, xa2, xaz2, xa3, xaz3, xa4, xaz4, xa5, xaz5⟩ := xa.f6
        obtain ⟨xb0, xbz0, xb1, xbz1, xb2, xbz2, xb3, xbz3, xb4, xbz4, xb5, xbz5⟩ := xb.f6
        obtain ⟨xc0, xcz0, xc1, xcz1, xc2, xcz2, xc3, xcz3, xc4, xcz4, xc5, xcz5⟩ := xc.f6
        obtain ⟨xd0, xdz0, xd1, xdz1, xd2, xdz2, xd3, xdz3, xd4, xdz4, xd5, xdz5⟩ := xd.f6
        go_wp2
        go_ret
        exact ⟨rfl, hB⟩
    · have TL := Lib.hid (fun (V : World) => (show Calls Try.prog 10 #[.agg #[.int .i64 sm, .bool true, .bool sh, .int .i64 sl, .int .i64 so, .int .i64 si]] V fun e W' => e = .returned (.bool false) ∧ Below V.heap.size V W' from by have h := ref14Legal ⟨sm, true, sh, sl, so, si⟩ V; rwa [not_legal hl] at h))
      clear hl hs
      have hB : Below W.heap.size W (W.alloc (.cells #[.int .i64 sm, .bool true, .bool sh, .int .i64 sl, .int .i64 so, .int .i64 si] 23)) := ((Below.refl _ _).alloc (Nat.le_refl _) _)
      have xs := (Box.new 23 W [.int .i64 sm, .bool true, .bool sh, .int .i64 sl, .int .i64 so, .int .i64 si])
      go_enter Try.func9, Try.ntmps9
      obtain ⟨xs0, xsz0, xs1, xsz1, xs2, xsz2, xs3, xsz3, xs4, xsz4, xs5, xsz5⟩ := xs.f6
      go_wp2_with fail
      refine (TI.out _).mono ?_
      rintro e V1 ⟨rfl, hk⟩
      clear xs0 xsz0 xs1 xsz1 xs2 xsz2 xs3 xsz3 xs4 xsz4 xs5 xsz5
      replace hB := below_seq hB hk
      replace xs := xs.seq hk
      clear hk
      obtain ⟨xs0, xsz0, xs1, xsz1, xs2, xsz2, xs3, xsz3, xs4, xsz4, xs5, xsz5⟩ := xs.f6
      go_wp2_with fail
      refine (TL.out _).mono ?_
      rintro e V2 ⟨rfl, hk⟩
      clear xs0 xsz0 xs1 xsz1 xs2 xsz2 xs3 xsz3 xs4 xsz4 xs5 xsz5
      replace hB := below_seq hB hk
      replace xs := xs.seq hk
      clear hk
      obtain ⟨xs0, xsz0, xs1, xsz1, xs2, xsz2, xs3, xsz3, xs4, xsz4, xs5, xsz5⟩ := xs.f6
      go_wp2_with fail
      refine (shown16 _).mono ?_
      rintro e V3 ⟨rfl, hk⟩
      clear xs0 xsz0 xs1 xsz1 xs2 xsz2 xs3 xsz3 xs4 xsz4 xs5 xsz5
      replace hB := below_seq hB hk
      replace xs := xs.seq hk
      clear hk
      obtain ⟨xs0, xsz0, xs1, xsz1, xs2, xsz2, xs3, xsz3, xs4, xsz4, xs5, xsz5⟩ := xs.f6
      go_wp2
      go_ret
      exact ⟨rfl, hB⟩

theorem own : ownKnob Try.prog.godebug = none := by kernel_rfl

set_option maxRecDepth 100000 in
theorem lifted (os : Os) (started : os.Started) (H : Type) (enc : TypeId × Value → H) :
    ReturnsInHanded {} Try.checked os 9 .any (Rows.commandLandsSpec.pre6 enc Try.prog Try.f9 Rows.commandLandsRow.domain false) (Rows.commandLandsSpec.post enc Try.prog Try.f9 false true false false) := by
  refine returnsInHanded_of_change (C := Try.checked) own started (by kernel_rfl) Try.func9
    (ChangeSpec.witness6 (enc := enc) (C := Try.checked) false ⟨#[], #[.agg #[.int .i64 0, .bool false, .bool false, .int .i64 0, .int .i64 0, .int .i64 0]], []⟩ 8 (by kernel_rfl) (by kernel_rfl) (by kernel_rfl) (by kernel_rfl)) ?_
  intro W base args ds gs before hval hW _ _
  have hW' := hW
  obtain ⟨p, q, hA0, hV, rfl, hfz, hnd⟩ := hW
  have hA : DataW.TrodAll enc Try.prog W 0 (fun _ => true) true Try.f9.params.toList args.toList ds p := hA0
  rw [Try.params9] at hA hval
  obtain ⟨v0, vs0, d0, ds0, p0, q0, hargs, rfl, rfl, h0, r0⟩ := trodAll_cons hA
  obtain ⟨rfl, rfl, rfl⟩ := trodAll_nil r0
  obtain rfl : args = #[v0] := by cases args; simp_all
  obtain ⟨rfl, rfl⟩ := trodVars_none hV
  have k0 := h0
  obtain ⟨s0, rfl, hs0⟩ := open_st (hval 0 23 v0 rfl rfl) h0
  clear hA0
  simp only [List.append_nil] at hW'
  refine (walk s0 W hs0).mono fun e W' ⟨he, hB⟩ => ?_
  subst he
  exact ⟨_, rfl, ⟨_, _, _, [], _, [], hW', trodAll_cons_mk (shut_bool Try.underlying4 _) trodAll_mk0, (trodAll_cons_mk (Below.trod Try.laidOut (by kernel_rfl) (of_decide_eq_true (by kernel_rfl)) k0 hB (fun x hx => by simpa using hW'.lt x (by simp [hx]))) trodAll_mk0), rfl, hB.frame _, fun h => by cases h⟩⟩

theorem holds : Rows.CommandLandsSaid :=
  OpenClaim.holds_of_wide 9 Try.f9 rfl rfl rfl rfl rfl rfl rfl ⟨rfl, rfl, rfl, rfl, rfl⟩ rfl rfl rfl rfl rfl (by kernel_rfl) Try.func9 (by kernel_rfl)
    (of_decide_eq_true (by kernel_rfl)) (by unfold Func.isWrapper; first | (rw [if_pos (by decide +kernel)]; kernel_rfl) | (rw [if_neg (by decide +kernel)]; exact ⟨rfl, rfl⟩))
    (fun os started H enc _ => lifted os started H enc)
end Go.Proofs.Ytdfacpppmfoiiaa.CommandLands

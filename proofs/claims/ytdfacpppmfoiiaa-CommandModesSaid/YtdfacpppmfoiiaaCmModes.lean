/- A craft that is armed goes tw a mode just if there is a way, it is not Idle, its home is set, if it has tw be, and sensors enough are sound (CommandModes); no condition. -/
import Derived.Test.YtdfacpppmfoiiaaCmdLaw
import Derived.Test.YtdfacpppmfoiiaaCmdGo
import Derived.Deep.RegionHeld3
import Derived.WalkLawsBesides
import Derived.WalkSpells
import Derived.IntWalk
import Derived.Lib.Hide
import Derived.Test.YtdfacpppmfoiiaaBox
import Derived.ProofKit
import Derived.OpenShut
import Derived.ChangeMaps5
import Derived.Test.YtdfacpppmfoiiaaInts
namespace Go.Proofs.Ytdfacpppmfoiiaa.CommandModes
open Go.ChangeShapes Go.WideShapes Go.ChangeAt Go.RowKit Go.ChangeMaps
set_option linter.unusedVariables false
set_option linter.unusedSimpArgs false

set_option maxRecDepth 100000 in
set_option maxHeartbeats 8000000 in
theorem walk (s : St) (tw : Int) (W : World) (hs : s.ok) (hto : -9223372036854775808 ≤ tw ∧ tw ≤ 9223372036854775807) :
    Calls Try.prog 7 #[.agg #[.int .i64 s.mode, .bool s.armed, .bool s.home, .int .i64 s.lat, .int .i64 s.lon, .int .i64 s.iso], .int .i64 tw] W fun e W' => e = .returned (.bool true) ∧ Below W.heap.size W W' := by
  obtain ⟨sm, sa, sh, sl, so, si⟩ := s
  cases sa with
  | false =>
    have TI := Lib.hid (fun (V : World) => law16Its ⟨sm, false, sh, sl, so, si⟩ V)
    by_cases hl : Legal ⟨sm, false, sh, sl, so, si⟩
    · skip
      have TL := Lib.hid (fun (V : World) => (show Calls Try.prog 10 #[.agg #[.int .i64 sm, .bool false, .bool sh, .int .i64 sl, .int .i64 so, .int .i64 si]] V fun e W' => e = .returned (.bool true) ∧ Below V.heap.size V W' from by have h := ref14Legal ⟨sm, false, sh, sl, so, si⟩ V; rwa [(legal_iff ⟨sm, false, sh, sl, so, si⟩).2 hl] at h))
      clear hl hs
      have hB : Below W.heap.size W (W.alloc (.cells #[.int .i64 sm, .bool false, .bool sh, .int .i64 sl, .int .i64 so, .int .i64 si] 23)) := ((Below.refl _ _).alloc (Nat.le_refl _) _)
      have xs := (Box.new 23 W [.int .i64 sm, .bool false, .bool sh, .int .i64 sl, .int .i64 so, .int .i64 si])
      go_enter Try.func7, Try.ntmps7
      obtain ⟨xs0, xsz0, xs1, xsz1, xs2, xsz2, xs3, xsz3, xs4, xsz4, xs5, xsz5⟩ := xs.f6
      go_wp2_with fail
      refine (TI.out _).mono ?_
      rintro e V1 ⟨rfl, hk⟩
      clear xs0 xsz0 xs1 xsz1 xs2 xsz2 xs3 xsz3 xs4 xsz4 xs5 xsz5
      replace hB := below_seq hB hk
      replace xs := xs.seq hk
      clear hk
      obtain ⟨xs0, xsz0, xs1, xsz1, xs2, xsz2, xs3, xsz3, xs4, xsz4, xs5, xsz5⟩ := xs.f6
      go_wp2_with fail
      refine (TL.out _).mono ?_
      rintro e V2 ⟨rfl, hk⟩
      clear xs0 xsz0 xs1 xsz1 xs2 xsz2 xs3 xsz3 xs4 xsz4 xs5 xsz5
      replace hB := below_seq hB hk
      replace xs := xs.seq hk
      clear hk
      obtain ⟨xs0, xsz0, xs1, xsz1, xs2, xsz2, xs3, xsz3, xs4, xsz4, xs5, xsz5⟩ := xs.f6
      go_wp2_with fail
      refine (shown16 _).mono ?_
      rintro e V3 ⟨rfl, hk⟩
      clear xs0 xsz0 xs1 xsz1 xs2 xsz2 xs3 xsz3 xs4 xsz4 xs5 xsz5
      replace hB := below_seq hB hk
      replace xs := xs.seq hk
      clear hk
      obtain ⟨xs0, xsz0, xs1, xsz1, xs2, xsz2, xs3, xsz3, xs4, xsz4, xs5, xsz5⟩ := xs.f6
      go_wp2
      go_ret
      exact ⟨rfl, hB⟩
    · have TL := Lib.hid (fun (V : World) => (show Calls Try.prog 10 #[.agg #[.int .i64 sm, .bool false, .bool sh, .int .i64 sl, .int .i64 so, .int .i64 si]] V fun e W' => e = .returned (.bool false) ∧ Below V.heap.size V W' from by have h := ref14Legal ⟨sm, false, sh, sl, so, si⟩ V; rwa [not_legal hl] at h))
      clear hl hs
      have hB : Below W.heap.size W (W.alloc (.cells #[.int .i64 sm, .bool false, .bool sh, .int .i64 sl, .int .i64 so, .int .i64 si] 23)) := ((Below.refl _ _).alloc (Nat.le_refl _) _)
      have xs := (Box.new 23 W [.int .i64 sm, .bool false, .bool sh, .int .i64 sl, .int .i64 so, .int .i64 si])
      go_enter Try.func7, Try.ntmps7
      obtain ⟨xs0, xsz0, xs1, xsz1, xs2, xsz2, xs3, xsz3, xs4, xsz4, xs5, xsz5⟩ := xs.f6
      go_wp2_with fail
      refine (TI.out _).mono ?_
      rintro e V1 ⟨rfl, hk⟩
      clear xs0 xsz0 xs1 xsz1 xs2 xsz2 xs3 xsz3 xs4 xsz4 xs5 xsz5
      replace hB := below_seq hB hk
      replace xs := xs.seq hk
      clear hk
      obtain ⟨xs0, xsz0, xs1, xsz1, xs2, xsz2, xs3, xsz3, xs4, xsz4, xs5, xsz5⟩ := xs.f6
      go_wp2_with fail
      refine (TL.out _).mono ?_
      rintro e V2 ⟨rfl, hk⟩
      clear xs0 xsz0 xs1 xsz1 xs2 xsz2 xs3 xsz3 xs4 xsz4 xs5 xsz5
      replace hB := below_seq hB hk
      replace xs := xs.seq hk
      clear hk
      obtain ⟨xs0, xsz0, xs1, xsz1, xs2, xsz2, xs3, xsz3, xs4, xsz4, xs5, xsz5⟩ := xs.f6
      go_wp2_with fail
      refine (shown16 _).mono ?_
      rintro e V3 ⟨rfl, hk⟩
      clear xs0 xsz0 xs1 xsz1 xs2 xsz2 xs3 xsz3 xs4 xsz4 xs5 xsz5
      replace hB := below_seq hB hk
      replace xs := xs.seq hk
      clear hk
      obtain ⟨xs0, xsz0, xs1, xsz1, xs2, xsz2, xs3, xsz3, xs4, xsz4, xs5, xsz5⟩ := xs.f6
      go_wp2
      go_ret
      exact ⟨rfl, hB⟩
  | true =>
    have TI := Lib.hid (fun (V : World) => law16Its ⟨sm, true, sh, sl, so, si⟩ V)
    by_cases hl : Legal ⟨sm, true, sh, sl, so, si⟩
    · skip
      have TL := Lib.hid (fun (V : World) => (show Calls Try.prog 10 #[.agg #[.int .i64 sm, .bool true, .bool sh, .int .i64 sl, .int .i64 so, .int .i64 si]] V fun e W' => e = .returned (.bool true) ∧ Below V.heap.size V W' from by have h := ref14Legal ⟨sm, true, sh, sl, so, si⟩ V; rwa [(legal_iff ⟨sm, true, sh, sl, so, si⟩).2 hl] at h))
      have HE : goE ⟨sm, true, sh, sl, so, si⟩ tw = (if wayB sm tw = false then 20 else if (true : Bool) = false ∧ tw ≠ 0 then 22 else if (true : Bool) = true ∧ tw = 0 then 21 else if homeB tw = true ∧ sh = false then 23 else if (soundN si : Int) < needsN tw then 24 else 0) := rfl
      rw [if_neg (fun k : (true : Bool) = false ∧ tw ≠ 0 => by cases k.1)] at HE
      have HS : deltaS ⟨sm, true, sh, sl, so, si⟩ ⟨1, tw, 0, 0⟩ = if goE ⟨sm, true, sh, sl, so, si⟩ tw = 0 then setMode ⟨sm, true, sh, sl, so, si⟩ tw else ⟨sm, true, sh, sl, so, si⟩ := rfl
      have TD := Lib.hid (fun (V : World) => (show Calls Try.prog 13 #[.agg #[.int .i64 sm, .bool true, .bool sh, .int .i64 sl, .int .i64 so, .int .i64 si], .agg #[.int .i64 1, .int .i64 tw, .float .f64 0, .float .f64 0]] V fun e W' => e = .returned (.tuple #[.agg #[.int .i64 (deltaS ⟨sm, true, sh, sl, so, si⟩ ⟨1, tw, 0, 0⟩).mode, .bool (deltaS ⟨sm, true, sh, sl, so, si⟩ ⟨1, tw, 0, 0⟩).armed, .bool (deltaS ⟨sm, true, sh, sl, so, si⟩ ⟨1, tw, 0, 0⟩).home, .int .i64 (deltaS ⟨sm, true, sh, sl, so, si⟩ ⟨1, tw, 0, 0⟩).lat, .int .i64 (deltaS ⟨sm, true, sh, sl, so, si⟩ ⟨1, tw, 0, 0⟩).lon, .int .i64 (deltaS ⟨sm, true, sh, sl, so, si⟩ ⟨1, tw, 0, 0⟩).iso], .int .i64 (goE ⟨sm, true, sh, sl, so, si⟩ tw)]) ∧ Below V.heap.size V W' from own16Delta ⟨sm, true, sh, sl, so, si⟩ ⟨1, tw, 0, 0⟩ V hl ⟨⟨by show (-9223372036854775808 : Int) ≤ 1; decide, by show (1 : Int) ≤ 9223372036854775807; decide⟩, hto, by show (0 : Nat) < 2 ^ 64; decide, by show (0 : Nat) < 2 ^ 64; decide⟩))
      have TW := Lib.hid (fun (V : World) => ref15Way sm tw V)
      have TH := Lib.hid (fun (V : World) => ref15Home tw V)
      have TS := Lib.hid (fun (V : World) => ref14Sound ⟨sm, true, sh, sl, so, si⟩ V)
      have TN := Lib.hid (fun (V : World) => ref15Needs tw V)
      clear hl hs
      generalize deltaS ⟨sm, true, sh, sl, so, si⟩ ⟨1, tw, 0, 0⟩ = u at *
      generalize goE ⟨sm, true, sh, sl, so, si⟩ tw = E at *
      generalize wayB sm tw = gw at *
      generalize homeB tw = hb at *
      generalize needsN tw = nd at *
      dsimp only at TS
      generalize soundN si = sn at *
      cases gw with
      | false =>
        rw [if_pos rfl] at HE
        subst HE
        rw [if_neg (by decide)] at HS
        subst HS
        dsimp only [setMode] at TD
        have hB : Below W.heap.size W (W.alloc (.cells #[.int .i64 sm, .bool true, .bool sh, .int .i64 sl, .int .i64 so, .int .i64 si] 23)) := ((Below.refl _ _).alloc (Nat.le_refl _) _)
        have xs := (Box.new 23 W [.int .i64 sm, .bool true, .bool sh, .int .i64 sl, .int .i64 so, .int .i64 si])
        go_enter Try.func7, Try.ntmps7
        obtain ⟨xs0, xsz0, xs1, xsz1, xs2, xsz2, xs3, xsz3, xs4, xsz4, xs5, xsz5⟩ := xs.f6
        go_wp2_with fail
        refine (TI.out _).mono ?_
        rintro e V1 ⟨rfl, hk⟩
        clear xs0 xsz0 xs1 xsz1 xs2 xsz2 xs3 xsz3 xs4 xsz4 xs5 xsz5
        replace hB := below_seq hB hk
        replace xs := xs.seq hk
        clear hk
        obtain ⟨xs0, xsz0, xs1, xsz1, xs2, xsz2, xs3, xsz3, xs4, xsz4, xs5, xsz5⟩ := xs.f6
        go_wp2_with fail
        refine (TL.out _).mono ?_
        rintro e V2 ⟨rfl, hk⟩
        clear xs0 xsz0 xs1 xsz1 xs2 xsz2 xs3 xsz3 xs4 xsz4 xs5 xsz5
        replace hB := below_seq hB hk
        replace xs := xs.seq hk
        clear hk
        obtain ⟨xs0, xsz0, xs1, xsz1, xs2, xsz2, xs3, xsz3, xs4, xsz4, xs5, xsz5⟩ := xs.f6
        go_wp2_with fail
        refine (shown16 _).mono ?_
        rintro e V3 ⟨rfl, hk⟩
        clear xs0 xsz0 xs1 xsz1 xs2 xsz2 xs3 xsz3 xs4 xsz4 xs5 xsz5
        replace hB := below_seq hB hk
        replace xs := xs.seq hk
        clear hk
        obtain ⟨xs0, xsz0, xs1, xsz1, xs2, xsz2, xs3, xsz3, xs4, xsz4, xs5, xsz5⟩ := xs.f6
        go_wp2_with fail
        refine (TD.out _).mono ?_
        rintro e V4 ⟨rfl, hk⟩
        clear xs0 xsz0 xs1 xsz1 xs2 xsz2 xs3 xsz3 xs4 xsz4 xs5 xsz5
        replace hB := below_seq hB hk
        replace xs := xs.seq hk
        clear hk
        have xt := Box.new 23 V4 [.int .i64 sm, .bool true, .bool sh, .int .i64 sl, .int .i64 so, .int .i64 si]
        have ne_xt_xs : V4.heap.size ≠ W.heap.size := Nat.ne_of_gt xs.lt
        have le_xt : W.heap.size ≤ V4.heap.size := hB.size
        replace xs := xs.alloc (.cells #[.int .i64 sm, .bool true, .bool sh, .int .i64 sl, .int .i64 so, .int .i64 si] 23)
        replace hB := hB.alloc hB.size (.cells #[.int .i64 sm, .bool true, .bool sh, .int .i64 sl, .int .i64 so, .int .i64 si] 23)
        obtain ⟨xs0, xsz0, xs1, xsz1, xs2, xsz2, xs3, xsz3, xs4, xsz4, xs5, xsz5⟩ := xs.f6
        obtain ⟨xt0, xtz0, xt1, xtz1, xt2, xtz2, xt3, xtz3, xt4, xtz4, xt5, xtz5⟩ := xt.f6
        go_wp2_with fail
        refine (TW.out _).mono ?_
        rintro e w' ⟨rfl, hw⟩
        rw [hw]
        clear hw w'
        have ys0 := xs.cell 0 rfl
        have ys1 := xs.cell 1 rfl
        have ys2 := xs.cell 2 rfl
        have ys3 := xs.cell 3 rfl
        have ys4 := xs.cell 4 rfl
        have ys5 := xs.cell 5 rfl
        clear xs0 xsz0 xs1 xsz1 xs2 xsz2 xs3 xsz3 xs4 xsz4 xs5 xsz5 xt0 xtz0 xt1 xtz1 xt2 xtz2 xt3 xtz3 xt4 xtz4 xt5 xtz5
        have xw := Box.new 23 (V4.alloc (.cells #[.int .i64 sm, .bool true, .bool sh, .int .i64 sl, .int .i64 so, .int .i64 si] 23)) [.int .i64 sm, .bool true, .bool sh, .int .i64 sl, .int .i64 so, .int .i64 si]
        have ne_xw_xs : (V4.alloc (.cells #[.int .i64 sm, .bool true, .bool sh, .int .i64 sl, .int .i64 so, .int .i64 si] 23)).heap.size ≠ W.heap.size := Nat.ne_of_gt xs.lt
        have ne_xw_xt : (V4.alloc (.cells #[.int .i64 sm, .bool true, .bool sh, .int .i64 sl, .int .i64 so, .int .i64 si] 23)).heap.size ≠ V4.heap.size := Nat.ne_of_gt xt.lt
        have le_xw : W.heap.size ≤ (V4.alloc (.cells #[.int .i64 sm, .bool true, .bool sh, .int .i64 sl, .int .i64 so, .int .i64 si] 23)).heap.size := hB.size
        replace xs := xs.alloc (.cells #[.int .i64 sm, .bool true, .bool sh, .int .i64 sl, .int .i64 so, .int .i64 si] 23)
        replace xt := xt.alloc (.cells #[.int .i64 sm, .bool true, .bool sh, .int .i64 sl, .int .i64 so, .int .i64 si] 23)
        replace hB := hB.alloc hB.size (.cells #[.int .i64 sm, .bool true, .bool sh, .int .i64 sl, .int .i64 so, .int .i64 si] 23)
        obtain ⟨xs0, xsz0, xs1, xsz1, xs2, xsz2, xs3, xsz3, xs4, xsz4, xs5, xsz5⟩ := xs.f6
        obtain ⟨xt0, xtz0, xt1, xtz1, xt2, xtz2, xt3, xtz3, xt4, xtz4, xt5, xtz5⟩ := xt.f6
        obtain ⟨xw0, xwz0, xw1, xwz1, xw2, xwz2, xw3, xwz3, xw4, xwz4, xw5, xwz5⟩ := xw.f6
        go_wp2
        clear xs0 xsz0 xs1 xsz1 xs2 xsz2 xs3 xsz3 xs4 xsz4 xs5 xsz5 xt0 xtz0 xt1 xtz1 xt2 xtz2 xt3 xtz3 xt4 xtz4 xt5 xtz5 xw0 xwz0 xw1 xwz1 xw2 xwz2 xw3 xwz3 xw4 xwz4 xw5 xwz5
        go_ret
        exact ⟨rfl, hB⟩
      | true =>
        rw [if_neg (by decide)] at HE
        by_cases h0 : tw = 0
        · rw [if_pos ⟨rfl, h0⟩] at HE
          have n1 : (tw != 0) = false := by rw [h0]; rfl
          clear h0
          subst HE
          rw [if_neg (by decide)] at HS
          subst HS
          dsimp only [setMode] at TD
          have hB : Below W.heap.size W (W.alloc (.cells #[.int .i64 sm, .bool true, .bool sh, .int .i64 sl, .int .i64 so, .int .i64 si] 23)) := ((Below.refl _ _).alloc (Nat.le_refl _) _)
          have xs := (Box.new 23 W [.int .i64 sm, .bool true, .bool sh, .int .i64 sl, .int .i64 so, .int .i64 si])
          go_enter Try.func7, Try.ntmps7
          obtain ⟨xs0, xsz0, xs1, xsz1, xs2, xsz2, xs3, xsz3, xs4, xsz4, xs5, xsz5⟩ := xs.f6
          go_wp2_with fail
          refine (TI.out _).mono ?_
          rintro e V1 ⟨rfl, hk⟩
          clear xs0 xsz0 xs1 xsz1 xs2 xsz2 xs3 xsz3 xs4 xsz4 xs5 xsz5
          replace hB := below_seq hB hk
          replace xs := xs.seq hk
          clear hk
          obtain ⟨xs0, xsz0, xs1, xsz1, xs2, xsz2, xs3, xsz3, xs4, xsz4, xs5, xsz5⟩ := xs.f6
          go_wp2_with fail
          refine (TL.out _).mono ?_
          rintro e V2 ⟨rfl, hk⟩
          clear xs0 xsz0 xs1 xsz1 xs2 xsz2 xs3 xsz3 xs4 xsz4 xs5 xsz5
          replace hB := below_seq hB hk
          replace xs := xs.seq hk
          clear hk
          obtain ⟨xs0, xsz0, xs1, xsz1, xs2, xsz2, xs3, xsz3, xs4, xsz4, xs5, xsz5⟩ := xs.f6
          go_wp2_with fail
          refine (shown16 _).mono ?_
          rintro e V3 ⟨rfl, hk⟩
          clear xs0 xsz0 xs1 xsz1 xs2 xsz2 xs3 xsz3 xs4 xsz4 xs5 xsz5
          replace hB := below_seq hB hk
          replace xs := xs.seq hk
          clear hk
          obtain ⟨xs0, xsz0, xs1, xsz1, xs2, xsz2, xs3, xsz3, xs4, xsz4, xs5, xsz5⟩ := xs.f6
          go_wp2_with fail
          refine (TD.out _).mono ?_
          rintro e V4 ⟨rfl, hk⟩
          clear xs0 xsz0 xs1 xsz1 xs2 xsz2 xs3 xsz3 xs4 xsz4 xs5 xsz5
          replace hB := below_seq hB hk
          replace xs := xs.seq hk
          clear hk
          have xt := Box.new 23 V4 [.int .i64 sm, .bool true, .bool sh, .int .i64 sl, .int .i64 so, .int .i64 si]
          have ne_xt_xs : V4.heap.size ≠ W.heap.size := Nat.ne_of_gt xs.lt
          have le_xt : W.heap.size ≤ V4.heap.size := hB.size
          replace xs := xs.alloc (.cells #[.int .i64 sm, .bool true, .bool sh, .int .i64 sl, .int .i64 so, .int .i64 si] 23)
          replace hB := hB.alloc hB.size (.cells #[.int .i64 sm, .bool true, .bool sh, .int .i64 sl, .int .i64 so, .int .i64 si] 23)
          obtain ⟨xs0, xsz0, xs1, xsz1, xs2, xsz2, xs3, xsz3, xs4, xsz4, xs5, xsz5⟩ := xs.f6
          obtain ⟨xt0, xtz0, xt1, xtz1, xt2, xtz2, xt3, xtz3, xt4, xtz4, xt5, xtz5⟩ := xt.f6
          go_wp2_with fail
          refine (TW.out _).mono ?_
          rintro e w' ⟨rfl, hw⟩
          rw [hw]
          clear hw w'
          have ys0 := xs.cell 0 rfl
          have ys1 := xs.cell 1 rfl
          have ys2 := xs.cell 2 rfl
          have ys3 := xs.cell 3 rfl
          have ys4 := xs.cell 4 rfl
          have ys5 := xs.cell 5 rfl
          clear xs0 xsz0 xs1 xsz1 xs2 xsz2 xs3 xsz3 xs4 xsz4 xs5 xsz5 xt0 xtz0 xt1 xtz1 xt2 xtz2 xt3 xtz3 xt4 xtz4 xt5 xtz5
          have xw := Box.new 23 (V4.alloc (.cells #[.int .i64 sm, .bool true, .bool sh, .int .i64 sl, .int .i64 so, .int .i64 si] 23)) [.int .i64 sm, .bool true, .bool sh, .int .i64 sl, .int .i64 so, .int .i64 si]
          have ne_xw_xs : (V4.alloc (.cells #[.int .i64 sm, .bool true, .bool sh, .int .i64 sl, .int .i64 so, .int .i64 si] 23)).heap.size ≠ W.heap.size := Nat.ne_of_gt xs.lt
          have ne_xw_xt : (V4.alloc (.cells #[.int .i64 sm, .bool true, .bool sh, .int .i64 sl, .int .i64 so, .int .i64 si] 23)).heap.size ≠ V4.heap.size := Nat.ne_of_gt xt.lt
          have le_xw : W.heap.size ≤ (V4.alloc (.cells #[.int .i64 sm, .bool true, .bool sh, .int .i64 sl, .int .i64 so, .int .i64 si] 23)).heap.size := hB.size
          replace xs := xs.alloc (.cells #[.int .i64 sm, .bool true, .bool sh, .int .i64 sl, .int .i64 so, .int .i64 si] 23)
          replace xt := xt.alloc (.cells #[.int .i64 sm, .bool true, .bool sh, .int .i64 sl, .int .i64 so, .int .i64 si] 23)
          replace hB := hB.alloc hB.size (.cells #[.int .i64 sm, .bool true, .bool sh, .int .i64 sl, .int .i64 so, .int .i64 si] 23)
          obtain ⟨xs0, xsz0, xs1, xsz1, xs2, xsz2, xs3, xsz3, xs4, xsz4, xs5, xsz5⟩ := xs.f6
          obtain ⟨xt0, xtz0, xt1, xtz1, xt2, xtz2, xt3, xtz3, xt4, xtz4, xt5, xtz5⟩ := xt.f6
          obtain ⟨xw0, xwz0, xw1, xwz1, xw2, xwz2, xw3, xwz3, xw4, xwz4, xw5, xwz5⟩ := xw.f6
          go_wp2
          clear xs0 xsz0 xs1 xsz1 xs2 xsz2 xs3 xsz3 xs4 xsz4 xs5 xsz5 xt0 xtz0 xt1 xtz1 xt2 xtz2 xt3 xtz3 xt4 xtz4 xt5 xtz5 xw0 xwz0 xw1 xwz1 xw2 xwz2 xw3 xwz3 xw4 xwz4 xw5 xwz5
          go_ret
          exact ⟨rfl, hB⟩
        · rw [if_neg (fun k => h0 k.2)] at HE
          have n1 : (tw != 0) = true := bne_iff_ne.2 h0
          clear h0
          cases sh with
          | true =>
            rw [if_neg (fun k => by cases k.2)] at HE
            by_cases hn : (sn : Int) < nd
            · rw [if_pos hn] at HE
              have m1 : decide (nd ≤ (sn : Int)) = false := decide_eq_false (by omega)
              have m2 : decide ((sn : Int) < nd) = true := decide_eq_true hn
              have m3 : (sn : Int) < nd := hn
              clear hn
              subst HE
              rw [if_neg (by decide)] at HS
              subst HS
              dsimp only [setMode] at TD
              have hB : Below W.heap.size W (W.alloc (.cells #[.int .i64 sm, .bool true, .bool true, .int .i64 sl, .int .i64 so, .int .i64 si] 23)) := ((Below.refl _ _).alloc (Nat.le_refl _) _)
              have xs := (Box.new 23 W [.int .i64 sm, .bool true, .bool true, .int .i64 sl, .int .i64 so, .int .i64 si])
              go_enter Try.func7, Try.ntmps7
              obtain ⟨xs0, xsz0, xs1, xsz1, xs2, xsz2, xs3, xsz3, xs4, xsz4, xs5, xsz5⟩ := xs.f6
              go_wp2_with fail
              refine (TI.out _).mono ?_
              rintro e V1 ⟨rfl, hk⟩
              clear xs0 xsz0 xs1 xsz1 xs2 xsz2 xs3 xsz3 xs4 xsz4 xs5 xsz5
              replace hB := below_seq hB hk
              replace xs := xs.seq hk
              clear hk
              obtain ⟨xs0, xsz0, xs1, xsz1, xs2, xsz2, xs3, xsz3, xs4, xsz4, xs5, xsz5⟩ := xs.f6
              go_wp2_with fail
              refine (TL.out _).mono ?_
              rintro e V2 ⟨rfl, hk⟩
              clear xs0 xsz0 xs1 xsz1 xs2 xsz2 xs3 xsz3 xs4 xsz4 xs5 xsz5
              replace hB := below_seq hB hk
              replace xs := xs.seq hk
              clear hk
              obtain ⟨xs0, xsz0, xs1, xsz1, xs2, xsz2, xs3, xsz3, xs4, xsz4, xs5, xsz5⟩ := xs.f6
              go_wp2_with fail
              refine (shown16 _).mono ?_
              rintro e V3 ⟨rfl, hk⟩
              clear xs0 xsz0 xs1 xsz1 xs2 xsz2 xs3 xsz3 xs4 xsz4 xs5 xsz5
              replace hB := below_seq hB hk
              replace xs := xs.seq hk
              clear hk
              obtain ⟨xs0, xsz0, xs1, xsz1, xs2, xsz2, xs3, xsz3, xs4, xsz4, xs5, xsz5⟩ := xs.f6
              go_wp2_with fail
              refine (TD.out _).mono ?_
              rintro e V4 ⟨rfl, hk⟩
              clear xs0 xsz0 xs1 xsz1 xs2 xsz2 xs3 xsz3 xs4 xsz4 xs5 xsz5
              replace hB := below_seq hB hk
              replace xs := xs.seq hk
              clear hk
              have xt := Box.new 23 V4 [.int .i64 sm, .bool true, .bool true, .int .i64 sl, .int .i64 so, .int .i64 si]
              have ne_xt_xs : V4.heap.size ≠ W.heap.size := Nat.ne_of_gt xs.lt
              have le_xt : W.heap.size ≤ V4.heap.size := hB.size
              replace xs := xs.alloc (.cells #[.int .i64 sm, .bool true, .bool true, .int .i64 sl, .int .i64 so, .int .i64 si] 23)
              replace hB := hB.alloc hB.size (.cells #[.int .i64 sm, .bool true, .bool true, .int .i64 sl, .int .i64 so, .int .i64 si] 23)
              obtain ⟨xs0, xsz0, xs1, xsz1, xs2, xsz2, xs3, xsz3, xs4, xsz4, xs5, xsz5⟩ := xs.f6
              obtain ⟨xt0, xtz0, xt1, xtz1, xt2, xtz2, xt3, xtz3, xt4, xtz4, xt5, xtz5⟩ := xt.f6
              go_wp2_with fail
              refine (TW.out _).mono ?_
              rintro e w' ⟨rfl, hw⟩
              rw [hw]
              clear hw w'
              go_wp2_with fail
              refine (TI.out _).mono ?_
              rintro e V5 ⟨rfl, hk⟩
              clear xs0 xsz0 xs1 xsz1 xs2 xsz2 xs3 xsz3 xs4 xsz4 xs5 xsz5 xt0 xtz0 xt1 xtz1 xt2 xtz2 xt3 xtz3 xt4 xtz4 xt5 xtz5
              replace hB := below_seq hB hk
              replace xs := xs.seq hk
              replace xt := xt.seq hk
              clear hk
              obtain ⟨xs0, xsz0, xs1, xsz1, xs2, xsz2, xs3, xsz3, xs4, xsz4, xs5, xsz5⟩ := xs.f6
              obtain ⟨xt0, xtz0, xt1, xtz1, xt2, xtz2, xt3, xtz3, xt4, xtz4, xt5, xtz5⟩ := xt.f6
              go_wp2_with fail
              refine (TS.out _).mono ?_
              rintro e V6 ⟨rfl, hk⟩
              clear xs0 xsz0 xs1 xsz1 xs2 xsz2 xs3 xsz3 xs4 xsz4 xs5 xsz5 xt0 xtz0 xt1 xtz1 xt2 xtz2 xt3 xtz3 xt4 xtz4 xt5 xtz5
              replace hB := below_seq hB hk
              replace xs := xs.seq hk
              replace xt := xt.seq hk
              clear hk
              obtain ⟨xs0, xsz0, xs1, xsz1, xs2, xsz2, xs3, xsz3, xs4, xsz4, xs5, xsz5⟩ := xs.f6
              obtain ⟨xt0, xtz0, xt1, xtz1, xt2, xtz2, xt3, xtz3, xt4, xtz4, xt5, xtz5⟩ := xt.f6
              go_wp2_with fail
              refine (TN.out _).mono ?_
              rintro e w' ⟨rfl, hw⟩
              rw [hw]
              clear hw w'
              have ys0 := xs.cell 0 rfl
              have ys1 := xs.cell 1 rfl
              have ys2 := xs.cell 2 rfl
              have ys3 := xs.cell 3 rfl
              have ys4 := xs.cell 4 rfl
              have ys5 := xs.cell 5 rfl
              clear xs0 xsz0 xs1 xsz1 xs2 xsz2 xs3 xsz3 xs4 xsz4 xs5 xsz5 xt0 xtz0 xt1 xtz1 xt2 xtz2 xt3 xtz3 xt4 xtz4 xt5 xtz5
              have xw := Box.new 23 V6 [.int .i64 sm, .bool true, .bool true, .int .i64 sl, .int .i64 so, .int .i64 si]
              have ne_xw_xs : V6.heap.size ≠ W.heap.size := Nat.ne_of_gt xs.lt
              have ne_xw_xt : V6.heap.size ≠ V4.heap.size := Nat.ne_of_gt xt.lt
              have le_xw : W.heap.size ≤ V6.heap.size := hB.size
              replace xs := xs.alloc (.cells #[.int .i64 sm, .bool true, .bool true, .int .i64 sl, .int .i64 so, .int .i64 si] 23)
              replace xt := xt.alloc (.cells #[.int .i64 sm, .bool true, .bool true, .int .i64 sl, .int .i64 so, .int .i64 si] 23)
              replace hB := hB.alloc hB.size (.cells #[.int .i64 sm, .bool true, .bool true, .int .i64 sl, .int .i64 so, .int .i64 si] 23)
              obtain ⟨xs0, xsz0, xs1, xsz1, xs2, xsz2, xs3, xsz3, xs4, xsz4, xs5, xsz5⟩ := xs.f6
              obtain ⟨xt0, xtz0, xt1, xtz1, xt2, xtz2, xt3, xtz3, xt4, xtz4, xt5, xtz5⟩ := xt.f6
              obtain ⟨xw0, xwz0, xw1, xwz1, xw2, xwz2, xw3, xwz3, xw4, xwz4, xw5, xwz5⟩ := xw.f6
              go_wp2
              clear xs0 xsz0 xs1 xsz1 xs2 xsz2 xs3 xsz3 xs4 xsz4 xs5 xsz5 xt0 xtz0 xt1 xtz1 xt2 xtz2 xt3 xtz3 xt4 xtz4 xt5 xtz5 xw0 xwz0 xw1 xwz1 xw2 xwz2 xw3 xwz3 xw4 xwz4 xw5 xwz5
              go_ret
              exact ⟨rfl, hB⟩
            · rw [if_neg hn] at HE
              have m1 : decide (nd ≤ (sn : Int)) = true := decide_eq_true (by omega)
              have m2 : decide ((sn : Int) < nd) = false := decide_eq_false hn
              have m3 : nd ≤ (sn : Int) := by omega
              clear hn
              subst HE
              rw [if_pos rfl] at HS
              subst HS
              dsimp only [setMode] at TD
              have hB : Below W.heap.size W (W.alloc (.cells #[.int .i64 sm, .bool true, .bool true, .int .i64 sl, .int .i64 so, .int .i64 si] 23)) := ((Below.refl _ _).alloc (Nat.le_refl _) _)
              have xs := (Box.new 23 W [.int .i64 sm, .bool true, .bool true, .int .i64 sl, .int .i64 so, .int .i64 si])
              go_enter Try.func7, Try.ntmps7
              obtain ⟨xs0, xsz0, xs1, xsz1, xs2, xsz2, xs3, xsz3, xs4, xsz4, xs5, xsz5⟩ := xs.f6
              go_wp2_with fail
              refine (TI.out _).mono ?_
              rintro e V1 ⟨rfl, hk⟩
              clear xs0 xsz0 xs1 xsz1 xs2 xsz2 xs3 xsz3 xs4 xsz4 xs5 xsz5
              replace hB := below_seq hB hk
              replace xs := xs.seq hk
              clear hk
              obtain ⟨xs0, xsz0, xs1, xsz1, xs2, xsz2, xs3, xsz3, xs4, xsz4, xs5, xsz5⟩ := xs.f6
              go_wp2_with fail
              refine (TL.out _).mono ?_
              rintro e V2 ⟨rfl, hk⟩
              clear xs0 xsz0 xs1 xsz1 xs2 xsz2 xs3 xsz3 xs4 xsz4 xs5 xsz5
              replace hB := below_seq hB hk
              replace xs := xs.seq hk
              clear hk
              obtain ⟨xs0, xsz0, xs1, xsz1, xs2, xsz2, xs3, xsz3, xs4, xsz4, xs5, xsz5⟩ := xs.f6
              go_wp2_with fail
              refine (shown16 _).mono ?_
              rintro e V3 ⟨rfl, hk⟩
              clear xs0 xsz0 xs1 xsz1 xs2 xsz2 xs3 xsz3 xs4 xsz4 xs5 xsz5
              replace hB := below_seq hB hk
              replace xs := xs.seq hk
              clear hk
              obtain ⟨xs0, xsz0, xs1, xsz1, xs2, xsz2, xs3, xsz3, xs4, xsz4, xs5, xsz5⟩ := xs.f6
              go_wp2_with fail
              refine (TD.out _).mono ?_
              rintro e V4 ⟨rfl, hk⟩
              clear xs0 xsz0 xs1 xsz1 xs2 xsz2 xs3 xsz3 xs4 xsz4 xs5 xsz5
              replace hB := below_seq hB hk
              replace xs := xs.seq hk
              clear hk
              have xt := Box.new 23 V4 [.int .i64 tw, .bool true, .bool true, .int .i64 sl, .int .i64 so, .int .i64 si]
              have ne_xt_xs : V4.heap.size ≠ W.heap.size := Nat.ne_of_gt xs.lt
              have le_xt : W.heap.size ≤ V4.heap.size := hB.size
              replace xs := xs.alloc (.cells #[.int .i64 tw, .bool true, .bool true, .int .i64 sl, .int .i64 so, .int .i64 si] 23)
              replace hB := hB.alloc hB.size (.cells #[.int .i64 tw, .bool true, .bool true, .int .i64 sl, .int .i64 so, .int .i64 si] 23)
              obtain ⟨xs0, xsz0, xs1, xsz1, xs2, xsz2, xs3, xsz3, xs4, xsz4, xs5, xsz5⟩ := xs.f6
              obtain ⟨xt0, xtz0, xt1, xtz1, xt2, xtz2, xt3, xtz3, xt4, xtz4, xt5, xtz5⟩ := xt.f6
              go_wp2_with fail
              refine (TW.out _).mono ?_
              rintro e w' ⟨rfl, hw⟩
              rw [hw]
              clear hw w'
              go_wp2_with fail
              refine (TI.out _).mono ?_
              rintro e V5 ⟨rfl, hk⟩
              clear xs0 xsz0 xs1 xsz1 xs2 xsz2 xs3 xsz3 xs4 xsz4 xs5 xsz5 xt0 xtz0 xt1 xtz1 xt2 xtz2 xt3 xtz3 xt4 xtz4 xt5 xtz5
              replace hB := below_seq hB hk
              replace xs := xs.seq hk
              replace xt := xt.seq hk
              clear hk
              obtain ⟨xs0, xsz0, xs1, xsz1, xs2, xsz2, xs3, xsz3, xs4, xsz4, xs5, xsz5⟩ := xs.f6
              obtain ⟨xt0, xtz0, xt1, xtz1, xt2, xtz2, xt3, xtz3, xt4, xtz4, xt5, xtz5⟩ := xt.f6
              go_wp2_with fail
              refine (TS.out _).mono ?_
              rintro e V6 ⟨rfl, hk⟩
              clear xs0 xsz0 xs1 xsz1 xs2 xsz2 xs3 xsz3 xs4 xsz4 xs5 xsz5 xt0 xtz0 xt1 xtz1 xt2 xtz2 xt3 xtz3 xt4 xtz4 xt5 xtz5
              replace hB := below_seq hB hk
              replace xs := xs.seq hk
              replace xt := xt.seq hk
              clear hk
              obtain ⟨xs0, xsz0, xs1, xsz1, xs2, xsz2, xs3, xsz3, xs4, xsz4, xs5, xsz5⟩ := xs.f6
              obtain ⟨xt0, xtz0, xt1, xtz1, xt2, xtz2, xt3, xtz3, xt4, xtz4, xt5, xtz5⟩ := xt.f6
              go_wp2_with fail
              refine (TN.out _).mono ?_
              rintro e w' ⟨rfl, hw⟩
              rw [hw]
              clear hw w'
              have ys0 := xs.cell 0 rfl
              have ys1 := xs.cell 1 rfl
              have ys2 := xs.cell 2 rfl
              have ys3 := xs.cell 3 rfl
              have ys4 := xs.cell 4 rfl
              have ys5 := xs.cell 5 rfl
              clear xs0 xsz0 xs1 xsz1 xs2 xsz2 xs3 xsz3 xs4 xsz4 xs5 xsz5 xt0 xtz0 xt1 xtz1 xt2 xtz2 xt3 xtz3 xt4 xtz4 xt5 xtz5
              have xw := Box.new 23 V6 [.int .i64 tw, .bool true, .bool true, .int .i64 sl, .int .i64 so, .int .i64 si]
              have ne_xw_xs : V6.heap.size ≠ W.heap.size := Nat.ne_of_gt xs.lt
              have ne_xw_xt : V6.heap.size ≠ V4.heap.size := Nat.ne_of_gt xt.lt
              have le_xw : W.heap.size ≤ V6.heap.size := hB.size
              replace xs := xs.alloc (.cells #[.int .i64 tw, .bool true, .bool true, .int .i64 sl, .int .i64 so, .int .i64 si] 23)
              replace xt := xt.alloc (.cells #[.int .i64 tw, .bool true, .bool true, .int .i64 sl, .int .i64 so, .int .i64 si] 23)
              replace hB := hB.alloc hB.size (.cells #[.int .i64 tw, .bool true, .bool true, .int .i64 sl, .int .i64 so, .int .i64 si] 23)
              obtain ⟨xs0, xsz0, xs1, xsz1, xs2, xsz2, xs3, xsz3, xs4, xsz4, xs5, xsz5⟩ := xs.f6
              obtain ⟨xt0, xtz0, xt1, xtz1, xt2, xtz2, xt3, xtz3, xt4, xtz4, xt5, xtz5⟩ := xt.f6
              obtain ⟨xw0, xwz0, xw1, xwz1, xw2, xwz2, xw3, xwz3, xw4, xwz4, xw5, xwz5⟩ := xw.f6
              go_wp2
              clear xs0 xsz0 xs1 xsz1 xs2 xsz2 xs3 xsz3 xs4 xsz4 xs5 xsz5 xt0 xtz0 xt1 xtz1 xt2 xtz2 xt3 xtz3 xt4 xtz4 xt5 xtz5 xw0 xwz0 xw1 xwz1 xw2 xwz2 xw3 xwz3 xw4 xwz4 xw5 xwz5
              go_ret
              exact ⟨rfl, hB⟩
          | false =>
            cases hb with
            | true =>
              rw [if_pos ⟨rfl, rfl⟩] at HE
              subst HE
              rw [if_neg (by decide)] at HS
              subst HS
              dsimp only [setMode] at TD
              have hB : Below W.heap.size W (W.alloc (.cells #[.int .i64 sm, .bool true, .bool false, .int .i64 sl, .int .i64 so, .int .i64 si] 23)) := ((Below.refl _ _).alloc (Nat.le_refl _) _)
              have xs := (Box.new 23 W [.int .i64 sm, .bool true, .bool false, .int .i64 sl, .int .i64 so, .int .i64 si])
              go_enter Try.func7, Try.ntmps7
              obtain ⟨xs0, xsz0, xs1, xsz1, xs2, xsz2, xs3, xsz3, xs4, xsz4, xs5, xsz5⟩ := xs.f6
              go_wp2_with fail
              refine (TI.out _).mono ?_
              rintro e V1 ⟨rfl, hk⟩
              clear xs0 xsz0 xs1 xsz1 xs2 xsz2 xs3 xsz3 xs4 xsz4 xs5 xsz5
              replace hB := below_seq hB hk
              replace xs := xs.seq hk
              clear hk
              obtain ⟨xs0, xsz0, xs1, xsz1, xs2, xsz2, xs3, xsz3, xs4, xsz4, xs5, xsz5⟩ := xs.f6
              go_wp2_with fail
              refine (TL.out _).mono ?_
              rintro e V2 ⟨rfl, hk⟩
              clear xs0 xsz0 xs1 xsz1 xs2 xsz2 xs3 xsz3 xs4 xsz4 xs5 xsz5
              replace hB := below_seq hB hk
              replace xs := xs.seq hk
              clear hk
              obtain ⟨xs0, xsz0, xs1, xsz1, xs2, xsz2, xs3, xsz3, xs4, xsz4, xs5, xsz5⟩ := xs.f6
              go_wp2_with fail
              refine (shown16 _).mono ?_
              rintro e V3 ⟨rfl, hk⟩
              clear xs0 xsz0 xs1 xsz1 xs2 xsz2 xs3 xsz3 xs4 xsz4 xs5 xsz5
              replace hB := below_seq hB hk
              replace xs := xs.seq hk
              clear hk
              obtain ⟨xs0, xsz0, xs1, xsz1, xs2, xsz2, xs3, xsz3, xs4, xsz4, xs5, xsz5⟩ := xs.f6
              go_wp2_with fail
              refine (TD.out _).mono ?_
              rintro e V4 ⟨rfl, hk⟩
              clear xs0 xsz0 xs1 xsz1 xs2 xsz2 xs3 xsz3 xs4 xsz4 xs5 xsz5
              replace hB := below_seq hB hk
              replace xs := xs.seq hk
              clear hk
              have xt := Box.new 23 V4 [.int .i64 sm, .bool true, .bool false, .int .i64 sl, .int .i64 so, .int .i64 si]
              have ne_xt_xs : V4.heap.size ≠ W.heap.size := Nat.ne_of_gt xs.lt
              have le_xt : W.heap.size ≤ V4.heap.size := hB.size
              replace xs := xs.alloc (.cells #[.int .i64 sm, .bool true, .bool false, .int .i64 sl, .int .i64 so, .int .i64 si] 23)
              replace hB := hB.alloc hB.size (.cells #[.int .i64 sm, .bool true, .bool false, .int .i64 sl, .int .i64 so, .int .i64 si] 23)
              obtain ⟨xs0, xsz0, xs1, xsz1, xs2, xsz2, xs3, xsz3, xs4, xsz4, xs5, xsz5⟩ := xs.f6
              obtain ⟨xt0, xtz0, xt1, xtz1, xt2, xtz2, xt3, xtz3, xt4, xtz4, xt5, xtz5⟩ := xt.f6
              go_wp2_with fail
              refine (TW.out _).mono ?_
              rintro e w' ⟨rfl, hw⟩
              rw [hw]
              clear hw w'
              go_wp2_with fail
              refine (TH.out _).mono ?_
              rintro e w' ⟨rfl, hw⟩
              rw [hw]
              clear hw w'
              have ys0 := xs.cell 0 rfl
              have ys1 := xs.cell 1 rfl
              have ys2 := xs.cell 2 rfl
              have ys3 := xs.cell 3 rfl
              have ys4 := xs.cell 4 rfl
              have ys5 := xs.cell 5 rfl
              clear xs0 xsz0 xs1 xsz1 xs2 xsz2 xs3 xsz3 xs4 xsz4 xs5 xsz5 xt0 xtz0 xt1 xtz1 xt2 xtz2 xt3 xtz3 xt4 xtz4 xt5 xtz5
              have xw := Box.new 23 (V4.alloc (.cells #[.int .i64 sm, .bool true, .bool false, .int .i64 sl, .int .i64 so, .int .i64 si] 23)) [.int .i64 sm, .bool true, .bool false, .int .i64 sl, .int .i64 so, .int .i64 si]
              have ne_xw_xs : (V4.alloc (.cells #[.int .i64 sm, .bool true, .bool false, .int .i64 sl, .int .i64 so, .int .i64 si] 23)).heap.size ≠ W.heap.size := Nat.ne_of_gt xs.lt
              have ne_xw_xt : (V4.alloc (.cells #[.int .i64 sm, .bool true, .bool false, .int .i64 sl, .int .i64 so, .int .i64 si] 23)).heap.size ≠ V4.heap.size := Nat.ne_of_gt xt.lt
              have le_xw : W.heap.size ≤ (V4.alloc (.cells #[.int .i64 sm, .bool true, .bool false, .int .i64 sl, .int .i64 so, .int .i64 si] 23)).heap.size := hB.size
              replace xs := xs.alloc (.cells #[.int .i64 sm, .bool true, .bool false, .int .i64 sl, .int .i64 so, .int .i64 si] 23)
              replace xt := xt.alloc (.cells #[.int .i64 sm, .bool true, .bool false, .int .i64 sl, .int .i64 so, .int .i64 si] 23)
              replace hB := hB.alloc hB.size (.cells #[.int .i64 sm, .bool true, .bool false, .int .i64 sl, .int .i64 so, .int .i64 si] 23)
              obtain ⟨xs0, xsz0, xs1, xsz1, xs2, xsz2, xs3, xsz3, xs4, xsz4, xs5, xsz5⟩ := xs.f6
              obtain ⟨xt0, xtz0, xt1, xtz1, xt2, xtz2, xt3, xtz3, xt4, xtz4, xt5, xtz5⟩ := xt.f6
              obtain ⟨xw0, xwz0, xw1, xwz1, xw2, xwz2, xw3, xwz3, xw4, xwz4, xw5, xwz5⟩ := xw.f6
              go_wp2
              clear xs0 xsz0 xs1 xsz1 xs2 xsz2 xs3 xsz3 xs4 xsz4 xs5 xsz5 xt0 xtz0 xt1 xtz1 xt2 xtz2 xt3 xtz3 xt4 xtz4 xt5 xtz5 xw0 xwz0 xw1 xwz1 xw2 xwz2 xw3 xwz3 xw4 xwz4 xw5 xwz5
              go_ret
              exact ⟨rfl, hB⟩
            | false =>
              rw [if_neg (fun k => by cases k.1)] at HE
              by_cases hn : (sn : Int) < nd
              · rw [if_pos hn] at HE
                have m1 : decide (nd ≤ (sn : Int)) = false := decide_eq_false (by omega)
                have m2 : decide ((sn : Int) < nd) = true := decide_eq_true hn
                have m3 : (sn : Int) < nd := hn
                clear hn
                subst HE
                rw [if_neg (by decide)] at HS
                subst HS
                dsimp only [setMode] at TD
                have hB : Below W.heap.size W (W.alloc (.cells #[.int .i64 sm, .bool true, .bool false, .int .i64 sl, .int .i64 so, .int .i64 si] 23)) := ((Below.refl _ _).alloc (Nat.le_refl _) _)
                have xs := (Box.new 23 W [.int .i64 sm, .bool true, .bool false, .int .i64 sl, .int .i64 so, .int .i64 si])
                go_enter Try.func7, Try.ntmps7
                obtain ⟨xs0, xsz0, xs1, xsz1, xs2, xsz2, xs3, xsz3, xs4, xsz4, xs5, xsz5⟩ := xs.f6
                go_wp2_with fail
                refine (TI.out _).mono ?_
                rintro e V1 ⟨rfl, hk⟩
                clear xs0 xsz0 xs1 xsz1 xs2 xsz2 xs3 xsz3 xs4 xsz4 xs5 xsz5
                replace hB := below_seq hB hk
                replace xs := xs.seq hk
                clear hk
                obtain ⟨xs0, xsz0, xs1, xsz1, xs2, xsz2, xs3, xsz3, xs4, xsz4, xs5, xsz5⟩ := xs.f6
                go_wp2_with fail
                refine (TL.out _).mono ?_
                rintro e V2 ⟨rfl, hk⟩
                clear xs0 xsz0 xs1 xsz1 xs2 xsz2 xs3 xsz3 xs4 xsz4 xs5 xsz5
                replace hB := below_seq hB hk
                replace xs := xs.seq hk
                clear hk
                obtain ⟨xs0, xsz0, xs1, xsz1, xs2, xsz2, xs3, xsz3, xs4, xsz4, xs5, xsz5⟩ := xs.f6
                go_wp2_with fail
                refine (shown16 _).mono ?_
                rintro e V3 ⟨rfl, hk⟩
                clear xs0 xsz0 xs1 xsz1 xs2 xsz2 xs3 xsz3 xs4 xsz4 xs5 xsz5
                replace hB := below_seq hB hk
                replace xs := xs.seq hk
                clear hk
                obtain ⟨xs0, xsz0, xs1, xsz1, xs2, xsz2, xs3, xsz3, xs4, xsz4, xs5, xsz5⟩ := xs.f6
                go_wp2_with fail
                refine (TD.out _).mono ?_
                rintro e V4 ⟨rfl, hk⟩
                clear xs0 xsz0 xs1 xsz1 xs2 xsz2 xs3 xsz3 xs4 xsz4 xs5 xsz5
                replace hB := below_seq hB hk
                replace xs := xs.seq hk
                clear hk
                have xt := Box.new 23 V4 [.int .i64 sm, .bool true, .bool false, .int .i64 sl, .int .i64 so, .int .i64 si]
                have ne_xt_xs : V4.heap.size ≠ W.heap.size := Nat.ne_of_gt xs.lt
                have le_xt : W.heap.size ≤ V4.heap.size := hB.size
                replace xs := xs.alloc (.cells #[.int .i64 sm, .bool true, .bool false, .int .i64 sl, .int .i64 so, .int .i64 si] 23)
                replace hB := hB.alloc hB.size (.cells #[.int .i64 sm, .bool true, .bool false, .int .i64 sl, .int .i64 so, .int .i64 si] 23)
                obtain ⟨xs0, xsz0, xs1, xsz1, xs2, xsz2, xs3, xsz3, xs4, xsz4, xs5, xsz5⟩ := xs.f6
                obtain ⟨xt0, xtz0, xt1, xtz1, xt2, xtz2, xt3, xtz3, xt4, xtz4, xt5, xtz5⟩ := xt.f6
                go_wp2_with fail
                refine (TW.out _).mono ?_
                rintro e w' ⟨rfl, hw⟩
                rw [hw]
                clear hw w'
                go_wp2_with fail
                refine (TH.out _).mono ?_
                rintro e w' ⟨rfl, hw⟩
                rw [hw]
                clear hw w'
                go_wp2_with fail
                refine (TI.out _).mono ?_
                rintro e V5 ⟨rfl, hk⟩
                clear xs0 xsz0 xs1 xsz1 xs2 xsz2 xs3 xsz3 xs4 xsz4 xs5 xsz5 xt0 xtz0 xt1 xtz1 xt2 xtz2 xt3 xtz3 xt4 xtz4 xt5 xtz5
                replace hB := below_seq hB hk
                replace xs := xs.seq hk
                replace xt := xt.seq hk
                clear hk
                obtain ⟨xs0, xsz0, xs1, xsz1, xs2, xsz2, xs3, xsz3, xs4, xsz4, xs5, xsz5⟩ := xs.f6
                obtain ⟨xt0, xtz0, xt1, xtz1, xt2, xtz2, xt3, xtz3, xt4, xtz4, xt5, xtz5⟩ := xt.f6
                go_wp2_with fail
                refine (TS.out _).mono ?_
                rintro e V6 ⟨rfl, hk⟩
                clear xs0 xsz0 xs1 xsz1 xs2 xsz2 xs3 xsz3 xs4 xsz4 xs5 xsz5 xt0 xtz0 xt1 xtz1 xt2 xtz2 xt3 xtz3 xt4 xtz4 xt5 xtz5
                replace hB := below_seq hB hk
                replace xs := xs.seq hk
                replace xt := xt.seq hk
                clear hk
                obtain ⟨xs0, xsz0, xs1, xsz1, xs2, xsz2, xs3, xsz3, xs4, xsz4, xs5, xsz5⟩ := xs.f6
                obtain ⟨xt0, xtz0, xt1, xtz1, xt2, xtz2, xt3, xtz3, xt4, xtz4, xt5, xtz5⟩ := xt.f6
                go_wp2_with fail
                refine (TN.out _).mono ?_
                rintro e w' ⟨rfl, hw⟩
                rw [hw]
                clear hw w'
                have ys0 := xs.cell 0 rfl
                have ys1 := xs.cell 1 rfl
                have ys2 := xs.cell 2 rfl
                have ys3 := xs.cell 3 rfl
                have ys4 := xs.cell 4 rfl
                have ys5 := xs.cell 5 rfl
                clear xs0 xsz0 xs1 xsz1 xs2 xsz2 xs3 xsz3 xs4 xsz4 xs5 xsz5 xt0 xtz0 xt1 xtz1 xt2 xtz2 xt3 xtz3 xt4 xtz4 xt5 xtz5
                have xw := Box.new 23 V6 [.int .i64 sm, .bool true, .bool false, .int .i64 sl, .int .i64 so, .int .i64 si]
                have ne_xw_xs : V6.heap.size ≠ W.heap.size := Nat.ne_of_gt xs.lt
                have ne_xw_xt : V6.heap.size ≠ V4.heap.size := Nat.ne_of_gt xt.lt
                have le_xw : W.heap.size ≤ V6.heap.size := hB.size
                replace xs := xs.alloc (.cells #[.int .i64 sm, .bool true, .bool false, .int .i64 sl, .int .i64 so, .int .i64 si] 23)
                replace xt := xt.alloc (.cells #[.int .i64 sm, .bool true, .bool false, .int .i64 sl, .int .i64 so, .int .i64 si] 23)
                replace hB := hB.alloc hB.size (.cells #[.int .i64 sm, .bool true, .bool false, .int .i64 sl, .int .i64 so, .int .i64 si] 23)
                obtain ⟨xs0, xsz0, xs1, xsz1, xs2, xsz2, xs3, xsz3, xs4, xsz4, xs5, xsz5⟩ := xs.f6
                obtain ⟨xt0, xtz0, xt1, xtz1, xt2, xtz2, xt3, xtz3, xt4, xtz4, xt5, xtz5⟩ := xt.f6
                obtain ⟨xw0, xwz0, xw1, xwz1, xw2, xwz2, xw3, xwz3, xw4, xwz4, xw5, xwz5⟩ := xw.f6
                go_wp2
                clear xs0 xsz0 xs1 xsz1 xs2 xsz2 xs3 xsz3 xs4 xsz4 xs5 xsz5 xt0 xtz0 xt1 xtz1 xt2 xtz2 xt3 xtz3 xt4 xtz4 xt5 xtz5 xw0 xwz0 xw1 xwz1 xw2 xwz2 xw3 xwz3 xw4 xwz4 xw5 xwz5
                go_ret
                exact ⟨rfl, hB⟩
              · rw [if_neg hn] at HE
                have m1 : decide (nd ≤ (sn : Int)) = true := decide_eq_true (by omega)
                have m2 : decide ((sn : Int) < nd) = false := decide_eq_false hn
                have m3 : nd ≤ (sn : Int) := by omega
                clear hn
                subst HE
                rw [if_pos rfl] at HS
                subst HS
                dsimp only [setMode] at TD
                have hB : Below W.heap.size W (W.alloc (.cells #[.int .i64 sm, .bool true, .bool false, .int .i64 sl, .int .i64 so, .int .i64 si] 23)) := ((Below.refl _ _).alloc (Nat.le_refl _) _)
                have xs := (Box.new 23 W [.int .i64 sm, .bool true, .bool false, .int .i64 sl, .int .i64 so, .int .i64 si])
                go_enter Try.func7, Try.ntmps7
                obtain ⟨xs0, xsz0, xs1, xsz1, xs2, xsz2, xs3, xsz3, xs4, xsz4, xs5, xsz5⟩ := xs.f6
                go_wp2_with fail
                refine (TI.out _).mono ?_
                rintro e V1 ⟨rfl, hk⟩
                clear xs0 xsz0 xs1 xsz1 xs2 xsz2 xs3 xsz3 xs4 xsz4 xs5 xsz5
                replace hB := below_seq hB hk
                replace xs := xs.seq hk
                clear hk
                obtain ⟨xs0, xsz0, xs1, xsz1, xs2, xsz2, xs3, xsz3, xs4, xsz4, xs5, xsz5⟩ := xs.f6
                go_wp2_with fail
                refine (TL.out _).mono ?_
                rintro e V2 ⟨rfl, hk⟩
                clear xs0 xsz0 xs1 xsz1 xs2 xsz2 xs3 xsz3 xs4 xsz4 xs5 xsz5
                replace hB := below_seq hB hk
                replace xs := xs.seq hk
                clear hk
                obtain ⟨xs0, xsz0, xs1, xsz1, xs2, xsz2, xs3, xsz3, xs4, xsz4, xs5, xsz5⟩ := xs.f6
                go_wp2_with fail
                refine (shown16 _).mono ?_
                rintro e V3 ⟨rfl, hk⟩
                clear xs0 xsz0 xs1 xsz1 xs2 xsz2 xs3 xsz3 xs4 xsz4 xs5 xsz5
                replace hB := below_seq hB hk
                replace xs := xs.seq hk
                clear hk
                obtain ⟨xs0, xsz0, xs1, xsz1, xs2, xsz2, xs3, xsz3, xs4, xsz4, xs5, xsz5⟩ := xs.f6
                go_wp2_with fail
                refine (TD.out _).mono ?_
                rintro e V4 ⟨rfl, hk⟩
                clear xs0 xsz0 xs1 xsz1 xs2 xsz2 xs3 xsz3 xs4 xsz4 xs5 xsz5
                replace hB := below_seq hB hk
                replace xs := xs.seq hk
                clear hk
                have xt := Box.new 23 V4 [.int .i64 tw, .bool true, .bool false, .int .i64 sl, .int .i64 so, .int .i64 si]
                have ne_xt_xs : V4.heap.size ≠ W.heap.size := Nat.ne_of_gt xs.lt
                have le_xt : W.heap.size ≤ V4.heap.size := hB.size
                replace xs := xs.alloc (.cells #[.int .i64 tw, .bool true, .bool false, .int .i64 sl, .int .i64 so, .int .i64 si] 23)
                replace hB := hB.alloc hB.size (.cells #[.int .i64 tw, .bool true, .bool false, .int .i64 sl, .int .i64 so, .int .i64 si] 23)
                obtain ⟨xs0, xsz0, xs1, xsz1, xs2, xsz2, xs3, xsz3, xs4, xsz4, xs5, xsz5⟩ := xs.f6
                obtain ⟨xt0, xtz0, xt1, xtz1, xt2, xtz2, xt3, xtz3, xt4, xtz4, xt5, xtz5⟩ := xt.f6
                go_wp2_with fail
                refine (TW.out _).mono ?_
                rintro e w' ⟨rfl, hw⟩
                rw [hw]
                clear hw w'
                go_wp2_with fail
                refine (TH.out _).mono ?_
                rintro e w' ⟨rfl, hw⟩
                rw [hw]
                clear hw w'
                go_wp2_with fail
                refine (TI.out _).mono ?_
                rintro e V5 ⟨rfl, hk⟩
                clear xs0 xsz0 xs1 xsz1 xs2 xsz2 xs3 xsz3 xs4 xsz4 xs5 xsz5 xt0 xtz0 xt1 xtz1 xt2 xtz2 xt3 xtz3 xt4 xtz4 xt5 xtz5
                replace hB := below_seq hB hk
                replace xs := xs.seq hk
                replace xt := xt.seq hk
                clear hk
                obtain ⟨xs0, xsz0, xs1, xsz1, xs2, xsz2, xs3, xsz3, xs4, xsz4, xs5, xsz5⟩ := xs.f6
                obtain ⟨xt0, xtz0, xt1, xtz1, xt2, xtz2, xt3, xtz3, xt4, xtz4, xt5, xtz5⟩ := xt.f6
                go_wp2_with fail
                refine (TS.out _).mono ?_
                rintro e V6 ⟨rfl, hk⟩
                clear xs0 xsz0 xs1 xsz1 xs2 xsz2 xs3 xsz3 xs4 xsz4 xs5 xsz5 xt0 xtz0 xt1 xtz1 xt2 xtz2 xt3 xtz3 xt4 xtz4 xt5 xtz5
                replace hB := below_seq hB hk
                replace xs := xs.seq hk
                replace xt := xt.seq hk
                clear hk
                obtain ⟨xs0, xsz0, xs1, xsz1, xs2, xsz2, xs3, xsz3, xs4, xsz4, xs5, xsz5⟩ := xs.f6
                obtain ⟨xt0, xtz0, xt1, xtz1, xt2, xtz2, xt3, xtz3, xt4, xtz4, xt5, xtz5⟩ := xt.f6
                go_wp2_with fail
                refine (TN.out _).mono ?_
                rintro e w' ⟨rfl, hw⟩
                rw [hw]
                clear hw w'
                have ys0 := xs.cell 0 rfl
                have ys1 := xs.cell 1 rfl
                have ys2 := xs.cell 2 rfl
                have ys3 := xs.cell 3 rfl
                have ys4 := xs.cell 4 rfl
                have ys5 := xs.cell 5 rfl
                clear xs0 xsz0 xs1 xsz1 xs2 xsz2 xs3 xsz3 xs4 xsz4 xs5 xsz5 xt0 xtz0 xt1 xtz1 xt2 xtz2 xt3 xtz3 xt4 xtz4 xt5 xtz5
                have xw := Box.new 23 V6 [.int .i64 tw, .bool true, .bool false, .int .i64 sl, .int .i64 so, .int .i64 si]
                have ne_xw_xs : V6.heap.size ≠ W.heap.size := Nat.ne_of_gt xs.lt
                have ne_xw_xt : V6.heap.size ≠ V4.heap.size := Nat.ne_of_gt xt.lt
                have le_xw : W.heap.size ≤ V6.heap.size := hB.size
                replace xs := xs.alloc (.cells #[.int .i64 tw, .bool true, .bool false, .int .i64 sl, .int .i64 so, .int .i64 si] 23)
                replace xt := xt.alloc (.cells #[.int .i64 tw, .bool true, .bool false, .int .i64 sl, .int .i64 so, .int .i64 si] 23)
                replace hB := hB.alloc hB.size (.cells #[.int .i64 tw, .bool true, .bool false, .int .i64 sl, .int .i64 so, .int .i64 si] 23)
                obtain ⟨xs0, xsz0, xs1, xsz1, xs2, xsz2, xs3, xsz3, xs4, xsz4, xs5, xsz5⟩ := xs.f6
                obtain ⟨xt0, xtz0, xt1, xtz1, xt2, xtz2, xt3, xtz3, xt4, xtz4, xt5, xtz5⟩ := xt.f6
                obtain ⟨xw0, xwz0, xw1, xwz1, xw2, xwz2, xw3, xwz3, xw4, xwz4, xw5, xwz5⟩ := xw.f6
                go_wp2
                clear xs0 xsz0 xs1 xsz1 xs2 xsz2 xs3 xsz3 xs4 xsz4 xs5 xsz5 xt0 xtz0 xt1 xtz1 xt2 xtz2 xt3 xtz3 xt4 xtz4 xt5 xtz5 xw0 xwz0 xw1 xwz1 xw2 xwz2 xw3 xwz3 xw4 xwz4 xw5 xwz5
                go_ret
                exact ⟨rfl, hB⟩
    · have TL := Lib.hid (fun (V : World) => (show Calls Try.prog 10 #[.agg #[.int .i64 sm, .bool true, .bool sh, .int .i64 sl, .int .i64 so, .int .i64 si]] V fun e W' => e = .returned (.bool false) ∧ Below V.heap.size V W' from by have h := ref14Legal ⟨sm, true, sh, sl, so, si⟩ V; rwa [not_legal hl] at h))
      clear hl hs
      have hB : Below W.heap.size W (W.alloc (.cells #[.int .i64 sm, .bool true, .bool sh, .int .i64 sl, .int .i64 so, .int .i64 si] 23)) := ((Below.refl _ _).alloc (Nat.le_refl _) _)
      have xs := (Box.new 23 W [.int .i64 sm, .bool true, .bool sh, .int .i64 sl, .int .i64 so, .int .i64 si])
      go_enter Try.func7, Try.ntmps7
      obtain ⟨xs0, xsz0, xs1, xsz1, xs2, xsz2, xs3, xsz3, xs4, xsz4, xs5, xsz5⟩ := xs.f6
      go_wp2_with fail
      refine (TI.out _).mono ?_
      rintro e V1 ⟨rfl, hk⟩
      clear xs0 xsz0 xs1 xsz1 xs2 xsz2 xs3 xsz3 xs4 xsz4 xs5 xsz5
      replace hB := below_seq hB hk
      replace xs := xs.seq hk
      clear hk
      obtain ⟨xs0, xsz0, xs1, xsz1, xs2, xsz2, xs3, xsz3, xs4, xsz4, xs5, xsz5⟩ := xs.f6
      go_wp2_with fail
      refine (TL.out _).mono ?_
      rintro e V2 ⟨rfl, hk⟩
      clear xs0 xsz0 xs1 xsz1 xs2 xsz2 xs3 xsz3 xs4 xsz4 xs5 xsz5
      replace hB := below_seq hB hk
      replace xs := xs.seq hk
      clear hk
      obtain ⟨xs0, xsz0, xs1, xsz1, xs2, xsz2, xs3, xsz3, xs4, xsz4, xs5, xsz5⟩ := xs.f6
      go_wp2_with fail
      refine (shown16 _).mono ?_
      rintro e V3 ⟨rfl, hk⟩
      clear xs0 xsz0 xs1 xsz1 xs2 xsz2 xs3 xsz3 xs4 xsz4 xs5 xsz5
      replace hB := below_seq hB hk
      replace xs := xs.seq hk
      clear hk
      obtain ⟨xs0, xsz0, xs1, xsz1, xs2, xsz2, xs3, xsz3, xs4, xsz4, xs5, xsz5⟩ := xs.f6
      go_wp2
      go_ret
      exact ⟨rfl, hB⟩

theorem own : ownKnob Try.prog.godebug = none := by kernel_rfl

set_option maxRecDepth 100000 in
theorem lifted (os : Os) (started : os.Started) (H : Type) (enc : TypeId × Value → H) :
    ReturnsInHanded {} Try.checked os 7 .any (Rows.commandModesSpec.pre6 enc Try.prog Try.f7 Rows.commandModesRow.domain false) (Rows.commandModesSpec.post enc Try.prog Try.f7 false true false false) := by
  refine returnsInHanded_of_change (C := Try.checked) own started (by kernel_rfl) Try.func7
    (ChangeSpec.witness6 (enc := enc) (C := Try.checked) false ⟨#[], #[.agg #[.int .i64 0, .bool false, .bool false, .int .i64 0, .int .i64 0, .int .i64 0], .int .i64 0], []⟩ 8 (by kernel_rfl) (by kernel_rfl) (by kernel_rfl) (by kernel_rfl)) ?_
  intro W base args ds gs before hval hW _ _
  have hW' := hW
  obtain ⟨p, q, hA0, hV, rfl, hfz, hnd⟩ := hW
  have hA : DataW.TrodAll enc Try.prog W 0 (fun _ => true) true Try.f7.params.toList args.toList ds p := hA0
  rw [Try.params7] at hA hval
  obtain ⟨v0, vs0, d0, ds0, p0, q0, hargs, rfl, rfl, h0, r0⟩ := trodAll_cons hA
  obtain ⟨v1, vs1, d1, ds1, p1, q1, rfl, rfl, rfl, h1, r1⟩ := trodAll_cons r0
  obtain ⟨rfl, rfl, rfl⟩ := trodAll_nil r1
  obtain rfl : args = #[v0, v1] := by cases args; simp_all
  obtain ⟨rfl, rfl⟩ := trodVars_none hV
  have k0 := h0
  obtain ⟨s0, rfl, hs0⟩ := open_st (hval 0 23 v0 rfl rfl) h0
  obtain ⟨a1, rfl, rfl, rfl, w1⟩ := open_int Try.underlying3 (hval 1 3 v1 rfl rfl) h1
  clear hA0
  simp only [List.append_nil] at hW'
  refine (walk s0 a1 W hs0 (int_i64 w1)).mono fun e W' ⟨he, hB⟩ => ?_
  subst he
  exact ⟨_, rfl, ⟨_, _, _, [], _, [], hW', trodAll_cons_mk (shut_bool Try.underlying4 _) trodAll_mk0, (trodAll_cons_mk (Below.trod Try.laidOut (by kernel_rfl) (of_decide_eq_true (by kernel_rfl)) k0 hB (fun x hx => by simpa using hW'.lt x (by simp [hx]))) (trodAll_cons_mk (shut_int Try.underlying3 w1) trodAll_mk0)), rfl, hB.frame _, fun h => by cases h⟩⟩

theorem holds : Rows.CommandModesSaid :=
  OpenClaim.holds_of_wide 7 Try.f7 rfl rfl rfl rfl rfl rfl rfl ⟨rfl, rfl, rfl, rfl, rfl⟩ rfl rfl rfl rfl rfl (by kernel_rfl) Try.func7 (by kernel_rfl)
    (of_decide_eq_true (by kernel_rfl)) (by unfold Func.isWrapper; first | (rw [if_pos (by decide +kernel)]; kernel_rfl) | (rw [if_neg (by decide +kernel)]; exact ⟨rfl, rfl⟩))
    (fun os started H enc _ => lifted os started H enc)
end Go.Proofs.Ytdfacpppmfoiiaa.CommandModes

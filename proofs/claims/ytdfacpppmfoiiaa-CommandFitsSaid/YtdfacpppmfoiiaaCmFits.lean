/- A legal state that fits stays legal, and fits, whatever is asked; with an error it stays as it is (CommandFits); no condition. -/
import Derived.Test.YtdfacpppmfoiiaaCmdLaw
import Derived.Test.YtdfacpppmfoiiaaCmdGo
import Derived.Deep.RegionHeld3
import Derived.WalkLawsBesides
import Derived.WalkSpells
import Derived.IntWalk
import Derived.Lib.Hide
import Derived.Test.YtdfacpppmfoiiaaBox
import Derived.ProofKit
import Derived.OpenShut
import Derived.ChangeMaps5
import Derived.Test.YtdfacpppmfoiiaaInts
namespace Go.Proofs.Ytdfacpppmfoiiaa.CommandFits
open Go.ChangeShapes Go.WideShapes Go.ChangeAt Go.RowKit Go.ChangeMaps
set_option linter.unusedVariables false
set_option linter.unusedSimpArgs false

set_option maxRecDepth 100000 in
set_option maxHeartbeats 8000000 in
theorem walk (s : St) (c : Cm) (W : World) (hs : s.ok) (hc : c.ok) :
    Calls Try.prog 4 #[.agg #[.int .i64 s.mode, .bool s.armed, .bool s.home, .int .i64 s.lat, .int .i64 s.lon, .int .i64 s.iso], .agg #[.int .i64 c.kind, .int .i64 c.n, .float .f64 c.lat, .float .f64 c.lon]] W fun e W' => e = .returned (.bool true) ∧ Below W.heap.size W W' := by
  have TI := Lib.hid (fun (V : World) => law16Its s V)
  by_cases hl : Legal s
  · skip
    have TL := Lib.hid (fun (V : World) => (show Calls Try.prog 10 #[.agg #[.int .i64 s.mode, .bool s.armed, .bool s.home, .int .i64 s.lat, .int .i64 s.lon, .int .i64 s.iso]] V fun e W' => e = .returned (.bool true) ∧ Below V.heap.size V W' from by have h := ref14Legal s V; rwa [(legal_iff s).2 hl] at h))
    cases hf : fitsB s with
    | false =>
      have TF := Lib.hid (fun (V : World) => (show Calls Try.prog 16 #[.agg #[.int .i64 s.mode, .bool s.armed, .bool s.home, .int .i64 s.lat, .int .i64 s.lon, .int .i64 s.iso]] V fun e W' => e = .returned (.bool false) ∧ Below V.heap.size V W' from by have h := ref16Fits s V; rwa [hf] at h))
      clear hf hl hs
      have hB : Below W.heap.size W ((W.alloc (.cells #[.int .i64 s.mode, .bool s.armed, .bool s.home, .int .i64 s.lat, .int .i64 s.lon, .int .i64 s.iso] 23)).alloc (.cells #[.int .i64 c.kind, .int .i64 c.n, .float .f64 c.lat, .float .f64 c.lon] 26)) := (((Below.refl _ _).alloc (Nat.le_refl _) _).alloc (by simp) _)
      have xs := ((Box.new 23 W [.int .i64 s.mode, .bool s.armed, .bool s.home, .int .i64 s.lat, .int .i64 s.lon, .int .i64 s.iso]).alloc (.cells #[.int .i64 c.kind, .int .i64 c.n, .float .f64 c.lat, .float .f64 c.lon] 26))
      have xc : Box 26 ((W.alloc (.cells #[.int .i64 s.mode, .bool s.armed, .bool s.home, .int .i64 s.lat, .int .i64 s.lon, .int .i64 s.iso] 23)).alloc (.cells #[.int .i64 c.kind, .int .i64 c.n, .float .f64 c.lat, .float .f64 c.lon] 26)) (W.heap.size + 1) [.int .i64 c.kind, .int .i64 c.n, .float .f64 c.lat, .float .f64 c.lon] := by have h := (Box.new 26 (W.alloc (.cells #[.int .i64 s.mode, .bool s.armed, .bool s.home, .int .i64 s.lat, .int .i64 s.lon, .int .i64 s.iso] 23)) [.int .i64 c.kind, .int .i64 c.n, .float .f64 c.lat, .float .f64 c.lon]); rwa [World.size_alloc] at h
      have le_xc : W.heap.size ≤ W.heap.size + 1 := by omega
      go_enter Try.func4, Try.ntmps4
      obtain ⟨xs0, xsz0, xs1, xsz1, xs2, xsz2, xs3, xsz3, xs4, xsz4, xs5, xsz5⟩ := xs.f6
      obtain ⟨xc0, xcz0, xc1, xcz1, xc2, xcz2, xc3, xcz3⟩ := xc.f4
      go_wp2_with fail
      refine (TI.out _).mono ?_
      rintro e V1 ⟨rfl, hk⟩
      clear xs0 xsz0 xs1 xsz1 xs2 xsz2 xs3 xsz3 xs4 xsz4 xs5 xsz5 xc0 xcz0 xc1 xcz1 xc2 xcz2 xc3 xcz3
      replace hB := below_seq hB hk
      replace xs := xs.seq hk
      replace xc := xc.seq hk
      clear hk
      obtain ⟨xs0, xsz0, xs1, xsz1, xs2, xsz2, xs3, xsz3, xs4, xsz4, xs5, xsz5⟩ := xs.f6
      obtain ⟨xc0, xcz0, xc1, xcz1, xc2, xcz2, xc3, xcz3⟩ := xc.f4
      go_wp2_with fail
      refine (TL.out _).mono ?_
      rintro e V2 ⟨rfl, hk⟩
      clear xs0 xsz0 xs1 xsz1 xs2 xsz2 xs3 xsz3 xs4 xsz4 xs5 xsz5 xc0 xcz0 xc1 xcz1 xc2 xcz2 xc3 xcz3
      replace hB := below_seq hB hk
      replace xs := xs.seq hk
      replace xc := xc.seq hk
      clear hk
      obtain ⟨xs0, xsz0, xs1, xsz1, xs2, xsz2, xs3, xsz3, xs4, xsz4, xs5, xsz5⟩ := xs.f6
      obtain ⟨xc0, xcz0, xc1, xcz1, xc2, xcz2, xc3, xcz3⟩ := xc.f4
      go_wp2_with fail
      refine (TI.out _).mono ?_
      rintro e V3 ⟨rfl, hk⟩
      clear xs0 xsz0 xs1 xsz1 xs2 xsz2 xs3 xsz3 xs4 xsz4 xs5 xsz5 xc0 xcz0 xc1 xcz1 xc2 xcz2 xc3 xcz3
      replace hB := below_seq hB hk
      replace xs := xs.seq hk
      replace xc := xc.seq hk
      clear hk
      obtain ⟨xs0, xsz0, xs1, xsz1, xs2, xsz2, xs3, xsz3, xs4, xsz4, xs5, xsz5⟩ := xs.f6
      obtain ⟨xc0, xcz0, xc1, xcz1, xc2, xcz2, xc3, xcz3⟩ := xc.f4
      go_wp2_with fail
      refine (TF.out _).mono ?_
      rintro e V4 ⟨rfl, hk⟩
      clear xs0 xsz0 xs1 xsz1 xs2 xsz2 xs3 xsz3 xs4 xsz4 xs5 xsz5 xc0 xcz0 xc1 xcz1 xc2 xcz2 xc3 xcz3
      replace hB := below_seq hB hk
      replace xs := xs.seq hk
      replace xc := xc.seq hk
      clear hk
      obtain ⟨xs0, xsz0, xs1, xsz1, xs2, xsz2, xs3, xsz3, xs4, xsz4, xs5, xsz5⟩ := xs.f6
      obtain ⟨xc0, xcz0, xc1, xcz1, xc2, xcz2, xc3, xcz3⟩ := xc.f4
      go_wp2_with fail
      refine (shown16 _).mono ?_
      rintro e V5 ⟨rfl, hk⟩
      clear xs0 xsz0 xs1 xsz1 xs2 xsz2 xs3 xsz3 xs4 xsz4 xs5 xsz5 xc0 xcz0 xc1 xcz1 xc2 xcz2 xc3 xcz3
      replace hB := below_seq hB hk
      replace xs := xs.seq hk
      replace xc := xc.seq hk
      clear hk
      obtain ⟨xs0, xsz0, xs1, xsz1, xs2, xsz2, xs3, xsz3, xs4, xsz4, xs5, xsz5⟩ := xs.f6
      obtain ⟨xc0, xcz0, xc1, xcz1, xc2, xcz2, xc3, xcz3⟩ := xc.f4
      go_wp2
      go_ret
      exact ⟨rfl, hB⟩
    | true =>
      have TF := Lib.hid (fun (V : World) => (show Calls Try.prog 16 #[.agg #[.int .i64 s.mode, .bool s.armed, .bool s.home, .int .i64 s.lat, .int .i64 s.lon, .int .i64 s.iso]] V fun e W' => e = .returned (.bool true) ∧ Below V.heap.size V W' from by have h := ref16Fits s V; rwa [hf] at h))
      obtain ⟨f1, f2⟩ := delta_fits c hl hf
      by_cases hE : deltaE s c = 0
      · skip
        have TD := Lib.hid (fun (V : World) => (show Calls Try.prog 13 #[.agg #[.int .i64 s.mode, .bool s.armed, .bool s.home, .int .i64 s.lat, .int .i64 s.lon, .int .i64 s.iso], .agg #[.int .i64 c.kind, .int .i64 c.n, .float .f64 c.lat, .float .f64 c.lon]] V fun e W' => e = .returned (.tuple #[.agg #[.int .i64 (deltaS s c).mode, .bool (deltaS s c).armed, .bool (deltaS s c).home, .int .i64 (deltaS s c).lat, .int .i64 (deltaS s c).lon, .int .i64 (deltaS s c).iso], .int .i64 0]) ∧ Below V.heap.size V W' from by have h := own16Delta s c V hl hc; rwa [hE] at h))
        have TQ := Lib.hid (fun (V : World) => (show Calls Try.prog 17 #[.agg #[.int .i64 (deltaS s c).mode, .bool (deltaS s c).armed, .bool (deltaS s c).home, .int .i64 (deltaS s c).lat, .int .i64 (deltaS s c).lon, .int .i64 (deltaS s c).iso]] V fun e W' => e = .returned (.bool true) ∧ Below V.heap.size V W' from by have h := own14Legal (deltaS s c) V (legal_ok f1); rwa [(legal_iff _).2 f1] at h))
        have TO := Lib.hid (fun (V : World) => (show Calls Try.prog 15 #[.agg #[.int .i64 (deltaS s c).mode, .bool (deltaS s c).armed, .bool (deltaS s c).home, .int .i64 (deltaS s c).lat, .int .i64 (deltaS s c).lon, .int .i64 (deltaS s c).iso]] V fun e W' => e = .returned (.bool true) ∧ Below V.heap.size V W' from by have h := own16Fits (deltaS s c) V f1; rwa [f2] at h))
        clear f1 f2 hE hl hs hc hf
        generalize deltaS s c = u at *
        obtain ⟨um, ua, uh, ul, uo, ui⟩ := u
        dsimp only at *
        have hB : Below W.heap.size W ((W.alloc (.cells #[.int .i64 s.mode, .bool s.armed, .bool s.home, .int .i64 s.lat, .int .i64 s.lon, .int .i64 s.iso] 23)).alloc (.cells #[.int .i64 c.kind, .int .i64 c.n, .float .f64 c.lat, .float .f64 c.lon] 26)) := (((Below.refl _ _).alloc (Nat.le_refl _) _).alloc (by simp) _)
        have xs := ((Box.new 23 W [.int .i64 s.mode, .bool s.armed, .bool s.home, .int .i64 s.lat, .int .i64 s.lon, .int .i64 s.iso]).alloc (.cells #[.int .i64 c.kind, .int .i64 c.n, .float .f64 c.lat, .float .f64 c.lon] 26))
        have xc : Box 26 ((W.alloc (.cells #[.int .i64 s.mode, .bool s.armed, .bool s.home, .int .i64 s.lat, .int .i64 s.lon, .int .i64 s.iso] 23)).alloc (.cells #[.int .i64 c.kind, .int .i64 c.n, .float .f64 c.lat, .float .f64 c.lon] 26)) (W.heap.size + 1) [.int .i64 c.kind, .int .i64 c.n, .float .f64 c.lat, .float .f64 c.lon] := by have h := (Box.new 26 (W.alloc (.cells #[.int .i64 s.mode, .bool s.armed, .bool s.home, .int .i64 s.lat, .int .i64 s.lon, .int .i64 s.iso] 23)) [.int .i64 c.kind, .int .i64 c.n, .float .f64 c.lat, .float .f64 c.lon]); rwa [World.size_alloc] at h
        have le_xc : W.heap.size ≤ W.heap.size + 1 := by omega
        go_enter Try.func4, Try.ntmps4
        obtain ⟨xs0, xsz0, xs1, xsz1, xs2, xsz2, xs3, xsz3, xs4, xsz4, xs5, xsz5⟩ := xs.f6
        obtain ⟨xc0, xcz0, xc1, xcz1, xc2, xcz2, xc3, xcz3⟩ := xc.f4
        go_wp2_with fail
        refine (TI.out _).mono ?_
        rintro e V1 ⟨rfl, hk⟩
        clear xs0 xsz0 xs1 xsz1 xs2 xsz2 xs3 xsz3 xs4 xsz4 xs5 xsz5 xc0 xcz0 xc1 xcz1 xc2 xcz2 xc3 xcz3
        replace hB := below_seq hB hk
        replace xs := xs.seq hk
        replace xc := xc.seq hk
        clear hk
        obtain ⟨xs0, xsz0, xs1, xsz1, xs2, xsz2, xs3, xsz3, xs4, xsz4, xs5, xsz5⟩ := xs.f6
        obtain ⟨xc0, xcz0, xc1, xcz1, xc2, xcz2, xc3, xcz3⟩ := xc.f4
        go_wp2_with fail
        refine (TL.out _).mono ?_
        rintro e V2 ⟨rfl, hk⟩
        clear xs0 xsz0 xs1 xsz1 xs2 xsz2 xs3 xsz3 xs4 xsz4 xs5 xsz5 xc0 xcz0 xc1 xcz1 xc2 xcz2 xc3 xcz3
        replace hB := below_seq hB hk
        replace xs := xs.seq hk
        replace xc := xc.seq hk
        clear hk
        obtain ⟨xs0, xsz0, xs1, xsz1, xs2, xsz2, xs3, xsz3, xs4, xsz4, xs5, xsz5⟩ := xs.f6
        obtain ⟨xc0, xcz0, xc1, xcz1, xc2, xcz2, xc3, xcz3⟩ := xc.f4
        go_wp2_with fail
        refine (TI.out _).mono ?_
        rintro e V3 ⟨rfl, hk⟩
        clear xs0 xsz0 xs1 xsz1 xs2 xsz2 xs3 xsz3 xs4 xsz4 xs5 xsz5 xc0 xcz0 xc1 xcz1 xc2 xcz2 xc3 xcz3
        replace hB := below_seq hB hk
        replace xs := xs.seq hk
        replace xc := xc.seq hk
        clear hk
        obtain ⟨xs0, xsz0, xs1, xsz1, xs2, xsz2, xs3, xsz3, xs4, xsz4, xs5, xsz5⟩ := xs.f6
        obtain ⟨xc0, xcz0, xc1, xcz1, xc2, xcz2, xc3, xcz3⟩ := xc.f4
        go_wp2_with fail
        refine (TF.out _).mono ?_
        rintro e V4 ⟨rfl, hk⟩
        clear xs0 xsz0 xs1 xsz1 xs2 xsz2 xs3 xsz3 xs4 xsz4 xs5 xsz5 xc0 xcz0 xc1 xcz1 xc2 xcz2 xc3 xcz3
        replace hB := below_seq hB hk
        replace xs := xs.seq hk
        replace xc := xc.seq hk
        clear hk
        obtain ⟨xs0, xsz0, xs1, xsz1, xs2, xsz2, xs3, xsz3, xs4, xsz4, xs5, xsz5⟩ := xs.f6
        obtain ⟨xc0, xcz0, xc1, xcz1, xc2, xcz2, xc3, xcz3⟩ := xc.f4
        go_wp2_with fail
        refine (shown16 _).mono ?_
        rintro e V5 ⟨rfl, hk⟩
        clear xs0 xsz0 xs1 xsz1 xs2 xsz2 xs3 xsz3 xs4 xsz4 xs5 xsz5 xc0 xcz0 xc1 xcz1 xc2 xcz2 xc3 xcz3
        replace hB := below_seq hB hk
        replace xs := xs.seq hk
        replace xc := xc.seq hk
        clear hk
        obtain ⟨xs0, xsz0, xs1, xsz1, xs2, xsz2, xs3, xsz3, xs4, xsz4, xs5, xsz5⟩ := xs.f6
        obtain ⟨xc0, xcz0, xc1, xcz1, xc2, xcz2, xc3, xcz3⟩ := xc.f4
        go_wp2_with fail
        refine (TD.out _).mono ?_
        rintro e V6 ⟨rfl, hk⟩
        clear xs0 xsz0 xs1 xsz1 xs2 xsz2 xs3 xsz3 xs4 xsz4 xs5 xsz5 xc0 xcz0 xc1 xcz1 xc2 xcz2 xc3 xcz3
        replace hB := below_seq hB hk
        replace xs := xs.seq hk
        replace xc := xc.seq hk
        clear hk
        have xt := Box.new 23 V6 [.int .i64 um, .bool ua, .bool uh, .int .i64 ul, .int .i64 uo, .int .i64 ui]
        have ne_xt_xs : V6.heap.size ≠ W.heap.size := Nat.ne_of_gt xs.lt
        have ne_xt_xc : V6.heap.size ≠ W.heap.size + 1 := Nat.ne_of_gt xc.lt
        have le_xt : W.heap.size ≤ V6.heap.size := hB.size
        replace xs := xs.alloc (.cells #[.int .i64 um, .bool ua, .bool uh, .int .i64 ul, .int .i64 uo, .int .i64 ui] 23)
        replace xc := xc.alloc (.cells #[.int .i64 um, .bool ua, .bool uh, .int .i64 ul, .int .i64 uo, .int .i64 ui] 23)
        replace hB := hB.alloc hB.size (.cells #[.int .i64 um, .bool ua, .bool uh, .int .i64 ul, .int .i64 uo, .int .i64 ui] 23)
        obtain ⟨xs0, xsz0, xs1, xsz1, xs2, xsz2, xs3, xsz3, xs4, xsz4, xs5, xsz5⟩ := xs.f6
        obtain ⟨xc0, xcz0, xc1, xcz1, xc2, xcz2, xc3, xcz3⟩ := xc.f4
        obtain ⟨xt0, xtz0, xt1, xtz1, xt2, xtz2, xt3, xtz3, xt4, xtz4, xt5, xtz5⟩ := xt.f6
        go_wp2_with fail
        refine (TQ.out _).mono ?_
        rintro e V7 ⟨rfl, hk⟩
        clear xs0 xsz0 xs1 xsz1 xs2 xsz2 xs3 xsz3 xs4 xsz4 xs5 xsz5 xc0 xcz0 xc1 xcz1 xc2 xcz2 xc3 xcz3 xt0 xtz0 xt1 xtz1 xt2 xtz2 xt3 xtz3 xt4 xtz4 xt5 xtz5
        replace hB := below_seq hB hk
        replace xs := xs.seq hk
        replace xc := xc.seq hk
        replace xt := xt.seq hk
        clear hk
        obtain ⟨xs0, xsz0, xs1, xsz1, xs2, xsz2, xs3, xsz3, xs4, xsz4, xs5, xsz5⟩ := xs.f6
        obtain ⟨xc0, xcz0, xc1, xcz1, xc2, xcz2, xc3, xcz3⟩ := xc.f4
        obtain ⟨xt0, xtz0, xt1, xtz1, xt2, xtz2, xt3, xtz3, xt4, xtz4, xt5, xtz5⟩ := xt.f6
        go_wp2_with fail
        refine (TO.out _).mono ?_
        rintro e V8 ⟨rfl, hk⟩
        clear xs0 xsz0 xs1 xsz1 xs2 xsz2 xs3 xsz3 xs4 xsz4 xs5 xsz5 xc0 xcz0 xc1 xcz1 xc2 xcz2 xc3 xcz3 xt0 xtz0 xt1 xtz1 xt2 xtz2 xt3 xtz3 xt4 xtz4 xt5 xtz5
        replace hB := below_seq hB hk
        replace xs := xs.seq hk
        replace xc := xc.seq hk
        replace xt := xt.seq hk
        clear hk
        obtain ⟨xs0, xsz0, xs1, xsz1, xs2, xsz2, xs3, xsz3, xs4, xsz4, xs5, xsz5⟩ := xs.f6
        obtain ⟨xc0, xcz0, xc1, xcz1, xc2, xcz2, xc3, xcz3⟩ := xc.f4
        obtain ⟨xt0, xtz0, xt1, xtz1, xt2, xtz2, xt3, xtz3, xt4, xtz4, xt5, xtz5⟩ := xt.f6
        go_wp2
        go_ret
        exact ⟨rfl, hB⟩
      · have he := delta_err hE
        rw [he] at f1 f2
        have TD := Lib.hid (fun (V : World) => (show Calls Try.prog 13 #[.agg #[.int .i64 s.mode, .bool s.armed, .bool s.home, .int .i64 s.lat, .int .i64 s.lon, .int .i64 s.iso], .agg #[.int .i64 c.kind, .int .i64 c.n, .float .f64 c.lat, .float .f64 c.lon]] V fun e W' => e = .returned (.tuple #[.agg #[.int .i64 s.mode, .bool s.armed, .bool s.home, .int .i64 s.lat, .int .i64 s.lon, .int .i64 s.iso], .int .i64 (deltaE s c)]) ∧ Below V.heap.size V W' from by have h := own16Delta s c V hl hc; rwa [he] at h))
        have TQ := Lib.hid (fun (V : World) => (show Calls Try.prog 17 #[.agg #[.int .i64 s.mode, .bool s.armed, .bool s.home, .int .i64 s.lat, .int .i64 s.lon, .int .i64 s.iso]] V fun e W' => e = .returned (.bool true) ∧ Below V.heap.size V W' from by have h := own14Legal s V (legal_ok f1); rwa [(legal_iff _).2 f1] at h))
        have TO := Lib.hid (fun (V : World) => (show Calls Try.prog 15 #[.agg #[.int .i64 s.mode, .bool s.armed, .bool s.home, .int .i64 s.lat, .int .i64 s.lon, .int .i64 s.iso]] V fun e W' => e = .returned (.bool true) ∧ Below V.heap.size V W' from by have h := own16Fits s V f1; rwa [f2] at h))
        have n1 : (deltaE s c == 0) = false := beq_eq_false_iff_ne.2 hE
        clear f1 f2 hE hl hs hc hf he
        generalize deltaE s c = E at *
        have hB : Below W.heap.size W ((W.alloc (.cells #[.int .i64 s.mode, .bool s.armed, .bool s.home, .int .i64 s.lat, .int .i64 s.lon, .int .i64 s.iso] 23)).alloc (.cells #[.int .i64 c.kind, .int .i64 c.n, .float .f64 c.lat, .float .f64 c.lon] 26)) := (((Below.refl _ _).alloc (Nat.le_refl _) _).alloc (by simp) _)
        have xs := ((Box.new 23 W [.int .i64 s.mode, .bool s.armed, .bool s.home, .int .i64 s.lat, .int .i64 s.lon, .int .i64 s.iso]).alloc (.cells #[.int .i64 c.kind, .int .i64 c.n, .float .f64 c.lat, .float .f64 c.lon] 26))
        have xc : Box 26 ((W.alloc (.cells #[.int .i64 s.mode, .bool s.armed, .bool s.home, .int .i64 s.lat, .int .i64 s.lon, .int .i64 s.iso] 23)).alloc (.cells #[.int .i64 c.kind, .int .i64 c.n, .float .f64 c.lat, .float .f64 c.lon] 26)) (W.heap.size + 1) [.int .i64 c.kind, .int .i64 c.n, .float .f64 c.lat, .float .f64 c.lon] := by have h := (Box.new 26 (W.alloc (.cells #[.int .i64 s.mode, .bool s.armed, .bool s.home, .int .i64 s.lat, .int .i64 s.lon, .int .i64 s.iso] 23)) [.int .i64 c.kind, .int .i64 c.n, .float .f64 c.lat, .float .f64 c.lon]); rwa [World.size_alloc] at h
        have le_xc : W.heap.size ≤ W.heap.size + 1 := by omega
        go_enter Try.func4, Try.ntmps4
        obtain ⟨xs0, xsz0, xs1, xsz1, xs2, xsz2, xs3, xsz3, xs4, xsz4, xs5, xsz5⟩ := xs.f6
        obtain ⟨xc0, xcz0, xc1, xcz1, xc2, xcz2, xc3, xcz3⟩ := xc.f4
        go_wp2_with fail
        refine (TI.out _).mono ?_
        rintro e V1 ⟨rfl, hk⟩
        clear xs0 xsz0 xs1 xsz1 xs2 xsz2 xs3 xsz3 xs4 xsz4 xs5 xsz5 xc0 xcz0 xc1 xcz1 xc2 xcz2 xc3 xcz3
        replace hB := below_seq hB hk
        replace xs := xs.seq hk
        replace xc := xc.seq hk
        clear hk
        obtain ⟨xs0, xsz0, xs1, xsz1, xs2, xsz2, xs3, xsz3, xs4, xsz4, xs5, xsz5⟩ := xs.f6
        obtain ⟨xc0, xcz0, xc1, xcz1, xc2, xcz2, xc3, xcz3⟩ := xc.f4
        go_wp2_with fail
        refine (TL.out _).mono ?_
        rintro e V2 ⟨rfl, hk⟩
        clear xs0 xsz0 xs1 xsz1 xs2 xsz2 xs3 xsz3 xs4 xsz4 xs5 xsz5 xc0 xcz0 xc1 xcz1 xc2 xcz2 xc3 xcz3
        replace hB := below_seq hB hk
        replace xs := xs.seq hk
        replace xc := xc.seq hk
        clear hk
        obtain ⟨xs0, xsz0, xs1, xsz1, xs2, xsz2, xs3, xsz3, xs4, xsz4, xs5, xsz5⟩ := xs.f6
        obtain ⟨xc0, xcz0, xc1, xcz1, xc2, xcz2, xc3, xcz3⟩ := xc.f4
        go_wp2_with fail
        refine (TI.out _).mono ?_
        rintro e V3 ⟨rfl, hk⟩
        clear xs0 xsz0 xs1 xsz1 xs2 xsz2 xs3 xsz3 xs4 xsz4 xs5 xsz5 xc0 xcz0 xc1 xcz1 xc2 xcz2 xc3 xcz3
        replace hB := below_seq hB hk
        replace xs := xs.seq hk
        replace xc := xc.seq hk
        clear hk
        obtain ⟨xs0, xsz0, xs1, xsz1, xs2, xsz2, xs3, xsz3, xs4, xsz4, xs5, xsz5⟩ := xs.f6
        obtain ⟨xc0, xcz0, xc1, xcz1, xc2, xcz2, xc3, xcz3⟩ := xc.f4
        go_wp2_with fail
        refine (TF.out _).mono ?_
        rintro e V4 ⟨rfl, hk⟩
        clear xs0 xsz0 xs1 xsz1 xs2 xsz2 xs3 xsz3 xs4 xsz4 xs5 xsz5 xc0 xcz0 xc1 xcz1 xc2 xcz2 xc3 xcz3
        replace hB := below_seq hB hk
        replace xs := xs.seq hk
        replace xc := xc.seq hk
        clear hk
        obtain ⟨xs0, xsz0, xs1, xsz1, xs2, xsz2, xs3, xsz3, xs4, xsz4, xs5, xsz5⟩ := xs.f6
        obtain ⟨xc0, xcz0, xc1, xcz1, xc2, xcz2, xc3, xcz3⟩ := xc.f4
        go_wp2_with fail
        refine (shown16 _).mono ?_
        rintro e V5 ⟨rfl, hk⟩
        clear xs0 xsz0 xs1 xsz1 xs2 xsz2 xs3 xsz3 xs4 xsz4 xs5 xsz5 xc0 xcz0 xc1 xcz1 xc2 xcz2 xc3 xcz3
        replace hB := below_seq hB hk
        replace xs := xs.seq hk
        replace xc := xc.seq hk
        clear hk
        obtain ⟨xs0, xsz0, xs1, xsz1, xs2, xsz2, xs3, xsz3, xs4, xsz4, xs5, xsz5⟩ := xs.f6
        obtain ⟨xc0, xcz0, xc1, xcz1, xc2, xcz2, xc3, xcz3⟩ := xc.f4
        go_wp2_with fail
        refine (TD.out _).mono ?_
        rintro e V6 ⟨rfl, hk⟩
        clear xs0 xsz0 xs1 xsz1 xs2 xsz2 xs3 xsz3 xs4 xsz4 xs5 xsz5 xc0 xcz0 xc1 xcz1 xc2 xcz2 xc3 xcz3
        replace hB := below_seq hB hk
        replace xs := xs.seq hk
        replace xc := xc.seq hk
        clear hk
        have xt := Box.new 23 V6 [.int .i64 s.mode, .bool s.armed, .bool s.home, .int .i64 s.lat, .int .i64 s.lon, .int .i64 s.iso]
        have ne_xt_xs : V6.heap.size ≠ W.heap.size := Nat.ne_of_gt xs.lt
        have ne_xt_xc : V6.heap.size ≠ W.heap.size + 1 := Nat.ne_of_gt xc.lt
        have le_xt : W.heap.size ≤ V6.heap.size := hB.size
        replace xs := xs.alloc (.cells #[.int .i64 s.mode, .bool s.armed, .bool s.home, .int .i64 s.lat, .int .i64 s.lon, .int .i64 s.iso] 23)
        replace xc := xc.alloc (.cells #[.int .i64 s.mode, .bool s.armed, .bool s.home, .int .i64 s.lat, .int .i64 s.lon, .int .i64 s.iso] 23)
        replace hB := hB.alloc hB.size (.cells #[.int .i64 s.mode, .bool s.armed, .bool s.home, .int .i64 s.lat, .int .i64 s.lon, .int .i64 s.iso] 23)
        obtain ⟨xs0, xsz0, xs1, xsz1, xs2, xsz2, xs3, xsz3, xs4, xsz4, xs5, xsz5⟩ := xs.f6
        obtain ⟨xc0, xcz0, xc1, xcz1, xc2, xcz2, xc3, xcz3⟩ := xc.f4
        obtain ⟨xt0, xtz0, xt1, xtz1, xt2, xtz2, xt3, xtz3, xt4, xtz4, xt5, xtz5⟩ := xt.f6
        go_wp2_with fail
        refine (TQ.out _).mono ?_
        rintro e V7 ⟨rfl, hk⟩
        clear xs0 xsz0 xs1 xsz1 xs2 xsz2 xs3 xsz3 xs4 xsz4 xs5 xsz5 xc0 xcz0 xc1 xcz1 xc2 xcz2 xc3 xcz3 xt0 xtz0 xt1 xtz1 xt2 xtz2 xt3 xtz3 xt4 xtz4 xt5 xtz5
        replace hB := below_seq hB hk
        replace xs := xs.seq hk
        replace xc := xc.seq hk
        replace xt := xt.seq hk
        clear hk
        obtain ⟨xs0, xsz0, xs1, xsz1, xs2, xsz2, xs3, xsz3, xs4, xsz4, xs5, xsz5⟩ := xs.f6
        obtain ⟨xc0, xcz0, xc1, xcz1, xc2, xcz2, xc3, xcz3⟩ := xc.f4
        obtain ⟨xt0, xtz0, xt1, xtz1, xt2, xtz2, xt3, xtz3, xt4, xtz4, xt5, xtz5⟩ := xt.f6
        go_wp2_with fail
        refine (TO.out _).mono ?_
        rintro e V8 ⟨rfl, hk⟩
        clear xs0 xsz0 xs1 xsz1 xs2 xsz2 xs3 xsz3 xs4 xsz4 xs5 xsz5 xc0 xcz0 xc1 xcz1 xc2 xcz2 xc3 xcz3 xt0 xtz0 xt1 xtz1 xt2 xtz2 xt3 xtz3 xt4 xtz4 xt5 xtz5
        replace hB := below_seq hB hk
        replace xs := xs.seq hk
        replace xc := xc.seq hk
        replace xt := xt.seq hk
        clear hk
        obtain ⟨xs0, xsz0, xs1, xsz1, xs2, xsz2, xs3, xsz3, xs4, xsz4, xs5, xsz5⟩ := xs.f6
        obtain ⟨xc0, xcz0, xc1, xcz1, xc2, xcz2, xc3, xcz3⟩ := xc.f4
        obtain ⟨xt0, xtz0, xt1, xtz1, xt2, xtz2, xt3, xtz3, xt4, xtz4, xt5, xtz5⟩ := xt.f6
        go_wp2
        go_ret
        exact ⟨rfl, hB⟩
  · have TL := Lib.hid (fun (V : World) => (show Calls Try.prog 10 #[.agg #[.int .i64 s.mode, .bool s.armed, .bool s.home, .int .i64 s.lat, .int .i64 s.lon, .int .i64 s.iso]] V fun e W' => e = .returned (.bool false) ∧ Below V.heap.size V W' from by have h := ref14Legal s V; rwa [not_legal hl] at h))
    clear hl hs
    have hB : Below W.heap.size W ((W.alloc (.cells #[.int .i64 s.mode, .bool s.armed, .bool s.home, .int .i64 s.lat, .int .i64 s.lon, .int .i64 s.iso] 23)).alloc (.cells #[.int .i64 c.kind, .int .i64 c.n, .float .f64 c.lat, .float .f64 c.lon] 26)) := (((Below.refl _ _).alloc (Nat.le_refl _) _).alloc (by simp) _)
    have xs := ((Box.new 23 W [.int .i64 s.mode, .bool s.armed, .bool s.home, .int .i64 s.lat, .int .i64 s.lon, .int .i64 s.iso]).alloc (.cells #[.int .i64 c.kind, .int .i64 c.n, .float .f64 c.lat, .float .f64 c.lon] 26))
    have xc : Box 26 ((W.alloc (.cells #[.int .i64 s.mode, .bool s.armed, .bool s.home, .int .i64 s.lat, .int .i64 s.lon, .int .i64 s.iso] 23)).alloc (.cells #[.int .i64 c.kind, .int .i64 c.n, .float .f64 c.lat, .float .f64 c.lon] 26)) (W.heap.size + 1) [.int .i64 c.kind, .int .i64 c.n, .float .f64 c.lat, .float .f64 c.lon] := by have h := (Box.new 26 (W.alloc (.cells #[.int .i64 s.mode, .bool s.armed, .bool s.home, .int .i64 s.lat, .int .i64 s.lon, .int .i64 s.iso] 23)) [.int .i64 c.kind, .int .i64 c.n, .float .f64 c.lat, .float .f64 c.lon]); rwa [World.size_alloc] at h
    have le_xc : W.heap.size ≤ W.heap.size + 1 := by omega
    go_enter Try.func4, Try.ntmps4
    obtain ⟨xs0, xsz0, xs1, xsz1, xs2, xsz2, xs3, xsz3, xs4, xsz4, xs5, xsz5⟩ := xs.f6
    obtain ⟨xc0, xcz0, xc1, xcz1, xc2, xcz2, xc3, xcz3⟩ := xc.f4
    go_wp2_with fail
    refine (TI.out _).mono ?_
    rintro e V1 ⟨rfl, hk⟩
    clear xs0 xsz0 xs1 xsz1 xs2 xsz2 xs3 xsz3 xs4 xsz4 xs5 xsz5 xc0 xcz0 xc1 xcz1 xc2 xcz2 xc3 xcz3
    replace hB := below_seq hB hk
    replace xs := xs.seq hk
    replace xc := xc.seq hk
    clear hk
    obtain ⟨xs0, xsz0, xs1, xsz1, xs2, xsz2, xs3, xsz3, xs4, xsz4, xs5, xsz5⟩ := xs.f6
    obtain ⟨xc0, xcz0, xc1, xcz1, xc2, xcz2, xc3, xcz3⟩ := xc.f4
    go_wp2_with fail
    refine (TL.out _).mono ?_
    rintro e V2 ⟨rfl, hk⟩
    clear xs0 xsz0 xs1 xsz1 xs2 xsz2 xs3 xsz3 xs4 xsz4 xs5 xsz5 xc0 xcz0 xc1 xcz1 xc2 xcz2 xc3 xcz3
    replace hB := below_seq hB hk
    replace xs := xs.seq hk
    replace xc := xc.seq hk
    clear hk
    obtain ⟨xs0, xsz0, xs1, xsz1, xs2, xsz2, xs3, xsz3, xs4, xsz4, xs5, xsz5⟩ := xs.f6
    obtain ⟨xc0, xcz0, xc1, xcz1, xc2, xcz2, xc3, xcz3⟩ := xc.f4
    go_wp2_with fail
    refine (shown16 _).mono ?_
    rintro e V3 ⟨rfl, hk⟩
    clear xs0 xsz0 xs1 xsz1 xs2 xsz2 xs3 xsz3 xs4 xsz4 xs5 xsz5 xc0 xcz0 xc1 xcz1 xc2 xcz2 xc3 xcz3
    replace hB := below_seq hB hk
    replace xs := xs.seq hk
    replace xc := xc.seq hk
    clear hk
    obtain ⟨xs0, xsz0, xs1, xsz1, xs2, xsz2, xs3, xsz3, xs4, xsz4, xs5, xsz5⟩ := xs.f6
    obtain ⟨xc0, xcz0, xc1, xcz1, xc2, xcz2, xc3, xcz3⟩ := xc.f4
    go_wp2
    go_ret
    exact ⟨rfl, hB⟩

theorem own : ownKnob Try.prog.godebug = none := by kernel_rfl

set_option maxRecDepth 100000 in
theorem lifted (os : Os) (started : os.Started) (H : Type) (enc : TypeId × Value → H) :
    ReturnsInHanded {} Try.checked os 4 .any (Rows.commandFitsSpec.pre6 enc Try.prog Try.f4 Rows.commandFitsRow.domain false) (Rows.commandFitsSpec.post enc Try.prog Try.f4 false true false false) := by
  refine returnsInHanded_of_change (C := Try.checked) own started (by kernel_rfl) Try.func4
    (ChangeSpec.witness6 (enc := enc) (C := Try.checked) false ⟨#[], #[.agg #[.int .i64 0, .bool false, .bool false, .int .i64 0, .int .i64 0, .int .i64 0], .agg #[.int .i64 0, .int .i64 0, .float .f64 0, .float .f64 0]], []⟩ 8 (by kernel_rfl) (by kernel_rfl) (by kernel_rfl) (by kernel_rfl)) ?_
  intro W base args ds gs before hval hW _ _
  have hW' := hW
  obtain ⟨p, q, hA0, hV, rfl, hfz, hnd⟩ := hW
  have hA : DataW.TrodAll enc Try.prog W 0 (fun _ => true) true Try.f4.params.toList args.toList ds p := hA0
  rw [Try.params4] at hA hval
  obtain ⟨v0, vs0, d0, ds0, p0, q0, hargs, rfl, rfl, h0, r0⟩ := trodAll_cons hA
  obtain ⟨v1, vs1, d1, ds1, p1, q1, rfl, rfl, rfl, h1, r1⟩ := trodAll_cons r0
  obtain ⟨rfl, rfl, rfl⟩ := trodAll_nil r1
  obtain rfl : args = #[v0, v1] := by cases args; simp_all
  obtain ⟨rfl, rfl⟩ := trodVars_none hV
  have k0 := h0
  obtain ⟨s0, rfl, hs0⟩ := open_st (hval 0 23 v0 rfl rfl) h0
  have k1 := h1
  obtain ⟨s1, rfl, hs1⟩ := open_cm (hval 1 26 v1 rfl rfl) h1
  clear hA0
  simp only [List.append_nil] at hW'
  refine (walk s0 s1 W hs0 hs1).mono fun e W' ⟨he, hB⟩ => ?_
  subst he
  exact ⟨_, rfl, ⟨_, _, _, [], _, [], hW', trodAll_cons_mk (shut_bool Try.underlying4 _) trodAll_mk0, (trodAll_cons_mk (Below.trod Try.laidOut (by kernel_rfl) (of_decide_eq_true (by kernel_rfl)) k0 hB (fun x hx => by simpa using hW'.lt x (by simp [hx]))) (trodAll_cons_mk (Below.trod Try.laidOut (by kernel_rfl) (of_decide_eq_true (by kernel_rfl)) k1 hB (fun x hx => by simpa using hW'.lt x (by simp [hx]))) trodAll_mk0)), rfl, hB.frame _, fun h => by cases h⟩⟩

theorem holds : Rows.CommandFitsSaid :=
  OpenClaim.holds_of_wide 4 Try.f4 rfl rfl rfl rfl rfl rfl rfl ⟨rfl, rfl, rfl, rfl, rfl⟩ rfl rfl rfl rfl rfl (by kernel_rfl) Try.func4 (by kernel_rfl)
    (of_decide_eq_true (by kernel_rfl)) (by unfold Func.isWrapper; first | (rw [if_pos (by decide +kernel)]; kernel_rfl) | (rw [if_neg (by decide +kernel)]; exact ⟨rfl, rfl⟩))
    (fun os started H enc _ => lifted os started H enc)
end Go.Proofs.Ytdfacpppmfoiiaa.CommandFits

/- What any command makes of any legal state, or its error, and whether that fits, are the document's (CommandDelta); no condition. -/
import Derived.Test.YtdfacpppmfoiiaaCmdLaw
import Derived.Test.YtdfacpppmfoiiaaCmdGo
import Derived.Deep.RegionHeld3
import Derived.WalkLawsBesides
import Derived.WalkSpells
import Derived.IntWalk
import Derived.Lib.Hide
import Derived.Test.YtdfacpppmfoiiaaBox
import Derived.Test.YtdfacpppmfoiiaaCmdRef
import Derived.ProofKit
import Derived.OpenShut
import Derived.ChangeMaps5
import Derived.Test.YtdfacpppmfoiiaaInts
namespace Go.Proofs.Ytdfacpppmfoiiaa.CommandDelta
open Go.ChangeShapes Go.WideShapes Go.ChangeAt Go.RowKit Go.ChangeMaps
set_option linter.unusedVariables false
set_option linter.unusedSimpArgs false

set_option maxRecDepth 100000 in
set_option maxHeartbeats 8000000 in
theorem walk (s : St) (c : Cm) (W : World) (hs : s.ok) (hc : c.ok) :
    Calls Try.prog 3 #[.agg #[.int .i64 s.mode, .bool s.armed, .bool s.home, .int .i64 s.lat, .int .i64 s.lon, .int .i64 s.iso], .agg #[.int .i64 c.kind, .int .i64 c.n, .float .f64 c.lat, .float .f64 c.lon]] W fun e W' => e = .returned (.bool true) ∧ Below W.heap.size W W' := by
  have TI := Lib.hid (fun (V : World) => law16Its s V)
  by_cases hl : Legal s
  · skip
    have TL := Lib.hid (fun (V : World) => (show Calls Try.prog 10 #[.agg #[.int .i64 s.mode, .bool s.armed, .bool s.home, .int .i64 s.lat, .int .i64 s.lon, .int .i64 s.iso]] V fun e W' => e = .returned (.bool true) ∧ Below V.heap.size V W' from by have h := ref14Legal s V; rwa [(legal_iff s).2 hl] at h))
    have TD := Lib.hid (fun (V : World) => own16Delta s c V hl hc)
    have TR := Lib.hid (fun (V : World) => ref16Delta s c V hl)
    have TO := Lib.hid (fun (V : World) => own16Fits s V hl)
    have TX := Lib.hid (fun (V : World) => ref16Fits s V)
    generalize deltaS s c = u at *
    generalize deltaE s c = E at *
    generalize fitsB s = fb at *
    have TU := Lib.hid (fun (V : World) => law16Its u V)
    obtain ⟨um, ua, uh, ul, uo, ui⟩ := u
    dsimp only at *
    clear hl hs hc
    have hB : Below W.heap.size W ((W.alloc (.cells #[.int .i64 s.mode, .bool s.armed, .bool s.home, .int .i64 s.lat, .int .i64 s.lon, .int .i64 s.iso] 23)).alloc (.cells #[.int .i64 c.kind, .int .i64 c.n, .float .f64 c.lat, .float .f64 c.lon] 26)) := (((Below.refl _ _).alloc (Nat.le_refl _) _).alloc (by simp) _)
    have xs := ((Box.new 23 W [.int .i64 s.mode, .bool s.armed, .bool s.home, .int .i64 s.lat, .int .i64 s.lon, .int .i64 s.iso]).alloc (.cells #[.int .i64 c.kind, .int .i64 c.n, .float .f64 c.lat, .float .f64 c.lon] 26))
    have xc : Box 26 ((W.alloc (.cells #[.int .i64 s.mode, .bool s.armed, .bool s.home, .int .i64 s.lat, .int .i64 s.lon, .int .i64 s.iso] 23)).alloc (.cells #[.int .i64 c.kind, .int .i64 c.n, .float .f64 c.lat, .float .f64 c.lon] 26)) (W.heap.size + 1) [.int .i64 c.kind, .int .i64 c.n, .float .f64 c.lat, .float .f64 c.lon] := by have h := (Box.new 26 (W.alloc (.cells #[.int .i64 s.mode, .bool s.armed, .bool s.home, .int .i64 s.lat, .int .i64 s.lon, .int .i64 s.iso] 23)) [.int .i64 c.kind, .int .i64 c.n, .float .f64 c.lat, .float .f64 c.lon]); rwa [World.size_alloc] at h
    have le_xc : W.heap.size ≤ W.heap.size + 1 := by omega
    go_enter Try.func3, Try.ntmps3
    obtain ⟨xs0, xsz0, xs1, xsz1, xs2, xsz2, xs3, xsz3, xs4, xsz4, xs5, xsz5⟩ := xs.f6
    obtain ⟨xc0, xcz0, xc1, xcz1, xc2, xcz2, xc3, xcz3⟩ := xc.f4
    go_wp2_with fail
    refine (TI.out _).mono ?_
    rintro e V1 ⟨rfl, hk⟩
    clear xs0 xsz0 xs1 xsz1 xs2 xsz2 xs3 xsz3 xs4 xsz4 xs5 xsz5 xc0 xcz0 xc1 xcz1 xc2 xcz2 xc3 xcz3
    replace hB := below_seq hB hk
    replace xs := xs.seq hk
    replace xc := xc.seq hk
    clear hk
    obtain ⟨xs0, xsz0, xs1, xsz1, xs2, xsz2, xs3, xsz3, xs4, xsz4, xs5, xsz5⟩ := xs.f6
    obtain ⟨xc0, xcz0, xc1, xcz1, xc2, xcz2, xc3, xcz3⟩ := xc.f4
    go_wp2_with fail
    refine (TL.out _).mono ?_
    rintro e V2 ⟨rfl, hk⟩
    clear xs0 xsz0 xs1 xsz1 xs2 xsz2 xs3 xsz3 xs4 xsz4 xs5 xsz5 xc0 xcz0 xc1 xcz1 xc2 xcz2 xc3 xcz3
    replace hB := below_seq hB hk
    replace xs := xs.seq hk
    replace xc := xc.seq hk
    clear hk
    obtain ⟨xs0, xsz0, xs1, xsz1, xs2, xsz2, xs3, xsz3, xs4, xsz4, xs5, xsz5⟩ := xs.f6
    obtain ⟨xc0, xcz0, xc1, xcz1, xc2, xcz2, xc3, xcz3⟩ := xc.f4
    go_wp2_with fail
    refine (shown16 _).mono ?_
    rintro e V3 ⟨rfl, hk⟩
    clear xs0 xsz0 xs1 xsz1 xs2 xsz2 xs3 xsz3 xs4 xsz4 xs5 xsz5 xc0 xcz0 xc1 xcz1 xc2 xcz2 xc3 xcz3
    replace hB := below_seq hB hk
    replace xs := xs.seq hk
    replace xc := xc.seq hk
    clear hk
    obtain ⟨xs0, xsz0, xs1, xsz1, xs2, xsz2, xs3, xsz3, xs4, xsz4, xs5, xsz5⟩ := xs.f6
    obtain ⟨xc0, xcz0, xc1, xcz1, xc2, xcz2, xc3, xcz3⟩ := xc.f4
    go_wp2_with fail
    refine (TD.out _).mono ?_
    rintro e V4 ⟨rfl, hk⟩
    clear xs0 xsz0 xs1 xsz1 xs2 xsz2 xs3 xsz3 xs4 xsz4 xs5 xsz5 xc0 xcz0 xc1 xcz1 xc2 xcz2 xc3 xcz3
    replace hB := below_seq hB hk
    replace xs := xs.seq hk
    replace xc := xc.seq hk
    clear hk
    have xt := Box.new 23 V4 [.int .i64 um, .bool ua, .bool uh, .int .i64 ul, .int .i64 uo, .int .i64 ui]
    have ne_xt_xs : V4.heap.size ≠ W.heap.size := Nat.ne_of_gt xs.lt
    have ne_xt_xc : V4.heap.size ≠ W.heap.size + 1 := Nat.ne_of_gt xc.lt
    have le_xt : W.heap.size ≤ V4.heap.size := hB.size
    replace xs := xs.alloc (.cells #[.int .i64 um, .bool ua, .bool uh, .int .i64 ul, .int .i64 uo, .int .i64 ui] 23)
    replace xc := xc.alloc (.cells #[.int .i64 um, .bool ua, .bool uh, .int .i64 ul, .int .i64 uo, .int .i64 ui] 23)
    replace hB := hB.alloc hB.size (.cells #[.int .i64 um, .bool ua, .bool uh, .int .i64 ul, .int .i64 uo, .int .i64 ui] 23)
    obtain ⟨xs0, xsz0, xs1, xsz1, xs2, xsz2, xs3, xsz3, xs4, xsz4, xs5, xsz5⟩ := xs.f6
    obtain ⟨xc0, xcz0, xc1, xcz1, xc2, xcz2, xc3, xcz3⟩ := xc.f4
    obtain ⟨xt0, xtz0, xt1, xtz1, xt2, xtz2, xt3, xtz3, xt4, xtz4, xt5, xtz5⟩ := xt.f6
    go_wp2_with fail
    clear xs0 xsz0 xs1 xsz1 xs2 xsz2 xs3 xsz3 xs4 xsz4 xs5 xsz5 xc0 xcz0 xc1 xcz1 xc2 xcz2 xc3 xcz3 xt0 xtz0 xt1 xtz1 xt2 xtz2 xt3 xtz3 xt4 xtz4 xt5 xtz5
    generalize (V4.alloc (.cells #[.int .i64 um, .bool ua, .bool uh, .int .i64 ul, .int .i64 uo, .int .i64 ui] 23)) = V5 at *
    replace hB := hB.drew
    replace xs := xs.drew
    replace xc := xc.drew
    replace xt := xt.drew
    refine wp_region_held_drew (S := fun w' => w'.cell? ⟨W.heap.size, 0, none⟩ = some (.int .i64 s.mode) ∧ w'.cell? ⟨W.heap.size, 1, none⟩ = some (.bool s.armed) ∧ w'.cell? ⟨W.heap.size, 2, none⟩ = some (.bool s.home) ∧ w'.cell? ⟨W.heap.size, 3, none⟩ = some (.int .i64 s.lat) ∧ w'.cell? ⟨W.heap.size, 4, none⟩ = some (.int .i64 s.lon) ∧ w'.cell? ⟨W.heap.size, 5, none⟩ = some (.int .i64 s.iso) ∧ w'.cell? ⟨W.heap.size + 1, 0, none⟩ = some (.int .i64 c.kind) ∧ w'.cell? ⟨W.heap.size + 1, 1, none⟩ = some (.int .i64 c.n) ∧ w'.cell? ⟨W.heap.size + 1, 2, none⟩ = some (.float .f64 c.lat) ∧ w'.cell? ⟨W.heap.size + 1, 3, none⟩ = some (.float .f64 c.lon)) (by kernel_rfl) ?_ (fun hHeld => ?_)
    · exact ⟨xs.cell 0 rfl, xs.cell 1 rfl, xs.cell 2 rfl, xs.cell 3 rfl, xs.cell 4 rfl, xs.cell 5 rfl, xc.cell 0 rfl, xc.cell 1 rfl, xc.cell 2 rfl, xc.cell 3 rfl⟩
    generalize V5.drew = V6 at *
    refine tk 0 (v := ?_) rfl (Or.inl ⟨by rfl, ?_⟩) ?_; rotate_left
    · intro w hSw; (try dsimp only at hSw); go_simp; try with_reducible rfl
    try simp only [Act.put, l1, l2, l3, l4, l5, l6]
    refine tk 2 (v := ?_) rfl (Or.inl ⟨by rfl, ?_⟩) ?_; rotate_left
    · intro w hSw; (try dsimp only at hSw); go_simp; try with_reducible rfl
    try simp only [Act.put, l1, l2, l3, l4, l5, l6]
    refine wpAnyH_ready (rs := [1, 7]) (by kernel_rfl) (by simp) ?_
    refine AllReadyH.cons rfl (fun K hK => ?_) (AllReadyH.cons rfl (fun K hK => ?_) (AllReadyH.nil))
    · obtain ⟨xs0, xsz0, xs1, xsz1, xs2, xsz2, xs3, xsz3, xs4, xsz4, xs5, xsz5⟩ := xs.f6
      obtain ⟨xc0, xcz0, xc1, xcz1, xc2, xcz2, xc3, xcz3⟩ := xc.f4
      obtain ⟨xt0, xtz0, xt1, xtz1, xt2, xtz2, xt3, xtz3, xt4, xtz4, xt5, xtz5⟩ := xt.f6
      go_simp
      refine (TI.out _).mono ?_
      rintro e V7 ⟨rfl, hk⟩
      clear xs0 xsz0 xs1 xsz1 xs2 xsz2 xs3 xsz3 xs4 xsz4 xs5 xsz5 xc0 xcz0 xc1 xcz1 xc2 xcz2 xc3 xcz3 xt0 xtz0 xt1 xtz1 xt2 xtz2 xt3 xtz3 xt4 xtz4 xt5 xtz5
      replace hB := below_seq hB hk
      replace xs := xs.seq hk
      replace xc := xc.seq hk
      replace xt := xt.seq hk
      clear hk
      obtain ⟨xs0, xsz0, xs1, xsz1, xs2, xsz2, xs3, xsz3, xs4, xsz4, xs5, xsz5⟩ := xs.f6
      obtain ⟨xc0, xcz0, xc1, xcz1, xc2, xcz2, xc3, xcz3⟩ := xc.f4
      obtain ⟨xt0, xtz0, xt1, xtz1, xt2, xtz2, xt3, xtz3, xt4, xtz4, xt5, xtz5⟩ := xt.f6
      try go_wp2_with fail
      clear xs0 xsz0 xs1 xsz1 xs2 xsz2 xs3 xsz3 xs4 xsz4 xs5 xsz5 xc0 xcz0 xc1 xcz1 xc2 xcz2 xc3 xcz3 xt0 xtz0 xt1 xtz1 xt2 xtz2 xt3 xtz3 xt4 xtz4 xt5 xtz5
      clear hHeld
      refine hK.out _ _ ?_ (fun hHeld => ?_)
      · exact ⟨xs.cell 0 rfl, xs.cell 1 rfl, xs.cell 2 rfl, xs.cell 3 rfl, xs.cell 4 rfl, xs.cell 5 rfl, xc.cell 0 rfl, xc.cell 1 rfl, xc.cell 2 rfl, xc.cell 3 rfl⟩
      clear hK K
      try simp only [Act.put, l1, l2, l3, l4, l5, l6]
      refine wpAnyH_ready (rs := [3, 7]) (by kernel_rfl) (by simp) ?_
      refine AllReadyH.cons rfl (fun K hK => ?_) (AllReadyH.cons rfl (fun K hK => ?_) (AllReadyH.nil))
      · obtain ⟨xs0, xsz0, xs1, xsz1, xs2, xsz2, xs3, xsz3, xs4, xsz4, xs5, xsz5⟩ := xs.f6
        obtain ⟨xc0, xcz0, xc1, xcz1, xc2, xcz2, xc3, xcz3⟩ := xc.f4
        obtain ⟨xt0, xtz0, xt1, xtz1, xt2, xtz2, xt3, xtz3, xt4, xtz4, xt5, xtz5⟩ := xt.f6
        go_simp
        refine (TR.out _).mono ?_
        rintro e V8 ⟨rfl, hk⟩
        clear xs0 xsz0 xs1 xsz1 xs2 xsz2 xs3 xsz3 xs4 xsz4 xs5 xsz5 xc0 xcz0 xc1 xcz1 xc2 xcz2 xc3 xcz3 xt0 xtz0 xt1 xtz1 xt2 xtz2 xt3 xtz3 xt4 xtz4 xt5 xtz5
        replace hB := below_seq hB hk
        replace xs := xs.seq hk
        replace xc := xc.seq hk
        replace xt := xt.seq hk
        clear hk
        obtain ⟨xs0, xsz0, xs1, xsz1, xs2, xsz2, xs3, xsz3, xs4, xsz4, xs5, xsz5⟩ := xs.f6
        obtain ⟨xc0, xcz0, xc1, xcz1, xc2, xcz2, xc3, xcz3⟩ := xc.f4
        obtain ⟨xt0, xtz0, xt1, xtz1, xt2, xtz2, xt3, xtz3, xt4, xtz4, xt5, xtz5⟩ := xt.f6
        try go_wp2_with fail
        clear xs0 xsz0 xs1 xsz1 xs2 xsz2 xs3 xsz3 xs4 xsz4 xs5 xsz5 xc0 xcz0 xc1 xcz1 xc2 xcz2 xc3 xcz3 xt0 xtz0 xt1 xtz1 xt2 xtz2 xt3 xtz3 xt4 xtz4 xt5 xtz5
        clear hHeld
        refine hK.out _ _ ?_ (fun hHeld => ?_)
        · exact ⟨xs.cell 0 rfl, xs.cell 1 rfl, xs.cell 2 rfl, xs.cell 3 rfl, xs.cell 4 rfl, xs.cell 5 rfl, xc.cell 0 rfl, xc.cell 1 rfl, xc.cell 2 rfl, xc.cell 3 rfl⟩
        clear hK K
        try simp only [Act.put, l1, l2, l3, l4, l5, l6]
        refine tk 4 (v := ?_) rfl (Or.inl ⟨by rfl, ?_⟩) ?_; rotate_left
        · intro w hSw; (try dsimp only at hSw); go_simp; try with_reducible rfl
        try simp only [Act.put, l1, l2, l3, l4, l5, l6]
        refine tk 5 (v := ?_) rfl (Or.inl ⟨by rfl, ?_⟩) ?_; rotate_left
        · intro w hSw; (try dsimp only at hSw); go_simp; try with_reducible rfl
        try simp only [Act.put, l1, l2, l3, l4, l5, l6]
        refine tk 6 (v := ?_) rfl (Or.inl ⟨by rfl, ?_⟩) ?_; rotate_left
        · intro w hSw; (try dsimp only at hSw); go_simp; try with_reducible rfl
        try simp only [Act.put, l1, l2, l3, l4, l5, l6]
        refine wpAnyH_ready (rs := [7]) (by kernel_rfl) (by simp) ?_
        refine AllReadyH.cons rfl (fun K hK => ?_) (AllReadyH.nil)
        obtain ⟨xs0, xsz0, xs1, xsz1, xs2, xsz2, xs3, xsz3, xs4, xsz4, xs5, xsz5⟩ := xs.f6
        obtain ⟨xc0, xcz0, xc1, xcz1, xc2, xcz2, xc3, xcz3⟩ := xc.f4
        obtain ⟨xt0, xtz0, xt1, xtz1, xt2, xtz2, xt3, xtz3, xt4, xtz4, xt5, xtz5⟩ := xt.f6
        go_simp
        try go_wp2_with fail
        clear xs0 xsz0 xs1 xsz1 xs2 xsz2 xs3 xsz3 xs4 xsz4 xs5 xsz5 xc0 xcz0 xc1 xcz1 xc2 xcz2 xc3 xcz3 xt0 xtz0 xt1 xtz1 xt2 xtz2 xt3 xtz3 xt4 xtz4 xt5 xtz5
        have xu := Box.new 28 V8 [.int .i64 0, .bool false, .bool false, .int .i64 0, .int .i64 0, .int .i64 0]
        have ne_xu_xs : V8.heap.size ≠ W.heap.size := Nat.ne_of_gt xs.lt
        have ne_xu_xc : V8.heap.size ≠ W.heap.size + 1 := Nat.ne_of_gt xc.lt
        have ne_xu_xt : V8.heap.size ≠ V4.heap.size := Nat.ne_of_gt xt.lt
        have le_xu : W.heap.size ≤ V8.heap.size := hB.size
        replace xs := xs.alloc (.cells #[.int .i64 0, .bool false, .bool false, .int .i64 0, .int .i64 0, .int .i64 0] 28)
        replace xc := xc.alloc (.cells #[.int .i64 0, .bool false, .bool false, .int .i64 0, .int .i64 0, .int .i64 0] 28)
        replace xt := xt.alloc (.cells #[.int .i64 0, .bool false, .bool false, .int .i64 0, .int .i64 0, .int .i64 0] 28)
        replace hB := hB.alloc hB.size (.cells #[.int .i64 0, .bool false, .bool false, .int .i64 0, .int .i64 0, .int .i64 0] 28)
        obtain ⟨xs0, xsz0, xs1, xsz1, xs2, xsz2, xs3, xsz3, xs4, xsz4, xs5, xsz5⟩ := xs.f6
        obtain ⟨xc0, xcz0, xc1, xcz1, xc2, xcz2, xc3, xcz3⟩ := xc.f4
        obtain ⟨xt0, xtz0, xt1, xtz1, xt2, xtz2, xt3, xtz3, xt4, xtz4, xt5, xtz5⟩ := xt.f6
        obtain ⟨xu0, xuz0, xu1, xuz1, xu2, xuz2, xu3, xuz3, xu4, xuz4, xu5, xuz5⟩ := xu.f6
        generalize (V8.alloc (.cells #[.int .i64 0, .bool false, .bool false, .int .i64 0, .int .i64 0, .int .i64 0] 28)) = V9 at *
        generalize V8.heap.size = g_xu at *
        clear xs0 xsz0 xs1 xsz1 xs2 xsz2 xs3 xsz3 xs4 xsz4 xs5 xsz5 xc0 xcz0 xc1 xcz1 xc2 xcz2 xc3 xcz3 xt0 xtz0 xt1 xtz1 xt2 xtz2 xt3 xtz3 xt4 xtz4 xt5 xtz5 xu0 xuz0 xu1 xuz1 xu2 xuz2 xu3 xuz3 xu4 xuz4 xu5 xuz5
        clear hHeld
        refine hK.out _ _ ?_ (fun hHeld => ?_)
        · exact ⟨xs.cell 0 rfl, xs.cell 1 rfl, xs.cell 2 rfl, xs.cell 3 rfl, xs.cell 4 rfl, xs.cell 5 rfl, xc.cell 0 rfl, xc.cell 1 rfl, xc.cell 2 rfl, xc.cell 3 rfl⟩
        clear hK K
        try simp only [Act.put, l1, l2, l3, l4, l5, l6]
        refine wpAnyH_ready (rs := [8]) (by kernel_rfl) (by simp) ?_
        refine AllReadyH.cons rfl (fun K hK => ?_) (AllReadyH.nil)
        obtain ⟨xs0, xsz0, xs1, xsz1, xs2, xsz2, xs3, xsz3, xs4, xsz4, xs5, xsz5⟩ := xs.f6
        obtain ⟨xc0, xcz0, xc1, xcz1, xc2, xcz2, xc3, xcz3⟩ := xc.f4
        obtain ⟨xt0, xtz0, xt1, xtz1, xt2, xtz2, xt3, xtz3, xt4, xtz4, xt5, xtz5⟩ := xt.f6
        obtain ⟨xu0, xuz0, xu1, xuz1, xu2, xuz2, xu3, xuz3, xu4, xuz4, xu5, xuz5⟩ := xu.f6
        go_simp
        try go_wp2_with fail
        clear xs0 xsz0 xs1 xsz1 xs2 xsz2 xs3 xsz3 xs4 xsz4 xs5 xsz5 xc0 xcz0 xc1 xcz1 xc2 xcz2 xc3 xcz3 xt0 xtz0 xt1 xtz1 xt2 xtz2 xt3 xtz3 xt4 xtz4 xt5 xtz5 xu0 xuz0 xu1 xuz1 xu2 xuz2 xu3 xuz3 xu4 xuz4 xu5 xuz5
        replace xs := ((((((xs.other ne_xu_xs 0 (.int .i64 um)).other ne_xu_xs 1 (.bool ua)).other ne_xu_xs 2 (.bool uh)).other ne_xu_xs 3 (.int .i64 ul)).other ne_xu_xs 4 (.int .i64 uo)).other ne_xu_xs 5 (.int .i64 ui))
        replace xc := ((((((xc.other ne_xu_xc 0 (.int .i64 um)).other ne_xu_xc 1 (.bool ua)).other ne_xu_xc 2 (.bool uh)).other ne_xu_xc 3 (.int .i64 ul)).other ne_xu_xc 4 (.int .i64 uo)).other ne_xu_xc 5 (.int .i64 ui))
        replace xt := ((((((xt.other ne_xu_xt 0 (.int .i64 um)).other ne_xu_xt 1 (.bool ua)).other ne_xu_xt 2 (.bool uh)).other ne_xu_xt 3 (.int .i64 ul)).other ne_xu_xt 4 (.int .i64 uo)).other ne_xu_xt 5 (.int .i64 ui))
        replace xu : Box 28 ((((((V9.setCell ⟨g_xu, 0, none⟩ (.int .i64 um)).setCell ⟨g_xu, 1, none⟩ (.bool ua)).setCell ⟨g_xu, 2, none⟩ (.bool uh)).setCell ⟨g_xu, 3, none⟩ (.int .i64 ul)).setCell ⟨g_xu, 4, none⟩ (.int .i64 uo)).setCell ⟨g_xu, 5, none⟩ (.int .i64 ui)) (g_xu) [.int .i64 um, .bool ua, .bool uh, .int .i64 ul, .int .i64 uo, .int .i64 ui] := ((((((xu.set 0 (.int .i64 um)).set 1 (.bool ua)).set 2 (.bool uh)).set 3 (.int .i64 ul)).set 4 (.int .i64 uo)).set 5 (.int .i64 ui))
        replace hB : Below W.heap.size W ((((((V9.setCell ⟨g_xu, 0, none⟩ (.int .i64 um)).setCell ⟨g_xu, 1, none⟩ (.bool ua)).setCell ⟨g_xu, 2, none⟩ (.bool uh)).setCell ⟨g_xu, 3, none⟩ (.int .i64 ul)).setCell ⟨g_xu, 4, none⟩ (.int .i64 uo)).setCell ⟨g_xu, 5, none⟩ (.int .i64 ui)) := ((((((hB.setCell le_xu _).setCell le_xu _).setCell le_xu _).setCell le_xu _).setCell le_xu _).setCell le_xu _)
        generalize ((((((V9.setCell ⟨g_xu, 0, none⟩ (.int .i64 um)).setCell ⟨g_xu, 1, none⟩ (.bool ua)).setCell ⟨g_xu, 2, none⟩ (.bool uh)).setCell ⟨g_xu, 3, none⟩ (.int .i64 ul)).setCell ⟨g_xu, 4, none⟩ (.int .i64 uo)).setCell ⟨g_xu, 5, none⟩ (.int .i64 ui)) = V10 at *
        clear hHeld
        refine hK.out _ _ ?_ (fun hHeld => ?_)
        · exact ⟨xs.cell 0 rfl, xs.cell 1 rfl, xs.cell 2 rfl, xs.cell 3 rfl, xs.cell 4 rfl, xs.cell 5 rfl, xc.cell 0 rfl, xc.cell 1 rfl, xc.cell 2 rfl, xc.cell 3 rfl⟩
        clear hK K
        try simp only [Act.put, l1, l2, l3, l4, l5, l6]
        refine tk 9 (v := ?_) rfl (Or.inl ⟨by rfl, ?_⟩) ?_; rotate_left
        · intro w hSw; (try dsimp only at hSw); go_simp; try with_reducible rfl
        try simp only [Act.put, l1, l2, l3, l4, l5, l6]
        refine wpAnyH_done (by kernel_rfl) ?_ _
        clear hHeld
        obtain ⟨xs0, xsz0, xs1, xsz1, xs2, xsz2, xs3, xsz3, xs4, xsz4, xs5, xsz5⟩ := xs.f6
        obtain ⟨xc0, xcz0, xc1, xcz1, xc2, xcz2, xc3, xcz3⟩ := xc.f4
        obtain ⟨xt0, xtz0, xt1, xtz1, xt2, xtz2, xt3, xtz3, xt4, xtz4, xt5, xtz5⟩ := xt.f6
        obtain ⟨xu0, xuz0, xu1, xuz1, xu2, xuz2, xu3, xuz3, xu4, xuz4, xu5, xuz5⟩ := xu.f6
        go_wp2_with fail
        clear xs0 xsz0 xs1 xsz1 xs2 xsz2 xs3 xsz3 xs4 xsz4 xs5 xsz5 xc0 xcz0 xc1 xcz1 xc2 xcz2 xc3 xcz3 xt0 xtz0 xt1 xtz1 xt2 xtz2 xt3 xtz3 xt4 xtz4 xt5 xtz5 xu0 xuz0 xu1 xuz1 xu2 xuz2 xu3 xuz3 xu4 xuz4 xu5 xuz5
        replace hB := hB.drew
        replace xs := xs.drew
        replace xc := xc.drew
        replace xt := xt.drew
        replace xu := xu.drew
        refine wp_region_held_drew (S := fun w' => w'.cell? ⟨V4.heap.size, 0, none⟩ = some (.int .i64 um) ∧ w'.cell? ⟨V4.heap.size, 1, none⟩ = some (.bool ua) ∧ w'.cell? ⟨V4.heap.size, 2, none⟩ = some (.bool uh) ∧ w'.cell? ⟨V4.heap.size, 3, none⟩ = some (.int .i64 ul) ∧ w'.cell? ⟨V4.heap.size, 4, none⟩ = some (.int .i64 uo) ∧ w'.cell? ⟨V4.heap.size, 5, none⟩ = some (.int .i64 ui) ∧ w'.cell? ⟨g_xu, 0, none⟩ = some (.int .i64 um) ∧ w'.cell? ⟨g_xu, 1, none⟩ = some (.bool ua) ∧ w'.cell? ⟨g_xu, 2, none⟩ = some (.bool uh) ∧ w'.cell? ⟨g_xu, 3, none⟩ = some (.int .i64 ul) ∧ w'.cell? ⟨g_xu, 4, none⟩ = some (.int .i64 uo) ∧ w'.cell? ⟨g_xu, 5, none⟩ = some (.int .i64 ui) ∧ w'.cell? ⟨W.heap.size, 0, none⟩ = some (.int .i64 s.mode) ∧ w'.cell? ⟨W.heap.size, 1, none⟩ = some (.bool s.armed) ∧ w'.cell? ⟨W.heap.size, 2, none⟩ = some (.bool s.home) ∧ w'.cell? ⟨W.heap.size, 3, none⟩ = some (.int .i64 s.lat) ∧ w'.cell? ⟨W.heap.size, 4, none⟩ = some (.int .i64 s.lon) ∧ w'.cell? ⟨W.heap.size, 5, none⟩ = some (.int .i64 s.iso)) (by kernel_rfl) ?_ (fun hHeld => ?_)
        · exact ⟨xt.cell 0 rfl, xt.cell 1 rfl, xt.cell 2 rfl, xt.cell 3 rfl, xt.cell 4 rfl, xt.cell 5 rfl, xu.cell 0 rfl, xu.cell 1 rfl, xu.cell 2 rfl, xu.cell 3 rfl, xu.cell 4 rfl, xu.cell 5 rfl, xs.cell 0 rfl, xs.cell 1 rfl, xs.cell 2 rfl, xs.cell 3 rfl, xs.cell 4 rfl, xs.cell 5 rfl⟩
        generalize V10.drew = V11 at *
        refine tk 0 (v := ?_) rfl (Or.inl ⟨by rfl, ?_⟩) ?_; rotate_left
        · intro w hSw; (try dsimp only at hSw); go_simp; try with_reducible rfl
        try simp only [Act.put, l1, l2, l3, l4, l5, l6]
        refine tk 2 (v := ?_) rfl (Or.inl ⟨by rfl, ?_⟩) ?_; rotate_left
        · intro w hSw; (try dsimp only at hSw); go_simp; try with_reducible rfl
        try simp only [Act.put, l1, l2, l3, l4, l5, l6]
        refine wpAnyH_ready (rs := [1]) (by kernel_rfl) (by simp) ?_
        refine AllReadyH.cons rfl (fun K hK => ?_) AllReadyH.nil
        obtain ⟨xs0, xsz0, xs1, xsz1, xs2, xsz2, xs3, xsz3, xs4, xsz4, xs5, xsz5⟩ := xs.f6
        obtain ⟨xc0, xcz0, xc1, xcz1, xc2, xcz2, xc3, xcz3⟩ := xc.f4
        obtain ⟨xt0, xtz0, xt1, xtz1, xt2, xtz2, xt3, xtz3, xt4, xtz4, xt5, xtz5⟩ := xt.f6
        obtain ⟨xu0, xuz0, xu1, xuz1, xu2, xuz2, xu3, xuz3, xu4, xuz4, xu5, xuz5⟩ := xu.f6
        go_simp
        refine (TU.out _).mono ?_
        rintro e V12 ⟨rfl, hk⟩
        clear xs0 xsz0 xs1 xsz1 xs2 xsz2 xs3 xsz3 xs4 xsz4 xs5 xsz5 xc0 xcz0 xc1 xcz1 xc2 xcz2 xc3 xcz3 xt0 xtz0 xt1 xtz1 xt2 xtz2 xt3 xtz3 xt4 xtz4 xt5 xtz5 xu0 xuz0 xu1 xuz1 xu2 xuz2 xu3 xuz3 xu4 xuz4 xu5 xuz5
        replace hB := below_seq hB hk
        replace xs := xs.seq hk
        replace xc := xc.seq hk
        replace xt := xt.seq hk
        replace xu := xu.seq hk
        clear hk
        obtain ⟨xs0, xsz0, xs1, xsz1, xs2, xsz2, xs3, xsz3, xs4, xsz4, xs5, xsz5⟩ := xs.f6
        obtain ⟨xc0, xcz0, xc1, xcz1, xc2, xcz2, xc3, xcz3⟩ := xc.f4
        obtain ⟨xt0, xtz0, xt1, xtz1, xt2, xtz2, xt3, xtz3, xt4, xtz4, xt5, xtz5⟩ := xt.f6
        obtain ⟨xu0, xuz0, xu1, xuz1, xu2, xuz2, xu3, xuz3, xu4, xuz4, xu5, xuz5⟩ := xu.f6
        try go_wp2_with fail
        clear xs0 xsz0 xs1 xsz1 xs2 xsz2 xs3 xsz3 xs4 xsz4 xs5 xsz5 xc0 xcz0 xc1 xcz1 xc2 xcz2 xc3 xcz3 xt0 xtz0 xt1 xtz1 xt2 xtz2 xt3 xtz3 xt4 xtz4 xt5 xtz5 xu0 xuz0 xu1 xuz1 xu2 xuz2 xu3 xuz3 xu4 xuz4 xu5 xuz5
        clear hHeld
        refine hK.out _ _ ?_ (fun hHeld => ?_)
        · exact ⟨xt.cell 0 rfl, xt.cell 1 rfl, xt.cell 2 rfl, xt.cell 3 rfl, xt.cell 4 rfl, xt.cell 5 rfl, xu.cell 0 rfl, xu.cell 1 rfl, xu.cell 2 rfl, xu.cell 3 rfl, xu.cell 4 rfl, xu.cell 5 rfl, xs.cell 0 rfl, xs.cell 1 rfl, xs.cell 2 rfl, xs.cell 3 rfl, xs.cell 4 rfl, xs.cell 5 rfl⟩
        clear hK K
        try simp only [Act.put, l1, l2, l3, l4, l5, l6]
        refine tk 3 (v := ?_) rfl (Or.inl ⟨by rfl, ?_⟩) ?_; rotate_left
        · intro w hSw; (try dsimp only at hSw); go_simp; try with_reducible rfl
        try simp only [Act.put, l1, l2, l3, l4, l5, l6]
        refine tk 4 (v := ?_) rfl (Or.inl ⟨by rfl, ?_⟩) ?_; rotate_left
        · intro w hSw; (try dsimp only at hSw); go_simp; try with_reducible rfl
        try simp only [Act.put, l1, l2, l3, l4, l5, l6]
        refine tk 5 (v := ?_) rfl (Or.inl ⟨by rfl, ?_⟩) ?_; rotate_left
        · intro w hSw; (try dsimp only at hSw); go_simp; try with_reducible rfl
        try simp only [Act.put, l1, l2, l3, l4, l5, l6]
        refine tk 6 (v := ?_) rfl (Or.inl ⟨by rfl, ?_⟩) ?_; rotate_left
        · intro w hSw; (try dsimp only at hSw); go_simp; try with_reducible rfl
        try simp only [Act.put, l1, l2, l3, l4, l5, l6]
        refine tk 7 (v := ?_) rfl (Or.inl ⟨by rfl, ?_⟩) ?_; rotate_left
        · intro w hSw; (try dsimp only at hSw); go_simp; try with_reducible rfl
        try simp only [Act.put, l1, l2, l3, l4, l5, l6]
        refine tk 8 (v := ?_) rfl (Or.inl ⟨by rfl, ?_⟩) ?_; rotate_left
        · intro w hSw; (try dsimp only at hSw); go_simp; try with_reducible rfl
        try simp only [Act.put, l1, l2, l3, l4, l5, l6]
        refine tk 9 (v := ?_) rfl (Or.inl ⟨by rfl, ?_⟩) ?_; rotate_left
        · intro w hSw; (try dsimp only at hSw); go_simp; try with_reducible rfl
        try simp only [Act.put, l1, l2, l3, l4, l5, l6]
        refine tk 10 (v := ?_) rfl (Or.inl ⟨by rfl, ?_⟩) ?_; rotate_left
        · intro w hSw; (try dsimp only at hSw); go_simp; try with_reducible rfl
        try simp only [Act.put, l1, l2, l3, l4, l5, l6]
        refine tk 12 (v := ?_) rfl (Or.inl ⟨by rfl, ?_⟩) ?_; rotate_left
        · intro w hSw; (try dsimp only at hSw); go_simp; try with_reducible rfl
        try simp only [Act.put, l1, l2, l3, l4, l5, l6]
        refine wpAnyH_ready (rs := [11]) (by kernel_rfl) (by simp) ?_
        refine AllReadyH.cons rfl (fun K hK => ?_) AllReadyH.nil
        obtain ⟨xs0, xsz0, xs1, xsz1, xs2, xsz2, xs3, xsz3, xs4, xsz4, xs5, xsz5⟩ := xs.f6
        obtain ⟨xc0, xcz0, xc1, xcz1, xc2, xcz2, xc3, xcz3⟩ := xc.f4
        obtain ⟨xt0, xtz0, xt1, xtz1, xt2, xtz2, xt3, xtz3, xt4, xtz4, xt5, xtz5⟩ := xt.f6
        obtain ⟨xu0, xuz0, xu1, xuz1, xu2, xuz2, xu3, xuz3, xu4, xuz4, xu5, xuz5⟩ := xu.f6
        go_simp
        refine (TO.out _).mono ?_
        rintro e V13 ⟨rfl, hk⟩
        clear xs0 xsz0 xs1 xsz1 xs2 xsz2 xs3 xsz3 xs4 xsz4 xs5 xsz5 xc0 xcz0 xc1 xcz1 xc2 xcz2 xc3 xcz3 xt0 xtz0 xt1 xtz1 xt2 xtz2 xt3 xtz3 xt4 xtz4 xt5 xtz5 xu0 xuz0 xu1 xuz1 xu2 xuz2 xu3 xuz3 xu4 xuz4 xu5 xuz5
        replace hB := below_seq hB hk
        replace xs := xs.seq hk
        replace xc := xc.seq hk
        replace xt := xt.seq hk
        replace xu := xu.seq hk
        clear hk
        obtain ⟨xs0, xsz0, xs1, xsz1, xs2, xsz2, xs3, xsz3, xs4, xsz4, xs5, xsz5⟩ := xs.f6
        obtain ⟨xc0, xcz0, xc1, xcz1, xc2, xcz2, xc3, xcz3⟩ := xc.f4
        obtain ⟨xt0, xtz0, xt1, xtz1, xt2, xtz2, xt3, xtz3, xt4, xtz4, xt5, xtz5⟩ := xt.f6
        obtain ⟨xu0, xuz0, xu1, xuz1, xu2, xuz2, xu3, xuz3, xu4, xuz4, xu5, xuz5⟩ := xu.f6
        try go_wp2_with fail
        clear xs0 xsz0 xs1 xsz1 xs2 xsz2 xs3 xsz3 xs4 xsz4 xs5 xsz5 xc0 xcz0 xc1 xcz1 xc2 xcz2 xc3 xcz3 xt0 xtz0 xt1 xtz1 xt2 xtz2 xt3 xtz3 xt4 xtz4 xt5 xtz5 xu0 xuz0 xu1 xuz1 xu2 xuz2 xu3 xuz3 xu4 xuz4 xu5 xuz5
        clear hHeld
        refine hK.out _ _ ?_ (fun hHeld => ?_)
        · exact ⟨xt.cell 0 rfl, xt.cell 1 rfl, xt.cell 2 rfl, xt.cell 3 rfl, xt.cell 4 rfl, xt.cell 5 rfl, xu.cell 0 rfl, xu.cell 1 rfl, xu.cell 2 rfl, xu.cell 3 rfl, xu.cell 4 rfl, xu.cell 5 rfl, xs.cell 0 rfl, xs.cell 1 rfl, xs.cell 2 rfl, xs.cell 3 rfl, xs.cell 4 rfl, xs.cell 5 rfl⟩
        clear hK K
        try simp only [Act.put, l1, l2, l3, l4, l5, l6]
        refine wpAnyH_ready (rs := [13]) (by kernel_rfl) (by simp) ?_
        refine AllReadyH.cons rfl (fun K hK => ?_) AllReadyH.nil
        obtain ⟨xs0, xsz0, xs1, xsz1, xs2, xsz2, xs3, xsz3, xs4, xsz4, xs5, xsz5⟩ := xs.f6
        obtain ⟨xc0, xcz0, xc1, xcz1, xc2, xcz2, xc3, xcz3⟩ := xc.f4
        obtain ⟨xt0, xtz0, xt1, xtz1, xt2, xtz2, xt3, xtz3, xt4, xtz4, xt5, xtz5⟩ := xt.f6
        obtain ⟨xu0, xuz0, xu1, xuz1, xu2, xuz2, xu3, xuz3, xu4, xuz4, xu5, xuz5⟩ := xu.f6
        go_simp
        refine (TI.out _).mono ?_
        rintro e V14 ⟨rfl, hk⟩
        clear xs0 xsz0 xs1 xsz1 xs2 xsz2 xs3 xsz3 xs4 xsz4 xs5 xsz5 xc0 xcz0 xc1 xcz1 xc2 xcz2 xc3 xcz3 xt0 xtz0 xt1 xtz1 xt2 xtz2 xt3 xtz3 xt4 xtz4 xt5 xtz5 xu0 xuz0 xu1 xuz1 xu2 xuz2 xu3 xuz3 xu4 xuz4 xu5 xuz5
        replace hB := below_seq hB hk
        replace xs := xs.seq hk
        replace xc := xc.seq hk
        replace xt := xt.seq hk
        replace xu := xu.seq hk
        clear hk
        obtain ⟨xs0, xsz0, xs1, xsz1, xs2, xsz2, xs3, xsz3, xs4, xsz4, xs5, xsz5⟩ := xs.f6
        obtain ⟨xc0, xcz0, xc1, xcz1, xc2, xcz2, xc3, xcz3⟩ := xc.f4
        obtain ⟨xt0, xtz0, xt1, xtz1, xt2, xtz2, xt3, xtz3, xt4, xtz4, xt5, xtz5⟩ := xt.f6
        obtain ⟨xu0, xuz0, xu1, xuz1, xu2, xuz2, xu3, xuz3, xu4, xuz4, xu5, xuz5⟩ := xu.f6
        try go_wp2_with fail
        clear xs0 xsz0 xs1 xsz1 xs2 xsz2 xs3 xsz3 xs4 xsz4 xs5 xsz5 xc0 xcz0 xc1 xcz1 xc2 xcz2 xc3 xcz3 xt0 xtz0 xt1 xtz1 xt2 xtz2 xt3 xtz3 xt4 xtz4 xt5 xtz5 xu0 xuz0 xu1 xuz1 xu2 xuz2 xu3 xuz3 xu4 xuz4 xu5 xuz5
        clear hHeld
        refine hK.out _ _ ?_ (fun hHeld => ?_)
        · exact ⟨xt.cell 0 rfl, xt.cell 1 rfl, xt.cell 2 rfl, xt.cell 3 rfl, xt.cell 4 rfl, xt.cell 5 rfl, xu.cell 0 rfl, xu.cell 1 rfl, xu.cell 2 rfl, xu.cell 3 rfl, xu.cell 4 rfl, xu.cell 5 rfl, xs.cell 0 rfl, xs.cell 1 rfl, xs.cell 2 rfl, xs.cell 3 rfl, xs.cell 4 rfl, xs.cell 5 rfl⟩
        clear hK K
        try simp only [Act.put, l1, l2, l3, l4, l5, l6]
        refine wpAnyH_ready (rs := [14]) (by kernel_rfl) (by simp) ?_
        refine AllReadyH.cons rfl (fun K hK => ?_) AllReadyH.nil
        obtain ⟨xs0, xsz0, xs1, xsz1, xs2, xsz2, xs3, xsz3, xs4, xsz4, xs5, xsz5⟩ := xs.f6
        obtain ⟨xc0, xcz0, xc1, xcz1, xc2, xcz2, xc3, xcz3⟩ := xc.f4
        obtain ⟨xt0, xtz0, xt1, xtz1, xt2, xtz2, xt3, xtz3, xt4, xtz4, xt5, xtz5⟩ := xt.f6
        obtain ⟨xu0, xuz0, xu1, xuz1, xu2, xuz2, xu3, xuz3, xu4, xuz4, xu5, xuz5⟩ := xu.f6
        go_simp
        refine (TX.out _).mono ?_
        rintro e V15 ⟨rfl, hk⟩
        clear xs0 xsz0 xs1 xsz1 xs2 xsz2 xs3 xsz3 xs4 xsz4 xs5 xsz5 xc0 xcz0 xc1 xcz1 xc2 xcz2 xc3 xcz3 xt0 xtz0 xt1 xtz1 xt2 xtz2 xt3 xtz3 xt4 xtz4 xt5 xtz5 xu0 xuz0 xu1 xuz1 xu2 xuz2 xu3 xuz3 xu4 xuz4 xu5 xuz5
        replace hB := below_seq hB hk
        replace xs := xs.seq hk
        replace xc := xc.seq hk
        replace xt := xt.seq hk
        replace xu := xu.seq hk
        clear hk
        obtain ⟨xs0, xsz0, xs1, xsz1, xs2, xsz2, xs3, xsz3, xs4, xsz4, xs5, xsz5⟩ := xs.f6
        obtain ⟨xc0, xcz0, xc1, xcz1, xc2, xcz2, xc3, xcz3⟩ := xc.f4
        obtain ⟨xt0, xtz0, xt1, xtz1, xt2, xtz2, xt3, xtz3, xt4, xtz4, xt5, xtz5⟩ := xt.f6
        obtain ⟨xu0, xuz0, xu1, xuz1, xu2, xuz2, xu3, xuz3, xu4, xuz4, xu5, xuz5⟩ := xu.f6
        try go_wp2_with fail
        clear xs0 xsz0 xs1 xsz1 xs2 xsz2 xs3 xsz3 xs4 xsz4 xs5 xsz5 xc0 xcz0 xc1 xcz1 xc2 xcz2 xc3 xcz3 xt0 xtz0 xt1 xtz1 xt2 xtz2 xt3 xtz3 xt4 xtz4 xt5 xtz5 xu0 xuz0 xu1 xuz1 xu2 xuz2 xu3 xuz3 xu4 xuz4 xu5 xuz5
        clear hHeld
        refine hK.out _ _ ?_ (fun hHeld => ?_)
        · exact ⟨xt.cell 0 rfl, xt.cell 1 rfl, xt.cell 2 rfl, xt.cell 3 rfl, xt.cell 4 rfl, xt.cell 5 rfl, xu.cell 0 rfl, xu.cell 1 rfl, xu.cell 2 rfl, xu.cell 3 rfl, xu.cell 4 rfl, xu.cell 5 rfl, xs.cell 0 rfl, xs.cell 1 rfl, xs.cell 2 rfl, xs.cell 3 rfl, xs.cell 4 rfl, xs.cell 5 rfl⟩
        clear hK K
        try simp only [Act.put, l1, l2, l3, l4, l5, l6]
        refine tk 15 (v := ?_) rfl (Or.inl ⟨by rfl, ?_⟩) ?_; rotate_left
        · intro w hSw; (try dsimp only at hSw); go_simp; try with_reducible rfl
        try simp only [Act.put, l1, l2, l3, l4, l5, l6]
        refine tk 16 (v := ?_) rfl (Or.inl ⟨by rfl, ?_⟩) ?_; rotate_left
        · intro w hSw; (try dsimp only at hSw); go_simp; try with_reducible rfl
        try simp only [Act.put, l1, l2, l3, l4, l5, l6]
        refine tk 17 (v := ?_) rfl (Or.inl ⟨by rfl, ?_⟩) ?_; rotate_left
        · intro w hSw; (try dsimp only at hSw); go_simp; try with_reducible rfl
        try simp only [Act.put, l1, l2, l3, l4, l5, l6]
        refine wpAnyH_done (by kernel_rfl) ?_ _
        clear hHeld
        obtain ⟨xs0, xsz0, xs1, xsz1, xs2, xsz2, xs3, xsz3, xs4, xsz4, xs5, xsz5⟩ := xs.f6
        obtain ⟨xc0, xcz0, xc1, xcz1, xc2, xcz2, xc3, xcz3⟩ := xc.f4
        obtain ⟨xt0, xtz0, xt1, xtz1, xt2, xtz2, xt3, xtz3, xt4, xtz4, xt5, xtz5⟩ := xt.f6
        obtain ⟨xu0, xuz0, xu1, xuz1, xu2, xuz2, xu3, xuz3, xu4, xuz4, xu5, xuz5⟩ := xu.f6
        go_wp2
        go_ret
        exact ⟨rfl, hB⟩
      · obtain ⟨xs0, xsz0, xs1, xsz1, xs2, xsz2, xs3, xsz3, xs4, xsz4, xs5, xsz5⟩ := xs.f6
        obtain ⟨xc0, xcz0, xc1, xcz1, xc2, xcz2, xc3, xcz3⟩ := xc.f4
        obtain ⟨xt0, xtz0, xt1, xtz1, xt2, xtz2, xt3, xtz3, xt4, xtz4, xt5, xtz5⟩ := xt.f6
        go_simp
        try go_wp2_with fail
        clear xs0 xsz0 xs1 xsz1 xs2 xsz2 xs3 xsz3 xs4 xsz4 xs5 xsz5 xc0 xcz0 xc1 xcz1 xc2 xcz2 xc3 xcz3 xt0 xtz0 xt1 xtz1 xt2 xtz2 xt3 xtz3 xt4 xtz4 xt5 xtz5
        have xu := Box.new 28 V7 [.int .i64 0, .bool false, .bool false, .int .i64 0, .int .i64 0, .int .i64 0]
        have ne_xu_xs : V7.heap.size ≠ W.heap.size := Nat.ne_of_gt xs.lt
        have ne_xu_xc : V7.heap.size ≠ W.heap.size + 1 := Nat.ne_of_gt xc.lt
        have ne_xu_xt : V7.heap.size ≠ V4.heap.size := Nat.ne_of_gt xt.lt
        have le_xu : W.heap.size ≤ V7.heap.size := hB.size
        replace xs := xs.alloc (.cells #[.int .i64 0, .bool false, .bool false, .int .i64 0, .int .i64 0, .int .i64 0] 28)
        replace xc := xc.alloc (.cells #[.int .i64 0, .bool false, .bool false, .int .i64 0, .int .i64 0, .int .i64 0] 28)
        replace xt := xt.alloc (.cells #[.int .i64 0, .bool false, .bool false, .int .i64 0, .int .i64 0, .int .i64 0] 28)
        replace hB := hB.alloc hB.size (.cells #[.int .i64 0, .bool false, .bool false, .int .i64 0, .int .i64 0, .int .i64 0] 28)
        obtain ⟨xs0, xsz0, xs1, xsz1, xs2, xsz2, xs3, xsz3, xs4, xsz4, xs5, xsz5⟩ := xs.f6
        obtain ⟨xc0, xcz0, xc1, xcz1, xc2, xcz2, xc3, xcz3⟩ := xc.f4
        obtain ⟨xt0, xtz0, xt1, xtz1, xt2, xtz2, xt3, xtz3, xt4, xtz4, xt5, xtz5⟩ := xt.f6
        obtain ⟨xu0, xuz0, xu1, xuz1, xu2, xuz2, xu3, xuz3, xu4, xuz4, xu5, xuz5⟩ := xu.f6
        generalize (V7.alloc (.cells #[.int .i64 0, .bool false, .bool false, .int .i64 0, .int .i64 0, .int .i64 0] 28)) = V8 at *
        generalize V7.heap.size = g_xu at *
        clear xs0 xsz0 xs1 xsz1 xs2 xsz2 xs3 xsz3 xs4 xsz4 xs5 xsz5 xc0 xcz0 xc1 xcz1 xc2 xcz2 xc3 xcz3 xt0 xtz0 xt1 xtz1 xt2 xtz2 xt3 xtz3 xt4 xtz4 xt5 xtz5 xu0 xuz0 xu1 xuz1 xu2 xuz2 xu3 xuz3 xu4 xuz4 xu5 xuz5
        clear hHeld
        refine hK.out _ _ ?_ (fun hHeld => ?_)
        · exact ⟨xs.cell 0 rfl, xs.cell 1 rfl, xs.cell 2 rfl, xs.cell 3 rfl, xs.cell 4 rfl, xs.cell 5 rfl, xc.cell 0 rfl, xc.cell 1 rfl, xc.cell 2 rfl, xc.cell 3 rfl⟩
        clear hK K
        try simp only [Act.put, l1, l2, l3, l4, l5, l6]
        refine wpAnyH_ready (rs := [3]) (by kernel_rfl) (by simp) ?_
        refine AllReadyH.cons rfl (fun K hK => ?_) (AllReadyH.nil)
        obtain ⟨xs0, xsz0, xs1, xsz1, xs2, xsz2, xs3, xsz3, xs4, xsz4, xs5, xsz5⟩ := xs.f6
        obtain ⟨xc0, xcz0, xc1, xcz1, xc2, xcz2, xc3, xcz3⟩ := xc.f4
        obtain ⟨xt0, xtz0, xt1, xtz1, xt2, xtz2, xt3, xtz3, xt4, xtz4, xt5, xtz5⟩ := xt.f6
        obtain ⟨xu0, xuz0, xu1, xuz1, xu2, xuz2, xu3, xuz3, xu4, xuz4, xu5, xuz5⟩ := xu.f6
        go_simp
        refine (TR.out _).mono ?_
        rintro e V9 ⟨rfl, hk⟩
        clear xs0 xsz0 xs1 xsz1 xs2 xsz2 xs3 xsz3 xs4 xsz4 xs5 xsz5 xc0 xcz0 xc1 xcz1 xc2 xcz2 xc3 xcz3 xt0 xtz0 xt1 xtz1 xt2 xtz2 xt3 xtz3 xt4 xtz4 xt5 xtz5 xu0 xuz0 xu1 xuz1 xu2 xuz2 xu3 xuz3 xu4 xuz4 xu5 xuz5
        replace hB := below_seq hB hk
        replace xs := xs.seq hk
        replace xc := xc.seq hk
        replace xt := xt.seq hk
        replace xu := xu.seq hk
        clear hk
        obtain ⟨xs0, xsz0, xs1, xsz1, xs2, xsz2, xs3, xsz3, xs4, xsz4, xs5, xsz5⟩ := xs.f6
        obtain ⟨xc0, xcz0, xc1, xcz1, xc2, xcz2, xc3, xcz3⟩ := xc.f4
        obtain ⟨xt0, xtz0, xt1, xtz1, xt2, xtz2, xt3, xtz3, xt4, xtz4, xt5, xtz5⟩ := xt.f6
        obtain ⟨xu0, xuz0, xu1, xuz1, xu2, xuz2, xu3, xuz3, xu4, xuz4, xu5, xuz5⟩ := xu.f6
        try go_wp2_with fail
        clear xs0 xsz0 xs1 xsz1 xs2 xsz2 xs3 xsz3 xs4 xsz4 xs5 xsz5 xc0 xcz0 xc1 xcz1 xc2 xcz2 xc3 xcz3 xt0 xtz0 xt1 xtz1 xt2 xtz2 xt3 xtz3 xt4 xtz4 xt5 xtz5 xu0 xuz0 xu1 xuz1 xu2 xuz2 xu3 xuz3 xu4 xuz4 xu5 xuz5
        clear hHeld
        refine hK.out _ _ ?_ (fun hHeld => ?_)
        · exact ⟨xs.cell 0 rfl, xs.cell 1 rfl, xs.cell 2 rfl, xs.cell 3 rfl, xs.cell 4 rfl, xs.cell 5 rfl, xc.cell 0 rfl, xc.cell 1 rfl, xc.cell 2 rfl, xc.cell 3 rfl⟩
        clear hK K
        try simp only [Act.put, l1, l2, l3, l4, l5, l6]
        refine tk 4 (v := ?_) rfl (Or.inl ⟨by rfl, ?_⟩) ?_; rotate_left
        · intro w hSw; (try dsimp only at hSw); go_simp; try with_reducible rfl
        try simp only [Act.put, l1, l2, l3, l4, l5, l6]
        refine tk 5 (v := ?_) rfl (Or.inl ⟨by rfl, ?_⟩) ?_; rotate_left
        · intro w hSw; (try dsimp only at hSw); go_simp; try with_reducible rfl
        try simp only [Act.put, l1, l2, l3, l4, l5, l6]
        refine tk 6 (v := ?_) rfl (Or.inl ⟨by rfl, ?_⟩) ?_; rotate_left
        · intro w hSw; (try dsimp only at hSw); go_simp; try with_reducible rfl
        try simp only [Act.put, l1, l2, l3, l4, l5, l6]
        refine wpAnyH_ready (rs := [8]) (by kernel_rfl) (by simp) ?_
        refine AllReadyH.cons rfl (fun K hK => ?_) (AllReadyH.nil)
        obtain ⟨xs0, xsz0, xs1, xsz1, xs2, xsz2, xs3, xsz3, xs4, xsz4, xs5, xsz5⟩ := xs.f6
        obtain ⟨xc0, xcz0, xc1, xcz1, xc2, xcz2, xc3, xcz3⟩ := xc.f4
        obtain ⟨xt0, xtz0, xt1, xtz1, xt2, xtz2, xt3, xtz3, xt4, xtz4, xt5, xtz5⟩ := xt.f6
        obtain ⟨xu0, xuz0, xu1, xuz1, xu2, xuz2, xu3, xuz3, xu4, xuz4, xu5, xuz5⟩ := xu.f6
        go_simp
        try go_wp2_with fail
        clear xs0 xsz0 xs1 xsz1 xs2 xsz2 xs3 xsz3 xs4 xsz4 xs5 xsz5 xc0 xcz0 xc1 xcz1 xc2 xcz2 xc3 xcz3 xt0 xtz0 xt1 xtz1 xt2 xtz2 xt3 xtz3 xt4 xtz4 xt5 xtz5 xu0 xuz0 xu1 xuz1 xu2 xuz2 xu3 xuz3 xu4 xuz4 xu5 xuz5
        replace xs := ((((((xs.other ne_xu_xs 0 (.int .i64 um)).other ne_xu_xs 1 (.bool ua)).other ne_xu_xs 2 (.bool uh)).other ne_xu_xs 3 (.int .i64 ul)).other ne_xu_xs 4 (.int .i64 uo)).other ne_xu_xs 5 (.int .i64 ui))
        replace xc := ((((((xc.other ne_xu_xc 0 (.int .i64 um)).other ne_xu_xc 1 (.bool ua)).other ne_xu_xc 2 (.bool uh)).other ne_xu_xc 3 (.int .i64 ul)).other ne_xu_xc 4 (.int .i64 uo)).other ne_xu_xc 5 (.int .i64 ui))
        replace xt := ((((((xt.other ne_xu_xt 0 (.int .i64 um)).other ne_xu_xt 1 (.bool ua)).other ne_xu_xt 2 (.bool uh)).other ne_xu_xt 3 (.int .i64 ul)).other ne_xu_xt 4 (.int .i64 uo)).other ne_xu_xt 5 (.int .i64 ui))
        replace xu : Box 28 ((((((V9.setCell ⟨g_xu, 0, none⟩ (.int .i64 um)).setCell ⟨g_xu, 1, none⟩ (.bool ua)).setCell ⟨g_xu, 2, none⟩ (.bool uh)).setCell ⟨g_xu, 3, none⟩ (.int .i64 ul)).setCell ⟨g_xu, 4, none⟩ (.int .i64 uo)).setCell ⟨g_xu, 5, none⟩ (.int .i64 ui)) (g_xu) [.int .i64 um, .bool ua, .bool uh, .int .i64 ul, .int .i64 uo, .int .i64 ui] := ((((((xu.set 0 (.int .i64 um)).set 1 (.bool ua)).set 2 (.bool uh)).set 3 (.int .i64 ul)).set 4 (.int .i64 uo)).set 5 (.int .i64 ui))
        replace hB : Below W.heap.size W ((((((V9.setCell ⟨g_xu, 0, none⟩ (.int .i64 um)).setCell ⟨g_xu, 1, none⟩ (.bool ua)).setCell ⟨g_xu, 2, none⟩ (.bool uh)).setCell ⟨g_xu, 3, none⟩ (.int .i64 ul)).setCell ⟨g_xu, 4, none⟩ (.int .i64 uo)).setCell ⟨g_xu, 5, none⟩ (.int .i64 ui)) := ((((((hB.setCell le_xu _).setCell le_xu _).setCell le_xu _).setCell le_xu _).setCell le_xu _).setCell le_xu _)
        generalize ((((((V9.setCell ⟨g_xu, 0, none⟩ (.int .i64 um)).setCell ⟨g_xu, 1, none⟩ (.bool ua)).setCell ⟨g_xu, 2, none⟩ (.bool uh)).setCell ⟨g_xu, 3, none⟩ (.int .i64 ul)).setCell ⟨g_xu, 4, none⟩ (.int .i64 uo)).setCell ⟨g_xu, 5, none⟩ (.int .i64 ui)) = V10 at *
        clear hHeld
        refine hK.out _ _ ?_ (fun hHeld => ?_)
        · exact ⟨xs.cell 0 rfl, xs.cell 1 rfl, xs.cell 2 rfl, xs.cell 3 rfl, xs.cell 4 rfl, xs.cell 5 rfl, xc.cell 0 rfl, xc.cell 1 rfl, xc.cell 2 rfl, xc.cell 3 rfl⟩
        clear hK K
        try simp only [Act.put, l1, l2, l3, l4, l5, l6]
        refine tk 9 (v := ?_) rfl (Or.inl ⟨by rfl, ?_⟩) ?_; rotate_left
        · intro w hSw; (try dsimp only at hSw); go_simp; try with_reducible rfl
        try simp only [Act.put, l1, l2, l3, l4, l5, l6]
        refine wpAnyH_done (by kernel_rfl) ?_ _
        clear hHeld
        obtain ⟨xs0, xsz0, xs1, xsz1, xs2, xsz2, xs3, xsz3, xs4, xsz4, xs5, xsz5⟩ := xs.f6
        obtain ⟨xc0, xcz0, xc1, xcz1, xc2, xcz2, xc3, xcz3⟩ := xc.f4
        obtain ⟨xt0, xtz0, xt1, xtz1, xt2, xtz2, xt3, xtz3, xt4, xtz4, xt5, xtz5⟩ := xt.f6
        obtain ⟨xu0, xuz0, xu1, xuz1, xu2, xuz2, xu3, xuz3, xu4, xuz4, xu5, xuz5⟩ := xu.f6
        go_wp2_with fail
        clear xs0 xsz0 xs1 xsz1 xs2 xsz2 xs3 xsz3 xs4 xsz4 xs5 xsz5 xc0 xcz0 xc1 xcz1 xc2 xcz2 xc3 xcz3 xt0 xtz0 xt1 xtz1 xt2 xtz2 xt3 xtz3 xt4 xtz4 xt5 xtz5 xu0 xuz0 xu1 xuz1 xu2 xuz2 xu3 xuz3 xu4 xuz4 xu5 xuz5
        replace hB := hB.drew
        replace xs := xs.drew
        replace xc := xc.drew
        replace xt := xt.drew
        replace xu := xu.drew
        refine wp_region_held_drew (S := fun w' => w'.cell? ⟨V4.heap.size, 0, none⟩ = some (.int .i64 um) ∧ w'.cell? ⟨V4.heap.size, 1, none⟩ = some (.bool ua) ∧ w'.cell? ⟨V4.heap.size, 2, none⟩ = some (.bool uh) ∧ w'.cell? ⟨V4.heap.size, 3, none⟩ = some (.int .i64 ul) ∧ w'.cell? ⟨V4.heap.size, 4, none⟩ = some (.int .i64 uo) ∧ w'.cell? ⟨V4.heap.size, 5, none⟩ = some (.int .i64 ui) ∧ w'.cell? ⟨g_xu, 0, none⟩ = some (.int .i64 um) ∧ w'.cell? ⟨g_xu, 1, none⟩ = some (.bool ua) ∧ w'.cell? ⟨g_xu, 2, none⟩ = some (.bool uh) ∧ w'.cell? ⟨g_xu, 3, none⟩ = some (.int .i64 ul) ∧ w'.cell? ⟨g_xu, 4, none⟩ = some (.int .i64 uo) ∧ w'.cell? ⟨g_xu, 5, none⟩ = some (.int .i64 ui) ∧ w'.cell? ⟨W.heap.size, 0, none⟩ = some (.int .i64 s.mode) ∧ w'.cell? ⟨W.heap.size, 1, none⟩ = some (.bool s.armed) ∧ w'.cell? ⟨W.heap.size, 2, none⟩ = some (.bool s.home) ∧ w'.cell? ⟨W.heap.size, 3, none⟩ = some (.int .i64 s.lat) ∧ w'.cell? ⟨W.heap.size, 4, none⟩ = some (.int .i64 s.lon) ∧ w'.cell? ⟨W.heap.size, 5, none⟩ = some (.int .i64 s.iso)) (by kernel_rfl) ?_ (fun hHeld => ?_)
        · exact ⟨xt.cell 0 rfl, xt.cell 1 rfl, xt.cell 2 rfl, xt.cell 3 rfl, xt.cell 4 rfl, xt.cell 5 rfl, xu.cell 0 rfl, xu.cell 1 rfl, xu.cell 2 rfl, xu.cell 3 rfl, xu.cell 4 rfl, xu.cell 5 rfl, xs.cell 0 rfl, xs.cell 1 rfl, xs.cell 2 rfl, xs.cell 3 rfl, xs.cell 4 rfl, xs.cell 5 rfl⟩
        generalize V10.drew = V11 at *
        refine tk 0 (v := ?_) rfl (Or.inl ⟨by rfl, ?_⟩) ?_; rotate_left
        · intro w hSw; (try dsimp only at hSw); go_simp; try with_reducible rfl
        try simp only [Act.put, l1, l2, l3, l4, l5, l6]
        refine tk 2 (v := ?_) rfl (Or.inl ⟨by rfl, ?_⟩) ?_; rotate_left
        · intro w hSw; (try dsimp only at hSw); go_simp; try with_reducible rfl
        try simp only [Act.put, l1, l2, l3, l4, l5, l6]
        refine wpAnyH_ready (rs := [1]) (by kernel_rfl) (by simp) ?_
        refine AllReadyH.cons rfl (fun K hK => ?_) AllReadyH.nil
        obtain ⟨xs0, xsz0, xs1, xsz1, xs2, xsz2, xs3, xsz3, xs4, xsz4, xs5, xsz5⟩ := xs.f6
        obtain ⟨xc0, xcz0, xc1, xcz1, xc2, xcz2, xc3, xcz3⟩ := xc.f4
        obtain ⟨xt0, xtz0, xt1, xtz1, xt2, xtz2, xt3, xtz3, xt4, xtz4, xt5, xtz5⟩ := xt.f6
        obtain ⟨xu0, xuz0, xu1, xuz1, xu2, xuz2, xu3, xuz3, xu4, xuz4, xu5, xuz5⟩ := xu.f6
        go_simp
        refine (TU.out _).mono ?_
        rintro e V12 ⟨rfl, hk⟩
        clear xs0 xsz0 xs1 xsz1 xs2 xsz2 xs3 xsz3 xs4 xsz4 xs5 xsz5 xc0 xcz0 xc1 xcz1 xc2 xcz2 xc3 xcz3 xt0 xtz0 xt1 xtz1 xt2 xtz2 xt3 xtz3 xt4 xtz4 xt5 xtz5 xu0 xuz0 xu1 xuz1 xu2 xuz2 xu3 xuz3 xu4 xuz4 xu5 xuz5
        replace hB := below_seq hB hk
        replace xs := xs.seq hk
        replace xc := xc.seq hk
        replace xt := xt.seq hk
        replace xu := xu.seq hk
        clear hk
        obtain ⟨xs0, xsz0, xs1, xsz1, xs2, xsz2, xs3, xsz3, xs4, xsz4, xs5, xsz5⟩ := xs.f6
        obtain ⟨xc0, xcz0, xc1, xcz1, xc2, xcz2, xc3, xcz3⟩ := xc.f4
        obtain ⟨xt0, xtz0, xt1, xtz1, xt2, xtz2, xt3, xtz3, xt4, xtz4, xt5, xtz5⟩ := xt.f6
        obtain ⟨xu0, xuz0, xu1, xuz1, xu2, xuz2, xu3, xuz3, xu4, xuz4, xu5, xuz5⟩ := xu.f6
        try go_wp2_with fail
        clear xs0 xsz0 xs1 xsz1 xs2 xsz2 xs3 xsz3 xs4 xsz4 xs5 xsz5 xc0 xcz0 xc1 xcz1 xc2 xcz2 xc3 xcz3 xt0 xtz0 xt1 xtz1 xt2 xtz2 xt3 xtz3 xt4 xtz4 xt5 xtz5 xu0 xuz0 xu1 xuz1 xu2 xuz2 xu3 xuz3 xu4 xuz4 xu5 xuz5
        clear hHeld
        refine hK.out _ _ ?_ (fun hHeld => ?_)
        · exact ⟨xt.cell 0 rfl, xt.cell 1 rfl, xt.cell 2 rfl, xt.cell 3 rfl, xt.cell 4 rfl, xt.cell 5 rfl, xu.cell 0 rfl, xu.cell 1 rfl, xu.cell 2 rfl, xu.cell 3 rfl, xu.cell 4 rfl, xu.cell 5 rfl, xs.cell 0 rfl, xs.cell 1 rfl, xs.cell 2 rfl, xs.cell 3 rfl, xs.cell 4 rfl, xs.cell 5 rfl⟩
        clear hK K
        try simp only [Act.put, l1, l2, l3, l4, l5, l6]
        refine tk 3 (v := ?_) rfl (Or.inl ⟨by rfl, ?_⟩) ?_; rotate_left
        · intro w hSw; (try dsimp only at hSw); go_simp; try with_reducible rfl
        try simp only [Act.put, l1, l2, l3, l4, l5, l6]
        refine tk 4 (v := ?_) rfl (Or.inl ⟨by rfl, ?_⟩) ?_; rotate_left
        · intro w hSw; (try dsimp only at hSw); go_simp; try with_reducible rfl
        try simp only [Act.put, l1, l2, l3, l4, l5, l6]
        refine tk 5 (v := ?_) rfl (Or.inl ⟨by rfl, ?_⟩) ?_; rotate_left
        · intro w hSw; (try dsimp only at hSw); go_simp; try with_reducible rfl
        try simp only [Act.put, l1, l2, l3, l4, l5, l6]
        refine tk 6 (v := ?_) rfl (Or.inl ⟨by rfl, ?_⟩) ?_; rotate_left
        · intro w hSw; (try dsimp only at hSw); go_simp; try with_reducible rfl
        try simp only [Act.put, l1, l2, l3, l4, l5, l6]
        refine tk 7 (v := ?_) rfl (Or.inl ⟨by rfl, ?_⟩) ?_; rotate_left
        · intro w hSw; (try dsimp only at hSw); go_simp; try with_reducible rfl
        try simp only [Act.put, l1, l2, l3, l4, l5, l6]
        refine tk 8 (v := ?_) rfl (Or.inl ⟨by rfl, ?_⟩) ?_; rotate_left
        · intro w hSw; (try dsimp only at hSw); go_simp; try with_reducible rfl
        try simp only [Act.put, l1, l2, l3, l4, l5, l6]
        refine tk 9 (v := ?_) rfl (Or.inl ⟨by rfl, ?_⟩) ?_; rotate_left
        · intro w hSw; (try dsimp only at hSw); go_simp; try with_reducible rfl
        try simp only [Act.put, l1, l2, l3, l4, l5, l6]
        refine tk 10 (v := ?_) rfl (Or.inl ⟨by rfl, ?_⟩) ?_; rotate_left
        · intro w hSw; (try dsimp only at hSw); go_simp; try with_reducible rfl
        try simp only [Act.put, l1, l2, l3, l4, l5, l6]
        refine tk 12 (v := ?_) rfl (Or.inl ⟨by rfl, ?_⟩) ?_; rotate_left
        · intro w hSw; (try dsimp only at hSw); go_simp; try with_reducible rfl
        try simp only [Act.put, l1, l2, l3, l4, l5, l6]
        refine wpAnyH_ready (rs := [11]) (by kernel_rfl) (by simp) ?_
        refine AllReadyH.cons rfl (fun K hK => ?_) AllReadyH.nil
        obtain ⟨xs0, xsz0, xs1, xsz1, xs2, xsz2, xs3, xsz3, xs4, xsz4, xs5, xsz5⟩ := xs.f6
        obtain ⟨xc0, xcz0, xc1, xcz1, xc2, xcz2, xc3, xcz3⟩ := xc.f4
        obtain ⟨xt0, xtz0, xt1, xtz1, xt2, xtz2, xt3, xtz3, xt4, xtz4, xt5, xtz5⟩ := xt.f6
        obtain ⟨xu0, xuz0, xu1, xuz1, xu2, xuz2, xu3, xuz3, xu4, xuz4, xu5, xuz5⟩ := xu.f6
        go_simp
        refine (TO.out _).mono ?_
        rintro e V13 ⟨rfl, hk⟩
        clear xs0 xsz0 xs1 xsz1 xs2 xsz2 xs3 xsz3 xs4 xsz4 xs5 xsz5 xc0 xcz0 xc1 xcz1 xc2 xcz2 xc3 xcz3 xt0 xtz0 xt1 xtz1 xt2 xtz2 xt3 xtz3 xt4 xtz4 xt5 xtz5 xu0 xuz0 xu1 xuz1 xu2 xuz2 xu3 xuz3 xu4 xuz4 xu5 xuz5
        replace hB := below_seq hB hk
        replace xs := xs.seq hk
        replace xc := xc.seq hk
        replace xt := xt.seq hk
        replace xu := xu.seq hk
        clear hk
        obtain ⟨xs0, xsz0, xs1, xsz1, xs2, xsz2, xs3, xsz3, xs4, xsz4, xs5, xsz5⟩ := xs.f6
        obtain ⟨xc0, xcz0, xc1, xcz1, xc2, xcz2, xc3, xcz3⟩ := xc.f4
        obtain ⟨xt0, xtz0, xt1, xtz1, xt2, xtz2, xt3, xtz3, xt4, xtz4, xt5, xtz5⟩ := xt.f6
        obtain ⟨xu0, xuz0, xu1, xuz1, xu2, xuz2, xu3, xuz3, xu4, xuz4, xu5, xuz5⟩ := xu.f6
        try go_wp2_with fail
        clear xs0 xsz0 xs1 xsz1 xs2 xsz2 xs3 xsz3 xs4 xsz4 xs5 xsz5 xc0 xcz0 xc1 xcz1 xc2 xcz2 xc3 xcz3 xt0 xtz0 xt1 xtz1 xt2 xtz2 xt3 xtz3 xt4 xtz4 xt5 xtz5 xu0 xuz0 xu1 xuz1 xu2 xuz2 xu3 xuz3 xu4 xuz4 xu5 xuz5
        clear hHeld
        refine hK.out _ _ ?_ (fun hHeld => ?_)
        · exact ⟨xt.cell 0 rfl, xt.cell 1 rfl, xt.cell 2 rfl, xt.cell 3 rfl, xt.cell 4 rfl, xt.cell 5 rfl, xu.cell 0 rfl, xu.cell 1 rfl, xu.cell 2 rfl, xu.cell 3 rfl, xu.cell 4 rfl, xu.cell 5 rfl, xs.cell 0 rfl, xs.cell 1 rfl, xs.cell 2 rfl, xs.cell 3 rfl, xs.cell 4 rfl, xs.cell 5 rfl⟩
        clear hK K
        try simp only [Act.put, l1, l2, l3, l4, l5, l6]
        refine wpAnyH_ready (rs := [13]) (by kernel_rfl) (by simp) ?_
        refine AllReadyH.cons rfl (fun K hK => ?_) AllReadyH.nil
        obtain ⟨xs0, xsz0, xs1, xsz1, xs2, xsz2, xs3, xsz3, xs4, xsz4, xs5, xsz5⟩ := xs.f6
        obtain ⟨xc0, xcz0, xc1, xcz1, xc2, xcz2, xc3, xcz3⟩ := xc.f4
        obtain ⟨xt0, xtz0, xt1, xtz1, xt2, xtz2, xt3, xtz3, xt4, xtz4, xt5, xtz5⟩ := xt.f6
        obtain ⟨xu0, xuz0, xu1, xuz1, xu2, xuz2, xu3, xuz3, xu4, xuz4, xu5, xuz5⟩ := xu.f6
        go_simp
        refine (TI.out _).mono ?_
        rintro e V14 ⟨rfl, hk⟩
        clear xs0 xsz0 xs1 xsz1 xs2 xsz2 xs3 xsz3 xs4 xsz4 xs5 xsz5 xc0 xcz0 xc1 xcz1 xc2 xcz2 xc3 xcz3 xt0 xtz0 xt1 xtz1 xt2 xtz2 xt3 xtz3 xt4 xtz4 xt5 xtz5 xu0 xuz0 xu1 xuz1 xu2 xuz2 xu3 xuz3 xu4 xuz4 xu5 xuz5
        replace hB := below_seq hB hk
        replace xs := xs.seq hk
        replace xc := xc.seq hk
        replace xt := xt.seq hk
        replace xu := xu.seq hk
        clear hk
        obtain ⟨xs0, xsz0, xs1, xsz1, xs2, xsz2, xs3, xsz3, xs4, xsz4, xs5, xsz5⟩ := xs.f6
        obtain ⟨xc0, xcz0, xc1, xcz1, xc2, xcz2, xc3, xcz3⟩ := xc.f4
        obtain ⟨xt0, xtz0, xt1, xtz1, xt2, xtz2, xt3, xtz3, xt4, xtz4, xt5, xtz5⟩ := xt.f6
        obtain ⟨xu0, xuz0, xu1, xuz1, xu2, xuz2, xu3, xuz3, xu4, xuz4, xu5, xuz5⟩ := xu.f6
        try go_wp2_with fail
        clear xs0 xsz0 xs1 xsz1 xs2 xsz2 xs3 xsz3 xs4 xsz4 xs5 xsz5 xc0 xcz0 xc1 xcz1 xc2 xcz2 xc3 xcz3 xt0 xtz0 xt1 xtz1 xt2 xtz2 xt3 xtz3 xt4 xtz4 xt5 xtz5 xu0 xuz0 xu1 xuz1 xu2 xuz2 xu3 xuz3 xu4 xuz4 xu5 xuz5
        clear hHeld
        refine hK.out _ _ ?_ (fun hHeld => ?_)
        · exact ⟨xt.cell 0 rfl, xt.cell 1 rfl, xt.cell 2 rfl, xt.cell 3 rfl, xt.cell 4 rfl, xt.cell 5 rfl, xu.cell 0 rfl, xu.cell 1 rfl, xu.cell 2 rfl, xu.cell 3 rfl, xu.cell 4 rfl, xu.cell 5 rfl, xs.cell 0 rfl, xs.cell 1 rfl, xs.cell 2 rfl, xs.cell 3 rfl, xs.cell 4 rfl, xs.cell 5 rfl⟩
        clear hK K
        try simp only [Act.put, l1, l2, l3, l4, l5, l6]
        refine wpAnyH_ready (rs := [14]) (by kernel_rfl) (by simp) ?_
        refine AllReadyH.cons rfl (fun K hK => ?_) AllReadyH.nil
        obtain ⟨xs0, xsz0, xs1, xsz1, xs2, xsz2, xs3, xsz3, xs4, xsz4, xs5, xsz5⟩ := xs.f6
        obtain ⟨xc0, xcz0, xc1, xcz1, xc2, xcz2, xc3, xcz3⟩ := xc.f4
        obtain ⟨xt0, xtz0, xt1, xtz1, xt2, xtz2, xt3, xtz3, xt4, xtz4, xt5, xtz5⟩ := xt.f6
        obtain ⟨xu0, xuz0, xu1, xuz1, xu2, xuz2, xu3, xuz3, xu4, xuz4, xu5, xuz5⟩ := xu.f6
        go_simp
        refine (TX.out _).mono ?_
        rintro e V15 ⟨rfl, hk⟩
        clear xs0 xsz0 xs1 xsz1 xs2 xsz2 xs3 xsz3 xs4 xsz4 xs5 xsz5 xc0 xcz0 xc1 xcz1 xc2 xcz2 xc3 xcz3 xt0 xtz0 xt1 xtz1 xt2 xtz2 xt3 xtz3 xt4 xtz4 xt5 xtz5 xu0 xuz0 xu1 xuz1 xu2 xuz2 xu3 xuz3 xu4 xuz4 xu5 xuz5
        replace hB := below_seq hB hk
        replace xs := xs.seq hk
        replace xc := xc.seq hk
        replace xt := xt.seq hk
        replace xu := xu.seq hk
        clear hk
        obtain ⟨xs0, xsz0, xs1, xsz1, xs2, xsz2, xs3, xsz3, xs4, xsz4, xs5, xsz5⟩ := xs.f6
        obtain ⟨xc0, xcz0, xc1, xcz1, xc2, xcz2, xc3, xcz3⟩ := xc.f4
        obtain ⟨xt0, xtz0, xt1, xtz1, xt2, xtz2, xt3, xtz3, xt4, xtz4, xt5, xtz5⟩ := xt.f6
        obtain ⟨xu0, xuz0, xu1, xuz1, xu2, xuz2, xu3, xuz3, xu4, xuz4, xu5, xuz5⟩ := xu.f6
        try go_wp2_with fail
        clear xs0 xsz0 xs1 xsz1 xs2 xsz2 xs3 xsz3 xs4 xsz4 xs5 xsz5 xc0 xcz0 xc1 xcz1 xc2 xcz2 xc3 xcz3 xt0 xtz0 xt1 xtz1 xt2 xtz2 xt3 xtz3 xt4 xtz4 xt5 xtz5 xu0 xuz0 xu1 xuz1 xu2 xuz2 xu3 xuz3 xu4 xuz4 xu5 xuz5
        clear hHeld
        refine hK.out _ _ ?_ (fun hHeld => ?_)
        · exact ⟨xt.cell 0 rfl, xt.cell 1 rfl, xt.cell 2 rfl, xt.cell 3 rfl, xt.cell 4 rfl, xt.cell 5 rfl, xu.cell 0 rfl, xu.cell 1 rfl, xu.cell 2 rfl, xu.cell 3 rfl, xu.cell 4 rfl, xu.cell 5 rfl, xs.cell 0 rfl, xs.cell 1 rfl, xs.cell 2 rfl, xs.cell 3 rfl, xs.cell 4 rfl, xs.cell 5 rfl⟩
        clear hK K
        try simp only [Act.put, l1, l2, l3, l4, l5, l6]
        refine tk 15 (v := ?_) rfl (Or.inl ⟨by rfl, ?_⟩) ?_; rotate_left
        · intro w hSw; (try dsimp only at hSw); go_simp; try with_reducible rfl
        try simp only [Act.put, l1, l2, l3, l4, l5, l6]
        refine tk 16 (v := ?_) rfl (Or.inl ⟨by rfl, ?_⟩) ?_; rotate_left
        · intro w hSw; (try dsimp only at hSw); go_simp; try with_reducible rfl
        try simp only [Act.put, l1, l2, l3, l4, l5, l6]
        refine tk 17 (v := ?_) rfl (Or.inl ⟨by rfl, ?_⟩) ?_; rotate_left
        · intro w hSw; (try dsimp only at hSw); go_simp; try with_reducible rfl
        try simp only [Act.put, l1, l2, l3, l4, l5, l6]
        refine wpAnyH_done (by kernel_rfl) ?_ _
        clear hHeld
        obtain ⟨xs0, xsz0, xs1, xsz1, xs2, xsz2, xs3, xsz3, xs4, xsz4, xs5, xsz5⟩ := xs.f6
        obtain ⟨xc0, xcz0, xc1, xcz1, xc2, xcz2, xc3, xcz3⟩ := xc.f4
        obtain ⟨xt0, xtz0, xt1, xtz1, xt2, xtz2, xt3, xtz3, xt4, xtz4, xt5, xtz5⟩ := xt.f6
        obtain ⟨xu0, xuz0, xu1, xuz1, xu2, xuz2, xu3, xuz3, xu4, xuz4, xu5, xuz5⟩ := xu.f6
        go_wp2
        go_ret
        exact ⟨rfl, hB⟩
    · obtain ⟨xs0, xsz0, xs1, xsz1, xs2, xsz2, xs3, xsz3, xs4, xsz4, xs5, xsz5⟩ := xs.f6
      obtain ⟨xc0, xcz0, xc1, xcz1, xc2, xcz2, xc3, xcz3⟩ := xc.f4
      obtain ⟨xt0, xtz0, xt1, xtz1, xt2, xtz2, xt3, xtz3, xt4, xtz4, xt5, xtz5⟩ := xt.f6
      go_simp
      try go_wp2_with fail
      clear xs0 xsz0 xs1 xsz1 xs2 xsz2 xs3 xsz3 xs4 xsz4 xs5 xsz5 xc0 xcz0 xc1 xcz1 xc2 xcz2 xc3 xcz3 xt0 xtz0 xt1 xtz1 xt2 xtz2 xt3 xtz3 xt4 xtz4 xt5 xtz5
      have xu := Box.new 28 V6 [.int .i64 0, .bool false, .bool false, .int .i64 0, .int .i64 0, .int .i64 0]
      have ne_xu_xs : V6.heap.size ≠ W.heap.size := Nat.ne_of_gt xs.lt
      have ne_xu_xc : V6.heap.size ≠ W.heap.size + 1 := Nat.ne_of_gt xc.lt
      have ne_xu_xt : V6.heap.size ≠ V4.heap.size := Nat.ne_of_gt xt.lt
      have le_xu : W.heap.size ≤ V6.heap.size := hB.size
      replace xs := xs.alloc (.cells #[.int .i64 0, .bool false, .bool false, .int .i64 0, .int .i64 0, .int .i64 0] 28)
      replace xc := xc.alloc (.cells #[.int .i64 0, .bool false, .bool false, .int .i64 0, .int .i64 0, .int .i64 0] 28)
      replace xt := xt.alloc (.cells #[.int .i64 0, .bool false, .bool false, .int .i64 0, .int .i64 0, .int .i64 0] 28)
      replace hB := hB.alloc hB.size (.cells #[.int .i64 0, .bool false, .bool false, .int .i64 0, .int .i64 0, .int .i64 0] 28)
      obtain ⟨xs0, xsz0, xs1, xsz1, xs2, xsz2, xs3, xsz3, xs4, xsz4, xs5, xsz5⟩ := xs.f6
      obtain ⟨xc0, xcz0, xc1, xcz1, xc2, xcz2, xc3, xcz3⟩ := xc.f4
      obtain ⟨xt0, xtz0, xt1, xtz1, xt2, xtz2, xt3, xtz3, xt4, xtz4, xt5, xtz5⟩ := xt.f6
      obtain ⟨xu0, xuz0, xu1, xuz1, xu2, xuz2, xu3, xuz3, xu4, xuz4, xu5, xuz5⟩ := xu.f6
      generalize (V6.alloc (.cells #[.int .i64 0, .bool false, .bool false, .int .i64 0, .int .i64 0, .int .i64 0] 28)) = V7 at *
      generalize V6.heap.size = g_xu at *
      clear xs0 xsz0 xs1 xsz1 xs2 xsz2 xs3 xsz3 xs4 xsz4 xs5 xsz5 xc0 xcz0 xc1 xcz1 xc2 xcz2 xc3 xcz3 xt0 xtz0 xt1 xtz1 xt2 xtz2 xt3 xtz3 xt4 xtz4 xt5 xtz5 xu0 xuz0 xu1 xuz1 xu2 xuz2 xu3 xuz3 xu4 xuz4 xu5 xuz5
      clear hHeld
      refine hK.out _ _ ?_ (fun hHeld => ?_)
      · exact ⟨xs.cell 0 rfl, xs.cell 1 rfl, xs.cell 2 rfl, xs.cell 3 rfl, xs.cell 4 rfl, xs.cell 5 rfl, xc.cell 0 rfl, xc.cell 1 rfl, xc.cell 2 rfl, xc.cell 3 rfl⟩
      clear hK K
      try simp only [Act.put, l1, l2, l3, l4, l5, l6]
      refine wpAnyH_ready (rs := [1]) (by kernel_rfl) (by simp) ?_
      refine AllReadyH.cons rfl (fun K hK => ?_) (AllReadyH.nil)
      obtain ⟨xs0, xsz0, xs1, xsz1, xs2, xsz2, xs3, xsz3, xs4, xsz4, xs5, xsz5⟩ := xs.f6
      obtain ⟨xc0, xcz0, xc1, xcz1, xc2, xcz2, xc3, xcz3⟩ := xc.f4
      obtain ⟨xt0, xtz0, xt1, xtz1, xt2, xtz2, xt3, xtz3, xt4, xtz4, xt5, xtz5⟩ := xt.f6
      obtain ⟨xu0, xuz0, xu1, xuz1, xu2, xuz2, xu3, xuz3, xu4, xuz4, xu5, xuz5⟩ := xu.f6
      go_simp
      refine (TI.out _).mono ?_
      rintro e V8 ⟨rfl, hk⟩
      clear xs0 xsz0 xs1 xsz1 xs2 xsz2 xs3 xsz3 xs4 xsz4 xs5 xsz5 xc0 xcz0 xc1 xcz1 xc2 xcz2 xc3 xcz3 xt0 xtz0 xt1 xtz1 xt2 xtz2 xt3 xtz3 xt4 xtz4 xt5 xtz5 xu0 xuz0 xu1 xuz1 xu2 xuz2 xu3 xuz3 xu4 xuz4 xu5 xuz5
      replace hB := below_seq hB hk
      replace xs := xs.seq hk
      replace xc := xc.seq hk
      replace xt := xt.seq hk
      replace xu := xu.seq hk
      clear hk
      obtain ⟨xs0, xsz0, xs1, xsz1, xs2, xsz2, xs3, xsz3, xs4, xsz4, xs5, xsz5⟩ := xs.f6
      obtain ⟨xc0, xcz0, xc1, xcz1, xc2, xcz2, xc3, xcz3⟩ := xc.f4
      obtain ⟨xt0, xtz0, xt1, xtz1, xt2, xtz2, xt3, xtz3, xt4, xtz4, xt5, xtz5⟩ := xt.f6
      obtain ⟨xu0, xuz0, xu1, xuz1, xu2, xuz2, xu3, xuz3, xu4, xuz4, xu5, xuz5⟩ := xu.f6
      try go_wp2_with fail
      clear xs0 xsz0 xs1 xsz1 xs2 xsz2 xs3 xsz3 xs4 xsz4 xs5 xsz5 xc0 xcz0 xc1 xcz1 xc2 xcz2 xc3 xcz3 xt0 xtz0 xt1 xtz1 xt2 xtz2 xt3 xtz3 xt4 xtz4 xt5 xtz5 xu0 xuz0 xu1 xuz1 xu2 xuz2 xu3 xuz3 xu4 xuz4 xu5 xuz5
      clear hHeld
      refine hK.out _ _ ?_ (fun hHeld => ?_)
      · exact ⟨xs.cell 0 rfl, xs.cell 1 rfl, xs.cell 2 rfl, xs.cell 3 rfl, xs.cell 4 rfl, xs.cell 5 rfl, xc.cell 0 rfl, xc.cell 1 rfl, xc.cell 2 rfl, xc.cell 3 rfl⟩
      clear hK K
      try simp only [Act.put, l1, l2, l3, l4, l5, l6]
      refine wpAnyH_ready (rs := [3]) (by kernel_rfl) (by simp) ?_
      refine AllReadyH.cons rfl (fun K hK => ?_) (AllReadyH.nil)
      obtain ⟨xs0, xsz0, xs1, xsz1, xs2, xsz2, xs3, xsz3, xs4, xsz4, xs5, xsz5⟩ := xs.f6
      obtain ⟨xc0, xcz0, xc1, xcz1, xc2, xcz2, xc3, xcz3⟩ := xc.f4
      obtain ⟨xt0, xtz0, xt1, xtz1, xt2, xtz2, xt3, xtz3, xt4, xtz4, xt5, xtz5⟩ := xt.f6
      obtain ⟨xu0, xuz0, xu1, xuz1, xu2, xuz2, xu3, xuz3, xu4, xuz4, xu5, xuz5⟩ := xu.f6
      go_simp
      refine (TR.out _).mono ?_
      rintro e V9 ⟨rfl, hk⟩
      clear xs0 xsz0 xs1 xsz1 xs2 xsz2 xs3 xsz3 xs4 xsz4 xs5 xsz5 xc0 xcz0 xc1 xcz1 xc2 xcz2 xc3 xcz3 xt0 xtz0 xt1 xtz1 xt2 xtz2 xt3 xtz3 xt4 xtz4 xt5 xtz5 xu0 xuz0 xu1 xuz1 xu2 xuz2 xu3 xuz3 xu4 xuz4 xu5 xuz5
      replace hB := below_seq hB hk
      replace xs := xs.seq hk
      replace xc := xc.seq hk
      replace xt := xt.seq hk
      replace xu := xu.seq hk
      clear hk
      obtain ⟨xs0, xsz0, xs1, xsz1, xs2, xsz2, xs3, xsz3, xs4, xsz4, xs5, xsz5⟩ := xs.f6
      obtain ⟨xc0, xcz0, xc1, xcz1, xc2, xcz2, xc3, xcz3⟩ := xc.f4
      obtain ⟨xt0, xtz0, xt1, xtz1, xt2, xtz2, xt3, xtz3, xt4, xtz4, xt5, xtz5⟩ := xt.f6
      obtain ⟨xu0, xuz0, xu1, xuz1, xu2, xuz2, xu3, xuz3, xu4, xuz4, xu5, xuz5⟩ := xu.f6
      try go_wp2_with fail
      clear xs0 xsz0 xs1 xsz1 xs2 xsz2 xs3 xsz3 xs4 xsz4 xs5 xsz5 xc0 xcz0 xc1 xcz1 xc2 xcz2 xc3 xcz3 xt0 xtz0 xt1 xtz1 xt2 xtz2 xt3 xtz3 xt4 xtz4 xt5 xtz5 xu0 xuz0 xu1 xuz1 xu2 xuz2 xu3 xuz3 xu4 xuz4 xu5 xuz5
      clear hHeld
      refine hK.out _ _ ?_ (fun hHeld => ?_)
      · exact ⟨xs.cell 0 rfl, xs.cell 1 rfl, xs.cell 2 rfl, xs.cell 3 rfl, xs.cell 4 rfl, xs.cell 5 rfl, xc.cell 0 rfl, xc.cell 1 rfl, xc.cell 2 rfl, xc.cell 3 rfl⟩
      clear hK K
      try simp only [Act.put, l1, l2, l3, l4, l5, l6]
      refine tk 4 (v := ?_) rfl (Or.inl ⟨by rfl, ?_⟩) ?_; rotate_left
      · intro w hSw; (try dsimp only at hSw); go_simp; try with_reducible rfl
      try simp only [Act.put, l1, l2, l3, l4, l5, l6]
      refine tk 5 (v := ?_) rfl (Or.inl ⟨by rfl, ?_⟩) ?_; rotate_left
      · intro w hSw; (try dsimp only at hSw); go_simp; try with_reducible rfl
      try simp only [Act.put, l1, l2, l3, l4, l5, l6]
      refine tk 6 (v := ?_) rfl (Or.inl ⟨by rfl, ?_⟩) ?_; rotate_left
      · intro w hSw; (try dsimp only at hSw); go_simp; try with_reducible rfl
      try simp only [Act.put, l1, l2, l3, l4, l5, l6]
      refine wpAnyH_ready (rs := [8]) (by kernel_rfl) (by simp) ?_
      refine AllReadyH.cons rfl (fun K hK => ?_) (AllReadyH.nil)
      obtain ⟨xs0, xsz0, xs1, xsz1, xs2, xsz2, xs3, xsz3, xs4, xsz4, xs5, xsz5⟩ := xs.f6
      obtain ⟨xc0, xcz0, xc1, xcz1, xc2, xcz2, xc3, xcz3⟩ := xc.f4
      obtain ⟨xt0, xtz0, xt1, xtz1, xt2, xtz2, xt3, xtz3, xt4, xtz4, xt5, xtz5⟩ := xt.f6
      obtain ⟨xu0, xuz0, xu1, xuz1, xu2, xuz2, xu3, xuz3, xu4, xuz4, xu5, xuz5⟩ := xu.f6
      go_simp
      try go_wp2_with fail
      clear xs0 xsz0 xs1 xsz1 xs2 xsz2 xs3 xsz3 xs4 xsz4 xs5 xsz5 xc0 xcz0 xc1 xcz1 xc2 xcz2 xc3 xcz3 xt0 xtz0 xt1 xtz1 xt2 xtz2 xt3 xtz3 xt4 xtz4 xt5 xtz5 xu0 xuz0 xu1 xuz1 xu2 xuz2 xu3 xuz3 xu4 xuz4 xu5 xuz5
      replace xs := ((((((xs.other ne_xu_xs 0 (.int .i64 um)).other ne_xu_xs 1 (.bool ua)).other ne_xu_xs 2 (.bool uh)).other ne_xu_xs 3 (.int .i64 ul)).other ne_xu_xs 4 (.int .i64 uo)).other ne_xu_xs 5 (.int .i64 ui))
      replace xc := ((((((xc.other ne_xu_xc 0 (.int .i64 um)).other ne_xu_xc 1 (.bool ua)).other ne_xu_xc 2 (.bool uh)).other ne_xu_xc 3 (.int .i64 ul)).other ne_xu_xc 4 (.int .i64 uo)).other ne_xu_xc 5 (.int .i64 ui))
      replace xt := ((((((xt.other ne_xu_xt 0 (.int .i64 um)).other ne_xu_xt 1 (.bool ua)).other ne_xu_xt 2 (.bool uh)).other ne_xu_xt 3 (.int .i64 ul)).other ne_xu_xt 4 (.int .i64 uo)).other ne_xu_xt 5 (.int .i64 ui))
      replace xu : Box 28 ((((((V9.setCell ⟨g_xu, 0, none⟩ (.int .i64 um)).setCell ⟨g_xu, 1, none⟩ (.bool ua)).setCell ⟨g_xu, 2, none⟩ (.bool uh)).setCell ⟨g_xu, 3, none⟩ (.int .i64 ul)).setCell ⟨g_xu, 4, none⟩ (.int .i64 uo)).setCell ⟨g_xu, 5, none⟩ (.int .i64 ui)) (g_xu) [.int .i64 um, .bool ua, .bool uh, .int .i64 ul, .int .i64 uo, .int .i64 ui] := ((((((xu.set 0 (.int .i64 um)).set 1 (.bool ua)).set 2 (.bool uh)).set 3 (.int .i64 ul)).set 4 (.int .i64 uo)).set 5 (.int .i64 ui))
      replace hB : Below W.heap.size W ((((((V9.setCell ⟨g_xu, 0, none⟩ (.int .i64 um)).setCell ⟨g_xu, 1, none⟩ (.bool ua)).setCell ⟨g_xu, 2, none⟩ (.bool uh)).setCell ⟨g_xu, 3, none⟩ (.int .i64 ul)).setCell ⟨g_xu, 4, none⟩ (.int .i64 uo)).setCell ⟨g_xu, 5, none⟩ (.int .i64 ui)) := ((((((hB.setCell le_xu _).setCell le_xu _).setCell le_xu _).setCell le_xu _).setCell le_xu _).setCell le_xu _)
      generalize ((((((V9.setCell ⟨g_xu, 0, none⟩ (.int .i64 um)).setCell ⟨g_xu, 1, none⟩ (.bool ua)).setCell ⟨g_xu, 2, none⟩ (.bool uh)).setCell ⟨g_xu, 3, none⟩ (.int .i64 ul)).setCell ⟨g_xu, 4, none⟩ (.int .i64 uo)).setCell ⟨g_xu, 5, none⟩ (.int .i64 ui)) = V10 at *
      clear hHeld
      refine hK.out _ _ ?_ (fun hHeld => ?_)
      · exact ⟨xs.cell 0 rfl, xs.cell 1 rfl, xs.cell 2 rfl, xs.cell 3 rfl, xs.cell 4 rfl, xs.cell 5 rfl, xc.cell 0 rfl, xc.cell 1 rfl, xc.cell 2 rfl, xc.cell 3 rfl⟩
      clear hK K
      try simp only [Act.put, l1, l2, l3, l4, l5, l6]
      refine tk 9 (v := ?_) rfl (Or.inl ⟨by rfl, ?_⟩) ?_; rotate_left
      · intro w hSw; (try dsimp only at hSw); go_simp; try with_reducible rfl
      try simp only [Act.put, l1, l2, l3, l4, l5, l6]
      refine wpAnyH_done (by kernel_rfl) ?_ _
      clear hHeld
      obtain ⟨xs0, xsz0, xs1, xsz1, xs2, xsz2, xs3, xsz3, xs4, xsz4, xs5, xsz5⟩ := xs.f6
      obtain ⟨xc0, xcz0, xc1, xcz1, xc2, xcz2, xc3, xcz3⟩ := xc.f4
      obtain ⟨xt0, xtz0, xt1, xtz1, xt2, xtz2, xt3, xtz3, xt4, xtz4, xt5, xtz5⟩ := xt.f6
      obtain ⟨xu0, xuz0, xu1, xuz1, xu2, xuz2, xu3, xuz3, xu4, xuz4, xu5, xuz5⟩ := xu.f6
      go_wp2_with fail
      clear xs0 xsz0 xs1 xsz1 xs2 xsz2 xs3 xsz3 xs4 xsz4 xs5 xsz5 xc0 xcz0 xc1 xcz1 xc2 xcz2 xc3 xcz3 xt0 xtz0 xt1 xtz1 xt2 xtz2 xt3 xtz3 xt4 xtz4 xt5 xtz5 xu0 xuz0 xu1 xuz1 xu2 xuz2 xu3 xuz3 xu4 xuz4 xu5 xuz5
      replace hB := hB.drew
      replace xs := xs.drew
      replace xc := xc.drew
      replace xt := xt.drew
      replace xu := xu.drew
      refine wp_region_held_drew (S := fun w' => w'.cell? ⟨V4.heap.size, 0, none⟩ = some (.int .i64 um) ∧ w'.cell? ⟨V4.heap.size, 1, none⟩ = some (.bool ua) ∧ w'.cell? ⟨V4.heap.size, 2, none⟩ = some (.bool uh) ∧ w'.cell? ⟨V4.heap.size, 3, none⟩ = some (.int .i64 ul) ∧ w'.cell? ⟨V4.heap.size, 4, none⟩ = some (.int .i64 uo) ∧ w'.cell? ⟨V4.heap.size, 5, none⟩ = some (.int .i64 ui) ∧ w'.cell? ⟨g_xu, 0, none⟩ = some (.int .i64 um) ∧ w'.cell? ⟨g_xu, 1, none⟩ = some (.bool ua) ∧ w'.cell? ⟨g_xu, 2, none⟩ = some (.bool uh) ∧ w'.cell? ⟨g_xu, 3, none⟩ = some (.int .i64 ul) ∧ w'.cell? ⟨g_xu, 4, none⟩ = some (.int .i64 uo) ∧ w'.cell? ⟨g_xu, 5, none⟩ = some (.int .i64 ui) ∧ w'.cell? ⟨W.heap.size, 0, none⟩ = some (.int .i64 s.mode) ∧ w'.cell? ⟨W.heap.size, 1, none⟩ = some (.bool s.armed) ∧ w'.cell? ⟨W.heap.size, 2, none⟩ = some (.bool s.home) ∧ w'.cell? ⟨W.heap.size, 3, none⟩ = some (.int .i64 s.lat) ∧ w'.cell? ⟨W.heap.size, 4, none⟩ = some (.int .i64 s.lon) ∧ w'.cell? ⟨W.heap.size, 5, none⟩ = some (.int .i64 s.iso)) (by kernel_rfl) ?_ (fun hHeld => ?_)
      · exact ⟨xt.cell 0 rfl, xt.cell 1 rfl, xt.cell 2 rfl, xt.cell 3 rfl, xt.cell 4 rfl, xt.cell 5 rfl, xu.cell 0 rfl, xu.cell 1 rfl, xu.cell 2 rfl, xu.cell 3 rfl, xu.cell 4 rfl, xu.cell 5 rfl, xs.cell 0 rfl, xs.cell 1 rfl, xs.cell 2 rfl, xs.cell 3 rfl, xs.cell 4 rfl, xs.cell 5 rfl⟩
      generalize V10.drew = V11 at *
      refine tk 0 (v := ?_) rfl (Or.inl ⟨by rfl, ?_⟩) ?_; rotate_left
      · intro w hSw; (try dsimp only at hSw); go_simp; try with_reducible rfl
      try simp only [Act.put, l1, l2, l3, l4, l5, l6]
      refine tk 2 (v := ?_) rfl (Or.inl ⟨by rfl, ?_⟩) ?_; rotate_left
      · intro w hSw; (try dsimp only at hSw); go_simp; try with_reducible rfl
      try simp only [Act.put, l1, l2, l3, l4, l5, l6]
      refine wpAnyH_ready (rs := [1]) (by kernel_rfl) (by simp) ?_
      refine AllReadyH.cons rfl (fun K hK => ?_) AllReadyH.nil
      obtain ⟨xs0, xsz0, xs1, xsz1, xs2, xsz2, xs3, xsz3, xs4, xsz4, xs5, xsz5⟩ := xs.f6
      obtain ⟨xc0, xcz0, xc1, xcz1, xc2, xcz2, xc3, xcz3⟩ := xc.f4
      obtain ⟨xt0, xtz0, xt1, xtz1, xt2, xtz2, xt3, xtz3, xt4, xtz4, xt5, xtz5⟩ := xt.f6
      obtain ⟨xu0, xuz0, xu1, xuz1, xu2, xuz2, xu3, xuz3, xu4, xuz4, xu5, xuz5⟩ := xu.f6
      go_simp
      refine (TU.out _).mono ?_
      rintro e V12 ⟨rfl, hk⟩
      clear xs0 xsz0 xs1 xsz1 xs2 xsz2 xs3 xsz3 xs4 xsz4 xs5 xsz5 xc0 xcz0 xc1 xcz1 xc2 xcz2 xc3 xcz3 xt0 xtz0 xt1 xtz1 xt2 xtz2 xt3 xtz3 xt4 xtz4 xt5 xtz5 xu0 xuz0 xu1 xuz1 xu2 xuz2 xu3 xuz3 xu4 xuz4 xu5 xuz5
      replace hB := below_seq hB hk
      replace xs := xs.seq hk
      replace xc := xc.seq hk
      replace xt := xt.seq hk
      replace xu := xu.seq hk
      clear hk
      obtain ⟨xs0, xsz0, xs1, xsz1, xs2, xsz2, xs3, xsz3, xs4, xsz4, xs5, xsz5⟩ := xs.f6
      obtain ⟨xc0, xcz0, xc1, xcz1, xc2, xcz2, xc3, xcz3⟩ := xc.f4
      obtain ⟨xt0, xtz0, xt1, xtz1, xt2, xtz2, xt3, xtz3, xt4, xtz4, xt5, xtz5⟩ := xt.f6
      obtain ⟨xu0, xuz0, xu1, xuz1, xu2, xuz2, xu3, xuz3, xu4, xuz4, xu5, xuz5⟩ := xu.f6
      try go_wp2_with fail
      clear xs0 xsz0 xs1 xsz1 xs2 xsz2 xs3 xsz3 xs4 xsz4 xs5 xsz5 xc0 xcz0 xc1 xcz1 xc2 xcz2 xc3 xcz3 xt0 xtz0 xt1 xtz1 xt2 xtz2 xt3 xtz3 xt4 xtz4 xt5 xtz5 xu0 xuz0 xu1 xuz1 xu2 xuz2 xu3 xuz3 xu4 xuz4 xu5 xuz5
      clear hHeld
      refine hK.out _ _ ?_ (fun hHeld => ?_)
      · exact ⟨xt.cell 0 rfl, xt.cell 1 rfl, xt.cell 2 rfl, xt.cell 3 rfl, xt.cell 4 rfl, xt.cell 5 rfl, xu.cell 0 rfl, xu.cell 1 rfl, xu.cell 2 rfl, xu.cell 3 rfl, xu.cell 4 rfl, xu.cell 5 rfl, xs.cell 0 rfl, xs.cell 1 rfl, xs.cell 2 rfl, xs.cell 3 rfl, xs.cell 4 rfl, xs.cell 5 rfl⟩
      clear hK K
      try simp only [Act.put, l1, l2, l3, l4, l5, l6]
      refine tk 3 (v := ?_) rfl (Or.inl ⟨by rfl, ?_⟩) ?_; rotate_left
      · intro w hSw; (try dsimp only at hSw); go_simp; try with_reducible rfl
      try simp only [Act.put, l1, l2, l3, l4, l5, l6]
      refine tk 4 (v := ?_) rfl (Or.inl ⟨by rfl, ?_⟩) ?_; rotate_left
      · intro w hSw; (try dsimp only at hSw); go_simp; try with_reducible rfl
      try simp only [Act.put, l1, l2, l3, l4, l5, l6]
      refine tk 5 (v := ?_) rfl (Or.inl ⟨by rfl, ?_⟩) ?_; rotate_left
      · intro w hSw; (try dsimp only at hSw); go_simp; try with_reducible rfl
      try simp only [Act.put, l1, l2, l3, l4, l5, l6]
      refine tk 6 (v := ?_) rfl (Or.inl ⟨by rfl, ?_⟩) ?_; rotate_left
      · intro w hSw; (try dsimp only at hSw); go_simp; try with_reducible rfl
      try simp only [Act.put, l1, l2, l3, l4, l5, l6]
      refine tk 7 (v := ?_) rfl (Or.inl ⟨by rfl, ?_⟩) ?_; rotate_left
      · intro w hSw; (try dsimp only at hSw); go_simp; try with_reducible rfl
      try simp only [Act.put, l1, l2, l3, l4, l5, l6]
      refine tk 8 (v := ?_) rfl (Or.inl ⟨by rfl, ?_⟩) ?_; rotate_left
      · intro w hSw; (try dsimp only at hSw); go_simp; try with_reducible rfl
      try simp only [Act.put, l1, l2, l3, l4, l5, l6]
      refine tk 9 (v := ?_) rfl (Or.inl ⟨by rfl, ?_⟩) ?_; rotate_left
      · intro w hSw; (try dsimp only at hSw); go_simp; try with_reducible rfl
      try simp only [Act.put, l1, l2, l3, l4, l5, l6]
      refine tk 10 (v := ?_) rfl (Or.inl ⟨by rfl, ?_⟩) ?_; rotate_left
      · intro w hSw; (try dsimp only at hSw); go_simp; try with_reducible rfl
      try simp only [Act.put, l1, l2, l3, l4, l5, l6]
      refine tk 12 (v := ?_) rfl (Or.inl ⟨by rfl, ?_⟩) ?_; rotate_left
      · intro w hSw; (try dsimp only at hSw); go_simp; try with_reducible rfl
      try simp only [Act.put, l1, l2, l3, l4, l5, l6]
      refine wpAnyH_ready (rs := [11]) (by kernel_rfl) (by simp) ?_
      refine AllReadyH.cons rfl (fun K hK => ?_) AllReadyH.nil
      obtain ⟨xs0, xsz0, xs1, xsz1, xs2, xsz2, xs3, xsz3, xs4, xsz4, xs5, xsz5⟩ := xs.f6
      obtain ⟨xc0, xcz0, xc1, xcz1, xc2, xcz2, xc3, xcz3⟩ := xc.f4
      obtain ⟨xt0, xtz0, xt1, xtz1, xt2, xtz2, xt3, xtz3, xt4, xtz4, xt5, xtz5⟩ := xt.f6
      obtain ⟨xu0, xuz0, xu1, xuz1, xu2, xuz2, xu3, xuz3, xu4, xuz4, xu5, xuz5⟩ := xu.f6
      go_simp
      refine (TO.out _).mono ?_
      rintro e V13 ⟨rfl, hk⟩
      clear xs0 xsz0 xs1 xsz1 xs2 xsz2 xs3 xsz3 xs4 xsz4 xs5 xsz5 xc0 xcz0 xc1 xcz1 xc2 xcz2 xc3 xcz3 xt0 xtz0 xt1 xtz1 xt2 xtz2 xt3 xtz3 xt4 xtz4 xt5 xtz5 xu0 xuz0 xu1 xuz1 xu2 xuz2 xu3 xuz3 xu4 xuz4 xu5 xuz5
      replace hB := below_seq hB hk
      replace xs := xs.seq hk
      replace xc := xc.seq hk
      replace xt := xt.seq hk
      replace xu := xu.seq hk
      clear hk
      obtain ⟨xs0, xsz0, xs1, xsz1, xs2, xsz2, xs3, xsz3, xs4, xsz4, xs5, xsz5⟩ := xs.f6
      obtain ⟨xc0, xcz0, xc1, xcz1, xc2, xcz2, xc3, xcz3⟩ := xc.f4
      obtain ⟨xt0, xtz0, xt1, xtz1, xt2, xtz2, xt3, xtz3, xt4, xtz4, xt5, xtz5⟩ := xt.f6
      obtain ⟨xu0, xuz0, xu1, xuz1, xu2, xuz2, xu3, xuz3, xu4, xuz4, xu5, xuz5⟩ := xu.f6
      try go_wp2_with fail
      clear xs0 xsz0 xs1 xsz1 xs2 xsz2 xs3 xsz3 xs4 xsz4 xs5 xsz5 xc0 xcz0 xc1 xcz1 xc2 xcz2 xc3 xcz3 xt0 xtz0 xt1 xtz1 xt2 xtz2 xt3 xtz3 xt4 xtz4 xt5 xtz5 xu0 xuz0 xu1 xuz1 xu2 xuz2 xu3 xuz3 xu4 xuz4 xu5 xuz5
      clear hHeld
      refine hK.out _ _ ?_ (fun hHeld => ?_)
      · exact ⟨xt.cell 0 rfl, xt.cell 1 rfl, xt.cell 2 rfl, xt.cell 3 rfl, xt.cell 4 rfl, xt.cell 5 rfl, xu.cell 0 rfl, xu.cell 1 rfl, xu.cell 2 rfl, xu.cell 3 rfl, xu.cell 4 rfl, xu.cell 5 rfl, xs.cell 0 rfl, xs.cell 1 rfl, xs.cell 2 rfl, xs.cell 3 rfl, xs.cell 4 rfl, xs.cell 5 rfl⟩
      clear hK K
      try simp only [Act.put, l1, l2, l3, l4, l5, l6]
      refine wpAnyH_ready (rs := [13]) (by kernel_rfl) (by simp) ?_
      refine AllReadyH.cons rfl (fun K hK => ?_) AllReadyH.nil
      obtain ⟨xs0, xsz0, xs1, xsz1, xs2, xsz2, xs3, xsz3, xs4, xsz4, xs5, xsz5⟩ := xs.f6
      obtain ⟨xc0, xcz0, xc1, xcz1, xc2, xcz2, xc3, xcz3⟩ := xc.f4
      obtain ⟨xt0, xtz0, xt1, xtz1, xt2, xtz2, xt3, xtz3, xt4, xtz4, xt5, xtz5⟩ := xt.f6
      obtain ⟨xu0, xuz0, xu1, xuz1, xu2, xuz2, xu3, xuz3, xu4, xuz4, xu5, xuz5⟩ := xu.f6
      go_simp
      refine (TI.out _).mono ?_
      rintro e V14 ⟨rfl, hk⟩
      clear xs0 xsz0 xs1 xsz1 xs2 xsz2 xs3 xsz3 xs4 xsz4 xs5 xsz5 xc0 xcz0 xc1 xcz1 xc2 xcz2 xc3 xcz3 xt0 xtz0 xt1 xtz1 xt2 xtz2 xt3 xtz3 xt4 xtz4 xt5 xtz5 xu0 xuz0 xu1 xuz1 xu2 xuz2 xu3 xuz3 xu4 xuz4 xu5 xuz5
      replace hB := below_seq hB hk
      replace xs := xs.seq hk
      replace xc := xc.seq hk
      replace xt := xt.seq hk
      replace xu := xu.seq hk
      clear hk
      obtain ⟨xs0, xsz0, xs1, xsz1, xs2, xsz2, xs3, xsz3, xs4, xsz4, xs5, xsz5⟩ := xs.f6
      obtain ⟨xc0, xcz0, xc1, xcz1, xc2, xcz2, xc3, xcz3⟩ := xc.f4
      obtain ⟨xt0, xtz0, xt1, xtz1, xt2, xtz2, xt3, xtz3, xt4, xtz4, xt5, xtz5⟩ := xt.f6
      obtain ⟨xu0, xuz0, xu1, xuz1, xu2, xuz2, xu3, xuz3, xu4, xuz4, xu5, xuz5⟩ := xu.f6
      try go_wp2_with fail
      clear xs0 xsz0 xs1 xsz1 xs2 xsz2 xs3 xsz3 xs4 xsz4 xs5 xsz5 xc0 xcz0 xc1 xcz1 xc2 xcz2 xc3 xcz3 xt0 xtz0 xt1 xtz1 xt2 xtz2 xt3 xtz3 xt4 xtz4 xt5 xtz5 xu0 xuz0 xu1 xuz1 xu2 xuz2 xu3 xuz3 xu4 xuz4 xu5 xuz5
      clear hHeld
      refine hK.out _ _ ?_ (fun hHeld => ?_)
      · exact ⟨xt.cell 0 rfl, xt.cell 1 rfl, xt.cell 2 rfl, xt.cell 3 rfl, xt.cell 4 rfl, xt.cell 5 rfl, xu.cell 0 rfl, xu.cell 1 rfl, xu.cell 2 rfl, xu.cell 3 rfl, xu.cell 4 rfl, xu.cell 5 rfl, xs.cell 0 rfl, xs.cell 1 rfl, xs.cell 2 rfl, xs.cell 3 rfl, xs.cell 4 rfl, xs.cell 5 rfl⟩
      clear hK K
      try simp only [Act.put, l1, l2, l3, l4, l5, l6]
      refine wpAnyH_ready (rs := [14]) (by kernel_rfl) (by simp) ?_
      refine AllReadyH.cons rfl (fun K hK => ?_) AllReadyH.nil
      obtain ⟨xs0, xsz0, xs1, xsz1, xs2, xsz2, xs3, xsz3, xs4, xsz4, xs5, xsz5⟩ := xs.f6
      obtain ⟨xc0, xcz0, xc1, xcz1, xc2, xcz2, xc3, xcz3⟩ := xc.f4
      obtain ⟨xt0, xtz0, xt1, xtz1, xt2, xtz2, xt3, xtz3, xt4, xtz4, xt5, xtz5⟩ := xt.f6
      obtain ⟨xu0, xuz0, xu1, xuz1, xu2, xuz2, xu3, xuz3, xu4, xuz4, xu5, xuz5⟩ := xu.f6
      go_simp
      refine (TX.out _).mono ?_
      rintro e V15 ⟨rfl, hk⟩
      clear xs0 xsz0 xs1 xsz1 xs2 xsz2 xs3 xsz3 xs4 xsz4 xs5 xsz5 xc0 xcz0 xc1 xcz1 xc2 xcz2 xc3 xcz3 xt0 xtz0 xt1 xtz1 xt2 xtz2 xt3 xtz3 xt4 xtz4 xt5 xtz5 xu0 xuz0 xu1 xuz1 xu2 xuz2 xu3 xuz3 xu4 xuz4 xu5 xuz5
      replace hB := below_seq hB hk
      replace xs := xs.seq hk
      replace xc := xc.seq hk
      replace xt := xt.seq hk
      replace xu := xu.seq hk
      clear hk
      obtain ⟨xs0, xsz0, xs1, xsz1, xs2, xsz2, xs3, xsz3, xs4, xsz4, xs5, xsz5⟩ := xs.f6
      obtain ⟨xc0, xcz0, xc1, xcz1, xc2, xcz2, xc3, xcz3⟩ := xc.f4
      obtain ⟨xt0, xtz0, xt1, xtz1, xt2, xtz2, xt3, xtz3, xt4, xtz4, xt5, xtz5⟩ := xt.f6
      obtain ⟨xu0, xuz0, xu1, xuz1, xu2, xuz2, xu3, xuz3, xu4, xuz4, xu5, xuz5⟩ := xu.f6
      try go_wp2_with fail
      clear xs0 xsz0 xs1 xsz1 xs2 xsz2 xs3 xsz3 xs4 xsz4 xs5 xsz5 xc0 xcz0 xc1 xcz1 xc2 xcz2 xc3 xcz3 xt0 xtz0 xt1 xtz1 xt2 xtz2 xt3 xtz3 xt4 xtz4 xt5 xtz5 xu0 xuz0 xu1 xuz1 xu2 xuz2 xu3 xuz3 xu4 xuz4 xu5 xuz5
      clear hHeld
      refine hK.out _ _ ?_ (fun hHeld => ?_)
      · exact ⟨xt.cell 0 rfl, xt.cell 1 rfl, xt.cell 2 rfl, xt.cell 3 rfl, xt.cell 4 rfl, xt.cell 5 rfl, xu.cell 0 rfl, xu.cell 1 rfl, xu.cell 2 rfl, xu.cell 3 rfl, xu.cell 4 rfl, xu.cell 5 rfl, xs.cell 0 rfl, xs.cell 1 rfl, xs.cell 2 rfl, xs.cell 3 rfl, xs.cell 4 rfl, xs.cell 5 rfl⟩
      clear hK K
      try simp only [Act.put, l1, l2, l3, l4, l5, l6]
      refine tk 15 (v := ?_) rfl (Or.inl ⟨by rfl, ?_⟩) ?_; rotate_left
      · intro w hSw; (try dsimp only at hSw); go_simp; try with_reducible rfl
      try simp only [Act.put, l1, l2, l3, l4, l5, l6]
      refine tk 16 (v := ?_) rfl (Or.inl ⟨by rfl, ?_⟩) ?_; rotate_left
      · intro w hSw; (try dsimp only at hSw); go_simp; try with_reducible rfl
      try simp only [Act.put, l1, l2, l3, l4, l5, l6]
      refine tk 17 (v := ?_) rfl (Or.inl ⟨by rfl, ?_⟩) ?_; rotate_left
      · intro w hSw; (try dsimp only at hSw); go_simp; try with_reducible rfl
      try simp only [Act.put, l1, l2, l3, l4, l5, l6]
      refine wpAnyH_done (by kernel_rfl) ?_ _
      clear hHeld
      obtain ⟨xs0, xsz0, xs1, xsz1, xs2, xsz2, xs3, xsz3, xs4, xsz4, xs5, xsz5⟩ := xs.f6
      obtain ⟨xc0, xcz0, xc1, xcz1, xc2, xcz2, xc3, xcz3⟩ := xc.f4
      obtain ⟨xt0, xtz0, xt1, xtz1, xt2, xtz2, xt3, xtz3, xt4, xtz4, xt5, xtz5⟩ := xt.f6
      obtain ⟨xu0, xuz0, xu1, xuz1, xu2, xuz2, xu3, xuz3, xu4, xuz4, xu5, xuz5⟩ := xu.f6
      go_wp2
      go_ret
      exact ⟨rfl, hB⟩
  · have TL := Lib.hid (fun (V : World) => (show Calls Try.prog 10 #[.agg #[.int .i64 s.mode, .bool s.armed, .bool s.home, .int .i64 s.lat, .int .i64 s.lon, .int .i64 s.iso]] V fun e W' => e = .returned (.bool false) ∧ Below V.heap.size V W' from by have h := ref14Legal s V; rwa [not_legal hl] at h))
    clear hl hs
    have hB : Below W.heap.size W ((W.alloc (.cells #[.int .i64 s.mode, .bool s.armed, .bool s.home, .int .i64 s.lat, .int .i64 s.lon, .int .i64 s.iso] 23)).alloc (.cells #[.int .i64 c.kind, .int .i64 c.n, .float .f64 c.lat, .float .f64 c.lon] 26)) := (((Below.refl _ _).alloc (Nat.le_refl _) _).alloc (by simp) _)
    have xs := ((Box.new 23 W [.int .i64 s.mode, .bool s.armed, .bool s.home, .int .i64 s.lat, .int .i64 s.lon, .int .i64 s.iso]).alloc (.cells #[.int .i64 c.kind, .int .i64 c.n, .float .f64 c.lat, .float .f64 c.lon] 26))
    have xc : Box 26 ((W.alloc (.cells #[.int .i64 s.mode, .bool s.armed, .bool s.home, .int .i64 s.lat, .int .i64 s.lon, .int .i64 s.iso] 23)).alloc (.cells #[.int .i64 c.kind, .int .i64 c.n, .float .f64 c.lat, .float .f64 c.lon] 26)) (W.heap.size + 1) [.int .i64 c.kind, .int .i64 c.n, .float .f64 c.lat, .float .f64 c.lon] := by have h := (Box.new 26 (W.alloc (.cells #[.int .i64 s.mode, .bool s.armed, .bool s.home, .int .i64 s.lat, .int .i64 s.lon, .int .i64 s.iso] 23)) [.int .i64 c.kind, .int .i64 c.n, .float .f64 c.lat, .float .f64 c.lon]); rwa [World.size_alloc] at h
    have le_xc : W.heap.size ≤ W.heap.size + 1 := by omega
    go_enter Try.func3, Try.ntmps3
    obtain ⟨xs0, xsz0, xs1, xsz1, xs2, xsz2, xs3, xsz3, xs4, xsz4, xs5, xsz5⟩ := xs.f6
    obtain ⟨xc0, xcz0, xc1, xcz1, xc2, xcz2, xc3, xcz3⟩ := xc.f4
    go_wp2_with fail
    refine (TI.out _).mono ?_
    rintro e V1 ⟨rfl, hk⟩
    clear xs0 xsz0 xs1 xsz1 xs2 xsz2 xs3 xsz3 xs4 xsz4 xs5 xsz5 xc0 xcz0 xc1 xcz1 xc2 xcz2 xc3 xcz3
    replace hB := below_seq hB hk
    replace xs := xs.seq hk
    replace xc := xc.seq hk
    clear hk
    obtain ⟨xs0, xsz0, xs1, xsz1, xs2, xsz2, xs3, xsz3, xs4, xsz4, xs5, xsz5⟩ := xs.f6
    obtain ⟨xc0, xcz0, xc1, xcz1, xc2, xcz2, xc3, xcz3⟩ := xc.f4
    go_wp2_with fail
    refine (TL.out _).mono ?_
    rintro e V2 ⟨rfl, hk⟩
    clear xs0 xsz0 xs1 xsz1 xs2 xsz2 xs3 xsz3 xs4 xsz4 xs5 xsz5 xc0 xcz0 xc1 xcz1 xc2 xcz2 xc3 xcz3
    replace hB := below_seq hB hk
    replace xs := xs.seq hk
    replace xc := xc.seq hk
    clear hk
    obtain ⟨xs0, xsz0, xs1, xsz1, xs2, xsz2, xs3, xsz3, xs4, xsz4, xs5, xsz5⟩ := xs.f6
    obtain ⟨xc0, xcz0, xc1, xcz1, xc2, xcz2, xc3, xcz3⟩ := xc.f4
    go_wp2_with fail
    refine (shown16 _).mono ?_
    rintro e V3 ⟨rfl, hk⟩
    clear xs0 xsz0 xs1 xsz1 xs2 xsz2 xs3 xsz3 xs4 xsz4 xs5 xsz5 xc0 xcz0 xc1 xcz1 xc2 xcz2 xc3 xcz3
    replace hB := below_seq hB hk
    replace xs := xs.seq hk
    replace xc := xc.seq hk
    clear hk
    obtain ⟨xs0, xsz0, xs1, xsz1, xs2, xsz2, xs3, xsz3, xs4, xsz4, xs5, xsz5⟩ := xs.f6
    obtain ⟨xc0, xcz0, xc1, xcz1, xc2, xcz2, xc3, xcz3⟩ := xc.f4
    go_wp2
    go_ret
    exact ⟨rfl, hB⟩

theorem own : ownKnob Try.prog.godebug = none := by kernel_rfl

set_option maxRecDepth 100000 in
theorem lifted (os : Os) (started : os.Started) (H : Type) (enc : TypeId × Value → H) :
    ReturnsInHanded {} Try.checked os 3 .any (Rows.commandDeltaSpec.pre6 enc Try.prog Try.f3 Rows.commandDeltaRow.domain false) (Rows.commandDeltaSpec.post enc Try.prog Try.f3 false true false false) := by
  refine returnsInHanded_of_change (C := Try.checked) own started (by kernel_rfl) Try.func3
    (ChangeSpec.witness6 (enc := enc) (C := Try.checked) false ⟨#[], #[.agg #[.int .i64 0, .bool false, .bool false, .int .i64 0, .int .i64 0, .int .i64 0], .agg #[.int .i64 0, .int .i64 0, .float .f64 0, .float .f64 0]], []⟩ 8 (by kernel_rfl) (by kernel_rfl) (by kernel_rfl) (by kernel_rfl)) ?_
  intro W base args ds gs before hval hW _ _
  have hW' := hW
  obtain ⟨p, q, hA0, hV, rfl, hfz, hnd⟩ := hW
  have hA : DataW.TrodAll enc Try.prog W 0 (fun _ => true) true Try.f3.params.toList args.toList ds p := hA0
  rw [Try.params3] at hA hval
  obtain ⟨v0, vs0, d0, ds0, p0, q0, hargs, rfl, rfl, h0, r0⟩ := trodAll_cons hA
  obtain ⟨v1, vs1, d1, ds1, p1, q1, rfl, rfl, rfl, h1, r1⟩ := trodAll_cons r0
  obtain ⟨rfl, rfl, rfl⟩ := trodAll_nil r1
  obtain rfl : args = #[v0, v1] := by cases args; simp_all
  obtain ⟨rfl, rfl⟩ := trodVars_none hV
  have k0 := h0
  obtain ⟨s0, rfl, hs0⟩ := open_st (hval 0 23 v0 rfl rfl) h0
  have k1 := h1
  obtain ⟨s1, rfl, hs1⟩ := open_cm (hval 1 26 v1 rfl rfl) h1
  clear hA0
  simp only [List.append_nil] at hW'
  refine (walk s0 s1 W hs0 hs1).mono fun e W' ⟨he, hB⟩ => ?_
  subst he
  exact ⟨_, rfl, ⟨_, _, _, [], _, [], hW', trodAll_cons_mk (shut_bool Try.underlying4 _) trodAll_mk0, (trodAll_cons_mk (Below.trod Try.laidOut (by kernel_rfl) (of_decide_eq_true (by kernel_rfl)) k0 hB (fun x hx => by simpa using hW'.lt x (by simp [hx]))) (trodAll_cons_mk (Below.trod Try.laidOut (by kernel_rfl) (of_decide_eq_true (by kernel_rfl)) k1 hB (fun x hx => by simpa using hW'.lt x (by simp [hx]))) trodAll_mk0)), rfl, hB.frame _, fun h => by cases h⟩⟩

theorem holds : Rows.CommandDeltaSaid :=
  OpenClaim.holds_of_wide 3 Try.f3 rfl rfl rfl rfl rfl rfl rfl ⟨rfl, rfl, rfl, rfl, rfl⟩ rfl rfl rfl rfl rfl (by kernel_rfl) Try.func3 (by kernel_rfl)
    (of_decide_eq_true (by kernel_rfl)) (by unfold Func.isWrapper; first | (rw [if_pos (by decide +kernel)]; kernel_rfl) | (rw [if_neg (by decide +kernel)]; exact ⟨rfl, rfl⟩))
    (fun os started H enc _ => lifted os started H enc)
end Go.Proofs.Ytdfacpppmfoiiaa.CommandDelta

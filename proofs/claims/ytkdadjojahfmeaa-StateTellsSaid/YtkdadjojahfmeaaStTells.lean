/- Whether any state is legal, its number, any number's state, or its error, and how many sensors are sound, are the document's (StateTells); no condition. -/
import Derived.Test.YtkdadjojahfmeaaStateLaw
import Derived.Test.YtkdadjojahfmeaaStateUnp
import Derived.Deep.RegionHeld3
import Derived.WalkLawsBesides
import Derived.WalkSpells
import Derived.IntWalk
import Derived.Lib.Hide
import Derived.Test.YtkdadjojahfmeaaBox
import Derived.ProofKit
import Derived.OpenShut
import Derived.ChangeMaps5
import Derived.Test.YtkdadjojahfmeaaInts
namespace Go.Proofs.Ytkdadjojahfmeaa.StateTells
open Go.ChangeShapes Go.WideShapes Go.ChangeAt Go.RowKit Go.ChangeMaps
set_option linter.unusedVariables false
set_option linter.unusedSimpArgs false

set_option maxRecDepth 100000 in
set_option maxHeartbeats 8000000 in
theorem walk (s : St) (n : BitVec 64) (W : World) (hs : s.ok) :
    Calls Try.prog 3 #[.agg #[.int .i64 s.mode, .bool s.armed, .bool s.home, .int .i64 s.lat, .int .i64 s.lon, .int .i64 s.iso], .int .u64 (n.toNat : Int)] W fun e W' => e = .returned (.bool true) ∧ Below W.heap.size W W' := by
  have TU := fun (V : World) => own14Unpack n.toNat V n.isLt
  have TX := fun (V : World) => ref14Unpack n.toNat V n.isLt
  generalize (unpR n.toNat).mode = u1 at *
  generalize (unpR n.toNat).armed = u2 at *
  generalize (unpR n.toNat).home = u3 at *
  generalize (unpR n.toNat).lat = u4 at *
  generalize (unpR n.toNat).lon = u5 at *
  generalize (unpR n.toNat).iso = u6 at *
  generalize unpE n.toNat = E at *
  have TL := Lib.hid (fun (V : World) => own14Legal s V hs)
  have RL := Lib.hid (fun (V : World) => ref14Legal s V)
  have TP := Lib.hid (fun (V : World) => own14Pack s V hs)
  have RP := Lib.hid (fun (V : World) => ref14Pack s V)
  have TS := Lib.hid (fun (V : World) => own14Sound s V hs)
  have RS := Lib.hid (fun (V : World) => ref14Sound s V)
  generalize legalB s = L at *
  generalize packN s = P at *
  generalize soundN s.iso = N at *
  replace TU := Lib.hid TU
  replace TX := Lib.hid TX
  have hB : Below W.heap.size W ((W.alloc (.cells #[.int .i64 s.mode, .bool s.armed, .bool s.home, .int .i64 s.lat, .int .i64 s.lon, .int .i64 s.iso] 23)).alloc (.cells #[.int .i64 s.mode, .bool s.armed, .bool s.home, .int .i64 s.lat, .int .i64 s.lon, .int .i64 s.iso] 25)) := (((Below.refl _ _).alloc (Nat.le_refl _) _).alloc (by simp) _)
  have xs := ((Box.new 23 W [.int .i64 s.mode, .bool s.armed, .bool s.home, .int .i64 s.lat, .int .i64 s.lon, .int .i64 s.iso]).alloc (.cells #[.int .i64 s.mode, .bool s.armed, .bool s.home, .int .i64 s.lat, .int .i64 s.lon, .int .i64 s.iso] 25))
  have xx : Box 25 ((W.alloc (.cells #[.int .i64 s.mode, .bool s.armed, .bool s.home, .int .i64 s.lat, .int .i64 s.lon, .int .i64 s.iso] 23)).alloc (.cells #[.int .i64 s.mode, .bool s.armed, .bool s.home, .int .i64 s.lat, .int .i64 s.lon, .int .i64 s.iso] 25)) (W.heap.size + 1) [.int .i64 s.mode, .bool s.armed, .bool s.home, .int .i64 s.lat, .int .i64 s.lon, .int .i64 s.iso] := by have h := (Box.new 25 (W.alloc (.cells #[.int .i64 s.mode, .bool s.armed, .bool s.home, .int .i64 s.lat, .int .i64 s.lon, .int .i64 s.iso] 23)) [.int .i64 s.mode, .bool s.armed, .bool s.home, .int .i64 s.lat, .int .i64 s.lon, .int .i64 s.iso]); rwa [World.size_alloc] at h
  have le_xx : W.heap.size ≤ W.heap.size + 1 := by omega
  go_enter Try.func3, Try.ntmps3
  obtain ⟨xs0, xsz0, xs1, xsz1, xs2, xsz2, xs3, xsz3, xs4, xsz4, xs5, xsz5⟩ := xs.f6
  obtain ⟨xx0, xxz0, xx1, xxz1, xx2, xxz2, xx3, xxz3, xx4, xxz4, xx5, xxz5⟩ := xx.f6
  go_wp2_with fail
  refine (TU.out _).mono ?_
  rintro e V1 ⟨rfl, hk⟩
  clear xs0 xsz0 xs1 xsz1 xs2 xsz2 xs3 xsz3 xs4 xsz4 xs5 xsz5 xx0 xxz0 xx1 xxz1 xx2 xxz2 xx3 xxz3 xx4 xxz4 xx5 xxz5
  replace hB := below_seq hB hk
  replace xs := xs.seq hk
  replace xx := xx.seq hk
  clear hk
  have xt := Box.new 23 V1 [.int .i64 u1, .bool u2, .bool u3, .int .i64 u4, .int .i64 u5, .int .i64 u6]
  have ne_xt_xs : V1.heap.size ≠ W.heap.size := Nat.ne_of_gt xs.lt
  have ne_xt_xx : V1.heap.size ≠ W.heap.size + 1 := Nat.ne_of_gt xx.lt
  have le_xt : W.heap.size ≤ V1.heap.size := hB.size
  replace xs := xs.alloc (.cells #[.int .i64 u1, .bool u2, .bool u3, .int .i64 u4, .int .i64 u5, .int .i64 u6] 23)
  replace xx := xx.alloc (.cells #[.int .i64 u1, .bool u2, .bool u3, .int .i64 u4, .int .i64 u5, .int .i64 u6] 23)
  replace hB := hB.alloc hB.size (.cells #[.int .i64 u1, .bool u2, .bool u3, .int .i64 u4, .int .i64 u5, .int .i64 u6] 23)
  obtain ⟨xs0, xsz0, xs1, xsz1, xs2, xsz2, xs3, xsz3, xs4, xsz4, xs5, xsz5⟩ := xs.f6
  obtain ⟨xx0, xxz0, xx1, xxz1, xx2, xxz2, xx3, xxz3, xx4, xxz4, xx5, xxz5⟩ := xx.f6
  obtain ⟨xt0, xtz0, xt1, xtz1, xt2, xtz2, xt3, xtz3, xt4, xtz4, xt5, xtz5⟩ := xt.f6
  go_wp2_with fail
  refine (TX.out _).mono ?_
  rintro e V2 ⟨rfl, hk⟩
  clear xs0 xsz0 xs1 xsz1 xs2 xsz2 xs3 xsz3 xs4 xsz4 xs5 xsz5 xx0 xxz0 xx1 xxz1 xx2 xxz2 xx3 xxz3 xx4 xxz4 xx5 xxz5 xt0 xtz0 xt1 xtz1 xt2 xtz2 xt3 xtz3 xt4 xtz4 xt5 xtz5
  replace hB := below_seq hB hk
  replace xs := xs.seq hk
  replace xx := xx.seq hk
  replace xt := xt.seq hk
  clear hk
  have xu := Box.new 25 V2 [.int .i64 u1, .bool u2, .bool u3, .int .i64 u4, .int .i64 u5, .int .i64 u6]
  have ne_xu_xs : V2.heap.size ≠ W.heap.size := Nat.ne_of_gt xs.lt
  have ne_xu_xx : V2.heap.size ≠ W.heap.size + 1 := Nat.ne_of_gt xx.lt
  have ne_xu_xt : V2.heap.size ≠ V1.heap.size := Nat.ne_of_gt xt.lt
  have le_xu : W.heap.size ≤ V2.heap.size := hB.size
  replace xs := xs.alloc (.cells #[.int .i64 u1, .bool u2, .bool u3, .int .i64 u4, .int .i64 u5, .int .i64 u6] 25)
  replace xx := xx.alloc (.cells #[.int .i64 u1, .bool u2, .bool u3, .int .i64 u4, .int .i64 u5, .int .i64 u6] 25)
  replace xt := xt.alloc (.cells #[.int .i64 u1, .bool u2, .bool u3, .int .i64 u4, .int .i64 u5, .int .i64 u6] 25)
  replace hB := hB.alloc hB.size (.cells #[.int .i64 u1, .bool u2, .bool u3, .int .i64 u4, .int .i64 u5, .int .i64 u6] 25)
  obtain ⟨xs0, xsz0, xs1, xsz1, xs2, xsz2, xs3, xsz3, xs4, xsz4, xs5, xsz5⟩ := xs.f6
  obtain ⟨xx0, xxz0, xx1, xxz1, xx2, xxz2, xx3, xxz3, xx4, xxz4, xx5, xxz5⟩ := xx.f6
  obtain ⟨xt0, xtz0, xt1, xtz1, xt2, xtz2, xt3, xtz3, xt4, xtz4, xt5, xtz5⟩ := xt.f6
  obtain ⟨xu0, xuz0, xu1, xuz1, xu2, xuz2, xu3, xuz3, xu4, xuz4, xu5, xuz5⟩ := xu.f6
  go_wp2_with fail
  generalize (V2.alloc (.cells #[.int .i64 u1, .bool u2, .bool u3, .int .i64 u4, .int .i64 u5, .int .i64 u6] 25)) = V3 at *
  clear xs0 xsz0 xs1 xsz1 xs2 xsz2 xs3 xsz3 xs4 xsz4 xs5 xsz5 xx0 xxz0 xx1 xxz1 xx2 xxz2 xx3 xxz3 xx4 xxz4 xx5 xxz5 xt0 xtz0 xt1 xtz1 xt2 xtz2 xt3 xtz3 xt4 xtz4 xt5 xtz5 xu0 xuz0 xu1 xuz1 xu2 xuz2 xu3 xuz3 xu4 xuz4 xu5 xuz5
  replace hB := hB.drew
  replace xs := xs.drew
  replace xx := xx.drew
  replace xt := xt.drew
  replace xu := xu.drew
  refine wp_region_held_drew (S := fun w' => w'.cell? ⟨W.heap.size, 0, none⟩ = some (.int .i64 s.mode) ∧ w'.cell? ⟨W.heap.size, 1, none⟩ = some (.bool s.armed) ∧ w'.cell? ⟨W.heap.size, 2, none⟩ = some (.bool s.home) ∧ w'.cell? ⟨W.heap.size, 3, none⟩ = some (.int .i64 s.lat) ∧ w'.cell? ⟨W.heap.size, 4, none⟩ = some (.int .i64 s.lon) ∧ w'.cell? ⟨W.heap.size, 5, none⟩ = some (.int .i64 s.iso) ∧ w'.cell? ⟨W.heap.size + 1, 0, none⟩ = some (.int .i64 s.mode) ∧ w'.cell? ⟨W.heap.size + 1, 1, none⟩ = some (.bool s.armed) ∧ w'.cell? ⟨W.heap.size + 1, 2, none⟩ = some (.bool s.home) ∧ w'.cell? ⟨W.heap.size + 1, 3, none⟩ = some (.int .i64 s.lat) ∧ w'.cell? ⟨W.heap.size + 1, 4, none⟩ = some (.int .i64 s.lon) ∧ w'.cell? ⟨W.heap.size + 1, 5, none⟩ = some (.int .i64 s.iso) ∧ w'.cell? ⟨V1.heap.size, 0, none⟩ = some (.int .i64 u1) ∧ w'.cell? ⟨V1.heap.size, 1, none⟩ = some (.bool u2) ∧ w'.cell? ⟨V1.heap.size, 2, none⟩ = some (.bool u3) ∧ w'.cell? ⟨V1.heap.size, 3, none⟩ = some (.int .i64 u4) ∧ w'.cell? ⟨V1.heap.size, 4, none⟩ = some (.int .i64 u5) ∧ w'.cell? ⟨V1.heap.size, 5, none⟩ = some (.int .i64 u6) ∧ w'.cell? ⟨V2.heap.size, 0, none⟩ = some (.int .i64 u1) ∧ w'.cell? ⟨V2.heap.size, 1, none⟩ = some (.bool u2) ∧ w'.cell? ⟨V2.heap.size, 2, none⟩ = some (.bool u3) ∧ w'.cell? ⟨V2.heap.size, 3, none⟩ = some (.int .i64 u4) ∧ w'.cell? ⟨V2.heap.size, 4, none⟩ = some (.int .i64 u5) ∧ w'.cell? ⟨V2.heap.size, 5, none⟩ = some (.int .i64 u6)) (by kernel_rfl) ?_ (fun hHeld => ?_)
  · exact ⟨xs.cell 0 rfl, xs.cell 1 rfl, xs.cell 2 rfl, xs.cell 3 rfl, xs.cell 4 rfl, xs.cell 5 rfl, xx.cell 0 rfl, xx.cell 1 rfl, xx.cell 2 rfl, xx.cell 3 rfl, xx.cell 4 rfl, xx.cell 5 rfl, xt.cell 0 rfl, xt.cell 1 rfl, xt.cell 2 rfl, xt.cell 3 rfl, xt.cell 4 rfl, xt.cell 5 rfl, xu.cell 0 rfl, xu.cell 1 rfl, xu.cell 2 rfl, xu.cell 3 rfl, xu.cell 4 rfl, xu.cell 5 rfl⟩
  generalize V3.drew = V4 at *
  refine tk 0 (v := ?_) rfl (Or.inl ⟨by rfl, ?_⟩) ?_; rotate_left
  · intro w hSw; (try dsimp only at hSw); go_simp; try with_reducible rfl
  try simp only [Act.put, l1, l2, l3, l4, l5, l6]
  refine tk 2 (v := ?_) rfl (Or.inl ⟨by rfl, ?_⟩) ?_; rotate_left
  · intro w hSw; (try dsimp only at hSw); go_simp; try with_reducible rfl
  try simp only [Act.put, l1, l2, l3, l4, l5, l6]
  refine wpAnyH_ready (rs := [1]) (by kernel_rfl) (by simp) ?_
  refine AllReadyH.cons rfl (fun K hK => ?_) AllReadyH.nil
  obtain ⟨xs0, xsz0, xs1, xsz1, xs2, xsz2, xs3, xsz3, xs4, xsz4, xs5, xsz5⟩ := xs.f6
  obtain ⟨xx0, xxz0, xx1, xxz1, xx2, xxz2, xx3, xxz3, xx4, xxz4, xx5, xxz5⟩ := xx.f6
  obtain ⟨xt0, xtz0, xt1, xtz1, xt2, xtz2, xt3, xtz3, xt4, xtz4, xt5, xtz5⟩ := xt.f6
  obtain ⟨xu0, xuz0, xu1, xuz1, xu2, xuz2, xu3, xuz3, xu4, xuz4, xu5, xuz5⟩ := xu.f6
  go_simp
  refine (TL.out _).mono ?_
  rintro e V5 ⟨rfl, hk⟩
  clear xs0 xsz0 xs1 xsz1 xs2 xsz2 xs3 xsz3 xs4 xsz4 xs5 xsz5 xx0 xxz0 xx1 xxz1 xx2 xxz2 xx3 xxz3 xx4 xxz4 xx5 xxz5 xt0 xtz0 xt1 xtz1 xt2 xtz2 xt3 xtz3 xt4 xtz4 xt5 xtz5 xu0 xuz0 xu1 xuz1 xu2 xuz2 xu3 xuz3 xu4 xuz4 xu5 xuz5
  replace hB := below_seq hB hk
  replace xs := xs.seq hk
  replace xx := xx.seq hk
  replace xt := xt.seq hk
  replace xu := xu.seq hk
  clear hk
  obtain ⟨xs0, xsz0, xs1, xsz1, xs2, xsz2, xs3, xsz3, xs4, xsz4, xs5, xsz5⟩ := xs.f6
  obtain ⟨xx0, xxz0, xx1, xxz1, xx2, xxz2, xx3, xxz3, xx4, xxz4, xx5, xxz5⟩ := xx.f6
  obtain ⟨xt0, xtz0, xt1, xtz1, xt2, xtz2, xt3, xtz3, xt4, xtz4, xt5, xtz5⟩ := xt.f6
  obtain ⟨xu0, xuz0, xu1, xuz1, xu2, xuz2, xu3, xuz3, xu4, xuz4, xu5, xuz5⟩ := xu.f6
  try go_wp2_with fail
  clear xs0 xsz0 xs1 xsz1 xs2 xsz2 xs3 xsz3 xs4 xsz4 xs5 xsz5 xx0 xxz0 xx1 xxz1 xx2 xxz2 xx3 xxz3 xx4 xxz4 xx5 xxz5 xt0 xtz0 xt1 xtz1 xt2 xtz2 xt3 xtz3 xt4 xtz4 xt5 xtz5 xu0 xuz0 xu1 xuz1 xu2 xuz2 xu3 xuz3 xu4 xuz4 xu5 xuz5
  clear hHeld
  refine hK.out _ _ ?_ (fun hHeld => ?_)
  · exact ⟨xs.cell 0 rfl, xs.cell 1 rfl, xs.cell 2 rfl, xs.cell 3 rfl, xs.cell 4 rfl, xs.cell 5 rfl, xx.cell 0 rfl, xx.cell 1 rfl, xx.cell 2 rfl, xx.cell 3 rfl, xx.cell 4 rfl, xx.cell 5 rfl, xt.cell 0 rfl, xt.cell 1 rfl, xt.cell 2 rfl, xt.cell 3 rfl, xt.cell 4 rfl, xt.cell 5 rfl, xu.cell 0 rfl, xu.cell 1 rfl, xu.cell 2 rfl, xu.cell 3 rfl, xu.cell 4 rfl, xu.cell 5 rfl⟩
  clear hK K
  try simp only [Act.put, l1, l2, l3, l4, l5, l6]
  refine wpAnyH_ready (rs := [3]) (by kernel_rfl) (by simp) ?_
  refine AllReadyH.cons rfl (fun K hK => ?_) AllReadyH.nil
  obtain ⟨xs0, xsz0, xs1, xsz1, xs2, xsz2, xs3, xsz3, xs4, xsz4, xs5, xsz5⟩ := xs.f6
  obtain ⟨xx0, xxz0, xx1, xxz1, xx2, xxz2, xx3, xxz3, xx4, xxz4, xx5, xxz5⟩ := xx.f6
  obtain ⟨xt0, xtz0, xt1, xtz1, xt2, xtz2, xt3, xtz3, xt4, xtz4, xt5, xtz5⟩ := xt.f6
  obtain ⟨xu0, xuz0, xu1, xuz1, xu2, xuz2, xu3, xuz3, xu4, xuz4, xu5, xuz5⟩ := xu.f6
  go_simp
  refine (RL.out _).mono ?_
  rintro e V6 ⟨rfl, hk⟩
  clear xs0 xsz0 xs1 xsz1 xs2 xsz2 xs3 xsz3 xs4 xsz4 xs5 xsz5 xx0 xxz0 xx1 xxz1 xx2 xxz2 xx3 xxz3 xx4 xxz4 xx5 xxz5 xt0 xtz0 xt1 xtz1 xt2 xtz2 xt3 xtz3 xt4 xtz4 xt5 xtz5 xu0 xuz0 xu1 xuz1 xu2 xuz2 xu3 xuz3 xu4 xuz4 xu5 xuz5
  replace hB := below_seq hB hk
  replace xs := xs.seq hk
  replace xx := xx.seq hk
  replace xt := xt.seq hk
  replace xu := xu.seq hk
  clear hk
  obtain ⟨xs0, xsz0, xs1, xsz1, xs2, xsz2, xs3, xsz3, xs4, xsz4, xs5, xsz5⟩ := xs.f6
  obtain ⟨xx0, xxz0, xx1, xxz1, xx2, xxz2, xx3, xxz3, xx4, xxz4, xx5, xxz5⟩ := xx.f6
  obtain ⟨xt0, xtz0, xt1, xtz1, xt2, xtz2, xt3, xtz3, xt4, xtz4, xt5, xtz5⟩ := xt.f6
  obtain ⟨xu0, xuz0, xu1, xuz1, xu2, xuz2, xu3, xuz3, xu4, xuz4, xu5, xuz5⟩ := xu.f6
  try go_wp2_with fail
  clear xs0 xsz0 xs1 xsz1 xs2 xsz2 xs3 xsz3 xs4 xsz4 xs5 xsz5 xx0 xxz0 xx1 xxz1 xx2 xxz2 xx3 xxz3 xx4 xxz4 xx5 xxz5 xt0 xtz0 xt1 xtz1 xt2 xtz2 xt3 xtz3 xt4 xtz4 xt5 xtz5 xu0 xuz0 xu1 xuz1 xu2 xuz2 xu3 xuz3 xu4 xuz4 xu5 xuz5
  clear hHeld
  refine hK.out _ _ ?_ (fun hHeld => ?_)
  · exact ⟨xs.cell 0 rfl, xs.cell 1 rfl, xs.cell 2 rfl, xs.cell 3 rfl, xs.cell 4 rfl, xs.cell 5 rfl, xx.cell 0 rfl, xx.cell 1 rfl, xx.cell 2 rfl, xx.cell 3 rfl, xx.cell 4 rfl, xx.cell 5 rfl, xt.cell 0 rfl, xt.cell 1 rfl, xt.cell 2 rfl, xt.cell 3 rfl, xt.cell 4 rfl, xt.cell 5 rfl, xu.cell 0 rfl, xu.cell 1 rfl, xu.cell 2 rfl, xu.cell 3 rfl, xu.cell 4 rfl, xu.cell 5 rfl⟩
  clear hK K
  try simp only [Act.put, l1, l2, l3, l4, l5, l6]
  refine tk 4 (v := ?_) rfl (Or.inl ⟨by rfl, ?_⟩) ?_; rotate_left
  · intro w hSw; (try dsimp only at hSw); go_simp; try with_reducible rfl
  try simp only [Act.put, l1, l2, l3, l4, l5, l6]
  refine tk 5 (v := ?_) rfl (Or.inl ⟨by rfl, ?_⟩) ?_; rotate_left
  · intro w hSw; (try dsimp only at hSw); go_simp; try with_reducible rfl
  try simp only [Act.put, l1, l2, l3, l4, l5, l6]
  refine tk 6 (v := ?_) rfl (Or.inl ⟨by rfl, ?_⟩) ?_; rotate_left
  · intro w hSw; (try dsimp only at hSw); go_simp; try with_reducible rfl
  try simp only [Act.put, l1, l2, l3, l4, l5, l6]
  refine tk 8 (v := ?_) rfl (Or.inl ⟨by rfl, ?_⟩) ?_; rotate_left
  · intro w hSw; (try dsimp only at hSw); go_simp; try with_reducible rfl
  try simp only [Act.put, l1, l2, l3, l4, l5, l6]
  refine wpAnyH_ready (rs := [7]) (by kernel_rfl) (by simp) ?_
  refine AllReadyH.cons rfl (fun K hK => ?_) AllReadyH.nil
  obtain ⟨xs0, xsz0, xs1, xsz1, xs2, xsz2, xs3, xsz3, xs4, xsz4, xs5, xsz5⟩ := xs.f6
  obtain ⟨xx0, xxz0, xx1, xxz1, xx2, xxz2, xx3, xxz3, xx4, xxz4, xx5, xxz5⟩ := xx.f6
  obtain ⟨xt0, xtz0, xt1, xtz1, xt2, xtz2, xt3, xtz3, xt4, xtz4, xt5, xtz5⟩ := xt.f6
  obtain ⟨xu0, xuz0, xu1, xuz1, xu2, xuz2, xu3, xuz3, xu4, xuz4, xu5, xuz5⟩ := xu.f6
  go_simp
  refine (TP.out _).mono ?_
  rintro e V7 ⟨rfl, hk⟩
  clear xs0 xsz0 xs1 xsz1 xs2 xsz2 xs3 xsz3 xs4 xsz4 xs5 xsz5 xx0 xxz0 xx1 xxz1 xx2 xxz2 xx3 xxz3 xx4 xxz4 xx5 xxz5 xt0 xtz0 xt1 xtz1 xt2 xtz2 xt3 xtz3 xt4 xtz4 xt5 xtz5 xu0 xuz0 xu1 xuz1 xu2 xuz2 xu3 xuz3 xu4 xuz4 xu5 xuz5
  replace hB := below_seq hB hk
  replace xs := xs.seq hk
  replace xx := xx.seq hk
  replace xt := xt.seq hk
  replace xu := xu.seq hk
  clear hk
  obtain ⟨xs0, xsz0, xs1, xsz1, xs2, xsz2, xs3, xsz3, xs4, xsz4, xs5, xsz5⟩ := xs.f6
  obtain ⟨xx0, xxz0, xx1, xxz1, xx2, xxz2, xx3, xxz3, xx4, xxz4, xx5, xxz5⟩ := xx.f6
  obtain ⟨xt0, xtz0, xt1, xtz1, xt2, xtz2, xt3, xtz3, xt4, xtz4, xt5, xtz5⟩ := xt.f6
  obtain ⟨xu0, xuz0, xu1, xuz1, xu2, xuz2, xu3, xuz3, xu4, xuz4, xu5, xuz5⟩ := xu.f6
  try go_wp2_with fail
  clear xs0 xsz0 xs1 xsz1 xs2 xsz2 xs3 xsz3 xs4 xsz4 xs5 xsz5 xx0 xxz0 xx1 xxz1 xx2 xxz2 xx3 xxz3 xx4 xxz4 xx5 xxz5 xt0 xtz0 xt1 xtz1 xt2 xtz2 xt3 xtz3 xt4 xtz4 xt5 xtz5 xu0 xuz0 xu1 xuz1 xu2 xuz2 xu3 xuz3 xu4 xuz4 xu5 xuz5
  clear hHeld
  refine hK.out _ _ ?_ (fun hHeld => ?_)
  · exact ⟨xs.cell 0 rfl, xs.cell 1 rfl, xs.cell 2 rfl, xs.cell 3 rfl, xs.cell 4 rfl, xs.cell 5 rfl, xx.cell 0 rfl, xx.cell 1 rfl, xx.cell 2 rfl, xx.cell 3 rfl, xx.cell 4 rfl, xx.cell 5 rfl, xt.cell 0 rfl, xt.cell 1 rfl, xt.cell 2 rfl, xt.cell 3 rfl, xt.cell 4 rfl, xt.cell 5 rfl, xu.cell 0 rfl, xu.cell 1 rfl, xu.cell 2 rfl, xu.cell 3 rfl, xu.cell 4 rfl, xu.cell 5 rfl⟩
  clear hK K
  try simp only [Act.put, l1, l2, l3, l4, l5, l6]
  refine wpAnyH_ready (rs := [9]) (by kernel_rfl) (by simp) ?_
  refine AllReadyH.cons rfl (fun K hK => ?_) AllReadyH.nil
  obtain ⟨xs0, xsz0, xs1, xsz1, xs2, xsz2, xs3, xsz3, xs4, xsz4, xs5, xsz5⟩ := xs.f6
  obtain ⟨xx0, xxz0, xx1, xxz1, xx2, xxz2, xx3, xxz3, xx4, xxz4, xx5, xxz5⟩ := xx.f6
  obtain ⟨xt0, xtz0, xt1, xtz1, xt2, xtz2, xt3, xtz3, xt4, xtz4, xt5, xtz5⟩ := xt.f6
  obtain ⟨xu0, xuz0, xu1, xuz1, xu2, xuz2, xu3, xuz3, xu4, xuz4, xu5, xuz5⟩ := xu.f6
  go_simp
  refine (RP.out _).mono ?_
  rintro e V8 ⟨rfl, hk⟩
  clear xs0 xsz0 xs1 xsz1 xs2 xsz2 xs3 xsz3 xs4 xsz4 xs5 xsz5 xx0 xxz0 xx1 xxz1 xx2 xxz2 xx3 xxz3 xx4 xxz4 xx5 xxz5 xt0 xtz0 xt1 xtz1 xt2 xtz2 xt3 xtz3 xt4 xtz4 xt5 xtz5 xu0 xuz0 xu1 xuz1 xu2 xuz2 xu3 xuz3 xu4 xuz4 xu5 xuz5
  replace hB := below_seq hB hk
  replace xs := xs.seq hk
  replace xx := xx.seq hk
  replace xt := xt.seq hk
  replace xu := xu.seq hk
  clear hk
  obtain ⟨xs0, xsz0, xs1, xsz1, xs2, xsz2, xs3, xsz3, xs4, xsz4, xs5, xsz5⟩ := xs.f6
  obtain ⟨xx0, xxz0, xx1, xxz1, xx2, xxz2, xx3, xxz3, xx4, xxz4, xx5, xxz5⟩ := xx.f6
  obtain ⟨xt0, xtz0, xt1, xtz1, xt2, xtz2, xt3, xtz3, xt4, xtz4, xt5, xtz5⟩ := xt.f6
  obtain ⟨xu0, xuz0, xu1, xuz1, xu2, xuz2, xu3, xuz3, xu4, xuz4, xu5, xuz5⟩ := xu.f6
  try go_wp2_with fail
  clear xs0 xsz0 xs1 xsz1 xs2 xsz2 xs3 xsz3 xs4 xsz4 xs5 xsz5 xx0 xxz0 xx1 xxz1 xx2 xxz2 xx3 xxz3 xx4 xxz4 xx5 xxz5 xt0 xtz0 xt1 xtz1 xt2 xtz2 xt3 xtz3 xt4 xtz4 xt5 xtz5 xu0 xuz0 xu1 xuz1 xu2 xuz2 xu3 xuz3 xu4 xuz4 xu5 xuz5
  clear hHeld
  refine hK.out _ _ ?_ (fun hHeld => ?_)
  · exact ⟨xs.cell 0 rfl, xs.cell 1 rfl, xs.cell 2 rfl, xs.cell 3 rfl, xs.cell 4 rfl, xs.cell 5 rfl, xx.cell 0 rfl, xx.cell 1 rfl, xx.cell 2 rfl, xx.cell 3 rfl, xx.cell 4 rfl, xx.cell 5 rfl, xt.cell 0 rfl, xt.cell 1 rfl, xt.cell 2 rfl, xt.cell 3 rfl, xt.cell 4 rfl, xt.cell 5 rfl, xu.cell 0 rfl, xu.cell 1 rfl, xu.cell 2 rfl, xu.cell 3 rfl, xu.cell 4 rfl, xu.cell 5 rfl⟩
  clear hK K
  try simp only [Act.put, l1, l2, l3, l4, l5, l6]
  refine tk 10 (v := ?_) rfl (Or.inl ⟨by rfl, ?_⟩) ?_; rotate_left
  · intro w hSw; (try dsimp only at hSw); go_simp; try with_reducible rfl
  try simp only [Act.put, l1, l2, l3, l4, l5, l6]
  refine tk 11 (v := ?_) rfl (Or.inl ⟨by rfl, ?_⟩) ?_; rotate_left
  · intro w hSw; (try dsimp only at hSw); go_simp; try with_reducible rfl
  try simp only [Act.put, l1, l2, l3, l4, l5, l6]
  refine tk 12 (v := ?_) rfl (Or.inl ⟨by rfl, ?_⟩) ?_; rotate_left
  · intro w hSw; (try dsimp only at hSw); go_simp; try with_reducible rfl
  try simp only [Act.put, l1, l2, l3, l4, l5, l6]
  refine tk 13 (v := ?_) rfl (Or.inl ⟨by rfl, ?_⟩) ?_; rotate_left
  · intro w hSw; (try dsimp only at hSw); go_simp; try with_reducible rfl
  try simp only [Act.put, l1, l2, l3, l4, l5, l6]
  refine tk 14 (v := ?_) rfl (Or.inl ⟨by rfl, ?_⟩) ?_; rotate_left
  · intro w hSw; (try dsimp only at hSw); go_simp; try with_reducible rfl
  try simp only [Act.put, l1, l2, l3, l4, l5, l6]
  refine tk 15 (v := ?_) rfl (Or.inl ⟨by rfl, ?_⟩) ?_; rotate_left
  · intro w hSw; (try dsimp only at hSw); go_simp; try with_reducible rfl
  try simp only [Act.put, l1, l2, l3, l4, l5, l6]
  refine tk 16 (v := ?_) rfl (Or.inl ⟨by rfl, ?_⟩) ?_; rotate_left
  · intro w hSw; (try dsimp only at hSw); go_simp; try with_reducible rfl
  try simp only [Act.put, l1, l2, l3, l4, l5, l6]
  refine tk 17 (v := ?_) rfl (Or.inl ⟨by rfl, ?_⟩) ?_; rotate_left
  · intro w hSw; (try dsimp only at hSw); go_simp; try with_reducible rfl
  try simp only [Act.put, l1, l2, l3, l4, l5, l6]
  refine tk 18 (v := ?_) rfl (Or.inl ⟨by rfl, ?_⟩) ?_; rotate_left
  · intro w hSw; (try dsimp only at hSw); go_simp; try with_reducible rfl
  try simp only [Act.put, l1, l2, l3, l4, l5, l6]
  refine tk 19 (v := ?_) rfl (Or.inl ⟨by rfl, ?_⟩) ?_; rotate_left
  · intro w hSw; (try dsimp only at hSw); go_simp; try with_reducible rfl
  try simp only [Act.put, l1, l2, l3, l4, l5, l6]
  refine tk 20 (v := ?_) rfl (Or.inl ⟨by rfl, ?_⟩) ?_; rotate_left
  · intro w hSw; (try dsimp only at hSw); go_simp; try with_reducible rfl
  try simp only [Act.put, l1, l2, l3, l4, l5, l6]
  refine tk 21 (v := ?_) rfl (Or.inl ⟨by rfl, ?_⟩) ?_; rotate_left
  · intro w hSw; (try dsimp only at hSw); go_simp; try with_reducible rfl
  try simp only [Act.put, l1, l2, l3, l4, l5, l6]
  refine tk 22 (v := ?_) rfl (Or.inl ⟨by rfl, ?_⟩) ?_; rotate_left
  · intro w hSw; (try dsimp only at hSw); go_simp; try with_reducible rfl
  try simp only [Act.put, l1, l2, l3, l4, l5, l6]
  refine tk 23 (v := ?_) rfl (Or.inl ⟨by rfl, ?_⟩) ?_; rotate_left
  · intro w hSw; (try dsimp only at hSw); go_simp; try with_reducible rfl
  try simp only [Act.put, l1, l2, l3, l4, l5, l6]
  refine tk 25 (v := ?_) rfl (Or.inl ⟨by rfl, ?_⟩) ?_; rotate_left
  · intro w hSw; (try dsimp only at hSw); go_simp; try with_reducible rfl
  try simp only [Act.put, l1, l2, l3, l4, l5, l6]
  refine wpAnyH_ready (rs := [24]) (by kernel_rfl) (by simp) ?_
  refine AllReadyH.cons rfl (fun K hK => ?_) AllReadyH.nil
  obtain ⟨xs0, xsz0, xs1, xsz1, xs2, xsz2, xs3, xsz3, xs4, xsz4, xs5, xsz5⟩ := xs.f6
  obtain ⟨xx0, xxz0, xx1, xxz1, xx2, xxz2, xx3, xxz3, xx4, xxz4, xx5, xxz5⟩ := xx.f6
  obtain ⟨xt0, xtz0, xt1, xtz1, xt2, xtz2, xt3, xtz3, xt4, xtz4, xt5, xtz5⟩ := xt.f6
  obtain ⟨xu0, xuz0, xu1, xuz1, xu2, xuz2, xu3, xuz3, xu4, xuz4, xu5, xuz5⟩ := xu.f6
  go_simp
  refine (TS.out _).mono ?_
  rintro e V9 ⟨rfl, hk⟩
  clear xs0 xsz0 xs1 xsz1 xs2 xsz2 xs3 xsz3 xs4 xsz4 xs5 xsz5 xx0 xxz0 xx1 xxz1 xx2 xxz2 xx3 xxz3 xx4 xxz4 xx5 xxz5 xt0 xtz0 xt1 xtz1 xt2 xtz2 xt3 xtz3 xt4 xtz4 xt5 xtz5 xu0 xuz0 xu1 xuz1 xu2 xuz2 xu3 xuz3 xu4 xuz4 xu5 xuz5
  replace hB := below_seq hB hk
  replace xs := xs.seq hk
  replace xx := xx.seq hk
  replace xt := xt.seq hk
  replace xu := xu.seq hk
  clear hk
  obtain ⟨xs0, xsz0, xs1, xsz1, xs2, xsz2, xs3, xsz3, xs4, xsz4, xs5, xsz5⟩ := xs.f6
  obtain ⟨xx0, xxz0, xx1, xxz1, xx2, xxz2, xx3, xxz3, xx4, xxz4, xx5, xxz5⟩ := xx.f6
  obtain ⟨xt0, xtz0, xt1, xtz1, xt2, xtz2, xt3, xtz3, xt4, xtz4, xt5, xtz5⟩ := xt.f6
  obtain ⟨xu0, xuz0, xu1, xuz1, xu2, xuz2, xu3, xuz3, xu4, xuz4, xu5, xuz5⟩ := xu.f6
  try go_wp2_with fail
  clear xs0 xsz0 xs1 xsz1 xs2 xsz2 xs3 xsz3 xs4 xsz4 xs5 xsz5 xx0 xxz0 xx1 xxz1 xx2 xxz2 xx3 xxz3 xx4 xxz4 xx5 xxz5 xt0 xtz0 xt1 xtz1 xt2 xtz2 xt3 xtz3 xt4 xtz4 xt5 xtz5 xu0 xuz0 xu1 xuz1 xu2 xuz2 xu3 xuz3 xu4 xuz4 xu5 xuz5
  clear hHeld
  refine hK.out _ _ ?_ (fun hHeld => ?_)
  · exact ⟨xs.cell 0 rfl, xs.cell 1 rfl, xs.cell 2 rfl, xs.cell 3 rfl, xs.cell 4 rfl, xs.cell 5 rfl, xx.cell 0 rfl, xx.cell 1 rfl, xx.cell 2 rfl, xx.cell 3 rfl, xx.cell 4 rfl, xx.cell 5 rfl, xt.cell 0 rfl, xt.cell 1 rfl, xt.cell 2 rfl, xt.cell 3 rfl, xt.cell 4 rfl, xt.cell 5 rfl, xu.cell 0 rfl, xu.cell 1 rfl, xu.cell 2 rfl, xu.cell 3 rfl, xu.cell 4 rfl, xu.cell 5 rfl⟩
  clear hK K
  try simp only [Act.put, l1, l2, l3, l4, l5, l6]
  refine wpAnyH_ready (rs := [26]) (by kernel_rfl) (by simp) ?_
  refine AllReadyH.cons rfl (fun K hK => ?_) AllReadyH.nil
  obtain ⟨xs0, xsz0, xs1, xsz1, xs2, xsz2, xs3, xsz3, xs4, xsz4, xs5, xsz5⟩ := xs.f6
  obtain ⟨xx0, xxz0, xx1, xxz1, xx2, xxz2, xx3, xxz3, xx4, xxz4, xx5, xxz5⟩ := xx.f6
  obtain ⟨xt0, xtz0, xt1, xtz1, xt2, xtz2, xt3, xtz3, xt4, xtz4, xt5, xtz5⟩ := xt.f6
  obtain ⟨xu0, xuz0, xu1, xuz1, xu2, xuz2, xu3, xuz3, xu4, xuz4, xu5, xuz5⟩ := xu.f6
  go_simp
  refine (RS.out _).mono ?_
  rintro e V10 ⟨rfl, hk⟩
  clear xs0 xsz0 xs1 xsz1 xs2 xsz2 xs3 xsz3 xs4 xsz4 xs5 xsz5 xx0 xxz0 xx1 xxz1 xx2 xxz2 xx3 xxz3 xx4 xxz4 xx5 xxz5 xt0 xtz0 xt1 xtz1 xt2 xtz2 xt3 xtz3 xt4 xtz4 xt5 xtz5 xu0 xuz0 xu1 xuz1 xu2 xuz2 xu3 xuz3 xu4 xuz4 xu5 xuz5
  replace hB := below_seq hB hk
  replace xs := xs.seq hk
  replace xx := xx.seq hk
  replace xt := xt.seq hk
  replace xu := xu.seq hk
  clear hk
  obtain ⟨xs0, xsz0, xs1, xsz1, xs2, xsz2, xs3, xsz3, xs4, xsz4, xs5, xsz5⟩ := xs.f6
  obtain ⟨xx0, xxz0, xx1, xxz1, xx2, xxz2, xx3, xxz3, xx4, xxz4, xx5, xxz5⟩ := xx.f6
  obtain ⟨xt0, xtz0, xt1, xtz1, xt2, xtz2, xt3, xtz3, xt4, xtz4, xt5, xtz5⟩ := xt.f6
  obtain ⟨xu0, xuz0, xu1, xuz1, xu2, xuz2, xu3, xuz3, xu4, xuz4, xu5, xuz5⟩ := xu.f6
  try go_wp2_with fail
  clear xs0 xsz0 xs1 xsz1 xs2 xsz2 xs3 xsz3 xs4 xsz4 xs5 xsz5 xx0 xxz0 xx1 xxz1 xx2 xxz2 xx3 xxz3 xx4 xxz4 xx5 xxz5 xt0 xtz0 xt1 xtz1 xt2 xtz2 xt3 xtz3 xt4 xtz4 xt5 xtz5 xu0 xuz0 xu1 xuz1 xu2 xuz2 xu3 xuz3 xu4 xuz4 xu5 xuz5
  clear hHeld
  refine hK.out _ _ ?_ (fun hHeld => ?_)
  · exact ⟨xs.cell 0 rfl, xs.cell 1 rfl, xs.cell 2 rfl, xs.cell 3 rfl, xs.cell 4 rfl, xs.cell 5 rfl, xx.cell 0 rfl, xx.cell 1 rfl, xx.cell 2 rfl, xx.cell 3 rfl, xx.cell 4 rfl, xx.cell 5 rfl, xt.cell 0 rfl, xt.cell 1 rfl, xt.cell 2 rfl, xt.cell 3 rfl, xt.cell 4 rfl, xt.cell 5 rfl, xu.cell 0 rfl, xu.cell 1 rfl, xu.cell 2 rfl, xu.cell 3 rfl, xu.cell 4 rfl, xu.cell 5 rfl⟩
  clear hK K
  try simp only [Act.put, l1, l2, l3, l4, l5, l6]
  refine tk 27 (v := ?_) rfl (Or.inl ⟨by rfl, ?_⟩) ?_; rotate_left
  · intro w hSw; (try dsimp only at hSw); go_simp; try with_reducible rfl
  try simp only [Act.put, l1, l2, l3, l4, l5, l6]
  refine tk 28 (v := ?_) rfl (Or.inl ⟨by rfl, ?_⟩) ?_; rotate_left
  · intro w hSw; (try dsimp only at hSw); go_simp; try with_reducible rfl
  try simp only [Act.put, l1, l2, l3, l4, l5, l6]
  refine tk 29 (v := ?_) rfl (Or.inl ⟨by rfl, ?_⟩) ?_; rotate_left
  · intro w hSw; (try dsimp only at hSw); go_simp; try with_reducible rfl
  try simp only [Act.put, l1, l2, l3, l4, l5, l6]
  refine wpAnyH_ready (rs := [30]) (by kernel_rfl) (by simp) ?_
  refine AllReadyH.cons rfl (fun K hK => ?_) AllReadyH.nil
  obtain ⟨xs0, xsz0, xs1, xsz1, xs2, xsz2, xs3, xsz3, xs4, xsz4, xs5, xsz5⟩ := xs.f6
  obtain ⟨xx0, xxz0, xx1, xxz1, xx2, xxz2, xx3, xxz3, xx4, xxz4, xx5, xxz5⟩ := xx.f6
  obtain ⟨xt0, xtz0, xt1, xtz1, xt2, xtz2, xt3, xtz3, xt4, xtz4, xt5, xtz5⟩ := xt.f6
  obtain ⟨xu0, xuz0, xu1, xuz1, xu2, xuz2, xu3, xuz3, xu4, xuz4, xu5, xuz5⟩ := xu.f6
  go_simp
  refine (own14Default _).mono ?_
  rintro e V11 ⟨rfl, hk⟩
  clear xs0 xsz0 xs1 xsz1 xs2 xsz2 xs3 xsz3 xs4 xsz4 xs5 xsz5 xx0 xxz0 xx1 xxz1 xx2 xxz2 xx3 xxz3 xx4 xxz4 xx5 xxz5 xt0 xtz0 xt1 xtz1 xt2 xtz2 xt3 xtz3 xt4 xtz4 xt5 xtz5 xu0 xuz0 xu1 xuz1 xu2 xuz2 xu3 xuz3 xu4 xuz4 xu5 xuz5
  replace hB := below_seq hB hk
  replace xs := xs.seq hk
  replace xx := xx.seq hk
  replace xt := xt.seq hk
  replace xu := xu.seq hk
  clear hk
  obtain ⟨xs0, xsz0, xs1, xsz1, xs2, xsz2, xs3, xsz3, xs4, xsz4, xs5, xsz5⟩ := xs.f6
  obtain ⟨xx0, xxz0, xx1, xxz1, xx2, xxz2, xx3, xxz3, xx4, xxz4, xx5, xxz5⟩ := xx.f6
  obtain ⟨xt0, xtz0, xt1, xtz1, xt2, xtz2, xt3, xtz3, xt4, xtz4, xt5, xtz5⟩ := xt.f6
  obtain ⟨xu0, xuz0, xu1, xuz1, xu2, xuz2, xu3, xuz3, xu4, xuz4, xu5, xuz5⟩ := xu.f6
  try go_wp2_with fail
  clear xs0 xsz0 xs1 xsz1 xs2 xsz2 xs3 xsz3 xs4 xsz4 xs5 xsz5 xx0 xxz0 xx1 xxz1 xx2 xxz2 xx3 xxz3 xx4 xxz4 xx5 xxz5 xt0 xtz0 xt1 xtz1 xt2 xtz2 xt3 xtz3 xt4 xtz4 xt5 xtz5 xu0 xuz0 xu1 xuz1 xu2 xuz2 xu3 xuz3 xu4 xuz4 xu5 xuz5
  clear hHeld
  refine hK.out _ _ ?_ (fun hHeld => ?_)
  · exact ⟨xs.cell 0 rfl, xs.cell 1 rfl, xs.cell 2 rfl, xs.cell 3 rfl, xs.cell 4 rfl, xs.cell 5 rfl, xx.cell 0 rfl, xx.cell 1 rfl, xx.cell 2 rfl, xx.cell 3 rfl, xx.cell 4 rfl, xx.cell 5 rfl, xt.cell 0 rfl, xt.cell 1 rfl, xt.cell 2 rfl, xt.cell 3 rfl, xt.cell 4 rfl, xt.cell 5 rfl, xu.cell 0 rfl, xu.cell 1 rfl, xu.cell 2 rfl, xu.cell 3 rfl, xu.cell 4 rfl, xu.cell 5 rfl⟩
  clear hK K
  try simp only [Act.put, l1, l2, l3, l4, l5, l6]
  refine wpAnyH_ready (rs := [31]) (by kernel_rfl) (by simp) ?_
  refine AllReadyH.cons rfl (fun K hK => ?_) AllReadyH.nil
  obtain ⟨xs0, xsz0, xs1, xsz1, xs2, xsz2, xs3, xsz3, xs4, xsz4, xs5, xsz5⟩ := xs.f6
  obtain ⟨xx0, xxz0, xx1, xxz1, xx2, xxz2, xx3, xxz3, xx4, xxz4, xx5, xxz5⟩ := xx.f6
  obtain ⟨xt0, xtz0, xt1, xtz1, xt2, xtz2, xt3, xtz3, xt4, xtz4, xt5, xtz5⟩ := xt.f6
  obtain ⟨xu0, xuz0, xu1, xuz1, xu2, xuz2, xu3, xuz3, xu4, xuz4, xu5, xuz5⟩ := xu.f6
  go_simp
  refine (ref14Default _).mono ?_
  rintro e V12 ⟨rfl, hk⟩
  clear xs0 xsz0 xs1 xsz1 xs2 xsz2 xs3 xsz3 xs4 xsz4 xs5 xsz5 xx0 xxz0 xx1 xxz1 xx2 xxz2 xx3 xxz3 xx4 xxz4 xx5 xxz5 xt0 xtz0 xt1 xtz1 xt2 xtz2 xt3 xtz3 xt4 xtz4 xt5 xtz5 xu0 xuz0 xu1 xuz1 xu2 xuz2 xu3 xuz3 xu4 xuz4 xu5 xuz5
  replace hB := below_seq hB hk
  replace xs := xs.seq hk
  replace xx := xx.seq hk
  replace xt := xt.seq hk
  replace xu := xu.seq hk
  clear hk
  obtain ⟨xs0, xsz0, xs1, xsz1, xs2, xsz2, xs3, xsz3, xs4, xsz4, xs5, xsz5⟩ := xs.f6
  obtain ⟨xx0, xxz0, xx1, xxz1, xx2, xxz2, xx3, xxz3, xx4, xxz4, xx5, xxz5⟩ := xx.f6
  obtain ⟨xt0, xtz0, xt1, xtz1, xt2, xtz2, xt3, xtz3, xt4, xtz4, xt5, xtz5⟩ := xt.f6
  obtain ⟨xu0, xuz0, xu1, xuz1, xu2, xuz2, xu3, xuz3, xu4, xuz4, xu5, xuz5⟩ := xu.f6
  try go_wp2_with fail
  clear xs0 xsz0 xs1 xsz1 xs2 xsz2 xs3 xsz3 xs4 xsz4 xs5 xsz5 xx0 xxz0 xx1 xxz1 xx2 xxz2 xx3 xxz3 xx4 xxz4 xx5 xxz5 xt0 xtz0 xt1 xtz1 xt2 xtz2 xt3 xtz3 xt4 xtz4 xt5 xtz5 xu0 xuz0 xu1 xuz1 xu2 xuz2 xu3 xuz3 xu4 xuz4 xu5 xuz5
  clear hHeld
  refine hK.out _ _ ?_ (fun hHeld => ?_)
  · exact ⟨xs.cell 0 rfl, xs.cell 1 rfl, xs.cell 2 rfl, xs.cell 3 rfl, xs.cell 4 rfl, xs.cell 5 rfl, xx.cell 0 rfl, xx.cell 1 rfl, xx.cell 2 rfl, xx.cell 3 rfl, xx.cell 4 rfl, xx.cell 5 rfl, xt.cell 0 rfl, xt.cell 1 rfl, xt.cell 2 rfl, xt.cell 3 rfl, xt.cell 4 rfl, xt.cell 5 rfl, xu.cell 0 rfl, xu.cell 1 rfl, xu.cell 2 rfl, xu.cell 3 rfl, xu.cell 4 rfl, xu.cell 5 rfl⟩
  clear hK K
  try simp only [Act.put, l1, l2, l3, l4, l5, l6]
  refine tk 32 (v := ?_) rfl (Or.inl ⟨by rfl, ?_⟩) ?_; rotate_left
  · intro w hSw; (try dsimp only at hSw); go_simp; try with_reducible rfl
  try simp only [Act.put, l1, l2, l3, l4, l5, l6]
  refine tk 33 (v := ?_) rfl (Or.inl ⟨by rfl, ?_⟩) ?_; rotate_left
  · intro w hSw; (try dsimp only at hSw); go_simp; try with_reducible rfl
  try simp only [Act.put, l1, l2, l3, l4, l5, l6]
  refine tk 34 (v := ?_) rfl (Or.inl ⟨by rfl, ?_⟩) ?_; rotate_left
  · intro w hSw; (try dsimp only at hSw); go_simp; try with_reducible rfl
  try simp only [Act.put, l1, l2, l3, l4, l5, l6]
  refine wpAnyH_ready (rs := [35]) (by kernel_rfl) (by simp) ?_
  refine AllReadyH.cons rfl (fun K hK => ?_) AllReadyH.nil
  obtain ⟨xs0, xsz0, xs1, xsz1, xs2, xsz2, xs3, xsz3, xs4, xsz4, xs5, xsz5⟩ := xs.f6
  obtain ⟨xx0, xxz0, xx1, xxz1, xx2, xxz2, xx3, xxz3, xx4, xxz4, xx5, xxz5⟩ := xx.f6
  obtain ⟨xt0, xtz0, xt1, xtz1, xt2, xtz2, xt3, xtz3, xt4, xtz4, xt5, xtz5⟩ := xt.f6
  obtain ⟨xu0, xuz0, xu1, xuz1, xu2, xuz2, xu3, xuz3, xu4, xuz4, xu5, xuz5⟩ := xu.f6
  go_simp
  refine (shown14 _).mono ?_
  rintro e V13 ⟨rfl, hk⟩
  clear xs0 xsz0 xs1 xsz1 xs2 xsz2 xs3 xsz3 xs4 xsz4 xs5 xsz5 xx0 xxz0 xx1 xxz1 xx2 xxz2 xx3 xxz3 xx4 xxz4 xx5 xxz5 xt0 xtz0 xt1 xtz1 xt2 xtz2 xt3 xtz3 xt4 xtz4 xt5 xtz5 xu0 xuz0 xu1 xuz1 xu2 xuz2 xu3 xuz3 xu4 xuz4 xu5 xuz5
  replace hB := below_seq hB hk
  replace xs := xs.seq hk
  replace xx := xx.seq hk
  replace xt := xt.seq hk
  replace xu := xu.seq hk
  clear hk
  obtain ⟨xs0, xsz0, xs1, xsz1, xs2, xsz2, xs3, xsz3, xs4, xsz4, xs5, xsz5⟩ := xs.f6
  obtain ⟨xx0, xxz0, xx1, xxz1, xx2, xxz2, xx3, xxz3, xx4, xxz4, xx5, xxz5⟩ := xx.f6
  obtain ⟨xt0, xtz0, xt1, xtz1, xt2, xtz2, xt3, xtz3, xt4, xtz4, xt5, xtz5⟩ := xt.f6
  obtain ⟨xu0, xuz0, xu1, xuz1, xu2, xuz2, xu3, xuz3, xu4, xuz4, xu5, xuz5⟩ := xu.f6
  try go_wp2_with fail
  clear xs0 xsz0 xs1 xsz1 xs2 xsz2 xs3 xsz3 xs4 xsz4 xs5 xsz5 xx0 xxz0 xx1 xxz1 xx2 xxz2 xx3 xxz3 xx4 xxz4 xx5 xxz5 xt0 xtz0 xt1 xtz1 xt2 xtz2 xt3 xtz3 xt4 xtz4 xt5 xtz5 xu0 xuz0 xu1 xuz1 xu2 xuz2 xu3 xuz3 xu4 xuz4 xu5 xuz5
  clear hHeld
  refine hK.out _ _ ?_ (fun hHeld => ?_)
  · exact ⟨xs.cell 0 rfl, xs.cell 1 rfl, xs.cell 2 rfl, xs.cell 3 rfl, xs.cell 4 rfl, xs.cell 5 rfl, xx.cell 0 rfl, xx.cell 1 rfl, xx.cell 2 rfl, xx.cell 3 rfl, xx.cell 4 rfl, xx.cell 5 rfl, xt.cell 0 rfl, xt.cell 1 rfl, xt.cell 2 rfl, xt.cell 3 rfl, xt.cell 4 rfl, xt.cell 5 rfl, xu.cell 0 rfl, xu.cell 1 rfl, xu.cell 2 rfl, xu.cell 3 rfl, xu.cell 4 rfl, xu.cell 5 rfl⟩
  clear hK K
  try simp only [Act.put, l1, l2, l3, l4, l5, l6]
  refine tk 36 (v := ?_) rfl (Or.inl ⟨by rfl, ?_⟩) ?_; rotate_left
  · intro w hSw; (try dsimp only at hSw); go_simp; try with_reducible rfl
  try simp only [Act.put, l1, l2, l3, l4, l5, l6]
  refine tk 37 (v := ?_) rfl (Or.inl ⟨by rfl, ?_⟩) ?_; rotate_left
  · intro w hSw; (try dsimp only at hSw); go_simp; try with_reducible rfl
  try simp only [Act.put, l1, l2, l3, l4, l5, l6]
  refine wpAnyH_done (by kernel_rfl) ?_ _
  clear hHeld
  obtain ⟨xs0, xsz0, xs1, xsz1, xs2, xsz2, xs3, xsz3, xs4, xsz4, xs5, xsz5⟩ := xs.f6
  obtain ⟨xx0, xxz0, xx1, xxz1, xx2, xxz2, xx3, xxz3, xx4, xxz4, xx5, xxz5⟩ := xx.f6
  obtain ⟨xt0, xtz0, xt1, xtz1, xt2, xtz2, xt3, xtz3, xt4, xtz4, xt5, xtz5⟩ := xt.f6
  obtain ⟨xu0, xuz0, xu1, xuz1, xu2, xuz2, xu3, xuz3, xu4, xuz4, xu5, xuz5⟩ := xu.f6
  go_wp2
  go_ret
  exact ⟨rfl, hB⟩

theorem own : ownKnob Try.prog.godebug = none := by kernel_rfl

set_option maxRecDepth 100000 in
theorem lifted (os : Os) (started : os.Started) (H : Type) (enc : TypeId × Value → H) :
    ReturnsInHanded {} Try.checked os 3 .any (Rows.stateTellsSpec.pre6 enc Try.prog Try.f3 Rows.stateTellsRow.domain false) (Rows.stateTellsSpec.post enc Try.prog Try.f3 false true false false) := by
  refine returnsInHanded_of_change (C := Try.checked) own started (by kernel_rfl) Try.func3
    (ChangeSpec.witness6 (enc := enc) (C := Try.checked) false ⟨#[], #[.agg #[.int .i64 0, .bool false, .bool false, .int .i64 0, .int .i64 0, .int .i64 0], .int .u64 0], []⟩ 8 (by kernel_rfl) (by kernel_rfl) (by kernel_rfl) (by kernel_rfl)) ?_
  intro W base args ds gs before hval hW _ _
  have hW' := hW
  obtain ⟨p, q, hA0, hV, rfl, hfz, hnd⟩ := hW
  have hA : DataW.TrodAll enc Try.prog W 0 (fun _ => true) true Try.f3.params.toList args.toList ds p := hA0
  rw [Try.params3] at hA hval
  obtain ⟨v0, vs0, d0, ds0, p0, q0, hargs, rfl, rfl, h0, r0⟩ := trodAll_cons hA
  obtain ⟨v1, vs1, d1, ds1, p1, q1, rfl, rfl, rfl, h1, r1⟩ := trodAll_cons r0
  obtain ⟨rfl, rfl, rfl⟩ := trodAll_nil r1
  obtain rfl : args = #[v0, v1] := by cases args; simp_all
  obtain ⟨rfl, rfl⟩ := trodVars_none hV
  have k0 := h0
  obtain ⟨s0, rfl, hs0⟩ := open_st (hval 0 23 v0 rfl rfl) h0
  obtain ⟨a1, rfl, rfl, rfl, w1⟩ := open_int Try.underlying24 (hval 1 24 v1 rfl rfl) h1
  obtain ⟨c1, rfl⟩ := int_u64 w1
  clear hA0
  simp only [List.append_nil] at hW'
  refine (walk s0 c1 W hs0).mono fun e W' ⟨he, hB⟩ => ?_
  subst he
  exact ⟨_, rfl, ⟨_, _, _, [], _, [], hW', trodAll_cons_mk (shut_bool Try.underlying4 _) trodAll_mk0, (trodAll_cons_mk (Below.trod Try.laidOut (by kernel_rfl) (of_decide_eq_true (by kernel_rfl)) k0 hB (fun x hx => by simpa using hW'.lt x (by simp [hx]))) (trodAll_cons_mk (shut_int Try.underlying24 w1) trodAll_mk0)), rfl, hB.frame _, fun h => by cases h⟩⟩

theorem holds : Rows.StateTellsSaid :=
  OpenClaim.holds_of_wide 3 Try.f3 rfl rfl rfl rfl rfl rfl rfl ⟨rfl, rfl, rfl, rfl, rfl⟩ rfl rfl rfl rfl rfl (by kernel_rfl) Try.func3 (by kernel_rfl)
    (of_decide_eq_true (by kernel_rfl)) (by unfold Func.isWrapper; first | (rw [if_pos (by decide +kernel)]; kernel_rfl) | (rw [if_neg (by decide +kernel)]; exact ⟨rfl, rfl⟩))
    (fun os started H enc _ => lifted os started H enc)
end Go.Proofs.Ytkdadjojahfmeaa.StateTells

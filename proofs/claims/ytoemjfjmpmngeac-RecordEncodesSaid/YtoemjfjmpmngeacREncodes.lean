/- The bytes of any record, and its mark, are the document's (RecordEncodes); no condition. -/
import Derived.Test.YtoemjfjmpmngeacRecLaw
import Derived.Deep.RegionHeld3
import Derived.WalkLawsBesides
import Derived.WalkSpells
import Derived.IntWalk
import Derived.Lib.Hide
import Derived.Test.YtoemjfjmpmngeacBox
import Derived.Test.YtoemjfjmpmngeacRecRef
import Derived.ProofKit
import Derived.OpenShut
import Derived.ChangeMaps5
import Derived.Test.YtoemjfjmpmngeacInts
namespace Go.Proofs.Ytoemjfjmpmngeac.RecordEncodes
open Go.ChangeShapes Go.WideShapes Go.ChangeAt Go.RowKit Go.ChangeMaps
set_option linter.unusedVariables false
set_option linter.unusedSimpArgs false

set_option maxRecDepth 100000 in
set_option maxHeartbeats 8000000 in
theorem walk (r : Rec) (W : World) (hr : r.ok) :
    Calls Try.prog 9 #[.agg #[.int .i64 r.kind, .int .u64 (r.seq : Int), .int .u64 (r.data : Int)]] W fun e W' => e = .returned (.bool true) ∧ Below W.heap.size W W' := by
  have hB : Below W.heap.size W ((W.alloc (.cells #[.int .i64 r.kind, .int .u64 (r.seq : Int), .int .u64 (r.data : Int)] 36)).alloc (.cells #[.int .i64 r.kind, .int .u64 (r.seq : Int), .int .u64 (r.data : Int)] 37)) := (((Below.refl _ _).alloc (Nat.le_refl _) _).alloc (by simp) _)
  have xr := ((Box.new 36 W [.int .i64 r.kind, .int .u64 (r.seq : Int), .int .u64 (r.data : Int)]).alloc (.cells #[.int .i64 r.kind, .int .u64 (r.seq : Int), .int .u64 (r.data : Int)] 37))
  have xx : Box 37 ((W.alloc (.cells #[.int .i64 r.kind, .int .u64 (r.seq : Int), .int .u64 (r.data : Int)] 36)).alloc (.cells #[.int .i64 r.kind, .int .u64 (r.seq : Int), .int .u64 (r.data : Int)] 37)) (W.heap.size + 1) [.int .i64 r.kind, .int .u64 (r.seq : Int), .int .u64 (r.data : Int)] := by have h := (Box.new 37 (W.alloc (.cells #[.int .i64 r.kind, .int .u64 (r.seq : Int), .int .u64 (r.data : Int)] 36)) [.int .i64 r.kind, .int .u64 (r.seq : Int), .int .u64 (r.data : Int)]); rwa [World.size_alloc] at h
  have le_xx : W.heap.size ≤ W.heap.size + 1 := by omega
  go_enter Try.func9, Try.ntmps9
  go_wp2_with fail
  generalize ((W.alloc (.cells #[.int .i64 r.kind, .int .u64 (r.seq : Int), .int .u64 (r.data : Int)] 36)).alloc (.cells #[.int .i64 r.kind, .int .u64 (r.seq : Int), .int .u64 (r.data : Int)] 37)) = V1 at *
  replace hB := hB.drew
  replace xr := xr.drew
  replace xx := xx.drew
  refine wp_region_held_drew (S := fun w' => w'.cell? ⟨W.heap.size, 0, none⟩ = some (.int .i64 r.kind) ∧ w'.cell? ⟨W.heap.size, 1, none⟩ = some (.int .u64 (r.seq : Int)) ∧ w'.cell? ⟨W.heap.size, 2, none⟩ = some (.int .u64 (r.data : Int)) ∧ w'.cell? ⟨W.heap.size + 1, 0, none⟩ = some (.int .i64 r.kind) ∧ w'.cell? ⟨W.heap.size + 1, 1, none⟩ = some (.int .u64 (r.seq : Int)) ∧ w'.cell? ⟨W.heap.size + 1, 2, none⟩ = some (.int .u64 (r.data : Int))) (by kernel_rfl) ?_ (fun hHeld => ?_)
  · exact ⟨xr.cell 0 rfl, xr.cell 1 rfl, xr.cell 2 rfl, xx.cell 0 rfl, xx.cell 1 rfl, xx.cell 2 rfl⟩
  generalize V1.drew = V2 at *
  refine wpAnyH_take (i := 0) (v := ?_) rfl (by kernel_rfl) (by kernel_rfl) (by kernel_rfl) (fun _ _ _ h => h) (Or.inl ⟨by rfl, ?_⟩) (by assumption) ?_
  rotate_left
  · intro w hSw; (try dsimp only at hSw); go_simp; try with_reducible rfl
  try simp only [Act.put, List.getElem_toArray, List.getElem_cons_zero, List.getElem_cons_succ, List.setIfInBounds_toArray, List.set_cons_zero, List.set_cons_succ]
  refine wpAnyH_take (i := 2) (v := ?_) rfl (by kernel_rfl) (by kernel_rfl) (by kernel_rfl) (fun _ _ _ h => h) (Or.inl ⟨by rfl, ?_⟩) (by assumption) ?_
  rotate_left
  · intro w hSw; (try dsimp only at hSw); go_simp; try with_reducible rfl
  try simp only [Act.put, List.getElem_toArray, List.getElem_cons_zero, List.getElem_cons_succ, List.setIfInBounds_toArray, List.set_cons_zero, List.set_cons_succ]
  refine wpAnyH_ready (rs := [1]) (by kernel_rfl) (by simp) ?_
  refine AllReadyH.cons rfl (fun K hK => ?_) AllReadyH.nil
  have xr0 := xr.cell 0 rfl
  have xrz0 := xr.frozen 0
  have xr1 := xr.cell 1 rfl
  have xrz1 := xr.frozen 1
  have xr2 := xr.cell 2 rfl
  have xrz2 := xr.frozen 2
  have xx0 := xx.cell 0 rfl
  have xxz0 := xx.frozen 0
  have xx1 := xx.cell 1 rfl
  have xxz1 := xx.frozen 1
  have xx2 := xx.cell 2 rfl
  have xxz2 := xx.frozen 2
  go_simp
  refine (own07Body r _ hr).mono ?_
  rintro e V3 ⟨rfl, hk⟩
  clear xr0 xrz0 xr1 xrz1 xr2 xrz2 xx0 xxz0 xx1 xxz1 xx2 xxz2
  replace hB := below_seq hB hk
  replace xr := xr.seq hk
  replace xx := xx.seq hk
  clear hk
  have xr0 := xr.cell 0 rfl
  have xrz0 := xr.frozen 0
  have xr1 := xr.cell 1 rfl
  have xrz1 := xr.frozen 1
  have xr2 := xr.cell 2 rfl
  have xrz2 := xr.frozen 2
  have xx0 := xx.cell 0 rfl
  have xxz0 := xx.frozen 0
  have xx1 := xx.cell 1 rfl
  have xxz1 := xx.frozen 1
  have xx2 := xx.cell 2 rfl
  have xxz2 := xx.frozen 2
  try go_wp2_with fail
  clear xr0 xrz0 xr1 xrz1 xr2 xrz2 xx0 xxz0 xx1 xxz1 xx2 xxz2
  clear hHeld
  refine hK.out _ _ ?_ (fun hHeld => ?_)
  · exact ⟨xr.cell 0 rfl, xr.cell 1 rfl, xr.cell 2 rfl, xx.cell 0 rfl, xx.cell 1 rfl, xx.cell 2 rfl⟩
  clear hK K
  try simp only [Act.put, List.getElem_toArray, List.getElem_cons_zero, List.getElem_cons_succ, List.setIfInBounds_toArray, List.set_cons_zero, List.set_cons_succ]
  refine wpAnyH_ready (rs := [3]) (by kernel_rfl) (by simp) ?_
  refine AllReadyH.cons rfl (fun K hK => ?_) AllReadyH.nil
  have xr0 := xr.cell 0 rfl
  have xrz0 := xr.frozen 0
  have xr1 := xr.cell 1 rfl
  have xrz1 := xr.frozen 1
  have xr2 := xr.cell 2 rfl
  have xrz2 := xr.frozen 2
  have xx0 := xx.cell 0 rfl
  have xxz0 := xx.frozen 0
  have xx1 := xx.cell 1 rfl
  have xxz1 := xx.frozen 1
  have xx2 := xx.cell 2 rfl
  have xxz2 := xx.frozen 2
  go_simp
  refine (ref07Body r _ hr).mono ?_
  rintro e V4 ⟨rfl, hk⟩
  clear xr0 xrz0 xr1 xrz1 xr2 xrz2 xx0 xxz0 xx1 xxz1 xx2 xxz2
  replace hB := below_seq hB hk
  replace xr := xr.seq hk
  replace xx := xx.seq hk
  clear hk
  have xr0 := xr.cell 0 rfl
  have xrz0 := xr.frozen 0
  have xr1 := xr.cell 1 rfl
  have xrz1 := xr.frozen 1
  have xr2 := xr.cell 2 rfl
  have xrz2 := xr.frozen 2
  have xx0 := xx.cell 0 rfl
  have xxz0 := xx.frozen 0
  have xx1 := xx.cell 1 rfl
  have xxz1 := xx.frozen 1
  have xx2 := xx.cell 2 rfl
  have xxz2 := xx.frozen 2
  try go_wp2_with fail
  clear xr0 xrz0 xr1 xrz1 xr2 xrz2 xx0 xxz0 xx1 xxz1 xx2 xxz2
  clear hHeld
  refine hK.out _ _ ?_ (fun hHeld => ?_)
  · exact ⟨xr.cell 0 rfl, xr.cell 1 rfl, xr.cell 2 rfl, xx.cell 0 rfl, xx.cell 1 rfl, xx.cell 2 rfl⟩
  clear hK K
  try simp only [Act.put, List.getElem_toArray, List.getElem_cons_zero, List.getElem_cons_succ, List.setIfInBounds_toArray, List.set_cons_zero, List.set_cons_succ]
  refine wpAnyH_take (i := 4) (v := ?_) rfl (by kernel_rfl) (by kernel_rfl) (by kernel_rfl) (fun _ _ _ h => h) (Or.inl ⟨by rfl, ?_⟩) (by assumption) ?_
  rotate_left
  · intro w hSw; (try dsimp only at hSw); go_simp; try with_reducible rfl
  try simp only [Act.put, List.getElem_toArray, List.getElem_cons_zero, List.getElem_cons_succ, List.setIfInBounds_toArray, List.set_cons_zero, List.set_cons_succ]
  refine wpAnyH_take (i := 5) (v := ?_) rfl (by kernel_rfl) (by kernel_rfl) (by kernel_rfl) (fun _ _ _ h => h) (Or.inl ⟨by rfl, ?_⟩) (by assumption) ?_
  rotate_left
  · intro w hSw; (try dsimp only at hSw); go_simp; try with_reducible rfl
  try simp only [Act.put, List.getElem_toArray, List.getElem_cons_zero, List.getElem_cons_succ, List.setIfInBounds_toArray, List.set_cons_zero, List.set_cons_succ]
  refine wpAnyH_take (i := 6) (v := ?_) rfl (by kernel_rfl) (by kernel_rfl) (by kernel_rfl) (fun _ _ _ h => h) (Or.inl ⟨by rfl, ?_⟩) (by assumption) ?_
  rotate_left
  · intro w hSw; (try dsimp only at hSw); go_simp; try with_reducible rfl
  try simp only [Act.put, List.getElem_toArray, List.getElem_cons_zero, List.getElem_cons_succ, List.setIfInBounds_toArray, List.set_cons_zero, List.set_cons_succ]
  refine wpAnyH_take (i := 8) (v := ?_) rfl (by kernel_rfl) (by kernel_rfl) (by kernel_rfl) (fun _ _ _ h => h) (Or.inl ⟨by rfl, ?_⟩) (by assumption) ?_
  rotate_left
  · intro w hSw; (try dsimp only at hSw); go_simp; try with_reducible rfl
  try simp only [Act.put, List.getElem_toArray, List.getElem_cons_zero, List.getElem_cons_succ, List.setIfInBounds_toArray, List.set_cons_zero, List.set_cons_succ]
  refine wpAnyH_ready (rs := [7]) (by kernel_rfl) (by simp) ?_
  refine AllReadyH.cons rfl (fun K hK => ?_) AllReadyH.nil
  have xr0 := xr.cell 0 rfl
  have xrz0 := xr.frozen 0
  have xr1 := xr.cell 1 rfl
  have xrz1 := xr.frozen 1
  have xr2 := xr.cell 2 rfl
  have xrz2 := xr.frozen 2
  have xx0 := xx.cell 0 rfl
  have xxz0 := xx.frozen 0
  have xx1 := xx.cell 1 rfl
  have xxz1 := xx.frozen 1
  have xx2 := xx.cell 2 rfl
  have xxz2 := xx.frozen 2
  go_simp
  refine (own07Encode r _ hr).mono ?_
  rintro e V5 ⟨rfl, hk⟩
  clear xr0 xrz0 xr1 xrz1 xr2 xrz2 xx0 xxz0 xx1 xxz1 xx2 xxz2
  replace hB := below_seq hB hk
  replace xr := xr.seq hk
  replace xx := xx.seq hk
  clear hk
  have xr0 := xr.cell 0 rfl
  have xrz0 := xr.frozen 0
  have xr1 := xr.cell 1 rfl
  have xrz1 := xr.frozen 1
  have xr2 := xr.cell 2 rfl
  have xrz2 := xr.frozen 2
  have xx0 := xx.cell 0 rfl
  have xxz0 := xx.frozen 0
  have xx1 := xx.cell 1 rfl
  have xxz1 := xx.frozen 1
  have xx2 := xx.cell 2 rfl
  have xxz2 := xx.frozen 2
  try go_wp2_with fail
  clear xr0 xrz0 xr1 xrz1 xr2 xrz2 xx0 xxz0 xx1 xxz1 xx2 xxz2
  clear hHeld
  refine hK.out _ _ ?_ (fun hHeld => ?_)
  · exact ⟨xr.cell 0 rfl, xr.cell 1 rfl, xr.cell 2 rfl, xx.cell 0 rfl, xx.cell 1 rfl, xx.cell 2 rfl⟩
  clear hK K
  try simp only [Act.put, List.getElem_toArray, List.getElem_cons_zero, List.getElem_cons_succ, List.setIfInBounds_toArray, List.set_cons_zero, List.set_cons_succ]
  refine wpAnyH_ready (rs := [9]) (by kernel_rfl) (by simp) ?_
  refine AllReadyH.cons rfl (fun K hK => ?_) AllReadyH.nil
  have xr0 := xr.cell 0 rfl
  have xrz0 := xr.frozen 0
  have xr1 := xr.cell 1 rfl
  have xrz1 := xr.frozen 1
  have xr2 := xr.cell 2 rfl
  have xrz2 := xr.frozen 2
  have xx0 := xx.cell 0 rfl
  have xxz0 := xx.frozen 0
  have xx1 := xx.cell 1 rfl
  have xxz1 := xx.frozen 1
  have xx2 := xx.cell 2 rfl
  have xxz2 := xx.frozen 2
  go_simp
  refine (ref07Encode r _ hr).mono ?_
  rintro e V6 ⟨rfl, hk⟩
  clear xr0 xrz0 xr1 xrz1 xr2 xrz2 xx0 xxz0 xx1 xxz1 xx2 xxz2
  replace hB := below_seq hB hk
  replace xr := xr.seq hk
  replace xx := xx.seq hk
  clear hk
  have xr0 := xr.cell 0 rfl
  have xrz0 := xr.frozen 0
  have xr1 := xr.cell 1 rfl
  have xrz1 := xr.frozen 1
  have xr2 := xr.cell 2 rfl
  have xrz2 := xr.frozen 2
  have xx0 := xx.cell 0 rfl
  have xxz0 := xx.frozen 0
  have xx1 := xx.cell 1 rfl
  have xxz1 := xx.frozen 1
  have xx2 := xx.cell 2 rfl
  have xxz2 := xx.frozen 2
  try go_wp2_with fail
  clear xr0 xrz0 xr1 xrz1 xr2 xrz2 xx0 xxz0 xx1 xxz1 xx2 xxz2
  clear hHeld
  refine hK.out _ _ ?_ (fun hHeld => ?_)
  · exact ⟨xr.cell 0 rfl, xr.cell 1 rfl, xr.cell 2 rfl, xx.cell 0 rfl, xx.cell 1 rfl, xx.cell 2 rfl⟩
  clear hK K
  try simp only [Act.put, List.getElem_toArray, List.getElem_cons_zero, List.getElem_cons_succ, List.setIfInBounds_toArray, List.set_cons_zero, List.set_cons_succ]
  refine wpAnyH_take (i := 10) (v := ?_) rfl (by kernel_rfl) (by kernel_rfl) (by kernel_rfl) (fun _ _ _ h => h) (Or.inl ⟨by rfl, ?_⟩) (by assumption) ?_
  rotate_left
  · intro w hSw; (try dsimp only at hSw); go_simp; try with_reducible rfl
  try simp only [Act.put, List.getElem_toArray, List.getElem_cons_zero, List.getElem_cons_succ, List.setIfInBounds_toArray, List.set_cons_zero, List.set_cons_succ]
  refine wpAnyH_take (i := 11) (v := ?_) rfl (by kernel_rfl) (by kernel_rfl) (by kernel_rfl) (fun _ _ _ h => h) (Or.inl ⟨by rfl, ?_⟩) (by assumption) ?_
  rotate_left
  · intro w hSw; (try dsimp only at hSw); go_simp; try with_reducible rfl
  try simp only [Act.put, List.getElem_toArray, List.getElem_cons_zero, List.getElem_cons_succ, List.setIfInBounds_toArray, List.set_cons_zero, List.set_cons_succ]
  refine wpAnyH_take (i := 12) (v := ?_) rfl (by kernel_rfl) (by kernel_rfl) (by kernel_rfl) (fun _ _ _ h => h) (Or.inl ⟨by rfl, ?_⟩) (by assumption) ?_
  rotate_left
  · intro w hSw; (try dsimp only at hSw); go_simp; try with_reducible rfl
  try simp only [Act.put, List.getElem_toArray, List.getElem_cons_zero, List.getElem_cons_succ, List.setIfInBounds_toArray, List.set_cons_zero, List.set_cons_succ]
  refine wpAnyH_ready (rs := [13]) (by kernel_rfl) (by simp) ?_
  refine AllReadyH.cons rfl (fun K hK => ?_) AllReadyH.nil
  have xr0 := xr.cell 0 rfl
  have xrz0 := xr.frozen 0
  have xr1 := xr.cell 1 rfl
  have xrz1 := xr.frozen 1
  have xr2 := xr.cell 2 rfl
  have xrz2 := xr.frozen 2
  have xx0 := xx.cell 0 rfl
  have xxz0 := xx.frozen 0
  have xx1 := xx.cell 1 rfl
  have xxz1 := xx.frozen 1
  have xx2 := xx.cell 2 rfl
  have xxz2 := xx.frozen 2
  go_simp
  refine (own07Mark _).mono ?_
  rintro e V7 ⟨rfl, hk⟩
  clear xr0 xrz0 xr1 xrz1 xr2 xrz2 xx0 xxz0 xx1 xxz1 xx2 xxz2
  replace hB := below_seq hB hk
  replace xr := xr.seq hk
  replace xx := xx.seq hk
  clear hk
  have xr0 := xr.cell 0 rfl
  have xrz0 := xr.frozen 0
  have xr1 := xr.cell 1 rfl
  have xrz1 := xr.frozen 1
  have xr2 := xr.cell 2 rfl
  have xrz2 := xr.frozen 2
  have xx0 := xx.cell 0 rfl
  have xxz0 := xx.frozen 0
  have xx1 := xx.cell 1 rfl
  have xxz1 := xx.frozen 1
  have xx2 := xx.cell 2 rfl
  have xxz2 := xx.frozen 2
  try go_wp2_with fail
  clear xr0 xrz0 xr1 xrz1 xr2 xrz2 xx0 xxz0 xx1 xxz1 xx2 xxz2
  clear hHeld
  refine hK.out _ _ ?_ (fun hHeld => ?_)
  · exact ⟨xr.cell 0 rfl, xr.cell 1 rfl, xr.cell 2 rfl, xx.cell 0 rfl, xx.cell 1 rfl, xx.cell 2 rfl⟩
  clear hK K
  try simp only [Act.put, List.getElem_toArray, List.getElem_cons_zero, List.getElem_cons_succ, List.setIfInBounds_toArray, List.set_cons_zero, List.set_cons_succ]
  refine wpAnyH_ready (rs := [14]) (by kernel_rfl) (by simp) ?_
  refine AllReadyH.cons rfl (fun K hK => ?_) AllReadyH.nil
  have xr0 := xr.cell 0 rfl
  have xrz0 := xr.frozen 0
  have xr1 := xr.cell 1 rfl
  have xrz1 := xr.frozen 1
  have xr2 := xr.cell 2 rfl
  have xrz2 := xr.frozen 2
  have xx0 := xx.cell 0 rfl
  have xxz0 := xx.frozen 0
  have xx1 := xx.cell 1 rfl
  have xxz1 := xx.frozen 1
  have xx2 := xx.cell 2 rfl
  have xxz2 := xx.frozen 2
  go_simp
  refine (ref07Mark _).mono ?_
  rintro e V8 ⟨rfl, hk⟩
  clear xr0 xrz0 xr1 xrz1 xr2 xrz2 xx0 xxz0 xx1 xxz1 xx2 xxz2
  replace hB := below_seq hB hk
  replace xr := xr.seq hk
  replace xx := xx.seq hk
  clear hk
  have xr0 := xr.cell 0 rfl
  have xrz0 := xr.frozen 0
  have xr1 := xr.cell 1 rfl
  have xrz1 := xr.frozen 1
  have xr2 := xr.cell 2 rfl
  have xrz2 := xr.frozen 2
  have xx0 := xx.cell 0 rfl
  have xxz0 := xx.frozen 0
  have xx1 := xx.cell 1 rfl
  have xxz1 := xx.frozen 1
  have xx2 := xx.cell 2 rfl
  have xxz2 := xx.frozen 2
  try go_wp2_with fail
  clear xr0 xrz0 xr1 xrz1 xr2 xrz2 xx0 xxz0 xx1 xxz1 xx2 xxz2
  clear hHeld
  refine hK.out _ _ ?_ (fun hHeld => ?_)
  · exact ⟨xr.cell 0 rfl, xr.cell 1 rfl, xr.cell 2 rfl, xx.cell 0 rfl, xx.cell 1 rfl, xx.cell 2 rfl⟩
  clear hK K
  try simp only [Act.put, List.getElem_toArray, List.getElem_cons_zero, List.getElem_cons_succ, List.setIfInBounds_toArray, List.set_cons_zero, List.set_cons_succ]
  refine wpAnyH_take (i := 15) (v := ?_) rfl (by kernel_rfl) (by kernel_rfl) (by kernel_rfl) (fun _ _ _ h => h) (Or.inl ⟨by rfl, ?_⟩) (by assumption) ?_
  rotate_left
  · intro w hSw; (try dsimp only at hSw); go_simp; try with_reducible rfl
  try simp only [Act.put, List.getElem_toArray, List.getElem_cons_zero, List.getElem_cons_succ, List.setIfInBounds_toArray, List.set_cons_zero, List.set_cons_succ]
  refine wpAnyH_take (i := 16) (v := ?_) rfl (by kernel_rfl) (by kernel_rfl) (by kernel_rfl) (fun _ _ _ h => h) (Or.inl ⟨by rfl, ?_⟩) (by assumption) ?_
  rotate_left
  · intro w hSw; (try dsimp only at hSw); go_simp; try with_reducible rfl
  try simp only [Act.put, List.getElem_toArray, List.getElem_cons_zero, List.getElem_cons_succ, List.setIfInBounds_toArray, List.set_cons_zero, List.set_cons_succ]
  refine wpAnyH_take (i := 17) (v := ?_) rfl (by kernel_rfl) (by kernel_rfl) (by kernel_rfl) (fun _ _ _ h => h) (Or.inl ⟨by rfl, ?_⟩) (by assumption) ?_
  rotate_left
  · intro w hSw; (try dsimp only at hSw); go_simp; try with_reducible rfl
  try simp only [Act.put, List.getElem_toArray, List.getElem_cons_zero, List.getElem_cons_succ, List.setIfInBounds_toArray, List.set_cons_zero, List.set_cons_succ]
  refine wpAnyH_ready (rs := [18]) (by kernel_rfl) (by simp) ?_
  refine AllReadyH.cons rfl (fun K hK => ?_) AllReadyH.nil
  have xr0 := xr.cell 0 rfl
  have xrz0 := xr.frozen 0
  have xr1 := xr.cell 1 rfl
  have xrz1 := xr.frozen 1
  have xr2 := xr.cell 2 rfl
  have xrz2 := xr.frozen 2
  have xx0 := xx.cell 0 rfl
  have xxz0 := xx.frozen 0
  have xx1 := xx.cell 1 rfl
  have xxz1 := xx.frozen 1
  have xx2 := xx.cell 2 rfl
  have xxz2 := xx.frozen 2
  go_simp
  refine (shown07 _).mono ?_
  rintro e V9 ⟨rfl, hk⟩
  clear xr0 xrz0 xr1 xrz1 xr2 xrz2 xx0 xxz0 xx1 xxz1 xx2 xxz2
  replace hB := below_seq hB hk
  replace xr := xr.seq hk
  replace xx := xx.seq hk
  clear hk
  have xr0 := xr.cell 0 rfl
  have xrz0 := xr.frozen 0
  have xr1 := xr.cell 1 rfl
  have xrz1 := xr.frozen 1
  have xr2 := xr.cell 2 rfl
  have xrz2 := xr.frozen 2
  have xx0 := xx.cell 0 rfl
  have xxz0 := xx.frozen 0
  have xx1 := xx.cell 1 rfl
  have xxz1 := xx.frozen 1
  have xx2 := xx.cell 2 rfl
  have xxz2 := xx.frozen 2
  try go_wp2_with fail
  clear xr0 xrz0 xr1 xrz1 xr2 xrz2 xx0 xxz0 xx1 xxz1 xx2 xxz2
  clear hHeld
  refine hK.out _ _ ?_ (fun hHeld => ?_)
  · exact ⟨xr.cell 0 rfl, xr.cell 1 rfl, xr.cell 2 rfl, xx.cell 0 rfl, xx.cell 1 rfl, xx.cell 2 rfl⟩
  clear hK K
  try simp only [Act.put, List.getElem_toArray, List.getElem_cons_zero, List.getElem_cons_succ, List.setIfInBounds_toArray, List.set_cons_zero, List.set_cons_succ]
  refine wpAnyH_take (i := 19) (v := ?_) rfl (by kernel_rfl) (by kernel_rfl) (by kernel_rfl) (fun _ _ _ h => h) (Or.inl ⟨by rfl, ?_⟩) (by assumption) ?_
  rotate_left
  · intro w hSw; (try dsimp only at hSw); go_simp; try with_reducible rfl
  try simp only [Act.put, List.getElem_toArray, List.getElem_cons_zero, List.getElem_cons_succ, List.setIfInBounds_toArray, List.set_cons_zero, List.set_cons_succ]
  refine wpAnyH_take (i := 20) (v := ?_) rfl (by kernel_rfl) (by kernel_rfl) (by kernel_rfl) (fun _ _ _ h => h) (Or.inl ⟨by rfl, ?_⟩) (by assumption) ?_
  rotate_left
  · intro w hSw; (try dsimp only at hSw); go_simp; try with_reducible rfl
  try simp only [Act.put, List.getElem_toArray, List.getElem_cons_zero, List.getElem_cons_succ, List.setIfInBounds_toArray, List.set_cons_zero, List.set_cons_succ]
  refine wpAnyH_done (by kernel_rfl) ?_ _
  clear hHeld
  have xr0 := xr.cell 0 rfl
  have xrz0 := xr.frozen 0
  have xr1 := xr.cell 1 rfl
  have xrz1 := xr.frozen 1
  have xr2 := xr.cell 2 rfl
  have xrz2 := xr.frozen 2
  have xx0 := xx.cell 0 rfl
  have xxz0 := xx.frozen 0
  have xx1 := xx.cell 1 rfl
  have xxz1 := xx.frozen 1
  have xx2 := xx.cell 2 rfl
  have xxz2 := xx.frozen 2
  go_wp2
  go_ret
  exact ⟨rfl, hB⟩

theorem own : ownKnob Try.prog.godebug = none := by kernel_rfl

set_option maxRecDepth 100000 in
theorem lifted (os : Os) (started : os.Started) (H : Type) (enc : TypeId × Value → H) :
    ReturnsInHanded {} Try.checked os 9 .any (Rows.recordEncodesSpec.pre6 enc Try.prog Try.f9 Rows.recordEncodesRow.domain false) (Rows.recordEncodesSpec.post enc Try.prog Try.f9 false true false false) := by
  refine returnsInHanded_of_change (C := Try.checked) own started (by kernel_rfl) Try.func9
    (ChangeSpec.witness6 (enc := enc) (C := Try.checked) false ⟨#[], #[.agg #[.int .i64 0, .int .u64 0, .int .u64 0]], []⟩ 8 (by kernel_rfl) (by kernel_rfl) (by kernel_rfl) (by kernel_rfl)) ?_
  intro W base args ds gs before hval hW _ _
  have hW' := hW
  obtain ⟨p, q, hA0, hV, rfl, hfz, hnd⟩ := hW
  have hA : DataW.TrodAll enc Try.prog W 0 (fun _ => true) true Try.f9.params.toList args.toList ds p := hA0
  rw [Try.params9] at hA hval
  obtain ⟨v0, vs0, d0, ds0, p0, q0, hargs, rfl, rfl, h0, r0⟩ := trodAll_cons hA
  obtain ⟨rfl, rfl, rfl⟩ := trodAll_nil r0
  obtain rfl : args = #[v0] := by cases args; simp_all
  obtain ⟨rfl, rfl⟩ := trodVars_none hV
  have k0 := h0
  obtain ⟨s0, rfl, hs0⟩ := open_rec (hval 0 36 v0 rfl rfl) h0
  clear hA0
  simp only [List.append_nil] at hW'
  refine (walk s0 W hs0).mono fun e W' ⟨he, hB⟩ => ?_
  subst he
  exact ⟨_, rfl, ⟨_, _, _, [], _, [], hW', trodAll_cons_mk (shut_bool Try.underlying4 _) trodAll_mk0, (trodAll_cons_mk (Below.trod Try.laidOut (by kernel_rfl) (of_decide_eq_true (by kernel_rfl)) k0 hB (fun x hx => by simpa using hW'.lt x (by simp [hx]))) trodAll_mk0), rfl, hB.frame _, fun h => by cases h⟩⟩

theorem holds : Rows.RecordEncodesSaid :=
  OpenClaim.holds_of_wide 9 Try.f9 rfl rfl rfl rfl rfl rfl rfl ⟨rfl, rfl, rfl, rfl, rfl⟩ rfl rfl rfl rfl rfl (by kernel_rfl) Try.func9 (by kernel_rfl)
    (of_decide_eq_true (by kernel_rfl)) (by unfold Func.isWrapper; first | (rw [if_pos (by decide +kernel)]; kernel_rfl) | (rw [if_neg (by decide +kernel)]; exact ⟨rfl, rfl⟩))
    (fun os started H enc _ => lifted os started H enc)
end Go.Proofs.Ytoemjfjmpmngeac.RecordEncodes

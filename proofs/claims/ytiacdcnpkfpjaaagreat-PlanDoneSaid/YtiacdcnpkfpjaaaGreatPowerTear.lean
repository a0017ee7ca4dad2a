/- The program's own Tear: contracts only. -/
import Derived.Test.YtiacdcnpkfpjaaaGreatPowerDo
import Derived.WalkKit
import Derived.ProofKit
import Derived.OwnWalk
import Derived.Lib.Hide
import Derived.BigQuiet
import Derived.Deep.QuietTactic
import Derived.Deep.RegionHeld3
import Derived.IntWalk
import Derived.WalkLawsBesides
namespace Go.Proofs.YtiacdcnpkfpjaaaGreat
open Go.RowKit
set_option linter.unusedVariables false
set_option linter.unusedSimpArgs false

set_option maxRecDepth 100000 in
set_option maxHeartbeats 4000000 in
theorem pwTear1_0 (f : Fl) (p : Nat) (d m : ByteArray) (W : World) (hf : f.fit) (hd : d.size ≤ maxLen) (hm : m.size ≤ maxLen) (he : progErr f 0 (p : Int) d = 0) (hb : p + d.size ≤ f.b0.size) :
    Calls Tryz.prog 26 #[.agg #[.string f.b0, .string f.b1, .int .i64 f.e0, .int .i64 f.e1, .int .i64 f.lim], .agg #[.int .i64 1, .int .i64 0, .int .i64 (p : Int), .string d], .string m] W fun e W' => e = .returned (.tuple #[.agg #[.string (spliceT f.b0 p d m), .string f.b1, .int .i64 f.e0, .int .i64 f.e1, .int .i64 f.lim], .int .i64 0]) ∧ Below W.heap.size W W' := by
  have hs : f.b0.size ≤ 140737488351232 := hf.z0
  have TD := Lib.hid (fun (W : World) => (show Calls Tryz.prog 25 #[.agg #[.string f.b0, .string f.b1, .int .i64 f.e0, .int .i64 f.e1, .int .i64 f.lim], .agg #[.int .i64 1, .int .i64 0, .int .i64 (p : Int), .string d]] W fun e W' => e = .returned (.tuple #[.agg #[.string (progF f 0 (p : Int) d).b0, .string (progF f 0 (p : Int) d).b1, .int .i64 (progF f 0 (p : Int) d).e0, .int .i64 (progF f 0 (p : Int) d).e1, .int .i64 (progF f 0 (p : Int) d).lim], .int .i64 0]) ∧ Below W.heap.size W W' from by have h := pwDo1 f 0 (p : Int) d W hf hd (by omega); rwa [he] at h))
  generalize progF f 0 (p : Int) d = g at *
  have TC := Lib.hid (fun (W : World) => clrTorn (f.b0.extract p (p + d.size)) d m W (by simp; omega) (by unfold maxLen; omega) hm)
  have HS := (show spliceT f.b0 p d m = f.b0.extract 0 p ++ tornB (f.b0.extract p (p + d.size)) d m ++ f.b0.extract (p + d.size) f.b0.size from rfl)
  have zA : (tornB (f.b0.extract p (p + d.size)) d m).size ≤ f.b0.size := by rw [tornB_size]; simp; omega
  rw [HS]
  clear HS he
  generalize tornB (f.b0.extract p (p + d.size)) d m = A at *
  have g1 : ¬ 9223372036854775807 < p + A.size := by omega
  have g2 : ¬ 9223372036854775807 < p + A.size + (f.b0.size - (p + d.size)) := by omega
  have g3 : ¬ 9223372036854775807 < min p f.b0.size + A.size := by omega
  have g4 : ¬ 9223372036854775807 < min p f.b0.size + A.size + (f.b0.size - (p + d.size)) := by omega
  have i1 : (p : Int) ≤ (f.b0.size : Int) := by omega
  have i3 : (p : Int) + (d.size : Int) ≤ (f.b0.size : Int) := by omega
  have i4 : (0 : Int) ≤ (p : Int) + (d.size : Int) := by omega
  have i5 : ((p : Int) + (d.size : Int)).toNat = p + d.size := by omega
  have i7 : p ≤ f.b0.size := by omega
  have i9 : (0 : Int) ≤ (p : Int) := by omega
  have i6 : (p : Int) ≤ (p : Int) + (d.size : Int) := by omega
  have w1 : IntKind.i64.wrap ((p : Int) + (d.size : Int)) = (p : Int) + (d.size : Int) := IntWalk.i64_in _ (by omega)
  have hB : Below W.heap.size W (((W.alloc (.cells #[.string f.b0, .string f.b1, .int .i64 f.e0, .int .i64 f.e1, .int .i64 f.lim] 25)).alloc (.cells #[.int .i64 1, .int .i64 0, .int .i64 (p : Int), .string d] 46)).alloc (.cells #[.string ⟨#[]⟩, .string ⟨#[]⟩, .int .i64 0, .int .i64 0, .int .i64 0] 25)) := ((((Below.refl _ _).alloc (Nat.le_refl _) _).alloc (by simp) _).alloc (by simp; omega) _)
  have xf := (((Box.new 25 W [.string f.b0, .string f.b1, .int .i64 f.e0, .int .i64 f.e1, .int .i64 f.lim]).alloc (.cells #[.int .i64 1, .int .i64 0, .int .i64 (p : Int), .string d] 46)).alloc (.cells #[.string ⟨#[]⟩, .string ⟨#[]⟩, .int .i64 0, .int .i64 0, .int .i64 0] 25))
  have xo : Box 46 (((W.alloc (.cells #[.string f.b0, .string f.b1, .int .i64 f.e0, .int .i64 f.e1, .int .i64 f.lim] 25)).alloc (.cells #[.int .i64 1, .int .i64 0, .int .i64 (p : Int), .string d] 46)).alloc (.cells #[.string ⟨#[]⟩, .string ⟨#[]⟩, .int .i64 0, .int .i64 0, .int .i64 0] 25)) (W.heap.size + 1) [.int .i64 1, .int .i64 0, .int .i64 (p : Int), .string d] := by have h := ((Box.new 46 (W.alloc (.cells #[.string f.b0, .string f.b1, .int .i64 f.e0, .int .i64 f.e1, .int .i64 f.lim] 25)) [.int .i64 1, .int .i64 0, .int .i64 (p : Int), .string d]).alloc (.cells #[.string ⟨#[]⟩, .string ⟨#[]⟩, .int .i64 0, .int .i64 0, .int .i64 0] 25)); rwa [World.size_alloc] at h
  have le_xo : W.heap.size ≤ W.heap.size + 1 := by omega
  have xr : Box 25 (((W.alloc (.cells #[.string f.b0, .string f.b1, .int .i64 f.e0, .int .i64 f.e1, .int .i64 f.lim] 25)).alloc (.cells #[.int .i64 1, .int .i64 0, .int .i64 (p : Int), .string d] 46)).alloc (.cells #[.string ⟨#[]⟩, .string ⟨#[]⟩, .int .i64 0, .int .i64 0, .int .i64 0] 25)) (W.heap.size + 1 + 1) [.string ⟨#[]⟩, .string ⟨#[]⟩, .int .i64 0, .int .i64 0, .int .i64 0] := by have h := (Box.new 25 ((W.alloc (.cells #[.string f.b0, .string f.b1, .int .i64 f.e0, .int .i64 f.e1, .int .i64 f.lim] 25)).alloc (.cells #[.int .i64 1, .int .i64 0, .int .i64 (p : Int), .string d] 46)) [.string ⟨#[]⟩, .string ⟨#[]⟩, .int .i64 0, .int .i64 0, .int .i64 0]); rwa [World.size_alloc, World.size_alloc] at h
  have le_xr : W.heap.size ≤ W.heap.size + 1 + 1 := by omega
  go_enter Tryz.func26, Tryz.ntmps26
  go_wp2_with fail
  refine (TD.out _).mono ?_
  rintro e V1 ⟨rfl, hk⟩
  replace hB := below_seq hB hk
  replace xf := xf.seq hk
  replace xo := xo.seq hk
  replace xr := xr.seq hk
  clear hk
  have xw := Box.new 25 V1 [.string g.b0, .string g.b1, .int .i64 g.e0, .int .i64 g.e1, .int .i64 g.lim]
  have ne_xw_xf : V1.heap.size ≠ W.heap.size := Nat.ne_of_gt xf.lt
  have ne_xw_xo : V1.heap.size ≠ W.heap.size + 1 := Nat.ne_of_gt xo.lt
  have ne_xw_xr : V1.heap.size ≠ W.heap.size + 1 + 1 := Nat.ne_of_gt xr.lt
  have le_xw : W.heap.size ≤ V1.heap.size := hB.size
  replace xf := xf.alloc (.cells #[.string g.b0, .string g.b1, .int .i64 g.e0, .int .i64 g.e1, .int .i64 g.lim] 25)
  replace xo := xo.alloc (.cells #[.string g.b0, .string g.b1, .int .i64 g.e0, .int .i64 g.e1, .int .i64 g.lim] 25)
  replace xr := xr.alloc (.cells #[.string g.b0, .string g.b1, .int .i64 g.e0, .int .i64 g.e1, .int .i64 g.lim] 25)
  replace hB := hB.alloc hB.size (.cells #[.string g.b0, .string g.b1, .int .i64 g.e0, .int .i64 g.e1, .int .i64 g.lim] 25)
  have cxf := xf.f5
  have cxo := xo.f4
  have cxr := xr.f5
  have cxw := xw.f5
  go_wp2_with fail
  generalize (V1.alloc (.cells #[.string g.b0, .string g.b1, .int .i64 g.e0, .int .i64 g.e1, .int .i64 g.lim] 25)) = V2 at *
  go_quiet (fail)
  clear cxf cxo cxr cxw
  replace hB := below_drewN0 hB nq
  replace xf := xf.drewN nq
  replace xo := xo.drewN nq
  replace xr := xr.drewN nq
  replace xw := xw.drewN nq
  generalize (V2.drewN nq) = V3 at *
  have cxf := xf.f5
  have cxo := xo.f4
  have cxr := xr.f5
  have cxw := xw.f5
  go_wp2_with fail
  clear cxf cxo cxr cxw
  replace hB := hB.drew
  replace xf := xf.drew
  replace xo := xo.drew
  replace xr := xr.drew
  replace xw := xw.drew
  refine wp_region_held_drew (S := fun w' => w'.cell? ⟨W.heap.size + 1, 0, none⟩ = some (.int .i64 1) ∧ w'.cell? ⟨W.heap.size + 1, 1, none⟩ = some (.int .i64 0) ∧ w'.cell? ⟨W.heap.size + 1, 2, none⟩ = some (.int .i64 (p : Int)) ∧ w'.cell? ⟨W.heap.size + 1, 3, none⟩ = some (.string d)) (by kernel_rfl) ?_ (fun hHeld => ?_)
  · exact ⟨xo.cell 0 rfl, xo.cell 1 rfl, xo.cell 2 rfl, xo.cell 3 rfl⟩
  generalize V3.drew = V4 at *
  refine tk 0 (v := ?_) rfl (Or.inl ⟨by rfl, ?_⟩) ?_; rotate_left
  · intro w hSw; (try dsimp only at hSw); go_simp; try with_reducible rfl
  try simp only [Act.put, l1, l2, l3, l4, l5, l6]
  refine tk 1 (v := ?_) rfl (Or.inl ⟨by rfl, ?_⟩) ?_; rotate_left
  · intro w hSw; (try dsimp only at hSw); go_simp; try with_reducible rfl
  try simp only [Act.put, l1, l2, l3, l4, l5, l6]
  refine tk 2 (v := ?_) rfl (Or.inl ⟨by rfl, ?_⟩) ?_; rotate_left
  · intro w hSw; (try dsimp only at hSw); go_simp; try with_reducible rfl
  try simp only [Act.put, l1, l2, l3, l4, l5, l6]
  refine tk 3 (v := ?_) rfl (Or.inl ⟨by rfl, ?_⟩) ?_; rotate_left
  · intro w hSw; (try dsimp only at hSw); go_simp; try with_reducible rfl
  try simp only [Act.put, l1, l2, l3, l4, l5, l6]
  refine tk 4 (v := ?_) rfl (Or.inl ⟨by rfl, ?_⟩) ?_; rotate_left
  · intro w hSw; (try dsimp only at hSw); go_simp; try with_reducible rfl
  try simp only [Act.put, l1, l2, l3, l4, l5, l6]
  refine tk 5 (v := ?_) rfl (Or.inl ⟨by rfl, ?_⟩) ?_; rotate_left
  · intro w hSw; (try dsimp only at hSw); go_simp; try with_reducible rfl
  try simp only [Act.put, l1, l2, l3, l4, l5, l6]
  refine tk 6 (v := ?_) rfl (Or.inl ⟨by rfl, ?_⟩) ?_; rotate_left
  · intro w hSw; (try dsimp only at hSw); go_simp; try with_reducible rfl
  try simp only [Act.put, l1, l2, l3, l4, l5, l6]
  refine tk 7 (v := ?_) rfl (Or.inl ⟨by rfl, ?_⟩) ?_; rotate_left
  · intro w hSw; (try dsimp only at hSw); go_simp; try with_reducible rfl
  try simp only [Act.put, l1, l2, l3, l4, l5, l6]
  refine tk 8 (v := ?_) rfl (Or.inl ⟨by rfl, ?_⟩) ?_; rotate_left
  · intro w hSw; (try dsimp only at hSw); go_simp; try with_reducible rfl
  try simp only [Act.put, l1, l2, l3, l4, l5, l6]
  refine tk 9 (v := ?_) rfl (Or.inl ⟨by rfl, ?_⟩) ?_; rotate_left
  · intro w hSw; (try dsimp only at hSw); go_simp; try with_reducible rfl
  try simp only [Act.put, l1, l2, l3, l4, l5, l6]
  refine tk 10 (v := ?_) rfl (Or.inl ⟨by rfl, ?_⟩) ?_; rotate_left
  · intro w hSw; (try dsimp only at hSw); go_simp; try with_reducible rfl
  try simp only [Act.put, l1, l2, l3, l4, l5, l6]
  refine tk 11 (v := ?_) rfl (Or.inl ⟨by rfl, ?_⟩) ?_; rotate_left
  · intro w hSw; (try dsimp only at hSw); go_simp; try with_reducible rfl
  try simp only [Act.put, l1, l2, l3, l4, l5, l6]
  refine tk 12 (v := ?_) rfl (Or.inl ⟨by rfl, ?_⟩) ?_; rotate_left
  · intro w hSw; (try dsimp only at hSw); go_simp; try with_reducible rfl
  try simp only [Act.put, l1, l2, l3, l4, l5, l6]
  refine tk 13 (v := ?_) rfl (Or.inl ⟨by rfl, ?_⟩) ?_; rotate_left
  · intro w hSw; (try dsimp only at hSw); go_simp; try with_reducible rfl
  try simp only [Act.put, l1, l2, l3, l4, l5, l6]
  refine tk 16 (v := ?_) rfl (Or.inl ⟨by rfl, ?_⟩) ?_; rotate_left
  · intro w hSw; (try dsimp only at hSw); go_simp; try with_reducible rfl
  try simp only [Act.put, l1, l2, l3, l4, l5, l6]
  refine tk 17 (v := ?_) rfl (Or.inl ⟨by rfl, ?_⟩) ?_; rotate_left
  · intro w hSw; (try dsimp only at hSw); go_simp; try with_reducible rfl
  try simp only [Act.put, l1, l2, l3, l4, l5, l6]
  refine tk 18 (v := ?_) rfl (Or.inl ⟨by rfl, ?_⟩) ?_; rotate_left
  · intro w hSw; (try dsimp only at hSw); go_simp; try with_reducible rfl
  try simp only [Act.put, l1, l2, l3, l4, l5, l6]
  refine tk 20 (v := ?_) rfl (Or.inl ⟨by rfl, ?_⟩) ?_; rotate_left
  · intro w hSw; (try dsimp only at hSw); go_simp; try with_reducible rfl
  try simp only [Act.put, l1, l2, l3, l4, l5, l6]
  refine wpAnyH_ready (rs := [14]) (by kernel_rfl) (by simp) ?_
  refine AllReadyH.cons rfl (fun K hK => ?_) AllReadyH.nil
  have cxf := xf.f5
  have cxo := xo.f4
  have cxr := xr.f5
  have cxw := xw.f5
  go_simp
  refine (TC.out _).mono ?_
  rintro e V5 ⟨rfl, hk⟩
  clear cxf cxo cxr cxw
  replace hB := below_seq hB hk
  replace xf := xf.seq hk
  replace xo := xo.seq hk
  replace xr := xr.seq hk
  replace xw := xw.seq hk
  clear hk
  have cxf := xf.f5
  have cxo := xo.f4
  have cxr := xr.f5
  have cxw := xw.f5
  try go_wp2_with fail
  clear cxf cxo cxr cxw
  clear hHeld
  refine hK.out _ _ ?_ (fun hHeld => ?_)
  · exact ⟨xo.cell 0 rfl, xo.cell 1 rfl, xo.cell 2 rfl, xo.cell 3 rfl⟩
  clear hK K
  try simp only [Act.put, l1, l2, l3, l4, l5, l6]
  refine tk 15 (v := ?_) rfl (Or.inl ⟨by rfl, ?_⟩) ?_; rotate_left
  · intro w hSw; (try dsimp only at hSw); go_simp; try with_reducible rfl
  try simp only [Act.put, l1, l2, l3, l4, l5, l6]
  refine tk 19 (v := ?_) rfl (Or.inl ⟨by rfl, ?_⟩) ?_; rotate_left
  · intro w hSw; (try dsimp only at hSw); go_simp; try with_reducible rfl
  try simp only [Act.put, l1, l2, l3, l4, l5, l6]
  refine tk 21 (v := ?_) rfl (Or.inl ⟨by rfl, ?_⟩) ?_; rotate_left
  · intro w hSw; (try dsimp only at hSw); go_simp; try with_reducible rfl
  try simp only [Act.put, l1, l2, l3, l4, l5, l6]
  refine wpAnyH_ready (rs := [22]) (by kernel_rfl) (by simp) ?_
  refine AllReadyH.cons rfl (fun K hK => ?_) AllReadyH.nil
  have cxf := xf.f5
  have cxo := xo.f4
  have cxr := xr.f5
  have cxw := xw.f5
  go_simp
  try go_wp2_with fail
  clear cxf cxo cxr cxw
  replace xo : Box 46 (V5.setCell ⟨W.heap.size, 0, none⟩ (.string (f.b0.extract 0 p ++ A ++ f.b0.extract (p + d.size) f.b0.size))) (W.heap.size + 1) [.int .i64 1, .int .i64 0, .int .i64 (p : Int), .string d] := (xo.other (by omega) 0 (.string (f.b0.extract 0 p ++ A ++ f.b0.extract (p + d.size) f.b0.size)))
  replace xr : Box 25 (V5.setCell ⟨W.heap.size, 0, none⟩ (.string (f.b0.extract 0 p ++ A ++ f.b0.extract (p + d.size) f.b0.size))) (W.heap.size + 1 + 1) [.string ⟨#[]⟩, .string ⟨#[]⟩, .int .i64 0, .int .i64 0, .int .i64 0] := (xr.other (by omega) 0 (.string (f.b0.extract 0 p ++ A ++ f.b0.extract (p + d.size) f.b0.size)))
  replace xw := (xw.other (Ne.symm ne_xw_xf) 0 (.string (f.b0.extract 0 p ++ A ++ f.b0.extract (p + d.size) f.b0.size)))
  replace xf : Box 25 (V5.setCell ⟨W.heap.size, 0, none⟩ (.string (f.b0.extract 0 p ++ A ++ f.b0.extract (p + d.size) f.b0.size))) (W.heap.size) [.string (f.b0.extract 0 p ++ A ++ f.b0.extract (p + d.size) f.b0.size), .string f.b1, .int .i64 f.e0, .int .i64 f.e1, .int .i64 f.lim] := (xf.set 0 (.string (f.b0.extract 0 p ++ A ++ f.b0.extract (p + d.size) f.b0.size)))
  replace hB : Below W.heap.size W (V5.setCell ⟨W.heap.size, 0, none⟩ (.string (f.b0.extract 0 p ++ A ++ f.b0.extract (p + d.size) f.b0.size))) := (hB.setCell (Nat.le_refl _) _)
  generalize (V5.setCell ⟨W.heap.size, 0, none⟩ (.string (f.b0.extract 0 p ++ A ++ f.b0.extract (p + d.size) f.b0.size))) = V6 at *
  clear hHeld
  refine hK.out _ _ ?_ (fun hHeld => ?_)
  · exact ⟨xo.cell 0 rfl, xo.cell 1 rfl, xo.cell 2 rfl, xo.cell 3 rfl⟩
  clear hK K
  try simp only [Act.put, l1, l2, l3, l4, l5, l6]
  refine wpAnyH_done (by kernel_rfl) ?_ _
  clear hHeld
  have cxf := xf.f5
  have cxo := xo.f4
  have cxr := xr.f5
  have cxw := xw.f5
  go_wp2
  clear cxf cxo cxr cxw
  replace xf : Box 25 (((((V6.setCell ⟨W.heap.size + 1 + 1, 0, none⟩ (.string (f.b0.extract 0 p ++ A ++ f.b0.extract (p + d.size) f.b0.size))).setCell ⟨W.heap.size + 1 + 1, 1, none⟩ (.string f.b1)).setCell ⟨W.heap.size + 1 + 1, 2, none⟩ (.int .i64 f.e0)).setCell ⟨W.heap.size + 1 + 1, 3, none⟩ (.int .i64 f.e1)).setCell ⟨W.heap.size + 1 + 1, 4, none⟩ (.int .i64 f.lim)) (W.heap.size) [.string (f.b0.extract 0 p ++ A ++ f.b0.extract (p + d.size) f.b0.size), .string f.b1, .int .i64 f.e0, .int .i64 f.e1, .int .i64 f.lim] := (((((xf.other (by omega) 0 (.string (f.b0.extract 0 p ++ A ++ f.b0.extract (p + d.size) f.b0.size))).other (by omega) 1 (.string f.b1)).other (by omega) 2 (.int .i64 f.e0)).other (by omega) 3 (.int .i64 f.e1)).other (by omega) 4 (.int .i64 f.lim))
  replace xo : Box 46 (((((V6.setCell ⟨W.heap.size + 1 + 1, 0, none⟩ (.string (f.b0.extract 0 p ++ A ++ f.b0.extract (p + d.size) f.b0.size))).setCell ⟨W.heap.size + 1 + 1, 1, none⟩ (.string f.b1)).setCell ⟨W.heap.size + 1 + 1, 2, none⟩ (.int .i64 f.e0)).setCell ⟨W.heap.size + 1 + 1, 3, none⟩ (.int .i64 f.e1)).setCell ⟨W.heap.size + 1 + 1, 4, none⟩ (.int .i64 f.lim)) (W.heap.size + 1) [.int .i64 1, .int .i64 0, .int .i64 (p : Int), .string d] := (((((xo.other (by omega) 0 (.string (f.b0.extract 0 p ++ A ++ f.b0.extract (p + d.size) f.b0.size))).other (by omega) 1 (.string f.b1)).other (by omega) 2 (.int .i64 f.e0)).other (by omega) 3 (.int .i64 f.e1)).other (by omega) 4 (.int .i64 f.lim))
  replace xw := (((((xw.other (Ne.symm ne_xw_xr) 0 (.string (f.b0.extract 0 p ++ A ++ f.b0.extract (p + d.size) f.b0.size))).other (Ne.symm ne_xw_xr) 1 (.string f.b1)).other (Ne.symm ne_xw_xr) 2 (.int .i64 f.e0)).other (Ne.symm ne_xw_xr) 3 (.int .i64 f.e1)).other (Ne.symm ne_xw_xr) 4 (.int .i64 f.lim))
  replace xr : Box 25 (((((V6.setCell ⟨W.heap.size + 1 + 1, 0, none⟩ (.string (f.b0.extract 0 p ++ A ++ f.b0.extract (p + d.size) f.b0.size))).setCell ⟨W.heap.size + 1 + 1, 1, none⟩ (.string f.b1)).setCell ⟨W.heap.size + 1 + 1, 2, none⟩ (.int .i64 f.e0)).setCell ⟨W.heap.size + 1 + 1, 3, none⟩ (.int .i64 f.e1)).setCell ⟨W.heap.size + 1 + 1, 4, none⟩ (.int .i64 f.lim)) (W.heap.size + 1 + 1) [.string (f.b0.extract 0 p ++ A ++ f.b0.extract (p + d.size) f.b0.size), .string f.b1, .int .i64 f.e0, .int .i64 f.e1, .int .i64 f.lim] := (((((xr.set 0 (.string (f.b0.extract 0 p ++ A ++ f.b0.extract (p + d.size) f.b0.size))).set 1 (.string f.b1)).set 2 (.int .i64 f.e0)).set 3 (.int .i64 f.e1)).set 4 (.int .i64 f.lim))
  replace hB : Below W.heap.size W (((((V6.setCell ⟨W.heap.size + 1 + 1, 0, none⟩ (.string (f.b0.extract 0 p ++ A ++ f.b0.extract (p + d.size) f.b0.size))).setCell ⟨W.heap.size + 1 + 1, 1, none⟩ (.string f.b1)).setCell ⟨W.heap.size + 1 + 1, 2, none⟩ (.int .i64 f.e0)).setCell ⟨W.heap.size + 1 + 1, 3, none⟩ (.int .i64 f.e1)).setCell ⟨W.heap.size + 1 + 1, 4, none⟩ (.int .i64 f.lim)) := (((((hB.setCell le_xr _).setCell le_xr _).setCell le_xr _).setCell le_xr _).setCell le_xr _)
  generalize (((((V6.setCell ⟨W.heap.size + 1 + 1, 0, none⟩ (.string (f.b0.extract 0 p ++ A ++ f.b0.extract (p + d.size) f.b0.size))).setCell ⟨W.heap.size + 1 + 1, 1, none⟩ (.string f.b1)).setCell ⟨W.heap.size + 1 + 1, 2, none⟩ (.int .i64 f.e0)).setCell ⟨W.heap.size + 1 + 1, 3, none⟩ (.int .i64 f.e1)).setCell ⟨W.heap.size + 1 + 1, 4, none⟩ (.int .i64 f.lim)) = V7 at *
  have cxf := xf.f5
  have cxo := xo.f4
  have cxr := xr.f5
  have cxw := xw.f5
  exact bodyPost_ret (v := .tuple #[.agg #[.string (f.b0.extract 0 p ++ A ++ f.b0.extract (p + d.size) f.b0.size), .string f.b1, .int .i64 f.e0, .int .i64 f.e1, .int .i64 f.lim], .int .i64 0]) (by simp [results, Tryz.results26, go_sem, cxr]) rfl ⟨rfl, hB⟩

set_option maxRecDepth 100000 in
set_option maxHeartbeats 4000000 in
theorem pwTear1_1 (f : Fl) (p : Nat) (d m : ByteArray) (W : World) (hf : f.fit) (hd : d.size ≤ maxLen) (hm : m.size ≤ maxLen) (he : progErr f 1 (p : Int) d = 0) (hb : p + d.size ≤ f.b1.size) :
    Calls Tryz.prog 26 #[.agg #[.string f.b0, .string f.b1, .int .i64 f.e0, .int .i64 f.e1, .int .i64 f.lim], .agg #[.int .i64 1, .int .i64 1, .int .i64 (p : Int), .string d], .string m] W fun e W' => e = .returned (.tuple #[.agg #[.string f.b0, .string (spliceT f.b1 p d m), .int .i64 f.e0, .int .i64 f.e1, .int .i64 f.lim], .int .i64 0]) ∧ Below W.heap.size W W' := by
  have hs : f.b1.size ≤ 140737488351232 := hf.z1
  have TD := Lib.hid (fun (W : World) => (show Calls Tryz.prog 25 #[.agg #[.string f.b0, .string f.b1, .int .i64 f.e0, .int .i64 f.e1, .int .i64 f.lim], .agg #[.int .i64 1, .int .i64 1, .int .i64 (p : Int), .string d]] W fun e W' => e = .returned (.tuple #[.agg #[.string (progF f 1 (p : Int) d).b0, .string (progF f 1 (p : Int) d).b1, .int .i64 (progF f 1 (p : Int) d).e0, .int .i64 (progF f 1 (p : Int) d).e1, .int .i64 (progF f 1 (p : Int) d).lim], .int .i64 0]) ∧ Below W.heap.size W W' from by have h := pwDo1 f 1 (p : Int) d W hf hd (by omega); rwa [he] at h))
  generalize progF f 1 (p : Int) d = g at *
  have TC := Lib.hid (fun (W : World) => clrTorn (f.b1.extract p (p + d.size)) d m W (by simp; omega) (by unfold maxLen; omega) hm)
  have HS := (show spliceT f.b1 p d m = f.b1.extract 0 p ++ tornB (f.b1.extract p (p + d.size)) d m ++ f.b1.extract (p + d.size) f.b1.size from rfl)
  have zA : (tornB (f.b1.extract p (p + d.size)) d m).size ≤ f.b1.size := by rw [tornB_size]; simp; omega
  rw [HS]
  clear HS he
  generalize tornB (f.b1.extract p (p + d.size)) d m = A at *
  have g1 : ¬ 9223372036854775807 < p + A.size := by omega
  have g2 : ¬ 9223372036854775807 < p + A.size + (f.b1.size - (p + d.size)) := by omega
  have g3 : ¬ 9223372036854775807 < min p f.b1.size + A.size := by omega
  have g4 : ¬ 9223372036854775807 < min p f.b1.size + A.size + (f.b1.size - (p + d.size)) := by omega
  have i1 : (p : Int) ≤ (f.b1.size : Int) := by omega
  have i3 : (p : Int) + (d.size : Int) ≤ (f.b1.size : Int) := by omega
  have i4 : (0 : Int) ≤ (p : Int) + (d.size : Int) := by omega
  have i5 : ((p : Int) + (d.size : Int)).toNat = p + d.size := by omega
  have i7 : p ≤ f.b1.size := by omega
  have i9 : (0 : Int) ≤ (p : Int) := by omega
  have i6 : (p : Int) ≤ (p : Int) + (d.size : Int) := by omega
  have w1 : IntKind.i64.wrap ((p : Int) + (d.size : Int)) = (p : Int) + (d.size : Int) := IntWalk.i64_in _ (by omega)
  have hB : Below W.heap.size W (((W.alloc (.cells #[.string f.b0, .string f.b1, .int .i64 f.e0, .int .i64 f.e1, .int .i64 f.lim] 25)).alloc (.cells #[.int .i64 1, .int .i64 1, .int .i64 (p : Int), .string d] 46)).alloc (.cells #[.string ⟨#[]⟩, .string ⟨#[]⟩, .int .i64 0, .int .i64 0, .int .i64 0] 25)) := ((((Below.refl _ _).alloc (Nat.le_refl _) _).alloc (by simp) _).alloc (by simp; omega) _)
  have xf := (((Box.new 25 W [.string f.b0, .string f.b1, .int .i64 f.e0, .int .i64 f.e1, .int .i64 f.lim]).alloc (.cells #[.int .i64 1, .int .i64 1, .int .i64 (p : Int), .string d] 46)).alloc (.cells #[.string ⟨#[]⟩, .string ⟨#[]⟩, .int .i64 0, .int .i64 0, .int .i64 0] 25))
  have xo : Box 46 (((W.alloc (.cells #[.string f.b0, .string f.b1, .int .i64 f.e0, .int .i64 f.e1, .int .i64 f.lim] 25)).alloc (.cells #[.int .i64 1, .int .i64 1, .int .i64 (p : Int), .string d] 46)).alloc (.cells #[.string ⟨#[]⟩, .string ⟨#[]⟩, .int .i64 0, .int .i64 0, .int .i64 0] 25)) (W.heap.size + 1) [.int .i64 1, .int .i64 1, .int .i64 (p : Int), .string d] := by have h := ((Box.new 46 (W.alloc (.cells #[.string f.b0, .string f.b1, .int .i64 f.e0, .int .i64 f.e1, .int .i64 f.lim] 25)) [.int .i64 1, .int .i64 1, .int .i64 (p : Int), .string d]).alloc (.cells #[.string ⟨#[]⟩, .string ⟨#[]⟩, .int .i64 0, .int .i64 0, .int .i64 0] 25)); rwa [World.size_alloc] at h
  have le_xo : W.heap.size ≤ W.heap.size + 1 := by omega
  have xr : Box 25 (((W.alloc (.cells #[.string f.b0, .string f.b1, .int .i64 f.e0, .int .i64 f.e1, .int .i64 f.lim] 25)).alloc (.cells #[.int .i64 1, .int .i64 1, .int .i64 (p : Int), .string d] 46)).alloc (.cells #[.string ⟨#[]⟩, .string ⟨#[]⟩, .int .i64 0, .int .i64 0, .int .i64 0] 25)) (W.heap.size + 1 + 1) [.string ⟨#[]⟩, .string ⟨#[]⟩, .int .i64 0, .int .i64 0, .int .i64 0] := by have h := (Box.new 25 ((W.alloc (.cells #[.string f.b0, .string f.b1, .int .i64 f.e0, .int .i64 f.e1, .int .i64 f.lim] 25)).alloc (.cells #[.int .i64 1, .int .i64 1, .int .i64 (p : Int), .string d] 46)) [.string ⟨#[]⟩, .string ⟨#[]⟩, .int .i64 0, .int .i64 0, .int .i64 0]); rwa [World.size_alloc, World.size_alloc] at h
  have le_xr : W.heap.size ≤ W.heap.size + 1 + 1 := by omega
  go_enter Tryz.func26, Tryz.ntmps26
  go_wp2_with fail
  refine (TD.out _).mono ?_
  rintro e V1 ⟨rfl, hk⟩
  replace hB := below_seq hB hk
  replace xf := xf.seq hk
  replace xo := xo.seq hk
  replace xr := xr.seq hk
  clear hk
  have xw := Box.new 25 V1 [.string g.b0, .string g.b1, .int .i64 g.e0, .int .i64 g.e1, .int .i64 g.lim]
  have ne_xw_xf : V1.heap.size ≠ W.heap.size := Nat.ne_of_gt xf.lt
  have ne_xw_xo : V1.heap.size ≠ W.heap.size + 1 := Nat.ne_of_gt xo.lt
  have ne_xw_xr : V1.heap.size ≠ W.heap.size + 1 + 1 := Nat.ne_of_gt xr.lt
  have le_xw : W.heap.size ≤ V1.heap.size := hB.size
  replace xf := xf.alloc (.cells #[.string g.b0, .string g.b1, .int .i64 g.e0, .int .i64 g.e1, .int .i64 g.lim] 25)
  replace xo := xo.alloc (.cells #[.string g.b0, .string g.b1, .int .i64 g.e0, .int .i64 g.e1, .int .i64 g.lim] 25)
  replace xr := xr.alloc (.cells #[.string g.b0, .string g.b1, .int .i64 g.e0, .int .i64 g.e1, .int .i64 g.lim] 25)
  replace hB := hB.alloc hB.size (.cells #[.string g.b0, .string g.b1, .int .i64 g.e0, .int .i64 g.e1, .int .i64 g.lim] 25)
  have cxf := xf.f5
  have cxo := xo.f4
  have cxr := xr.f5
  have cxw := xw.f5
  go_wp2_with fail
  generalize (V1.alloc (.cells #[.string g.b0, .string g.b1, .int .i64 g.e0, .int .i64 g.e1, .int .i64 g.lim] 25)) = V2 at *
  go_quiet (fail)
  clear cxf cxo cxr cxw
  replace hB := below_drewN0 hB nq
  replace xf := xf.drewN nq
  replace xo := xo.drewN nq
  replace xr := xr.drewN nq
  replace xw := xw.drewN nq
  generalize (V2.drewN nq) = V3 at *
  have cxf := xf.f5
  have cxo := xo.f4
  have cxr := xr.f5
  have cxw := xw.f5
  go_wp2_with fail
  clear cxf cxo cxr cxw
  replace hB := hB.drew
  replace xf := xf.drew
  replace xo := xo.drew
  replace xr := xr.drew
  replace xw := xw.drew
  refine wp_region_held_drew (S := fun w' => w'.cell? ⟨W.heap.size + 1, 0, none⟩ = some (.int .i64 1) ∧ w'.cell? ⟨W.heap.size + 1, 1, none⟩ = some (.int .i64 1) ∧ w'.cell? ⟨W.heap.size + 1, 2, none⟩ = some (.int .i64 (p : Int)) ∧ w'.cell? ⟨W.heap.size + 1, 3, none⟩ = some (.string d)) (by kernel_rfl) ?_ (fun hHeld => ?_)
  · exact ⟨xo.cell 0 rfl, xo.cell 1 rfl, xo.cell 2 rfl, xo.cell 3 rfl⟩
  generalize V3.drew = V4 at *
  refine tk 0 (v := ?_) rfl (Or.inl ⟨by rfl, ?_⟩) ?_; rotate_left
  · intro w hSw; (try dsimp only at hSw); go_simp; try with_reducible rfl
  try simp only [Act.put, l1, l2, l3, l4, l5, l6]
  refine tk 1 (v := ?_) rfl (Or.inl ⟨by rfl, ?_⟩) ?_; rotate_left
  · intro w hSw; (try dsimp only at hSw); go_simp; try with_reducible rfl
  try simp only [Act.put, l1, l2, l3, l4, l5, l6]
  refine tk 2 (v := ?_) rfl (Or.inl ⟨by rfl, ?_⟩) ?_; rotate_left
  · intro w hSw; (try dsimp only at hSw); go_simp; try with_reducible rfl
  try simp only [Act.put, l1, l2, l3, l4, l5, l6]
  refine tk 3 (v := ?_) rfl (Or.inl ⟨by rfl, ?_⟩) ?_; rotate_left
  · intro w hSw; (try dsimp only at hSw); go_simp; try with_reducible rfl
  try simp only [Act.put, l1, l2, l3, l4, l5, l6]
  refine tk 4 (v := ?_) rfl (Or.inl ⟨by rfl, ?_⟩) ?_; rotate_left
  · intro w hSw; (try dsimp only at hSw); go_simp; try with_reducible rfl
  try simp only [Act.put, l1, l2, l3, l4, l5, l6]
  refine tk 5 (v := ?_) rfl (Or.inl ⟨by rfl, ?_⟩) ?_; rotate_left
  · intro w hSw; (try dsimp only at hSw); go_simp; try with_reducible rfl
  try simp only [Act.put, l1, l2, l3, l4, l5, l6]
  refine tk 6 (v := ?_) rfl (Or.inl ⟨by rfl, ?_⟩) ?_; rotate_left
  · intro w hSw; (try dsimp only at hSw); go_simp; try with_reducible rfl
  try simp only [Act.put, l1, l2, l3, l4, l5, l6]
  refine tk 7 (v := ?_) rfl (Or.inl ⟨by rfl, ?_⟩) ?_; rotate_left
  · intro w hSw; (try dsimp only at hSw); go_simp; try with_reducible rfl
  try simp only [Act.put, l1, l2, l3, l4, l5, l6]
  refine tk 8 (v := ?_) rfl (Or.inl ⟨by rfl, ?_⟩) ?_; rotate_left
  · intro w hSw; (try dsimp only at hSw); go_simp; try with_reducible rfl
  try simp only [Act.put, l1, l2, l3, l4, l5, l6]
  refine tk 9 (v := ?_) rfl (Or.inl ⟨by rfl, ?_⟩) ?_; rotate_left
  · intro w hSw; (try dsimp only at hSw); go_simp; try with_reducible rfl
  try simp only [Act.put, l1, l2, l3, l4, l5, l6]
  refine tk 10 (v := ?_) rfl (Or.inl ⟨by rfl, ?_⟩) ?_; rotate_left
  · intro w hSw; (try dsimp only at hSw); go_simp; try with_reducible rfl
  try simp only [Act.put, l1, l2, l3, l4, l5, l6]
  refine tk 11 (v := ?_) rfl (Or.inl ⟨by rfl, ?_⟩) ?_; rotate_left
  · intro w hSw; (try dsimp only at hSw); go_simp; try with_reducible rfl
  try simp only [Act.put, l1, l2, l3, l4, l5, l6]
  refine tk 12 (v := ?_) rfl (Or.inl ⟨by rfl, ?_⟩) ?_; rotate_left
  · intro w hSw; (try dsimp only at hSw); go_simp; try with_reducible rfl
  try simp only [Act.put, l1, l2, l3, l4, l5, l6]
  refine tk 13 (v := ?_) rfl (Or.inl ⟨by rfl, ?_⟩) ?_; rotate_left
  · intro w hSw; (try dsimp only at hSw); go_simp; try with_reducible rfl
  try simp only [Act.put, l1, l2, l3, l4, l5, l6]
  refine tk 16 (v := ?_) rfl (Or.inl ⟨by rfl, ?_⟩) ?_; rotate_left
  · intro w hSw; (try dsimp only at hSw); go_simp; try with_reducible rfl
  try simp only [Act.put, l1, l2, l3, l4, l5, l6]
  refine tk 17 (v := ?_) rfl (Or.inl ⟨by rfl, ?_⟩) ?_; rotate_left
  · intro w hSw; (try dsimp only at hSw); go_simp; try with_reducible rfl
  try simp only [Act.put, l1, l2, l3, l4, l5, l6]
  refine tk 18 (v := ?_) rfl (Or.inl ⟨by rfl, ?_⟩) ?_; rotate_left
  · intro w hSw; (try dsimp only at hSw); go_simp; try with_reducible rfl
  try simp only [Act.put, l1, l2, l3, l4, l5, l6]
  refine tk 20 (v := ?_) rfl (Or.inl ⟨by rfl, ?_⟩) ?_; rotate_left
  · intro w hSw; (try dsimp only at hSw); go_simp; try with_reducible rfl
  try simp only [Act.put, l1, l2, l3, l4, l5, l6]
  refine wpAnyH_ready (rs := [14]) (by kernel_rfl) (by simp) ?_
  refine AllReadyH.cons rfl (fun K hK => ?_) AllReadyH.nil
  have cxf := xf.f5
  have cxo := xo.f4
  have cxr := xr.f5
  have cxw := xw.f5
  go_simp
  refine (TC.out _).mono ?_
  rintro e V5 ⟨rfl, hk⟩
  clear cxf cxo cxr cxw
  replace hB := below_seq hB hk
  replace xf := xf.seq hk
  replace xo := xo.seq hk
  replace xr := xr.seq hk
  replace xw := xw.seq hk
  clear hk
  have cxf := xf.f5
  have cxo := xo.f4
  have cxr := xr.f5
  have cxw := xw.f5
  try go_wp2_with fail
  clear cxf cxo cxr cxw
  clear hHeld
  refine hK.out _ _ ?_ (fun hHeld => ?_)
  · exact ⟨xo.cell 0 rfl, xo.cell 1 rfl, xo.cell 2 rfl, xo.cell 3 rfl⟩
  clear hK K
  try simp only [Act.put, l1, l2, l3, l4, l5, l6]
  refine tk 15 (v := ?_) rfl (Or.inl ⟨by rfl, ?_⟩) ?_; rotate_left
  · intro w hSw; (try dsimp only at hSw); go_simp; try with_reducible rfl
  try simp only [Act.put, l1, l2, l3, l4, l5, l6]
  refine tk 19 (v := ?_) rfl (Or.inl ⟨by rfl, ?_⟩) ?_; rotate_left
  · intro w hSw; (try dsimp only at hSw); go_simp; try with_reducible rfl
  try simp only [Act.put, l1, l2, l3, l4, l5, l6]
  refine tk 21 (v := ?_) rfl (Or.inl ⟨by rfl, ?_⟩) ?_; rotate_left
  · intro w hSw; (try dsimp only at hSw); go_simp; try with_reducible rfl
  try simp only [Act.put, l1, l2, l3, l4, l5, l6]
  refine wpAnyH_ready (rs := [22]) (by kernel_rfl) (by simp) ?_
  refine AllReadyH.cons rfl (fun K hK => ?_) AllReadyH.nil
  have cxf := xf.f5
  have cxo := xo.f4
  have cxr := xr.f5
  have cxw := xw.f5
  go_simp
  try go_wp2_with fail
  clear cxf cxo cxr cxw
  replace xo : Box 46 (V5.setCell ⟨W.heap.size, 1, none⟩ (.string (f.b1.extract 0 p ++ A ++ f.b1.extract (p + d.size) f.b1.size))) (W.heap.size + 1) [.int .i64 1, .int .i64 1, .int .i64 (p : Int), .string d] := (xo.other (by omega) 1 (.string (f.b1.extract 0 p ++ A ++ f.b1.extract (p + d.size) f.b1.size)))
  replace xr : Box 25 (V5.setCell ⟨W.heap.size, 1, none⟩ (.string (f.b1.extract 0 p ++ A ++ f.b1.extract (p + d.size) f.b1.size))) (W.heap.size + 1 + 1) [.string ⟨#[]⟩, .string ⟨#[]⟩, .int .i64 0, .int .i64 0, .int .i64 0] := (xr.other (by omega) 1 (.string (f.b1.extract 0 p ++ A ++ f.b1.extract (p + d.size) f.b1.size)))
  replace xw := (xw.other (Ne.symm ne_xw_xf) 1 (.string (f.b1.extract 0 p ++ A ++ f.b1.extract (p + d.size) f.b1.size)))
  replace xf : Box 25 (V5.setCell ⟨W.heap.size, 1, none⟩ (.string (f.b1.extract 0 p ++ A ++ f.b1.extract (p + d.size) f.b1.size))) (W.heap.size) [.string f.b0, .string (f.b1.extract 0 p ++ A ++ f.b1.extract (p + d.size) f.b1.size), .int .i64 f.e0, .int .i64 f.e1, .int .i64 f.lim] := (xf.set 1 (.string (f.b1.extract 0 p ++ A ++ f.b1.extract (p + d.size) f.b1.size)))
  replace hB : Below W.heap.size W (V5.setCell ⟨W.heap.size, 1, none⟩ (.string (f.b1.extract 0 p ++ A ++ f.b1.extract (p + d.size) f.b1.size))) := (hB.setCell (Nat.le_refl _) _)
  generalize (V5.setCell ⟨W.heap.size, 1, none⟩ (.string (f.b1.extract 0 p ++ A ++ f.b1.extract (p + d.size) f.b1.size))) = V6 at *
  clear hHeld
  refine hK.out _ _ ?_ (fun hHeld => ?_)
  · exact ⟨xo.cell 0 rfl, xo.cell 1 rfl, xo.cell 2 rfl, xo.cell 3 rfl⟩
  clear hK K
  try simp only [Act.put, l1, l2, l3, l4, l5, l6]
  refine wpAnyH_done (by kernel_rfl) ?_ _
  clear hHeld
  have cxf := xf.f5
  have cxo := xo.f4
  have cxr := xr.f5
  have cxw := xw.f5
  go_wp2
  clear cxf cxo cxr cxw
  replace xf : Box 25 (((((V6.setCell ⟨W.heap.size + 1 + 1, 0, none⟩ (.string f.b0)).setCell ⟨W.heap.size + 1 + 1, 1, none⟩ (.string (f.b1.extract 0 p ++ A ++ f.b1.extract (p + d.size) f.b1.size))).setCell ⟨W.heap.size + 1 + 1, 2, none⟩ (.int .i64 f.e0)).setCell ⟨W.heap.size + 1 + 1, 3, none⟩ (.int .i64 f.e1)).setCell ⟨W.heap.size + 1 + 1, 4, none⟩ (.int .i64 f.lim)) (W.heap.size) [.string f.b0, .string (f.b1.extract 0 p ++ A ++ f.b1.extract (p + d.size) f.b1.size), .int .i64 f.e0, .int .i64 f.e1, .int .i64 f.lim] := (((((xf.other (by omega) 0 (.string f.b0)).other (by omega) 1 (.string (f.b1.extract 0 p ++ A ++ f.b1.extract (p + d.size) f.b1.size))).other (by omega) 2 (.int .i64 f.e0)).other (by omega) 3 (.int .i64 f.e1)).other (by omega) 4 (.int .i64 f.lim))
  replace xo : Box 46 (((((V6.setCell ⟨W.heap.size + 1 + 1, 0, none⟩ (.string f.b0)).setCell ⟨W.heap.size + 1 + 1, 1, none⟩ (.string (f.b1.extract 0 p ++ A ++ f.b1.extract (p + d.size) f.b1.size))).setCell ⟨W.heap.size + 1 + 1, 2, none⟩ (.int .i64 f.e0)).setCell ⟨W.heap.size + 1 + 1, 3, none⟩ (.int .i64 f.e1)).setCell ⟨W.heap.size + 1 + 1, 4, none⟩ (.int .i64 f.lim)) (W.heap.size + 1) [.int .i64 1, .int .i64 1, .int .i64 (p : Int), .string d] := (((((xo.other (by omega) 0 (.string f.b0)).other (by omega) 1 (.string (f.b1.extract 0 p ++ A ++ f.b1.extract (p + d.size) f.b1.size))).other (by omega) 2 (.int .i64 f.e0)).other (by omega) 3 (.int .i64 f.e1)).other (by omega) 4 (.int .i64 f.lim))
  replace xw := (((((xw.other (Ne.symm ne_xw_xr) 0 (.string f.b0)).other (Ne.symm ne_xw_xr) 1 (.string (f.b1.extract 0 p ++ A ++ f.b1.extract (p + d.size) f.b1.size))).other (Ne.symm ne_xw_xr) 2 (.int .i64 f.e0)).other (Ne.symm ne_xw_xr) 3 (.int .i64 f.e1)).other (Ne.symm ne_xw_xr) 4 (.int .i64 f.lim))
  replace xr : Box 25 (((((V6.setCell ⟨W.heap.size + 1 + 1, 0, none⟩ (.string f.b0)).setCell ⟨W.heap.size + 1 + 1, 1, none⟩ (.string (f.b1.extract 0 p ++ A ++ f.b1.extract (p + d.size) f.b1.size))).setCell ⟨W.heap.size + 1 + 1, 2, none⟩ (.int .i64 f.e0)).setCell ⟨W.heap.size + 1 + 1, 3, none⟩ (.int .i64 f.e1)).setCell ⟨W.heap.size + 1 + 1, 4, none⟩ (.int .i64 f.lim)) (W.heap.size + 1 + 1) [.string f.b0, .string (f.b1.extract 0 p ++ A ++ f.b1.extract (p + d.size) f.b1.size), .int .i64 f.e0, .int .i64 f.e1, .int .i64 f.lim] := (((((xr.set 0 (.string f.b0)).set 1 (.string (f.b1.extract 0 p ++ A ++ f.b1.extract (p + d.size) f.b1.size))).set 2 (.int .i64 f.e0)).set 3 (.int .i64 f.e1)).set 4 (.int .i64 f.lim))
  replace hB : Below W.heap.size W (((((V6.setCell ⟨W.heap.size + 1 + 1, 0, none⟩ (.string f.b0)).setCell ⟨W.heap.size + 1 + 1, 1, none⟩ (.string (f.b1.extract 0 p ++ A ++ f.b1.extract (p + d.size) f.b1.size))).setCell ⟨W.heap.size + 1 + 1, 2, none⟩ (.int .i64 f.e0)).setCell ⟨W.heap.size + 1 + 1, 3, none⟩ (.int .i64 f.e1)).setCell ⟨W.heap.size + 1 + 1, 4, none⟩ (.int .i64 f.lim)) := (((((hB.setCell le_xr _).setCell le_xr _).setCell le_xr _).setCell le_xr _).setCell le_xr _)
  generalize (((((V6.setCell ⟨W.heap.size + 1 + 1, 0, none⟩ (.string f.b0)).setCell ⟨W.heap.size + 1 + 1, 1, none⟩ (.string (f.b1.extract 0 p ++ A ++ f.b1.extract (p + d.size) f.b1.size))).setCell ⟨W.heap.size + 1 + 1, 2, none⟩ (.int .i64 f.e0)).setCell ⟨W.heap.size + 1 + 1, 3, none⟩ (.int .i64 f.e1)).setCell ⟨W.heap.size + 1 + 1, 4, none⟩ (.int .i64 f.lim)) = V7 at *
  have cxf := xf.f5
  have cxo := xo.f4
  have cxr := xr.f5
  have cxw := xw.f5
  exact bodyPost_ret (v := .tuple #[.agg #[.string f.b0, .string (f.b1.extract 0 p ++ A ++ f.b1.extract (p + d.size) f.b1.size), .int .i64 f.e0, .int .i64 f.e1, .int .i64 f.lim], .int .i64 0]) (by simp [results, Tryz.results26, go_sem, cxr]) rfl ⟨rfl, hB⟩

set_option maxRecDepth 100000 in
set_option maxHeartbeats 4000000 in
theorem pwTear2_0 (f : Fl) (q : Int) (d m : ByteArray) (W : World) (hf : f.fit) (hd : d.size ≤ maxLen) (hq : q ≤ 9223372036854775807) (hm : m.size ≤ maxLen) (he : eraseErr f 0 = 0) :
    Calls Tryz.prog 26 #[.agg #[.string f.b0, .string f.b1, .int .i64 f.e0, .int .i64 f.e1, .int .i64 f.lim], .agg #[.int .i64 2, .int .i64 0, .int .i64 q, .string d], .string m] W fun e W' => e = .returned (.tuple #[.agg #[.string (eraT f.b0 m), .string f.b1, .int .i64 (f.e0 + 1), .int .i64 f.e1, .int .i64 f.lim], .int .i64 0]) ∧ Below W.heap.size W W' := by
  have hs : f.b0.size ≤ 140737488351232 := hf.z0
  have hg : eraseF f 0 = ⟨blankT f.b0.size, f.b1, f.e0 + 1, f.e1, f.lim⟩ := by rw [eraseF_banks he]; rfl
  have TD := Lib.hid (fun (W : World) => (show Calls Tryz.prog 25 #[.agg #[.string f.b0, .string f.b1, .int .i64 f.e0, .int .i64 f.e1, .int .i64 f.lim], .agg #[.int .i64 2, .int .i64 0, .int .i64 q, .string d]] W fun e W' => e = .returned (.tuple #[.agg #[.string (blankT f.b0.size), .string f.b1, .int .i64 (f.e0 + 1), .int .i64 f.e1, .int .i64 f.lim], .int .i64 0]) ∧ Below W.heap.size W W' from by have h := pwDo2 f 0 q d W hf hd hq; rwa [he, hg] at h))
  have TU := Lib.hid (fun (W : World) => pwUnreached m f.b0.size W hm hs)
  have HS := era_splice f.b0 m
  have zU : (unrT m f.b0.size).size ≤ maxLen := by rw [unrT_size]; unfold maxLen; omega
  have zB : (blankT f.b0.size).size = f.b0.size := blankT_size' _
  rw [← HS]
  clear HS he hg
  generalize unrT m f.b0.size = U at *
  generalize blankT f.b0.size = B at *
  have TC := Lib.hid (fun (W : World) => clrTorn (B.extract 0 f.b0.size) f.b0 U W (by simp; omega) (by unfold maxLen; omega) zU)
  have HS : spliceT B 0 f.b0 U = tornB (B.extract 0 f.b0.size) f.b0 U ++ B.extract f.b0.size B.size := by
    show B.extract 0 0 ++ tornB (B.extract 0 (0 + f.b0.size)) f.b0 U ++ B.extract (0 + f.b0.size) B.size = _
    rw [Nat.zero_add]
    simp
  have zA : (tornB (B.extract 0 f.b0.size) f.b0 U).size ≤ B.size := by rw [tornB_size]; simp; omega
  rw [HS]
  clear HS
  generalize tornB (B.extract 0 f.b0.size) f.b0 U = A at *
  have hs2 : B.size ≤ 140737488351232 := by omega
  have w1 : IntKind.i64.wrap (f.b0.size : Int) = (f.b0.size : Int) := IntWalk.i64_in _ (by omega)
  have i0 : (0 : Int) ≤ (f.b0.size : Int) := by omega
  have i1 : (f.b0.size : Int) ≤ (B.size : Int) := by omega
  have i2 : f.b0.size ≤ B.size := by omega
  have g1 : ¬ 9223372036854775807 < A.size := by omega
  have g2 : ¬ 9223372036854775807 < A.size + (B.size - f.b0.size) := by omega
  clear zB
  have hB : Below W.heap.size W (((W.alloc (.cells #[.string f.b0, .string f.b1, .int .i64 f.e0, .int .i64 f.e1, .int .i64 f.lim] 25)).alloc (.cells #[.int .i64 2, .int .i64 0, .int .i64 q, .string d] 46)).alloc (.cells #[.string ⟨#[]⟩, .string ⟨#[]⟩, .int .i64 0, .int .i64 0, .int .i64 0] 25)) := ((((Below.refl _ _).alloc (Nat.le_refl _) _).alloc (by simp) _).alloc (by simp; omega) _)
  have xf := (((Box.new 25 W [.string f.b0, .string f.b1, .int .i64 f.e0, .int .i64 f.e1, .int .i64 f.lim]).alloc (.cells #[.int .i64 2, .int .i64 0, .int .i64 q, .string d] 46)).alloc (.cells #[.string ⟨#[]⟩, .string ⟨#[]⟩, .int .i64 0, .int .i64 0, .int .i64 0] 25))
  have xo : Box 46 (((W.alloc (.cells #[.string f.b0, .string f.b1, .int .i64 f.e0, .int .i64 f.e1, .int .i64 f.lim] 25)).alloc (.cells #[.int .i64 2, .int .i64 0, .int .i64 q, .string d] 46)).alloc (.cells #[.string ⟨#[]⟩, .string ⟨#[]⟩, .int .i64 0, .int .i64 0, .int .i64 0] 25)) (W.heap.size + 1) [.int .i64 2, .int .i64 0, .int .i64 q, .string d] := by have h := ((Box.new 46 (W.alloc (.cells #[.string f.b0, .string f.b1, .int .i64 f.e0, .int .i64 f.e1, .int .i64 f.lim] 25)) [.int .i64 2, .int .i64 0, .int .i64 q, .string d]).alloc (.cells #[.string ⟨#[]⟩, .string ⟨#[]⟩, .int .i64 0, .int .i64 0, .int .i64 0] 25)); rwa [World.size_alloc] at h
  have le_xo : W.heap.size ≤ W.heap.size + 1 := by omega
  have xr : Box 25 (((W.alloc (.cells #[.string f.b0, .string f.b1, .int .i64 f.e0, .int .i64 f.e1, .int .i64 f.lim] 25)).alloc (.cells #[.int .i64 2, .int .i64 0, .int .i64 q, .string d] 46)).alloc (.cells #[.string ⟨#[]⟩, .string ⟨#[]⟩, .int .i64 0, .int .i64 0, .int .i64 0] 25)) (W.heap.size + 1 + 1) [.string ⟨#[]⟩, .string ⟨#[]⟩, .int .i64 0, .int .i64 0, .int .i64 0] := by have h := (Box.new 25 ((W.alloc (.cells #[.string f.b0, .string f.b1, .int .i64 f.e0, .int .i64 f.e1, .int .i64 f.lim] 25)).alloc (.cells #[.int .i64 2, .int .i64 0, .int .i64 q, .string d] 46)) [.string ⟨#[]⟩, .string ⟨#[]⟩, .int .i64 0, .int .i64 0, .int .i64 0]); rwa [World.size_alloc, World.size_alloc] at h
  have le_xr : W.heap.size ≤ W.heap.size + 1 + 1 := by omega
  go_enter Tryz.func26, Tryz.ntmps26
  go_wp2_with fail
  refine (TD.out _).mono ?_
  rintro e V1 ⟨rfl, hk⟩
  replace hB := below_seq hB hk
  replace xf := xf.seq hk
  replace xo := xo.seq hk
  replace xr := xr.seq hk
  clear hk
  have xw := Box.new 25 V1 [.string B, .string f.b1, .int .i64 (f.e0 + 1), .int .i64 f.e1, .int .i64 f.lim]
  have ne_xw_xf : V1.heap.size ≠ W.heap.size := Nat.ne_of_gt xf.lt
  have ne_xw_xo : V1.heap.size ≠ W.heap.size + 1 := Nat.ne_of_gt xo.lt
  have ne_xw_xr : V1.heap.size ≠ W.heap.size + 1 + 1 := Nat.ne_of_gt xr.lt
  have le_xw : W.heap.size ≤ V1.heap.size := hB.size
  replace xf := xf.alloc (.cells #[.string B, .string f.b1, .int .i64 (f.e0 + 1), .int .i64 f.e1, .int .i64 f.lim] 25)
  replace xo := xo.alloc (.cells #[.string B, .string f.b1, .int .i64 (f.e0 + 1), .int .i64 f.e1, .int .i64 f.lim] 25)
  replace xr := xr.alloc (.cells #[.string B, .string f.b1, .int .i64 (f.e0 + 1), .int .i64 f.e1, .int .i64 f.lim] 25)
  replace hB := hB.alloc hB.size (.cells #[.string B, .string f.b1, .int .i64 (f.e0 + 1), .int .i64 f.e1, .int .i64 f.lim] 25)
  have cxf := xf.f5
  have cxo := xo.f4
  have cxr := xr.f5
  have cxw := xw.f5
  go_wp2_with fail
  generalize (V1.alloc (.cells #[.string B, .string f.b1, .int .i64 (f.e0 + 1), .int .i64 f.e1, .int .i64 f.lim] 25)) = V2 at *
  clear cxf cxo cxr cxw
  replace hB := hB.drew
  replace xf := xf.drew
  replace xo := xo.drew
  replace xr := xr.drew
  replace xw := xw.drew
  refine wp_region_held_drew (S := fun w' => w'.cell? ⟨W.heap.size + 1, 1, none⟩ = some (.int .i64 0) ∧ w'.cell? ⟨W.heap.size, 0, none⟩ = some (.string f.b0)) (by kernel_rfl) ?_ (fun hHeld => ?_)
  · exact ⟨xo.cell 1 rfl, xf.cell 0 rfl⟩
  generalize V2.drew = V3 at *
  refine tk 0 (v := ?_) rfl (Or.inl ⟨by rfl, ?_⟩) ?_; rotate_left
  · intro w hSw; (try dsimp only at hSw); go_simp; try with_reducible rfl
  try simp only [Act.put, l1, l2, l3, l4, l5, l6]
  refine tk 1 (v := ?_) rfl (Or.inl ⟨by rfl, ?_⟩) ?_; rotate_left
  · intro w hSw; (try dsimp only at hSw); go_simp; try with_reducible rfl
  try simp only [Act.put, l1, l2, l3, l4, l5, l6]
  refine tk 2 (v := ?_) rfl (Or.inl ⟨by rfl, ?_⟩) ?_; rotate_left
  · intro w hSw; (try dsimp only at hSw); go_simp; try with_reducible rfl
  try simp only [Act.put, l1, l2, l3, l4, l5, l6]
  refine tk 3 (v := ?_) rfl (Or.inl ⟨by rfl, ?_⟩) ?_; rotate_left
  · intro w hSw; (try dsimp only at hSw); go_simp; try with_reducible rfl
  try simp only [Act.put, l1, l2, l3, l4, l5, l6]
  refine tk 4 (v := ?_) rfl (Or.inl ⟨by rfl, ?_⟩) ?_; rotate_left
  · intro w hSw; (try dsimp only at hSw); go_simp; try with_reducible rfl
  try simp only [Act.put, l1, l2, l3, l4, l5, l6]
  refine tk 5 (v := ?_) rfl (Or.inl ⟨by rfl, ?_⟩) ?_; rotate_left
  · intro w hSw; (try dsimp only at hSw); go_simp; try with_reducible rfl
  try simp only [Act.put, l1, l2, l3, l4, l5, l6]
  refine wpAnyH_ready (rs := [6]) (by kernel_rfl) (by simp) ?_
  refine AllReadyH.cons rfl (fun K hK => ?_) AllReadyH.nil
  have cxf := xf.f5
  have cxo := xo.f4
  have cxr := xr.f5
  have cxw := xw.f5
  go_simp
  try go_wp2_with fail
  clear cxf cxo cxr cxw
  replace xf : Box 25 (V3.setCell ⟨W.heap.size + 1, 2, none⟩ (.int .i64 0)) (W.heap.size) [.string f.b0, .string f.b1, .int .i64 f.e0, .int .i64 f.e1, .int .i64 f.lim] := (xf.other (by omega) 2 (.int .i64 0))
  replace xr : Box 25 (V3.setCell ⟨W.heap.size + 1, 2, none⟩ (.int .i64 0)) (W.heap.size + 1 + 1) [.string ⟨#[]⟩, .string ⟨#[]⟩, .int .i64 0, .int .i64 0, .int .i64 0] := (xr.other (by omega) 2 (.int .i64 0))
  replace xw := (xw.other (Ne.symm ne_xw_xo) 2 (.int .i64 0))
  replace xo : Box 46 (V3.setCell ⟨W.heap.size + 1, 2, none⟩ (.int .i64 0)) (W.heap.size + 1) [.int .i64 2, .int .i64 0, .int .i64 0, .string d] := (xo.set 2 (.int .i64 0))
  replace hB : Below W.heap.size W (V3.setCell ⟨W.heap.size + 1, 2, none⟩ (.int .i64 0)) := (hB.setCell le_xo _)
  generalize (V3.setCell ⟨W.heap.size + 1, 2, none⟩ (.int .i64 0)) = V4 at *
  clear hHeld
  refine hK.out _ _ ?_ (fun hHeld => ?_)
  · exact ⟨xo.cell 1 rfl, xf.cell 0 rfl⟩
  clear hK K
  try simp only [Act.put, l1, l2, l3, l4, l5, l6]
  refine tk 7 (v := ?_) rfl (Or.inl ⟨by rfl, ?_⟩) ?_; rotate_left
  · intro w hSw; (try dsimp only at hSw); go_simp; try with_reducible rfl
  try simp only [Act.put, l1, l2, l3, l4, l5, l6]
  refine wpAnyH_ready (rs := [8]) (by kernel_rfl) (by simp) ?_
  refine AllReadyH.cons rfl (fun K hK => ?_) AllReadyH.nil
  have cxf := xf.f5
  have cxo := xo.f4
  have cxr := xr.f5
  have cxw := xw.f5
  go_simp
  try go_wp2_with fail
  clear cxf cxo cxr cxw
  replace xf : Box 25 (V4.setCell ⟨W.heap.size + 1, 3, none⟩ (.string f.b0)) (W.heap.size) [.string f.b0, .string f.b1, .int .i64 f.e0, .int .i64 f.e1, .int .i64 f.lim] := (xf.other (by omega) 3 (.string f.b0))
  replace xr : Box 25 (V4.setCell ⟨W.heap.size + 1, 3, none⟩ (.string f.b0)) (W.heap.size + 1 + 1) [.string ⟨#[]⟩, .string ⟨#[]⟩, .int .i64 0, .int .i64 0, .int .i64 0] := (xr.other (by omega) 3 (.string f.b0))
  replace xw := (xw.other (Ne.symm ne_xw_xo) 3 (.string f.b0))
  replace xo : Box 46 (V4.setCell ⟨W.heap.size + 1, 3, none⟩ (.string f.b0)) (W.heap.size + 1) [.int .i64 2, .int .i64 0, .int .i64 0, .string f.b0] := (xo.set 3 (.string f.b0))
  replace hB : Below W.heap.size W (V4.setCell ⟨W.heap.size + 1, 3, none⟩ (.string f.b0)) := (hB.setCell le_xo _)
  generalize (V4.setCell ⟨W.heap.size + 1, 3, none⟩ (.string f.b0)) = V5 at *
  clear hHeld
  refine hK.out _ _ ?_ (fun hHeld => ?_)
  · exact ⟨xo.cell 1 rfl, xf.cell 0 rfl⟩
  clear hK K
  try simp only [Act.put, l1, l2, l3, l4, l5, l6]
  refine wpAnyH_done (by kernel_rfl) ?_ _
  clear hHeld
  have cxf := xf.f5
  have cxo := xo.f4
  have cxr := xr.f5
  have cxw := xw.f5
  go_wp2_with fail
  refine (TU.out _).mono ?_
  rintro e V6 ⟨rfl, hk⟩
  clear cxf cxo cxr cxw
  replace hB := below_seq hB hk
  replace xf := xf.seq hk
  replace xo := xo.seq hk
  replace xr := xr.seq hk
  replace xw := xw.seq hk
  clear hk
  have cxf := xf.f5
  have cxo := xo.f4
  have cxr := xr.f5
  have cxw := xw.f5
  go_wp2_with fail
  clear cxf cxo cxr cxw
  replace xo : Box 46 (((((V6.setCell ⟨W.heap.size, 0, none⟩ (.string B)).setCell ⟨W.heap.size, 1, none⟩ (.string f.b1)).setCell ⟨W.heap.size, 2, none⟩ (.int .i64 (f.e0 + 1))).setCell ⟨W.heap.size, 3, none⟩ (.int .i64 f.e1)).setCell ⟨W.heap.size, 4, none⟩ (.int .i64 f.lim)) (W.heap.size + 1) [.int .i64 2, .int .i64 0, .int .i64 0, .string f.b0] := (((((xo.other (by omega) 0 (.string B)).other (by omega) 1 (.string f.b1)).other (by omega) 2 (.int .i64 (f.e0 + 1))).other (by omega) 3 (.int .i64 f.e1)).other (by omega) 4 (.int .i64 f.lim))
  replace xr : Box 25 (((((V6.setCell ⟨W.heap.size, 0, none⟩ (.string B)).setCell ⟨W.heap.size, 1, none⟩ (.string f.b1)).setCell ⟨W.heap.size, 2, none⟩ (.int .i64 (f.e0 + 1))).setCell ⟨W.heap.size, 3, none⟩ (.int .i64 f.e1)).setCell ⟨W.heap.size, 4, none⟩ (.int .i64 f.lim)) (W.heap.size + 1 + 1) [.string ⟨#[]⟩, .string ⟨#[]⟩, .int .i64 0, .int .i64 0, .int .i64 0] := (((((xr.other (by omega) 0 (.string B)).other (by omega) 1 (.string f.b1)).other (by omega) 2 (.int .i64 (f.e0 + 1))).other (by omega) 3 (.int .i64 f.e1)).other (by omega) 4 (.int .i64 f.lim))
  replace xw := (((((xw.other (Ne.symm ne_xw_xf) 0 (.string B)).other (Ne.symm ne_xw_xf) 1 (.string f.b1)).other (Ne.symm ne_xw_xf) 2 (.int .i64 (f.e0 + 1))).other (Ne.symm ne_xw_xf) 3 (.int .i64 f.e1)).other (Ne.symm ne_xw_xf) 4 (.int .i64 f.lim))
  replace xf : Box 25 (((((V6.setCell ⟨W.heap.size, 0, none⟩ (.string B)).setCell ⟨W.heap.size, 1, none⟩ (.string f.b1)).setCell ⟨W.heap.size, 2, none⟩ (.int .i64 (f.e0 + 1))).setCell ⟨W.heap.size, 3, none⟩ (.int .i64 f.e1)).setCell ⟨W.heap.size, 4, none⟩ (.int .i64 f.lim)) (W.heap.size) [.string B, .string f.b1, .int .i64 (f.e0 + 1), .int .i64 f.e1, .int .i64 f.lim] := (((((xf.set 0 (.string B)).set 1 (.string f.b1)).set 2 (.int .i64 (f.e0 + 1))).set 3 (.int .i64 f.e1)).set 4 (.int .i64 f.lim))
  replace hB : Below W.heap.size W (((((V6.setCell ⟨W.heap.size, 0, none⟩ (.string B)).setCell ⟨W.heap.size, 1, none⟩ (.string f.b1)).setCell ⟨W.heap.size, 2, none⟩ (.int .i64 (f.e0 + 1))).setCell ⟨W.heap.size, 3, none⟩ (.int .i64 f.e1)).setCell ⟨W.heap.size, 4, none⟩ (.int .i64 f.lim)) := (((((hB.setCell (Nat.le_refl _) _).setCell (Nat.le_refl _) _).setCell (Nat.le_refl _) _).setCell (Nat.le_refl _) _).setCell (Nat.le_refl _) _)
  generalize (((((V6.setCell ⟨W.heap.size, 0, none⟩ (.string B)).setCell ⟨W.heap.size, 1, none⟩ (.string f.b1)).setCell ⟨W.heap.size, 2, none⟩ (.int .i64 (f.e0 + 1))).setCell ⟨W.heap.size, 3, none⟩ (.int .i64 f.e1)).setCell ⟨W.heap.size, 4, none⟩ (.int .i64 f.lim)) = V7 at *
  have cxf := xf.f5
  have cxo := xo.f4
  have cxr := xr.f5
  have cxw := xw.f5
  go_quiet (fail)
  clear cxf cxo cxr cxw
  replace hB := below_drewN0 hB nq
  replace xf := xf.drewN nq
  replace xo := xo.drewN nq
  replace xr := xr.drewN nq
  replace xw := xw.drewN nq
  generalize (V7.drewN nq) = V8 at *
  have cxf := xf.f5
  have cxo := xo.f4
  have cxr := xr.f5
  have cxw := xw.f5
  go_wp2_with fail
  clear cxf cxo cxr cxw
  replace hB := hB.drew
  replace xf := xf.drew
  replace xo := xo.drew
  replace xr := xr.drew
  replace xw := xw.drew
  refine wp_region_held_drew (S := fun w' => w'.cell? ⟨W.heap.size + 1, 0, none⟩ = some (.int .i64 2) ∧ w'.cell? ⟨W.heap.size + 1, 1, none⟩ = some (.int .i64 0) ∧ w'.cell? ⟨W.heap.size + 1, 2, none⟩ = some (.int .i64 0) ∧ w'.cell? ⟨W.heap.size + 1, 3, none⟩ = some (.string f.b0)) (by kernel_rfl) ?_ (fun hHeld => ?_)
  · exact ⟨xo.cell 0 rfl, xo.cell 1 rfl, xo.cell 2 rfl, xo.cell 3 rfl⟩
  generalize V8.drew = V9 at *
  refine tk 0 (v := ?_) rfl (Or.inl ⟨by rfl, ?_⟩) ?_; rotate_left
  · intro w hSw; (try dsimp only at hSw); go_simp; try with_reducible rfl
  try simp only [Act.put, l1, l2, l3, l4, l5, l6]
  refine tk 1 (v := ?_) rfl (Or.inl ⟨by rfl, ?_⟩) ?_; rotate_left
  · intro w hSw; (try dsimp only at hSw); go_simp; try with_reducible rfl
  try simp only [Act.put, l1, l2, l3, l4, l5, l6]
  refine tk 2 (v := ?_) rfl (Or.inl ⟨by rfl, ?_⟩) ?_; rotate_left
  · intro w hSw; (try dsimp only at hSw); go_simp; try with_reducible rfl
  try simp only [Act.put, l1, l2, l3, l4, l5, l6]
  refine tk 3 (v := ?_) rfl (Or.inl ⟨by rfl, ?_⟩) ?_; rotate_left
  · intro w hSw; (try dsimp only at hSw); go_simp; try with_reducible rfl
  try simp only [Act.put, l1, l2, l3, l4, l5, l6]
  refine tk 4 (v := ?_) rfl (Or.inl ⟨by rfl, ?_⟩) ?_; rotate_left
  · intro w hSw; (try dsimp only at hSw); go_simp; try with_reducible rfl
  try simp only [Act.put, l1, l2, l3, l4, l5, l6]
  refine tk 5 (v := ?_) rfl (Or.inl ⟨by rfl, ?_⟩) ?_; rotate_left
  · intro w hSw; (try dsimp only at hSw); go_simp; try with_reducible rfl
  try simp only [Act.put, l1, l2, l3, l4, l5, l6]
  refine tk 6 (v := ?_) rfl (Or.inl ⟨by rfl, ?_⟩) ?_; rotate_left
  · intro w hSw; (try dsimp only at hSw); go_simp; try with_reducible rfl
  try simp only [Act.put, l1, l2, l3, l4, l5, l6]
  refine tk 7 (v := ?_) rfl (Or.inl ⟨by rfl, ?_⟩) ?_; rotate_left
  · intro w hSw; (try dsimp only at hSw); go_simp; try with_reducible rfl
  try simp only [Act.put, l1, l2, l3, l4, l5, l6]
  refine tk 8 (v := ?_) rfl (Or.inl ⟨by rfl, ?_⟩) ?_; rotate_left
  · intro w hSw; (try dsimp only at hSw); go_simp; try with_reducible rfl
  try simp only [Act.put, l1, l2, l3, l4, l5, l6]
  refine tk 9 (v := ?_) rfl (Or.inl ⟨by rfl, ?_⟩) ?_; rotate_left
  · intro w hSw; (try dsimp only at hSw); go_simp; try with_reducible rfl
  try simp only [Act.put, l1, l2, l3, l4, l5, l6]
  refine tk 10 (v := ?_) rfl (Or.inl ⟨by rfl, ?_⟩) ?_; rotate_left
  · intro w hSw; (try dsimp only at hSw); go_simp; try with_reducible rfl
  try simp only [Act.put, l1, l2, l3, l4, l5, l6]
  refine tk 11 (v := ?_) rfl (Or.inl ⟨by rfl, ?_⟩) ?_; rotate_left
  · intro w hSw; (try dsimp only at hSw); go_simp; try with_reducible rfl
  try simp only [Act.put, l1, l2, l3, l4, l5, l6]
  refine tk 12 (v := ?_) rfl (Or.inl ⟨by rfl, ?_⟩) ?_; rotate_left
  · intro w hSw; (try dsimp only at hSw); go_simp; try with_reducible rfl
  try simp only [Act.put, l1, l2, l3, l4, l5, l6]
  refine tk 13 (v := ?_) rfl (Or.inl ⟨by rfl, ?_⟩) ?_; rotate_left
  · intro w hSw; (try dsimp only at hSw); go_simp; try with_reducible rfl
  try simp only [Act.put, l1, l2, l3, l4, l5, l6]
  refine tk 16 (v := ?_) rfl (Or.inl ⟨by rfl, ?_⟩) ?_; rotate_left
  · intro w hSw; (try dsimp only at hSw); go_simp; try with_reducible rfl
  try simp only [Act.put, l1, l2, l3, l4, l5, l6]
  refine tk 17 (v := ?_) rfl (Or.inl ⟨by rfl, ?_⟩) ?_; rotate_left
  · intro w hSw; (try dsimp only at hSw); go_simp; try with_reducible rfl
  try simp only [Act.put, l1, l2, l3, l4, l5, l6]
  refine tk 18 (v := ?_) rfl (Or.inl ⟨by rfl, ?_⟩) ?_; rotate_left
  · intro w hSw; (try dsimp only at hSw); go_simp; try with_reducible rfl
  try simp only [Act.put, l1, l2, l3, l4, l5, l6]
  refine tk 20 (v := ?_) rfl (Or.inl ⟨by rfl, ?_⟩) ?_; rotate_left
  · intro w hSw; (try dsimp only at hSw); go_simp; try with_reducible rfl
  try simp only [Act.put, l1, l2, l3, l4, l5, l6]
  refine wpAnyH_ready (rs := [14]) (by kernel_rfl) (by simp) ?_
  refine AllReadyH.cons rfl (fun K hK => ?_) AllReadyH.nil
  have cxf := xf.f5
  have cxo := xo.f4
  have cxr := xr.f5
  have cxw := xw.f5
  go_simp
  refine (TC.out _).mono ?_
  rintro e V10 ⟨rfl, hk⟩
  clear cxf cxo cxr cxw
  replace hB := below_seq hB hk
  replace xf := xf.seq hk
  replace xo := xo.seq hk
  replace xr := xr.seq hk
  replace xw := xw.seq hk
  clear hk
  have cxf := xf.f5
  have cxo := xo.f4
  have cxr := xr.f5
  have cxw := xw.f5
  try go_wp2_with fail
  clear cxf cxo cxr cxw
  clear hHeld
  refine hK.out _ _ ?_ (fun hHeld => ?_)
  · exact ⟨xo.cell 0 rfl, xo.cell 1 rfl, xo.cell 2 rfl, xo.cell 3 rfl⟩
  clear hK K
  try simp only [Act.put, l1, l2, l3, l4, l5, l6]
  refine tk 15 (v := ?_) rfl (Or.inl ⟨by rfl, ?_⟩) ?_; rotate_left
  · intro w hSw; (try dsimp only at hSw); go_simp; try with_reducible rfl
  try simp only [Act.put, l1, l2, l3, l4, l5, l6]
  refine tk 19 (v := ?_) rfl (Or.inl ⟨by rfl, ?_⟩) ?_; rotate_left
  · intro w hSw; (try dsimp only at hSw); go_simp; try with_reducible rfl
  try simp only [Act.put, l1, l2, l3, l4, l5, l6]
  refine tk 21 (v := ?_) rfl (Or.inl ⟨by rfl, ?_⟩) ?_; rotate_left
  · intro w hSw; (try dsimp only at hSw); go_simp; try with_reducible rfl
  try simp only [Act.put, l1, l2, l3, l4, l5, l6]
  refine wpAnyH_ready (rs := [22]) (by kernel_rfl) (by simp) ?_
  refine AllReadyH.cons rfl (fun K hK => ?_) AllReadyH.nil
  have cxf := xf.f5
  have cxo := xo.f4
  have cxr := xr.f5
  have cxw := xw.f5
  go_simp
  try go_wp2_with fail
  clear cxf cxo cxr cxw
  replace xo : Box 46 (V10.setCell ⟨W.heap.size, 0, none⟩ (.string (A ++ B.extract f.b0.size B.size))) (W.heap.size + 1) [.int .i64 2, .int .i64 0, .int .i64 0, .string f.b0] := (xo.other (by omega) 0 (.string (A ++ B.extract f.b0.size B.size)))
  replace xr : Box 25 (V10.setCell ⟨W.heap.size, 0, none⟩ (.string (A ++ B.extract f.b0.size B.size))) (W.heap.size + 1 + 1) [.string ⟨#[]⟩, .string ⟨#[]⟩, .int .i64 0, .int .i64 0, .int .i64 0] := (xr.other (by omega) 0 (.string (A ++ B.extract f.b0.size B.size)))
  replace xw := (xw.other (Ne.symm ne_xw_xf) 0 (.string (A ++ B.extract f.b0.size B.size)))
  replace xf : Box 25 (V10.setCell ⟨W.heap.size, 0, none⟩ (.string (A ++ B.extract f.b0.size B.size))) (W.heap.size) [.string (A ++ B.extract f.b0.size B.size), .string f.b1, .int .i64 (f.e0 + 1), .int .i64 f.e1, .int .i64 f.lim] := (xf.set 0 (.string (A ++ B.extract f.b0.size B.size)))
  replace hB : Below W.heap.size W (V10.setCell ⟨W.heap.size, 0, none⟩ (.string (A ++ B.extract f.b0.size B.size))) := (hB.setCell (Nat.le_refl _) _)
  generalize (V10.setCell ⟨W.heap.size, 0, none⟩ (.string (A ++ B.extract f.b0.size B.size))) = V11 at *
  clear hHeld
  refine hK.out _ _ ?_ (fun hHeld => ?_)
  · exact ⟨xo.cell 0 rfl, xo.cell 1 rfl, xo.cell 2 rfl, xo.cell 3 rfl⟩
  clear hK K
  try simp only [Act.put, l1, l2, l3, l4, l5, l6]
  refine wpAnyH_done (by kernel_rfl) ?_ _
  clear hHeld
  have cxf := xf.f5
  have cxo := xo.f4
  have cxr := xr.f5
  have cxw := xw.f5
  go_wp2
  clear cxf cxo cxr cxw
  replace xf : Box 25 (((((V11.setCell ⟨W.heap.size + 1 + 1, 0, none⟩ (.string (A ++ B.extract f.b0.size B.size))).setCell ⟨W.heap.size + 1 + 1, 1, none⟩ (.string f.b1)).setCell ⟨W.heap.size + 1 + 1, 2, none⟩ (.int .i64 (f.e0 + 1))).setCell ⟨W.heap.size + 1 + 1, 3, none⟩ (.int .i64 f.e1)).setCell ⟨W.heap.size + 1 + 1, 4, none⟩ (.int .i64 f.lim)) (W.heap.size) [.string (A ++ B.extract f.b0.size B.size), .string f.b1, .int .i64 (f.e0 + 1), .int .i64 f.e1, .int .i64 f.lim] := (((((xf.other (by omega) 0 (.string (A ++ B.extract f.b0.size B.size))).other (by omega) 1 (.string f.b1)).other (by omega) 2 (.int .i64 (f.e0 + 1))).other (by omega) 3 (.int .i64 f.e1)).other (by omega) 4 (.int .i64 f.lim))
  replace xo : Box 46 (((((V11.setCell ⟨W.heap.size + 1 + 1, 0, none⟩ (.string (A ++ B.extract f.b0.size B.size))).setCell ⟨W.heap.size + 1 + 1, 1, none⟩ (.string f.b1)).setCell ⟨W.heap.size + 1 + 1, 2, none⟩ (.int .i64 (f.e0 + 1))).setCell ⟨W.heap.size + 1 + 1, 3, none⟩ (.int .i64 f.e1)).setCell ⟨W.heap.size + 1 + 1, 4, none⟩ (.int .i64 f.lim)) (W.heap.size + 1) [.int .i64 2, .int .i64 0, .int .i64 0, .string f.b0] := (((((xo.other (by omega) 0 (.string (A ++ B.extract f.b0.size B.size))).other (by omega) 1 (.string f.b1)).other (by omega) 2 (.int .i64 (f.e0 + 1))).other (by omega) 3 (.int .i64 f.e1)).other (by omega) 4 (.int .i64 f.lim))
  replace xw := (((((xw.other (Ne.symm ne_xw_xr) 0 (.string (A ++ B.extract f.b0.size B.size))).other (Ne.symm ne_xw_xr) 1 (.string f.b1)).other (Ne.symm ne_xw_xr) 2 (.int .i64 (f.e0 + 1))).other (Ne.symm ne_xw_xr) 3 (.int .i64 f.e1)).other (Ne.symm ne_xw_xr) 4 (.int .i64 f.lim))
  replace xr : Box 25 (((((V11.setCell ⟨W.heap.size + 1 + 1, 0, none⟩ (.string (A ++ B.extract f.b0.size B.size))).setCell ⟨W.heap.size + 1 + 1, 1, none⟩ (.string f.b1)).setCell ⟨W.heap.size + 1 + 1, 2, none⟩ (.int .i64 (f.e0 + 1))).setCell ⟨W.heap.size + 1 + 1, 3, none⟩ (.int .i64 f.e1)).setCell ⟨W.heap.size + 1 + 1, 4, none⟩ (.int .i64 f.lim)) (W.heap.size + 1 + 1) [.string (A ++ B.extract f.b0.size B.size), .string f.b1, .int .i64 (f.e0 + 1), .int .i64 f.e1, .int .i64 f.lim] := (((((xr.set 0 (.string (A ++ B.extract f.b0.size B.size))).set 1 (.string f.b1)).set 2 (.int .i64 (f.e0 + 1))).set 3 (.int .i64 f.e1)).set 4 (.int .i64 f.lim))
  replace hB : Below W.heap.size W (((((V11.setCell ⟨W.heap.size + 1 + 1, 0, none⟩ (.string (A ++ B.extract f.b0.size B.size))).setCell ⟨W.heap.size + 1 + 1, 1, none⟩ (.string f.b1)).setCell ⟨W.heap.size + 1 + 1, 2, none⟩ (.int .i64 (f.e0 + 1))).setCell ⟨W.heap.size + 1 + 1, 3, none⟩ (.int .i64 f.e1)).setCell ⟨W.heap.size + 1 + 1, 4, none⟩ (.int .i64 f.lim)) := (((((hB.setCell le_xr _).setCell le_xr _).setCell le_xr _).setCell le_xr _).setCell le_xr _)
  generalize (((((V11.setCell ⟨W.heap.size + 1 + 1, 0, none⟩ (.string (A ++ B.extract f.b0.size B.size))).setCell ⟨W.heap.size + 1 + 1, 1, none⟩ (.string f.b1)).setCell ⟨W.heap.size + 1 + 1, 2, none⟩ (.int .i64 (f.e0 + 1))).setCell ⟨W.heap.size + 1 + 1, 3, none⟩ (.int .i64 f.e1)).setCell ⟨W.heap.size + 1 + 1, 4, none⟩ (.int .i64 f.lim)) = V12 at *
  have cxf := xf.f5
  have cxo := xo.f4
  have cxr := xr.f5
  have cxw := xw.f5
  exact bodyPost_ret (v := .tuple #[.agg #[.string (A ++ B.extract f.b0.size B.size), .string f.b1, .int .i64 (f.e0 + 1), .int .i64 f.e1, .int .i64 f.lim], .int .i64 0]) (by simp [results, Tryz.results26, go_sem, cxr]) rfl ⟨rfl, hB⟩

set_option maxRecDepth 100000 in
set_option maxHeartbeats 4000000 in
theorem pwTear2_1 (f : Fl) (q : Int) (d m : ByteArray) (W : World) (hf : f.fit) (hd : d.size ≤ maxLen) (hq : q ≤ 9223372036854775807) (hm : m.size ≤ maxLen) (he : eraseErr f 1 = 0) :
    Calls Tryz.prog 26 #[.agg #[.string f.b0, .string f.b1, .int .i64 f.e0, .int .i64 f.e1, .int .i64 f.lim], .agg #[.int .i64 2, .int .i64 1, .int .i64 q, .string d], .string m] W fun e W' => e = .returned (.tuple #[.agg #[.string f.b0, .string (eraT f.b1 m), .int .i64 f.e0, .int .i64 (f.e1 + 1), .int .i64 f.lim], .int .i64 0]) ∧ Below W.heap.size W W' := by
  have hs : f.b1.size ≤ 140737488351232 := hf.z1
  have hg : eraseF f 1 = ⟨f.b0, blankT f.b1.size, f.e0, f.e1 + 1, f.lim⟩ := by rw [eraseF_banks he]; exact if_neg (by decide)
  have TD := Lib.hid (fun (W : World) => (show Calls Tryz.prog 25 #[.agg #[.string f.b0, .string f.b1, .int .i64 f.e0, .int .i64 f.e1, .int .i64 f.lim], .agg #[.int .i64 2, .int .i64 1, .int .i64 q, .string d]] W fun e W' => e = .returned (.tuple #[.agg #[.string f.b0, .string (blankT f.b1.size), .int .i64 f.e0, .int .i64 (f.e1 + 1), .int .i64 f.lim], .int .i64 0]) ∧ Below W.heap.size W W' from by have h := pwDo2 f 1 q d W hf hd hq; rwa [he, hg] at h))
  have TU := Lib.hid (fun (W : World) => pwUnreached m f.b1.size W hm hs)
  have HS := era_splice f.b1 m
  have zU : (unrT m f.b1.size).size ≤ maxLen := by rw [unrT_size]; unfold maxLen; omega
  have zB : (blankT f.b1.size).size = f.b1.size := blankT_size' _
  rw [← HS]
  clear HS he hg
  generalize unrT m f.b1.size = U at *
  generalize blankT f.b1.size = B at *
  have TC := Lib.hid (fun (W : World) => clrTorn (B.extract 0 f.b1.size) f.b1 U W (by simp; omega) (by unfold maxLen; omega) zU)
  have HS : spliceT B 0 f.b1 U = tornB (B.extract 0 f.b1.size) f.b1 U ++ B.extract f.b1.size B.size := by
    show B.extract 0 0 ++ tornB (B.extract 0 (0 + f.b1.size)) f.b1 U ++ B.extract (0 + f.b1.size) B.size = _
    rw [Nat.zero_add]
    simp
  have zA : (tornB (B.extract 0 f.b1.size) f.b1 U).size ≤ B.size := by rw [tornB_size]; simp; omega
  rw [HS]
  clear HS
  generalize tornB (B.extract 0 f.b1.size) f.b1 U = A at *
  have hs2 : B.size ≤ 140737488351232 := by omega
  have w1 : IntKind.i64.wrap (f.b1.size : Int) = (f.b1.size : Int) := IntWalk.i64_in _ (by omega)
  have i0 : (0 : Int) ≤ (f.b1.size : Int) := by omega
  have i1 : (f.b1.size : Int) ≤ (B.size : Int) := by omega
  have i2 : f.b1.size ≤ B.size := by omega
  have g1 : ¬ 9223372036854775807 < A.size := by omega
  have g2 : ¬ 9223372036854775807 < A.size + (B.size - f.b1.size) := by omega
  clear zB
  have hB : Below W.heap.size W (((W.alloc (.cells #[.string f.b0, .string f.b1, .int .i64 f.e0, .int .i64 f.e1, .int .i64 f.lim] 25)).alloc (.cells #[.int .i64 2, .int .i64 1, .int .i64 q, .string d] 46)).alloc (.cells #[.string ⟨#[]⟩, .string ⟨#[]⟩, .int .i64 0, .int .i64 0, .int .i64 0] 25)) := ((((Below.refl _ _).alloc (Nat.le_refl _) _).alloc (by simp) _).alloc (by simp; omega) _)
  have xf := (((Box.new 25 W [.string f.b0, .string f.b1, .int .i64 f.e0, .int .i64 f.e1, .int .i64 f.lim]).alloc (.cells #[.int .i64 2, .int .i64 1, .int .i64 q, .string d] 46)).alloc (.cells #[.string ⟨#[]⟩, .string ⟨#[]⟩, .int .i64 0, .int .i64 0, .int .i64 0] 25))
  have xo : Box 46 (((W.alloc (.cells #[.string f.b0, .string f.b1, .int .i64 f.e0, .int .i64 f.e1, .int .i64 f.lim] 25)).alloc (.cells #[.int .i64 2, .int .i64 1, .int .i64 q, .string d] 46)).alloc (.cells #[.string ⟨#[]⟩, .string ⟨#[]⟩, .int .i64 0, .int .i64 0, .int .i64 0] 25)) (W.heap.size + 1) [.int .i64 2, .int .i64 1, .int .i64 q, .string d] := by have h := ((Box.new 46 (W.alloc (.cells #[.string f.b0, .string f.b1, .int .i64 f.e0, .int .i64 f.e1, .int .i64 f.lim] 25)) [.int .i64 2, .int .i64 1, .int .i64 q, .string d]).alloc (.cells #[.string ⟨#[]⟩, .string ⟨#[]⟩, .int .i64 0, .int .i64 0, .int .i64 0] 25)); rwa [World.size_alloc] at h
  have le_xo : W.heap.size ≤ W.heap.size + 1 := by omega
  have xr : Box 25 (((W.alloc (.cells #[.string f.b0, .string f.b1, .int .i64 f.e0, .int .i64 f.e1, .int .i64 f.lim] 25)).alloc (.cells #[.int .i64 2, .int .i64 1, .int .i64 q, .string d] 46)).alloc (.cells #[.string ⟨#[]⟩, .string ⟨#[]⟩, .int .i64 0, .int .i64 0, .int .i64 0] 25)) (W.heap.size + 1 + 1) [.string ⟨#[]⟩, .string ⟨#[]⟩, .int .i64 0, .int .i64 0, .int .i64 0] := by have h := (Box.new 25 ((W.alloc (.cells #[.string f.b0, .string f.b1, .int .i64 f.e0, .int .i64 f.e1, .int .i64 f.lim] 25)).alloc (.cells #[.int .i64 2, .int .i64 1, .int .i64 q, .string d] 46)) [.string ⟨#[]⟩, .string ⟨#[]⟩, .int .i64 0, .int .i64 0, .int .i64 0]); rwa [World.size_alloc, World.size_alloc] at h
  have le_xr : W.heap.size ≤ W.heap.size + 1 + 1 := by omega
  go_enter Tryz.func26, Tryz.ntmps26
  go_wp2_with fail
  refine (TD.out _).mono ?_
  rintro e V1 ⟨rfl, hk⟩
  replace hB := below_seq hB hk
  replace xf := xf.seq hk
  replace xo := xo.seq hk
  replace xr := xr.seq hk
  clear hk
  have xw := Box.new 25 V1 [.string f.b0, .string B, .int .i64 f.e0, .int .i64 (f.e1 + 1), .int .i64 f.lim]
  have ne_xw_xf : V1.heap.size ≠ W.heap.size := Nat.ne_of_gt xf.lt
  have ne_xw_xo : V1.heap.size ≠ W.heap.size + 1 := Nat.ne_of_gt xo.lt
  have ne_xw_xr : V1.heap.size ≠ W.heap.size + 1 + 1 := Nat.ne_of_gt xr.lt
  have le_xw : W.heap.size ≤ V1.heap.size := hB.size
  replace xf := xf.alloc (.cells #[.string f.b0, .string B, .int .i64 f.e0, .int .i64 (f.e1 + 1), .int .i64 f.lim] 25)
  replace xo := xo.alloc (.cells #[.string f.b0, .string B, .int .i64 f.e0, .int .i64 (f.e1 + 1), .int .i64 f.lim] 25)
  replace xr := xr.alloc (.cells #[.string f.b0, .string B, .int .i64 f.e0, .int .i64 (f.e1 + 1), .int .i64 f.lim] 25)
  replace hB := hB.alloc hB.size (.cells #[.string f.b0, .string B, .int .i64 f.e0, .int .i64 (f.e1 + 1), .int .i64 f.lim] 25)
  have cxf := xf.f5
  have cxo := xo.f4
  have cxr := xr.f5
  have cxw := xw.f5
  go_wp2_with fail
  generalize (V1.alloc (.cells #[.string f.b0, .string B, .int .i64 f.e0, .int .i64 (f.e1 + 1), .int .i64 f.lim] 25)) = V2 at *
  clear cxf cxo cxr cxw
  replace hB := hB.drew
  replace xf := xf.drew
  replace xo := xo.drew
  replace xr := xr.drew
  replace xw := xw.drew
  refine wp_region_held_drew (S := fun w' => w'.cell? ⟨W.heap.size + 1, 1, none⟩ = some (.int .i64 1) ∧ w'.cell? ⟨W.heap.size, 1, none⟩ = some (.string f.b1)) (by kernel_rfl) ?_ (fun hHeld => ?_)
  · exact ⟨xo.cell 1 rfl, xf.cell 1 rfl⟩
  generalize V2.drew = V3 at *
  refine tk 0 (v := ?_) rfl (Or.inl ⟨by rfl, ?_⟩) ?_; rotate_left
  · intro w hSw; (try dsimp only at hSw); go_simp; try with_reducible rfl
  try simp only [Act.put, l1, l2, l3, l4, l5, l6]
  refine tk 1 (v := ?_) rfl (Or.inl ⟨by rfl, ?_⟩) ?_; rotate_left
  · intro w hSw; (try dsimp only at hSw); go_simp; try with_reducible rfl
  try simp only [Act.put, l1, l2, l3, l4, l5, l6]
  refine tk 2 (v := ?_) rfl (Or.inl ⟨by rfl, ?_⟩) ?_; rotate_left
  · intro w hSw; (try dsimp only at hSw); go_simp; try with_reducible rfl
  try simp only [Act.put, l1, l2, l3, l4, l5, l6]
  refine tk 3 (v := ?_) rfl (Or.inl ⟨by rfl, ?_⟩) ?_; rotate_left
  · intro w hSw; (try dsimp only at hSw); go_simp; try with_reducible rfl
  try simp only [Act.put, l1, l2, l3, l4, l5, l6]
  refine tk 4 (v := ?_) rfl (Or.inl ⟨by rfl, ?_⟩) ?_; rotate_left
  · intro w hSw; (try dsimp only at hSw); go_simp; try with_reducible rfl
  try simp only [Act.put, l1, l2, l3, l4, l5, l6]
  refine tk 5 (v := ?_) rfl (Or.inl ⟨by rfl, ?_⟩) ?_; rotate_left
  · intro w hSw; (try dsimp only at hSw); go_simp; try with_reducible rfl
  try simp only [Act.put, l1, l2, l3, l4, l5, l6]
  refine wpAnyH_ready (rs := [6]) (by kernel_rfl) (by simp) ?_
  refine AllReadyH.cons rfl (fun K hK => ?_) AllReadyH.nil
  have cxf := xf.f5
  have cxo := xo.f4
  have cxr := xr.f5
  have cxw := xw.f5
  go_simp
  try go_wp2_with fail
  clear cxf cxo cxr cxw
  replace xf : Box 25 (V3.setCell ⟨W.heap.size + 1, 2, none⟩ (.int .i64 0)) (W.heap.size) [.string f.b0, .string f.b1, .int .i64 f.e0, .int .i64 f.e1, .int .i64 f.lim] := (xf.other (by omega) 2 (.int .i64 0))
  replace xr : Box 25 (V3.setCell ⟨W.heap.size + 1, 2, none⟩ (.int .i64 0)) (W.heap.size + 1 + 1) [.string ⟨#[]⟩, .string ⟨#[]⟩, .int .i64 0, .int .i64 0, .int .i64 0] := (xr.other (by omega) 2 (.int .i64 0))
  replace xw := (xw.other (Ne.symm ne_xw_xo) 2 (.int .i64 0))
  replace xo : Box 46 (V3.setCell ⟨W.heap.size + 1, 2, none⟩ (.int .i64 0)) (W.heap.size + 1) [.int .i64 2, .int .i64 1, .int .i64 0, .string d] := (xo.set 2 (.int .i64 0))
  replace hB : Below W.heap.size W (V3.setCell ⟨W.heap.size + 1, 2, none⟩ (.int .i64 0)) := (hB.setCell le_xo _)
  generalize (V3.setCell ⟨W.heap.size + 1, 2, none⟩ (.int .i64 0)) = V4 at *
  clear hHeld
  refine hK.out _ _ ?_ (fun hHeld => ?_)
  · exact ⟨xo.cell 1 rfl, xf.cell 1 rfl⟩
  clear hK K
  try simp only [Act.put, l1, l2, l3, l4, l5, l6]
  refine tk 7 (v := ?_) rfl (Or.inl ⟨by rfl, ?_⟩) ?_; rotate_left
  · intro w hSw; (try dsimp only at hSw); go_simp; try with_reducible rfl
  try simp only [Act.put, l1, l2, l3, l4, l5, l6]
  refine wpAnyH_ready (rs := [8]) (by kernel_rfl) (by simp) ?_
  refine AllReadyH.cons rfl (fun K hK => ?_) AllReadyH.nil
  have cxf := xf.f5
  have cxo := xo.f4
  have cxr := xr.f5
  have cxw := xw.f5
  go_simp
  try go_wp2_with fail
  clear cxf cxo cxr cxw
  replace xf : Box 25 (V4.setCell ⟨W.heap.size + 1, 3, none⟩ (.string f.b1)) (W.heap.size) [.string f.b0, .string f.b1, .int .i64 f.e0, .int .i64 f.e1, .int .i64 f.lim] := (xf.other (by omega) 3 (.string f.b1))
  replace xr : Box 25 (V4.setCell ⟨W.heap.size + 1, 3, none⟩ (.string f.b1)) (W.heap.size + 1 + 1) [.string ⟨#[]⟩, .string ⟨#[]⟩, .int .i64 0, .int .i64 0, .int .i64 0] := (xr.other (by omega) 3 (.string f.b1))
  replace xw := (xw.other (Ne.symm ne_xw_xo) 3 (.string f.b1))
  replace xo : Box 46 (V4.setCell ⟨W.heap.size + 1, 3, none⟩ (.string f.b1)) (W.heap.size + 1) [.int .i64 2, .int .i64 1, .int .i64 0, .string f.b1] := (xo.set 3 (.string f.b1))
  replace hB : Below W.heap.size W (V4.setCell ⟨W.heap.size + 1, 3, none⟩ (.string f.b1)) := (hB.setCell le_xo _)
  generalize (V4.setCell ⟨W.heap.size + 1, 3, none⟩ (.string f.b1)) = V5 at *
  clear hHeld
  refine hK.out _ _ ?_ (fun hHeld => ?_)
  · exact ⟨xo.cell 1 rfl, xf.cell 1 rfl⟩
  clear hK K
  try simp only [Act.put, l1, l2, l3, l4, l5, l6]
  refine wpAnyH_done (by kernel_rfl) ?_ _
  clear hHeld
  have cxf := xf.f5
  have cxo := xo.f4
  have cxr := xr.f5
  have cxw := xw.f5
  go_wp2_with fail
  refine (TU.out _).mono ?_
  rintro e V6 ⟨rfl, hk⟩
  clear cxf cxo cxr cxw
  replace hB := below_seq hB hk
  replace xf := xf.seq hk
  replace xo := xo.seq hk
  replace xr := xr.seq hk
  replace xw := xw.seq hk
  clear hk
  have cxf := xf.f5
  have cxo := xo.f4
  have cxr := xr.f5
  have cxw := xw.f5
  go_wp2_with fail
  clear cxf cxo cxr cxw
  replace xo : Box 46 (((((V6.setCell ⟨W.heap.size, 0, none⟩ (.string f.b0)).setCell ⟨W.heap.size, 1, none⟩ (.string B)).setCell ⟨W.heap.size, 2, none⟩ (.int .i64 f.e0)).setCell ⟨W.heap.size, 3, none⟩ (.int .i64 (f.e1 + 1))).setCell ⟨W.heap.size, 4, none⟩ (.int .i64 f.lim)) (W.heap.size + 1) [.int .i64 2, .int .i64 1, .int .i64 0, .string f.b1] := (((((xo.other (by omega) 0 (.string f.b0)).other (by omega) 1 (.string B)).other (by omega) 2 (.int .i64 f.e0)).other (by omega) 3 (.int .i64 (f.e1 + 1))).other (by omega) 4 (.int .i64 f.lim))
  replace xr : Box 25 (((((V6.setCell ⟨W.heap.size, 0, none⟩ (.string f.b0)).setCell ⟨W.heap.size, 1, none⟩ (.string B)).setCell ⟨W.heap.size, 2, none⟩ (.int .i64 f.e0)).setCell ⟨W.heap.size, 3, none⟩ (.int .i64 (f.e1 + 1))).setCell ⟨W.heap.size, 4, none⟩ (.int .i64 f.lim)) (W.heap.size + 1 + 1) [.string ⟨#[]⟩, .string ⟨#[]⟩, .int .i64 0, .int .i64 0, .int .i64 0] := (((((xr.other (by omega) 0 (.string f.b0)).other (by omega) 1 (.string B)).other (by omega) 2 (.int .i64 f.e0)).other (by omega) 3 (.int .i64 (f.e1 + 1))).other (by omega) 4 (.int .i64 f.lim))
  replace xw := (((((xw.other (Ne.symm ne_xw_xf) 0 (.string f.b0)).other (Ne.symm ne_xw_xf) 1 (.string B)).other (Ne.symm ne_xw_xf) 2 (.int .i64 f.e0)).other (Ne.symm ne_xw_xf) 3 (.int .i64 (f.e1 + 1))).other (Ne.symm ne_xw_xf) 4 (.int .i64 f.lim))
  replace xf : Box 25 (((((V6.setCell ⟨W.heap.size, 0, none⟩ (.string f.b0)).setCell ⟨W.heap.size, 1, none⟩ (.string B)).setCell ⟨W.heap.size, 2, none⟩ (.int .i64 f.e0)).setCell ⟨W.heap.size, 3, none⟩ (.int .i64 (f.e1 + 1))).setCell ⟨W.heap.size, 4, none⟩ (.int .i64 f.lim)) (W.heap.size) [.string f.b0, .string B, .int .i64 f.e0, .int .i64 (f.e1 + 1), .int .i64 f.lim] := (((((xf.set 0 (.string f.b0)).set 1 (.string B)).set 2 (.int .i64 f.e0)).set 3 (.int .i64 (f.e1 + 1))).set 4 (.int .i64 f.lim))
  replace hB : Below W.heap.size W (((((V6.setCell ⟨W.heap.size, 0, none⟩ (.string f.b0)).setCell ⟨W.heap.size, 1, none⟩ (.string B)).setCell ⟨W.heap.size, 2, none⟩ (.int .i64 f.e0)).setCell ⟨W.heap.size, 3, none⟩ (.int .i64 (f.e1 + 1))).setCell ⟨W.heap.size, 4, none⟩ (.int .i64 f.lim)) := (((((hB.setCell (Nat.le_refl _) _).setCell (Nat.le_refl _) _).setCell (Nat.le_refl _) _).setCell (Nat.le_refl _) _).setCell (Nat.le_refl _) _)
  generalize (((((V6.setCell ⟨W.heap.size, 0, none⟩ (.string f.b0)).setCell ⟨W.heap.size, 1, none⟩ (.string B)).setCell ⟨W.heap.size, 2, none⟩ (.int .i64 f.e0)).setCell ⟨W.heap.size, 3, none⟩ (.int .i64 (f.e1 + 1))).setCell ⟨W.heap.size, 4, none⟩ (.int .i64 f.lim)) = V7 at *
  have cxf := xf.f5
  have cxo := xo.f4
  have cxr := xr.f5
  have cxw := xw.f5
  go_quiet (fail)
  clear cxf cxo cxr cxw
  replace hB := below_drewN0 hB nq
  replace xf := xf.drewN nq
  replace xo := xo.drewN nq
  replace xr := xr.drewN nq
  replace xw := xw.drewN nq
  generalize (V7.drewN nq) = V8 at *
  have cxf := xf.f5
  have cxo := xo.f4
  have cxr := xr.f5
  have cxw := xw.f5
  go_wp2_with fail
  clear cxf cxo cxr cxw
  replace hB := hB.drew
  replace xf := xf.drew
  replace xo := xo.drew
  replace xr := xr.drew
  replace xw := xw.drew
  refine wp_region_held_drew (S := fun w' => w'.cell? ⟨W.heap.size + 1, 0, none⟩ = some (.int .i64 2) ∧ w'.cell? ⟨W.heap.size + 1, 1, none⟩ = some (.int .i64 1) ∧ w'.cell? ⟨W.heap.size + 1, 2, none⟩ = some (.int .i64 0) ∧ w'.cell? ⟨W.heap.size + 1, 3, none⟩ = some (.string f.b1)) (by kernel_rfl) ?_ (fun hHeld => ?_)
  · exact ⟨xo.cell 0 rfl, xo.cell 1 rfl, xo.cell 2 rfl, xo.cell 3 rfl⟩
  generalize V8.drew = V9 at *
  refine tk 0 (v := ?_) rfl (Or.inl ⟨by rfl, ?_⟩) ?_; rotate_left
  · intro w hSw; (try dsimp only at hSw); go_simp; try with_reducible rfl
  try simp only [Act.put, l1, l2, l3, l4, l5, l6]
  refine tk 1 (v := ?_) rfl (Or.inl ⟨by rfl, ?_⟩) ?_; rotate_left
  · intro w hSw; (try dsimp only at hSw); go_simp; try with_reducible rfl
  try simp only [Act.put, l1, l2, l3, l4, l5, l6]
  refine tk 2 (v := ?_) rfl (Or.inl ⟨by rfl, ?_⟩) ?_; rotate_left
  · intro w hSw; (try dsimp only at hSw); go_simp; try with_reducible rfl
  try simp only [Act.put, l1, l2, l3, l4, l5, l6]
  refine tk 3 (v := ?_) rfl (Or.inl ⟨by rfl, ?_⟩) ?_; rotate_left
  · intro w hSw; (try dsimp only at hSw); go_simp; try with_reducible rfl
  try simp only [Act.put, l1, l2, l3, l4, l5, l6]
  refine tk 4 (v := ?_) rfl (Or.inl ⟨by rfl, ?_⟩) ?_; rotate_left
  · intro w hSw; (try dsimp only at hSw); go_simp; try with_reducible rfl
  try simp only [Act.put, l1, l2, l3, l4, l5, l6]
  refine tk 5 (v := ?_) rfl (Or.inl ⟨by rfl, ?_⟩) ?_; rotate_left
  · intro w hSw; (try dsimp only at hSw); go_simp; try with_reducible rfl
  try simp only [Act.put, l1, l2, l3, l4, l5, l6]
  refine tk 6 (v := ?_) rfl (Or.inl ⟨by rfl, ?_⟩) ?_; rotate_left
  · intro w hSw; (try dsimp only at hSw); go_simp; try with_reducible rfl
  try simp only [Act.put, l1, l2, l3, l4, l5, l6]
  refine tk 7 (v := ?_) rfl (Or.inl ⟨by rfl, ?_⟩) ?_; rotate_left
  · intro w hSw; (try dsimp only at hSw); go_simp; try with_reducible rfl
  try simp only [Act.put, l1, l2, l3, l4, l5, l6]
  refine tk 8 (v := ?_) rfl (Or.inl ⟨by rfl, ?_⟩) ?_; rotate_left
  · intro w hSw; (try dsimp only at hSw); go_simp; try with_reducible rfl
  try simp only [Act.put, l1, l2, l3, l4, l5, l6]
  refine tk 9 (v := ?_) rfl (Or.inl ⟨by rfl, ?_⟩) ?_; rotate_left
  · intro w hSw; (try dsimp only at hSw); go_simp; try with_reducible rfl
  try simp only [Act.put, l1, l2, l3, l4, l5, l6]
  refine tk 10 (v := ?_) rfl (Or.inl ⟨by rfl, ?_⟩) ?_; rotate_left
  · intro w hSw; (try dsimp only at hSw); go_simp; try with_reducible rfl
  try simp only [Act.put, l1, l2, l3, l4, l5, l6]
  refine tk 11 (v := ?_) rfl (Or.inl ⟨by rfl, ?_⟩) ?_; rotate_left
  · intro w hSw; (try dsimp only at hSw); go_simp; try with_reducible rfl
  try simp only [Act.put, l1, l2, l3, l4, l5, l6]
  refine tk 12 (v := ?_) rfl (Or.inl ⟨by rfl, ?_⟩) ?_; rotate_left
  · intro w hSw; (try dsimp only at hSw); go_simp; try with_reducible rfl
  try simp only [Act.put, l1, l2, l3, l4, l5, l6]
  refine tk 13 (v := ?_) rfl (Or.inl ⟨by rfl, ?_⟩) ?_; rotate_left
  · intro w hSw; (try dsimp only at hSw); go_simp; try with_reducible rfl
  try simp only [Act.put, l1, l2, l3, l4, l5, l6]
  refine tk 16 (v := ?_) rfl (Or.inl ⟨by rfl, ?_⟩) ?_; rotate_left
  · intro w hSw; (try dsimp only at hSw); go_simp; try with_reducible rfl
  try simp only [Act.put, l1, l2, l3, l4, l5, l6]
  refine tk 17 (v := ?_) rfl (Or.inl ⟨by rfl, ?_⟩) ?_; rotate_left
  · intro w hSw; (try dsimp only at hSw); go_simp; try with_reducible rfl
  try simp only [Act.put, l1, l2, l3, l4, l5, l6]
  refine tk 18 (v := ?_) rfl (Or.inl ⟨by rfl, ?_⟩) ?_; rotate_left
  · intro w hSw; (try dsimp only at hSw); go_simp; try with_reducible rfl
  try simp only [Act.put, l1, l2, l3, l4, l5, l6]
  refine tk 20 (v := ?_) rfl (Or.inl ⟨by rfl, ?_⟩) ?_; rotate_left
  · intro w hSw; (try dsimp only at hSw); go_simp; try with_reducible rfl
  try simp only [Act.put, l1, l2, l3, l4, l5, l6]
  refine wpAnyH_ready (rs := [14]) (by kernel_rfl) (by simp) ?_
  refine AllReadyH.cons rfl (fun K hK => ?_) AllReadyH.nil
  have cxf := xf.f5
  have cxo := xo.f4
  have cxr := xr.f5
  have cxw := xw.f5
  go_simp
  refine (TC.out _).mono ?_
  rintro e V10 ⟨rfl, hk⟩
  clear cxf cxo cxr cxw
  replace hB := below_seq hB hk
  replace xf := xf.seq hk
  replace xo := xo.seq hk
  replace xr := xr.seq hk
  replace xw := xw.seq hk
  clear hk
  have cxf := xf.f5
  have cxo := xo.f4
  have cxr := xr.f5
  have cxw := xw.f5
  try go_wp2_with fail
  clear cxf cxo cxr cxw
  clear hHeld
  refine hK.out _ _ ?_ (fun hHeld => ?_)
  · exact ⟨xo.cell 0 rfl, xo.cell 1 rfl, xo.cell 2 rfl, xo.cell 3 rfl⟩
  clear hK K
  try simp only [Act.put, l1, l2, l3, l4, l5, l6]
  refine tk 15 (v := ?_) rfl (Or.inl ⟨by rfl, ?_⟩) ?_; rotate_left
  · intro w hSw; (try dsimp only at hSw); go_simp; try with_reducible rfl
  try simp only [Act.put, l1, l2, l3, l4, l5, l6]
  refine tk 19 (v := ?_) rfl (Or.inl ⟨by rfl, ?_⟩) ?_; rotate_left
  · intro w hSw; (try dsimp only at hSw); go_simp; try with_reducible rfl
  try simp only [Act.put, l1, l2, l3, l4, l5, l6]
  refine tk 21 (v := ?_) rfl (Or.inl ⟨by rfl, ?_⟩) ?_; rotate_left
  · intro w hSw; (try dsimp only at hSw); go_simp; try with_reducible rfl
  try simp only [Act.put, l1, l2, l3, l4, l5, l6]
  refine wpAnyH_ready (rs := [22]) (by kernel_rfl) (by simp) ?_
  refine AllReadyH.cons rfl (fun K hK => ?_) AllReadyH.nil
  have cxf := xf.f5
  have cxo := xo.f4
  have cxr := xr.f5
  have cxw := xw.f5
  go_simp
  try go_wp2_with fail
  clear cxf cxo cxr cxw
  replace xo : Box 46 (V10.setCell ⟨W.heap.size, 1, none⟩ (.string (A ++ B.extract f.b1.size B.size))) (W.heap.size + 1) [.int .i64 2, .int .i64 1, .int .i64 0, .string f.b1] := (xo.other (by omega) 1 (.string (A ++ B.extract f.b1.size B.size)))
  replace xr : Box 25 (V10.setCell ⟨W.heap.size, 1, none⟩ (.string (A ++ B.extract f.b1.size B.size))) (W.heap.size + 1 + 1) [.string ⟨#[]⟩, .string ⟨#[]⟩, .int .i64 0, .int .i64 0, .int .i64 0] := (xr.other (by omega) 1 (.string (A ++ B.extract f.b1.size B.size)))
  replace xw := (xw.other (Ne.symm ne_xw_xf) 1 (.string (A ++ B.extract f.b1.size B.size)))
  replace xf : Box 25 (V10.setCell ⟨W.heap.size, 1, none⟩ (.string (A ++ B.extract f.b1.size B.size))) (W.heap.size) [.string f.b0, .string (A ++ B.extract f.b1.size B.size), .int .i64 f.e0, .int .i64 (f.e1 + 1), .int .i64 f.lim] := (xf.set 1 (.string (A ++ B.extract f.b1.size B.size)))
  replace hB : Below W.heap.size W (V10.setCell ⟨W.heap.size, 1, none⟩ (.string (A ++ B.extract f.b1.size B.size))) := (hB.setCell (Nat.le_refl _) _)
  generalize (V10.setCell ⟨W.heap.size, 1, none⟩ (.string (A ++ B.extract f.b1.size B.size))) = V11 at *
  clear hHeld
  refine hK.out _ _ ?_ (fun hHeld => ?_)
  · exact ⟨xo.cell 0 rfl, xo.cell 1 rfl, xo.cell 2 rfl, xo.cell 3 rfl⟩
  clear hK K
  try simp only [Act.put, l1, l2, l3, l4, l5, l6]
  refine wpAnyH_done (by kernel_rfl) ?_ _
  clear hHeld
  have cxf := xf.f5
  have cxo := xo.f4
  have cxr := xr.f5
  have cxw := xw.f5
  go_wp2
  clear cxf cxo cxr cxw
  replace xf : Box 25 (((((V11.setCell ⟨W.heap.size + 1 + 1, 0, none⟩ (.string f.b0)).setCell ⟨W.heap.size + 1 + 1, 1, none⟩ (.string (A ++ B.extract f.b1.size B.size))).setCell ⟨W.heap.size + 1 + 1, 2, none⟩ (.int .i64 f.e0)).setCell ⟨W.heap.size + 1 + 1, 3, none⟩ (.int .i64 (f.e1 + 1))).setCell ⟨W.heap.size + 1 + 1, 4, none⟩ (.int .i64 f.lim)) (W.heap.size) [.string f.b0, .string (A ++ B.extract f.b1.size B.size), .int .i64 f.e0, .int .i64 (f.e1 + 1), .int .i64 f.lim] := (((((xf.other (by omega) 0 (.string f.b0)).other (by omega) 1 (.string (A ++ B.extract f.b1.size B.size))).other (by omega) 2 (.int .i64 f.e0)).other (by omega) 3 (.int .i64 (f.e1 + 1))).other (by omega) 4 (.int .i64 f.lim))
  replace xo : Box 46 (((((V11.setCell ⟨W.heap.size + 1 + 1, 0, none⟩ (.string f.b0)).setCell ⟨W.heap.size + 1 + 1, 1, none⟩ (.string (A ++ B.extract f.b1.size B.size))).setCell ⟨W.heap.size + 1 + 1, 2, none⟩ (.int .i64 f.e0)).setCell ⟨W.heap.size + 1 + 1, 3, none⟩ (.int .i64 (f.e1 + 1))).setCell ⟨W.heap.size + 1 + 1, 4, none⟩ (.int .i64 f.lim)) (W.heap.size + 1) [.int .i64 2, .int .i64 1, .int .i64 0, .string f.b1] := (((((xo.other (by omega) 0 (.string f.b0)).other (by omega) 1 (.string (A ++ B.extract f.b1.size B.size))).other (by omega) 2 (.int .i64 f.e0)).other (by omega) 3 (.int .i64 (f.e1 + 1))).other (by omega) 4 (.int .i64 f.lim))
  replace xw := (((((xw.other (Ne.symm ne_xw_xr) 0 (.string f.b0)).other (Ne.symm ne_xw_xr) 1 (.string (A ++ B.extract f.b1.size B.size))).other (Ne.symm ne_xw_xr) 2 (.int .i64 f.e0)).other (Ne.symm ne_xw_xr) 3 (.int .i64 (f.e1 + 1))).other (Ne.symm ne_xw_xr) 4 (.int .i64 f.lim))
  replace xr : Box 25 (((((V11.setCell ⟨W.heap.size + 1 + 1, 0, none⟩ (.string f.b0)).setCell ⟨W.heap.size + 1 + 1, 1, none⟩ (.string (A ++ B.extract f.b1.size B.size))).setCell ⟨W.heap.size + 1 + 1, 2, none⟩ (.int .i64 f.e0)).setCell ⟨W.heap.size + 1 + 1, 3, none⟩ (.int .i64 (f.e1 + 1))).setCell ⟨W.heap.size + 1 + 1, 4, none⟩ (.int .i64 f.lim)) (W.heap.size + 1 + 1) [.string f.b0, .string (A ++ B.extract f.b1.size B.size), .int .i64 f.e0, .int .i64 (f.e1 + 1), .int .i64 f.lim] := (((((xr.set 0 (.string f.b0)).set 1 (.string (A ++ B.extract f.b1.size B.size))).set 2 (.int .i64 f.e0)).set 3 (.int .i64 (f.e1 + 1))).set 4 (.int .i64 f.lim))
  replace hB : Below W.heap.size W (((((V11.setCell ⟨W.heap.size + 1 + 1, 0, none⟩ (.string f.b0)).setCell ⟨W.heap.size + 1 + 1, 1, none⟩ (.string (A ++ B.extract f.b1.size B.size))).setCell ⟨W.heap.size + 1 + 1, 2, none⟩ (.int .i64 f.e0)).setCell ⟨W.heap.size + 1 + 1, 3, none⟩ (.int .i64 (f.e1 + 1))).setCell ⟨W.heap.size + 1 + 1, 4, none⟩ (.int .i64 f.lim)) := (((((hB.setCell le_xr _).setCell le_xr _).setCell le_xr _).setCell le_xr _).setCell le_xr _)
  generalize (((((V11.setCell ⟨W.heap.size + 1 + 1, 0, none⟩ (.string f.b0)).setCell ⟨W.heap.size + 1 + 1, 1, none⟩ (.string (A ++ B.extract f.b1.size B.size))).setCell ⟨W.heap.size + 1 + 1, 2, none⟩ (.int .i64 f.e0)).setCell ⟨W.heap.size + 1 + 1, 3, none⟩ (.int .i64 (f.e1 + 1))).setCell ⟨W.heap.size + 1 + 1, 4, none⟩ (.int .i64 f.lim)) = V12 at *
  have cxf := xf.f5
  have cxo := xo.f4
  have cxr := xr.f5
  have cxw := xw.f5
  exact bodyPost_ret (v := .tuple #[.agg #[.string f.b0, .string (A ++ B.extract f.b1.size B.size), .int .i64 f.e0, .int .i64 (f.e1 + 1), .int .i64 f.lim], .int .i64 0]) (by simp [results, Tryz.results26, go_sem, cxr]) rfl ⟨rfl, hB⟩

set_option maxRecDepth 100000 in
set_option maxHeartbeats 4000000 in
theorem pwTear0 (f : Fl) (o : PwOp) (m : ByteArray) (W : World) (hf : f.fit) (ho : o.ok) (he : doErr f o ≠ 0) :
    Calls Tryz.prog 26 #[.agg #[.string f.b0, .string f.b1, .int .i64 f.e0, .int .i64 f.e1, .int .i64 f.lim], .agg #[.int .i64 o.kind, .int .i64 o.bank, .int .i64 o.q, .string o.d], .string m] W fun e W' => e = .returned (.tuple #[.agg #[.string f.b0, .string f.b1, .int .i64 f.e0, .int .i64 f.e1, .int .i64 f.lim], .int .i64 (doErr f o)]) ∧ Below W.heap.size W W' := by
  have TD := Lib.hid (fun (W : World) => (show Calls Tryz.prog 25 #[.agg #[.string f.b0, .string f.b1, .int .i64 f.e0, .int .i64 f.e1, .int .i64 f.lim], .agg #[.int .i64 o.kind, .int .i64 o.bank, .int .i64 o.q, .string o.d]] W fun e W' => e = .returned (.tuple #[.agg #[.string f.b0, .string f.b1, .int .i64 f.e0, .int .i64 f.e1, .int .i64 f.lim], .int .i64 (doErr f o)]) ∧ Below W.heap.size W W' from by have h := own04Do f o W hf ho; rwa [doF_err he] at h))
  have nE : (doErr f o != 0) = true := bne_iff_ne.2 he
  clear he
  generalize doErr f o = E at *
  have hB : Below W.heap.size W (((W.alloc (.cells #[.string f.b0, .string f.b1, .int .i64 f.e0, .int .i64 f.e1, .int .i64 f.lim] 25)).alloc (.cells #[.int .i64 o.kind, .int .i64 o.bank, .int .i64 o.q, .string o.d] 46)).alloc (.cells #[.string ⟨#[]⟩, .string ⟨#[]⟩, .int .i64 0, .int .i64 0, .int .i64 0] 25)) := ((((Below.refl _ _).alloc (Nat.le_refl _) _).alloc (by simp) _).alloc (by simp; omega) _)
  have xf := (((Box.new 25 W [.string f.b0, .string f.b1, .int .i64 f.e0, .int .i64 f.e1, .int .i64 f.lim]).alloc (.cells #[.int .i64 o.kind, .int .i64 o.bank, .int .i64 o.q, .string o.d] 46)).alloc (.cells #[.string ⟨#[]⟩, .string ⟨#[]⟩, .int .i64 0, .int .i64 0, .int .i64 0] 25))
  have xo : Box 46 (((W.alloc (.cells #[.string f.b0, .string f.b1, .int .i64 f.e0, .int .i64 f.e1, .int .i64 f.lim] 25)).alloc (.cells #[.int .i64 o.kind, .int .i64 o.bank, .int .i64 o.q, .string o.d] 46)).alloc (.cells #[.string ⟨#[]⟩, .string ⟨#[]⟩, .int .i64 0, .int .i64 0, .int .i64 0] 25)) (W.heap.size + 1) [.int .i64 o.kind, .int .i64 o.bank, .int .i64 o.q, .string o.d] := by have h := ((Box.new 46 (W.alloc (.cells #[.string f.b0, .string f.b1, .int .i64 f.e0, .int .i64 f.e1, .int .i64 f.lim] 25)) [.int .i64 o.kind, .int .i64 o.bank, .int .i64 o.q, .string o.d]).alloc (.cells #[.string ⟨#[]⟩, .string ⟨#[]⟩, .int .i64 0, .int .i64 0, .int .i64 0] 25)); rwa [World.size_alloc] at h
  have le_xo : W.heap.size ≤ W.heap.size + 1 := by omega
  have xr : Box 25 (((W.alloc (.cells #[.string f.b0, .string f.b1, .int .i64 f.e0, .int .i64 f.e1, .int .i64 f.lim] 25)).alloc (.cells #[.int .i64 o.kind, .int .i64 o.bank, .int .i64 o.q, .string o.d] 46)).alloc (.cells #[.string ⟨#[]⟩, .string ⟨#[]⟩, .int .i64 0, .int .i64 0, .int .i64 0] 25)) (W.heap.size + 1 + 1) [.string ⟨#[]⟩, .string ⟨#[]⟩, .int .i64 0, .int .i64 0, .int .i64 0] := by have h := (Box.new 25 ((W.alloc (.cells #[.string f.b0, .string f.b1, .int .i64 f.e0, .int .i64 f.e1, .int .i64 f.lim] 25)).alloc (.cells #[.int .i64 o.kind, .int .i64 o.bank, .int .i64 o.q, .string o.d] 46)) [.string ⟨#[]⟩, .string ⟨#[]⟩, .int .i64 0, .int .i64 0, .int .i64 0]); rwa [World.size_alloc, World.size_alloc] at h
  have le_xr : W.heap.size ≤ W.heap.size + 1 + 1 := by omega
  go_enter Tryz.func26, Tryz.ntmps26
  go_wp2_with fail
  refine (TD.out _).mono ?_
  rintro e V1 ⟨rfl, hk⟩
  replace hB := below_seq hB hk
  replace xf := xf.seq hk
  replace xo := xo.seq hk
  replace xr := xr.seq hk
  clear hk
  have xw := Box.new 25 V1 [.string f.b0, .string f.b1, .int .i64 f.e0, .int .i64 f.e1, .int .i64 f.lim]
  have ne_xw_xf : V1.heap.size ≠ W.heap.size := Nat.ne_of_gt xf.lt
  have ne_xw_xo : V1.heap.size ≠ W.heap.size + 1 := Nat.ne_of_gt xo.lt
  have ne_xw_xr : V1.heap.size ≠ W.heap.size + 1 + 1 := Nat.ne_of_gt xr.lt
  have le_xw : W.heap.size ≤ V1.heap.size := hB.size
  replace xf := xf.alloc (.cells #[.string f.b0, .string f.b1, .int .i64 f.e0, .int .i64 f.e1, .int .i64 f.lim] 25)
  replace xo := xo.alloc (.cells #[.string f.b0, .string f.b1, .int .i64 f.e0, .int .i64 f.e1, .int .i64 f.lim] 25)
  replace xr := xr.alloc (.cells #[.string f.b0, .string f.b1, .int .i64 f.e0, .int .i64 f.e1, .int .i64 f.lim] 25)
  replace hB := hB.alloc hB.size (.cells #[.string f.b0, .string f.b1, .int .i64 f.e0, .int .i64 f.e1, .int .i64 f.lim] 25)
  have cxf := xf.f5
  have cxo := xo.f4
  have cxr := xr.f5
  have cxw := xw.f5
  go_wp2
  clear cxf cxo cxr cxw
  replace xf : Box 25 ((((((V1.alloc (.cells #[.string f.b0, .string f.b1, .int .i64 f.e0, .int .i64 f.e1, .int .i64 f.lim] 25)).setCell ⟨W.heap.size + 1 + 1, 0, none⟩ (.string f.b0)).setCell ⟨W.heap.size + 1 + 1, 1, none⟩ (.string f.b1)).setCell ⟨W.heap.size + 1 + 1, 2, none⟩ (.int .i64 f.e0)).setCell ⟨W.heap.size + 1 + 1, 3, none⟩ (.int .i64 f.e1)).setCell ⟨W.heap.size + 1 + 1, 4, none⟩ (.int .i64 f.lim)) (W.heap.size) [.string f.b0, .string f.b1, .int .i64 f.e0, .int .i64 f.e1, .int .i64 f.lim] := (((((xf.other (by omega) 0 (.string f.b0)).other (by omega) 1 (.string f.b1)).other (by omega) 2 (.int .i64 f.e0)).other (by omega) 3 (.int .i64 f.e1)).other (by omega) 4 (.int .i64 f.lim))
  replace xo : Box 46 ((((((V1.alloc (.cells #[.string f.b0, .string f.b1, .int .i64 f.e0, .int .i64 f.e1, .int .i64 f.lim] 25)).setCell ⟨W.heap.size + 1 + 1, 0, none⟩ (.string f.b0)).setCell ⟨W.heap.size + 1 + 1, 1, none⟩ (.string f.b1)).setCell ⟨W.heap.size + 1 + 1, 2, none⟩ (.int .i64 f.e0)).setCell ⟨W.heap.size + 1 + 1, 3, none⟩ (.int .i64 f.e1)).setCell ⟨W.heap.size + 1 + 1, 4, none⟩ (.int .i64 f.lim)) (W.heap.size + 1) [.int .i64 o.kind, .int .i64 o.bank, .int .i64 o.q, .string o.d] := (((((xo.other (by omega) 0 (.string f.b0)).other (by omega) 1 (.string f.b1)).other (by omega) 2 (.int .i64 f.e0)).other (by omega) 3 (.int .i64 f.e1)).other (by omega) 4 (.int .i64 f.lim))
  replace xw := (((((xw.other (Ne.symm ne_xw_xr) 0 (.string f.b0)).other (Ne.symm ne_xw_xr) 1 (.string f.b1)).other (Ne.symm ne_xw_xr) 2 (.int .i64 f.e0)).other (Ne.symm ne_xw_xr) 3 (.int .i64 f.e1)).other (Ne.symm ne_xw_xr) 4 (.int .i64 f.lim))
  replace xr : Box 25 ((((((V1.alloc (.cells #[.string f.b0, .string f.b1, .int .i64 f.e0, .int .i64 f.e1, .int .i64 f.lim] 25)).setCell ⟨W.heap.size + 1 + 1, 0, none⟩ (.string f.b0)).setCell ⟨W.heap.size + 1 + 1, 1, none⟩ (.string f.b1)).setCell ⟨W.heap.size + 1 + 1, 2, none⟩ (.int .i64 f.e0)).setCell ⟨W.heap.size + 1 + 1, 3, none⟩ (.int .i64 f.e1)).setCell ⟨W.heap.size + 1 + 1, 4, none⟩ (.int .i64 f.lim)) (W.heap.size + 1 + 1) [.string f.b0, .string f.b1, .int .i64 f.e0, .int .i64 f.e1, .int .i64 f.lim] := (((((xr.set 0 (.string f.b0)).set 1 (.string f.b1)).set 2 (.int .i64 f.e0)).set 3 (.int .i64 f.e1)).set 4 (.int .i64 f.lim))
  replace hB : Below W.heap.size W ((((((V1.alloc (.cells #[.string f.b0, .string f.b1, .int .i64 f.e0, .int .i64 f.e1, .int .i64 f.lim] 25)).setCell ⟨W.heap.size + 1 + 1, 0, none⟩ (.string f.b0)).setCell ⟨W.heap.size + 1 + 1, 1, none⟩ (.string f.b1)).setCell ⟨W.heap.size + 1 + 1, 2, none⟩ (.int .i64 f.e0)).setCell ⟨W.heap.size + 1 + 1, 3, none⟩ (.int .i64 f.e1)).setCell ⟨W.heap.size + 1 + 1, 4, none⟩ (.int .i64 f.lim)) := (((((hB.setCell le_xr _).setCell le_xr _).setCell le_xr _).setCell le_xr _).setCell le_xr _)
  generalize ((((((V1.alloc (.cells #[.string f.b0, .string f.b1, .int .i64 f.e0, .int .i64 f.e1, .int .i64 f.lim] 25)).setCell ⟨W.heap.size + 1 + 1, 0, none⟩ (.string f.b0)).setCell ⟨W.heap.size + 1 + 1, 1, none⟩ (.string f.b1)).setCell ⟨W.heap.size + 1 + 1, 2, none⟩ (.int .i64 f.e0)).setCell ⟨W.heap.size + 1 + 1, 3, none⟩ (.int .i64 f.e1)).setCell ⟨W.heap.size + 1 + 1, 4, none⟩ (.int .i64 f.lim)) = V2 at *
  have cxf := xf.f5
  have cxo := xo.f4
  have cxr := xr.f5
  have cxw := xw.f5
  exact bodyPost_ret (v := .tuple #[.agg #[.string f.b0, .string f.b1, .int .i64 f.e0, .int .i64 f.e1, .int .i64 f.lim], .int .i64 E]) (by simp [results, Tryz.results26, go_sem, cxr]) rfl ⟨rfl, hB⟩

theorem own04Tear (f : Fl) (o : PwOp) (m : ByteArray) (W : World) (hf : f.fit) (ho : o.ok) (hm : m.size ≤ maxLen) :
    Calls Tryz.prog 26 #[.agg #[.string f.b0, .string f.b1, .int .i64 f.e0, .int .i64 f.e1, .int .i64 f.lim], .agg #[.int .i64 o.kind, .int .i64 o.bank, .int .i64 o.q, .string o.d], .string m] W fun e W' => e = .returned (.tuple #[.agg #[.string (tearF f o m).b0, .string (tearF f o m).b1, .int .i64 (tearF f o m).e0, .int .i64 (tearF f o m).e1, .int .i64 (tearF f o m).lim], .int .i64 (doErr f o)]) ∧ Below W.heap.size W W' := by
  by_cases he : doErr f o = 0
  · obtain ⟨hb, hk⟩ := doErr_bank he
    have hq := ho.nq
    have hd := ho.sd
    obtain ⟨k, b, q, d⟩ := o
    dsimp only at hb hk hq hd ⊢
    rcases hk with rfl | rfl
    · rw [tearF_prog he rfl, he]
      dsimp only
      have hp : progErr f b q d = 0 := (doErr_prog (o := (⟨1, b, q, d⟩ : PwOp)) rfl).symm.trans he
      obtain ⟨hq0, hq1⟩ := prog_bounds hp
      obtain ⟨p, rfl⟩ := Int.eq_ofNat_of_zero_le hq0
      rw [Int.toNat_natCast] at hq1 ⊢
      rcases hb with rfl | rfl
      · exact pwTear1_0 f p d m W hf hd hm hp hq1
      · exact pwTear1_1 f p d m W hf hd hm hp hq1
    · rw [tearF_erase he rfl, he]
      dsimp only
      have hp : eraseErr f b = 0 := (doErr_erase (o := (⟨2, b, q, d⟩ : PwOp)) rfl).symm.trans he
      rcases hb with rfl | rfl
      · rw [eraseF_banks hp]; exact pwTear2_0 f q d m W hf hd hq.2 hm hp
      · rw [eraseF_banks hp]; exact pwTear2_1 f q d m W hf hd hq.2 hm hp
  · rw [tearF_err he]
    exact pwTear0 f o m W hf ho he
end Go.Proofs.YtiacdcnpkfpjaaaGreat

/- A record that is written into the next slot, with a number not less than the last one's, is the last one; then the next slot is one farther (ScanWrites); no condition. -/
import Derived.Test.YtoemjfjmpmngeadScanLaw
import Derived.Test.YtoemjfjmpmngeadBankRef
import Derived.Deep.RegionHeld3
import Derived.WalkLawsBesides
import Derived.WalkSpells
import Derived.IntWalk
import Derived.Lib.Hide
import Derived.Test.YtoemjfjmpmngeadBox
import Derived.Test.YtoemjfjmpmngeadLayout
import Derived.ProofKit
import Derived.OpenShut
import Derived.ChangeMaps5
import Derived.Test.YtoemjfjmpmngeadInts
namespace Go.Proofs.Ytoemjfjmpmngead.ScanWrites
open Go.ChangeShapes Go.WideShapes Go.ChangeAt Go.RowKit Go.ChangeMaps
set_option linter.unusedVariables false
set_option linter.unusedSimpArgs false
set_option maxRecDepth 100000 in
set_option maxHeartbeats 8000000 in
theorem way11 (s : ByteArray) (r x : Rec) (E : Int) (k n g0 : Nat) (M : ByteArray) (W : World) (h1 : s.size ≤ 400) (h2 : 2 ≤ r.kind) (h3 : r.kind ≤ 3) (hM : M.size = 24) (hkn : k + 1 ≤ n) (hn : n ≤ 12) (hz : s.size = 24 * n + 24) (hg : g0 ≤ 12)
    (hl : k + 1 = n) (he : x.seq ≤ r.seq)
    (cL : ∀ V : World, Calls Try.prog 21 #[.int .i64 (s.size : Int)] V fun e W' => e = .returned (.int .i64 (n : Int)) ∧ W' = V) (cK : ∀ V : World, Calls Try.prog 29 #[.string s] V fun e W' => e = .returned (.int .i64 ((k + 1 : Nat) : Int)) ∧ Below V.heap.size V W') (cE : ∀ V : World, Calls Try.prog 14 #[.agg #[.int .i64 r.kind, .int .u64 (r.seq : Int), .int .u64 (r.data : Int)]] V fun e W' => e = .returned (.string M) ∧ Below V.heap.size V W') (cLa : ∀ V : World, Calls Try.prog 25 #[.string s] V fun e W' => e = .returned (.tuple #[.agg #[.int .i64 x.kind, .int .u64 (x.seq : Int), .int .u64 (x.data : Int)], .int .i64 0]) ∧ Below V.heap.size V W') (cGs : ∀ V : World, Calls Try.prog 28 #[.string s] V fun e W' => e = .returned (.int .i64 (g0 : Int)) ∧ Below V.heap.size V W') (cGu : ∀ V : World, Calls Try.prog 28 #[.string (s.extract 0 (24 * (k + 1)) ++ M ++ s.extract (24 * (k + 1) + 24) s.size)] V fun e W' => e = .returned (.int .i64 ((g0 + 1 : Nat) : Int)) ∧ Below V.heap.size V W') (cLu : ∀ V : World, Calls Try.prog 25 #[.string (s.extract 0 (24 * (k + 1)) ++ M ++ s.extract (24 * (k + 1) + 24) s.size)] V fun e W' => e = .returned (.tuple #[.agg #[.int .i64 r.kind, .int .u64 (r.seq : Int), .int .u64 (r.data : Int)], .int .i64 0]) ∧ Below V.heap.size V W') (cNu : ∀ V : World, Calls Try.prog 29 #[.string (s.extract 0 (24 * (k + 1)) ++ M ++ s.extract (24 * (k + 1) + 24) s.size)] V fun e W' => e = .returned (.int .i64 0) ∧ Below V.heap.size V W') :
    Calls Try.prog 10 #[.string s, .agg #[.int .i64 r.kind, .int .u64 (r.seq : Int), .int .u64 (r.data : Int)]] W fun e W' => e = .returned (.bool true) ∧ Below W.heap.size W W' := by
  have TL := Lib.hid cL
  clear cL
  have TK := Lib.hid cK
  clear cK
  have TE := Lib.hid cE
  clear cE
  have TLa := Lib.hid cLa
  clear cLa
  have TGs := Lib.hid cGs
  clear cGs
  have TGu := Lib.hid cGu
  clear cGu
  have TLu := Lib.hid cLu
  clear cLu
  have TNu := Lib.hid cNu
  clear cNu
  have b1 : ¬ (s.size : Int) > 400 := by omega
  have z1 : s.size ≤ maxLen := by unfold maxLen; omega
  have d1 : ¬ r.kind < 2 := by omega
  have d3 : ¬ r.kind > 3 := by omega
  have n3 : ¬ ((k + 1 : Nat) : Int) < 1 := by omega
  have n4 : ¬ ((k + 1 : Nat) : Int) > (n : Int) := by omega
  have w1 : IntKind.i64.wrap (24 * ((k : Int) + 1)) = 24 * ((k : Int) + 1) := IntWalk.i64_in _ (by omega)
  have w2 : IntKind.i64.wrap (24 * ((k : Int) + 1) + 24) = 24 * ((k : Int) + 1) + 24 := IntWalk.i64_in _ (by omega)
  have w3 : IntKind.i64.wrap ((k : Int) + 1 + 1) = (k : Int) + 1 + 1 := IntWalk.i64_in _ (by omega)
  have t1 : (24 * ((k : Int) + 1)).toNat = 24 * (k + 1) := by omega
  have t2 : (24 * ((k : Int) + 1) + 24).toNat = 24 * (k + 1) + 24 := by omega
  have v0 : (0 : Int) ≤ 24 * ((k : Int) + 1) := by omega
  have v1 : (0 : Int) ≤ 24 * ((k : Int) + 1) + 24 := by omega
  have v2 : 24 * ((k : Int) + 1) ≤ (s.size : Int) := by omega
  have v3 : 24 * ((k : Int) + 1) + 24 ≤ (s.size : Int) := by omega
  have o1 : ¬ 9223372036854775807 < 24 * (k + 1) + M.size := by omega
  have o2 : ¬ 9223372036854775807 < 24 * (k + 1) + M.size + (s.size - (24 * (k + 1) + 24)) := by omega
  have o3 : ¬ 9223372036854775807 < min (24 * (k + 1)) s.size + M.size := by omega
  have o4 : ¬ 9223372036854775807 < min (24 * (k + 1)) s.size + M.size + (s.size - (24 * (k + 1) + 24)) := by omega
  have n5 : ((k : Int) + 1 == (n : Int)) = true := beq_iff_eq.2 (by omega)
  have n6 : ¬ ((x.seq : Nat) : Int) > (r.seq : Int) := by omega
  have wg : IntKind.i64.wrap ((g0 : Int) + 1) = (g0 : Int) + 1 := IntWalk.i64_in _ (by omega)
  clear h1 h2 h3 hM hkn hn hz hg he hl
  have hB : Below W.heap.size W (W.alloc (.cells #[.int .i64 r.kind, .int .u64 (r.seq : Int), .int .u64 (r.data : Int)] 24)) := ((Below.refl _ _).alloc (Nat.le_refl _) _)
  have xr := (Box.new 24 W [.int .i64 r.kind, .int .u64 (r.seq : Int), .int .u64 (r.data : Int)])
  go_enter Try.func10, Try.ntmps10
  go_wp2_with fail
  refine (TL.out _).mono ?_
  rintro e w' ⟨rfl, hw⟩
  rw [hw]
  clear hw w'
  go_wp2_with fail
  refine (TK.out _).mono ?_
  rintro e V1 ⟨rfl, hk⟩
  replace hB := below_seq hB hk
  replace xr := xr.seq hk
  clear hk
  have xr0 := xr.cell 0 rfl
  have xrz0 := xr.frozen 0
  have xr1 := xr.cell 1 rfl
  have xrz1 := xr.frozen 1
  have xr2 := xr.cell 2 rfl
  have xrz2 := xr.frozen 2
  go_wp2_with fail
  refine (shown09 _).mono ?_
  rintro e V2 ⟨rfl, hk⟩
  clear xr0 xrz0 xr1 xrz1 xr2 xrz2
  replace hB := below_seq hB hk
  replace xr := xr.seq hk
  clear hk
  have xr0 := xr.cell 0 rfl
  have xrz0 := xr.frozen 0
  have xr1 := xr.cell 1 rfl
  have xrz1 := xr.frozen 1
  have xr2 := xr.cell 2 rfl
  have xrz2 := xr.frozen 2
  go_wp2_with fail
  refine (TLa.out _).mono ?_
  rintro e V3 ⟨rfl, hk⟩
  clear xr0 xrz0 xr1 xrz1 xr2 xrz2
  replace hB := below_seq hB hk
  replace xr := xr.seq hk
  clear hk
  have xl := Box.new 24 V3 [.int .i64 x.kind, .int .u64 (x.seq : Int), .int .u64 (x.data : Int)]
  have ne_xl_xr : V3.heap.size ≠ W.heap.size := Nat.ne_of_gt xr.lt
  have le_xl : W.heap.size ≤ V3.heap.size := hB.size
  replace xr := xr.alloc (.cells #[.int .i64 x.kind, .int .u64 (x.seq : Int), .int .u64 (x.data : Int)] 24)
  replace hB := hB.alloc hB.size (.cells #[.int .i64 x.kind, .int .u64 (x.seq : Int), .int .u64 (x.data : Int)] 24)
  have xr0 := xr.cell 0 rfl
  have xrz0 := xr.frozen 0
  have xr1 := xr.cell 1 rfl
  have xrz1 := xr.frozen 1
  have xr2 := xr.cell 2 rfl
  have xrz2 := xr.frozen 2
  have xl0 := xl.cell 0 rfl
  have xlz0 := xl.frozen 0
  have xl1 := xl.cell 1 rfl
  have xlz1 := xl.frozen 1
  have xl2 := xl.cell 2 rfl
  have xlz2 := xl.frozen 2
  go_wp2_with fail
  generalize (V3.alloc (.cells #[.int .i64 x.kind, .int .u64 (x.seq : Int), .int .u64 (x.data : Int)] 24)) = V4 at *
  clear xr0 xrz0 xr1 xrz1 xr2 xrz2 xl0 xlz0 xl1 xlz1 xl2 xlz2
  replace hB := hB.drew
  replace xr := xr.drew
  replace xl := xl.drew
  refine wp_region_held_drew (S := fun w' => w'.cell? ⟨W.heap.size, 0, none⟩ = some (.int .i64 r.kind) ∧ w'.cell? ⟨W.heap.size, 1, none⟩ = some (.int .u64 (r.seq : Int)) ∧ w'.cell? ⟨W.heap.size, 2, none⟩ = some (.int .u64 (r.data : Int))) (by kernel_rfl) ?_ (fun hHeld => ?_)
  · exact ⟨xr.cell 0 rfl, xr.cell 1 rfl, xr.cell 2 rfl⟩
  generalize V4.drew = V5 at *
  refine wpAnyH_take (i := 0) (v := ?_) rfl (by kernel_rfl) (by kernel_rfl) (by kernel_rfl) (fun _ _ _ h => h) (Or.inl ⟨by rfl, ?_⟩) (by assumption) ?_
  rotate_left
  · intro w hSw; (try dsimp only at hSw); go_simp; try with_reducible rfl
  try simp only [Act.put, List.getElem_toArray, List.getElem_cons_zero, List.getElem_cons_succ, List.setIfInBounds_toArray, List.set_cons_zero, List.set_cons_succ]
  refine wpAnyH_take (i := 1) (v := ?_) rfl (by kernel_rfl) (by kernel_rfl) (by kernel_rfl) (fun _ _ _ h => h) (Or.inl ⟨by rfl, ?_⟩) (by assumption) ?_
  rotate_left
  · intro w hSw; (try dsimp only at hSw); go_simp; try with_reducible rfl
  try simp only [Act.put, List.getElem_toArray, List.getElem_cons_zero, List.getElem_cons_succ, List.setIfInBounds_toArray, List.set_cons_zero, List.set_cons_succ]
  refine wpAnyH_take (i := 2) (v := ?_) rfl (by kernel_rfl) (by kernel_rfl) (by kernel_rfl) (fun _ _ _ h => h) (Or.inl ⟨by rfl, ?_⟩) (by assumption) ?_
  rotate_left
  · intro w hSw; (try dsimp only at hSw); go_simp; try with_reducible rfl
  try simp only [Act.put, List.getElem_toArray, List.getElem_cons_zero, List.getElem_cons_succ, List.setIfInBounds_toArray, List.set_cons_zero, List.set_cons_succ]
  refine wpAnyH_take (i := 3) (v := ?_) rfl (by kernel_rfl) (by kernel_rfl) (by kernel_rfl) (fun _ _ _ h => h) (Or.inl ⟨by rfl, ?_⟩) (by assumption) ?_
  rotate_left
  · intro w hSw; (try dsimp only at hSw); go_simp; try with_reducible rfl
  try simp only [Act.put, List.getElem_toArray, List.getElem_cons_zero, List.getElem_cons_succ, List.setIfInBounds_toArray, List.set_cons_zero, List.set_cons_succ]
  refine wpAnyH_take (i := 4) (v := ?_) rfl (by kernel_rfl) (by kernel_rfl) (by kernel_rfl) (fun _ _ _ h => h) (Or.inl ⟨by rfl, ?_⟩) (by assumption) ?_
  rotate_left
  · intro w hSw; (try dsimp only at hSw); go_simp; try with_reducible rfl
  try simp only [Act.put, List.getElem_toArray, List.getElem_cons_zero, List.getElem_cons_succ, List.setIfInBounds_toArray, List.set_cons_zero, List.set_cons_succ]
  refine wpAnyH_take (i := 7) (v := ?_) rfl (by kernel_rfl) (by kernel_rfl) (by kernel_rfl) (fun _ _ _ h => h) (Or.inl ⟨by rfl, ?_⟩) (by assumption) ?_
  rotate_left
  · intro w hSw; (try dsimp only at hSw); go_simp; try with_reducible rfl
  try simp only [Act.put, List.getElem_toArray, List.getElem_cons_zero, List.getElem_cons_succ, List.setIfInBounds_toArray, List.set_cons_zero, List.set_cons_succ]
  refine wpAnyH_take (i := 8) (v := ?_) rfl (by kernel_rfl) (by kernel_rfl) (by kernel_rfl) (fun _ _ _ h => h) (Or.inl ⟨by rfl, ?_⟩) (by assumption) ?_
  rotate_left
  · intro w hSw; (try dsimp only at hSw); go_simp; try with_reducible rfl
  try simp only [Act.put, List.getElem_toArray, List.getElem_cons_zero, List.getElem_cons_succ, List.setIfInBounds_toArray, List.set_cons_zero, List.set_cons_succ]
  refine wpAnyH_take (i := 9) (v := ?_) rfl (by kernel_rfl) (by kernel_rfl) (by kernel_rfl) (fun _ _ _ h => h) (Or.inl ⟨by rfl, ?_⟩) (by assumption) ?_
  rotate_left
  · intro w hSw; (try dsimp only at hSw); go_simp; try with_reducible rfl
  try simp only [Act.put, List.getElem_toArray, List.getElem_cons_zero, List.getElem_cons_succ, List.setIfInBounds_toArray, List.set_cons_zero, List.set_cons_succ]
  refine wpAnyH_take (i := 10) (v := ?_) rfl (by kernel_rfl) (by kernel_rfl) (by kernel_rfl) (fun _ _ _ h => h) (Or.inl ⟨by rfl, ?_⟩) (by assumption) ?_
  rotate_left
  · intro w hSw; (try dsimp only at hSw); go_simp; try with_reducible rfl
  try simp only [Act.put, List.getElem_toArray, List.getElem_cons_zero, List.getElem_cons_succ, List.setIfInBounds_toArray, List.set_cons_zero, List.set_cons_succ]
  refine wpAnyH_take (i := 11) (v := ?_) rfl (by kernel_rfl) (by kernel_rfl) (by kernel_rfl) (fun _ _ _ h => h) (Or.inl ⟨by rfl, ?_⟩) (by assumption) ?_
  rotate_left
  · intro w hSw; (try dsimp only at hSw); go_simp; try with_reducible rfl
  try simp only [Act.put, List.getElem_toArray, List.getElem_cons_zero, List.getElem_cons_succ, List.setIfInBounds_toArray, List.set_cons_zero, List.set_cons_succ]
  refine wpAnyH_ready (rs := [5]) (by kernel_rfl) (by simp) ?_
  refine AllReadyH.cons rfl (fun K hK => ?_) AllReadyH.nil
  have xr0 := xr.cell 0 rfl
  have xrz0 := xr.frozen 0
  have xr1 := xr.cell 1 rfl
  have xrz1 := xr.frozen 1
  have xr2 := xr.cell 2 rfl
  have xrz2 := xr.frozen 2
  have xl0 := xl.cell 0 rfl
  have xlz0 := xl.frozen 0
  have xl1 := xl.cell 1 rfl
  have xlz1 := xl.frozen 1
  have xl2 := xl.cell 2 rfl
  have xlz2 := xl.frozen 2
  go_simp
  refine (TE.out _).mono ?_
  rintro e V6 ⟨rfl, hk⟩
  clear xr0 xrz0 xr1 xrz1 xr2 xrz2 xl0 xlz0 xl1 xlz1 xl2 xlz2
  replace hB := below_seq hB hk
  replace xr := xr.seq hk
  replace xl := xl.seq hk
  clear hk
  have xr0 := xr.cell 0 rfl
  have xrz0 := xr.frozen 0
  have xr1 := xr.cell 1 rfl
  have xrz1 := xr.frozen 1
  have xr2 := xr.cell 2 rfl
  have xrz2 := xr.frozen 2
  have xl0 := xl.cell 0 rfl
  have xlz0 := xl.frozen 0
  have xl1 := xl.cell 1 rfl
  have xlz1 := xl.frozen 1
  have xl2 := xl.cell 2 rfl
  have xlz2 := xl.frozen 2
  try go_wp2_with fail
  clear xr0 xrz0 xr1 xrz1 xr2 xrz2 xl0 xlz0 xl1 xlz1 xl2 xlz2
  clear hHeld
  refine hK.out _ _ ?_ (fun hHeld => ?_)
  · exact ⟨xr.cell 0 rfl, xr.cell 1 rfl, xr.cell 2 rfl⟩
  clear hK K
  try simp only [Act.put, List.getElem_toArray, List.getElem_cons_zero, List.getElem_cons_succ, List.setIfInBounds_toArray, List.set_cons_zero, List.set_cons_succ]
  refine wpAnyH_take (i := 6) (v := ?_) rfl (by kernel_rfl) (by kernel_rfl) (by kernel_rfl) (fun _ _ _ h => h) (Or.inl ⟨by rfl, ?_⟩) (by assumption) ?_
  rotate_left
  · intro w hSw; (try dsimp only at hSw); go_simp; try with_reducible rfl
  try simp only [Act.put, List.getElem_toArray, List.getElem_cons_zero, List.getElem_cons_succ, List.setIfInBounds_toArray, List.set_cons_zero, List.set_cons_succ]
  refine wpAnyH_take (i := 12) (v := ?_) rfl (by kernel_rfl) (by kernel_rfl) (by kernel_rfl) (fun _ _ _ h => h) (Or.inl ⟨by rfl, ?_⟩) (by assumption) ?_
  rotate_left
  · intro w hSw; (try dsimp only at hSw); go_simp; try with_reducible rfl
  try simp only [Act.put, List.getElem_toArray, List.getElem_cons_zero, List.getElem_cons_succ, List.setIfInBounds_toArray, List.set_cons_zero, List.set_cons_succ]
  refine wpAnyH_take (i := 13) (v := ?_) rfl (by kernel_rfl) (by kernel_rfl) (by kernel_rfl) (fun _ _ _ h => h) (Or.inl ⟨by rfl, ?_⟩) (by assumption) ?_
  rotate_left
  · intro w hSw; (try dsimp only at hSw); go_simp; try with_reducible rfl
  try simp only [Act.put, List.getElem_toArray, List.getElem_cons_zero, List.getElem_cons_succ, List.setIfInBounds_toArray, List.set_cons_zero, List.set_cons_succ]
  refine wpAnyH_done (by kernel_rfl) ?_ _
  clear hHeld
  have xr0 := xr.cell 0 rfl
  have xrz0 := xr.frozen 0
  have xr1 := xr.cell 1 rfl
  have xrz1 := xr.frozen 1
  have xr2 := xr.cell 2 rfl
  have xrz2 := xr.frozen 2
  have xl0 := xl.cell 0 rfl
  have xlz0 := xl.frozen 0
  have xl1 := xl.cell 1 rfl
  have xlz1 := xl.frozen 1
  have xl2 := xl.cell 2 rfl
  have xlz2 := xl.frozen 2
  go_wp2_with fail
  refine (TLu.out _).mono ?_
  rintro e V7 ⟨rfl, hk⟩
  clear xr0 xrz0 xr1 xrz1 xr2 xrz2 xl0 xlz0 xl1 xlz1 xl2 xlz2
  replace hB := below_seq hB hk
  replace xr := xr.seq hk
  replace xl := xl.seq hk
  clear hk
  have xu := Box.new 24 V7 [.int .i64 r.kind, .int .u64 (r.seq : Int), .int .u64 (r.data : Int)]
  have ne_xu_xr : V7.heap.size ≠ W.heap.size := Nat.ne_of_gt xr.lt
  have ne_xu_xl : V7.heap.size ≠ V3.heap.size := Nat.ne_of_gt xl.lt
  have le_xu : W.heap.size ≤ V7.heap.size := hB.size
  replace xr := xr.alloc (.cells #[.int .i64 r.kind, .int .u64 (r.seq : Int), .int .u64 (r.data : Int)] 24)
  replace xl := xl.alloc (.cells #[.int .i64 r.kind, .int .u64 (r.seq : Int), .int .u64 (r.data : Int)] 24)
  replace hB := hB.alloc hB.size (.cells #[.int .i64 r.kind, .int .u64 (r.seq : Int), .int .u64 (r.data : Int)] 24)
  have xr0 := xr.cell 0 rfl
  have xrz0 := xr.frozen 0
  have xr1 := xr.cell 1 rfl
  have xrz1 := xr.frozen 1
  have xr2 := xr.cell 2 rfl
  have xrz2 := xr.frozen 2
  have xl0 := xl.cell 0 rfl
  have xlz0 := xl.frozen 0
  have xl1 := xl.cell 1 rfl
  have xlz1 := xl.frozen 1
  have xl2 := xl.cell 2 rfl
  have xlz2 := xl.frozen 2
  have xu0 := xu.cell 0 rfl
  have xuz0 := xu.frozen 0
  have xu1 := xu.cell 1 rfl
  have xuz1 := xu.frozen 1
  have xu2 := xu.cell 2 rfl
  have xuz2 := xu.frozen 2
  go_wp2_with fail
  refine (TNu.out _).mono ?_
  rintro e V8 ⟨rfl, hk⟩
  clear xr0 xrz0 xr1 xrz1 xr2 xrz2 xl0 xlz0 xl1 xlz1 xl2 xlz2 xu0 xuz0 xu1 xuz1 xu2 xuz2
  replace hB := below_seq hB hk
  replace xr := xr.seq hk
  replace xl := xl.seq hk
  replace xu := xu.seq hk
  clear hk
  have xr0 := xr.cell 0 rfl
  have xrz0 := xr.frozen 0
  have xr1 := xr.cell 1 rfl
  have xrz1 := xr.frozen 1
  have xr2 := xr.cell 2 rfl
  have xrz2 := xr.frozen 2
  have xl0 := xl.cell 0 rfl
  have xlz0 := xl.frozen 0
  have xl1 := xl.cell 1 rfl
  have xlz1 := xl.frozen 1
  have xl2 := xl.cell 2 rfl
  have xlz2 := xl.frozen 2
  have xu0 := xu.cell 0 rfl
  have xuz0 := xu.frozen 0
  have xu1 := xu.cell 1 rfl
  have xuz1 := xu.frozen 1
  have xu2 := xu.cell 2 rfl
  have xuz2 := xu.frozen 2
  go_wp2_with fail
  refine (TGu.out _).mono ?_
  rintro e V9 ⟨rfl, hk⟩
  clear xr0 xrz0 xr1 xrz1 xr2 xrz2 xl0 xlz0 xl1 xlz1 xl2 xlz2 xu0 xuz0 xu1 xuz1 xu2 xuz2
  replace hB := below_seq hB hk
  replace xr := xr.seq hk
  replace xl := xl.seq hk
  replace xu := xu.seq hk
  clear hk
  have xr0 := xr.cell 0 rfl
  have xrz0 := xr.frozen 0
  have xr1 := xr.cell 1 rfl
  have xrz1 := xr.frozen 1
  have xr2 := xr.cell 2 rfl
  have xrz2 := xr.frozen 2
  have xl0 := xl.cell 0 rfl
  have xlz0 := xl.frozen 0
  have xl1 := xl.cell 1 rfl
  have xlz1 := xl.frozen 1
  have xl2 := xl.cell 2 rfl
  have xlz2 := xl.frozen 2
  have xu0 := xu.cell 0 rfl
  have xuz0 := xu.frozen 0
  have xu1 := xu.cell 1 rfl
  have xuz1 := xu.frozen 1
  have xu2 := xu.cell 2 rfl
  have xuz2 := xu.frozen 2
  go_wp2_with fail
  refine (TGs.out _).mono ?_
  rintro e V10 ⟨rfl, hk⟩
  clear xr0 xrz0 xr1 xrz1 xr2 xrz2 xl0 xlz0 xl1 xlz1 xl2 xlz2 xu0 xuz0 xu1 xuz1 xu2 xuz2
  replace hB := below_seq hB hk
  replace xr := xr.seq hk
  replace xl := xl.seq hk
  replace xu := xu.seq hk
  clear hk
  have xr0 := xr.cell 0 rfl
  have xrz0 := xr.frozen 0
  have xr1 := xr.cell 1 rfl
  have xrz1 := xr.frozen 1
  have xr2 := xr.cell 2 rfl
  have xrz2 := xr.frozen 2
  have xl0 := xl.cell 0 rfl
  have xlz0 := xl.frozen 0
  have xl1 := xl.cell 1 rfl
  have xlz1 := xl.frozen 1
  have xl2 := xl.cell 2 rfl
  have xlz2 := xl.frozen 2
  have xu0 := xu.cell 0 rfl
  have xuz0 := xu.frozen 0
  have xu1 := xu.cell 1 rfl
  have xuz1 := xu.frozen 1
  have xu2 := xu.cell 2 rfl
  have xuz2 := xu.frozen 2
  go_wp2
  go_ret
  exact ⟨rfl, hB⟩

set_option maxRecDepth 100000 in
set_option maxHeartbeats 8000000 in
theorem way10 (s : ByteArray) (r x : Rec) (E : Int) (k n g0 : Nat) (M : ByteArray) (W : World) (h1 : s.size ≤ 400) (h2 : 2 ≤ r.kind) (h3 : r.kind ≤ 3) (hM : M.size = 24) (hkn : k + 1 ≤ n) (hn : n ≤ 12) (hz : s.size = 24 * n + 24) (hg : g0 ≤ 12)
    (hl : k + 1 = n) (he : E ≠ 0)
    (cL : ∀ V : World, Calls Try.prog 21 #[.int .i64 (s.size : Int)] V fun e W' => e = .returned (.int .i64 (n : Int)) ∧ W' = V) (cK : ∀ V : World, Calls Try.prog 29 #[.string s] V fun e W' => e = .returned (.int .i64 ((k + 1 : Nat) : Int)) ∧ Below V.heap.size V W') (cE : ∀ V : World, Calls Try.prog 14 #[.agg #[.int .i64 r.kind, .int .u64 (r.seq : Int), .int .u64 (r.data : Int)]] V fun e W' => e = .returned (.string M) ∧ Below V.heap.size V W') (cLa : ∀ V : World, Calls Try.prog 25 #[.string s] V fun e W' => e = .returned (.tuple #[.agg #[.int .i64 x.kind, .int .u64 (x.seq : Int), .int .u64 (x.data : Int)], .int .i64 E]) ∧ Below V.heap.size V W') (cGs : ∀ V : World, Calls Try.prog 28 #[.string s] V fun e W' => e = .returned (.int .i64 (g0 : Int)) ∧ Below V.heap.size V W') (cGu : ∀ V : World, Calls Try.prog 28 #[.string (s.extract 0 (24 * (k + 1)) ++ M ++ s.extract (24 * (k + 1) + 24) s.size)] V fun e W' => e = .returned (.int .i64 ((g0 + 1 : Nat) : Int)) ∧ Below V.heap.size V W') (cLu : ∀ V : World, Calls Try.prog 25 #[.string (s.extract 0 (24 * (k + 1)) ++ M ++ s.extract (24 * (k + 1) + 24) s.size)] V fun e W' => e = .returned (.tuple #[.agg #[.int .i64 r.kind, .int .u64 (r.seq : Int), .int .u64 (r.data : Int)], .int .i64 0]) ∧ Below V.heap.size V W') (cNu : ∀ V : World, Calls Try.prog 29 #[.string (s.extract 0 (24 * (k + 1)) ++ M ++ s.extract (24 * (k + 1) + 24) s.size)] V fun e W' => e = .returned (.int .i64 0) ∧ Below V.heap.size V W') :
    Calls Try.prog 10 #[.string s, .agg #[.int .i64 r.kind, .int .u64 (r.seq : Int), .int .u64 (r.data : Int)]] W fun e W' => e = .returned (.bool true) ∧ Below W.heap.size W W' := by
  have TL := Lib.hid cL
  clear cL
  have TK := Lib.hid cK
  clear cK
  have TE := Lib.hid cE
  clear cE
  have TLa := Lib.hid cLa
  clear cLa
  have TGs := Lib.hid cGs
  clear cGs
  have TGu := Lib.hid cGu
  clear cGu
  have TLu := Lib.hid cLu
  clear cLu
  have TNu := Lib.hid cNu
  clear cNu
  have b1 : ¬ (s.size : Int) > 400 := by omega
  have z1 : s.size ≤ maxLen := by unfold maxLen; omega
  have d1 : ¬ r.kind < 2 := by omega
  have d3 : ¬ r.kind > 3 := by omega
  have n3 : ¬ ((k + 1 : Nat) : Int) < 1 := by omega
  have n4 : ¬ ((k + 1 : Nat) : Int) > (n : Int) := by omega
  have w1 : IntKind.i64.wrap (24 * ((k : Int) + 1)) = 24 * ((k : Int) + 1) := IntWalk.i64_in _ (by omega)
  have w2 : IntKind.i64.wrap (24 * ((k : Int) + 1) + 24) = 24 * ((k : Int) + 1) + 24 := IntWalk.i64_in _ (by omega)
  have w3 : IntKind.i64.wrap ((k : Int) + 1 + 1) = (k : Int) + 1 + 1 := IntWalk.i64_in _ (by omega)
  have t1 : (24 * ((k : Int) + 1)).toNat = 24 * (k + 1) := by omega
  have t2 : (24 * ((k : Int) + 1) + 24).toNat = 24 * (k + 1) + 24 := by omega
  have v0 : (0 : Int) ≤ 24 * ((k : Int) + 1) := by omega
  have v1 : (0 : Int) ≤ 24 * ((k : Int) + 1) + 24 := by omega
  have v2 : 24 * ((k : Int) + 1) ≤ (s.size : Int) := by omega
  have v3 : 24 * ((k : Int) + 1) + 24 ≤ (s.size : Int) := by omega
  have o1 : ¬ 9223372036854775807 < 24 * (k + 1) + M.size := by omega
  have o2 : ¬ 9223372036854775807 < 24 * (k + 1) + M.size + (s.size - (24 * (k + 1) + 24)) := by omega
  have o3 : ¬ 9223372036854775807 < min (24 * (k + 1)) s.size + M.size := by omega
  have o4 : ¬ 9223372036854775807 < min (24 * (k + 1)) s.size + M.size + (s.size - (24 * (k + 1) + 24)) := by omega
  have n5 : ((k : Int) + 1 == (n : Int)) = true := beq_iff_eq.2 (by omega)
  have n6 : (E == 0) = false := beq_eq_false_iff_ne.2 he
  have wg : IntKind.i64.wrap ((g0 : Int) + 1) = (g0 : Int) + 1 := IntWalk.i64_in _ (by omega)
  clear h1 h2 h3 hM hkn hn hz hg he hl
  have hB : Below W.heap.size W (W.alloc (.cells #[.int .i64 r.kind, .int .u64 (r.seq : Int), .int .u64 (r.data : Int)] 24)) := ((Below.refl _ _).alloc (Nat.le_refl _) _)
  have xr := (Box.new 24 W [.int .i64 r.kind, .int .u64 (r.seq : Int), .int .u64 (r.data : Int)])
  go_enter Try.func10, Try.ntmps10
  go_wp2_with fail
  refine (TL.out _).mono ?_
  rintro e w' ⟨rfl, hw⟩
  rw [hw]
  clear hw w'
  go_wp2_with fail
  refine (TK.out _).mono ?_
  rintro e V1 ⟨rfl, hk⟩
  replace hB := below_seq hB hk
  replace xr := xr.seq hk
  clear hk
  have xr0 := xr.cell 0 rfl
  have xrz0 := xr.frozen 0
  have xr1 := xr.cell 1 rfl
  have xrz1 := xr.frozen 1
  have xr2 := xr.cell 2 rfl
  have xrz2 := xr.frozen 2
  go_wp2_with fail
  refine (shown09 _).mono ?_
  rintro e V2 ⟨rfl, hk⟩
  clear xr0 xrz0 xr1 xrz1 xr2 xrz2
  replace hB := below_seq hB hk
  replace xr := xr.seq hk
  clear hk
  have xr0 := xr.cell 0 rfl
  have xrz0 := xr.frozen 0
  have xr1 := xr.cell 1 rfl
  have xrz1 := xr.frozen 1
  have xr2 := xr.cell 2 rfl
  have xrz2 := xr.frozen 2
  go_wp2_with fail
  refine (TLa.out _).mono ?_
  rintro e V3 ⟨rfl, hk⟩
  clear xr0 xrz0 xr1 xrz1 xr2 xrz2
  replace hB := below_seq hB hk
  replace xr := xr.seq hk
  clear hk
  have xl := Box.new 24 V3 [.int .i64 x.kind, .int .u64 (x.seq : Int), .int .u64 (x.data : Int)]
  have ne_xl_xr : V3.heap.size ≠ W.heap.size := Nat.ne_of_gt xr.lt
  have le_xl : W.heap.size ≤ V3.heap.size := hB.size
  replace xr := xr.alloc (.cells #[.int .i64 x.kind, .int .u64 (x.seq : Int), .int .u64 (x.data : Int)] 24)
  replace hB := hB.alloc hB.size (.cells #[.int .i64 x.kind, .int .u64 (x.seq : Int), .int .u64 (x.data : Int)] 24)
  have xr0 := xr.cell 0 rfl
  have xrz0 := xr.frozen 0
  have xr1 := xr.cell 1 rfl
  have xrz1 := xr.frozen 1
  have xr2 := xr.cell 2 rfl
  have xrz2 := xr.frozen 2
  have xl0 := xl.cell 0 rfl
  have xlz0 := xl.frozen 0
  have xl1 := xl.cell 1 rfl
  have xlz1 := xl.frozen 1
  have xl2 := xl.cell 2 rfl
  have xlz2 := xl.frozen 2
  go_wp2_with fail
  generalize (V3.alloc (.cells #[.int .i64 x.kind, .int .u64 (x.seq : Int), .int .u64 (x.data : Int)] 24)) = V4 at *
  clear xr0 xrz0 xr1 xrz1 xr2 xrz2 xl0 xlz0 xl1 xlz1 xl2 xlz2
  replace hB := hB.drew
  replace xr := xr.drew
  replace xl := xl.drew
  refine wp_region_held_drew (S := fun w' => w'.cell? ⟨W.heap.size, 0, none⟩ = some (.int .i64 r.kind) ∧ w'.cell? ⟨W.heap.size, 1, none⟩ = some (.int .u64 (r.seq : Int)) ∧ w'.cell? ⟨W.heap.size, 2, none⟩ = some (.int .u64 (r.data : Int))) (by kernel_rfl) ?_ (fun hHeld => ?_)
  · exact ⟨xr.cell 0 rfl, xr.cell 1 rfl, xr.cell 2 rfl⟩
  generalize V4.drew = V5 at *
  refine wpAnyH_take (i := 0) (v := ?_) rfl (by kernel_rfl) (by kernel_rfl) (by kernel_rfl) (fun _ _ _ h => h) (Or.inl ⟨by rfl, ?_⟩) (by assumption) ?_
  rotate_left
  · intro w hSw; (try dsimp only at hSw); go_simp; try with_reducible rfl
  try simp only [Act.put, List.getElem_toArray, List.getElem_cons_zero, List.getElem_cons_succ, List.setIfInBounds_toArray, List.set_cons_zero, List.set_cons_succ]
  refine wpAnyH_take (i := 1) (v := ?_) rfl (by kernel_rfl) (by kernel_rfl) (by kernel_rfl) (fun _ _ _ h => h) (Or.inl ⟨by rfl, ?_⟩) (by assumption) ?_
  rotate_left
  · intro w hSw; (try dsimp only at hSw); go_simp; try with_reducible rfl
  try simp only [Act.put, List.getElem_toArray, List.getElem_cons_zero, List.getElem_cons_succ, List.setIfInBounds_toArray, List.set_cons_zero, List.set_cons_succ]
  refine wpAnyH_take (i := 2) (v := ?_) rfl (by kernel_rfl) (by kernel_rfl) (by kernel_rfl) (fun _ _ _ h => h) (Or.inl ⟨by rfl, ?_⟩) (by assumption) ?_
  rotate_left
  · intro w hSw; (try dsimp only at hSw); go_simp; try with_reducible rfl
  try simp only [Act.put, List.getElem_toArray, List.getElem_cons_zero, List.getElem_cons_succ, List.setIfInBounds_toArray, List.set_cons_zero, List.set_cons_succ]
  refine wpAnyH_take (i := 3) (v := ?_) rfl (by kernel_rfl) (by kernel_rfl) (by kernel_rfl) (fun _ _ _ h => h) (Or.inl ⟨by rfl, ?_⟩) (by assumption) ?_
  rotate_left
  · intro w hSw; (try dsimp only at hSw); go_simp; try with_reducible rfl
  try simp only [Act.put, List.getElem_toArray, List.getElem_cons_zero, List.getElem_cons_succ, List.setIfInBounds_toArray, List.set_cons_zero, List.set_cons_succ]
  refine wpAnyH_take (i := 4) (v := ?_) rfl (by kernel_rfl) (by kernel_rfl) (by kernel_rfl) (fun _ _ _ h => h) (Or.inl ⟨by rfl, ?_⟩) (by assumption) ?_
  rotate_left
  · intro w hSw; (try dsimp only at hSw); go_simp; try with_reducible rfl
  try simp only [Act.put, List.getElem_toArray, List.getElem_cons_zero, List.getElem_cons_succ, List.setIfInBounds_toArray, List.set_cons_zero, List.set_cons_succ]
  refine wpAnyH_take (i := 7) (v := ?_) rfl (by kernel_rfl) (by kernel_rfl) (by kernel_rfl) (fun _ _ _ h => h) (Or.inl ⟨by rfl, ?_⟩) (by assumption) ?_
  rotate_left
  · intro w hSw; (try dsimp only at hSw); go_simp; try with_reducible rfl
  try simp only [Act.put, List.getElem_toArray, List.getElem_cons_zero, List.getElem_cons_succ, List.setIfInBounds_toArray, List.set_cons_zero, List.set_cons_succ]
  refine wpAnyH_take (i := 8) (v := ?_) rfl (by kernel_rfl) (by kernel_rfl) (by kernel_rfl) (fun _ _ _ h => h) (Or.inl ⟨by rfl, ?_⟩) (by assumption) ?_
  rotate_left
  · intro w hSw; (try dsimp only at hSw); go_simp; try with_reducible rfl
  try simp only [Act.put, List.getElem_toArray, List.getElem_cons_zero, List.getElem_cons_succ, List.setIfInBounds_toArray, List.set_cons_zero, List.set_cons_succ]
  refine wpAnyH_take (i := 9) (v := ?_) rfl (by kernel_rfl) (by kernel_rfl) (by kernel_rfl) (fun _ _ _ h => h) (Or.inl ⟨by rfl, ?_⟩) (by assumption) ?_
  rotate_left
  · intro w hSw; (try dsimp only at hSw); go_simp; try with_reducible rfl
  try simp only [Act.put, List.getElem_toArray, List.getElem_cons_zero, List.getElem_cons_succ, List.setIfInBounds_toArray, List.set_cons_zero, List.set_cons_succ]
  refine wpAnyH_take (i := 10) (v := ?_) rfl (by kernel_rfl) (by kernel_rfl) (by kernel_rfl) (fun _ _ _ h => h) (Or.inl ⟨by rfl, ?_⟩) (by assumption) ?_
  rotate_left
  · intro w hSw; (try dsimp only at hSw); go_simp; try with_reducible rfl
  try simp only [Act.put, List.getElem_toArray, List.getElem_cons_zero, List.getElem_cons_succ, List.setIfInBounds_toArray, List.set_cons_zero, List.set_cons_succ]
  refine wpAnyH_take (i := 11) (v := ?_) rfl (by kernel_rfl) (by kernel_rfl) (by kernel_rfl) (fun _ _ _ h => h) (Or.inl ⟨by rfl, ?_⟩) (by assumption) ?_
  rotate_left
  · intro w hSw; (try dsimp only at hSw); go_simp; try with_reducible rfl
  try simp only [Act.put, List.getElem_toArray, List.getElem_cons_zero, List.getElem_cons_succ, List.setIfInBounds_toArray, List.set_cons_zero, List.set_cons_succ]
  refine wpAnyH_ready (rs := [5]) (by kernel_rfl) (by simp) ?_
  refine AllReadyH.cons rfl (fun K hK => ?_) AllReadyH.nil
  have xr0 := xr.cell 0 rfl
  have xrz0 := xr.frozen 0
  have xr1 := xr.cell 1 rfl
  have xrz1 := xr.frozen 1
  have xr2 := xr.cell 2 rfl
  have xrz2 := xr.frozen 2
  have xl0 := xl.cell 0 rfl
  have xlz0 := xl.frozen 0
  have xl1 := xl.cell 1 rfl
  have xlz1 := xl.frozen 1
  have xl2 := xl.cell 2 rfl
  have xlz2 := xl.frozen 2
  go_simp
  refine (TE.out _).mono ?_
  rintro e V6 ⟨rfl, hk⟩
  clear xr0 xrz0 xr1 xrz1 xr2 xrz2 xl0 xlz0 xl1 xlz1 xl2 xlz2
  replace hB := below_seq hB hk
  replace xr := xr.seq hk
  replace xl := xl.seq hk
  clear hk
  have xr0 := xr.cell 0 rfl
  have xrz0 := xr.frozen 0
  have xr1 := xr.cell 1 rfl
  have xrz1 := xr.frozen 1
  have xr2 := xr.cell 2 rfl
  have xrz2 := xr.frozen 2
  have xl0 := xl.cell 0 rfl
  have xlz0 := xl.frozen 0
  have xl1 := xl.cell 1 rfl
  have xlz1 := xl.frozen 1
  have xl2 := xl.cell 2 rfl
  have xlz2 := xl.frozen 2
  try go_wp2_with fail
  clear xr0 xrz0 xr1 xrz1 xr2 xrz2 xl0 xlz0 xl1 xlz1 xl2 xlz2
  clear hHeld
  refine hK.out _ _ ?_ (fun hHeld => ?_)
  · exact ⟨xr.cell 0 rfl, xr.cell 1 rfl, xr.cell 2 rfl⟩
  clear hK K
  try simp only [Act.put, List.getElem_toArray, List.getElem_cons_zero, List.getElem_cons_succ, List.setIfInBounds_toArray, List.set_cons_zero, List.set_cons_succ]
  refine wpAnyH_take (i := 6) (v := ?_) rfl (by kernel_rfl) (by kernel_rfl) (by kernel_rfl) (fun _ _ _ h => h) (Or.inl ⟨by rfl, ?_⟩) (by assumption) ?_
  rotate_left
  · intro w hSw; (try dsimp only at hSw); go_simp; try with_reducible rfl
  try simp only [Act.put, List.getElem_toArray, List.getElem_cons_zero, List.getElem_cons_succ, List.setIfInBounds_toArray, List.set_cons_zero, List.set_cons_succ]
  refine wpAnyH_take (i := 12) (v := ?_) rfl (by kernel_rfl) (by kernel_rfl) (by kernel_rfl) (fun _ _ _ h => h) (Or.inl ⟨by rfl, ?_⟩) (by assumption) ?_
  rotate_left
  · intro w hSw; (try dsimp only at hSw); go_simp; try with_reducible rfl
  try simp only [Act.put, List.getElem_toArray, List.getElem_cons_zero, List.getElem_cons_succ, List.setIfInBounds_toArray, List.set_cons_zero, List.set_cons_succ]
  refine wpAnyH_take (i := 13) (v := ?_) rfl (by kernel_rfl) (by kernel_rfl) (by kernel_rfl) (fun _ _ _ h => h) (Or.inl ⟨by rfl, ?_⟩) (by assumption) ?_
  rotate_left
  · intro w hSw; (try dsimp only at hSw); go_simp; try with_reducible rfl
  try simp only [Act.put, List.getElem_toArray, List.getElem_cons_zero, List.getElem_cons_succ, List.setIfInBounds_toArray, List.set_cons_zero, List.set_cons_succ]
  refine wpAnyH_done (by kernel_rfl) ?_ _
  clear hHeld
  have xr0 := xr.cell 0 rfl
  have xrz0 := xr.frozen 0
  have xr1 := xr.cell 1 rfl
  have xrz1 := xr.frozen 1
  have xr2 := xr.cell 2 rfl
  have xrz2 := xr.frozen 2
  have xl0 := xl.cell 0 rfl
  have xlz0 := xl.frozen 0
  have xl1 := xl.cell 1 rfl
  have xlz1 := xl.frozen 1
  have xl2 := xl.cell 2 rfl
  have xlz2 := xl.frozen 2
  go_wp2_with fail
  refine (TLu.out _).mono ?_
  rintro e V7 ⟨rfl, hk⟩
  clear xr0 xrz0 xr1 xrz1 xr2 xrz2 xl0 xlz0 xl1 xlz1 xl2 xlz2
  replace hB := below_seq hB hk
  replace xr := xr.seq hk
  replace xl := xl.seq hk
  clear hk
  have xu := Box.new 24 V7 [.int .i64 r.kind, .int .u64 (r.seq : Int), .int .u64 (r.data : Int)]
  have ne_xu_xr : V7.heap.size ≠ W.heap.size := Nat.ne_of_gt xr.lt
  have ne_xu_xl : V7.heap.size ≠ V3.heap.size := Nat.ne_of_gt xl.lt
  have le_xu : W.heap.size ≤ V7.heap.size := hB.size
  replace xr := xr.alloc (.cells #[.int .i64 r.kind, .int .u64 (r.seq : Int), .int .u64 (r.data : Int)] 24)
  replace xl := xl.alloc (.cells #[.int .i64 r.kind, .int .u64 (r.seq : Int), .int .u64 (r.data : Int)] 24)
  replace hB := hB.alloc hB.size (.cells #[.int .i64 r.kind, .int .u64 (r.seq : Int), .int .u64 (r.data : Int)] 24)
  have xr0 := xr.cell 0 rfl
  have xrz0 := xr.frozen 0
  have xr1 := xr.cell 1 rfl
  have xrz1 := xr.frozen 1
  have xr2 := xr.cell 2 rfl
  have xrz2 := xr.frozen 2
  have xl0 := xl.cell 0 rfl
  have xlz0 := xl.frozen 0
  have xl1 := xl.cell 1 rfl
  have xlz1 := xl.frozen 1
  have xl2 := xl.cell 2 rfl
  have xlz2 := xl.frozen 2
  have xu0 := xu.cell 0 rfl
  have xuz0 := xu.frozen 0
  have xu1 := xu.cell 1 rfl
  have xuz1 := xu.frozen 1
  have xu2 := xu.cell 2 rfl
  have xuz2 := xu.frozen 2
  go_wp2_with fail
  refine (TNu.out _).mono ?_
  rintro e V8 ⟨rfl, hk⟩
  clear xr0 xrz0 xr1 xrz1 xr2 xrz2 xl0 xlz0 xl1 xlz1 xl2 xlz2 xu0 xuz0 xu1 xuz1 xu2 xuz2
  replace hB := below_seq hB hk
  replace xr := xr.seq hk
  replace xl := xl.seq hk
  replace xu := xu.seq hk
  clear hk
  have xr0 := xr.cell 0 rfl
  have xrz0 := xr.frozen 0
  have xr1 := xr.cell 1 rfl
  have xrz1 := xr.frozen 1
  have xr2 := xr.cell 2 rfl
  have xrz2 := xr.frozen 2
  have xl0 := xl.cell 0 rfl
  have xlz0 := xl.frozen 0
  have xl1 := xl.cell 1 rfl
  have xlz1 := xl.frozen 1
  have xl2 := xl.cell 2 rfl
  have xlz2 := xl.frozen 2
  have xu0 := xu.cell 0 rfl
  have xuz0 := xu.frozen 0
  have xu1 := xu.cell 1 rfl
  have xuz1 := xu.frozen 1
  have xu2 := xu.cell 2 rfl
  have xuz2 := xu.frozen 2
  go_wp2_with fail
  refine (TGu.out _).mono ?_
  rintro e V9 ⟨rfl, hk⟩
  clear xr0 xrz0 xr1 xrz1 xr2 xrz2 xl0 xlz0 xl1 xlz1 xl2 xlz2 xu0 xuz0 xu1 xuz1 xu2 xuz2
  replace hB := below_seq hB hk
  replace xr := xr.seq hk
  replace xl := xl.seq hk
  replace xu := xu.seq hk
  clear hk
  have xr0 := xr.cell 0 rfl
  have xrz0 := xr.frozen 0
  have xr1 := xr.cell 1 rfl
  have xrz1 := xr.frozen 1
  have xr2 := xr.cell 2 rfl
  have xrz2 := xr.frozen 2
  have xl0 := xl.cell 0 rfl
  have xlz0 := xl.frozen 0
  have xl1 := xl.cell 1 rfl
  have xlz1 := xl.frozen 1
  have xl2 := xl.cell 2 rfl
  have xlz2 := xl.frozen 2
  have xu0 := xu.cell 0 rfl
  have xuz0 := xu.frozen 0
  have xu1 := xu.cell 1 rfl
  have xuz1 := xu.frozen 1
  have xu2 := xu.cell 2 rfl
  have xuz2 := xu.frozen 2
  go_wp2_with fail
  refine (TGs.out _).mono ?_
  rintro e V10 ⟨rfl, hk⟩
  clear xr0 xrz0 xr1 xrz1 xr2 xrz2 xl0 xlz0 xl1 xlz1 xl2 xlz2 xu0 xuz0 xu1 xuz1 xu2 xuz2
  replace hB := below_seq hB hk
  replace xr := xr.seq hk
  replace xl := xl.seq hk
  replace xu := xu.seq hk
  clear hk
  have xr0 := xr.cell 0 rfl
  have xrz0 := xr.frozen 0
  have xr1 := xr.cell 1 rfl
  have xrz1 := xr.frozen 1
  have xr2 := xr.cell 2 rfl
  have xrz2 := xr.frozen 2
  have xl0 := xl.cell 0 rfl
  have xlz0 := xl.frozen 0
  have xl1 := xl.cell 1 rfl
  have xlz1 := xl.frozen 1
  have xl2 := xl.cell 2 rfl
  have xlz2 := xl.frozen 2
  have xu0 := xu.cell 0 rfl
  have xuz0 := xu.frozen 0
  have xu1 := xu.cell 1 rfl
  have xuz1 := xu.frozen 1
  have xu2 := xu.cell 2 rfl
  have xuz2 := xu.frozen 2
  go_wp2
  go_ret
  exact ⟨rfl, hB⟩

set_option maxRecDepth 100000 in
set_option maxHeartbeats 8000000 in
theorem way01 (s : ByteArray) (r x : Rec) (E : Int) (k n g0 : Nat) (M : ByteArray) (W : World) (h1 : s.size ≤ 400) (h2 : 2 ≤ r.kind) (h3 : r.kind ≤ 3) (hM : M.size = 24) (hkn : k + 1 ≤ n) (hn : n ≤ 12) (hz : s.size = 24 * n + 24) (hg : g0 ≤ 12)
    (hl : k + 1 ≠ n) (he : x.seq ≤ r.seq)
    (cL : ∀ V : World, Calls Try.prog 21 #[.int .i64 (s.size : Int)] V fun e W' => e = .returned (.int .i64 (n : Int)) ∧ W' = V) (cK : ∀ V : World, Calls Try.prog 29 #[.string s] V fun e W' => e = .returned (.int .i64 ((k + 1 : Nat) : Int)) ∧ Below V.heap.size V W') (cE : ∀ V : World, Calls Try.prog 14 #[.agg #[.int .i64 r.kind, .int .u64 (r.seq : Int), .int .u64 (r.data : Int)]] V fun e W' => e = .returned (.string M) ∧ Below V.heap.size V W') (cLa : ∀ V : World, Calls Try.prog 25 #[.string s] V fun e W' => e = .returned (.tuple #[.agg #[.int .i64 x.kind, .int .u64 (x.seq : Int), .int .u64 (x.data : Int)], .int .i64 0]) ∧ Below V.heap.size V W') (cGs : ∀ V : World, Calls Try.prog 28 #[.string s] V fun e W' => e = .returned (.int .i64 (g0 : Int)) ∧ Below V.heap.size V W') (cGu : ∀ V : World, Calls Try.prog 28 #[.string (s.extract 0 (24 * (k + 1)) ++ M ++ s.extract (24 * (k + 1) + 24) s.size)] V fun e W' => e = .returned (.int .i64 ((g0 + 1 : Nat) : Int)) ∧ Below V.heap.size V W') (cLu : ∀ V : World, Calls Try.prog 25 #[.string (s.extract 0 (24 * (k + 1)) ++ M ++ s.extract (24 * (k + 1) + 24) s.size)] V fun e W' => e = .returned (.tuple #[.agg #[.int .i64 r.kind, .int .u64 (r.seq : Int), .int .u64 (r.data : Int)], .int .i64 0]) ∧ Below V.heap.size V W') (cNu : ∀ V : World, Calls Try.prog 29 #[.string (s.extract 0 (24 * (k + 1)) ++ M ++ s.extract (24 * (k + 1) + 24) s.size)] V fun e W' => e = .returned (.int .i64 ((k + 2 : Nat) : Int)) ∧ Below V.heap.size V W') :
    Calls Try.prog 10 #[.string s, .agg #[.int .i64 r.kind, .int .u64 (r.seq : Int), .int .u64 (r.data : Int)]] W fun e W' => e = .returned (.bool true) ∧ Below W.heap.size W W' := by
  have TL := Lib.hid cL
  clear cL
  have TK := Lib.hid cK
  clear cK
  have TE := Lib.hid cE
  clear cE
  have TLa := Lib.hid cLa
  clear cLa
  have TGs := Lib.hid cGs
  clear cGs
  have TGu := Lib.hid cGu
  clear cGu
  have TLu := Lib.hid cLu
  clear cLu
  have TNu := Lib.hid cNu
  clear cNu
  have b1 : ¬ (s.size : Int) > 400 := by omega
  have z1 : s.size ≤ maxLen := by unfold maxLen; omega
  have d1 : ¬ r.kind < 2 := by omega
  have d3 : ¬ r.kind > 3 := by omega
  have n3 : ¬ ((k + 1 : Nat) : Int) < 1 := by omega
  have n4 : ¬ ((k + 1 : Nat) : Int) > (n : Int) := by omega
  have w1 : IntKind.i64.wrap (24 * ((k : Int) + 1)) = 24 * ((k : Int) + 1) := IntWalk.i64_in _ (by omega)
  have w2 : IntKind.i64.wrap (24 * ((k : Int) + 1) + 24) = 24 * ((k : Int) + 1) + 24 := IntWalk.i64_in _ (by omega)
  have w3 : IntKind.i64.wrap ((k : Int) + 1 + 1) = (k : Int) + 1 + 1 := IntWalk.i64_in _ (by omega)
  have t1 : (24 * ((k : Int) + 1)).toNat = 24 * (k + 1) := by omega
  have t2 : (24 * ((k : Int) + 1) + 24).toNat = 24 * (k + 1) + 24 := by omega
  have v0 : (0 : Int) ≤ 24 * ((k : Int) + 1) := by omega
  have v1 : (0 : Int) ≤ 24 * ((k : Int) + 1) + 24 := by omega
  have v2 : 24 * ((k : Int) + 1) ≤ (s.size : Int) := by omega
  have v3 : 24 * ((k : Int) + 1) + 24 ≤ (s.size : Int) := by omega
  have o1 : ¬ 9223372036854775807 < 24 * (k + 1) + M.size := by omega
  have o2 : ¬ 9223372036854775807 < 24 * (k + 1) + M.size + (s.size - (24 * (k + 1) + 24)) := by omega
  have o3 : ¬ 9223372036854775807 < min (24 * (k + 1)) s.size + M.size := by omega
  have o4 : ¬ 9223372036854775807 < min (24 * (k + 1)) s.size + M.size + (s.size - (24 * (k + 1) + 24)) := by omega
  have n5 : ((k : Int) + 1 == (n : Int)) = false := beq_eq_false_iff_ne.2 (by omega)
  have n6 : ¬ ((x.seq : Nat) : Int) > (r.seq : Int) := by omega
  have wg : IntKind.i64.wrap ((g0 : Int) + 1) = (g0 : Int) + 1 := IntWalk.i64_in _ (by omega)
  clear h1 h2 h3 hM hkn hn hz hg he hl
  have hB : Below W.heap.size W (W.alloc (.cells #[.int .i64 r.kind, .int .u64 (r.seq : Int), .int .u64 (r.data : Int)] 24)) := ((Below.refl _ _).alloc (Nat.le_refl _) _)
  have xr := (Box.new 24 W [.int .i64 r.kind, .int .u64 (r.seq : Int), .int .u64 (r.data : Int)])
  go_enter Try.func10, Try.ntmps10
  go_wp2_with fail
  refine (TL.out _).mono ?_
  rintro e w' ⟨rfl, hw⟩
  rw [hw]
  clear hw w'
  go_wp2_with fail
  refine (TK.out _).mono ?_
  rintro e V1 ⟨rfl, hk⟩
  replace hB := below_seq hB hk
  replace xr := xr.seq hk
  clear hk
  have xr0 := xr.cell 0 rfl
  have xrz0 := xr.frozen 0
  have xr1 := xr.cell 1 rfl
  have xrz1 := xr.frozen 1
  have xr2 := xr.cell 2 rfl
  have xrz2 := xr.frozen 2
  go_wp2_with fail
  refine (shown09 _).mono ?_
  rintro e V2 ⟨rfl, hk⟩
  clear xr0 xrz0 xr1 xrz1 xr2 xrz2
  replace hB := below_seq hB hk
  replace xr := xr.seq hk
  clear hk
  have xr0 := xr.cell 0 rfl
  have xrz0 := xr.frozen 0
  have xr1 := xr.cell 1 rfl
  have xrz1 := xr.frozen 1
  have xr2 := xr.cell 2 rfl
  have xrz2 := xr.frozen 2
  go_wp2_with fail
  refine (TLa.out _).mono ?_
  rintro e V3 ⟨rfl, hk⟩
  clear xr0 xrz0 xr1 xrz1 xr2 xrz2
  replace hB := below_seq hB hk
  replace xr := xr.seq hk
  clear hk
  have xl := Box.new 24 V3 [.int .i64 x.kind, .int .u64 (x.seq : Int), .int .u64 (x.data : Int)]
  have ne_xl_xr : V3.heap.size ≠ W.heap.size := Nat.ne_of_gt xr.lt
  have le_xl : W.heap.size ≤ V3.heap.size := hB.size
  replace xr := xr.alloc (.cells #[.int .i64 x.kind, .int .u64 (x.seq : Int), .int .u64 (x.data : Int)] 24)
  replace hB := hB.alloc hB.size (.cells #[.int .i64 x.kind, .int .u64 (x.seq : Int), .int .u64 (x.data : Int)] 24)
  have xr0 := xr.cell 0 rfl
  have xrz0 := xr.frozen 0
  have xr1 := xr.cell 1 rfl
  have xrz1 := xr.frozen 1
  have xr2 := xr.cell 2 rfl
  have xrz2 := xr.frozen 2
  have xl0 := xl.cell 0 rfl
  have xlz0 := xl.frozen 0
  have xl1 := xl.cell 1 rfl
  have xlz1 := xl.frozen 1
  have xl2 := xl.cell 2 rfl
  have xlz2 := xl.frozen 2
  go_wp2_with fail
  generalize (V3.alloc (.cells #[.int .i64 x.kind, .int .u64 (x.seq : Int), .int .u64 (x.data : Int)] 24)) = V4 at *
  clear xr0 xrz0 xr1 xrz1 xr2 xrz2 xl0 xlz0 xl1 xlz1 xl2 xlz2
  replace hB := hB.drew
  replace xr := xr.drew
  replace xl := xl.drew
  refine wp_region_held_drew (S := fun w' => w'.cell? ⟨W.heap.size, 0, none⟩ = some (.int .i64 r.kind) ∧ w'.cell? ⟨W.heap.size, 1, none⟩ = some (.int .u64 (r.seq : Int)) ∧ w'.cell? ⟨W.heap.size, 2, none⟩ = some (.int .u64 (r.data : Int))) (by kernel_rfl) ?_ (fun hHeld => ?_)
  · exact ⟨xr.cell 0 rfl, xr.cell 1 rfl, xr.cell 2 rfl⟩
  generalize V4.drew = V5 at *
  refine wpAnyH_take (i := 0) (v := ?_) rfl (by kernel_rfl) (by kernel_rfl) (by kernel_rfl) (fun _ _ _ h => h) (Or.inl ⟨by rfl, ?_⟩) (by assumption) ?_
  rotate_left
  · intro w hSw; (try dsimp only at hSw); go_simp; try with_reducible rfl
  try simp only [Act.put, List.getElem_toArray, List.getElem_cons_zero, List.getElem_cons_succ, List.setIfInBounds_toArray, List.set_cons_zero, List.set_cons_succ]
  refine wpAnyH_take (i := 1) (v := ?_) rfl (by kernel_rfl) (by kernel_rfl) (by kernel_rfl) (fun _ _ _ h => h) (Or.inl ⟨by rfl, ?_⟩) (by assumption) ?_
  rotate_left
  · intro w hSw; (try dsimp only at hSw); go_simp; try with_reducible rfl
  try simp only [Act.put, List.getElem_toArray, List.getElem_cons_zero, List.getElem_cons_succ, List.setIfInBounds_toArray, List.set_cons_zero, List.set_cons_succ]
  refine wpAnyH_take (i := 2) (v := ?_) rfl (by kernel_rfl) (by kernel_rfl) (by kernel_rfl) (fun _ _ _ h => h) (Or.inl ⟨by rfl, ?_⟩) (by assumption) ?_
  rotate_left
  · intro w hSw; (try dsimp only at hSw); go_simp; try with_reducible rfl
  try simp only [Act.put, List.getElem_toArray, List.getElem_cons_zero, List.getElem_cons_succ, List.setIfInBounds_toArray, List.set_cons_zero, List.set_cons_succ]
  refine wpAnyH_take (i := 3) (v := ?_) rfl (by kernel_rfl) (by kernel_rfl) (by kernel_rfl) (fun _ _ _ h => h) (Or.inl ⟨by rfl, ?_⟩) (by assumption) ?_
  rotate_left
  · intro w hSw; (try dsimp only at hSw); go_simp; try with_reducible rfl
  try simp only [Act.put, List.getElem_toArray, List.getElem_cons_zero, List.getElem_cons_succ, List.setIfInBounds_toArray, List.set_cons_zero, List.set_cons_succ]
  refine wpAnyH_take (i := 4) (v := ?_) rfl (by kernel_rfl) (by kernel_rfl) (by kernel_rfl) (fun _ _ _ h => h) (Or.inl ⟨by rfl, ?_⟩) (by assumption) ?_
  rotate_left
  · intro w hSw; (try dsimp only at hSw); go_simp; try with_reducible rfl
  try simp only [Act.put, List.getElem_toArray, List.getElem_cons_zero, List.getElem_cons_succ, List.setIfInBounds_toArray, List.set_cons_zero, List.set_cons_succ]
  refine wpAnyH_take (i := 7) (v := ?_) rfl (by kernel_rfl) (by kernel_rfl) (by kernel_rfl) (fun _ _ _ h => h) (Or.inl ⟨by rfl, ?_⟩) (by assumption) ?_
  rotate_left
  · intro w hSw; (try dsimp only at hSw); go_simp; try with_reducible rfl
  try simp only [Act.put, List.getElem_toArray, List.getElem_cons_zero, List.getElem_cons_succ, List.setIfInBounds_toArray, List.set_cons_zero, List.set_cons_succ]
  refine wpAnyH_take (i := 8) (v := ?_) rfl (by kernel_rfl) (by kernel_rfl) (by kernel_rfl) (fun _ _ _ h => h) (Or.inl ⟨by rfl, ?_⟩) (by assumption) ?_
  rotate_left
  · intro w hSw; (try dsimp only at hSw); go_simp; try with_reducible rfl
  try simp only [Act.put, List.getElem_toArray, List.getElem_cons_zero, List.getElem_cons_succ, List.setIfInBounds_toArray, List.set_cons_zero, List.set_cons_succ]
  refine wpAnyH_take (i := 9) (v := ?_) rfl (by kernel_rfl) (by kernel_rfl) (by kernel_rfl) (fun _ _ _ h => h) (Or.inl ⟨by rfl, ?_⟩) (by assumption) ?_
  rotate_left
  · intro w hSw; (try dsimp only at hSw); go_simp; try with_reducible rfl
  try simp only [Act.put, List.getElem_toArray, List.getElem_cons_zero, List.getElem_cons_succ, List.setIfInBounds_toArray, List.set_cons_zero, List.set_cons_succ]
  refine wpAnyH_take (i := 10) (v := ?_) rfl (by kernel_rfl) (by kernel_rfl) (by kernel_rfl) (fun _ _ _ h => h) (Or.inl ⟨by rfl, ?_⟩) (by assumption) ?_
  rotate_left
  · intro w hSw; (try dsimp only at hSw); go_simp; try with_reducible rfl
  try simp only [Act.put, List.getElem_toArray, List.getElem_cons_zero, List.getElem_cons_succ, List.setIfInBounds_toArray, List.set_cons_zero, List.set_cons_succ]
  refine wpAnyH_take (i := 11) (v := ?_) rfl (by kernel_rfl) (by kernel_rfl) (by kernel_rfl) (fun _ _ _ h => h) (Or.inl ⟨by rfl, ?_⟩) (by assumption) ?_
  rotate_left
  · intro w hSw; (try dsimp only at hSw); go_simp; try with_reducible rfl
  try simp only [Act.put, List.getElem_toArray, List.getElem_cons_zero, List.getElem_cons_succ, List.setIfInBounds_toArray, List.set_cons_zero, List.set_cons_succ]
  refine wpAnyH_ready (rs := [5]) (by kernel_rfl) (by simp) ?_
  refine AllReadyH.cons rfl (fun K hK => ?_) AllReadyH.nil
  have xr0 := xr.cell 0 rfl
  have xrz0 := xr.frozen 0
  have xr1 := xr.cell 1 rfl
  have xrz1 := xr.frozen 1
  have xr2 := xr.cell 2 rfl
  have xrz2 := xr.frozen 2
  have xl0 := xl.cell 0 rfl
  have xlz0 := xl.frozen 0
  have xl1 := xl.cell 1 rfl
  have xlz1 := xl.frozen 1
  have xl2 := xl.cell 2 rfl
  have xlz2 := xl.frozen 2
  go_simp
  refine (TE.out _).mono ?_
  rintro e V6 ⟨rfl, hk⟩
  clear xr0 xrz0 xr1 xrz1 xr2 xrz2 xl0 xlz0 xl1 xlz1 xl2 xlz2
  replace hB := below_seq hB hk
  replace xr := xr.seq hk
  replace xl := xl.seq hk
  clear hk
  have xr0 := xr.cell 0 rfl
  have xrz0 := xr.frozen 0
  have xr1 := xr.cell 1 rfl
  have xrz1 := xr.frozen 1
  have xr2 := xr.cell 2 rfl
  have xrz2 := xr.frozen 2
  have xl0 := xl.cell 0 rfl
  have xlz0 := xl.frozen 0
  have xl1 := xl.cell 1 rfl
  have xlz1 := xl.frozen 1
  have xl2 := xl.cell 2 rfl
  have xlz2 := xl.frozen 2
  try go_wp2_with fail
  clear xr0 xrz0 xr1 xrz1 xr2 xrz2 xl0 xlz0 xl1 xlz1 xl2 xlz2
  clear hHeld
  refine hK.out _ _ ?_ (fun hHeld => ?_)
  · exact ⟨xr.cell 0 rfl, xr.cell 1 rfl, xr.cell 2 rfl⟩
  clear hK K
  try simp only [Act.put, List.getElem_toArray, List.getElem_cons_zero, List.getElem_cons_succ, List.setIfInBounds_toArray, List.set_cons_zero, List.set_cons_succ]
  refine wpAnyH_take (i := 6) (v := ?_) rfl (by kernel_rfl) (by kernel_rfl) (by kernel_rfl) (fun _ _ _ h => h) (Or.inl ⟨by rfl, ?_⟩) (by assumption) ?_
  rotate_left
  · intro w hSw; (try dsimp only at hSw); go_simp; try with_reducible rfl
  try simp only [Act.put, List.getElem_toArray, List.getElem_cons_zero, List.getElem_cons_succ, List.setIfInBounds_toArray, List.set_cons_zero, List.set_cons_succ]
  refine wpAnyH_take (i := 12) (v := ?_) rfl (by kernel_rfl) (by kernel_rfl) (by kernel_rfl) (fun _ _ _ h => h) (Or.inl ⟨by rfl, ?_⟩) (by assumption) ?_
  rotate_left
  · intro w hSw; (try dsimp only at hSw); go_simp; try with_reducible rfl
  try simp only [Act.put, List.getElem_toArray, List.getElem_cons_zero, List.getElem_cons_succ, List.setIfInBounds_toArray, List.set_cons_zero, List.set_cons_succ]
  refine wpAnyH_take (i := 13) (v := ?_) rfl (by kernel_rfl) (by kernel_rfl) (by kernel_rfl) (fun _ _ _ h => h) (Or.inl ⟨by rfl, ?_⟩) (by assumption) ?_
  rotate_left
  · intro w hSw; (try dsimp only at hSw); go_simp; try with_reducible rfl
  try simp only [Act.put, List.getElem_toArray, List.getElem_cons_zero, List.getElem_cons_succ, List.setIfInBounds_toArray, List.set_cons_zero, List.set_cons_succ]
  refine wpAnyH_done (by kernel_rfl) ?_ _
  clear hHeld
  have xr0 := xr.cell 0 rfl
  have xrz0 := xr.frozen 0
  have xr1 := xr.cell 1 rfl
  have xrz1 := xr.frozen 1
  have xr2 := xr.cell 2 rfl
  have xrz2 := xr.frozen 2
  have xl0 := xl.cell 0 rfl
  have xlz0 := xl.frozen 0
  have xl1 := xl.cell 1 rfl
  have xlz1 := xl.frozen 1
  have xl2 := xl.cell 2 rfl
  have xlz2 := xl.frozen 2
  go_wp2_with fail
  refine (TLu.out _).mono ?_
  rintro e V7 ⟨rfl, hk⟩
  clear xr0 xrz0 xr1 xrz1 xr2 xrz2 xl0 xlz0 xl1 xlz1 xl2 xlz2
  replace hB := below_seq hB hk
  replace xr := xr.seq hk
  replace xl := xl.seq hk
  clear hk
  have xu := Box.new 24 V7 [.int .i64 r.kind, .int .u64 (r.seq : Int), .int .u64 (r.data : Int)]
  have ne_xu_xr : V7.heap.size ≠ W.heap.size := Nat.ne_of_gt xr.lt
  have ne_xu_xl : V7.heap.size ≠ V3.heap.size := Nat.ne_of_gt xl.lt
  have le_xu : W.heap.size ≤ V7.heap.size := hB.size
  replace xr := xr.alloc (.cells #[.int .i64 r.kind, .int .u64 (r.seq : Int), .int .u64 (r.data : Int)] 24)
  replace xl := xl.alloc (.cells #[.int .i64 r.kind, .int .u64 (r.seq : Int), .int .u64 (r.data : Int)] 24)
  replace hB := hB.alloc hB.size (.cells #[.int .i64 r.kind, .int .u64 (r.seq : Int), .int .u64 (r.data : Int)] 24)
  have xr0 := xr.cell 0 rfl
  have xrz0 := xr.frozen 0
  have xr1 := xr.cell 1 rfl
  have xrz1 := xr.frozen 1
  have xr2 := xr.cell 2 rfl
  have xrz2 := xr.frozen 2
  have xl0 := xl.cell 0 rfl
  have xlz0 := xl.frozen 0
  have xl1 := xl.cell 1 rfl
  have xlz1 := xl.frozen 1
  have xl2 := xl.cell 2 rfl
  have xlz2 := xl.frozen 2
  have xu0 := xu.cell 0 rfl
  have xuz0 := xu.frozen 0
  have xu1 := xu.cell 1 rfl
  have xuz1 := xu.frozen 1
  have xu2 := xu.cell 2 rfl
  have xuz2 := xu.frozen 2
  go_wp2_with fail
  refine (TNu.out _).mono ?_
  rintro e V8 ⟨rfl, hk⟩
  clear xr0 xrz0 xr1 xrz1 xr2 xrz2 xl0 xlz0 xl1 xlz1 xl2 xlz2 xu0 xuz0 xu1 xuz1 xu2 xuz2
  replace hB := below_seq hB hk
  replace xr := xr.seq hk
  replace xl := xl.seq hk
  replace xu := xu.seq hk
  clear hk
  have xr0 := xr.cell 0 rfl
  have xrz0 := xr.frozen 0
  have xr1 := xr.cell 1 rfl
  have xrz1 := xr.frozen 1
  have xr2 := xr.cell 2 rfl
  have xrz2 := xr.frozen 2
  have xl0 := xl.cell 0 rfl
  have xlz0 := xl.frozen 0
  have xl1 := xl.cell 1 rfl
  have xlz1 := xl.frozen 1
  have xl2 := xl.cell 2 rfl
  have xlz2 := xl.frozen 2
  have xu0 := xu.cell 0 rfl
  have xuz0 := xu.frozen 0
  have xu1 := xu.cell 1 rfl
  have xuz1 := xu.frozen 1
  have xu2 := xu.cell 2 rfl
  have xuz2 := xu.frozen 2
  go_wp2_with fail
  refine (TGu.out _).mono ?_
  rintro e V9 ⟨rfl, hk⟩
  clear xr0 xrz0 xr1 xrz1 xr2 xrz2 xl0 xlz0 xl1 xlz1 xl2 xlz2 xu0 xuz0 xu1 xuz1 xu2 xuz2
  replace hB := below_seq hB hk
  replace xr := xr.seq hk
  replace xl := xl.seq hk
  replace xu := xu.seq hk
  clear hk
  have xr0 := xr.cell 0 rfl
  have xrz0 := xr.frozen 0
  have xr1 := xr.cell 1 rfl
  have xrz1 := xr.frozen 1
  have xr2 := xr.cell 2 rfl
  have xrz2 := xr.frozen 2
  have xl0 := xl.cell 0 rfl
  have xlz0 := xl.frozen 0
  have xl1 := xl.cell 1 rfl
  have xlz1 := xl.frozen 1
  have xl2 := xl.cell 2 rfl
  have xlz2 := xl.frozen 2
  have xu0 := xu.cell 0 rfl
  have xuz0 := xu.frozen 0
  have xu1 := xu.cell 1 rfl
  have xuz1 := xu.frozen 1
  have xu2 := xu.cell 2 rfl
  have xuz2 := xu.frozen 2
  go_wp2_with fail
  refine (TGs.out _).mono ?_
  rintro e V10 ⟨rfl, hk⟩
  clear xr0 xrz0 xr1 xrz1 xr2 xrz2 xl0 xlz0 xl1 xlz1 xl2 xlz2 xu0 xuz0 xu1 xuz1 xu2 xuz2
  replace hB := below_seq hB hk
  replace xr := xr.seq hk
  replace xl := xl.seq hk
  replace xu := xu.seq hk
  clear hk
  have xr0 := xr.cell 0 rfl
  have xrz0 := xr.frozen 0
  have xr1 := xr.cell 1 rfl
  have xrz1 := xr.frozen 1
  have xr2 := xr.cell 2 rfl
  have xrz2 := xr.frozen 2
  have xl0 := xl.cell 0 rfl
  have xlz0 := xl.frozen 0
  have xl1 := xl.cell 1 rfl
  have xlz1 := xl.frozen 1
  have xl2 := xl.cell 2 rfl
  have xlz2 := xl.frozen 2
  have xu0 := xu.cell 0 rfl
  have xuz0 := xu.frozen 0
  have xu1 := xu.cell 1 rfl
  have xuz1 := xu.frozen 1
  have xu2 := xu.cell 2 rfl
  have xuz2 := xu.frozen 2
  go_wp2
  go_ret
  exact ⟨rfl, hB⟩

set_option maxRecDepth 100000 in
set_option maxHeartbeats 8000000 in
theorem way00 (s : ByteArray) (r x : Rec) (E : Int) (k n g0 : Nat) (M : ByteArray) (W : World) (h1 : s.size ≤ 400) (h2 : 2 ≤ r.kind) (h3 : r.kind ≤ 3) (hM : M.size = 24) (hkn : k + 1 ≤ n) (hn : n ≤ 12) (hz : s.size = 24 * n + 24) (hg : g0 ≤ 12)
    (hl : k + 1 ≠ n) (he : E ≠ 0)
    (cL : ∀ V : World, Calls Try.prog 21 #[.int .i64 (s.size : Int)] V fun e W' => e = .returned (.int .i64 (n : Int)) ∧ W' = V) (cK : ∀ V : World, Calls Try.prog 29 #[.string s] V fun e W' => e = .returned (.int .i64 ((k + 1 : Nat) : Int)) ∧ Below V.heap.size V W') (cE : ∀ V : World, Calls Try.prog 14 #[.agg #[.int .i64 r.kind, .int .u64 (r.seq : Int), .int .u64 (r.data : Int)]] V fun e W' => e = .returned (.string M) ∧ Below V.heap.size V W') (cLa : ∀ V : World, Calls Try.prog 25 #[.string s] V fun e W' => e = .returned (.tuple #[.agg #[.int .i64 x.kind, .int .u64 (x.seq : Int), .int .u64 (x.data : Int)], .int .i64 E]) ∧ Below V.heap.size V W') (cGs : ∀ V : World, Calls Try.prog 28 #[.string s] V fun e W' => e = .returned (.int .i64 (g0 : Int)) ∧ Below V.heap.size V W') (cGu : ∀ V : World, Calls Try.prog 28 #[.string (s.extract 0 (24 * (k + 1)) ++ M ++ s.extract (24 * (k + 1) + 24) s.size)] V fun e W' => e = .returned (.int .i64 ((g0 + 1 : Nat) : Int)) ∧ Below V.heap.size V W') (cLu : ∀ V : World, Calls Try.prog 25 #[.string (s.extract 0 (24 * (k + 1)) ++ M ++ s.extract (24 * (k + 1) + 24) s.size)] V fun e W' => e = .returned (.tuple #[.agg #[.int .i64 r.kind, .int .u64 (r.seq : Int), .int .u64 (r.data : Int)], .int .i64 0]) ∧ Below V.heap.size V W') (cNu : ∀ V : World, Calls Try.prog 29 #[.string (s.extract 0 (24 * (k + 1)) ++ M ++ s.extract (24 * (k + 1) + 24) s.size)] V fun e W' => e = .returned (.int .i64 ((k + 2 : Nat) : Int)) ∧ Below V.heap.size V W') :
    Calls Try.prog 10 #[.string s, .agg #[.int .i64 r.kind, .int .u64 (r.seq : Int), .int .u64 (r.data : Int)]] W fun e W' => e = .returned (.bool true) ∧ Below W.heap.size W W' := by
  have TL := Lib.hid cL
  clear cL
  have TK := Lib.hid cK
  clear cK
  have TE := Lib.hid cE
  clear cE
  have TLa := Lib.hid cLa
  clear cLa
  have TGs := Lib.hid cGs
  clear cGs
  have TGu := Lib.hid cGu
  clear cGu
  have TLu := Lib.hid cLu
  clear cLu
  have TNu := Lib.hid cNu
  clear cNu
  have b1 : ¬ (s.size : Int) > 400 := by omega
  have z1 : s.size ≤ maxLen := by unfold maxLen; omega
  have d1 : ¬ r.kind < 2 := by omega
  have d3 : ¬ r.kind > 3 := by omega
  have n3 : ¬ ((k + 1 : Nat) : Int) < 1 := by omega
  have n4 : ¬ ((k + 1 : Nat) : Int) > (n : Int) := by omega
  have w1 : IntKind.i64.wrap (24 * ((k : Int) + 1)) = 24 * ((k : Int) + 1) := IntWalk.i64_in _ (by omega)
  have w2 : IntKind.i64.wrap (24 * ((k : Int) + 1) + 24) = 24 * ((k : Int) + 1) + 24 := IntWalk.i64_in _ (by omega)
  have w3 : IntKind.i64.wrap ((k : Int) + 1 + 1) = (k : Int) + 1 + 1 := IntWalk.i64_in _ (by omega)
  have t1 : (24 * ((k : Int) + 1)).toNat = 24 * (k + 1) := by omega
  have t2 : (24 * ((k : Int) + 1) + 24).toNat = 24 * (k + 1) + 24 := by omega
  have v0 : (0 : Int) ≤ 24 * ((k : Int) + 1) := by omega
  have v1 : (0 : Int) ≤ 24 * ((k : Int) + 1) + 24 := by omega
  have v2 : 24 * ((k : Int) + 1) ≤ (s.size : Int) := by omega
  have v3 : 24 * ((k : Int) + 1) + 24 ≤ (s.size : Int) := by omega
  have o1 : ¬ 9223372036854775807 < 24 * (k + 1) + M.size := by omega
  have o2 : ¬ 9223372036854775807 < 24 * (k + 1) + M.size + (s.size - (24 * (k + 1) + 24)) := by omega
  have o3 : ¬ 9223372036854775807 < min (24 * (k + 1)) s.size + M.size := by omega
  have o4 : ¬ 9223372036854775807 < min (24 * (k + 1)) s.size + M.size + (s.size - (24 * (k + 1) + 24)) := by omega
  have n5 : ((k : Int) + 1 == (n : Int)) = false := beq_eq_false_iff_ne.2 (by omega)
  have n6 : (E == 0) = false := beq_eq_false_iff_ne.2 he
  have wg : IntKind.i64.wrap ((g0 : Int) + 1) = (g0 : Int) + 1 := IntWalk.i64_in _ (by omega)
  clear h1 h2 h3 hM hkn hn hz hg he hl
  have hB : Below W.heap.size W (W.alloc (.cells #[.int .i64 r.kind, .int .u64 (r.seq : Int), .int .u64 (r.data : Int)] 24)) := ((Below.refl _ _).alloc (Nat.le_refl _) _)
  have xr := (Box.new 24 W [.int .i64 r.kind, .int .u64 (r.seq : Int), .int .u64 (r.data : Int)])
  go_enter Try.func10, Try.ntmps10
  go_wp2_with fail
  refine (TL.out _).mono ?_
  rintro e w' ⟨rfl, hw⟩
  rw [hw]
  clear hw w'
  go_wp2_with fail
  refine (TK.out _).mono ?_
  rintro e V1 ⟨rfl, hk⟩
  replace hB := below_seq hB hk
  replace xr := xr.seq hk
  clear hk
  have xr0 := xr.cell 0 rfl
  have xrz0 := xr.frozen 0
  have xr1 := xr.cell 1 rfl
  have xrz1 := xr.frozen 1
  have xr2 := xr.cell 2 rfl
  have xrz2 := xr.frozen 2
  go_wp2_with fail
  refine (shown09 _).mono ?_
  rintro e V2 ⟨rfl, hk⟩
  clear xr0 xrz0 xr1 xrz1 xr2 xrz2
  replace hB := below_seq hB hk
  replace xr := xr.seq hk
  clear hk
  have xr0 := xr.cell 0 rfl
  have xrz0 := xr.frozen 0
  have xr1 := xr.cell 1 rfl
  have xrz1 := xr.frozen 1
  have xr2 := xr.cell 2 rfl
  have xrz2 := xr.frozen 2
  go_wp2_with fail
  refine (TLa.out _).mono ?_
  rintro e V3 ⟨rfl, hk⟩
  clear xr0 xrz0 xr1 xrz1 xr2 xrz2
  replace hB := below_seq hB hk
  replace xr := xr.seq hk
  clear hk
  have xl := Box.new 24 V3 [.int .i64 x.kind, .int .u64 (x.seq : Int), .int .u64 (x.data : Int)]
  have ne_xl_xr : V3.heap.size ≠ W.heap.size := Nat.ne_of_gt xr.lt
  have le_xl : W.heap.size ≤ V3.heap.size := hB.size
  replace xr := xr.alloc (.cells #[.int .i64 x.kind, .int .u64 (x.seq : Int), .int .u64 (x.data : Int)] 24)
  replace hB := hB.alloc hB.size (.cells #[.int .i64 x.kind, .int .u64 (x.seq : Int), .int .u64 (x.data : Int)] 24)
  have xr0 := xr.cell 0 rfl
  have xrz0 := xr.frozen 0
  have xr1 := xr.cell 1 rfl
  have xrz1 := xr.frozen 1
  have xr2 := xr.cell 2 rfl
  have xrz2 := xr.frozen 2
  have xl0 := xl.cell 0 rfl
  have xlz0 := xl.frozen 0
  have xl1 := xl.cell 1 rfl
  have xlz1 := xl.frozen 1
  have xl2 := xl.cell 2 rfl
  have xlz2 := xl.frozen 2
  go_wp2_with fail
  generalize (V3.alloc (.cells #[.int .i64 x.kind, .int .u64 (x.seq : Int), .int .u64 (x.data : Int)] 24)) = V4 at *
  clear xr0 xrz0 xr1 xrz1 xr2 xrz2 xl0 xlz0 xl1 xlz1 xl2 xlz2
  replace hB := hB.drew
  replace xr := xr.drew
  replace xl := xl.drew
  refine wp_region_held_drew (S := fun w' => w'.cell? ⟨W.heap.size, 0, none⟩ = some (.int .i64 r.kind) ∧ w'.cell? ⟨W.heap.size, 1, none⟩ = some (.int .u64 (r.seq : Int)) ∧ w'.cell? ⟨W.heap.size, 2, none⟩ = some (.int .u64 (r.data : Int))) (by kernel_rfl) ?_ (fun hHeld => ?_)
  · exact ⟨xr.cell 0 rfl, xr.cell 1 rfl, xr.cell 2 rfl⟩
  generalize V4.drew = V5 at *
  refine wpAnyH_take (i := 0) (v := ?_) rfl (by kernel_rfl) (by kernel_rfl) (by kernel_rfl) (fun _ _ _ h => h) (Or.inl ⟨by rfl, ?_⟩) (by assumption) ?_
  rotate_left
  · intro w hSw; (try dsimp only at hSw); go_simp; try with_reducible rfl
  try simp only [Act.put, List.getElem_toArray, List.getElem_cons_zero, List.getElem_cons_succ, List.setIfInBounds_toArray, List.set_cons_zero, List.set_cons_succ]
  refine wpAnyH_take (i := 1) (v := ?_) rfl (by kernel_rfl) (by kernel_rfl) (by kernel_rfl) (fun _ _ _ h => h) (Or.inl ⟨by rfl, ?_⟩) (by assumption) ?_
  rotate_left
  · intro w hSw; (try dsimp only at hSw); go_simp; try with_reducible rfl
  try simp only [Act.put, List.getElem_toArray, List.getElem_cons_zero, List.getElem_cons_succ, List.setIfInBounds_toArray, List.set_cons_zero, List.set_cons_succ]
  refine wpAnyH_take (i := 2) (v := ?_) rfl (by kernel_rfl) (by kernel_rfl) (by kernel_rfl) (fun _ _ _ h => h) (Or.inl ⟨by rfl, ?_⟩) (by assumption) ?_
  rotate_left
  · intro w hSw; (try dsimp only at hSw); go_simp; try with_reducible rfl
  try simp only [Act.put, List.getElem_toArray, List.getElem_cons_zero, List.getElem_cons_succ, List.setIfInBounds_toArray, List.set_cons_zero, List.set_cons_succ]
  refine wpAnyH_take (i := 3) (v := ?_) rfl (by kernel_rfl) (by kernel_rfl) (by kernel_rfl) (fun _ _ _ h => h) (Or.inl ⟨by rfl, ?_⟩) (by assumption) ?_
  rotate_left
  · intro w hSw; (try dsimp only at hSw); go_simp; try with_reducible rfl
  try simp only [Act.put, List.getElem_toArray, List.getElem_cons_zero, List.getElem_cons_succ, List.setIfInBounds_toArray, List.set_cons_zero, List.set_cons_succ]
  refine wpAnyH_take (i := 4) (v := ?_) rfl (by kernel_rfl) (by kernel_rfl) (by kernel_rfl) (fun _ _ _ h => h) (Or.inl ⟨by rfl, ?_⟩) (by assumption) ?_
  rotate_left
  · intro w hSw; (try dsimp only at hSw); go_simp; try with_reducible rfl
  try simp only [Act.put, List.getElem_toArray, List.getElem_cons_zero, List.getElem_cons_succ, List.setIfInBounds_toArray, List.set_cons_zero, List.set_cons_succ]
  refine wpAnyH_take (i := 7) (v := ?_) rfl (by kernel_rfl) (by kernel_rfl) (by kernel_rfl) (fun _ _ _ h => h) (Or.inl ⟨by rfl, ?_⟩) (by assumption) ?_
  rotate_left
  · intro w hSw; (try dsimp only at hSw); go_simp; try with_reducible rfl
  try simp only [Act.put, List.getElem_toArray, List.getElem_cons_zero, List.getElem_cons_succ, List.setIfInBounds_toArray, List.set_cons_zero, List.set_cons_succ]
  refine wpAnyH_take (i := 8) (v := ?_) rfl (by kernel_rfl) (by kernel_rfl) (by kernel_rfl) (fun _ _ _ h => h) (Or.inl ⟨by rfl, ?_⟩) (by assumption) ?_
  rotate_left
  · intro w hSw; (try dsimp only at hSw); go_simp; try with_reducible rfl
  try simp only [Act.put, List.getElem_toArray, List.getElem_cons_zero, List.getElem_cons_succ, List.setIfInBounds_toArray, List.set_cons_zero, List.set_cons_succ]
  refine wpAnyH_take (i := 9) (v := ?_) rfl (by kernel_rfl) (by kernel_rfl) (by kernel_rfl) (fun _ _ _ h => h) (Or.inl ⟨by rfl, ?_⟩) (by assumption) ?_
  rotate_left
  · intro w hSw; (try dsimp only at hSw); go_simp; try with_reducible rfl
  try simp only [Act.put, List.getElem_toArray, List.getElem_cons_zero, List.getElem_cons_succ, List.setIfInBounds_toArray, List.set_cons_zero, List.set_cons_succ]
  refine wpAnyH_take (i := 10) (v := ?_) rfl (by kernel_rfl) (by kernel_rfl) (by kernel_rfl) (fun _ _ _ h => h) (Or.inl ⟨by rfl, ?_⟩) (by assumption) ?_
  rotate_left
  · intro w hSw; (try dsimp only at hSw); go_simp; try with_reducible rfl
  try simp only [Act.put, List.getElem_toArray, List.getElem_cons_zero, List.getElem_cons_succ, List.setIfInBounds_toArray, List.set_cons_zero, List.set_cons_succ]
  refine wpAnyH_take (i := 11) (v := ?_) rfl (by kernel_rfl) (by kernel_rfl) (by kernel_rfl) (fun _ _ _ h => h) (Or.inl ⟨by rfl, ?_⟩) (by assumption) ?_
  rotate_left
  · intro w hSw; (try dsimp only at hSw); go_simp; try with_reducible rfl
  try simp only [Act.put, List.getElem_toArray, List.getElem_cons_zero, List.getElem_cons_succ, List.setIfInBounds_toArray, List.set_cons_zero, List.set_cons_succ]
  refine wpAnyH_ready (rs := [5]) (by kernel_rfl) (by simp) ?_
  refine AllReadyH.cons rfl (fun K hK => ?_) AllReadyH.nil
  have xr0 := xr.cell 0 rfl
  have xrz0 := xr.frozen 0
  have xr1 := xr.cell 1 rfl
  have xrz1 := xr.frozen 1
  have xr2 := xr.cell 2 rfl
  have xrz2 := xr.frozen 2
  have xl0 := xl.cell 0 rfl
  have xlz0 := xl.frozen 0
  have xl1 := xl.cell 1 rfl
  have xlz1 := xl.frozen 1
  have xl2 := xl.cell 2 rfl
  have xlz2 := xl.frozen 2
  go_simp
  refine (TE.out _).mono ?_
  rintro e V6 ⟨rfl, hk⟩
  clear xr0 xrz0 xr1 xrz1 xr2 xrz2 xl0 xlz0 xl1 xlz1 xl2 xlz2
  replace hB := below_seq hB hk
  replace xr := xr.seq hk
  replace xl := xl.seq hk
  clear hk
  have xr0 := xr.cell 0 rfl
  have xrz0 := xr.frozen 0
  have xr1 := xr.cell 1 rfl
  have xrz1 := xr.frozen 1
  have xr2 := xr.cell 2 rfl
  have xrz2 := xr.frozen 2
  have xl0 := xl.cell 0 rfl
  have xlz0 := xl.frozen 0
  have xl1 := xl.cell 1 rfl
  have xlz1 := xl.frozen 1
  have xl2 := xl.cell 2 rfl
  have xlz2 := xl.frozen 2
  try go_wp2_with fail
  clear xr0 xrz0 xr1 xrz1 xr2 xrz2 xl0 xlz0 xl1 xlz1 xl2 xlz2
  clear hHeld
  refine hK.out _ _ ?_ (fun hHeld => ?_)
  · exact ⟨xr.cell 0 rfl, xr.cell 1 rfl, xr.cell 2 rfl⟩
  clear hK K
  try simp only [Act.put, List.getElem_toArray, List.getElem_cons_zero, List.getElem_cons_succ, List.setIfInBounds_toArray, List.set_cons_zero, List.set_cons_succ]
  refine wpAnyH_take (i := 6) (v := ?_) rfl (by kernel_rfl) (by kernel_rfl) (by kernel_rfl) (fun _ _ _ h => h) (Or.inl ⟨by rfl, ?_⟩) (by assumption) ?_
  rotate_left
  · intro w hSw; (try dsimp only at hSw); go_simp; try with_reducible rfl
  try simp only [Act.put, List.getElem_toArray, List.getElem_cons_zero, List.getElem_cons_succ, List.setIfInBounds_toArray, List.set_cons_zero, List.set_cons_succ]
  refine wpAnyH_take (i := 12) (v := ?_) rfl (by kernel_rfl) (by kernel_rfl) (by kernel_rfl) (fun _ _ _ h => h) (Or.inl ⟨by rfl, ?_⟩) (by assumption) ?_
  rotate_left
  · intro w hSw; (try dsimp only at hSw); go_simp; try with_reducible rfl
  try simp only [Act.put, List.getElem_toArray, List.getElem_cons_zero, List.getElem_cons_succ, List.setIfInBounds_toArray, List.set_cons_zero, List.set_cons_succ]
  refine wpAnyH_take (i := 13) (v := ?_) rfl (by kernel_rfl) (by kernel_rfl) (by kernel_rfl) (fun _ _ _ h => h) (Or.inl ⟨by rfl, ?_⟩) (by assumption) ?_
  rotate_left
  · intro w hSw; (try dsimp only at hSw); go_simp; try with_reducible rfl
  try simp only [Act.put, List.getElem_toArray, List.getElem_cons_zero, List.getElem_cons_succ, List.setIfInBounds_toArray, List.set_cons_zero, List.set_cons_succ]
  refine wpAnyH_done (by kernel_rfl) ?_ _
  clear hHeld
  have xr0 := xr.cell 0 rfl
  have xrz0 := xr.frozen 0
  have xr1 := xr.cell 1 rfl
  have xrz1 := xr.frozen 1
  have xr2 := xr.cell 2 rfl
  have xrz2 := xr.frozen 2
  have xl0 := xl.cell 0 rfl
  have xlz0 := xl.frozen 0
  have xl1 := xl.cell 1 rfl
  have xlz1 := xl.frozen 1
  have xl2 := xl.cell 2 rfl
  have xlz2 := xl.frozen 2
  go_wp2_with fail
  refine (TLu.out _).mono ?_
  rintro e V7 ⟨rfl, hk⟩
  clear xr0 xrz0 xr1 xrz1 xr2 xrz2 xl0 xlz0 xl1 xlz1 xl2 xlz2
  replace hB := below_seq hB hk
  replace xr := xr.seq hk
  replace xl := xl.seq hk
  clear hk
  have xu := Box.new 24 V7 [.int .i64 r.kind, .int .u64 (r.seq : Int), .int .u64 (r.data : Int)]
  have ne_xu_xr : V7.heap.size ≠ W.heap.size := Nat.ne_of_gt xr.lt
  have ne_xu_xl : V7.heap.size ≠ V3.heap.size := Nat.ne_of_gt xl.lt
  have le_xu : W.heap.size ≤ V7.heap.size := hB.size
  replace xr := xr.alloc (.cells #[.int .i64 r.kind, .int .u64 (r.seq : Int), .int .u64 (r.data : Int)] 24)
  replace xl := xl.alloc (.cells #[.int .i64 r.kind, .int .u64 (r.seq : Int), .int .u64 (r.data : Int)] 24)
  replace hB := hB.alloc hB.size (.cells #[.int .i64 r.kind, .int .u64 (r.seq : Int), .int .u64 (r.data : Int)] 24)
  have xr0 := xr.cell 0 rfl
  have xrz0 := xr.frozen 0
  have xr1 := xr.cell 1 rfl
  have xrz1 := xr.frozen 1
  have xr2 := xr.cell 2 rfl
  have xrz2 := xr.frozen 2
  have xl0 := xl.cell 0 rfl
  have xlz0 := xl.frozen 0
  have xl1 := xl.cell 1 rfl
  have xlz1 := xl.frozen 1
  have xl2 := xl.cell 2 rfl
  have xlz2 := xl.frozen 2
  have xu0 := xu.cell 0 rfl
  have xuz0 := xu.frozen 0
  have xu1 := xu.cell 1 rfl
  have xuz1 := xu.frozen 1
  have xu2 := xu.cell 2 rfl
  have xuz2 := xu.frozen 2
  go_wp2_with fail
  refine (TNu.out _).mono ?_
  rintro e V8 ⟨rfl, hk⟩
  clear xr0 xrz0 xr1 xrz1 xr2 xrz2 xl0 xlz0 xl1 xlz1 xl2 xlz2 xu0 xuz0 xu1 xuz1 xu2 xuz2
  replace hB := below_seq hB hk
  replace xr := xr.seq hk
  replace xl := xl.seq hk
  replace xu := xu.seq hk
  clear hk
  have xr0 := xr.cell 0 rfl
  have xrz0 := xr.frozen 0
  have xr1 := xr.cell 1 rfl
  have xrz1 := xr.frozen 1
  have xr2 := xr.cell 2 rfl
  have xrz2 := xr.frozen 2
  have xl0 := xl.cell 0 rfl
  have xlz0 := xl.frozen 0
  have xl1 := xl.cell 1 rfl
  have xlz1 := xl.frozen 1
  have xl2 := xl.cell 2 rfl
  have xlz2 := xl.frozen 2
  have xu0 := xu.cell 0 rfl
  have xuz0 := xu.frozen 0
  have xu1 := xu.cell 1 rfl
  have xuz1 := xu.frozen 1
  have xu2 := xu.cell 2 rfl
  have xuz2 := xu.frozen 2
  go_wp2_with fail
  refine (TGu.out _).mono ?_
  rintro e V9 ⟨rfl, hk⟩
  clear xr0 xrz0 xr1 xrz1 xr2 xrz2 xl0 xlz0 xl1 xlz1 xl2 xlz2 xu0 xuz0 xu1 xuz1 xu2 xuz2
  replace hB := below_seq hB hk
  replace xr := xr.seq hk
  replace xl := xl.seq hk
  replace xu := xu.seq hk
  clear hk
  have xr0 := xr.cell 0 rfl
  have xrz0 := xr.frozen 0
  have xr1 := xr.cell 1 rfl
  have xrz1 := xr.frozen 1
  have xr2 := xr.cell 2 rfl
  have xrz2 := xr.frozen 2
  have xl0 := xl.cell 0 rfl
  have xlz0 := xl.frozen 0
  have xl1 := xl.cell 1 rfl
  have xlz1 := xl.frozen 1
  have xl2 := xl.cell 2 rfl
  have xlz2 := xl.frozen 2
  have xu0 := xu.cell 0 rfl
  have xuz0 := xu.frozen 0
  have xu1 := xu.cell 1 rfl
  have xuz1 := xu.frozen 1
  have xu2 := xu.cell 2 rfl
  have xuz2 := xu.frozen 2
  go_wp2_with fail
  refine (TGs.out _).mono ?_
  rintro e V10 ⟨rfl, hk⟩
  clear xr0 xrz0 xr1 xrz1 xr2 xrz2 xl0 xlz0 xl1 xlz1 xl2 xlz2 xu0 xuz0 xu1 xuz1 xu2 xuz2
  replace hB := below_seq hB hk
  replace xr := xr.seq hk
  replace xl := xl.seq hk
  replace xu := xu.seq hk
  clear hk
  have xr0 := xr.cell 0 rfl
  have xrz0 := xr.frozen 0
  have xr1 := xr.cell 1 rfl
  have xrz1 := xr.frozen 1
  have xr2 := xr.cell 2 rfl
  have xrz2 := xr.frozen 2
  have xl0 := xl.cell 0 rfl
  have xlz0 := xl.frozen 0
  have xl1 := xl.cell 1 rfl
  have xlz1 := xl.frozen 1
  have xl2 := xl.cell 2 rfl
  have xlz2 := xl.frozen 2
  have xu0 := xu.cell 0 rfl
  have xuz0 := xu.frozen 0
  have xu1 := xu.cell 1 rfl
  have xuz1 := xu.frozen 1
  have xu2 := xu.cell 2 rfl
  have xuz2 := xu.frozen 2
  go_wp2
  go_ret
  exact ⟨rfl, hB⟩


set_option maxRecDepth 100000 in
set_option maxHeartbeats 16000000 in
theorem walk (s : ByteArray) (r : Rec) (W : World) (hs : s.size ≤ maxLen) (hr : r.ok) :
    Calls Try.prog 10 #[.string s, .agg #[.int .i64 r.kind, .int .u64 (r.seq : Int), .int .u64 (r.data : Int)]] W fun e W' => e = .returned (.bool true) ∧ Below W.heap.size W W' := by
  have TK := Lib.hid (fun (V : World) => own09Next s V hs)
  have TL := Lib.hid (fun (V : World) => (show Calls Try.prog 21 #[.int .i64 (s.size : Int)] V fun e W' => e = .returned (.int .i64 (slotsN s : Int)) ∧ W' = V from by have h := ref05Slots (s.size : Int) V; rwa [← slotsN_eq] at h))
  by_cases c0 : 400 < s.size
  · have b1 : (s.size : Int) > 400 := by omega
    generalize nextF s = kk at *
    generalize slotsN s = nn at *
    have hB : Below W.heap.size W (W.alloc (.cells #[.int .i64 r.kind, .int .u64 (r.seq : Int), .int .u64 (r.data : Int)] 24)) := ((Below.refl _ _).alloc (Nat.le_refl _) _)
    have xr := (Box.new 24 W [.int .i64 r.kind, .int .u64 (r.seq : Int), .int .u64 (r.data : Int)])
    go_enter Try.func10, Try.ntmps10
    go_wp2_with fail
    refine (TL.out _).mono ?_
    rintro e w' ⟨rfl, hw⟩
    rw [hw]
    clear hw w'
    go_wp2_with fail
    refine (TK.out _).mono ?_
    rintro e V1 ⟨rfl, hk⟩
    replace hB := below_seq hB hk
    replace xr := xr.seq hk
    clear hk
    have xr0 := xr.cell 0 rfl
    have xrz0 := xr.frozen 0
    have xr1 := xr.cell 1 rfl
    have xrz1 := xr.frozen 1
    have xr2 := xr.cell 2 rfl
    have xrz2 := xr.frozen 2
    go_wp2_with fail
    refine (shown09 _).mono ?_
    rintro e V2 ⟨rfl, hk⟩
    clear xr0 xrz0 xr1 xrz1 xr2 xrz2
    replace hB := below_seq hB hk
    replace xr := xr.seq hk
    clear hk
    have xr0 := xr.cell 0 rfl
    have xrz0 := xr.frozen 0
    have xr1 := xr.cell 1 rfl
    have xrz1 := xr.frozen 1
    have xr2 := xr.cell 2 rfl
    have xrz2 := xr.frozen 2
    go_wp2
    go_ret
    exact ⟨rfl, hB⟩
  · skip
    by_cases c1 : r.kind < 2
    · have b1 : ¬ (s.size : Int) > 400 := by omega
      have z1 : s.size ≤ maxLen := hs
      have z2 : s.size ≤ 400 := by omega
      generalize nextF s = kk at *
      generalize slotsN s = nn at *
      have hB : Below W.heap.size W (W.alloc (.cells #[.int .i64 r.kind, .int .u64 (r.seq : Int), .int .u64 (r.data : Int)] 24)) := ((Below.refl _ _).alloc (Nat.le_refl _) _)
      have xr := (Box.new 24 W [.int .i64 r.kind, .int .u64 (r.seq : Int), .int .u64 (r.data : Int)])
      go_enter Try.func10, Try.ntmps10
      go_wp2_with fail
      refine (TL.out _).mono ?_
      rintro e w' ⟨rfl, hw⟩
      rw [hw]
      clear hw w'
      go_wp2_with fail
      refine (TK.out _).mono ?_
      rintro e V1 ⟨rfl, hk⟩
      replace hB := below_seq hB hk
      replace xr := xr.seq hk
      clear hk
      have xr0 := xr.cell 0 rfl
      have xrz0 := xr.frozen 0
      have xr1 := xr.cell 1 rfl
      have xrz1 := xr.frozen 1
      have xr2 := xr.cell 2 rfl
      have xrz2 := xr.frozen 2
      go_wp2_with fail
      refine (shown09 _).mono ?_
      rintro e V2 ⟨rfl, hk⟩
      clear xr0 xrz0 xr1 xrz1 xr2 xrz2
      replace hB := below_seq hB hk
      replace xr := xr.seq hk
      clear hk
      have xr0 := xr.cell 0 rfl
      have xrz0 := xr.frozen 0
      have xr1 := xr.cell 1 rfl
      have xrz1 := xr.frozen 1
      have xr2 := xr.cell 2 rfl
      have xrz2 := xr.frozen 2
      go_wp2
      go_ret
      exact ⟨rfl, hB⟩
    · skip
      by_cases c2 : 3 < r.kind
      · have b1 : ¬ (s.size : Int) > 400 := by omega
        have z1 : s.size ≤ maxLen := hs
        have z2 : s.size ≤ 400 := by omega
        have d1 : ¬ r.kind < 2 := by omega
        have d2 : r.kind > 3 := by omega
        generalize nextF s = kk at *
        generalize slotsN s = nn at *
        have hB : Below W.heap.size W (W.alloc (.cells #[.int .i64 r.kind, .int .u64 (r.seq : Int), .int .u64 (r.data : Int)] 24)) := ((Below.refl _ _).alloc (Nat.le_refl _) _)
        have xr := (Box.new 24 W [.int .i64 r.kind, .int .u64 (r.seq : Int), .int .u64 (r.data : Int)])
        go_enter Try.func10, Try.ntmps10
        go_wp2_with fail
        refine (TL.out _).mono ?_
        rintro e w' ⟨rfl, hw⟩
        rw [hw]
        clear hw w'
        go_wp2_with fail
        refine (TK.out _).mono ?_
        rintro e V1 ⟨rfl, hk⟩
        replace hB := below_seq hB hk
        replace xr := xr.seq hk
        clear hk
        have xr0 := xr.cell 0 rfl
        have xrz0 := xr.frozen 0
        have xr1 := xr.cell 1 rfl
        have xrz1 := xr.frozen 1
        have xr2 := xr.cell 2 rfl
        have xrz2 := xr.frozen 2
        go_wp2_with fail
        refine (shown09 _).mono ?_
        rintro e V2 ⟨rfl, hk⟩
        clear xr0 xrz0 xr1 xrz1 xr2 xrz2
        replace hB := below_seq hB hk
        replace xr := xr.seq hk
        clear hk
        have xr0 := xr.cell 0 rfl
        have xrz0 := xr.frozen 0
        have xr1 := xr.cell 1 rfl
        have xrz1 := xr.frozen 1
        have xr2 := xr.cell 2 rfl
        have xrz2 := xr.frozen 2
        go_wp2
        go_ret
        exact ⟨rfl, hB⟩
      · skip
        by_cases c3 : nextF s = 0
        · have b1 : ¬ (s.size : Int) > 400 := by omega
          have z1 : s.size ≤ maxLen := hs
          have z2 : s.size ≤ 400 := by omega
          have d1 : ¬ r.kind < 2 := by omega
          have d3 : ¬ r.kind > 3 := by omega
          have d4 : (nextF s : Int) < 1 := by omega
          clear c3
          generalize nextF s = kk at *
          generalize slotsN s = nn at *
          have hB : Below W.heap.size W (W.alloc (.cells #[.int .i64 r.kind, .int .u64 (r.seq : Int), .int .u64 (r.data : Int)] 24)) := ((Below.refl _ _).alloc (Nat.le_refl _) _)
          have xr := (Box.new 24 W [.int .i64 r.kind, .int .u64 (r.seq : Int), .int .u64 (r.data : Int)])
          go_enter Try.func10, Try.ntmps10
          go_wp2_with fail
          refine (TL.out _).mono ?_
          rintro e w' ⟨rfl, hw⟩
          rw [hw]
          clear hw w'
          go_wp2_with fail
          refine (TK.out _).mono ?_
          rintro e V1 ⟨rfl, hk⟩
          replace hB := below_seq hB hk
          replace xr := xr.seq hk
          clear hk
          have xr0 := xr.cell 0 rfl
          have xrz0 := xr.frozen 0
          have xr1 := xr.cell 1 rfl
          have xrz1 := xr.frozen 1
          have xr2 := xr.cell 2 rfl
          have xrz2 := xr.frozen 2
          go_wp2_with fail
          refine (shown09 _).mono ?_
          rintro e V2 ⟨rfl, hk⟩
          clear xr0 xrz0 xr1 xrz1 xr2 xrz2
          replace hB := below_seq hB hk
          replace xr := xr.seq hk
          clear hk
          have xr0 := xr.cell 0 rfl
          have xrz0 := xr.frozen 0
          have xr1 := xr.cell 1 rfl
          have xrz1 := xr.frozen 1
          have xr2 := xr.cell 2 rfl
          have xrz2 := xr.frozen 2
          go_wp2
          go_ret
          exact ⟨rfl, hB⟩
        · skip
          have b1 : ¬ (s.size : Int) > 400 := by omega
          have z1 : s.size ≤ maxLen := hs
          have z2 : s.size ≤ 400 := by omega
          have d1 : ¬ r.kind < 2 := by omega
          have d3 : ¬ r.kind > 3 := by omega
          obtain ⟨k, hk1⟩ : ∃ k, nextF s = k + 1 := ⟨nextF s - 1, by omega⟩
          obtain ⟨q1, q2, q3⟩ := next_all hk1
          have hN := slotsN_le s
          have hNe := slotsN_eq s
          have hsz := slots_size (z := s.size) (by omega)
          have ze : (bs (encL r)).size = 24 := by rw [bs_size, encL_length]
          have hst : stOf (bl (bs (encL r))) ((k : Int) + 1) = 2 := by rw [bl_bs]; exact st_enc hr ⟨by omega, by omega⟩ (by omega)
          have hdR : decR (bl (bs (encL r))) = r := by rw [bl_bs]; exact decR_body hr ⟨by omega, by omega⟩
          have hp := scan_put (s := s) (t := bs (encL r)) hk1 ze (by rw [hst]; decide)
          dsimp only at hp
          obtain ⟨p1, _, _, p4, p5, p6⟩ := hp
          rw [hst, hdR] at p6
          rw [hst, if_pos rfl] at p5
          have zu : (s.extract 0 (24 * (k + 1)) ++ bs (encL r) ++ s.extract (24 * (k + 1) + 24) s.size).size ≤ maxLen := by unfold maxLen; simp; omega
          have TE := Lib.hid (fun (V : World) => own07Encode r V hr)
          have TLa := Lib.hid (fun (V : World) => own09Last s V hs)
          have TGs := Lib.hid (fun (V : World) => own09Good s V hs)
          have TGu := Lib.hid (fun (V : World) => (show Calls Try.prog 28 #[.string (s.extract 0 (24 * (k + 1)) ++ bs (encL r) ++ s.extract (24 * (k + 1) + 24) s.size)] V fun e W' => e = .returned (.int .i64 ((goodN s + 1 : Nat) : Int)) ∧ Below V.heap.size V W' from by have h := own09Good _ V zu; rwa [p5] at h))
          rw [hk1] at TK
          by_cases hel : lastE s = 0 ∧ r.seq < (lastR s).seq
          · obtain ⟨e1, e2⟩ := hel
            rw [e1] at TLa
            have n2 : (((lastR s).seq : Nat) : Int) > (r.seq : Int) := by omega
            have n3 : ¬ ((k + 1 : Nat) : Int) < 1 := by omega
            have n4 : ¬ ((k + 1 : Nat) : Int) > (slotsN s : Int) := by omega
            clear e1 e2 p1 p4 p5 p6 zu hst hdR q1 q2 q3 hNe hsz ze hN hk1 TE TGs TGu
            generalize lastR s = x at *
            generalize slotsN s = n at *
            have hB : Below W.heap.size W (W.alloc (.cells #[.int .i64 r.kind, .int .u64 (r.seq : Int), .int .u64 (r.data : Int)] 24)) := ((Below.refl _ _).alloc (Nat.le_refl _) _)
            have xr := (Box.new 24 W [.int .i64 r.kind, .int .u64 (r.seq : Int), .int .u64 (r.data : Int)])
            go_enter Try.func10, Try.ntmps10
            go_wp2_with fail
            refine (TL.out _).mono ?_
            rintro e w' ⟨rfl, hw⟩
            rw [hw]
            clear hw w'
            go_wp2_with fail
            refine (TK.out _).mono ?_
            rintro e V1 ⟨rfl, hk⟩
            replace hB := below_seq hB hk
            replace xr := xr.seq hk
            clear hk
            have xr0 := xr.cell 0 rfl
            have xrz0 := xr.frozen 0
            have xr1 := xr.cell 1 rfl
            have xrz1 := xr.frozen 1
            have xr2 := xr.cell 2 rfl
            have xrz2 := xr.frozen 2
            go_wp2_with fail
            refine (shown09 _).mono ?_
            rintro e V2 ⟨rfl, hk⟩
            clear xr0 xrz0 xr1 xrz1 xr2 xrz2
            replace hB := below_seq hB hk
            replace xr := xr.seq hk
            clear hk
            have xr0 := xr.cell 0 rfl
            have xrz0 := xr.frozen 0
            have xr1 := xr.cell 1 rfl
            have xrz1 := xr.frozen 1
            have xr2 := xr.cell 2 rfl
            have xrz2 := xr.frozen 2
            go_wp2_with fail
            refine (TLa.out _).mono ?_
            rintro e V3 ⟨rfl, hk⟩
            clear xr0 xrz0 xr1 xrz1 xr2 xrz2
            replace hB := below_seq hB hk
            replace xr := xr.seq hk
            clear hk
            have xl := Box.new 24 V3 [.int .i64 x.kind, .int .u64 (x.seq : Int), .int .u64 (x.data : Int)]
            have ne_xl_xr : V3.heap.size ≠ W.heap.size := Nat.ne_of_gt xr.lt
            have le_xl : W.heap.size ≤ V3.heap.size := hB.size
            replace xr := xr.alloc (.cells #[.int .i64 x.kind, .int .u64 (x.seq : Int), .int .u64 (x.data : Int)] 24)
            replace hB := hB.alloc hB.size (.cells #[.int .i64 x.kind, .int .u64 (x.seq : Int), .int .u64 (x.data : Int)] 24)
            have xr0 := xr.cell 0 rfl
            have xrz0 := xr.frozen 0
            have xr1 := xr.cell 1 rfl
            have xrz1 := xr.frozen 1
            have xr2 := xr.cell 2 rfl
            have xrz2 := xr.frozen 2
            have xl0 := xl.cell 0 rfl
            have xlz0 := xl.frozen 0
            have xl1 := xl.cell 1 rfl
            have xlz1 := xl.frozen 1
            have xl2 := xl.cell 2 rfl
            have xlz2 := xl.frozen 2
            go_wp2
            go_ret
            exact ⟨rfl, hB⟩
          · have hc : ∀ b, lastG s (slotsN s) = some b → b.seq ≤ r.seq := fun b hb => by
              rcases Nat.lt_or_ge r.seq b.seq with h | h
              · exact absurd ⟨by unfold lastE; rw [hb]; rfl, by unfold lastR; rw [hb]; exact h⟩ hel
              · exact h
            rw [if_pos ⟨rfl, hc⟩] at p6
            have TLu := Lib.hid (fun (V : World) => (show Calls Try.prog 25 #[.string (s.extract 0 (24 * (k + 1)) ++ bs (encL r) ++ s.extract (24 * (k + 1) + 24) s.size)] V fun e W' => e = .returned (.tuple #[.agg #[.int .i64 r.kind, .int .u64 (r.seq : Int), .int .u64 (r.data : Int)], .int .i64 0]) ∧ Below V.heap.size V W' from by
              have h := own09Last _ V zu
              rwa [show lastR (s.extract 0 (24 * (k + 1)) ++ bs (encL r) ++ s.extract (24 * (k + 1) + 24) s.size) = r from by unfold lastR; rw [p6]; rfl, show lastE (s.extract 0 (24 * (k + 1)) ++ bs (encL r) ++ s.extract (24 * (k + 1) + 24) s.size) = 0 from by unfold lastE; rw [p6]; rfl] at h))
            have TNu := fun (V : World) => own09Next (s.extract 0 (24 * (k + 1)) ++ bs (encL r) ++ s.extract (24 * (k + 1) + 24) s.size) V zu
            rw [p4] at TNu
            have hg := goodG_le s (slotsN s)
            have hsn : s.size = 24 * slotsN s + 24 := by omega
            by_cases hl : k + 1 = slotsN s
            · rw [if_pos hl] at TNu
              by_cases he : lastE s = 0
              · rw [he] at TLa
                exact way11 s r (lastR s) 0 k (slotsN s) (goodN s) (bs (encL r)) W (by omega) (by omega) (by omega) ze (by omega) hN hsn (by unfold goodN; omega) hl (Nat.le_of_not_lt fun h => hel ⟨he, h⟩) TL.out TK.out TE.out TLa.out TGs.out TGu.out TLu.out TNu
              · exact way10 s r (lastR s) (lastE s) k (slotsN s) (goodN s) (bs (encL r)) W (by omega) (by omega) (by omega) ze (by omega) hN hsn (by unfold goodN; omega) hl he TL.out TK.out TE.out TLa.out TGs.out TGu.out TLu.out TNu
            · rw [if_neg hl] at TNu
              by_cases he : lastE s = 0
              · rw [he] at TLa
                exact way01 s r (lastR s) 0 k (slotsN s) (goodN s) (bs (encL r)) W (by omega) (by omega) (by omega) ze (by omega) hN hsn (by unfold goodN; omega) hl (Nat.le_of_not_lt fun h => hel ⟨he, h⟩) TL.out TK.out TE.out TLa.out TGs.out TGu.out TLu.out TNu
              · exact way00 s r (lastR s) (lastE s) k (slotsN s) (goodN s) (bs (encL r)) W (by omega) (by omega) (by omega) ze (by omega) hN hsn (by unfold goodN; omega) hl he TL.out TK.out TE.out TLa.out TGs.out TGu.out TLu.out TNu

theorem own : ownKnob Try.prog.godebug = none := by kernel_rfl

set_option maxRecDepth 100000 in
theorem lifted (os : Os) (started : os.Started) (H : Type) (enc : TypeId × Value → H) :
    ReturnsInHanded {} Try.checked os 10 .any (Rows.scanWritesSpec.pre6 enc Try.prog Try.f10 Rows.scanWritesRow.domain false) (Rows.scanWritesSpec.post enc Try.prog Try.f10 false true false false) := by
  refine returnsInHanded_of_change (C := Try.checked) own started (by kernel_rfl) Try.func10
    (ChangeSpec.witness6 (enc := enc) (C := Try.checked) false ⟨#[], #[.string ⟨#[]⟩, .agg #[.int .i64 0, .int .u64 0, .int .u64 0]], []⟩ 8 (by kernel_rfl) (by kernel_rfl) (by kernel_rfl) (by kernel_rfl)) ?_
  intro W base args ds gs before hval hW _ _
  have hW' := hW
  obtain ⟨p, q, hA0, hV, rfl, hfz, hnd⟩ := hW
  have hA : DataW.TrodAll enc Try.prog W 0 (fun _ => true) true Try.f10.params.toList args.toList ds p := hA0
  rw [Try.params10] at hA hval
  obtain ⟨v0, vs0, d0, ds0, p0, q0, hargs, rfl, rfl, h0, r0⟩ := trodAll_cons hA
  obtain ⟨v1, vs1, d1, ds1, p1, q1, rfl, rfl, rfl, h1, r1⟩ := trodAll_cons r0
  obtain ⟨rfl, rfl, rfl⟩ := trodAll_nil r1
  obtain rfl : args = #[v0, v1] := by cases args; simp_all
  obtain ⟨rfl, rfl⟩ := trodVars_none hV
  obtain ⟨s0, rfl, rfl, rfl, hs0⟩ := open_string Try.underlying9 (hval 0 9 v0 rfl rfl) h0
  have k1 := h1
  obtain ⟨s1, rfl, hs1⟩ := open_rec (hval 1 24 v1 rfl rfl) h1
  clear hA0
  simp only [List.append_nil] at hW'
  refine (walk s0 s1 W hs0 hs1).mono fun e W' ⟨he, hB⟩ => ?_
  subst he
  exact ⟨_, rfl, ⟨_, _, _, [], _, [], hW', trodAll_cons_mk (shut_bool Try.underlying4 _) trodAll_mk0, (trodAll_cons_mk (shut_string Try.underlying9 hs0) (trodAll_cons_mk (Below.trod Try.laidOut (by kernel_rfl) (of_decide_eq_true (by kernel_rfl)) k1 hB (fun x hx => by simpa using hW'.lt x (by simp [hx]))) trodAll_mk0)), rfl, hB.frame _, fun h => by cases h⟩⟩

theorem holds : Rows.ScanWritesSaid :=
  OpenClaim.holds_of_wide 10 Try.f10 rfl rfl rfl rfl rfl rfl rfl ⟨rfl, rfl, rfl, rfl, rfl⟩ rfl rfl rfl rfl rfl (by kernel_rfl) Try.func10 (by kernel_rfl)
    (of_decide_eq_true (by kernel_rfl)) (by unfold Func.isWrapper; first | (rw [if_pos (by decide +kernel)]; kernel_rfl) | (rw [if_neg (by decide +kernel)]; exact ⟨rfl, rfl⟩))
    (fun os started H enc _ => lifted os started H enc)
end Go.Proofs.Ytoemjfjmpmngead.ScanWrites
